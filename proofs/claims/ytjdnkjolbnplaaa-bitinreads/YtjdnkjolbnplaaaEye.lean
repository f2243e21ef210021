/- Contracts: ref.Bits and ref.Look: bytes as bits, of each the lowest first. Conditions: the slice reads as bytes, and they are few. -/
import Derived.Test.YtjdnkjolbnplaaaStp
namespace Go.Proofs.Ytjdnkjolbnplaaa.Eye
open Go.ChangeShapes Go.WideShapes Go.ChangeAt Go.RowKit Go.Proofs.Ytjdnkjolbnplaaa.Base Go.Proofs.Ytjdnkjolbnplaaa.Mem Go.Proofs.Ytjdnkjolbnplaaa.Rd Go.Proofs.Ytjdnkjolbnplaaa.New Go.Proofs.Ytjdnkjolbnplaaa.Ans Go.Proofs.Ytjdnkjolbnplaaa.Stp

/-- Bit j of the bytes. -/
def bt (c : Nat → Nat) (j : Nat) : Nat := c (j / 8) / 2 ^ (j % 8) % 2
theorem bt_le (c : Nat → Nat) (j : Nat) : bt c j ≤ 1 := by unfold bt; omega
theorem bt_at (c : Nat → Nat) (k m : Nat) (h : m < 8) : bt c (8 * k + m) = c k / 2 ^ m % 2 := by
  unfold bt
  rw [show (8 * k + m) / 8 = k from by omega, show (8 * k + m) % 8 = m from by omega]
theorem bt_val (c : Nat → Nat) (hc : ∀ k, c k ≤ 255) (len j : Nat) (h : j < 8 * len) : val c len j 1 = bt c j := by
  have := take_eq c hc (j / 8) (j % 8) 1 1 len (by omega) (by omega)
  rw [show 8 * (j / 8) + j % 8 = j from by omega] at this
  rw [← this]
  simp [num, bt]
theorem cells_succ (c : Nat → Nat) (n : Nat) : cells c (n + 1) = cells c n ++ [.int .u8 (c n)] := by
  simp [cells, List.range_succ]
theorem div_bd (x : Nat) (m : Nat) (h : x ≤ 255) : x / 2 ^ m ≤ 255 := Nat.le_trans (Nat.div_le_self _ _) h
theorem div_succ (x m : Nat) : x / 2 ^ m / 2 = x / 2 ^ (m + 1) := by rw [Nat.div_div_eq_div_mul, Nat.pow_succ]

set_option maxHeartbeats 400000 in
theorem bits15 (a : Option Addr) (len cap : Nat) (c : Nat → Nat) (hc : ∀ k, c k ≤ 255) (w : World) (h : Src w (.slice a len cap) len c) (hl : len ≤ 100000) :
    Calls Try.prog 15 #[.slice a len cap] w fun e w' => ∃ u, e = .returned u ∧ Got w' w.heap.size u (8 * len) (bt c) ∧ Below w.heap.size w w' := by
  have SRC := hide h
  clear h
  obtain ⟨i0, hi, hz0, hz1, hz2⟩ := info_parts Try.info5
  go_enter Try.func15, Try.ntmps15
  go_wp2
  go_loopw [3, 4] (fun s i wr => ∃ k : Nat, k ≤ len ∧ i = .int .i64 k ∧ wr.ownsRow w.heap.size 5 1 s (8 * k) (cells (bt c) (8 * k)) ∧ Below w.heap.size w wr) (fun _ i _ => len - (intOf i).toNat)
  case atStart => exact ⟨0, Nat.zero_le _, rfl, World.ownsRow_nil _ _ _ _, Below.refl _ _⟩
  case round =>
    obtain ⟨k, hk, rfl, own, bel⟩ := hrel
    by_cases hlt : k < len
    · have hlt' : (k : Int) < (len : Int) := by omega
      have hcell : ∃ b off, a = some ⟨b, off, none⟩ ∧ wr.cell? ⟨b, off + k, none⟩ = some (.int .u8 (c k)) := by
        rcases unhide SRC with ⟨_, h0⟩ | ⟨x, cap', e, hx⟩
        · omega
        · cases e
          obtain ⟨b, off, rfl, hb⟩ := src_at hx (by omega)
          exact ⟨b, off, rfl, (bel.cell (p := ⟨b, off + k, none⟩) (lt_of_cell (hb k hlt))).trans (hb k hlt)⟩
      obtain ⟨b, off, rfl, hcell⟩ := hcell
      have OWN := hide own
      have BEL := hide bel
      have CK := hide (hc k)
      clear own bel
      go_wp2
      go_loopw [3, 5, 6] (fun t q i ws => ∃ m : Nat, m ≤ 8 ∧ i = .int .i64 m ∧ q = .int .u8 ((c k / 2 ^ m : Nat) : Int) ∧ ws.ownsRow w.heap.size 5 1 t (8 * k + m) (cells (bt c) (8 * k + m)) ∧ Below w.heap.size w ws) (fun _ _ i _ => 8 - (intOf i).toNat)
      case atStart => exact ⟨0, by omega, rfl, by simp, unhide OWN, unhide BEL⟩
      case round =>
        obtain ⟨m, hm, rfl, rfl, own, bel⟩ := hrel
        clear OWN BEL
        by_cases hlt8 : m < 8
        · have hlt8' : (m : Int) < 8 := by omega
          have d0 := div_bd (c k) m (unhide CK)
          have D := hide (div_succ (c k) m)
          have B := hide (bt_at c k m hlt8)
          have C := hide (cells_succ (bt c) (8 * k + m))
          have HB := hide bel
          have hsz := bel.size
          clear bel hcell
          generalize c k / 2 ^ m = x at *
          have d1 : (x : Int) ≤ 255 := by omega
          go_wp2_with (at_builtin; refine wpList_append_own _ rfl _ _ 22 rfl w.heap.size 5 i0 (.int .u8 0) 1 1 Try.underlying22 hi hz0 hz1 hz2 rfl (by decide) _ _ _ rfl (own.alloc _) ⟨wr.heap.size, 0, none⟩ 1 1 [.int .u8 ((x : Int) % 2)] rfl rfl ?c1 ?c2 ?c3 ?c4 ?c5 ?_)
          case c1 =>
            intro j u hj
            match j, hj with
            | 0, hj => simp at hj; subst hj; simp [Addr.add]
          case c2 => intro u hu; simp at hu; subst hu; rfl
          case c3 => unfold maxLen; omega
          case c4 => omega
          case c5 => simp; omega
          · intro v' w1 own' grow _
            have e1 : (x : Int) % 2 = ((bt c (8 * k + m) : Nat) : Int) := by rw [unhide B]; omega
            rw [e1, ← unhide C] at own'
            have hb' : Below w.heap.size w w1 := ((unhide HB).alloc hsz _).grown grow (by simp; omega) (fun g hg => (own.lt g hg).1)
            have HO := hide own'
            have HB' := hide hb'
            clear own' hb' grow own HB
            go_wp2
            go_roundw
            case rel => exact ⟨m + 1, by omega, by go_num, by rw [← unhide D]; go_num, unhide HO, unhide HB'⟩
            case measure => simp [intOf]; omega
        · have e : m = 8 := by omega
          subst e
          have HO := hide own
          have HB := hide bel
          clear own bel hcell
          go_wp2
          go_roundw
          case rel => exact ⟨k + 1, by omega, by go_num, by rw [show 8 * (k + 1) = 8 * k + 8 from by omega]; exact unhide HO, unhide HB⟩
          case measure => simp [intOf]; omega
    · have e : k = len := by omega
      subst e
      go_wp2
      go_ret
      exact ⟨_, rfl, got_of own, bel⟩
end Go.Proofs.Ytjdnkjolbnplaaa.Eye
