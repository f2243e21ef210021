/-
  Contracts: the document's own reading of bits (ref.Bits, ref.Look, Eye.Num). Conditions: the slice reads as bytes, and they are few.
  Numbers alone: which symbol comes next by complete lengths; where a tree keeps its symbols. Conditions: as each says.
  Contracts: bits.Reverse32 and the program's turned. Conditions: the number has at most 32 bits, and so many are asked for.
  Contract: tree.words: each symbol's code as the bits that are put. Conditions: the slice reads as complete lengths, and they are few.
-/
import Derived.Test.YtgjpcjnhggcfdaaGreatDoorC05
import Derived.Test.YtgjpcjnhggcfdaaGreatDoorC03
import Derived.Test.YtgjpcjnhggcfdaaGreatDoorC04
namespace Go.Proofs.YtgjpcjnhggcfdaaGreatDoor.Eyes
open Go.ChangeShapes Go.WideShapes Go.ChangeAt Go.RowKit Go.Proofs.YtgjpcjnhggcfdaaGreatDoor.Core Go.Proofs.YtgjpcjnhggcfdaaGreatDoor.Le Go.Proofs.YtgjpcjnhggcfdaaGreatDoor.Bitin


/-- Bit j of the bytes. -/
def bt (c : Nat → Nat) (j : Nat) : Nat := c (j / 8) / 2 ^ (j % 8) % 2
theorem bt_le (c : Nat → Nat) (j : Nat) : bt c j ≤ 1 := by unfold bt; omega
theorem bt_at (c : Nat → Nat) (k m : Nat) (h : m < 8) : bt c (8 * k + m) = c k / 2 ^ m % 2 := by
  unfold bt
  rw [show (8 * k + m) / 8 = k from by omega, show (8 * k + m) % 8 = m from by omega]
theorem bt_val (c : Nat → Nat) (hc : ∀ k, c k ≤ 255) (len j : Nat) (h : j < 8 * len) : val c len j 1 = bt c j := by
  have := take_eq c hc (j / 8) (j % 8) 1 1 len (by omega) (by omega)
  rw [show 8 * (j / 8) + j % 8 = j from by omega] at this
  rw [← this]
  simp [num, bt]
theorem cells_succ (c : Nat → Nat) (n : Nat) : cells c (n + 1) = cells c n ++ [.int .u8 (c n)] := by
  simp [cells, List.range_succ]
theorem div_bd (x : Nat) (m : Nat) (h : x ≤ 255) : x / 2 ^ m ≤ 255 := Nat.le_trans (Nat.div_le_self _ _) h
theorem div_succ (x m : Nat) : x / 2 ^ m / 2 = x / 2 ^ (m + 1) := by rw [Nat.div_div_eq_div_mul, Nat.pow_succ]

set_option maxHeartbeats 400000 in
theorem bits15 (a : Option Addr) (len cap : Nat) (c : Nat → Nat) (hc : ∀ k, c k ≤ 255) (w : World) (h : Src w (.slice a len cap) len c) (hl : len ≤ 100000) :
    Calls Tryz.prog 27 #[.slice a len cap] w fun e w' => ∃ u, e = .returned u ∧ Got w' w.heap.size u (8 * len) (bt c) ∧ Below w.heap.size w w' := by
  have SRC := hide h
  clear h
  obtain ⟨i0, hi, hz0, hz1, hz2⟩ := info_parts Tryz.info5
  go_enter Tryz.func27, Tryz.ntmps27
  go_wp2
  go_loopw [3, 4] (fun s i wr => ∃ k : Nat, k ≤ len ∧ i = .int .i64 k ∧ wr.ownsRow w.heap.size 5 1 s (8 * k) (cells (bt c) (8 * k)) ∧ Below w.heap.size w wr) (fun _ i _ => len - (intOf i).toNat)
  case atStart => exact ⟨0, Nat.zero_le _, rfl, World.ownsRow_nil _ _ _ _, Below.refl _ _⟩
  case round =>
    obtain ⟨k, hk, rfl, own, bel⟩ := hrel
    by_cases hlt : k < len
    · have hlt' : (k : Int) < (len : Int) := by omega
      have hcell : ∃ b off, a = some ⟨b, off, none⟩ ∧ wr.cell? ⟨b, off + k, none⟩ = some (.int .u8 (c k)) := by
        rcases unhide SRC with ⟨_, h0⟩ | ⟨x, cap', e, hx⟩
        · omega
        · cases e
          obtain ⟨b, off, rfl, hb⟩ := src_at hx (by omega)
          exact ⟨b, off, rfl, (bel.cell (p := ⟨b, off + k, none⟩) (lt_of_cell (hb k hlt))).trans (hb k hlt)⟩
      obtain ⟨b, off, rfl, hcell⟩ := hcell
      have OWN := hide own
      have BEL := hide bel
      have CK := hide (hc k)
      clear own bel
      go_wp2
      go_loopw [3, 5, 6] (fun t q i ws => ∃ m : Nat, m ≤ 8 ∧ i = .int .i64 m ∧ q = .int .u8 ((c k / 2 ^ m : Nat) : Int) ∧ ws.ownsRow w.heap.size 5 1 t (8 * k + m) (cells (bt c) (8 * k + m)) ∧ Below w.heap.size w ws) (fun _ _ i _ => 8 - (intOf i).toNat)
      case atStart => exact ⟨0, by omega, rfl, by simp, unhide OWN, unhide BEL⟩
      case round =>
        obtain ⟨m, hm, rfl, rfl, own, bel⟩ := hrel
        clear OWN BEL
        by_cases hlt8 : m < 8
        · have hlt8' : (m : Int) < 8 := by omega
          have d0 := div_bd (c k) m (unhide CK)
          have D := hide (div_succ (c k) m)
          have B := hide (bt_at c k m hlt8)
          have C := hide (cells_succ (bt c) (8 * k + m))
          have HB := hide bel
          have hsz := bel.size
          clear bel hcell
          generalize c k / 2 ^ m = x at *
          have d1 : (x : Int) ≤ 255 := by omega
          go_wp2_with (at_builtin; refine wpList_append_own _ rfl _ _ 47 rfl w.heap.size 5 i0 (.int .u8 0) 1 1 Tryz.underlying47 hi hz0 hz1 hz2 rfl (by decide) _ _ _ rfl (own.alloc _) ⟨wr.heap.size, 0, none⟩ 1 1 [.int .u8 ((x : Int) % 2)] rfl rfl ?c1 ?c2 ?c3 ?c4 ?c5 ?_)
          case c1 =>
            intro j u hj
            match j, hj with
            | 0, hj => simp at hj; subst hj; simp [Addr.add]
          case c2 => intro u hu; simp at hu; subst hu; rfl
          case c3 => unfold maxLen; omega
          case c4 => omega
          case c5 => simp; omega
          · intro v' w1 own' grow _
            have e1 : (x : Int) % 2 = ((bt c (8 * k + m) : Nat) : Int) := by rw [unhide B]; omega
            rw [e1, ← unhide C] at own'
            have hb' : Below w.heap.size w w1 := ((unhide HB).alloc hsz _).grown grow (by simp; omega) (fun g hg => (own.lt g hg).1)
            have HO := hide own'
            have HB' := hide hb'
            clear own' hb' grow own HB
            go_wp2
            go_roundw
            case rel => exact ⟨m + 1, by omega, by go_num, by rw [← unhide D]; go_num, unhide HO, unhide HB'⟩
            case measure => simp [intOf]; omega
        · have e : m = 8 := by omega
          subst e
          have HO := hide own
          have HB := hide bel
          clear own bel hcell
          go_wp2
          go_roundw
          case rel => exact ⟨k + 1, by omega, by go_num, by rw [show 8 * (k + 1) = 8 * k + 8 from by omega]; exact unhide HO, unhide HB⟩
          case measure => simp [intOf]; omega
    · have e : k = len := by omega
      subst e
      go_wp2
      go_ret
      exact ⟨_, rfl, got_of own, bel⟩

/-- An eye at block e, i bits gone through. -/
def Sees (w : World) (lo hi e : Nat) (c : Nat → Nat) (len i : Nat) (short : Bool) : Prop :=
  ∃ a cap, Box w e 80 #[.slice a (8 * len : Nat) cap, .int .i64 i, .bool short] ∧ lo ≤ e ∧ e < hi ∧ hi ≤ w.heap.size ∧ i ≤ 8 * len ∧
    (len = 0 ∨ ∃ b, a = some ⟨b, 0, none⟩ ∧ lo ≤ b ∧ b < hi ∧ b ≠ e ∧ ∀ k, k < 8 * len → w.cell? ⟨b, k, none⟩ = some (.int .u8 (bt c k)))
theorem Sees.keep {S : Nat → Prop} {w w' : World} {lo hi e len i : Nat} {sh : Bool} {c : Nat → Nat} (h : Sees w lo hi e c len i sh) (u : Upd S w w') (hs : ∀ k, lo ≤ k → k < hi → ¬ S k) : Sees w' lo hi e c len i sh := by
  obtain ⟨a, cap, h0, h1, h2, h3, h4, h5⟩ := h
  refine ⟨a, cap, h0.keep u (hs e h1 h2), h1, h2, Nat.le_trans h3 u.size, h4, ?_⟩
  rcases h5 with h5 | ⟨b, e, b1, b2, b3, b4⟩
  · exact .inl h5
  · exact .inr ⟨b, e, b1, b2, b3, fun k hk => (u.cell (p := ⟨b, k, none⟩) (Nat.lt_of_lt_of_le b2 h3) (hs b b1 b2)).trans (b4 k hk)⟩
set_option maxHeartbeats 400000 in
theorem look9 (a : Option Addr) (len cap : Nat) (c : Nat → Nat) (hc : ∀ k, c k ≤ 255) (w : World) (h : Src w (.slice a len cap) len c) (hl : len ≤ 100000) :
    Calls Tryz.prog 12 #[.slice a len cap] w fun e w' => ∃ g, e = .returned (.pointer (some ⟨g, 0, none⟩)) ∧ Sees w' w.heap.size w'.heap.size g c len 0 false ∧ Below w.heap.size w w' := by
  have C := hide (bits15 a len cap c hc w h hl)
  clear h
  go_enter Tryz.func12, Tryz.ntmps12
  go_wp2_with fail
  refine (unhide C).mono ?_
  rintro e w1 ⟨u, rfl, ⟨a, cap, rfl, g1⟩, bel1⟩
  have G1 := hide g1
  have B1 := hide bel1
  clear g1 bel1 C
  go_wp2
  go_ret
  have hs : w.heap.size ≤ w1.heap.size := (unhide B1).size
  refine ⟨w1.heap.size, rfl, ⟨a, cap, Box.made _ _ _, hs, by simp, Nat.le_refl _, Nat.zero_le _, ?_⟩, (unhide B1).alloc hs _⟩
  rcases unhide G1 with h | ⟨b, rfl, h1, h2, h3⟩
  · exact .inl (by omega)
  · exact .inr ⟨b, rfl, h1, by simp; omega, by omega, fun k hk => by rw [World.cell?_alloc_past _ _ _ (by exact h2)]; exact h3 k hk⟩
set_option maxHeartbeats 400000 in
theorem num_short (e : Nat) (x : Value) (y : Value) (n : Nat) (w : World) (h : Box w e 80 #[x, y, .bool true]) (n0 : 1 ≤ n) (n1 : n ≤ 32) :
    Calls Tryz.prog 51 #[.pointer (some ⟨e, 0, none⟩), .int .i64 n] w fun r w' => r = .returned (.int .i64 0) ∧ Box w' e 80 #[x, y, .bool true] ∧ Upd (fun k => k = e) w w' := by
  have f2 := h.free 2
  have h2 := h.cell 2
  simp at h2
  have H := hide h
  have n0' : 0 < n := by omega
  clear h
  go_enter Tryz.func51, Tryz.ntmps51
  go_wp2
  go_quiet (fail)
  go_wp2
  go_ret
  exact ⟨rfl, ((unhide H).drewN _).set 2 _, ((Upd.refl (fun k => k = e) w).drewN _).setCell (p := ⟨e, 2, none⟩) rfl _⟩
set_option maxHeartbeats 400000 in
theorem num_end (e : Nat) (a : Option Addr) (L cap i n : Nat) (w : World) (h : Box w e 80 #[.slice a L cap, .int .i64 i, .bool false]) (_hL : L ≤ 1000000) (hi : i ≤ L) (n0 : 1 ≤ n) (n1 : n ≤ 32) (hn : L < i + n) :
    Calls Tryz.prog 51 #[.pointer (some ⟨e, 0, none⟩), .int .i64 n] w fun r w' => r = .returned (.int .i64 0) ∧ Box w' e 80 #[.slice a L cap, .int .i64 i, .bool true] ∧ Upd (fun k => k = e) w w' := by
  have f2 := h.free 2
  have h0 := h.cell 0
  have h1 := h.cell 1
  have h2 := h.cell 2
  simp at h0 h1 h2
  have H := hide h
  have n0' : 0 < n := by omega
  have hd : (L : Int) - (i : Int) < (n : Int) := by omega
  clear h
  go_enter Tryz.func51, Tryz.ntmps51
  go_wp2
  go_quiet (fail)
  go_wp2
  go_ret
  exact ⟨rfl, ((unhide H).drewN _).set 2 _, ((Upd.refl (fun k => k = e) w).drewN _).setCell (p := ⟨e, 2, none⟩) rfl _⟩
set_option maxHeartbeats 400000 in
theorem num_zero (e : Nat) (w : World) :
    Calls Tryz.prog 51 #[.pointer (some ⟨e, 0, none⟩), .int .i64 0] w fun r w' => r = .returned (.int .i64 0) ∧ ∃ k, w' = w.drewN k := by
  go_enter Tryz.func51, Tryz.ntmps51
  go_wp2
  go_quiet (fail)
  go_wp2
  go_loop [5, 6] (fun v i => v = .int .i64 0 ∧ i = .int .i64 0) (fun _ _ => 0)
  case atStart => exact ⟨rfl, rfl⟩
  case round =>
    obtain ⟨rfl, rfl⟩ := hrel
    go_wp2
    go_ret
    exact ⟨rfl, _, rfl⟩
theorem step_bd (c : Nat → Nat) (len i j : Nat) (hj : j < 32) : (val c len i j : Int) ≤ 4294967295 ∧ (1 : Int) ≤ 2 ^ j ∧ (2 : Int) ^ j ≤ 2147483648 := by
  have h1 : (2 : Nat) ^ j ≤ 2 ^ 31 := Nat.pow_le_pow_right (by omega) (by omega)
  have h2 : 0 < (2 : Nat) ^ j := Nat.pow_pos (by omega)
  have h3 : ((2 ^ j : Nat) : Int) = (2 : Int) ^ j := by simp
  have h4 : (2 : Nat) ^ 31 = 2147483648 := by decide
  have h5 := val_lt c len i j
  omega
theorem mul1_bd (x : Nat) (p : Int) (hx : x ≤ 1) (h : 1 ≤ p) (h' : p ≤ 2147483648) : 0 ≤ (x : Int) * p ∧ (x : Int) * p ≤ 2147483648 := by
  match x, hx with
  | 0, _ => simp
  | 1, _ => simp; omega
set_option maxHeartbeats 400000 in
theorem num_on (e b len cap i n : Nat) (c : Nat → Nat) (hc : ∀ k, c k ≤ 255) (w : World) (h : Box w e 80 #[.slice (some ⟨b, 0, none⟩) (8 * len : Nat) cap, .int .i64 i, .bool false])
    (hb : ∀ k, k < 8 * len → w.cell? ⟨b, k, none⟩ = some (.int .u8 (bt c k))) (hbe : b ≠ e) (bw : b < w.heap.size) (hl : len ≤ 100000) (n0 : 1 ≤ n) (n1 : n ≤ 32) (hn : i + n ≤ 8 * len) :
    Calls Tryz.prog 51 #[.pointer (some ⟨e, 0, none⟩), .int .i64 n] w fun r w' => r = .returned (.int .i64 (val c len i n)) ∧ Box w' e 80 #[.slice (some ⟨b, 0, none⟩) (8 * len : Nat) cap, .int .i64 ((i + n : Nat) : Int), .bool false] ∧ Upd (fun k => k = e) w w' := by
  have h0 := h.cell 0
  have h1 := h.cell 1
  have h2 := h.cell 2
  simp at h0 h1 h2
  have H := hide h
  have n0' : 0 < n := by omega
  generalize hLL : 8 * len = L at *
  have hd : ¬ ((L : Int) - (i : Int) < (n : Int)) := by omega
  have hL : L ≤ 800000 := by omega
  have BT := hide (fun j (hj : j < L) => bt_val c hc len j (by omega))
  have LL := hide hLL
  clear h hLL
  go_enter Tryz.func51, Tryz.ntmps51
  go_wp2
  go_quiet (fail)
  go_wp2
  go_loopw [5, 6] (fun v k wr => ∃ j : Nat, j ≤ n ∧ k = .int .i64 j ∧ v = .int .i64 (val c len i j) ∧ Box wr e 80 #[.slice (some ⟨b, 0, none⟩) L cap, .int .i64 ((i + j : Nat) : Int), .bool false] ∧ Upd (fun k => k = e) w wr) (fun _ k _ => n - (intOf k).toNat)
  case atStart => exact ⟨0, by omega, rfl, by simp [val, Nat.mod_one], (unhide H).drewN _, (Upd.refl _ _).drewN _⟩
  case round =>
    obtain ⟨j, hj, rfl, rfl, bx, up⟩ := hrel
    clear h0 h1 h2
    have h0 := bx.cell 0
    have h1 := bx.cell 1
    have f1 := bx.free 1
    simp at h0 h1
    have BX := hide bx
    have UP := hide up
    have eij : (i : Int) + (j : Int) = ((i + j : Nat) : Int) := by omega
    rw [eij] at h1
    by_cases hlt : j < n
    · have hlt' : (j : Int) < (n : Int) := by omega
      have hcell : wr.cell? ⟨b, i + j, none⟩ = some (.int .u8 (bt c (i + j))) := (up.cell (p := ⟨b, i + j, none⟩) bw hbe).trans (hb (i + j) (by omega))
      have V := hide (val_add c len i j 1)
      rw [unhide BT (i + j) (by omega)] at V
      have tb := bt_le c (i + j)
      obtain ⟨s1, s2, s3⟩ := step_bd c len i j (by omega)
      obtain ⟨s4, s5⟩ := mul1_bd _ _ tb s2 s3
      clear bx up hb eij
      generalize bt c (i + j) = x at *
      generalize hp : i + j = p at *
      have hp1 : p < L := by omega
      have HP := hide hp
      clear hp
      go_wp2
      go_quiet (fail)
      go_wp2
      go_roundw
      case rel =>
        have e2 : ((i + (j + 1) : Nat) : Int) = (p : Int) + 1 := by have := unhide HP; omega
        refine ⟨j + 1, by omega, by go_num, by rw [unhide V]; simp, ?_, ?_⟩
        · rw [e2]; exact ((unhide BX).drewN _).set 1 _
        · exact ((unhide UP).drewN _).setCell (p := ⟨e, 1, none⟩) rfl _
      case measure => simp [intOf]; omega
    · have e1 : j = n := by omega
      subst e1
      go_wp2
      go_ret
      exact ⟨rfl, unhide BX, unhide UP⟩
/-- An eye in a state. -/
def Eyes (w : World) (lo hi e : Nat) (c : Nat → Nat) (len : Nat) (s : Option Nat) : Prop :=
  match s with | some i => Sees w lo hi e c len i false | none => ∃ i, Sees w lo hi e c len i true
theorem Eyes.keep {S : Nat → Prop} {w w' : World} {lo hi e len : Nat} {s : Option Nat} {c : Nat → Nat} (h : Eyes w lo hi e c len s) (u : Upd S w w') (hs : ∀ k, lo ≤ k → k < hi → ¬ S k) : Eyes w' lo hi e c len s := by
  cases s with
  | some i => exact Sees.keep h u hs
  | none =>
    obtain ⟨i, h⟩ := h
    exact ⟨i, Sees.keep h u hs⟩
theorem Sees.le {w : World} {lo hi g len i : Nat} {sh : Bool} {c : Nat → Nat} (h : Sees w lo hi g c len i sh) : i ≤ 8 * len := by
  obtain ⟨_, _, _, _, _, _, h, _⟩ := h; exact h
/-- A new box at the same place: the rest stands. -/
theorem Sees.turn {w w' : World} {lo hi e len i i' : Nat} {sh sh' : Bool} {c : Nat → Nat} (h : Sees w lo hi e c len i sh) (u : Upd (fun k => k = e) w w') (hi' : i' ≤ 8 * len)
    (hb : ∀ a cap, Box w e 80 #[.slice a (8 * len : Nat) cap, .int .i64 i, .bool sh] → Box w' e 80 #[.slice a (8 * len : Nat) cap, .int .i64 i', .bool sh']) : Sees w' lo hi e c len i' sh' := by
  obtain ⟨a, cap, h0, h1, h2, h3, h4, h5⟩ := h
  refine ⟨a, cap, hb a cap h0, h1, h2, Nat.le_trans h3 u.size, hi', ?_⟩
  rcases h5 with h5 | ⟨b, e, b1, b2, b3, b4⟩
  · exact .inl h5
  · exact .inr ⟨b, e, b1, b2, b3, fun k hk => (u.cell (p := ⟨b, k, none⟩) (Nat.lt_of_lt_of_le b2 h3) b3).trans (b4 k hk)⟩
theorem box_inj {w : World} {g : Nat} {T T' : TypeId} {vs vs' : Array Value} (h : Box w g T vs) (h' : Box w g T' vs') : vs = vs' := by
  unfold Box at h h'
  rw [h] at h'
  cases h'; rfl
theorem num_step (lo hi e len n : Nat) (s : Option Nat) (c : Nat → Nat) (hc : ∀ k, c k ≤ 255) (w : World) (h : Eyes w lo hi e c len s) (hl : len ≤ 100000) (n1 : n ≤ 32) :
    Calls Tryz.prog 51 #[.pointer (some ⟨e, 0, none⟩), .int .i64 n] w fun r w' => r = .returned (.int .i64 (resV c len s n)) ∧ Eyes w' lo hi e c len (stp len s n) ∧ Upd (fun k => k = e) w w' := by
  by_cases h0 : n = 0
  · subst h0
    refine (num_zero e w).mono ?_
    rintro r w1 ⟨rfl, k, rfl⟩
    refine ⟨?_, ?_, (Upd.refl _ _).drewN _⟩
    · cases s with
      | none => rfl
      | some i => simp [resV, val, Nat.mod_one]
    · exact Eyes.keep h ((Upd.refl (fun _ => False) w).drewN k) (fun _ _ _ h => h)
  · cases s with
    | none =>
      obtain ⟨i, h⟩ := h
      obtain ⟨a, cap, b0, _⟩ := id h
      refine (num_short e _ _ n w b0 (by omega) n1).mono ?_
      rintro r w1 ⟨rfl, o, u⟩
      refine ⟨by simp [resV], ?_, u⟩
      simp only [stp, h0]
      exact ⟨i, Sees.turn h u (Sees.le h) (fun a' cap' b' => by rw [box_inj b' b0]; exact o)⟩
    | some i =>
      have h' : Sees w lo hi e c len i false := h
      by_cases hn : i + n ≤ 8 * len
      · obtain ⟨a, cap, b0, l1, l2, l3, l4, l5⟩ := id h'
        rcases l5 with l5 | ⟨b, rfl, m1, m2, m3, m4⟩
        · omega
        refine (num_on e b len cap i n c hc w b0 m4 m3 (by omega) hl (by omega) n1 hn).mono ?_
        rintro r w1 ⟨rfl, o, u⟩
        refine ⟨by simp [resV, hn], ?_, u⟩
        simp only [stp, h0, hn]
        exact Sees.turn h' u hn (fun a' cap' b' => by
          have := box_inj b' b0
          simp at this
          rw [this.1, this.2]; exact o)
      · obtain ⟨a, cap, b0, _⟩ := id h'
        refine (num_end e a (8 * len) cap i n w b0 (by omega) (Sees.le h') (by omega) n1 (by omega)).mono ?_
        rintro r w1 ⟨rfl, o, u⟩
        refine ⟨by simp [resV, hn], ?_, u⟩
        simp only [stp, h0, hn]
        exact ⟨i, Sees.turn h' u (Sees.le h') (fun a' cap' b' => by
          have := box_inj b' b0
          simp at this
          rw [this.1, this.2]; exact o)⟩
end Go.Proofs.YtgjpcjnhggcfdaaGreatDoor.Eyes

namespace Go.Proofs.YtgjpcjnhggcfdaaGreatDoor.Dec
open Go.Proofs.YtgjpcjnhggcfdaaGreatDoor.Rvm Go.Proofs.YtgjpcjnhggcfdaaGreatDoor.Math Go.Proofs.YtgjpcjnhggcfdaaGreatDoor.Eyes Go.Proofs.YtgjpcjnhggcfdaaGreatDoor.Bitin

/-- The first m bits as a number, the first one highest. -/
def vm (b : Nat → Nat) : Nat → Nat
  | 0 => 0
  | m + 1 => 2 * vm b m + b m
theorem vm_lt {b : Nat → Nat} (hb : ∀ j, b j ≤ 1) : ∀ m, vm b m < 2 ^ m
  | 0 => by simp [vm]
  | m + 1 => by
    have := vm_lt hb m
    have := hb m
    rw [Nat.pow_succ]
    simp only [vm]
    omega
theorem vm_pre {b : Nat → Nat} (hb : ∀ j, b j ≤ 1) (m : Nat) : ∀ d, vm b (m + d) / 2 ^ d = vm b m
  | 0 => by simp
  | d + 1 => by
    have ih := vm_pre hb m d
    have := hb (m + d)
    rw [Nat.pow_succ, Nat.mul_comm, ← Nat.div_div_eq_div_mul, ← Nat.add_assoc]
    simp only [vm]
    rw [show (2 * vm b (m + d) + b (m + d)) / 2 = vm b (m + d) by omega, ih]
theorem vm_congr {b d : Nat → Nat} : ∀ m, (∀ j, j < m → b j = d j) → vm b m = vm d m
  | 0, _ => rfl
  | m + 1, h => by
    simp only [vm]
    rw [vm_congr m (fun j hj => h j (by omega)), h m (by omega)]
theorem vm_rv (c : Nat → Nat) (hc : ∀ k, c k ≤ 255) (len i : Nat) : ∀ m, i + m ≤ 8 * len → rv m (val c len i m) = vm (fun j => bt c (i + j)) m
  | 0, _ => by simp [rv, vm]
  | m + 1, h => by
    have ih := vm_rv c hc len i m (by omega)
    rw [val_add, bt_val c hc len (i + m) (by omega), rv_snoc m _ _ (val_lt _ _ _ _) (bt_le c _), ih]
    rfl

/-- The bits make a code of length L, and none that is shorter. -/
structure Stop (c : Nat → Int) (n : Nat) (b : Nat → Nat) (L : Nat) : Prop where
  pos : 1 ≤ L
  le : L ≤ 15
  lt : vm b L < fst c n L + cnt c L n
  ge : ∀ m, m < L → fst c n m + cnt c m n ≤ vm b m
theorem top15 {c : Nat → Int} {n : Nat} (hg : Rng c n) (hs : kr c n = 32768) : fst c n 15 + cnt c 15 n = 32768 := by
  have h := top_S c n 15 (by omega)
  rw [← kr_S c n hg, hs] at h
  simpa using h
theorem stop_ex {c : Nat → Int} {n : Nat} {b : Nat → Nat} (hg : Rng c n) (hs : kr c n = 32768) (hb : ∀ j, b j ≤ 1) : ∃ L, Stop c n b L := by
  have h15 : vm b 15 < fst c n 15 + cnt c 15 n := by
    rw [top15 hg hs]
    exact vm_lt hb 15
  obtain ⟨L, hL, h1, h2⟩ := least (fun m => vm b m < fst c n m + cnt c m n) 15 h15
  refine ⟨L, ?_, hL, h1, fun m hm => by have := h2 m hm; omega⟩
  rcases Nat.eq_zero_or_pos L with h | h
  · subst h
    rw [cnt_zero] at h1
    simp [vm, fst] at h1
  · exact h
theorem Stop.low {c : Nat → Int} {n : Nat} {b : Nat → Nat} {L : Nat} (h : Stop c n b L) (m : Nat) (hm : m ≤ L) : fst c n m ≤ vm b m := by
  cases m with
  | zero => exact Nat.zero_le _
  | succ m =>
    have h1 := h.ge m (by omega)
    simp only [fst, vm]
    omega
theorem cnt_hit {c : Nat → Int} {m d : Nat} : ∀ n, d < cnt c m n → ∃ k, k < n ∧ c k = (m : Int) ∧ cnt c m k = d
  | 0, h => by simp [cnt] at h
  | n + 1, h => by
    by_cases hd : d < cnt c m n
    · obtain ⟨k, h1, h2⟩ := cnt_hit n hd
      exact ⟨k, by omega, h2⟩
    · unfold cnt at h
      split at h
      · next hh => exact ⟨n, by omega, hh.1, by omega⟩
      · omega
theorem Stop.sym {c : Nat → Int} {n : Nat} {b : Nat → Nat} {L : Nat} (h : Stop c n b L) : ∃ k, k < n ∧ c k = (L : Int) ∧ cod c n k = vm b L := by
  have h1 := h.low L (Nat.le_refl _)
  have h2 := h.lt
  obtain ⟨k, hk, hc, hd⟩ := cnt_hit (c := c) (m := L) (d := vm b L - fst c n L) n (by omega)
  refine ⟨k, hk, hc, ?_⟩
  rw [cod_of L hc (by have := h.pos; omega), hd]
  omega
theorem stop_code {c : Nat → Int} {n : Nat} {b : Nat → Nat} {L s : Nat} (hg : Rng c n) (hb : ∀ j, b j ≤ 1) (hs : s < n) (hc : c s = (L : Int)) (h0 : L ≠ 0) (hv : vm b L = cod c n s) : Stop c n b L := by
  have g1 := hg s hs
  have e := cod_of (n := n) L hc h0
  refine ⟨by omega, by omega, ?_, fun m hm => ?_⟩
  · have := cnt_lt c L hs hc h0
    rw [hv, e]
    omega
  · have h1 := top_S c n m (by omega)
    have h2 := S_mono c n (show m + 1 ≤ L by omega)
    rw [← h1, ← fst_S c n L (by omega)] at h2
    have h4 : 2 ^ (15 - m) = 2 ^ (L - m) * 2 ^ (15 - L) := by rw [← Nat.pow_add]; congr 1; omega
    rw [h4, ← Nat.mul_assoc] at h2
    have h5 := Nat.le_of_mul_le_mul_right h2 (Nat.pow_pos (by omega))
    have h6 := vm_pre hb m (L - m)
    rw [show m + (L - m) = L by omega, hv] at h6
    rw [← h6, Nat.le_div_iff_mul_le (Nat.pow_pos (by omega))]
    omega
theorem Stop.only {c : Nat → Int} {n : Nat} {b : Nat → Nat} {L M : Nat} (h : Stop c n b L) (k : Stop c n b M) : L = M := by
  rcases Nat.lt_trichotomy L M with h1 | h1 | h1
  · have := k.ge L h1
    have := h.lt
    omega
  · exact h1
  · have := h.ge M h1
    have := k.lt
    omega
theorem fst_none {c : Nat → Int} {n le : Nat} (h : ∀ j, j < le → cnt c j n = 0) : ∀ m, m ≤ le → fst c n m = 0
  | 0, _ => rfl
  | m + 1, hm => by
    simp only [fst]
    rw [fst_none h m (by omega), h m (by omega)]
theorem Stop.least {c : Nat → Int} {n : Nat} {b : Nat → Nat} {L le : Nat} (h : Stop c n b L) (hl : ∀ j, j < le → cnt c j n = 0) : le ≤ L := by
  rcases Nat.lt_or_ge L le with h1 | h1
  · have h2 := h.lt
    rw [hl L h1, fst_none hl L (by omega)] at h2
    omega
  · exact h1

/-- What comes next: symbol k, by L bits. -/
def Nx (c : Nat → Int) (n : Nat) (b : Nat → Nat) (L k : Nat) : Prop :=
  (many c n = 1 ∧ L = 0 ∧ k = sel c n) ∨ (many c n ≠ 1 ∧ Stop c n b L ∧ k < n ∧ c k = (L : Int) ∧ cod c n k = vm b L)
theorem sel_one {c : Nat → Int} : ∀ n, (many c n = 0 → ∀ k, k < n → c k = 0) ∧ (many c n = 1 → sel c n < n ∧ c (sel c n) ≠ 0 ∧ ∀ k, k < n → k ≠ sel c n → c k = 0)
  | 0 => ⟨fun _ k hk => by omega, fun h => by simp [many] at h⟩
  | n + 1 => by
    obtain ⟨h0, h1⟩ := sel_one (c := c) n
    by_cases hc : c n = 0
    · simp only [many, sel, hc, if_true, Nat.add_zero]
      refine ⟨fun h k hk => ?_, fun h => ?_⟩
      · by_cases e : k = n
        · subst e; exact hc
        · exact h0 h k (by omega)
      · obtain ⟨a, b, d⟩ := h1 h
        refine ⟨by omega, b, fun k hk hne => ?_⟩
        by_cases e : k = n
        · subst e; exact hc
        · exact d k (by omega) hne
    · simp only [many, sel, hc, if_false]
      refine ⟨fun h => by omega, fun h => ⟨by omega, hc, fun k hk hne => h0 (by omega) k (by omega)⟩⟩
theorem next_ex {c : Nat → Int} {n : Nat} {b : Nat → Nat} (h : chk c n = 0) (hb : ∀ j, b j ≤ 1) : ∃ L k, Nx c n b L k := by
  obtain ⟨hg, h1, _⟩ := chk_zero h
  by_cases hm : many c n = 1
  · exact ⟨0, _, .inl ⟨hm, rfl, rfl⟩⟩
  · obtain ⟨L, hL⟩ := stop_ex hg (by omega) hb
    obtain ⟨k, hk⟩ := hL.sym
    exact ⟨L, k, .inr ⟨hm, hL, hk⟩⟩
theorem Nx.lt {c : Nat → Int} {n : Nat} {b : Nat → Nat} {L k : Nat} (h : Nx c n b L k) : k < n ∧ L ≤ 15 := by
  rcases h with ⟨h1, h2, h3⟩ | ⟨_, h2, h3, _⟩
  · have := (sel_one n).2 h1
    omega
  · exact ⟨h3, h2.le⟩
theorem next_code {c : Nat → Int} {n : Nat} {b : Nat → Nat} {L s : Nat} (h : chk c n = 0) (hb : ∀ j, b j ≤ 1) (hs : s < n) (hc : c s ≠ 0)
    (hL : L = if many c n = 1 then 0 else (c s).toNat) (hv : many c n ≠ 1 → vm b L = cod c n s) : Nx c n b L s := by
  obtain ⟨hg, h1, _⟩ := chk_zero h
  by_cases hm : many c n = 1
  · rw [if_pos hm] at hL
    refine .inl ⟨hm, hL, ?_⟩
    by_cases e : s = sel c n
    · exact e
    · exact absurd (((sel_one n).2 hm).2.2 s hs e) hc
  · rw [if_neg hm] at hL
    have g := hg s hs
    have hcs : c s = (L : Int) := by omega
    exact .inr ⟨hm, stop_code hg hb hs hcs (by omega) (hv hm), hs, hcs, (hv hm).symm⟩

/-- How many bits each symbol's code has, -1: it has none; and these bits, the first one lowest. -/
def qq (c : Nat → Int) (n k : Nat) : Int := if c k = 0 then -1 else if many c n = 1 then 0 else c k
def uu (c : Nat → Int) (n k : Nat) : Nat := if c k = 0 ∨ many c n = 1 then 0 else rv (c k).toNat (cod c n k)
/-- How many of the first are m. -/
def cq (q : Nat → Int) (m : Nat) : Nat → Nat
  | 0 => 0
  | n + 1 => cq q m n + if q n = (m : Int) then 1 else 0
/-- How many are less than m. -/
def bel (q : Nat → Int) (n : Nat) : Nat → Nat
  | 0 => 0
  | m + 1 => bel q n m + cq q m n
def ps (q : Nat → Int) (n k : Nat) : Nat := bel q n (q k).toNat + cq q (q k).toNat k
theorem cq_le (q : Nat → Int) (m : Nat) : ∀ n, cq q m n ≤ n
  | 0 => Nat.le_refl _
  | n + 1 => by
    have := cq_le q m n
    unfold cq
    split <;> omega
theorem cq_mono (q : Nat → Int) (m : Nat) {a b : Nat} (h : a ≤ b) : cq q m a ≤ cq q m b := by
  induction b with
  | zero => obtain rfl : a = 0 := by omega
            exact Nat.le_refl _
  | succ b ih =>
    by_cases e : a = b + 1
    · rw [e]; exact Nat.le_refl _
    · have h1 := ih (by omega)
      have h2 : cq q m (b + 1) = cq q m b + if q b = (m : Int) then 1 else 0 := rfl
      omega
theorem cq_here {q : Nat → Int} {m k : Nat} (h : q k = (m : Int)) : cq q m (k + 1) = cq q m k + 1 := by
  show cq q m k + (if q k = (m : Int) then 1 else 0) = _
  rw [if_pos h]
theorem cq_not {q : Nat → Int} {m k : Nat} (h : q k ≠ (m : Int)) : cq q m (k + 1) = cq q m k := by
  show cq q m k + (if q k = (m : Int) then 1 else 0) = _
  rw [if_neg h, Nat.add_zero]
theorem cq_lt {q : Nat → Int} {m k n : Nat} (hk : k < n) (h : q k = (m : Int)) : cq q m k + 1 ≤ cq q m n := by
  rw [← cq_here h]
  exact cq_mono q m hk
theorem bel_le (q : Nat → Int) (n : Nat) : ∀ m, bel q n m ≤ m * n
  | 0 => Nat.zero_le _
  | m + 1 => by
    have := bel_le q n m
    have := cq_le q m n
    simp only [bel]
    rw [Nat.add_mul]
    omega
theorem bel_mono (q : Nat → Int) (n : Nat) {a b : Nat} (h : a ≤ b) : bel q n a ≤ bel q n b := by
  induction b with
  | zero => obtain rfl : a = 0 := by omega
            exact Nat.le_refl _
  | succ b ih =>
    by_cases e : a = b + 1
    · rw [e]; exact Nat.le_refl _
    · have h1 := ih (by omega)
      have h2 : bel q n (b + 1) = bel q n b + cq q b n := rfl
      omega
theorem ps_of {q : Nat → Int} {n k m : Nat} (h : q k = (m : Int)) : ps q n k = bel q n m + cq q m k := by
  unfold ps
  rw [h]
  rfl
theorem ps_lt {q : Nat → Int} {n k m : Nat} (hk : k < n) (h : q k = (m : Int)) : ps q n k < bel q n (m + 1) := by
  rw [ps_of h]
  have := cq_lt hk h
  simp only [bel]
  omega
theorem ps_tot {q : Nat → Int} {n k : Nat} (hk : k < n) (h0 : 0 ≤ q k) (h1 : q k ≤ 15) : ps q n k < bel q n 16 := by
  have h := ps_lt (q := q) (m := (q k).toNat) hk (by omega)
  exact Nat.lt_of_lt_of_le h (bel_mono q n (by omega))
theorem ps_ne {q : Nat → Int} {n k i : Nat} (hk : k < i) (hi : i < n) (h0 : 0 ≤ q k) (h1 : 0 ≤ q i) : ps q n k ≠ ps q n i := by
  obtain ⟨a, ha⟩ : ∃ a : Nat, q k = (a : Int) := ⟨(q k).toNat, by omega⟩
  obtain ⟨b, hb⟩ : ∃ b : Nat, q i = (b : Int) := ⟨(q i).toNat, by omega⟩
  rcases Nat.lt_trichotomy a b with h | h | h
  · have h2 := ps_lt (n := n) (by omega) ha
    have h3 := bel_mono q n (show a + 1 ≤ b by omega)
    rw [ps_of hb]
    omega
  · subst h
    have h2 := cq_lt hk ha
    rw [ps_of ha, ps_of hb]
    omega
  · have h2 := ps_lt hi hb
    have h3 := bel_mono q n (show b + 1 ≤ a by omega)
    rw [ps_of ha]
    omega
theorem cq_cnt {c : Nat → Int} {n : Nat} (hm : many c n ≠ 1) (m : Nat) : ∀ i, cq (qq c n) m i = cnt c m i
  | 0 => rfl
  | i + 1 => by
    have ih := cq_cnt hm m i
    show cq (qq c n) m i + (if qq c n i = (m : Int) then 1 else 0) = cnt c m i + (if c i = (m : Int) ∧ m ≠ 0 then 1 else 0)
    rw [ih]
    have e : (qq c n i = (m : Int)) ↔ (c i = (m : Int) ∧ m ≠ 0) := by
      unfold qq
      by_cases h : c i = 0
      · rw [if_pos h, h]
        constructor
        · intro h2; omega
        · intro h2; omega
      · rw [if_neg h, if_neg hm]
        constructor
        · intro h2; exact ⟨h2, by omega⟩
        · intro h2; exact h2.1
    by_cases h : qq c n i = (m : Int)
    · rw [if_pos h, if_pos (e.1 h)]
    · rw [if_neg h, if_neg (fun h2 => h (e.2 h2))]
theorem qq_bd {c : Nat → Int} {n k : Nat} (hg : Rng c n) (hk : k < n) : -1 ≤ qq c n k ∧ qq c n k ≤ 15 := by
  have := hg k hk
  unfold qq
  split
  · omega
  · split <;> omega
theorem qq_has {c : Nat → Int} {n k : Nat} (hg : Rng c n) (hk : k < n) : 0 ≤ qq c n k ↔ c k ≠ 0 := by
  have := hg k hk
  unfold qq
  split
  · omega
  · split <;> omega
theorem qq_many {c : Nat → Int} {n k : Nat} (hm : many c n ≠ 1) (h : c k ≠ 0) : qq c n k = c k := by
  unfold qq
  rw [if_neg h, if_neg hm]
theorem qq_one {c : Nat → Int} {n k : Nat} (hm : many c n = 1) (h : c k ≠ 0) : qq c n k = 0 := by
  unfold qq
  rw [if_neg h, if_pos hm]
theorem has_one {c : Nat → Int} {n : Nat} (h : chk c n = 0) : ∃ k, k < n ∧ c k ≠ 0 := by
  obtain ⟨hg, h1, _⟩ := chk_zero h
  rcases h1 with h1 | h1
  · exact many_pos c n (by omega)
  · exact kr_pos c n (by omega)
theorem uu_lt (c : Nat → Int) (n k : Nat) : uu c n k < 2 ^ (qq c n k).toNat := by
  unfold uu qq
  by_cases h : c k = 0
  · rw [if_pos (.inl h), if_pos h]; decide
  · by_cases hm : many c n = 1
    · rw [if_pos (.inr hm), if_neg h, if_pos hm]; decide
    · rw [if_neg (by simp [h, hm]), if_neg h, if_neg hm]
      exact rv_lt _ _
theorem uu_many {c : Nat → Int} {n k : Nat} (hm : many c n ≠ 1) (h : c k ≠ 0) : uu c n k = rv (c k).toNat (cod c n k) := by
  unfold uu
  rw [if_neg (by simp [h, hm])]
end Go.Proofs.YtgjpcjnhggcfdaaGreatDoor.Dec

namespace Go.Proofs.YtgjpcjnhggcfdaaGreatDoor.Rev
open Go.ChangeShapes Go.WideShapes Go.ChangeAt Go.RowKit Go.Proofs.YtgjpcjnhggcfdaaGreatDoor.Core Go.Proofs.YtgjpcjnhggcfdaaGreatDoor.Rvm

theorem swp_int (s M x : Nat) (hx : x < 4294967296) (hM : M < 4294967296) (h2 : M * 2 ^ s < 4294967296) :
    bits .or .u32 (bits .and .u32 ((x : Int) / 2 ^ s) (M : Int)) (bits .and .u32 (x : Int) (M : Int) * 2 ^ s) = ((swp s M x : Nat) : Int) := by
  have e1 : (x : Int) / 2 ^ s = ((x / 2 ^ s : Nat) : Int) := by simp
  have l1 : x / 2 ^ s < 4294967296 := Nat.lt_of_le_of_lt (Nat.div_le_self _ _) hx
  rw [e1, u32_and_nat _ _ l1 hM, u32_and_nat _ _ hx hM]
  have e2 : (((x &&& M : Nat) : Int) * 2 ^ s) = (((x &&& M) * 2 ^ s : Nat) : Int) := by simp
  have l2 : (x / 2 ^ s &&& M) < 4294967296 := Nat.lt_of_le_of_lt Nat.and_le_right hM
  have l3 : (x &&& M) * 2 ^ s < 4294967296 := Nat.lt_of_le_of_lt (Nat.mul_le_mul_right _ Nat.and_le_right) h2
  rw [e2, u32_or_nat _ _ l2 l3]
  rfl
theorem and_bd (x M : Nat) (hx : x < 4294967296) (hM : M < 4294967296) : 0 ≤ bits .and .u32 (x : Int) (M : Int) ∧ bits .and .u32 (x : Int) (M : Int) ≤ (M : Int) := by
  rw [u32_and_nat _ _ hx hM]
  have := Nat.and_le_right (n := x) (m := M)
  omega
theorem swp_bd (s M x : Nat) (h : M < 2 ^ 32) (h2 : M * 2 ^ s < 2 ^ 32) : (0 : Int) ≤ ((swp s M x : Nat) : Int) ∧ ((swp s M x : Nat) : Int) ≤ 4294967295 := by
  have := swp_lt s M x 32 h h2
  omega
set_option maxHeartbeats 400000 in
theorem rb52 (x : Nat) (w : World) (hx : x < 4294967296) :
    Calls Tryz.prog 88 #[.int .u32 x] w fun e w' => e = .returned (.int .u32 ((swp 8 16711935 x / 65536 ||| swp 8 16711935 x * 65536 % 4294967296 : Nat) : Int)) ∧ w' = w := by
  have h1 := swp_int 8 16711935 x hx (by decide) (by decide)
  have h2 := and_bd x 16711935 hx (by decide)
  have h3 := swp_bd 8 16711935 x (by decide) (by decide)
  simp at h1 h2
  generalize hy : swp 8 16711935 x = y at *
  go_enter Tryz.func88, Tryz.ntmps88
  go_wp2
  go_ret
  refine ⟨ret_int ?_, rfl⟩
  have e1 : (y : Int) / 65536 = ((y / 65536 : Nat) : Int) := by simp
  have e2 : (y : Int) * 65536 % 4294967296 = ((y * 65536 % 4294967296 : Nat) : Int) := by simp
  rw [e1, e2, u32_or_nat _ _ (by omega) (by omega)]
set_option maxHeartbeats 400000 in
theorem rev43 (x : Nat) (w : World) (hx : x < 4294967296) :
    Calls Tryz.prog 80 #[.int .u32 x] w fun e w' => e = .returned (.int .u32 ((rv 32 x : Nat) : Int)) ∧ w' = w := by
  have a1 := swp_int 1 1431655765 x hx (by decide) (by decide)
  have a2 := and_bd x 1431655765 hx (by decide)
  have a3 := swp_bd 1 1431655765 x (by decide) (by decide)
  have E := hide (rev_eq x hx)
  unfold rev rev32 at E
  generalize hy : swp 1 1431655765 x = y at *
  have b1 := swp_int 2 858993459 y (by omega) (by decide) (by decide)
  have b2 := and_bd y 858993459 (by omega) (by decide)
  have b3 := swp_bd 2 858993459 y (by decide) (by decide)
  generalize hz : swp 2 858993459 y = z at *
  have c1 := swp_int 4 252645135 z (by omega) (by decide) (by decide)
  have c2 := and_bd z 252645135 (by omega) (by decide)
  have c3 := swp_bd 4 252645135 z (by decide) (by decide)
  generalize hq : swp 4 252645135 z = q at *
  have RB := hide (rb52 q w (by omega))
  simp at a1 a2 b1 b2 c1 c2
  clear hy hz hq
  go_enter Tryz.func80, Tryz.ntmps80
  go_wp2_with fail
  refine (unhide RB).mono ?_
  rintro e w1 ⟨rfl, rfl⟩
  rw [unhide E]
  go_wp2
  go_ret
  exact ⟨rfl, rfl⟩
theorem turned31 (x n : Nat) (w : World) (hx : x < 4294967296) (hn : n ≤ 32) :
    Calls Tryz.prog 68 #[.int .u32 x, .int .i64 n] w fun e w' => e = .returned (.int .u32 ((rv n x : Nat) : Int)) ∧ w' = w := by
  have E := hide (rv_top n x hn)
  have hlt := rv_lt 32 x
  have R := hide (rev43 x w hx)
  generalize rv 32 x = y at *
  go_enter Tryz.func68, Tryz.ntmps68
  go_wp2_with fail
  refine (unhide R).mono ?_
  rintro e w1 ⟨rfl, rfl⟩
  go_wp2
  go_ret
  refine ⟨ret_int ?_, rfl⟩
  rw [← unhide E]
  simp
end Go.Proofs.YtgjpcjnhggcfdaaGreatDoor.Rev

namespace Go.Proofs.YtgjpcjnhggcfdaaGreatDoor.Wrd
open Go.ChangeShapes Go.WideShapes Go.ChangeAt Go.RowKit Go.Proofs.YtgjpcjnhggcfdaaGreatDoor.Core Go.Proofs.YtgjpcjnhggcfdaaGreatDoor.Gnd Go.Proofs.YtgjpcjnhggcfdaaGreatDoor.Math Go.Proofs.YtgjpcjnhggcfdaaGreatDoor.Rvm Go.Proofs.YtgjpcjnhggcfdaaGreatDoor.Dec Go.Proofs.YtgjpcjnhggcfdaaGreatDoor.One Go.Proofs.YtgjpcjnhggcfdaaGreatDoor.Cod Go.Proofs.YtgjpcjnhggcfdaaGreatDoor.Rev

/-- Words in a block: of each its bits, and how many. -/
def wrow (u : Nat → Nat) (q : Nat → Int) (n : Nat) : Array Value := ((List.range (n * 2)).map fun j => if j % 2 = 0 then Value.int .u16 (u (j / 2)) else Value.int .i8 (q (j / 2))).toArray
theorem wrow_size (u : Nat → Nat) (q : Nat → Int) (n : Nat) : (wrow u q n).size = n * 2 := by simp [wrow]
theorem wrow_at (u : Nat → Nat) (q : Nat → Int) (n j : Nat) (h : j < n * 2) : (wrow u q n)[j]? = some (if j % 2 = 0 then Value.int .u16 (u (j / 2)) else Value.int .i8 (q (j / 2))) := by
  simp [wrow, h]
theorem wrow_bits (u : Nat → Nat) (q : Nat → Int) (n k : Nat) (h : k < n) : (wrow u q n)[k * 2]? = some (Value.int .u16 (u k)) := by
  rw [wrow_at _ _ _ _ (by omega), if_pos (by omega), show k * 2 / 2 = k by omega]
theorem wrow_cnt (u : Nat → Nat) (q : Nat → Int) (n k : Nat) (h : k < n) : (wrow u q n)[k * 2 + 1]? = some (Value.int .i8 (q k)) := by
  rw [wrow_at _ _ _ _ (by omega), if_neg (by omega), show (k * 2 + 1) / 2 = k by omega]
theorem wrow_ext {xs : Array Value} {u : Nat → Nat} {q : Nat → Int} {n : Nat} (hs : xs.size = n * 2) (h : ∀ k, k < n → xs[k * 2]? = some (.int .u16 (u k)) ∧ xs[k * 2 + 1]? = some (.int .i8 (q k))) : xs = wrow u q n := by
  apply Array.ext_getElem?
  intro j
  by_cases hj : j < n * 2
  · obtain ⟨h1, h2⟩ := h (j / 2) (by omega)
    rcases Nat.mod_two_eq_zero_or_one j with e | e
    · have e2 : j / 2 * 2 = j := by omega
      have h3 := wrow_bits u q n (j / 2) (by omega)
      rw [e2] at h1 h3
      rw [h1, h3]
    · have e2 : j / 2 * 2 + 1 = j := by omega
      have h3 := wrow_cnt u q n (j / 2) (by omega)
      rw [e2] at h2 h3
      rw [h2, h3]
  · rw [Array.getElem?_eq_none (by omega), Array.getElem?_eq_none (by rw [wrow_size]; omega)]
theorem wrow_congr {u u' : Nat → Nat} {q q' : Nat → Int} {n : Nat} (h : ∀ k, k < n → u k = u' k ∧ q k = q' k) : wrow u q n = wrow u' q' n :=
  wrow_ext (wrow_size _ _ _) fun k hk => by rw [wrow_bits _ _ _ _ hk, wrow_cnt _ _ _ _ hk, (h k hk).1, (h k hk).2]; exact ⟨rfl, rfl⟩
theorem wrow_set_bits (u : Nat → Nat) (q : Nat → Int) (n i z : Nat) : (wrow u q n).setIfInBounds (i * 2) (.int .u16 z) = wrow (fun k => if k = i then z else u k) q n := by
  refine wrow_ext (by simp [wrow_size]) fun k hk => ?_
  rw [Array.getElem?_setIfInBounds, Array.getElem?_setIfInBounds, wrow_bits _ _ _ _ hk, wrow_cnt _ _ _ _ hk, wrow_size, if_neg (show ¬ i * 2 = k * 2 + 1 by omega)]
  by_cases e : k = i
  · subst e
    simp; omega
  · simp [e, show ¬ i * 2 = k * 2 by omega]
theorem wrow_set_cnt (u : Nat → Nat) (q : Nat → Int) (n i : Nat) (z : Int) : (wrow u q n).setIfInBounds (i * 2 + 1) (.int .i8 z) = wrow u (fun k => if k = i then z else q k) n := by
  refine wrow_ext (by simp [wrow_size]) fun k hk => ?_
  rw [Array.getElem?_setIfInBounds, Array.getElem?_setIfInBounds, wrow_bits _ _ _ _ hk, wrow_cnt _ _ _ _ hk, wrow_size, if_neg (show ¬ i * 2 + 1 = k * 2 by omega)]
  by_cases e : k = i
  · subst e
    simp; omega
  · have e2 : ¬ i * 2 = k * 2 := by omega
    simp [e, e2]
theorem info74 : (Tryz.prog.info? 107).map (fun i => (i.zero, i.size, i.bytes)) = some (some (.agg #[.int .u16 0, .int .i8 0]), 2, 4) := by kernel_rfl
theorem wrow_made (n : Nat) : madeCells #[.int .u16 0, .int .i8 0] (n * 2) = wrow (fun _ => 0) (fun _ => 0) n := by
  refine wrow_ext (by simp [size_madeCells]) fun k hk => ?_
  simp [madeCells, show k * 2 < n * 2 by omega, show k * 2 + 1 < n * 2 by omega, show (k * 2 + 1) % 2 = 1 by omega]
theorem make_words (w : World) (n : Nat) (hn : n ≤ 1000000) : (Instr.makeSlice 94 (.int .i64 n) (.int .i64 n)).run Tryz.prog w = .ok (.slice (some ⟨w.heap.size, 0, none⟩) n n) (w.alloc (.cells (wrow (fun _ => 0) (fun _ => 0) n) 107)) := by
  obtain ⟨i0, hi, hz0, hz1, hz2⟩ := info_parts info74
  have := run_make (P := Tryz.prog) w 94 107 i0 _ Tryz.underlying94 hi hz0 .i64 .i64 n n (by omega) (by omega) (by rw [hz2]; omega) (by omega)
  rw [hz1] at this
  rw [this]
  simp [Value.cells, wrow_made]
theorem cell_other {w : World} {p a : Addr} (h : p.block ≠ a.block) (v : Value) : (w.setCell a v).cell? p = w.cell? p := World.cell?_of_block (Below.heap_setCell _ _ _ _ h)
theorem wput {w : World} {g n : Nat} {u : Nat → Nat} {q : Nat → Int} (h : Box w g 107 (wrow u q n)) (k X : Nat) (z : Int) :
    Box ((w.setCell ⟨g, k * 2, none⟩ (.int .u16 X)).setCell ⟨g, k * 2 + 1, none⟩ (.int .i8 z)) g 107 (wrow (fun j => if j = k then X else u j) (fun j => if j = k then z else q j) n) := by
  have := (h.set (k * 2) (.int .u16 X)).set (k * 2 + 1) (.int .i8 z)
  rw [wrow_set_bits, wrow_set_cnt] at this
  exact this
/-- What words has made behind the first i symbols. -/
def ui (c : Nat → Int) (n i k : Nat) : Nat := if k < i then rv (c k).toNat (cod c n k) else 0
def qi (c : Nat → Int) (i k : Nat) : Int := if k < i then (if c k = 0 then -1 else c k) else 0
theorem ui_next (c : Nat → Int) (n k X : Nat) (h : rv (c k).toNat (cod c n k) = X) (j : Nat) : (if j = k then X else ui c n k j) = ui c n (k + 1) j := by
  unfold ui
  by_cases e : j = k
  · subst e
    rw [if_pos rfl, if_pos (by omega), h]
  · rw [if_neg e]
    by_cases h2 : j < k
    · rw [if_pos h2, if_pos (by omega)]
    · rw [if_neg h2, if_neg (by omega)]
theorem qi_next (c : Nat → Int) (k : Nat) (z : Int) (h : (if c k = 0 then -1 else c k) = z) (j : Nat) : (if j = k then z else qi c k j) = qi c (k + 1) j := by
  unfold qi
  by_cases e : j = k
  · subst e
    rw [if_pos rfl, if_pos (by omega), h]
  · rw [if_neg e]
    by_cases h2 : j < k
    · rw [if_pos h2, if_pos (show j < k + 1 by omega)]
    · rw [if_neg h2, if_neg (by omega)]
structure Mid (w wr : World) (g r n k : Nat) (c : Nat → Int) : Prop where
  box : Box wr g 107 (wrow (ui c n k) (qi c k) n)
  bel : Below w.heap.size w wr
  code : ∀ j, j < n → wr.cell? ⟨r, j, none⟩ = some (.int .u32 (cod c n j))
theorem Mid.put {w wr : World} {g r n k : Nat} {c : Nat → Int} (h : Mid w wr g r n k c) (hg : w.heap.size ≤ g) (hr : r ≠ g) (X : Nat) (z : Int) (hX : rv (c k).toNat (cod c n k) = X) (hz : (if c k = 0 then -1 else c k) = z) :
    Mid w ((wr.setCell ⟨g, k * 2, none⟩ (.int .u16 X)).setCell ⟨g, k * 2 + 1, none⟩ (.int .i8 z)) g r n (k + 1) c := by
  refine ⟨?_, (h.bel.setCell (p := ⟨g, k * 2, none⟩) hg _).setCell (p := ⟨g, k * 2 + 1, none⟩) hg _, fun j hj => ?_⟩
  · have := wput h.box k X z
    rw [wrow_congr (u' := ui c n (k + 1)) (q' := qi c (k + 1)) (fun j _ => ⟨ui_next c n k X hX j, qi_next c k z hz j⟩)] at this
    exact this
  · rw [cell_other (by exact hr), cell_other (by exact hr)]
    exact h.code j hj
theorem Mid.two {w wr : World} {g r n k : Nat} {c : Nat → Int} (h : Mid w wr g r n k c) (hg : w.heap.size ≤ g) (hr : r ≠ g) (X : Nat) (y z : Int) (hX : rv (c k).toNat (cod c n k) = X) (hz : (if c k = 0 then -1 else c k) = z) :
    Mid w (((wr.setCell ⟨g, k * 2, none⟩ (.int .u16 X)).setCell ⟨g, k * 2 + 1, none⟩ (.int .i8 y)).setCell ⟨g, k * 2 + 1, none⟩ (.int .i8 z)) g r n (k + 1) c := by
  refine ⟨?_, ((h.bel.setCell (p := ⟨g, k * 2, none⟩) hg _).setCell (p := ⟨g, k * 2 + 1, none⟩) hg _).setCell (p := ⟨g, k * 2 + 1, none⟩) hg _, fun j hj => ?_⟩
  · have := (wput h.box k X y).set (k * 2 + 1) (.int .i8 z)
    rw [wrow_set_cnt, wrow_congr (u' := ui c n (k + 1)) (q' := qi c (k + 1)) (fun j _ => ⟨ui_next c n k X hX j, by rw [← qi_next c k z hz j]; by_cases e : j = k <;> simp [e]⟩)] at this
    exact this
  · rw [cell_other (by exact hr), cell_other (by exact hr), cell_other (by exact hr)]
    exact h.code j hj
theorem fin_many {c : Nat → Int} {n : Nat} (hm : many c n ≠ 1) : wrow (ui c n n) (qi c n) n = wrow (uu c n) (qq c n) n := by
  refine wrow_congr fun k hk => ?_
  unfold ui qi uu qq
  rw [if_pos hk, if_pos hk]
  by_cases h : c k = 0
  · rw [if_pos h, if_pos h, if_pos (.inl h), h]
    exact ⟨rfl, rfl⟩
  · rw [if_neg h, if_neg h, if_neg (by simp [h, hm]), if_neg hm]
    exact ⟨rfl, rfl⟩
theorem fin_one {c : Nat → Int} {n : Nat} (hm : many c n = 1) : wrow (fun j => if j = sel c n then 0 else ui c n n j) (fun j => if j = sel c n then 0 else qi c n j) n = wrow (uu c n) (qq c n) n := by
  obtain ⟨_, h2, h3⟩ := (sel_one n).2 hm
  refine wrow_congr fun k hk => ?_
  unfold ui qi uu qq
  by_cases e : k = sel c n
  · subst e
    simp [h2, hm]
  · have h := h3 k hk e
    simp [e, h, hk, rv]
set_option maxHeartbeats 1000000 in
theorem words23 (v : Value) (n : Nat) (c : Nat → Int) (hl : n ≤ 100000) (h : chk c n = 0) (w : World) (src : Ints .i64 w v n c) :
    Calls Tryz.prog 40 #[v] w fun e w' => ∃ b, e = .returned (.slice (some ⟨b, 0, none⟩) n n) ∧ w.heap.size ≤ b ∧ Box w' b 107 (wrow (uu c n) (qq c n) n) ∧ Below w.heap.size w w' := by
  obtain ⟨hg, _, hk⟩ := chk_zero h
  have HG := hide hg
  have HK := hide hk
  have SRC := hide src
  have hmk := fun w => make_words w n (by omega)
  obtain ⟨a, cap, rfl, _⟩ := src
  clear hg hk
  go_enter Tryz.func40, Tryz.ntmps40
  go_wp2_with fail
  have b0 : Below w.heap.size w (w.alloc (.cells (wrow (fun _ => 0) (fun _ => 0) n) 107)) := (Below.refl _ w).alloc (Nat.le_refl _) _
  refine (codes_new _ n c hl h _ ((unhide SRC).keep b0)).mono ?_
  rintro e w1 ⟨r, rfl, hr, ⟨a2, cap2, e2, hc2⟩, b1⟩
  cases e2
  have hr' : w.heap.size + 1 ≤ r := by simpa using hr
  have M1 : Hid (Mid w w1 w.heap.size r n 0 c) := by
    refine ⟨?_, b0.trans (b1.mono (by simp)), fun j hj => ?_⟩
    · rw [wrow_congr (u := ui c n 0) (q := qi c 0) (u' := fun _ => 0) (q' := fun _ => 0) (fun k _ => ⟨if_neg (by omega), if_neg (by omega)⟩)]
      exact (Box.made w 107 (wrow (fun _ => 0) (fun _ => 0) n)).below b1 (by simp)
    · obtain ⟨r', off', e3, hcod⟩ := hc2 j hj
      cases e3
      rw [Nat.zero_add] at hcod
      exact hcod
  clear hr b0 b1 hc2 h
  go_wp2
  go_loopw [15] (fun i wr => ∃ k : Nat, k ≤ n ∧ i = .int .i64 k ∧ Mid w wr w.heap.size r n k c) (fun i _ => n - (intOf i).toNat)
  case atStart => exact ⟨0, Nat.zero_le _, rfl, unhide M1⟩
  case round =>
    obtain ⟨k, hk, rfl, mid⟩ := hrel
    have MID := hide mid
    by_cases hlt : k < n
    · have hlt' : (k : Int) < (n : Int) := by omega
      obtain ⟨a1, cap1, e1, hc0⟩ := (unhide SRC).keep mid.bel
      cases e1
      obtain ⟨b, off, rfl, hcell⟩ := hc0 k hlt
      have hcod := mid.code k hlt
      have h1 := unhide HG k hlt
      obtain ⟨m, hcm⟩ : ∃ m : Nat, c k = (m : Int) := ⟨(c k).toNat, by omega⟩
      have f0 := mid.box.free (k * 2)
      have f1 := mid.box.free (k * 2 + 1)
      have c0 := (mid.box.cell (k * 2)).trans (wrow_bits _ _ n k hlt)
      have c1 := (mid.box.cell (k * 2 + 1)).trans (wrow_cnt _ _ n k hlt)
      have hm15 : m ≤ 15 := by omega
      rw [hcm] at hcell
      have hcl : cod c n k ≤ 32768 := by
        by_cases e : m = 0
        · unfold cod
          rw [if_pos (by omega)]
          omega
        · have h2 := cod_lt (unhide HG) (unhide HK) k hlt m hcm e
          have h3 : 2 ^ m ≤ 2 ^ 15 := Nat.pow_le_pow_right (by omega) hm15
          omega
      have T := hide (turned31 (cod c n k) m wr (by omega) (by omega))
      have hX : rv m (cod c n k) ≤ 32768 := by
        have h2 := rv_lt m (cod c n k)
        have h3 : 2 ^ m ≤ 2 ^ 15 := Nat.pow_le_pow_right (by omega) hm15
        omega
      have E := hide (show rv (c k).toNat (cod c n k) = rv m (cod c n k) by rw [hcm]; rfl)
      have HCM := hide hcm
      have hne : r ≠ w.heap.size := by omega
      generalize rv m (cod c n k) = X at *
      clear mid hc0 M1 hcm h1
      go_wp2_with fail
      refine (unhide T).mono ?_
      rintro e w2 ⟨rfl, rfl⟩
      by_cases hm : m = 0
      · subst hm
        go_wp2
        go_roundw
        case rel => exact ⟨k + 1, by omega, by go_num, (unhide MID).two (Nat.le_refl _) hne X _ _ (unhide E) (by rw [unhide HCM]; simp)⟩
        case measure => simp [intOf]; omega
      · have hm' : ¬ (m : Int) = 0 := by omega
        go_wp2
        go_roundw
        case rel => exact ⟨k + 1, by omega, by go_num, (unhide MID).put (Nat.le_refl _) hne X _ (unhide E) (by rw [unhide HCM, if_neg hm'])⟩
        case measure => simp [intOf]; omega
    · obtain rfl : k = n := by omega
      have O := hide (one8 _ k c hl wr ((unhide SRC).keep mid.bel))
      have hnl : ¬ (k : Int) < (k : Int) := by omega
      clear mid M1 hlt
      go_wp2_with fail
      refine (unhide O).mono ?_
      by_cases hm : many c k = 1
      · rw [if_pos hm, decide_eq_true hm]
        rintro e w2 ⟨rfl, b2⟩
        have BX := hide ((unhide MID).box.below b2 (unhide MID).box.lt)
        have BEL := hide (show Below w.heap.size w w2 from (unhide MID).bel.trans (b2.mono (unhide MID).bel.size))
        obtain ⟨s1, s2, s3⟩ := (sel_one k).2 hm
        have HM := hide hm
        have f0 := (unhide BX).free (sel c k * 2)
        have f1 := (unhide BX).free (sel c k * 2 + 1)
        have c0 := ((unhide BX).cell (sel c k * 2)).trans (wrow_bits _ _ k _ s1)
        have c1 := ((unhide BX).cell (sel c k * 2 + 1)).trans (wrow_cnt _ _ k _ s1)
        have s1' : (sel c k : Int) < (k : Int) := by omega
        clear b2 hm s2 s3 O
        have FIN := hide (fun x y (hx : x = 0) (hy : y = 0) => (show Box ((w2.setCell ⟨w.heap.size, sel c k * 2, none⟩ (.int .u16 ((x : Nat) : Int))).setCell ⟨w.heap.size, sel c k * 2 + 1, none⟩ (.int .i8 y)) w.heap.size 107 (wrow (uu c k) (qq c k) k) from by
          subst hx; subst hy
          rw [← fin_one (unhide HM)]
          exact wput (unhide BX) (sel c k) 0 0))
        generalize sel c k = t at *
        go_wp2
        go_ret
        refine ⟨_, rfl, Nat.le_refl _, ?_, ?_⟩
        · exact unhide FIN 0 0 rfl rfl
        · exact ((unhide BEL).setCell (p := ⟨w.heap.size, t * 2, none⟩) (Nat.le_refl _) _).setCell (p := ⟨w.heap.size, t * 2 + 1, none⟩) (Nat.le_refl _) _
      · rw [if_neg hm, decide_eq_false hm]
        rintro e w2 ⟨rfl, b2⟩
        have BX := hide ((unhide MID).box.below b2 (unhide MID).box.lt)
        have BEL := hide (show Below w.heap.size w w2 from (unhide MID).bel.trans (b2.mono (unhide MID).bel.size))
        clear b2 O
        go_wp2
        go_ret
        refine ⟨_, rfl, Nat.le_refl _, ?_, unhide BEL⟩
        rw [← fin_many hm]
        exact unhide BX
end Go.Proofs.YtgjpcjnhggcfdaaGreatDoor.Wrd
