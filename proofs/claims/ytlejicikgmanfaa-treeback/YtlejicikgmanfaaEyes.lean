/- Contracts: the document's own reading of bits (ref.Bits, ref.Look, Eye.Num). Conditions: the slice reads as bytes, and they are few. -/
import Derived.Test.YtlejicikgmanfaaBitin
namespace Go.Proofs.Ytlejicikgmanfaa.Eyes
open Go.ChangeShapes Go.WideShapes Go.ChangeAt Go.RowKit Go.Proofs.Ytlejicikgmanfaa.Core Go.Proofs.Ytlejicikgmanfaa.Le Go.Proofs.Ytlejicikgmanfaa.Bitin


/-- Bit j of the bytes. -/
def bt (c : Nat → Nat) (j : Nat) : Nat := c (j / 8) / 2 ^ (j % 8) % 2
theorem bt_le (c : Nat → Nat) (j : Nat) : bt c j ≤ 1 := by unfold bt; omega
theorem bt_at (c : Nat → Nat) (k m : Nat) (h : m < 8) : bt c (8 * k + m) = c k / 2 ^ m % 2 := by
  unfold bt
  rw [show (8 * k + m) / 8 = k from by omega, show (8 * k + m) % 8 = m from by omega]
theorem bt_val (c : Nat → Nat) (hc : ∀ k, c k ≤ 255) (len j : Nat) (h : j < 8 * len) : val c len j 1 = bt c j := by
  have := take_eq c hc (j / 8) (j % 8) 1 1 len (by omega) (by omega)
  rw [show 8 * (j / 8) + j % 8 = j from by omega] at this
  rw [← this]
  simp [num, bt]
theorem cells_succ (c : Nat → Nat) (n : Nat) : cells c (n + 1) = cells c n ++ [.int .u8 (c n)] := by
  simp [cells, List.range_succ]
theorem div_bd (x : Nat) (m : Nat) (h : x ≤ 255) : x / 2 ^ m ≤ 255 := Nat.le_trans (Nat.div_le_self _ _) h
theorem div_succ (x m : Nat) : x / 2 ^ m / 2 = x / 2 ^ (m + 1) := by rw [Nat.div_div_eq_div_mul, Nat.pow_succ]

set_option maxHeartbeats 400000 in
theorem bits15 (a : Option Addr) (len cap : Nat) (c : Nat → Nat) (hc : ∀ k, c k ≤ 255) (w : World) (h : Src w (.slice a len cap) len c) (hl : len ≤ 100000) :
    Calls Try.prog 27 #[.slice a len cap] w fun e w' => ∃ u, e = .returned u ∧ Got w' w.heap.size u (8 * len) (bt c) ∧ Below w.heap.size w w' := by
  have SRC := hide h
  clear h
  obtain ⟨i0, hi, hz0, hz1, hz2⟩ := info_parts Try.info5
  go_enter Try.func27, Try.ntmps27
  go_wp2
  go_loopw [3, 4] (fun s i wr => ∃ k : Nat, k ≤ len ∧ i = .int .i64 k ∧ wr.ownsRow w.heap.size 5 1 s (8 * k) (cells (bt c) (8 * k)) ∧ Below w.heap.size w wr) (fun _ i _ => len - (intOf i).toNat)
  case atStart => exact ⟨0, Nat.zero_le _, rfl, World.ownsRow_nil _ _ _ _, Below.refl _ _⟩
  case round =>
    obtain ⟨k, hk, rfl, own, bel⟩ := hrel
    by_cases hlt : k < len
    · have hlt' : (k : Int) < (len : Int) := by omega
      have hcell : ∃ b off, a = some ⟨b, off, none⟩ ∧ wr.cell? ⟨b, off + k, none⟩ = some (.int .u8 (c k)) := by
        rcases unhide SRC with ⟨_, h0⟩ | ⟨x, cap', e, hx⟩
        · omega
        · cases e
          obtain ⟨b, off, rfl, hb⟩ := src_at hx (by omega)
          exact ⟨b, off, rfl, (bel.cell (p := ⟨b, off + k, none⟩) (lt_of_cell (hb k hlt))).trans (hb k hlt)⟩
      obtain ⟨b, off, rfl, hcell⟩ := hcell
      have OWN := hide own
      have BEL := hide bel
      have CK := hide (hc k)
      clear own bel
      go_wp2
      go_loopw [3, 5, 6] (fun t q i ws => ∃ m : Nat, m ≤ 8 ∧ i = .int .i64 m ∧ q = .int .u8 ((c k / 2 ^ m : Nat) : Int) ∧ ws.ownsRow w.heap.size 5 1 t (8 * k + m) (cells (bt c) (8 * k + m)) ∧ Below w.heap.size w ws) (fun _ _ i _ => 8 - (intOf i).toNat)
      case atStart => exact ⟨0, by omega, rfl, by simp, unhide OWN, unhide BEL⟩
      case round =>
        obtain ⟨m, hm, rfl, rfl, own, bel⟩ := hrel
        clear OWN BEL
        by_cases hlt8 : m < 8
        · have hlt8' : (m : Int) < 8 := by omega
          have d0 := div_bd (c k) m (unhide CK)
          have D := hide (div_succ (c k) m)
          have B := hide (bt_at c k m hlt8)
          have C := hide (cells_succ (bt c) (8 * k + m))
          have HB := hide bel
          have hsz := bel.size
          clear bel hcell
          generalize c k / 2 ^ m = x at *
          have d1 : (x : Int) ≤ 255 := by omega
          go_wp2_with (at_builtin; refine wpList_append_own _ rfl _ _ 23 rfl w.heap.size 5 i0 (.int .u8 0) 1 1 Try.underlying23 hi hz0 hz1 hz2 rfl (by decide) _ _ _ rfl (own.alloc _) ⟨wr.heap.size, 0, none⟩ 1 1 [.int .u8 ((x : Int) % 2)] rfl rfl ?c1 ?c2 ?c3 ?c4 ?c5 ?_)
          case c1 =>
            intro j u hj
            match j, hj with
            | 0, hj => simp at hj; subst hj; simp [Addr.add]
          case c2 => intro u hu; simp at hu; subst hu; rfl
          case c3 => unfold maxLen; omega
          case c4 => omega
          case c5 => simp; omega
          · intro v' w1 own' grow _
            have e1 : (x : Int) % 2 = ((bt c (8 * k + m) : Nat) : Int) := by rw [unhide B]; omega
            rw [e1, ← unhide C] at own'
            have hb' : Below w.heap.size w w1 := ((unhide HB).alloc hsz _).grown grow (by simp; omega) (fun g hg => (own.lt g hg).1)
            have HO := hide own'
            have HB' := hide hb'
            clear own' hb' grow own HB
            go_wp2
            go_roundw
            case rel => exact ⟨m + 1, by omega, by go_num, by rw [← unhide D]; go_num, unhide HO, unhide HB'⟩
            case measure => simp [intOf]; omega
        · have e : m = 8 := by omega
          subst e
          have HO := hide own
          have HB := hide bel
          clear own bel hcell
          go_wp2
          go_roundw
          case rel => exact ⟨k + 1, by omega, by go_num, by rw [show 8 * (k + 1) = 8 * k + 8 from by omega]; exact unhide HO, unhide HB⟩
          case measure => simp [intOf]; omega
    · have e : k = len := by omega
      subst e
      go_wp2
      go_ret
      exact ⟨_, rfl, got_of own, bel⟩

/-- An eye at block e, i bits gone through. -/
def Sees (w : World) (lo hi e : Nat) (c : Nat → Nat) (len i : Nat) (short : Bool) : Prop :=
  ∃ a cap, Box w e 61 #[.slice a (8 * len : Nat) cap, .int .i64 i, .bool short] ∧ lo ≤ e ∧ e < hi ∧ hi ≤ w.heap.size ∧ i ≤ 8 * len ∧
    (len = 0 ∨ ∃ b, a = some ⟨b, 0, none⟩ ∧ lo ≤ b ∧ b < hi ∧ b ≠ e ∧ ∀ k, k < 8 * len → w.cell? ⟨b, k, none⟩ = some (.int .u8 (bt c k)))
theorem Sees.keep {S : Nat → Prop} {w w' : World} {lo hi e len i : Nat} {sh : Bool} {c : Nat → Nat} (h : Sees w lo hi e c len i sh) (u : Upd S w w') (hs : ∀ k, lo ≤ k → k < hi → ¬ S k) : Sees w' lo hi e c len i sh := by
  obtain ⟨a, cap, h0, h1, h2, h3, h4, h5⟩ := h
  refine ⟨a, cap, h0.keep u (hs e h1 h2), h1, h2, Nat.le_trans h3 u.size, h4, ?_⟩
  rcases h5 with h5 | ⟨b, e, b1, b2, b3, b4⟩
  · exact .inl h5
  · exact .inr ⟨b, e, b1, b2, b3, fun k hk => (u.cell (p := ⟨b, k, none⟩) (Nat.lt_of_lt_of_le b2 h3) (hs b b1 b2)).trans (b4 k hk)⟩
set_option maxHeartbeats 400000 in
theorem look9 (a : Option Addr) (len cap : Nat) (c : Nat → Nat) (hc : ∀ k, c k ≤ 255) (w : World) (h : Src w (.slice a len cap) len c) (hl : len ≤ 100000) :
    Calls Try.prog 12 #[.slice a len cap] w fun e w' => ∃ g, e = .returned (.pointer (some ⟨g, 0, none⟩)) ∧ Sees w' w.heap.size w'.heap.size g c len 0 false ∧ Below w.heap.size w w' := by
  have C := hide (bits15 a len cap c hc w h hl)
  clear h
  go_enter Try.func12, Try.ntmps12
  go_wp2_with fail
  refine (unhide C).mono ?_
  rintro e w1 ⟨u, rfl, ⟨a, cap, rfl, g1⟩, bel1⟩
  have G1 := hide g1
  have B1 := hide bel1
  clear g1 bel1 C
  go_wp2
  go_ret
  have hs : w.heap.size ≤ w1.heap.size := (unhide B1).size
  refine ⟨w1.heap.size, rfl, ⟨a, cap, Box.made _ _ _, hs, by simp, Nat.le_refl _, Nat.zero_le _, ?_⟩, (unhide B1).alloc hs _⟩
  rcases unhide G1 with h | ⟨b, rfl, h1, h2, h3⟩
  · exact .inl (by omega)
  · exact .inr ⟨b, rfl, h1, by simp; omega, by omega, fun k hk => by rw [World.cell?_alloc_past _ _ _ (by exact h2)]; exact h3 k hk⟩
set_option maxHeartbeats 400000 in
theorem num_short (e : Nat) (x : Value) (y : Value) (n : Nat) (w : World) (h : Box w e 61 #[x, y, .bool true]) (n0 : 1 ≤ n) (n1 : n ≤ 32) :
    Calls Try.prog 32 #[.pointer (some ⟨e, 0, none⟩), .int .i64 n] w fun r w' => r = .returned (.int .i64 0) ∧ Box w' e 61 #[x, y, .bool true] ∧ Upd (fun k => k = e) w w' := by
  have f2 := h.free 2
  have h2 := h.cell 2
  simp at h2
  have H := hide h
  have n0' : 0 < n := by omega
  clear h
  go_enter Try.func32, Try.ntmps32
  go_wp2
  go_quiet (fail)
  go_wp2
  go_ret
  exact ⟨rfl, ((unhide H).drewN _).set 2 _, ((Upd.refl (fun k => k = e) w).drewN _).setCell (p := ⟨e, 2, none⟩) rfl _⟩
set_option maxHeartbeats 400000 in
theorem num_end (e : Nat) (a : Option Addr) (L cap i n : Nat) (w : World) (h : Box w e 61 #[.slice a L cap, .int .i64 i, .bool false]) (_hL : L ≤ 1000000) (hi : i ≤ L) (n0 : 1 ≤ n) (n1 : n ≤ 32) (hn : L < i + n) :
    Calls Try.prog 32 #[.pointer (some ⟨e, 0, none⟩), .int .i64 n] w fun r w' => r = .returned (.int .i64 0) ∧ Box w' e 61 #[.slice a L cap, .int .i64 i, .bool true] ∧ Upd (fun k => k = e) w w' := by
  have f2 := h.free 2
  have h0 := h.cell 0
  have h1 := h.cell 1
  have h2 := h.cell 2
  simp at h0 h1 h2
  have H := hide h
  have n0' : 0 < n := by omega
  have hd : (L : Int) - (i : Int) < (n : Int) := by omega
  clear h
  go_enter Try.func32, Try.ntmps32
  go_wp2
  go_quiet (fail)
  go_wp2
  go_ret
  exact ⟨rfl, ((unhide H).drewN _).set 2 _, ((Upd.refl (fun k => k = e) w).drewN _).setCell (p := ⟨e, 2, none⟩) rfl _⟩
set_option maxHeartbeats 400000 in
theorem num_zero (e : Nat) (w : World) :
    Calls Try.prog 32 #[.pointer (some ⟨e, 0, none⟩), .int .i64 0] w fun r w' => r = .returned (.int .i64 0) ∧ ∃ k, w' = w.drewN k := by
  go_enter Try.func32, Try.ntmps32
  go_wp2
  go_quiet (fail)
  go_wp2
  go_loop [5, 6] (fun v i => v = .int .i64 0 ∧ i = .int .i64 0) (fun _ _ => 0)
  case atStart => exact ⟨rfl, rfl⟩
  case round =>
    obtain ⟨rfl, rfl⟩ := hrel
    go_wp2
    go_ret
    exact ⟨rfl, _, rfl⟩
theorem step_bd (c : Nat → Nat) (len i j : Nat) (hj : j < 32) : (val c len i j : Int) ≤ 4294967295 ∧ (1 : Int) ≤ 2 ^ j ∧ (2 : Int) ^ j ≤ 2147483648 := by
  have h1 : (2 : Nat) ^ j ≤ 2 ^ 31 := Nat.pow_le_pow_right (by omega) (by omega)
  have h2 : 0 < (2 : Nat) ^ j := Nat.pow_pos (by omega)
  have h3 : ((2 ^ j : Nat) : Int) = (2 : Int) ^ j := by simp
  have h4 : (2 : Nat) ^ 31 = 2147483648 := by decide
  have h5 := val_lt c len i j
  omega
theorem mul1_bd (x : Nat) (p : Int) (hx : x ≤ 1) (h : 1 ≤ p) (h' : p ≤ 2147483648) : 0 ≤ (x : Int) * p ∧ (x : Int) * p ≤ 2147483648 := by
  match x, hx with
  | 0, _ => simp
  | 1, _ => simp; omega
set_option maxHeartbeats 400000 in
theorem num_on (e b len cap i n : Nat) (c : Nat → Nat) (hc : ∀ k, c k ≤ 255) (w : World) (h : Box w e 61 #[.slice (some ⟨b, 0, none⟩) (8 * len : Nat) cap, .int .i64 i, .bool false])
    (hb : ∀ k, k < 8 * len → w.cell? ⟨b, k, none⟩ = some (.int .u8 (bt c k))) (hbe : b ≠ e) (bw : b < w.heap.size) (hl : len ≤ 100000) (n0 : 1 ≤ n) (n1 : n ≤ 32) (hn : i + n ≤ 8 * len) :
    Calls Try.prog 32 #[.pointer (some ⟨e, 0, none⟩), .int .i64 n] w fun r w' => r = .returned (.int .i64 (val c len i n)) ∧ Box w' e 61 #[.slice (some ⟨b, 0, none⟩) (8 * len : Nat) cap, .int .i64 ((i + n : Nat) : Int), .bool false] ∧ Upd (fun k => k = e) w w' := by
  have h0 := h.cell 0
  have h1 := h.cell 1
  have h2 := h.cell 2
  simp at h0 h1 h2
  have H := hide h
  have n0' : 0 < n := by omega
  generalize hLL : 8 * len = L at *
  have hd : ¬ ((L : Int) - (i : Int) < (n : Int)) := by omega
  have hL : L ≤ 800000 := by omega
  have BT := hide (fun j (hj : j < L) => bt_val c hc len j (by omega))
  have LL := hide hLL
  clear h hLL
  go_enter Try.func32, Try.ntmps32
  go_wp2
  go_quiet (fail)
  go_wp2
  go_loopw [5, 6] (fun v k wr => ∃ j : Nat, j ≤ n ∧ k = .int .i64 j ∧ v = .int .i64 (val c len i j) ∧ Box wr e 61 #[.slice (some ⟨b, 0, none⟩) L cap, .int .i64 ((i + j : Nat) : Int), .bool false] ∧ Upd (fun k => k = e) w wr) (fun _ k _ => n - (intOf k).toNat)
  case atStart => exact ⟨0, by omega, rfl, by simp [val, Nat.mod_one], (unhide H).drewN _, (Upd.refl _ _).drewN _⟩
  case round =>
    obtain ⟨j, hj, rfl, rfl, bx, up⟩ := hrel
    clear h0 h1 h2
    have h0 := bx.cell 0
    have h1 := bx.cell 1
    have f1 := bx.free 1
    simp at h0 h1
    have BX := hide bx
    have UP := hide up
    have eij : (i : Int) + (j : Int) = ((i + j : Nat) : Int) := by omega
    rw [eij] at h1
    by_cases hlt : j < n
    · have hlt' : (j : Int) < (n : Int) := by omega
      have hcell : wr.cell? ⟨b, i + j, none⟩ = some (.int .u8 (bt c (i + j))) := (up.cell (p := ⟨b, i + j, none⟩) bw hbe).trans (hb (i + j) (by omega))
      have V := hide (val_add c len i j 1)
      rw [unhide BT (i + j) (by omega)] at V
      have tb := bt_le c (i + j)
      obtain ⟨s1, s2, s3⟩ := step_bd c len i j (by omega)
      obtain ⟨s4, s5⟩ := mul1_bd _ _ tb s2 s3
      clear bx up hb eij
      generalize bt c (i + j) = x at *
      generalize hp : i + j = p at *
      have hp1 : p < L := by omega
      have HP := hide hp
      clear hp
      go_wp2
      go_quiet (fail)
      go_wp2
      go_roundw
      case rel =>
        have e2 : ((i + (j + 1) : Nat) : Int) = (p : Int) + 1 := by have := unhide HP; omega
        refine ⟨j + 1, by omega, by go_num, by rw [unhide V]; simp, ?_, ?_⟩
        · rw [e2]; exact ((unhide BX).drewN _).set 1 _
        · exact ((unhide UP).drewN _).setCell (p := ⟨e, 1, none⟩) rfl _
      case measure => simp [intOf]; omega
    · have e1 : j = n := by omega
      subst e1
      go_wp2
      go_ret
      exact ⟨rfl, unhide BX, unhide UP⟩
/-- An eye in a state. -/
def Eyes (w : World) (lo hi e : Nat) (c : Nat → Nat) (len : Nat) (s : Option Nat) : Prop :=
  match s with | some i => Sees w lo hi e c len i false | none => ∃ i, Sees w lo hi e c len i true
theorem Eyes.keep {S : Nat → Prop} {w w' : World} {lo hi e len : Nat} {s : Option Nat} {c : Nat → Nat} (h : Eyes w lo hi e c len s) (u : Upd S w w') (hs : ∀ k, lo ≤ k → k < hi → ¬ S k) : Eyes w' lo hi e c len s := by
  cases s with
  | some i => exact Sees.keep h u hs
  | none =>
    obtain ⟨i, h⟩ := h
    exact ⟨i, Sees.keep h u hs⟩
theorem Sees.le {w : World} {lo hi g len i : Nat} {sh : Bool} {c : Nat → Nat} (h : Sees w lo hi g c len i sh) : i ≤ 8 * len := by
  obtain ⟨_, _, _, _, _, _, h, _⟩ := h; exact h
/-- A new box at the same place: the rest stands. -/
theorem Sees.turn {w w' : World} {lo hi e len i i' : Nat} {sh sh' : Bool} {c : Nat → Nat} (h : Sees w lo hi e c len i sh) (u : Upd (fun k => k = e) w w') (hi' : i' ≤ 8 * len)
    (hb : ∀ a cap, Box w e 61 #[.slice a (8 * len : Nat) cap, .int .i64 i, .bool sh] → Box w' e 61 #[.slice a (8 * len : Nat) cap, .int .i64 i', .bool sh']) : Sees w' lo hi e c len i' sh' := by
  obtain ⟨a, cap, h0, h1, h2, h3, h4, h5⟩ := h
  refine ⟨a, cap, hb a cap h0, h1, h2, Nat.le_trans h3 u.size, hi', ?_⟩
  rcases h5 with h5 | ⟨b, e, b1, b2, b3, b4⟩
  · exact .inl h5
  · exact .inr ⟨b, e, b1, b2, b3, fun k hk => (u.cell (p := ⟨b, k, none⟩) (Nat.lt_of_lt_of_le b2 h3) b3).trans (b4 k hk)⟩
theorem box_inj {w : World} {g : Nat} {T T' : TypeId} {vs vs' : Array Value} (h : Box w g T vs) (h' : Box w g T' vs') : vs = vs' := by
  unfold Box at h h'
  rw [h] at h'
  cases h'; rfl
theorem num_step (lo hi e len n : Nat) (s : Option Nat) (c : Nat → Nat) (hc : ∀ k, c k ≤ 255) (w : World) (h : Eyes w lo hi e c len s) (hl : len ≤ 100000) (n1 : n ≤ 32) :
    Calls Try.prog 32 #[.pointer (some ⟨e, 0, none⟩), .int .i64 n] w fun r w' => r = .returned (.int .i64 (resV c len s n)) ∧ Eyes w' lo hi e c len (stp len s n) ∧ Upd (fun k => k = e) w w' := by
  by_cases h0 : n = 0
  · subst h0
    refine (num_zero e w).mono ?_
    rintro r w1 ⟨rfl, k, rfl⟩
    refine ⟨?_, ?_, (Upd.refl _ _).drewN _⟩
    · cases s with
      | none => rfl
      | some i => simp [resV, val, Nat.mod_one]
    · exact Eyes.keep h ((Upd.refl (fun _ => False) w).drewN k) (fun _ _ _ h => h)
  · cases s with
    | none =>
      obtain ⟨i, h⟩ := h
      obtain ⟨a, cap, b0, _⟩ := id h
      refine (num_short e _ _ n w b0 (by omega) n1).mono ?_
      rintro r w1 ⟨rfl, o, u⟩
      refine ⟨by simp [resV], ?_, u⟩
      simp only [stp, h0]
      exact ⟨i, Sees.turn h u (Sees.le h) (fun a' cap' b' => by rw [box_inj b' b0]; exact o)⟩
    | some i =>
      have h' : Sees w lo hi e c len i false := h
      by_cases hn : i + n ≤ 8 * len
      · obtain ⟨a, cap, b0, l1, l2, l3, l4, l5⟩ := id h'
        rcases l5 with l5 | ⟨b, rfl, m1, m2, m3, m4⟩
        · omega
        refine (num_on e b len cap i n c hc w b0 m4 m3 (by omega) hl (by omega) n1 hn).mono ?_
        rintro r w1 ⟨rfl, o, u⟩
        refine ⟨by simp [resV, hn], ?_, u⟩
        simp only [stp, h0, hn]
        exact Sees.turn h' u hn (fun a' cap' b' => by
          have := box_inj b' b0
          simp at this
          rw [this.1, this.2]; exact o)
      · obtain ⟨a, cap, b0, _⟩ := id h'
        refine (num_end e a (8 * len) cap i n w b0 (by omega) (Sees.le h') (by omega) n1 (by omega)).mono ?_
        rintro r w1 ⟨rfl, o, u⟩
        refine ⟨by simp [resV, hn], ?_, u⟩
        simp only [stp, h0, hn]
        exact ⟨i, Sees.turn h' u (Sees.le h') (fun a' cap' b' => by
          have := box_inj b' b0
          simp at this
          rw [this.1, this.2]; exact o)⟩
end Go.Proofs.Ytlejicikgmanfaa.Eyes
