/- Contracts: package bitout: New, Bits, Len, Bytes, by the number that the writer has written. Conditions: the writer lies in memory, its bits are few. -/
import Derived.Test.YtgjpcjnhggcfdaaDoorAdd
namespace Go.Proofs.YtgjpcjnhggcfdaaDoor.Wri
open Go.ChangeShapes Go.WideShapes Go.ChangeAt Go.RowKit Go.Proofs.YtgjpcjnhggcfdaaDoor.Core Go.Proofs.YtgjpcjnhggcfdaaDoor.Foot Go.Proofs.YtgjpcjnhggcfdaaDoor.Add

set_option maxRecDepth 100000 in
set_option maxHeartbeats 1000000 in
theorem len32 (x : Int) (w : World) (h0 : 0 ≤ x) (h1 : x ≤ 4294967295) :
    Calls Tryd.prog 45 #[.int .u32 x] w fun e w' => e = .returned (.int .i64 (bitLen x.toNat)) ∧ w' = w := by
  go_enter Tryd.func45, Tryd.ntmps45
  go_wp2
  all_goals (go_ret; refine ⟨congrArg Ending.returned (congrArg (Value.int IntKind.i64) ?_), rfl⟩)
  · rw [len8tab_get, show (x / 65536 / 256).toNat = x.toNat / 2 ^ 24 by omega]
    have l := bitLen_le8 (x.toNat / 2 ^ 24) (by omega)
    rw [bitLen_shift x.toNat 24 (by omega)]
    unfold wrap64
    omega
  · rw [len8tab_get, show (x / 65536).toNat = x.toNat / 2 ^ 16 by omega]
    have l := bitLen_le8 (x.toNat / 2 ^ 16) (by omega)
    rw [bitLen_shift x.toNat 16 (by omega)]
    unfold wrap64
    omega
  · rw [len8tab_get, show (x / 256).toNat = x.toNat / 2 ^ 8 by omega]
    have l := bitLen_le8 (x.toNat / 2 ^ 8) (by omega)
    rw [bitLen_shift x.toNat 8 (by omega)]
    unfold wrap64
    omega
  · rw [len8tab_get]
    have l := bitLen_le8 x.toNat (by omega)
    unfold wrap64
    omega
theorem bitLen_gt (v n : Nat) : n < bitLen v ↔ 2 ^ n ≤ v := by
  obtain ⟨h1, h2⟩ := bitLen_spec v
  constructor
  · intro h
    have h0 : v ≠ 0 := fun e => by subst e; simp [bitLen] at h
    exact Nat.le_trans (Nat.pow_le_pow_right (by omega) (by omega)) (h2 h0)
  · intro h
    exact (Nat.pow_lt_pow_iff_right (a := 2) (by omega)).1 (Nat.lt_of_le_of_lt h h1)
set_option maxHeartbeats 400000 in
theorem new8 (w : World) :
    Calls Tryd.prog 10 #[] w fun e w' => ∃ g, e = .returned (.pointer (some ⟨g, 0, none⟩)) ∧ w.heap.size ≤ g ∧ Wr w' g (.slice none 0 0) 0 0 ∧ Below w.heap.size w w' := by
  go_enter Tryd.func10, Tryd.ntmps10
  go_wp2
  go_ret
  refine ⟨w.heap.size, rfl, Nat.le_refl _, ⟨⟨Box.made _ _ _, World.ownsRow_nil _ _ _ _, by simp [Value.ownBlock]⟩, by decide⟩, (Below.refl _ w).alloc (Nat.le_refl _) _⟩
set_option maxHeartbeats 400000 in
theorem bits_nil (v n : Int) (w : World) :
    Calls Tryd.prog 27 #[.pointer none, .int .u32 v, .int .i64 n] w fun e w' => e = .returned (.bool false) ∧ w' = w := by
  go_enter Tryd.func27, Tryd.ntmps27
  go_wp2
  go_ret
  exact ⟨rfl, rfl⟩
set_option maxHeartbeats 400000 in
theorem bits_arg (g : Nat) (v n : Int) (w : World) (h : n < 0 ∨ 32 < n) :
    Calls Tryd.prog 27 #[.pointer (some ⟨g, 0, none⟩), .int .u32 v, .int .i64 n] w fun e w' => e = .returned (.bool false) ∧ w' = w := by
  rcases h with h | h
  · go_enter Tryd.func27, Tryd.ntmps27
    go_wp2
    go_ret
    exact ⟨rfl, rfl⟩
  · have h' : 0 ≤ n := by omega
    go_enter Tryd.func27, Tryd.ntmps27
    go_wp2
    go_ret
    exact ⟨rfl, rfl⟩
set_option maxHeartbeats 400000 in
theorem bits_much (g : Nat) (v n : Nat) (w : World) (hv : v ≤ 4294967295) (n1 : n ≤ 32) (h : 2 ^ n ≤ v) :
    Calls Tryd.prog 27 #[.pointer (some ⟨g, 0, none⟩), .int .u32 v, .int .i64 n] w fun e w' => e = .returned (.bool false) ∧ w' = w := by
  have L := hide (len32 (v : Int) w (by omega) (by omega))
  have hb := (bitLen_gt v n).2 h
  have n1' : (n : Int) ≤ 32 := by omega
  rw [show ((v : Int)).toNat = v from rfl] at L
  generalize bitLen v = b at *
  have hb' : (n : Int) < (b : Int) := by omega
  go_enter Tryd.func27, Tryd.ntmps27
  go_wp2_with (first | (go_at_call 45; refine (unhide L).mono ?_; rintro e w1 ⟨rfl, rfl⟩) | fail)
  go_ret
  exact ⟨rfl, rfl⟩
set_option maxHeartbeats 400000 in
theorem bits_yes (g : Nat) (u : Value) (V N v n : Nat) (w : World) (h : Wr w g u V N) (hn : n ≤ 32) (hv : v < 2 ^ n) (hN : N ≤ 1000000) :
    Calls Tryd.prog 27 #[.pointer (some ⟨g, 0, none⟩), .int .u32 v, .int .i64 n] w fun e w' => e = .returned (.bool true) ∧ ∃ u', Wr w' g u' (V + v * 2 ^ N) (N + n) ∧ Turn g u u' (N / 8) w w' := by
  have hv32 : v < 4294967296 := Nat.lt_of_lt_of_le hv (Nat.pow_le_pow_right (j := 32) (by omega) hn)
  have L := hide (len32 (v : Int) w (by omega) (by omega))
  have A := hide (add16 g u V N v n w h hn hv hN)
  have hb : ¬ n < bitLen v := fun h => by have := (bitLen_gt v n).1 h; omega
  have n1' : (n : Int) ≤ 32 := by omega
  rw [show ((v : Int)).toNat = v from rfl] at L
  generalize bitLen v = b at *
  have hb' : (b : Int) ≤ (n : Int) := by omega
  have hv' : (v : Int) ≤ 4294967295 := by omega
  clear h
  go_enter Tryd.func27, Tryd.ntmps27
  go_wp2_with (first | (go_at_call 45; refine (unhide L).mono ?_; rintro e w1 ⟨rfl, rfl⟩) | fail)
  refine (unhide A).mono ?_
  rintro e w1 ⟨rfl, R⟩
  have RR := hide R
  clear R A L
  go_wp2
  go_ret
  exact ⟨rfl, unhide RR⟩
set_option maxHeartbeats 400000 in
theorem len_nil (w : World) :
    Calls Tryd.prog 12 #[.pointer none] w fun e w' => e = .returned (.int .i64 0) ∧ w' = w := by
  go_enter Tryd.func12, Tryd.ntmps12
  go_wp2
  go_ret
  exact ⟨rfl, rfl⟩
set_option maxHeartbeats 400000 in
theorem len_at (g : Nat) (u : Value) (V N : Nat) (w : World) (h : Wr w g u V N) (hN : N ≤ 1000000) :
    Calls Tryd.prog 12 #[.pointer (some ⟨g, 0, none⟩)] w fun e w' => e = .returned (.int .i64 N) ∧ ∃ k, w' = w.drewN k := by
  obtain ⟨a, cap, rfl⟩ := own_slice h.raw.own
  have bx := h.raw.box
  clear h
  have e : (N / 8 : Nat) * 8 + N % 8 = N := by omega
  generalize N % 8 = c at *
  generalize V / 2 ^ (8 * (N / 8)) = r at *
  generalize N / 8 = K at *
  have h0 := bx.cell 0
  have h2 := bx.cell 2
  simp at h0 h2
  have k1 : (K : Int) ≤ 200000 := by omega
  have k2 : (c : Int) ≤ 1000000 := by omega
  have E := hide e
  clear bx e
  go_enter Tryd.func12, Tryd.ntmps12
  go_wp2
  go_quiet (fail)
  go_wp2
  go_ret
  exact ⟨ret_int (by have := unhide E; omega), _, rfl⟩
end Go.Proofs.YtgjpcjnhggcfdaaDoor.Wri
