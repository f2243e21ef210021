/- Contracts: le.Put and ref.Put answer a number's bytes, the lowest first, in new memory, or nil and false. Conditions: the number fits uint64. -/
import Derived.Test.YtenhoipnenmeaaaGet
namespace Go.Proofs.Ytenhoipnenmeaaa.Put
set_option linter.unusedVariables false
open Go.ChangeShapes Go.WideShapes Go.ChangeAt Go.RowKit Go.Proofs.Ytenhoipnenmeaaa.Prod Go.Proofs.Ytenhoipnenmeaaa.Blk Go.Proofs.Ytenhoipnenmeaaa.Get

/-- Byte k of v. -/
def dig (v : Int) (k : Nat) : Int := v / 256 ^ k % 256
/-- The first n bytes of v, as cells. -/
def cells (v : Int) (n : Nat) : List Value := (List.range n).map fun k => Value.int .u8 (dig v k)
theorem cells_len (v : Int) (n : Nat) : (cells v n).length = n := by simp [cells]
theorem cells_succ (v : Int) (n : Nat) : cells v (n + 1) = cells v n ++ [.int .u8 (dig v n)] := by simp [cells, List.range_succ]
theorem cells_at (v : Int) (n k : Nat) (h : k < n) : (cells v n)[k]? = some (.int .u8 (dig v k)) := by simp [cells, h]
theorem set_at (a : List Value) (x y : Value) (b : List Value) (k : Nat) (h : a.length = k) : (a ++ x :: b).set k y = (a ++ [y]) ++ b := by
  subst h; simp
theorem fill_step (v : Int) (n k : Nat) (h : k < n) : (cells v k ++ List.replicate (n - k) (Value.int .u8 0)).set k (.int .u8 (dig v k)) = cells v (k + 1) ++ List.replicate (n - (k + 1)) (.int .u8 0) := by
  rw [show n - k = (n - (k + 1)) + 1 from by omega, List.replicate_succ, set_at _ _ _ _ _ (cells_len v k), cells_succ]
theorem div_step (v : Int) (k : Nat) : v / 256 ^ k / 256 = v / 256 ^ (k + 1) := by
  rw [Int.pow_succ, Int.ediv_ediv_of_nonneg (Int.pow_nonneg (by omega))]
theorem div_bd (v : Int) (k : Nat) (h : 0 ≤ v) : 0 ≤ v / 256 ^ k ∧ v / 256 ^ k ≤ v := ⟨Int.ediv_nonneg h (Int.pow_nonneg (by omega)), Int.ediv_le_self _ h⟩
theorem div_zero (v : Int) (n : Nat) (h : 0 ≤ v) (hv : v < 256 ^ n) : v / 256 ^ n = 0 := Int.ediv_eq_zero_of_lt h hv
theorem div_some (v : Int) (n : Nat) (hv : 256 ^ n ≤ v) : 1 ≤ v / 256 ^ n := by
  have h : (0 : Int) < 256 ^ n := Int.pow_pos (by omega)
  exact (Int.le_ediv_iff_mul_le h).2 (by omega)
theorem Try.info5 : (Try.prog.info? 5).map (fun i => (i.zero, i.size, i.bytes)) = some (some (.int .u8 0), 1, 1) := by kernel_rfl

set_option maxHeartbeats 400000 in
theorem put11_no (v n : Int) (w : World) (h : n < 1 ∨ 8 < n) :
    Calls Try.prog 11 #[.int .u64 v, .int .i64 n] w fun e w' => e = .returned (.tuple #[.slice none 0 0, .bool false]) ∧ w' = w := by
  go_enter Try.func11, Try.ntmps11
  go_wp2_with (go_at_call 18; refine (width_no _ _ (by omega)).mono ?_; rintro e w' ⟨rfl, rfl⟩)
  go_ret2
  exact ⟨rfl, rfl⟩

set_option maxHeartbeats 400000 in
theorem put11_yes (v : Int) (n : Nat) (w : World) (h1 : 1 ≤ n) (h2 : n ≤ 8) (v0 : 0 ≤ v) (v1 : v ≤ 18446744073709551615) :
    Calls Try.prog 11 #[.int .u64 v, .int .i64 n] w fun e w' => (v < 256 ^ n ∧ e = .returned (.tuple #[.slice (some ⟨w.heap.size, 0, none⟩) n n, .bool true]) ∨ 256 ^ n ≤ v ∧ e = .returned (.tuple #[.slice none 0 0, .bool false])) ∧
      w'.ownsRow w.heap.size 5 1 (.slice (some ⟨w.heap.size, 0, none⟩) n n) n (cells v n) ∧ Below w.heap.size w w' := by
  obtain ⟨i0, hi, hz0, hz1, hz2⟩ := info_parts Try.info5
  go_enter Try.func11, Try.ntmps11
  go_wp2_with (first | (go_at_call 18; refine (width_yes _ _ (by omega) (by omega)).mono ?_; rintro e w' ⟨rfl, rfl⟩) | (at_make; refine wpList_make_full _ rfl _ _ 22 rfl w'.heap.size 5 i0 (.int .u8 0) 1 Try.underlying22 hi hz0 hz1 .i64 .i64 _ _ n rfl rfl rfl rfl (by rw [hz2]; omega) (by unfold maxLen; omega) (Nat.le_refl _) ?_; intro w1 hown1 hgrow1))
  have hown0 : w1.ownsRow w'.heap.size 5 1 (.slice (some ⟨w'.heap.size, 0, none⟩) n n) n (cells v 0 ++ List.replicate (n - 0) (Value.int .u8 0)) := by
    have e : (madeCells (Value.int .u8 0).cells (n * 1)).toList = cells v 0 ++ List.replicate (n - 0) (Value.int .u8 0) := by
      rw [Nat.mul_one]; exact toList_madeCells_one _ _
    rw [← e]; exact hown1
  have hbel0 : Below w'.heap.size w' w1 := (Below.refl _ _).grown hgrow1 (Nat.le_refl _) (fun k hk => by cases hk)
  clear hown1 hgrow1 hi hz0 hz1 hz2
  go_loopw [0, 7] (fun x i wr => ∃ k : Nat, k ≤ n ∧ i = .int .i64 k ∧ x = .int .u64 (v / 256 ^ k) ∧ wr.ownsRow w'.heap.size 5 1 (.slice (some ⟨w'.heap.size, 0, none⟩) n n) n (cells v k ++ List.replicate (n - k) (Value.int .u8 0)) ∧ Below w'.heap.size w' wr) (fun _ i _ => n - (intOf i).toNat)
  case atStart => exact ⟨0, Nat.zero_le _, rfl, by simp, hown0, hbel0⟩
  case round =>
    obtain ⟨k, hk, rfl, rfl, hown, hbel⟩ := hrel
    clear hown0 hbel0
    obtain ⟨d0, d1⟩ := div_bd v k v0
    by_cases hlt : k < n
    · have hst := hown.stored k (.int .u8 (dig v k))
      rw [fill_step v n k hlt] at hst
      have hfz := hown.frozenAt k
      have hcl := hown.cellAt k (by omega)
      have hc : ∃ y, wr.cell? ⟨w'.heap.size, k, none⟩ = some y := by
        rw [hcl]; exact ⟨_, List.getElem?_eq_getElem (by rw [List.length_append, cells_len, List.length_replicate]; omega)⟩
      obtain ⟨y, hy⟩ := hc
      have S := hide (div_step v k)
      have D : Hid (dig v k = v / 256 ^ k % 256) := rfl
      have HST := hide hst
      have HB := hide hbel
      clear hst hcl hbel hown
      generalize v / 256 ^ k = x at *
      go_wp2
      go_roundw
      case rel =>
        rw [← D.out]
        exact ⟨k + 1, by omega, by go_num, by rw [unhide S], (unhide HST).1, (unhide HB).setCell (Nat.le_refl _) _⟩
      case measure => simp [intOf]; omega
    · have e : k = n := by omega
      subst e
      rw [Nat.sub_self, List.replicate_zero, List.append_nil] at hown
      have HO := hide hown
      have HB := hide hbel
      clear hown hbel
      by_cases hv : v < 256 ^ k
      · have z := div_zero v k v0 hv
        have HV := hide hv
        clear hv
        rw [z]
        clear z d0 d1
        go_wp2
        go_ret2
        exact ⟨.inl ⟨unhide HV, rfl⟩, unhide HO, unhide HB⟩
      · have hv' : 256 ^ k ≤ v := by omega
        have z := div_some v k hv'
        have HV := hide hv'
        clear hv hv'
        generalize v / 256 ^ k = x at *
        have z' : (x != 0) = true := by simp; omega
        go_wp2
        go_ret2
        exact ⟨.inr ⟨unhide HV, rfl⟩, unhide HO, unhide HB⟩

set_option maxHeartbeats 400000 in
theorem put12_no (v n : Int) (w : World) (h : n < 1 ∨ 8 < n) :
    Calls Try.prog 12 #[.int .u64 v, .int .i64 n] w fun e w' => e = .returned (.tuple #[.slice none 0 0, .bool false]) ∧ w' = w := by
  go_enter Try.func12, Try.ntmps12
  go_wp2
  all_goals go_ret2
  all_goals exact ⟨rfl, rfl⟩

set_option maxHeartbeats 400000 in
theorem put12_yes (v : Int) (n : Nat) (w : World) (h1 : 1 ≤ n) (h2 : n ≤ 8) (v0 : 0 ≤ v) (v1 : v ≤ 18446744073709551615) :
    Calls Try.prog 12 #[.int .u64 v, .int .i64 n] w fun e w' => (v < 256 ^ n ∧ (∃ s, e = .returned (.tuple #[s, .bool true]) ∧ w'.ownsRow w.heap.size 5 1 s n (cells v n)) ∨ 256 ^ n ≤ v ∧ e = .returned (.tuple #[.slice none 0 0, .bool false])) ∧
      Below w.heap.size w w' := by
  obtain ⟨i0, hi, hz0, hz1, hz2⟩ := info_parts Try.info5
  go_enter Try.func12, Try.ntmps12
  go_wp2
  go_loopw [0, 6, 7] (fun x s i wr => ∃ k : Nat, k ≤ n ∧ i = .int .i64 k ∧ x = .int .u64 (v / 256 ^ k) ∧ wr.ownsRow w.heap.size 5 1 s k (cells v k) ∧ Below w.heap.size w wr) (fun _ _ i _ => n - (intOf i).toNat)
  case atStart => exact ⟨0, Nat.zero_le _, rfl, by simp, World.ownsRow_nil _ _ _ _, Below.refl _ _⟩
  case round =>
    obtain ⟨k, hk, rfl, rfl, hown, hbel⟩ := hrel
    obtain ⟨d0, d1⟩ := div_bd v k v0
    by_cases hlt : k < n
    · have S := hide (div_step v k)
      have D : Hid (dig v k = v / 256 ^ k % 256) := rfl
      have C := hide (cells_succ v k)
      have HB := hide hbel
      have hsz := hbel.size
      clear hbel
      generalize v / 256 ^ k = x at *
      go_wp2_with (at_builtin; refine wpList_append_own _ rfl _ _ 22 rfl w.heap.size 5 i0 (.int .u8 0) 1 1 Try.underlying22 hi hz0 hz1 hz2 rfl (by decide) _ _ _ rfl (hown.alloc _) ⟨wr.heap.size, 0, none⟩ 1 1 [.int .u8 (x % 256)] rfl rfl ?c1 ?c2 ?c3 ?c4 ?c5 ?_)
      case c1 =>
        intro j u hj
        match j, hj with
        | 0, hj => simp at hj; subst hj; simp [Addr.add]
      case c2 => intro u hu; simp at hu; subst hu; rfl
      case c3 => unfold maxLen; omega
      case c4 => omega
      case c5 => simp; omega
      · intro v' w1 hown' hgrow _
        rw [← D.out, ← unhide C] at hown'
        have hb' : Below w.heap.size w w1 := ((unhide HB).alloc hsz _).grown hgrow (by simp; omega) (fun g hg => (hown.lt g hg).1)
        have HO := hide hown'
        have HB' := hide hb'
        clear hown' hgrow hb' hown
        go_wp2
        go_roundw
        case rel => exact ⟨k + 1, by omega, by go_num, by rw [unhide S], unhide HO, unhide HB'⟩
        case measure => simp [intOf]; omega
    · have e : k = n := by omega
      subst e
      have HO := hide hown
      have HB := hide hbel
      clear hown hbel
      by_cases hv : v < 256 ^ k
      · have z := div_zero v k v0 hv
        have HV := hide hv
        clear hv
        rw [z]
        clear z d0 d1
        go_wp2
        go_ret2
        exact ⟨.inl ⟨unhide HV, _, rfl, unhide HO⟩, unhide HB⟩
      · have hv' : 256 ^ k ≤ v := by omega
        have z := div_some v k hv'
        have HV := hide hv'
        clear hv hv'
        generalize v / 256 ^ k = x at *
        have z' : (x != 0) = true := by simp; omega
        go_wp2
        go_ret2
        exact ⟨.inr ⟨unhide HV, rfl⟩, unhide HB⟩
end Go.Proofs.Ytenhoipnenmeaaa.Put
