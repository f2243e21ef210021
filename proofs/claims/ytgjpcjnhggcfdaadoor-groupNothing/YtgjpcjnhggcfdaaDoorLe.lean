/- Contracts: le.isWidth, le.Blocks and le.Get as other layers call them. Conditions: the numbers are within their bounds, the slice reads as bytes. -/
import Derived.Test.YtgjpcjnhggcfdaaDoorCore
namespace Go.Proofs.YtgjpcjnhggcfdaaDoor.Le
open Go.ChangeShapes Go.WideShapes Go.ChangeAt Go.RowKit Go.Proofs.YtgjpcjnhggcfdaaDoor.Core

/-- The number of n bytes from p on, the lowest first. -/
def leN (c : Nat → Int) : Nat → Nat → Int
  | _, 0 => 0
  | p, n + 1 => c p + 256 * leN c (p + 1) n
theorem leN_bd (c : Nat → Int) (hc : ∀ k, 0 ≤ c k ∧ c k ≤ 255) : ∀ (n p : Nat), 0 ≤ leN c p n ∧ leN c p n < 256 ^ n
  | 0, p => by simp [leN]
  | n + 1, p => by
    have := leN_bd c hc n (p + 1)
    have h := hc p
    rw [leN, Int.pow_succ]; omega
theorem leN_bd7 (c : Nat → Int) (hc : ∀ k, 0 ≤ c k ∧ c k ≤ 255) (n p : Nat) (hn : n ≤ 7) : 0 ≤ leN c p n ∧ leN c p n < 72057594037927936 := by
  have h := leN_bd c hc n p
  have h1 : (256 : Nat) ^ n ≤ 256 ^ 7 := Nat.pow_le_pow_right (by omega) hn
  have h2 : (256 : Nat) ^ 7 = 72057594037927936 := by decide
  have h3 : ((256 ^ n : Nat) : Int) = (256 : Int) ^ n := by simp
  omega
theorem or_add (a b : Int) (h1 : 0 ≤ a) (h2 : a < 72057594037927936) (h3 : 0 ≤ b) (h4 : b ≤ 255) : bits .or .u64 (a * 256) b = a * 256 + b := by
  rw [u64_or _ _ (by omega) (by omega) (by omega) (by omega), nat_join 8 _ _ (by omega) (by omega)]; omega

set_option maxHeartbeats 400000 in
theorem width_yes (n : Int) (w : World) (h0 : 1 ≤ n) (h1 : n ≤ 8) :
    Calls Tryd.prog 74 #[.int .i64 n] w fun e w' => e = .returned (.bool true) ∧ w' = w := by
  go_enter Tryd.func74, Tryd.ntmps74
  go_wp2
  go_ret
  exact ⟨rfl, rfl⟩
set_option maxHeartbeats 400000 in
theorem blk19 (n : Int) (w : World) (h0 : 0 ≤ n) (h1 : n ≤ 100) :
    Calls Tryd.prog 68 #[.int .i64 n, .int .i64 3] w fun e w' => e = .returned (.int .i64 ((n + 7) / 8)) ∧ w' = w := by
  go_enter Tryd.func68, Tryd.ntmps68
  go_wp2
  go_ret
  exact ⟨ret_int (by omega), rfl⟩
set_option maxHeartbeats 400000 in
theorem get18_yes (b off len cap : Nat) (c : Nat → Int) (at_ n : Nat) (w : World) (hl : len ≤ maxLen)
    (hc : ∀ k, k < len → w.cell? ⟨b, off + k, none⟩ = some (.int .u8 (c k))) (hb : ∀ k, 0 ≤ c k ∧ c k ≤ 255)
    (h0 : 1 ≤ n) (h1 : n ≤ 8) (h2 : at_ + n ≤ len) :
    Calls Tryd.prog 67 #[.slice (some ⟨b, off, none⟩) len cap, .int .i64 at_, .int .i64 n] w fun e w' => e = .returned (.tuple #[.int .u64 (leN c at_ n), .bool true]) ∧ w' = w := by
  unfold maxLen at hl
  go_enter Tryd.func67, Tryd.ntmps67
  go_wp2_with (go_at_call 74; refine (width_yes _ _ (by omega) (by omega)).mono ?_; rintro e w' ⟨rfl, rfl⟩)
  go_loop [8, 9] (fun v i => ∃ j : Nat, j ≤ n ∧ i = .int .i64 ((j : Int) - 1) ∧ v = .int .u64 (leN c (at_ + j) (n - j))) (fun _ i => (intOf i + 1).toNat)
  case atStart => exact ⟨n, Nat.le_refl _, rfl, by simp [leN]⟩
  case round =>
    obtain ⟨j, hj, rfl, rfl⟩ := hrel
    rcases j with _ | j
    · go_wp2
      go_ret2
      exact ⟨rfl, rfl⟩
    · have e1 : ((j + 1 : Nat) : Int) - 1 = (j : Int) := by omega
      rw [e1]
      clear e1
      have g := hc (at_ + j) (by omega)
      have gb := hb (at_ + j)
      have vb := leN_bd7 c hb (n - (j + 1)) (at_ + (j + 1)) (by omega)
      have S : Hid (leN c (at_ + j) (n - j) = c (at_ + j) + 256 * leN c (at_ + (j + 1)) (n - (j + 1))) := by
        show _ = _
        rw [show n - j = (n - (j + 1)) + 1 from by omega, leN]; rfl
      generalize leN c (at_ + (j + 1)) (n - (j + 1)) = v at *
      generalize c (at_ + j) = x at *
      have O := hide (or_add v x vb.1 vb.2 gb.1 gb.2)
      clear hc hb
      go_wp2
      go_round
      case rel => exact ⟨j, by omega, by go_num, by rw [unhide S, unhide O]; go_num⟩
      case measure => simp [intOf]
end Go.Proofs.YtgjpcjnhggcfdaaDoor.Le
