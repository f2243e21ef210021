/-
  Contracts: lens.Read of one symbol or two told by hand, well or not; sums of such lengths. Conditions: the bits are there.
-/
import Derived.Test.YtaidboopcoaeeaaDoorC17
namespace Go.Proofs.YtaidboopcoaeeaaDoor.Lsa
open Go.ChangeShapes Go.WideShapes Go.ChangeAt Go.RowKit Go.Proofs.YtaidboopcoaeeaaDoor.Core Go.Proofs.YtaidboopcoaeeaaDoor.Gnd Go.Proofs.YtaidboopcoaeeaaDoor.Math Go.Proofs.YtaidboopcoaeeaaDoor.Dec Go.Proofs.YtaidboopcoaeeaaDoor.Ord Go.Proofs.YtaidboopcoaeeaaDoor.Lsp Go.Proofs.YtaidboopcoaeeaaDoor.Lrh Go.Proofs.YtaidboopcoaeeaaDoor.Foot Go.Proofs.YtaidboopcoaeeaaDoor.Bitin Go.Proofs.YtaidboopcoaeeaaDoor.Eyes Go.Proofs.YtaidboopcoaeeaaDoor.Rsa Go.Proofs.YtaidboopcoaeeaaDoor.Rsg Go.Proofs.YtaidboopcoaeeaaDoor.Rsh

theorem get_one_bad (rl rh r bl n a : Nat) (bc : Nat → Nat) (hc : ∀ k, bc k ≤ 255) (hbl : bl ≤ 100000) (w : World) (at_ : At w rl rh r bc bl (some 0)) (hr : rl ≤ r ∧ r < rh ∧ rh ≤ w.heap.size) (hn1 : 1 ≤ n) (hn : n ≤ 4096)
    (h0 : nb (num bc 0 bl) 0 1 = 1) (h1 : nb (num bc 0 bl) 1 1 = 0) (h2 : nb (num bc 0 bl) 2 1 = 1) (h3 : nb (num bc 0 bl) 3 8 = a) (hq : 11 ≤ 8 * bl) (bad : ¬ a < n) :
    Calls Tryd.prog 16 #[.pointer (some ⟨r, 0, none⟩), .int .i64 n] w fun e w' => e = .returned (.tuple #[.slice none 0 0, .int .i64 3]) ∧ Upd (fun k => k = r) w w' := by
  refine (read16 rl rh r bl n 0 (fun _ => 0) 3 bc (some 0) w at_ hr hn1 hn (fun w' so _ => read_hand rl rh r bl _ _ 0 n 3 0 _ bc hc hbl w' so h0 (by omega) (fun w2 so2 => ?_))).mono (fun e w' h => h.2 (by omega))
  refine (simple_one rl rh r bl _ _ n (0 + 1) a 1 bc hc hbl w2 so2 h1 h2 h3 (by omega)).mono (fun e w3 h => ?_)
  obtain ⟨u3, _, h4⟩ := h
  exact ⟨h4 bad, fun h => by omega, u3⟩
theorem get_two_bad (rl rh r bl n a t : Nat) (bc : Nat → Nat) (hc : ∀ k, bc k ≤ 255) (hbl : bl ≤ 100000) (w : World) (at_ : At w rl rh r bc bl (some 0)) (hr : rl ≤ r ∧ r < rh ∧ rh ≤ w.heap.size) (hn1 : 1 ≤ n) (hn : n ≤ 4096)
    (h0 : nb (num bc 0 bl) 0 1 = 1) (h1 : nb (num bc 0 bl) 1 1 = 1) (h2 : nb (num bc 0 bl) 2 1 = 1) (h3 : nb (num bc 0 bl) 3 8 = a) (h4 : nb (num bc 0 bl) 11 8 = t) (hq : 19 ≤ 8 * bl) (bad : ¬ (a < n ∧ t < n ∧ a ≠ t)) :
    Calls Tryd.prog 16 #[.pointer (some ⟨r, 0, none⟩), .int .i64 n] w fun e w' => e = .returned (.tuple #[.slice none 0 0, .int .i64 3]) ∧ Upd (fun k => k = r) w w' := by
  refine (read16 rl rh r bl n 0 (fun _ => 0) 3 bc (some 0) w at_ hr hn1 hn (fun w' so _ => read_hand rl rh r bl _ _ 0 n 3 0 _ bc hc hbl w' so h0 (by omega) (fun w2 so2 => ?_))).mono (fun e w' h => h.2 (by omega))
  refine (simple_two rl rh r bl _ _ n (0 + 1) a 1 t bc hc hbl w2 so2 h1 h2 h3 h4 (by omega)).mono (fun e w3 h => ?_)
  obtain ⟨u3, _, h5⟩ := h
  exact ⟨h5 bad, fun h => by omega, u3⟩
/-- The bits of one symbol, or of two, told by eight bits each. -/
theorem nb_f (a : Nat) (ha : a < 256) : nb (0 + 1 * 2 ^ 0 + 0 * 2 ^ (0 + 1) + 1 * 2 ^ (0 + 1 + 1) + a * 2 ^ (0 + 1 + 1 + 1)) 0 1 = 1 ∧ nb (0 + 1 * 2 ^ 0 + 0 * 2 ^ (0 + 1) + 1 * 2 ^ (0 + 1 + 1) + a * 2 ^ (0 + 1 + 1 + 1)) 1 1 = 0 ∧ nb (0 + 1 * 2 ^ 0 + 0 * 2 ^ (0 + 1) + 1 * 2 ^ (0 + 1 + 1) + a * 2 ^ (0 + 1 + 1 + 1)) 2 1 = 1 ∧ nb (0 + 1 * 2 ^ 0 + 0 * 2 ^ (0 + 1) + 1 * 2 ^ (0 + 1 + 1) + a * 2 ^ (0 + 1 + 1 + 1)) 3 8 = a := by
  unfold nb
  simp only [Nat.reducePow, Nat.reduceAdd, Nat.reduceMul]
  omega
theorem nb_t (a t : Nat) (ha : a < 256) (ht : t < 256) : nb (0 + 1 * 2 ^ 0 + 1 * 2 ^ (0 + 1) + 1 * 2 ^ (0 + 1 + 1) + a * 2 ^ (0 + 1 + 1 + 1) + t * 2 ^ (0 + 1 + 1 + 1 + 8)) 0 1 = 1 ∧ nb (0 + 1 * 2 ^ 0 + 1 * 2 ^ (0 + 1) + 1 * 2 ^ (0 + 1 + 1) + a * 2 ^ (0 + 1 + 1 + 1) + t * 2 ^ (0 + 1 + 1 + 1 + 8)) 1 1 = 1 ∧ nb (0 + 1 * 2 ^ 0 + 1 * 2 ^ (0 + 1) + 1 * 2 ^ (0 + 1 + 1) + a * 2 ^ (0 + 1 + 1 + 1) + t * 2 ^ (0 + 1 + 1 + 1 + 8)) 2 1 = 1 ∧ nb (0 + 1 * 2 ^ 0 + 1 * 2 ^ (0 + 1) + 1 * 2 ^ (0 + 1 + 1) + a * 2 ^ (0 + 1 + 1 + 1) + t * 2 ^ (0 + 1 + 1 + 1 + 8)) 3 8 = a ∧ nb (0 + 1 * 2 ^ 0 + 1 * 2 ^ (0 + 1) + 1 * 2 ^ (0 + 1 + 1) + a * 2 ^ (0 + 1 + 1 + 1) + t * 2 ^ (0 + 1 + 1 + 1 + 8)) 11 8 = t := by
  unfold nb
  simp only [Nat.reducePow, Nat.reduceAdd, Nat.reduceMul]
  omega
def sm (f : Nat → Nat) : Nat → Nat
  | 0 => 0
  | n + 1 => sm f n + f n
theorem sm_le (s t : Nat) (two : Bool) : ∀ n, sm (by_hand s t two) n ≤ n
  | 0 => Nat.le_refl _
  | n + 1 => by
    have := sm_le s t two n
    have h : by_hand s t two n ≤ 1 := by unfold by_hand; split <;> omega
    rw [sm]
    omega
theorem sm_f (s t : Nat) : ∀ n, sm (by_hand s t false) n = if s < n then 1 else 0
  | 0 => by simp [sm]
  | n + 1 => by
    rw [sm, sm_f s t n, bh_f]
    (repeat' split) <;> omega
theorem sm_t (s t : Nat) (hst : s ≠ t) : ∀ n, sm (by_hand s t true) n = (if s < n then 1 else 0) + (if t < n then 1 else 0)
  | 0 => by simp [sm]
  | n + 1 => by
    rw [sm, sm_t s t hst n, bh_t]
    (repeat' split) <;> omega
end Go.Proofs.YtaidboopcoaeeaaDoor.Lsa
