/- Contracts: code.each for whatever function is handed to it; what it is asked of: code.One, slices.ContainsFunc. Conditions: the slice reads as integers, and they are few. -/
import Derived.Test.YtgjpcjnhggcfdaaDoorMath
namespace Go.Proofs.YtgjpcjnhggcfdaaDoor.Each
open Go.ChangeShapes Go.WideShapes Go.ChangeAt Go.RowKit Go.Proofs.YtgjpcjnhggcfdaaDoor.Core Go.Proofs.YtgjpcjnhggcfdaaDoor.Gnd Go.Proofs.YtgjpcjnhggcfdaaDoor.Math

theorem each14 (K : Nat) (eg : ∀ args w, (callFunc K args).run Tryd.prog w = .ok (.enter K args) w) (lb : Array Value) (v : Value) (len : Nat) (c : Nat → Int) (hl : len ≤ 100000) (Inv : Nat → World → Prop) (w : World)
    (src : ∀ i wr, Inv i wr → Ints .i64 wr v len c) (h0 : Inv 0 w)
    (skip : ∀ i wr, i < len → c i = 0 → Inv i wr → Inv (i + 1) wr)
    (ask : ∀ i wr, i < len → c i ≠ 0 → Inv i wr → Calls Tryd.prog K (#[.int .i64 i, .int .i64 (c i)] ++ lb) wr fun e w' => e = .returned (.tuple #[]) ∧ Inv (i + 1) w') :
    Calls Tryd.prog 50 #[v, .func (.func K) #[] lb] w fun e w' => e = .returned (.tuple #[]) ∧ Inv len w' := by
  obtain ⟨a, cap, rfl, _⟩ := src 0 w h0
  have SRC := hide src
  have ASK := hide ask
  have SKIP := hide skip
  clear src ask skip
  go_enter Tryd.func50, Tryd.ntmps50
  go_wp2
  go_loopw [8] (fun i wr => ∃ k : Nat, k ≤ len ∧ i = .int .i64 k ∧ Inv k wr) (fun i _ => len - (intOf i).toNat)
  case atStart => exact ⟨0, Nat.zero_le _, rfl, h0⟩
  case round =>
    obtain ⟨k, hk, rfl, inv⟩ := hrel
    have INV := hide inv
    by_cases hlt : k < len
    · have hlt' : (k : Int) < (len : Int) := by omega
      obtain ⟨a1, cap1, e1, hc0⟩ := unhide SRC k wr inv
      cases e1
      obtain ⟨b, off, rfl, hcell⟩ := hc0 k hlt
      have NEXT := hide (fun h => unhide ASK k wr hlt h inv)
      have SK := hide (fun h => unhide SKIP k wr hlt h inv)
      clear inv hc0 h0
      by_cases hz : c k = 0
      · rw [hz] at hcell
        have HZ := hide hz
        clear hz
        go_wp2
        go_roundw
        case rel => exact ⟨k + 1, by omega, by go_num, unhide SK (unhide HZ)⟩
        case measure => simp [intOf]; omega
      · go_wp2_with (go_at_fn K; refine (unhide NEXT hz).mono ?_; rintro e w1 ⟨rfl, inv1⟩)
        go_roundw
        case rel => exact ⟨k + 1, by omega, by go_num, inv1⟩
        case measure => simp [intOf]; omega
    · obtain rfl : k = len := by omega
      clear inv h0
      go_wp2
      go_end0
      exact ⟨rfl, unhide INV⟩
end Go.Proofs.YtgjpcjnhggcfdaaDoor.Each
