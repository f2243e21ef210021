/- Contracts: bitin.New of however many bytes; a tree that is none. No conditions but that the slice reads as bytes. -/
import Derived.Test.YtlejicikgmanfaaAns
import Derived.Test.YtlejicikgmanfaaWri
namespace Go.Proofs.Ytlejicikgmanfaa.Big
open Go.ChangeShapes Go.WideShapes Go.ChangeAt Go.RowKit Go.Proofs.Ytlejicikgmanfaa.Core Go.Proofs.Ytlejicikgmanfaa.Bitin Go.Proofs.Ytlejicikgmanfaa.Tre

set_option maxHeartbeats 400000 in
theorem clone_any (v : Value) (len : Nat) (c : Nat → Nat) (w : World) (h : Src w v len c) (hl : len ≤ 140737488351232) :
    Calls Try.prog 26 #[v] w fun e w' => ∃ a cap, e = .returned (.slice a len cap) ∧ Below w.heap.size w w' := by
  rcases h with ⟨rfl, rfl⟩ | ⟨x, cap, rfl, hc⟩
  · have hq := eql_nil
    go_enter Try.func26, Try.ntmps26
    go_wp2
    go_ret
    exact ⟨_, _, rfl, Below.refl _ _⟩
  · obtain ⟨i0, hi, hz0, hz1, hz2⟩ := info_parts Try.info5
    have n1 := news_of (w := w.alloc (.cells #[] 5)) (n := len) (c := c) (x := x) (fun k hk => ((Upd.refl (fun _ => False) w).alloc _).cell (lt_of_cell (hc k hk)) (fun h => h) |>.trans (hc k hk))
    have ownE : (w.alloc (.cells #[] 5)).ownsRow w.heap.size 5 1 (.slice (some ⟨w.heap.size, 0, none⟩) 0 0) 0 [] := World.ownsRow_lit w #[] 0 (Nat.le_refl _) (by decide) rfl
    have N1 := hide n1
    have OE := hide ownE
    clear n1 ownE hc
    have hq := fun w => eql_some w x len cap
    go_enter Try.func26, Try.ntmps26
    go_wp2_with (first | (at_builtin; refine wpList_append_own _ rfl (.tmp 5) (.tmp 6) 23 rfl w.heap.size 5 i0 (.int .u8 0) 1 1 Try.underlying23 hi hz0 hz1 hz2 rfl (by decide) _ _ _ rfl (unhide OE) x len cap (cells c len) rfl (by rw [cells_len, Nat.mul_one]) (unhide N1) (cells_one _ _) (by unfold maxLen; omega) (by omega) (by simp) ?_; intro v3 w3 own3 grow3 _; have O3 := hide own3; have G3 := hide grow3; clear own3 grow3) | fail)
    go_ret
    obtain ⟨a3, cap3, rfl⟩ := own_slice (unhide O3)
    rw [Nat.zero_add]
    exact ⟨_, _, rfl, ((Below.refl _ w).alloc (Nat.le_refl _) _).grown (unhide G3) (by simp) (fun k hk => by cases hk; exact Nat.le_refl _)⟩
theorem new_any (v : Value) (len : Nat) (c : Nat → Nat) (w : World) (h : Src w v len c) (hl : len ≤ 140737488351232) :
    Calls Try.prog 11 #[v] w fun e w' => ∃ g, e = .returned (.pointer (some ⟨g, 0, none⟩)) ∧ Below w.heap.size w w' := by
  have C := hide (clone_any v len c w h hl)
  clear h
  go_enter Try.func11, Try.ntmps11
  go_wp2_with fail
  refine (unhide C).mono ?_
  rintro e w1 ⟨a, cap, rfl, bel1⟩
  have B1 := hide bel1
  clear bel1 C
  go_wp2
  go_ret
  exact ⟨w1.heap.size, rfl, (unhide B1).alloc (unhide B1).size _⟩
theorem write_nil (u : Value) (k : Int) (w : World) : Calls Try.prog 19 #[.pointer none, u, .int .i64 k] w fun e w' => e = .returned (.bool false) ∧ w' = w := by
  go_enter Try.func19, Try.ntmps19
  go_wp2_with fail
  refine (has_nil k w).mono ?_
  rintro e w1 ⟨rfl, rfl⟩
  go_wp2
  go_ret
  exact ⟨rfl, rfl⟩
end Go.Proofs.Ytlejicikgmanfaa.Big
