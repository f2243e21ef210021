/- Contracts: pixel.each and pixel.sum for whatever function is handed to them; the functions that are. Conditions: the blocks hold a pixel's four each. -/
import Derived.Test.YtflmlbdcjjldgaaPPrt
namespace Go.Proofs.Ytflmlbdcjjldgaa.PClo
open Go.ChangeShapes Go.WideShapes Go.ChangeAt Go.RowKit Go.Proofs.Ytflmlbdcjjldgaa.Core Go.Proofs.Ytflmlbdcjjldgaa.PNum Go.Proofs.Ytflmlbdcjjldgaa.PPrt

set_option maxHeartbeats 400000 in
theorem four26 (p : Nat) (w : World) :
    Calls Try.prog 40 #[.int .u32 p] w fun e w' => e = .returned (.agg (four (pf p))) ∧ Below w.heap.size w w' := by
  have l0 := pt_lt p 0
  have l1 := pt_lt p 1
  have l2 := pt_lt p 2
  have l3 := pt_lt p 3
  have E : Hid (four (pf p) = #[.int .i64 (pt p 0), .int .i64 (pt p 1), .int .i64 (pt p 2), .int .i64 (pt p 3)]) := rfl
  rw [unhide E]
  clear E
  have PP := hide (parts8 p)
  generalize pt p 0 = x0 at *
  generalize pt p 1 = x1 at *
  generalize pt p 2 = x2 at *
  generalize pt p 3 = x3 at *
  go_enter Try.func40, Try.ntmps40
  go_wp2_with fail
  refine (unhide PP _).mono ?_
  rintro e w' ⟨rfl, rfl⟩
  go_wp2
  refine bodyPost_ret (results_cell_row rfl _ _ w.heap.size 66 #[.int .i64 x0, .int .i64 x1, .int .i64 x2, .int .i64 x3] (0, 0) _ rfl (Box.made w 66 _) Try.underlying66 rfl (by kernel_rfl)) rfl ⟨rfl, (Below.refl _ _).alloc (Nat.le_refl _) _⟩
set_option maxHeartbeats 400000 in
theorem each27 (K : Nat) (eg : ∀ args w, (callFunc K args).run Try.prog w = .ok (.enter K args) w) (lb : Array Value) (f : Nat → Nat) (hf : ∀ k, f k < 256) (Inv : World → Prop) (w : World) (h0 : Inv w)
    (ask : ∀ k wr, k < 4 → Inv wr → Calls Try.prog K (#[.int .i64 (k : Nat)] ++ lb) wr fun e w' => e = .returned (.int .u8 (f k)) ∧ Inv w') :
    Calls Try.prog 41 #[.func (.func K) #[] lb] w fun e w' => e = .returned (.int .u32 (mk f)) ∧ Inv w' := by
  have A0 := hide (fun wr => ask 0 wr (by omega))
  have A1 := hide (fun wr => ask 1 wr (by omega))
  have A2 := hide (fun wr => ask 2 wr (by omega))
  have A3 := hide (fun wr => ask 3 wr (by omega))
  have H0 := hide h0
  have HF := hide hf
  clear ask h0 hf
  go_enter Try.func41, Try.ntmps41
  go_wp2_with fail
  go_at_fn K
  refine (unhide A0 _ (unhide H0)).mono ?_
  rintro e w0 ⟨rfl, i0⟩
  have I0 := hide i0
  clear i0
  go_wp2_with fail
  go_at_fn K
  refine (unhide A1 _ (unhide I0)).mono ?_
  rintro e w1 ⟨rfl, i1⟩
  have I1 := hide i1
  clear i1
  go_wp2_with fail
  go_at_fn K
  refine (unhide A2 _ (unhide I1)).mono ?_
  rintro e w2 ⟨rfl, i2⟩
  have I2 := hide i2
  clear i2
  go_wp2_with fail
  go_at_fn K
  refine (unhide A3 _ (unhide I2)).mono ?_
  rintro e w3 ⟨rfl, i3⟩
  have I3 := hide i3
  clear i3
  go_wp2_with fail
  refine (make11 _ _ _ _ (unhide HF 0) (unhide HF 1) (unhide HF 2) (unhide HF 3) _).mono ?_
  rintro e w4 ⟨rfl, rfl⟩
  go_wp2
  go_ret
  exact ⟨rfl, unhide I3⟩
/-- The first n numbers together. -/
def tot (f : Nat → Nat) : Nat → Nat
  | 0 => 0
  | n + 1 => tot f n + f n
theorem add28 (k g1 g2 : Nat) (hk : k < 4) (p q : Nat) (w : World) (b1 : Box w g1 66 (four (pf p))) (b2 : Box w g2 66 (four (pf q))) :
    Calls Try.prog 43 (#[.int .i64 (k : Nat)] ++ #[.pointer (some ⟨g1, 0, none⟩), .pointer (some ⟨g2, 0, none⟩)]) w fun e w' => e = .returned (.int .u8 (addF p q k)) ∧ ∃ n, w' = w.drewN n := by
  have c1 : w.cell? ⟨g1, k, none⟩ = some (.int .i64 (pt p k)) := (b1.cell k).trans (four_at _ k hk)
  have c2 : w.cell? ⟨g2, k, none⟩ = some (.int .i64 (pt q k)) := (b2.cell k).trans (four_at _ k hk)
  have l1 := pt_lt p k
  have l2 := pt_lt q k
  have E : Hid (addF p q k = (pt p k + pt q k) % 256) := rfl
  clear b1 b2
  generalize addF p q k = r at *
  generalize pt p k = x at *
  generalize pt q k = y at *
  go_enter Try.func43, Try.ntmps43
  go_wp2
  go_quiet (fail)
  go_wp2
  go_ret
  exact ⟨ret_int (by have := unhide E; omega), nq, rfl⟩
theorem sub30 (k g1 g2 : Nat) (hk : k < 4) (p q : Nat) (w : World) (b1 : Box w g1 66 (four (pf p))) (b2 : Box w g2 66 (four (pf q))) :
    Calls Try.prog 42 (#[.int .i64 (k : Nat)] ++ #[.pointer (some ⟨g1, 0, none⟩), .pointer (some ⟨g2, 0, none⟩)]) w fun e w' => e = .returned (.int .u8 (subF p q k)) ∧ ∃ n, w' = w.drewN n := by
  have c1 : w.cell? ⟨g1, k, none⟩ = some (.int .i64 (pt p k)) := (b1.cell k).trans (four_at _ k hk)
  have c2 : w.cell? ⟨g2, k, none⟩ = some (.int .i64 (pt q k)) := (b2.cell k).trans (four_at _ k hk)
  have l1 := pt_lt p k
  have l2 := pt_lt q k
  have E : Hid (subF p q k = (pt p k + 256 - pt q k) % 256) := rfl
  clear b1 b2
  generalize subF p q k = r at *
  generalize pt p k = x at *
  generalize pt q k = y at *
  go_enter Try.func42, Try.ntmps42
  go_wp2
  go_quiet (fail)
  go_wp2
  go_ret
  exact ⟨ret_int (by have := unhide E; omega), nq, rfl⟩
end Go.Proofs.Ytflmlbdcjjldgaa.PClo
