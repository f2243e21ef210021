/- Contracts: pixel.each and pixel.sum for whatever function is handed to them; the functions that are. Conditions: the blocks hold a pixel's four each. -/
import Derived.Test.YtnfokdcoelignaaPPrt
namespace Go.Proofs.Ytnfokdcoelignaa.PClo
open Go.ChangeShapes Go.WideShapes Go.ChangeAt Go.RowKit Go.Proofs.Ytnfokdcoelignaa.Core Go.Proofs.Ytnfokdcoelignaa.PNum Go.Proofs.Ytnfokdcoelignaa.PPrt

set_option maxHeartbeats 400000 in
theorem each27 (K : Nat) (eg : ∀ args w, (callFunc K args).run Try.prog w = .ok (.enter K args) w) (lb : Array Value) (f : Nat → Nat) (hf : ∀ k, f k < 256) (Inv : World → Prop) (w : World) (h0 : Inv w)
    (ask : ∀ k wr, k < 4 → Inv wr → Calls Try.prog K (#[.int .i64 (k : Nat)] ++ lb) wr fun e w' => e = .returned (.int .u8 (f k)) ∧ Inv w') :
    Calls Try.prog 39 #[.func (.func K) #[] lb] w fun e w' => e = .returned (.int .u32 (mk f)) ∧ Inv w' := by
  have A0 := hide (fun wr => ask 0 wr (by omega))
  have A1 := hide (fun wr => ask 1 wr (by omega))
  have A2 := hide (fun wr => ask 2 wr (by omega))
  have A3 := hide (fun wr => ask 3 wr (by omega))
  have H0 := hide h0
  have HF := hide hf
  clear ask h0 hf
  go_enter Try.func39, Try.ntmps39
  go_wp2_with fail
  go_at_fn K
  refine (unhide A0 _ (unhide H0)).mono ?_
  rintro e w0 ⟨rfl, i0⟩
  have I0 := hide i0
  clear i0
  go_wp2_with fail
  go_at_fn K
  refine (unhide A1 _ (unhide I0)).mono ?_
  rintro e w1 ⟨rfl, i1⟩
  have I1 := hide i1
  clear i1
  go_wp2_with fail
  go_at_fn K
  refine (unhide A2 _ (unhide I1)).mono ?_
  rintro e w2 ⟨rfl, i2⟩
  have I2 := hide i2
  clear i2
  go_wp2_with fail
  go_at_fn K
  refine (unhide A3 _ (unhide I2)).mono ?_
  rintro e w3 ⟨rfl, i3⟩
  have I3 := hide i3
  clear i3
  go_wp2_with fail
  refine (make11 _ _ _ _ (unhide HF 0) (unhide HF 1) (unhide HF 2) (unhide HF 3) _).mono ?_
  rintro e w4 ⟨rfl, rfl⟩
  go_wp2
  go_ret
  exact ⟨rfl, unhide I3⟩
/-- The first n numbers together. -/
def tot (f : Nat → Nat) : Nat → Nat
  | 0 => 0
  | n + 1 => tot f n + f n
theorem tot_far (p q n : Nat) : tot (fun k => dif (pt p k) (pt q k)) n = far p q n := by
  induction n with
  | zero => rfl
  | succ n ih => unfold tot far; rw [ih]
set_option maxHeartbeats 400000 in
theorem sum35 (K : Nat) (eg : ∀ args w, (callFunc K args).run Try.prog w = .ok (.enter K args) w) (lb : Array Value) (f : Nat → Nat) (hf : ∀ k, f k < 256) (Inv : World → Prop) (w : World) (h0 : Inv w)
    (ask : ∀ k wr, k < 4 → Inv wr → Calls Try.prog K (#[.int .i64 (k : Nat)] ++ lb) wr fun e w' => e = .returned (.int .i64 (f k)) ∧ Inv w') :
    Calls Try.prog 62 #[.func (.func K) #[] lb] w fun e w' => e = .returned (.int .i64 (tot f 4)) ∧ Inv w' := by
  have A0 := hide (fun wr => ask 0 wr (by omega))
  have A1 := hide (fun wr => ask 1 wr (by omega))
  have A2 := hide (fun wr => ask 2 wr (by omega))
  have A3 := hide (fun wr => ask 3 wr (by omega))
  have H0 := hide h0
  have E : Hid (tot f 4 = 0 + f 0 + f 1 + f 2 + f 3) := rfl
  have l0 := hf 0
  have l1 := hf 1
  have l2 := hf 2
  have l3 := hf 3
  clear ask h0 hf
  generalize tot f 4 = t at *
  generalize f 0 = x0 at *
  generalize f 1 = x1 at *
  generalize f 2 = x2 at *
  generalize f 3 = x3 at *
  go_enter Try.func62, Try.ntmps62
  go_wp2_with fail
  go_at_fn K
  refine (unhide A0 _ (unhide H0)).mono ?_
  rintro e w0 ⟨rfl, i0⟩
  have I0 := hide i0
  clear i0
  go_wp2_with fail
  go_at_fn K
  refine (unhide A1 _ (unhide I0)).mono ?_
  rintro e w1 ⟨rfl, i1⟩
  have I1 := hide i1
  clear i1
  go_wp2_with fail
  go_at_fn K
  refine (unhide A2 _ (unhide I1)).mono ?_
  rintro e w2 ⟨rfl, i2⟩
  have I2 := hide i2
  clear i2
  go_wp2_with fail
  go_at_fn K
  refine (unhide A3 _ (unhide I2)).mono ?_
  rintro e w3 ⟨rfl, i3⟩
  have I3 := hide i3
  clear i3
  go_wp2
  go_ret
  exact ⟨ret_int (by have := unhide E; omega), unhide I3⟩

theorem add28 (k g1 g2 : Nat) (hk : k < 4) (p q : Nat) (w : World) (b1 : Box w g1 56 (four (pf p))) (b2 : Box w g2 56 (four (pf q))) :
    Calls Try.prog 44 (#[.int .i64 (k : Nat)] ++ #[.pointer (some ⟨g1, 0, none⟩), .pointer (some ⟨g2, 0, none⟩)]) w fun e w' => e = .returned (.int .u8 (addF p q k)) ∧ ∃ n, w' = w.drewN n := by
  have c1 : w.cell? ⟨g1, k, none⟩ = some (.int .i64 (pt p k)) := (b1.cell k).trans (four_at _ k hk)
  have c2 : w.cell? ⟨g2, k, none⟩ = some (.int .i64 (pt q k)) := (b2.cell k).trans (four_at _ k hk)
  have l1 := pt_lt p k
  have l2 := pt_lt q k
  have E : Hid (addF p q k = (pt p k + pt q k) % 256) := rfl
  clear b1 b2
  generalize addF p q k = r at *
  generalize pt p k = x at *
  generalize pt q k = y at *
  go_enter Try.func44, Try.ntmps44
  go_wp2
  go_quiet (fail)
  go_wp2
  go_ret
  exact ⟨ret_int (by have := unhide E; omega), nq, rfl⟩
theorem sub30 (k g1 g2 : Nat) (hk : k < 4) (p q : Nat) (w : World) (b1 : Box w g1 56 (four (pf p))) (b2 : Box w g2 56 (four (pf q))) :
    Calls Try.prog 40 (#[.int .i64 (k : Nat)] ++ #[.pointer (some ⟨g1, 0, none⟩), .pointer (some ⟨g2, 0, none⟩)]) w fun e w' => e = .returned (.int .u8 (subF p q k)) ∧ ∃ n, w' = w.drewN n := by
  have c1 : w.cell? ⟨g1, k, none⟩ = some (.int .i64 (pt p k)) := (b1.cell k).trans (four_at _ k hk)
  have c2 : w.cell? ⟨g2, k, none⟩ = some (.int .i64 (pt q k)) := (b2.cell k).trans (four_at _ k hk)
  have l1 := pt_lt p k
  have l2 := pt_lt q k
  have E : Hid (subF p q k = (pt p k + 256 - pt q k) % 256) := rfl
  clear b1 b2
  generalize subF p q k = r at *
  generalize pt p k = x at *
  generalize pt q k = y at *
  go_enter Try.func40, Try.ntmps40
  go_wp2
  go_quiet (fail)
  go_wp2
  go_ret
  exact ⟨ret_int (by have := unhide E; omega), nq, rfl⟩
theorem avg31 (k g1 g2 : Nat) (hk : k < 4) (p q : Nat) (w : World) (b1 : Box w g1 56 (four (pf p))) (b2 : Box w g2 56 (four (pf q))) :
    Calls Try.prog 61 (#[.int .i64 (k : Nat)] ++ #[.pointer (some ⟨g1, 0, none⟩), .pointer (some ⟨g2, 0, none⟩)]) w fun e w' => e = .returned (.int .u8 (avgF p q k)) ∧ ∃ n, w' = w.drewN n := by
  have c1 : w.cell? ⟨g1, k, none⟩ = some (.int .i64 (pt p k)) := (b1.cell k).trans (four_at _ k hk)
  have c2 : w.cell? ⟨g2, k, none⟩ = some (.int .i64 (pt q k)) := (b2.cell k).trans (four_at _ k hk)
  have l1 := pt_lt p k
  have l2 := pt_lt q k
  have E : Hid (avgF p q k = (pt p k + pt q k) / 2) := rfl
  clear b1 b2
  generalize avgF p q k = r at *
  generalize pt p k = x at *
  generalize pt q k = y at *
  go_enter Try.func61, Try.ntmps61
  go_wp2
  go_quiet (fail)
  go_wp2
  go_ret
  exact ⟨ret_int (by have := unhide E; omega), nq, rfl⟩
theorem tdiv_small (z : Int) (h : -255 ≤ z) (h' : z ≤ 255) : -255 ≤ z.tdiv 2 ∧ z.tdiv 2 ≤ 255 := by
  by_cases h0 : 0 ≤ z
  · rw [Int.tdiv_eq_ediv_of_nonneg h0]; omega
  · have e : z = -(-z) := by omega
    rw [e, Int.neg_tdiv, Int.tdiv_eq_ediv_of_nonneg (by omega)]; omega
theorem half_wrap (x y : Nat) (hx : x < 256) (hy : y < 256) : wrap64 ((x : Int) + ((x : Int) - y).tdiv 2) = (x : Int) + ((x : Int) - y).tdiv 2 := by
  have := tdiv_small ((x : Int) - y) (by omega) (by omega)
  unfold wrap64; omega
theorem half32 (k g1 g2 : Nat) (hk : k < 4) (p q : Nat) (w : World) (b1 : Box w g1 56 (four (pf p))) (b2 : Box w g2 56 (four (pf q))) :
    Calls Try.prog 68 (#[.int .i64 (k : Nat)] ++ #[.pointer (some ⟨g1, 0, none⟩), .pointer (some ⟨g2, 0, none⟩)]) w fun e w' => e = .returned (.int .u8 (halfF p q k)) ∧ ∃ n, w' = w.drewN n := by
  have c1 : w.cell? ⟨g1, k, none⟩ = some (.int .i64 (pt p k)) := (b1.cell k).trans (four_at _ k hk)
  have c2 : w.cell? ⟨g2, k, none⟩ = some (.int .i64 (pt q k)) := (b2.cell k).trans (four_at _ k hk)
  have l1 := pt_lt p k
  have l2 := pt_lt q k
  have E : Hid (halfF p q k = cutV ((pt p k : Int) + ((pt p k : Int) - pt q k).tdiv 2)) := rfl
  clear b1 b2
  generalize halfF p q k = r at *
  generalize pt p k = x at *
  generalize pt q k = y at *
  go_enter Try.func68, Try.ntmps68
  go_wp2
  go_quiet ((go_at_call 67; exact Calls.quiet_of_same (cut33 _ _)))
  go_wp2
  go_ret
  exact ⟨ret_int (by rw [unhide E, half_wrap x y l1 l2]), nq, rfl⟩
theorem full39 (k g1 g2 g3 : Nat) (hk : k < 4) (p q u : Nat) (w : World) (b1 : Box w g1 56 (four (pf p))) (b2 : Box w g2 56 (four (pf q))) (b3 : Box w g3 56 (four (pf u))) :
    Calls Try.prog 66 (#[.int .i64 (k : Nat)] ++ #[.pointer (some ⟨g1, 0, none⟩), .pointer (some ⟨g2, 0, none⟩), .pointer (some ⟨g3, 0, none⟩)]) w fun e w' => e = .returned (.int .u8 (fullF p q u k)) ∧ ∃ n, w' = w.drewN n := by
  have c1 : w.cell? ⟨g1, k, none⟩ = some (.int .i64 (pt p k)) := (b1.cell k).trans (four_at _ k hk)
  have c2 : w.cell? ⟨g2, k, none⟩ = some (.int .i64 (pt q k)) := (b2.cell k).trans (four_at _ k hk)
  have c3 : w.cell? ⟨g3, k, none⟩ = some (.int .i64 (pt u k)) := (b3.cell k).trans (four_at _ k hk)
  have l1 := pt_lt p k
  have l2 := pt_lt q k
  have l3 := pt_lt u k
  have E : Hid (fullF p q u k = cutV ((pt p k : Int) + pt q k - pt u k)) := rfl
  clear b1 b2 b3
  generalize fullF p q u k = r at *
  generalize pt p k = x at *
  generalize pt q k = y at *
  generalize pt u k = z at *
  go_enter Try.func66, Try.ntmps66
  go_wp2
  go_quiet ((go_at_call 67; exact Calls.quiet_of_same (cut33 _ _)))
  go_wp2
  go_ret
  exact ⟨ret_int (by rw [unhide E]), nq, rfl⟩
theorem pick36 (k g1 g2 g3 : Nat) (hk : k < 4) (p q u : Nat) (w : World) (b1 : Box w g1 56 (four (pf p))) (b2 : Box w g2 56 (four (pf q))) (b3 : Box w g3 56 (four (pf u))) :
    Calls Try.prog 63 (#[.int .i64 (k : Nat)] ++ #[.pointer (some ⟨g1, 0, none⟩), .pointer (some ⟨g2, 0, none⟩), .pointer (some ⟨g3, 0, none⟩)]) w fun e w' => e = .returned (.int .i64 (dif (pt q k) (pt u k))) ∧ ∃ n, w' = w.drewN n := by
  have c1 : w.cell? ⟨g1, k, none⟩ = some (.int .i64 (pt p k)) := (b1.cell k).trans (four_at _ k hk)
  have c2 : w.cell? ⟨g2, k, none⟩ = some (.int .i64 (pt q k)) := (b2.cell k).trans (four_at _ k hk)
  have c3 : w.cell? ⟨g3, k, none⟩ = some (.int .i64 (pt u k)) := (b3.cell k).trans (four_at _ k hk)
  have l1 := pt_lt p k
  have l2 := pt_lt q k
  have l3 := pt_lt u k
  clear b1 b2 b3
  generalize pt p k = x at *
  generalize pt q k = y at *
  generalize pt u k = z at *
  have E : Hid (dif y z = ((x : Int) + y - z - x).natAbs) := by unfold Hid dif; omega
  generalize dif y z = r at *
  go_enter Try.func63, Try.ntmps63
  go_wp2
  go_quiet ((go_at_call 64; exact Calls.quiet_of_same (dist37 _ _ _ (by omega) (by omega) (by omega) (by omega))))
  go_wp2
  go_ret
  exact ⟨ret_int (by rw [unhide E]), nq, rfl⟩
theorem pick38 (k g1 g2 g3 : Nat) (hk : k < 4) (p q u : Nat) (w : World) (b1 : Box w g1 56 (four (pf p))) (b2 : Box w g2 56 (four (pf q))) (b3 : Box w g3 56 (four (pf u))) :
    Calls Try.prog 65 (#[.int .i64 (k : Nat)] ++ #[.pointer (some ⟨g1, 0, none⟩), .pointer (some ⟨g2, 0, none⟩), .pointer (some ⟨g3, 0, none⟩)]) w fun e w' => e = .returned (.int .i64 (dif (pt p k) (pt u k))) ∧ ∃ n, w' = w.drewN n := by
  have c1 : w.cell? ⟨g1, k, none⟩ = some (.int .i64 (pt p k)) := (b1.cell k).trans (four_at _ k hk)
  have c2 : w.cell? ⟨g2, k, none⟩ = some (.int .i64 (pt q k)) := (b2.cell k).trans (four_at _ k hk)
  have c3 : w.cell? ⟨g3, k, none⟩ = some (.int .i64 (pt u k)) := (b3.cell k).trans (four_at _ k hk)
  have l1 := pt_lt p k
  have l2 := pt_lt q k
  have l3 := pt_lt u k
  clear b1 b2 b3
  generalize pt p k = x at *
  generalize pt q k = y at *
  generalize pt u k = z at *
  have E : Hid (dif x z = ((x : Int) + y - z - y).natAbs) := by unfold Hid dif; omega
  generalize dif x z = r at *
  go_enter Try.func65, Try.ntmps65
  go_wp2
  go_quiet ((go_at_call 64; exact Calls.quiet_of_same (dist37 _ _ _ (by omega) (by omega) (by omega) (by omega))))
  go_wp2
  go_ret
  exact ⟨ret_int (by rw [unhide E]), nq, rfl⟩
end Go.Proofs.Ytnfokdcoelignaa.PClo
