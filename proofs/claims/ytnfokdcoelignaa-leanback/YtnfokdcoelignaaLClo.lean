/- Contracts: what Forth and Back do at each pixel. Conditions: the images may be and are in memory. -/
import Derived.Test.YtnfokdcoelignaaLEch
namespace Go.Proofs.Ytnfokdcoelignaa.LClo
set_option linter.unusedVariables false
open Go.ChangeShapes Go.WideShapes Go.ChangeAt Go.RowKit Go.Sort Go.Proofs.Ytnfokdcoelignaa.Core Go.Proofs.Ytnfokdcoelignaa.PNum Go.Proofs.Ytnfokdcoelignaa.PFun Go.Proofs.Ytnfokdcoelignaa.PGoo Go.Proofs.Ytnfokdcoelignaa.GGue Go.Proofs.Ytnfokdcoelignaa.GImg Go.Proofs.Ytnfokdcoelignaa.GAro Go.Proofs.Ytnfokdcoelignaa.GAtt Go.Proofs.Ytnfokdcoelignaa.GCpy Go.Proofs.Ytnfokdcoelignaa.LBlk Go.Proofs.Ytnfokdcoelignaa.LMod Go.Proofs.Ytnfokdcoelignaa.LSnd Go.Proofs.Ytnfokdcoelignaa.LEch

/-- One pixel was put. -/
structure Put (w : World) (gp i v : Nat) (w' : World) : Prop where
  ex : ∃ w1, Below w.heap.size w w1 ∧ w' = w1.setCell ⟨gp, i, none⟩ (.int .u32 v)
theorem Img.gd {w : World} {W H b off n X Y : Nat} {z : Nat → Nat} (I : Img w W H b off n z) (hx : X < W) (hy : Y < H) : wiV W H n X Y = true :=
  wi_in (gd_mk (by omega) I.hW (by omega) I.hH I.hn) (by omega)
theorem cells_at {w0 w' : World} {gm gl gp b off n i : Nat} {z z' : Nat → Nat} {x y s x' y' s' : Value} (BM : Box w0 gm 24 #[x, y, s]) (BN : Box w0 gl 24 #[x', y', s']) (px : Pixs w0 b off n z) (P : Pow w0 gp n z') (hi : i < n) (u : Below w0.heap.size w0 w') :
    (w'.cell? ⟨gm, 0, none⟩ = some x ∧ w'.cell? ⟨gm, 1, none⟩ = some y ∧ w'.cell? ⟨gm, 2, none⟩ = some s) ∧ (w'.cell? ⟨gl, 0, none⟩ = some x' ∧ w'.cell? ⟨gl, 1, none⟩ = some y' ∧ w'.cell? ⟨gl, 2, none⟩ = some s') ∧
    w'.cell? ⟨b, off + i, none⟩ = some (.int .u32 (z i)) ∧ w'.cell? ⟨gp, i, none⟩ = some (.int .u32 (z' i)) ∧ w'.frozen? ⟨gp, i, none⟩ = false ∧ w0.heap.size ≤ w'.heap.size :=
  ⟨keep_image BM u, keep_image BN u, px.below u i hi, (P.below u i hi).1, (P.below u i hi).2, u.size⟩
theorem set_kept {w : World} {gm gl gp b off i : Nat} {x y s x' y' s' v u : Value} (h1 : gm ≠ gp) (h2 : gl ≠ gp) (h3 : b ≠ gp)
    (h : (w.cell? ⟨gm, 0, none⟩ = some x ∧ w.cell? ⟨gm, 1, none⟩ = some y ∧ w.cell? ⟨gm, 2, none⟩ = some s) ∧ (w.cell? ⟨gl, 0, none⟩ = some x' ∧ w.cell? ⟨gl, 1, none⟩ = some y' ∧ w.cell? ⟨gl, 2, none⟩ = some s') ∧ w.cell? ⟨b, off + i, none⟩ = some v) :
    ((w.setCell ⟨gp, i, none⟩ u).cell? ⟨gm, 0, none⟩ = some x ∧ (w.setCell ⟨gp, i, none⟩ u).cell? ⟨gm, 1, none⟩ = some y ∧ (w.setCell ⟨gp, i, none⟩ u).cell? ⟨gm, 2, none⟩ = some s) ∧ ((w.setCell ⟨gp, i, none⟩ u).cell? ⟨gl, 0, none⟩ = some x' ∧ (w.setCell ⟨gp, i, none⟩ u).cell? ⟨gl, 1, none⟩ = some y' ∧ (w.setCell ⟨gp, i, none⟩ u).cell? ⟨gl, 2, none⟩ = some s') ∧ (w.setCell ⟨gp, i, none⟩ u).cell? ⟨b, off + i, none⟩ = some v := by
  obtain ⟨⟨a1, a2, a3⟩, ⟨b1, b2, b3⟩, c⟩ := h
  refine ⟨⟨?_, ?_, ?_⟩, ⟨?_, ?_, ?_⟩, ?_⟩
  · rw [cell_other h1]; exact a1
  · rw [cell_other h1]; exact a2
  · rw [cell_other h1]; exact a3
  · rw [cell_other h2]; exact b1
  · rw [cell_other h2]; exact b2
  · rw [cell_other h2]; exact b3
  · rw [cell_other h3]; exact c
set_option maxHeartbeats 1000000 in
theorem clo21 {W H b off n gm gl gp : Nat} {z z' : Nat → Nat} (c cl : Nat) (md : Int) (i X Y : Nat) {w : World}
    (BM : Box w gm 24 #[.int .i64 W, .int .i64 H, .slice (some ⟨b, off, none⟩) n c]) (BN : Box w gl 24 #[.int .i64 W, .int .i64 H, .slice (some ⟨gp, 0, none⟩) n cl])
    (I : Img w W H b off n z) (P : Pow w gp n z') (hx : X < W) (hy : Y < H) (hi : i = Y * W + X) (n1 : gm ≠ gp) (n2 : gl ≠ gp) (n3 : b ≠ gp) :
    Calls Try.prog 21 (#[.int .i64 i, .int .i64 X, .int .i64 Y, .int .i64 md] ++ #[.pointer (some ⟨gm, 0, none⟩), .pointer (some ⟨gl, 0, none⟩)]) w fun e w' =>
      e = .returned (.tuple #[]) ∧ Put w gp i (subV (z i) (atV W z md X Y)) w' := by
  have hin : i < n := by rw [hi, I.hn]; exact place_lt hx hy
  have hin' : (i : Int) < (n : Int) := by omega
  have hnb : n ≤ 268435456 := I.hn ▸ size_le I.hW I.hH
  have HG := hide (Img.gd I hx hy)
  have I0 := hide I
  have P0 := hide P
  have N1 := hide n1
  have N2 := hide n2
  have N3 := hide n3
  have HX := hide hx
  have HY := hide hy
  obtain ⟨m0, m1, m2⟩ := keep_image BM (Below.refl _ _)
  obtain ⟨l0, l1, l2⟩ := keep_image BN (Below.refl _ _)
  have pz := I.px i hin
  have BM0 := hide BM
  have BN0 := hide BN
  have hb := I.px.lt (by omega)
  have hp := lt_of_cell (P i hin).1
  have hgm := BM.lt
  have hgl := BN.lt
  clear I P hx hy hi BM BN n1 n2 n3
  go_enter Try.func21, Try.ntmps21
  go_wp2_with fail
  go_region_held3 (fun w' => (w'.cell? ⟨gm, 0, none⟩ = some (.int .i64 W) ∧ w'.cell? ⟨gm, 1, none⟩ = some (.int .i64 H) ∧ w'.cell? ⟨gm, 2, none⟩ = some (.slice (some ⟨b, off, none⟩) n c)) ∧ (w'.cell? ⟨gl, 0, none⟩ = some (.int .i64 W) ∧ w'.cell? ⟨gl, 1, none⟩ = some (.int .i64 H) ∧ w'.cell? ⟨gl, 2, none⟩ = some (.slice (some ⟨gp, 0, none⟩) n cl)) ∧ w'.cell? ⟨b, off + i, none⟩ = some (.int .u32 (z i))) (first | go_keep | exact ⟨⟨m04, m14, m24⟩, ⟨l04, l14, l24⟩, p4⟩ | exact ⟨⟨m05, m15, m25⟩, ⟨l05, l15, l25⟩, p5⟩ | exact set_kept (unhide N1) (unhide N2) (unhide N3) ⟨⟨m05, m15, m25⟩, ⟨l05, l15, l25⟩, p5⟩) ((first | (go_at_call 23; refine (at_in c md X Y ((unhide I0).below (bel_dr (Below.refl _ _))) (unhide HX) (unhide HY) (unhide HG)).mono ?_; rintro e w4 ⟨rfl, b4⟩; have B4 := hide (below_two (bel_dr (Below.refl _ _)) b4); obtain ⟨⟨m04, m14, m24⟩, ⟨l04, l14, l24⟩, p4, q4, f4, s4⟩ := cells_at (unhide BM0) (unhide BN0) (unhide I0).px (unhide P0) hin (unhide B4); clear b4) | (go_at_call 22; refine (sub14 _ _ _).mono ?_; rintro e w5 ⟨rfl, b5⟩; have B5 := hide (below_two (unhide B4) b5); obtain ⟨⟨m05, m15, m25⟩, ⟨l05, l15, l25⟩, p5, q5, f5, s5⟩ := cells_at (unhide BM0) (unhide BN0) (unhide I0).px (unhide P0) hin (unhide B5); clear b5)))
  all_goals go_end0
  all_goals exact ⟨rfl, ⟨_, unhide B5, rfl⟩⟩
set_option maxHeartbeats 1000000 in
theorem clo24 {W H b off n gm gl gp : Nat} {z z' : Nat → Nat} (c cl : Nat) (md : Int) (i X Y : Nat) {w : World}
    (BM : Box w gm 24 #[.int .i64 W, .int .i64 H, .slice (some ⟨b, off, none⟩) n c]) (BN : Box w gl 24 #[.int .i64 W, .int .i64 H, .slice (some ⟨gp, 0, none⟩) n cl])
    (I : Img w W H b off n z) (P : Pow w gp n z') (hx : X < W) (hy : Y < H) (hi : i = Y * W + X) (n1 : gm ≠ gp) (n2 : gl ≠ gp) (n3 : b ≠ gp) :
    Calls Try.prog 24 (#[.int .i64 i, .int .i64 X, .int .i64 Y, .int .i64 md] ++ #[.pointer (some ⟨gm, 0, none⟩), .pointer (some ⟨gl, 0, none⟩)]) w fun e w' =>
      e = .returned (.tuple #[]) ∧ Put w gp i (addV (z i) (atV W z' md X Y)) w' := by
  have hin : i < n := by rw [hi, I.hn]; exact place_lt hx hy
  have hin' : (i : Int) < (n : Int) := by omega
  have hnb : n ≤ 268435456 := I.hn ▸ size_le I.hW I.hH
  have HG := hide (Img.gd I hx hy)
  have I0 := hide I
  have P0 := hide P
  have N1 := hide n1
  have N2 := hide n2
  have N3 := hide n3
  have J0 : Hid (Img w W H gp 0 n z') := hide ⟨I.hW, I.hH, I.hn, P.pixs⟩
  have HX := hide hx
  have HY := hide hy
  obtain ⟨m0, m1, m2⟩ := keep_image BM (Below.refl _ _)
  obtain ⟨l0, l1, l2⟩ := keep_image BN (Below.refl _ _)
  have pz := I.px i hin
  have BM0 := hide BM
  have BN0 := hide BN
  have hb := I.px.lt (by omega)
  have hp := lt_of_cell (P i hin).1
  have hgm := BM.lt
  have hgl := BN.lt
  clear I P hx hy hi BM BN n1 n2 n3
  go_enter Try.func24, Try.ntmps24
  go_wp2_with fail
  go_region_held3 (fun w' => (w'.cell? ⟨gm, 0, none⟩ = some (.int .i64 W) ∧ w'.cell? ⟨gm, 1, none⟩ = some (.int .i64 H) ∧ w'.cell? ⟨gm, 2, none⟩ = some (.slice (some ⟨b, off, none⟩) n c)) ∧ (w'.cell? ⟨gl, 0, none⟩ = some (.int .i64 W) ∧ w'.cell? ⟨gl, 1, none⟩ = some (.int .i64 H) ∧ w'.cell? ⟨gl, 2, none⟩ = some (.slice (some ⟨gp, 0, none⟩) n cl)) ∧ w'.cell? ⟨b, off + i, none⟩ = some (.int .u32 (z i))) (first | go_keep | exact ⟨⟨m04, m14, m24⟩, ⟨l04, l14, l24⟩, p4⟩ | exact ⟨⟨m05, m15, m25⟩, ⟨l05, l15, l25⟩, p5⟩ | exact set_kept (unhide N1) (unhide N2) (unhide N3) ⟨⟨m05, m15, m25⟩, ⟨l05, l15, l25⟩, p5⟩) ((first | (go_at_call 23; refine (at_in cl md X Y ((unhide J0).below (bel_dr (Below.refl _ _))) (unhide HX) (unhide HY) (unhide HG)).mono ?_; rintro e w4 ⟨rfl, b4⟩; have B4 := hide (below_two (bel_dr (Below.refl _ _)) b4); obtain ⟨⟨m04, m14, m24⟩, ⟨l04, l14, l24⟩, p4, q4, f4, s4⟩ := cells_at (unhide BM0) (unhide BN0) (unhide I0).px (unhide P0) hin (unhide B4); clear b4) | (go_at_call 25; refine (add12 _ _ _).mono ?_; rintro e w5 ⟨rfl, b5⟩; have B5 := hide (below_two (unhide B4) b5); obtain ⟨⟨m05, m15, m25⟩, ⟨l05, l15, l25⟩, p5, q5, f5, s5⟩ := cells_at (unhide BM0) (unhide BN0) (unhide I0).px (unhide P0) hin (unhide B5); clear b5)))
  all_goals go_end0
  all_goals exact ⟨rfl, ⟨_, unhide B5, rfl⟩⟩
end Go.Proofs.Ytnfokdcoelignaa.LClo
