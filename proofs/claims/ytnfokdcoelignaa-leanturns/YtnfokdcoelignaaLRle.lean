/- Contracts: the document's Lean, forth and back. Conditions: the three are sound, image and modes are in memory and few. -/
import Derived.Test.YtnfokdcoelignaaLFor
namespace Go.Proofs.Ytnfokdcoelignaa.LRle
set_option linter.unusedVariables false
open Go.ChangeShapes Go.WideShapes Go.ChangeAt Go.RowKit Go.Sort Go.Proofs.Ytnfokdcoelignaa.Core Go.Proofs.Ytnfokdcoelignaa.PNum Go.Proofs.Ytnfokdcoelignaa.PFun Go.Proofs.Ytnfokdcoelignaa.PRfn Go.Proofs.Ytnfokdcoelignaa.PGoo Go.Proofs.Ytnfokdcoelignaa.GGue Go.Proofs.Ytnfokdcoelignaa.GImg Go.Proofs.Ytnfokdcoelignaa.GAro Go.Proofs.Ytnfokdcoelignaa.GAtt Go.Proofs.Ytnfokdcoelignaa.GRat Go.Proofs.Ytnfokdcoelignaa.GCpy Go.Proofs.Ytnfokdcoelignaa.LBlk Go.Proofs.Ytnfokdcoelignaa.LMod Go.Proofs.Ytnfokdcoelignaa.LSnd Go.Proofs.Ytnfokdcoelignaa.LEch Go.Proofs.Ytnfokdcoelignaa.LClo Go.Proofs.Ytnfokdcoelignaa.LMak Go.Proofs.Ytnfokdcoelignaa.LNum Go.Proofs.Ytnfokdcoelignaa.LFor

/-- Where the new image lies, ahead of its first pixel. -/
structure LeI (w : World) (W H b off n c : Nat) (f : Nat → Nat → Nat) (v : Value) (wx : World) : Prop where
  ex : ∃ gl gp, v = .pointer (some ⟨gl, 0, none⟩) ∧ FoI w W H b off n c n w.heap.size gl gp (w.heap.size + 1) f 0 wx ∧ w.heap.size ≠ gp ∧ gl ≠ gp ∧ w.heap.size + 1 ≠ gp ∧ w.heap.size ≤ gp ∧ w.heap.size + 1 ≠ gl
theorem four_boxes (w : World) (x y z u : Array Value) (T U V X : TypeId) :
    Box ((((w.alloc (.cells x T)).alloc (.cells y U)).alloc (.cells z V)).alloc (.cells u X)) w.heap.size T x ∧ Box ((((w.alloc (.cells x T)).alloc (.cells y U)).alloc (.cells z V)).alloc (.cells u X)) (w.heap.size + 1) U y ∧
    Box ((((w.alloc (.cells x T)).alloc (.cells y U)).alloc (.cells z V)).alloc (.cells u X)) (w.heap.size + 2) V z ∧ Box ((((w.alloc (.cells x T)).alloc (.cells y U)).alloc (.cells z V)).alloc (.cells u X)) (w.heap.size + 3) X u := by
  obtain ⟨h1, h2⟩ := three_boxes w x y z T U V
  have h0 := ((Box.made w T x).alloc (.cells y U)).alloc (.cells z V)
  have k := Box.made (((w.alloc (.cells x T)).alloc (.cells y U)).alloc (.cells z V)) X u
  rw [show (((w.alloc (.cells x T)).alloc (.cells y U)).alloc (.cells z V)).heap.size = w.heap.size + 3 by simp] at k
  exact ⟨h0.alloc _, h1.alloc _, h2.alloc _, k⟩
theorem pow_drew {w : World} {g n : Nat} {f : Nat → Nat} (h : Pow w g n f) : Pow w.drew g n f := h
theorem bel_a4 (w : World) (o o' o'' o3 : Obj) : Below w.heap.size w ((((w.alloc o).alloc o').alloc o'').alloc o3) := (bel_a3 w o o' o'').alloc (by simp; omega) o3
theorem lei_a (w : World) (W H b off n c : Nat) {f : Nat → Nat → Nat} (hf : ∀ i, f 0 i = 0) :
    LeI w W H b off n c f (.pointer (some ⟨w.heap.size + 3, 0, none⟩)) (((((w.alloc (.cells #[.int .i64 W, .int .i64 H, .slice (some ⟨b, off, none⟩) n c] 24)).alloc (.cells #[.int .i64 0, .int .i64 0, .slice none 0 0] 24)).alloc (.cells (CNum.row (fun _ => 0) n) 38)).alloc (.cells #[.int .i64 W, .int .i64 H, .slice (some ⟨w.heap.size + 2, 0, none⟩) n n] 24)).drew) := by
  obtain ⟨h0, h1, h2, h3⟩ := four_boxes w #[.int .i64 W, .int .i64 H, .slice (some ⟨b, off, none⟩) n c] #[.int .i64 0, .int .i64 0, .slice none 0 0] (CNum.row (fun _ => 0) n) #[.int .i64 W, .int .i64 H, .slice (some ⟨w.heap.size + 2, 0, none⟩) n n] 24 24 38 24
  exact ⟨⟨_, w.heap.size + 2, rfl, ⟨h0, h3, h1, (pow_drew (pow_row _ h2)).congr (fun i _ => (hf i).symm), bel_dr (bel_a4 w _ _ _ _)⟩, by omega, by omega, by omega, by omega, by omega⟩⟩
theorem lei_b (w : World) (W H b off n c : Nat) {f : Nat → Nat → Nat} (hf : ∀ i, f 0 i = 0) :
    LeI w W H b off n c f (.pointer (some ⟨w.heap.size + 2, 0, none⟩)) (((((w.alloc (.cells #[.int .i64 W, .int .i64 H, .slice (some ⟨b, off, none⟩) n c] 24)).alloc (.cells #[.int .i64 0, .int .i64 0, .slice none 0 0] 24)).alloc (.cells #[.int .i64 W, .int .i64 H, .slice (some ⟨w.heap.size + 3, 0, none⟩) n n] 24)).alloc (.cells (CNum.row (fun _ => 0) n) 38)).drew) := by
  obtain ⟨h0, h1, h2, h3⟩ := four_boxes w #[.int .i64 W, .int .i64 H, .slice (some ⟨b, off, none⟩) n c] #[.int .i64 0, .int .i64 0, .slice none 0 0] #[.int .i64 W, .int .i64 H, .slice (some ⟨w.heap.size + 3, 0, none⟩) n n] (CNum.row (fun _ => 0) n) 24 24 24 38
  exact ⟨⟨_, w.heap.size + 3, rfl, ⟨h0, h2, h1, (pow_drew (pow_row _ h3)).congr (fun i _ => (hf i).symm), bel_dr (bel_a4 w _ _ _ _)⟩, by omega, by omega, by omega, by omega, by omega⟩⟩
set_option maxRecDepth 20000 in
set_option maxHeartbeats 2000000 in
theorem rlean_forth {W H b off n k m mb mo : Nat} (c cm : Nat) {z : Nat → Nat} {md : Nat → Int} {w : World} (I : Img w W H b off n z) (M : Mds w (some ⟨mb, mo, none⟩) m md) (hl : m ≤ 1000000) (hn : n ≤ 1000000) (hs : soV W H n k m md = true) :
    Calls Try.prog 13 #[.agg #[.int .i64 W, .int .i64 H, .slice (some ⟨b, off, none⟩) n c], .int .i64 k, .slice (some ⟨mb, mo, none⟩) m cm, .bool false] w fun e w' =>
      ∃ g, e = .returned (.agg #[.int .i64 W, .int .i64 H, .slice (some ⟨g, 0, none⟩) n n]) ∧ Gives w n g (foV W k md z) w' := by
  obtain ⟨W', H', k', eW, eH, ek, hW1, hW, hH1, hH, hn', hk2, hk, hm, hmd⟩ := so_of hs
  obtain rfl : W = W' := by omega
  obtain rfl : H = H' := by omega
  obtain rfl : k = k' := by omega
  clear eW eH ek hmd hs
  have I0 := hide I
  have M0 := hide M
  have HM := hide hm
  have HN := hide hn'
  have hn0 : 0 < n := by rw [hn']; exact Nat.mul_pos hW1 hH1
  have hbw := I.px.lt hn0
  have hmk := fun w => CNum.make_row w n hn
  clear I M hm hn'
  go_enter Try.func13, Try.ntmps13
  go_wp2_with fail
  go_cut [9] from 14 to 22 (fun v wx => LeI w W H b off n c (fwd W k md z) v wx)
  case first =>
    go_region
    all_goals go_wp2_with fail
    all_goals go_meet
    all_goals first | exact lei_a w W H b off n c (fun i => if_neg (by omega)) | exact lei_b w W H b off n c (fun i => if_neg (by omega))
  case rest =>
    obtain ⟨gl, gp, rfl, F0, n1, n2, n4, hg, n5⟩ := hcut
    have F00 := hide F0
    have N1 := hide n1
    have N2 := hide n2
    have N3 := hide (show b ≠ gp by omega)
    have N4 := hide n4
    have NG := hide hg
    have N5 := hide n5
    clear F0 n1 n2 n4 hg n5 hmk
    go_wp2_with fail
    go_loopw [10] (fun y wr => ∃ Y : Nat, Y ≤ H ∧ y = .int .i64 Y ∧ FoI w W H b off n c n w.heap.size gl gp (w.heap.size + 1) (fwd W k md z) (Y * W) wr) (fun y _ => H - (intOf y).toNat)
    case atStart => exact ⟨0, Nat.zero_le _, rfl, by rw [Nat.zero_mul]; exact unhide F00⟩
    case round =>
      obtain ⟨Y, hY, rfl, F⟩ := hrel
      have F1 := hide F
      obtain ⟨⟨m0, m1, m2⟩, ⟨l0, l1, l2⟩, ⟨r0, r1, r2⟩, f0, f1, f2, t0, t1⟩ := F.cells
      clear F F00
      by_cases hlt : Y < H
      · have hlt' : (Y : Int) < (H : Int) := by omega
        go_wp2_with fail
        go_loopw [11] (fun x wr => ∃ X : Nat, X ≤ W ∧ x = .int .i64 X ∧ FoI w W H b off n c n w.heap.size gl gp (w.heap.size + 1) (fwd W k md z) (Y * W + X) wr) (fun x _ => W - (intOf x).toNat)
        case atStart => exact ⟨0, Nat.zero_le _, rfl, unhide F1⟩
        case round =>
          obtain ⟨X, hX, rfl, F⟩ := hrel
          have F2 := hide F
          clear m0 m1 m2 l0 l1 l2 r0 r1 r2 f0 f1 f2 t0 t1 F1
          obtain ⟨⟨m0, m1, m2⟩, ⟨l0, l1, l2⟩, _⟩ := F.cells
          clear F
          by_cases hxl : X < W
          · have hxl' : (X : Int) < (W : Int) := by omega
            go_wp2_with fail
            refine (rblock31 (H := H) k X Y _ hW hH hk hxl hlt).mono ?_
            rintro e w7 ⟨rfl, b7⟩
            have F7 := hide ((unhide F2).keep b7)
            clear b7 m0 m1 m2 l0 l1 l2 F2
            obtain ⟨⟨m0, m1, m2⟩, ⟨l0, l1, l2⟩, _⟩ := (unhide F7).cells
            have hbk : bk W k X Y < m := by rw [unhide HM]; exact bk_lt k hxl hlt
            obtain ⟨mb', mo', e', mc⟩ := (unhide M0).below (unhide F7).bel _ hbk
            cases e'
            have hmb := lt_of_cell mc
            have hbl : bk W k X Y ≤ 1000000 := by omega
            have GU := hide (gu_at k md z hxl (rfl : Y * W + X = Y * W + X))
            have MW := row_wrap hW hH (Nat.le_of_lt hlt)
            have hin : Y * W + X < n := by rw [unhide HN]; exact place_lt hxl hlt
            have hin' : ((Y * W + X : Nat) : Int) < (n : Int) := by omega
            have NX := hide (fun w' (v : Nat) (e : v = foV W k md z (Y * W + X)) (p : Put w7 gp (Y * W + X) v w') => (unhide F7).next p (fun j _ => (by rw [e]; exact fwd_next W k md z (Y * W + X) j)) (unhide N1) (unhide N2) (unhide N4) (unhide NG))
            have P7 := hide (unhide F7).row
            have I7 : Hid (Img w7 W H b off n z) := hide ((unhide I0).below (unhide F7).bel)
            have J7 : Hid (Img w7 W H gp 0 n (fwd W k md z (Y * W + X))) := hide ⟨hW, hH, unhide HN, (unhide P7).pixs⟩
            have hp7 := lt_of_cell (unhide P7 _ hin).1
            have hgm := (unhide F7).bm.lt
            have hgl := (unhide F7).bn.lt
            have pz := (unhide I7).px _ hin
            have hb7 := lt_of_cell pz
            generalize md (bk W k X Y) = v at *
            generalize bk W k X Y = q at *
            generalize hr0 : Y * W = r at *
            have HR := hide hr0
            clear hr0
            have hr : r + X ≤ 1000000 := by omega
            go_upto_region 12 with fail
            obtain ⟨t, ht⟩ : ∃ t, t = r + X := ⟨_, rfl⟩
            have HT := hide ht
            rw [show ((r : Int) + (X : Int)) = (t : Int) from by omega]
            simp only [← ht] at GU hin hin' NX P7 J7 hp7 pz hr ⊢
            clear ht
            go_region_held3 (fun w' => (w'.cell? ⟨w.heap.size, 0, none⟩ = some (.int .i64 W) ∧ w'.cell? ⟨w.heap.size, 1, none⟩ = some (.int .i64 H) ∧ w'.cell? ⟨w.heap.size, 2, none⟩ = some (.slice (some ⟨b, off, none⟩) n c)) ∧ (w'.cell? ⟨gl, 0, none⟩ = some (.int .i64 W) ∧ w'.cell? ⟨gl, 1, none⟩ = some (.int .i64 H) ∧ w'.cell? ⟨gl, 2, none⟩ = some (.slice (some ⟨gp, 0, none⟩) n n)) ∧ w'.cell? ⟨b, off + t, none⟩ = some (.int .u32 (z t))) (first | go_keep | exact ⟨⟨m04, m14, m24⟩, ⟨l04, l14, l24⟩, p4⟩ | exact ⟨⟨m05, m15, m25⟩, ⟨l05, l15, l25⟩, p5⟩ | exact set_kept (unhide N1) (unhide N2) (unhide N3) ⟨⟨m05, m15, m25⟩, ⟨l05, l15, l25⟩, p5⟩) ((first | (go_at_call 33; refine (rat14 c v X Y ((unhide I7).below (bel_dr (Below.refl _ _))) hxl hlt).mono ?_; rintro e w4 ⟨rfl, b4⟩; have B4 := hide (below_two (bel_dr (Below.refl _ _)) b4); obtain ⟨⟨m04, m14, m24⟩, ⟨l04, l14, l24⟩, p4, q4, f4, s4⟩ := cells_at (unhide F7).bm (unhide F7).bn (unhide I7).px (unhide P7) hin (unhide B4); clear b4) | (go_at_call 17; refine (rsub15 _ _ _).mono ?_; rintro e w5 ⟨rfl, b5⟩; have B5 := hide (below_two (unhide B4) b5); obtain ⟨⟨m05, m15, m25⟩, ⟨l05, l15, l25⟩, p5, q5, f5, s5⟩ := cells_at (unhide F7).bm (unhide F7).bn (unhide I7).px (unhide P7) hin (unhide B5); clear b5)))
            have F8 := hide (unhide NX _ (subV (z t) (atV W z v X Y)) (by rw [foV, unhide GU]) ⟨⟨_, unhide B5, rfl⟩⟩).1
            clear m0 m1 m2 l0 l1 l2 pz m04 m14 m24 l04 l14 l24 p4 q4 f4 m05 m15 m25 l05 l15 l25 p5 q5 f5
            go_wp2
            go_roundw
            case rel => exact ⟨X + 1, by omega, by go_num, by rw [show Y * W + (X + 1) = t + 1 from by rw [unhide HR, unhide HT]; rfl]; exact unhide F8⟩
            case measure => simp [intOf]; omega
          · obtain rfl : X = W := by omega
            have F3 := hide (show FoI w X H b off n c n w.heap.size gl gp (w.heap.size + 1) (fwd X k md z) ((Y + 1) * X) wr from by rw [Nat.add_mul, Nat.one_mul]; exact unhide F2)
            go_wp2
            go_roundw
            case rel => exact ⟨Y + 1, by omega, by go_num, unhide F3⟩
            case measure => simp [intOf]; omega
      · obtain rfl : Y = H := by omega
        have FN : Hid (FoI w W Y b off n c n w.heap.size gl gp (w.heap.size + 1) (fwd W k md z) n wr) := hide (by have h := unhide F1; rw [show Y * W = n from by rw [unhide HN, Nat.mul_comm]] at h; exact h)
        clear F1
        go_wp2
        exact bodyPost_ret (results_cell_row rfl _ _ (w.heap.size + 1) 24 _ (0, 0) _ rfl ((((unhide FN).br.set 0 _).set 1 _).set 2 _) Try.underlying24 rfl (by kernel_rfl)) rfl ⟨gp, rfl, ⟨((((unhide FN).row.other (p := ⟨w.heap.size + 1, 0, none⟩) (fun h => unhide N4 h.symm) _).other (p := ⟨w.heap.size + 1, 1, none⟩) (fun h => unhide N4 h.symm) _).other (p := ⟨w.heap.size + 1, 2, none⟩) (fun h => unhide N4 h.symm) _).congr (fun i hi => if_pos hi), unhide NG, (((unhide FN).bel.setCell (p := ⟨w.heap.size + 1, 0, none⟩) (by simp) _).setCell (p := ⟨w.heap.size + 1, 1, none⟩) (by simp) _).setCell (p := ⟨w.heap.size + 1, 2, none⟩) (by simp) _⟩⟩
set_option maxRecDepth 20000 in
set_option maxHeartbeats 2000000 in
theorem rlean_back {W H b off n k m mb mo : Nat} (c cm : Nat) {z : Nat → Nat} {md : Nat → Int} {w : World} (I : Img w W H b off n z) (M : Mds w (some ⟨mb, mo, none⟩) m md) (hl : m ≤ 1000000) (hn : n ≤ 1000000) (hs : soV W H n k m md = true) :
    Calls Try.prog 13 #[.agg #[.int .i64 W, .int .i64 H, .slice (some ⟨b, off, none⟩) n c], .int .i64 k, .slice (some ⟨mb, mo, none⟩) m cm, .bool true] w fun e w' =>
      ∃ g, e = .returned (.agg #[.int .i64 W, .int .i64 H, .slice (some ⟨g, 0, none⟩) n n]) ∧ Gives w n g (baV W k md z) w' := by
  obtain ⟨W', H', k', eW, eH, ek, hW1, hW, hH1, hH, hn', hk2, hk, hm, hmd⟩ := so_of hs
  obtain rfl : W = W' := by omega
  obtain rfl : H = H' := by omega
  obtain rfl : k = k' := by omega
  clear eW eH ek hmd hs
  have I0 := hide I
  have M0 := hide M
  have HM := hide hm
  have HN := hide hn'
  have hn0 : 0 < n := by rw [hn']; exact Nat.mul_pos hW1 hH1
  have hbw := I.px.lt hn0
  have hmk := fun w => CNum.make_row w n hn
  clear I M hm hn'
  go_enter Try.func13, Try.ntmps13
  go_wp2_with fail
  go_cut [9] from 14 to 22 (fun v wx => LeI w W H b off n c (stV W k md z) v wx)
  case first =>
    go_region
    all_goals go_wp2_with fail
    all_goals go_meet
    all_goals first | exact lei_a w W H b off n c (fun i => rfl) | exact lei_b w W H b off n c (fun i => rfl)
  case rest =>
    obtain ⟨gl, gp, rfl, F0, n1, n2, n4, hg, n5⟩ := hcut
    have F00 := hide F0
    have N1 := hide n1
    have N2 := hide n2
    have N3 := hide (show b ≠ gp by omega)
    have N4 := hide n4
    have NG := hide hg
    have N5 := hide n5
    clear F0 n1 n2 n4 hg n5 hmk
    go_wp2_with fail
    go_loopw [10] (fun y wr => ∃ Y : Nat, Y ≤ H ∧ y = .int .i64 Y ∧ FoI w W H b off n c n w.heap.size gl gp (w.heap.size + 1) (stV W k md z) (Y * W) wr) (fun y _ => H - (intOf y).toNat)
    case atStart => exact ⟨0, Nat.zero_le _, rfl, by rw [Nat.zero_mul]; exact unhide F00⟩
    case round =>
      obtain ⟨Y, hY, rfl, F⟩ := hrel
      have F1 := hide F
      obtain ⟨⟨m0, m1, m2⟩, ⟨l0, l1, l2⟩, ⟨r0, r1, r2⟩, f0, f1, f2, t0, t1⟩ := F.cells
      clear F F00
      by_cases hlt : Y < H
      · have hlt' : (Y : Int) < (H : Int) := by omega
        go_wp2_with fail
        go_loopw [11] (fun x wr => ∃ X : Nat, X ≤ W ∧ x = .int .i64 X ∧ FoI w W H b off n c n w.heap.size gl gp (w.heap.size + 1) (stV W k md z) (Y * W + X) wr) (fun x _ => W - (intOf x).toNat)
        case atStart => exact ⟨0, Nat.zero_le _, rfl, unhide F1⟩
        case round =>
          obtain ⟨X, hX, rfl, F⟩ := hrel
          have F2 := hide F
          clear m0 m1 m2 l0 l1 l2 r0 r1 r2 f0 f1 f2 t0 t1 F1
          obtain ⟨⟨m0, m1, m2⟩, ⟨l0, l1, l2⟩, _⟩ := F.cells
          clear F
          by_cases hxl : X < W
          · have hxl' : (X : Int) < (W : Int) := by omega
            go_wp2_with fail
            refine (rblock31 (H := H) k X Y _ hW hH hk hxl hlt).mono ?_
            rintro e w7 ⟨rfl, b7⟩
            have F7 := hide ((unhide F2).keep b7)
            clear b7 m0 m1 m2 l0 l1 l2 F2
            obtain ⟨⟨m0, m1, m2⟩, ⟨l0, l1, l2⟩, _⟩ := (unhide F7).cells
            have hbk : bk W k X Y < m := by rw [unhide HM]; exact bk_lt k hxl hlt
            obtain ⟨mb', mo', e', mc⟩ := (unhide M0).below (unhide F7).bel _ hbk
            cases e'
            have hmb := lt_of_cell mc
            have hbl : bk W k X Y ≤ 1000000 := by omega
            have GU := hide (gu_at k md (stV W k md z (Y * W + X)) hxl (rfl : Y * W + X = Y * W + X))
            have MW := row_wrap hW hH (Nat.le_of_lt hlt)
            have hin : Y * W + X < n := by rw [unhide HN]; exact place_lt hxl hlt
            have hin' : ((Y * W + X : Nat) : Int) < (n : Int) := by omega
            have NX := hide (fun w' (v : Nat) (e : v = addV (z (Y * W + X)) (gu W k md (stV W k md z (Y * W + X)) (Y * W + X))) (p : Put w7 gp (Y * W + X) v w') => (unhide F7).next p (fun j _ => (by rw [e]; rfl)) (unhide N1) (unhide N2) (unhide N4) (unhide NG))
            have P7 := hide (unhide F7).row
            have I7 : Hid (Img w7 W H b off n z) := hide ((unhide I0).below (unhide F7).bel)
            have J7 : Hid (Img w7 W H gp 0 n (stV W k md z (Y * W + X))) := hide ⟨hW, hH, unhide HN, (unhide P7).pixs⟩
            have hp7 := lt_of_cell (unhide P7 _ hin).1
            have hgm := (unhide F7).bm.lt
            have hgl := (unhide F7).bn.lt
            have pz := (unhide I7).px _ hin
            have hb7 := lt_of_cell pz
            generalize md (bk W k X Y) = v at *
            generalize bk W k X Y = q at *
            generalize hr0 : Y * W = r at *
            have HR := hide hr0
            clear hr0
            have hr : r + X ≤ 1000000 := by omega
            go_upto_region 11 with fail
            obtain ⟨t, ht⟩ : ∃ t, t = r + X := ⟨_, rfl⟩
            have HT := hide ht
            rw [show ((r : Int) + (X : Int)) = (t : Int) from by omega]
            simp only [← ht] at GU hin hin' NX P7 J7 hp7 pz hr ⊢
            clear ht
            go_region_held3 (fun w' => (w'.cell? ⟨w.heap.size, 0, none⟩ = some (.int .i64 W) ∧ w'.cell? ⟨w.heap.size, 1, none⟩ = some (.int .i64 H) ∧ w'.cell? ⟨w.heap.size, 2, none⟩ = some (.slice (some ⟨b, off, none⟩) n c)) ∧ (w'.cell? ⟨gl, 0, none⟩ = some (.int .i64 W) ∧ w'.cell? ⟨gl, 1, none⟩ = some (.int .i64 H) ∧ w'.cell? ⟨gl, 2, none⟩ = some (.slice (some ⟨gp, 0, none⟩) n n)) ∧ w'.cell? ⟨b, off + t, none⟩ = some (.int .u32 (z t))) (first | go_keep | exact ⟨⟨m04, m14, m24⟩, ⟨l04, l14, l24⟩, p4⟩ | exact ⟨⟨m05, m15, m25⟩, ⟨l05, l15, l25⟩, p5⟩ | exact set_kept (unhide N1) (unhide N2) (unhide N3) ⟨⟨m05, m15, m25⟩, ⟨l05, l15, l25⟩, p5⟩) ((first | (go_at_call 33; refine (rat14 n v X Y ((unhide J7).below (bel_dr (Below.refl _ _))) hxl hlt).mono ?_; rintro e w4 ⟨rfl, b4⟩; have B4 := hide (below_two (bel_dr (Below.refl _ _)) b4); obtain ⟨⟨m04, m14, m24⟩, ⟨l04, l14, l24⟩, p4, q4, f4, s4⟩ := cells_at (unhide F7).bm (unhide F7).bn (unhide I7).px (unhide P7) hin (unhide B4); clear b4) | (go_at_call 32; refine (radd13 _ _ _).mono ?_; rintro e w5 ⟨rfl, b5⟩; have B5 := hide (below_two (unhide B4) b5); obtain ⟨⟨m05, m15, m25⟩, ⟨l05, l15, l25⟩, p5, q5, f5, s5⟩ := cells_at (unhide F7).bm (unhide F7).bn (unhide I7).px (unhide P7) hin (unhide B5); clear b5)))
            have F8 := hide (unhide NX _ (addV (z t) (atV W (stV W k md z t) v X Y)) (by rw [unhide GU]) ⟨⟨_, unhide B5, rfl⟩⟩).1
            clear m0 m1 m2 l0 l1 l2 pz m04 m14 m24 l04 l14 l24 p4 q4 f4 m05 m15 m25 l05 l15 l25 p5 q5 f5
            go_wp2
            go_roundw
            case rel => exact ⟨X + 1, by omega, by go_num, by rw [show Y * W + (X + 1) = t + 1 from by rw [unhide HR, unhide HT]; rfl]; exact unhide F8⟩
            case measure => simp [intOf]; omega
          · obtain rfl : X = W := by omega
            have F3 := hide (show FoI w X H b off n c n w.heap.size gl gp (w.heap.size + 1) (stV X k md z) ((Y + 1) * X) wr from by rw [Nat.add_mul, Nat.one_mul]; exact unhide F2)
            go_wp2
            go_roundw
            case rel => exact ⟨Y + 1, by omega, by go_num, unhide F3⟩
            case measure => simp [intOf]; omega
      · obtain rfl : Y = H := by omega
        have FN : Hid (FoI w W Y b off n c n w.heap.size gl gp (w.heap.size + 1) (stV W k md z) n wr) := hide (by have h := unhide F1; rw [show Y * W = n from by rw [unhide HN, Nat.mul_comm]] at h; exact h)
        clear F1
        go_wp2
        exact bodyPost_ret (results_cell_row rfl _ _ (w.heap.size + 1) 24 _ (0, 0) _ rfl ((((unhide FN).br.set 0 _).set 1 _).set 2 _) Try.underlying24 rfl (by kernel_rfl)) rfl ⟨gp, rfl, ⟨((((unhide FN).row.other (p := ⟨w.heap.size + 1, 0, none⟩) (fun h => unhide N4 h.symm) _).other (p := ⟨w.heap.size + 1, 1, none⟩) (fun h => unhide N4 h.symm) _).other (p := ⟨w.heap.size + 1, 2, none⟩) (fun h => unhide N4 h.symm) _).congr (fun i hi => st_ba W k md z hi), unhide NG, (((unhide FN).bel.setCell (p := ⟨w.heap.size + 1, 0, none⟩) (by simp) _).setCell (p := ⟨w.heap.size + 1, 1, none⟩) (by simp) _).setCell (p := ⟨w.heap.size + 1, 2, none⟩) (by simp) _⟩⟩
end Go.Proofs.Ytnfokdcoelignaa.LRle
