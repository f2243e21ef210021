/- Contracts: Forth and Back of cross. Conditions: the image is good and in memory, as are as many elements as blocks; the bits are from 2 to 9. -/
import Derived.Test.YtejfjocoadfahaaXEch
namespace Go.Proofs.Ytejfjocoadfahaa.XFor
set_option linter.unusedVariables false
open Go.ChangeShapes Go.WideShapes Go.ChangeAt Go.RowKit Go.Sort Go.Proofs.Ytejfjocoadfahaa.Core Go.Proofs.Ytejfjocoadfahaa.PNum Go.Proofs.Ytejfjocoadfahaa.PGoo Go.Proofs.Ytejfjocoadfahaa.XNum Go.Proofs.Ytejfjocoadfahaa.Ims Go.Proofs.Ytejfjocoadfahaa.XDel Go.Proofs.Ytejfjocoadfahaa.XLes Go.Proofs.Ytejfjocoadfahaa.LBlk Go.Proofs.Ytejfjocoadfahaa.XFit Go.Proofs.Ytejfjocoadfahaa.XEch

set_option maxHeartbeats 400000 in
theorem forth9 {W H k m b off n bb bo : Nat} (c cm : Nat) {z : Nat → Nat} {E : Nat → El} {w : World} (I : Img w W H b off n z) (ZB : ∀ i, i < n → z i < 4294967296) (EL : Els w bb bo m E)
    (hW1 : 1 ≤ W) (hH1 : 1 ≤ H) (hk2 : 2 ≤ k) (hk : k ≤ 9) (hm : m = bl W k * bl H k) (hl : n ≤ 1000000) :
    Calls Try.prog 9 #[.agg #[.int .i64 W, .int .i64 H, .slice (some ⟨b, off, none⟩) n c], .int .i64 k, .slice (some ⟨bb, bo, none⟩) m cm] w fun e w' =>
      ∃ g, e = .returned (.tuple #[.agg #[.int .i64 W, .int .i64 H, .slice (some ⟨g, 0, none⟩) n n], .int .i64 0]) ∧ Gives w n g (ou lsV E W k z) w' := by
  have BL := hide (bel_a2 w (.cells #[.int .i64 W, .int .i64 H, .slice (some ⟨b, off, none⟩) n c] 24) (.cells #[.int .i64 0, .int .i64 0, .slice none 0 0] 24))
  have BR := hide (two_boxes w #[.int .i64 W, .int .i64 H, .slice (some ⟨b, off, none⟩) n c] #[.int .i64 0, .int .i64 0, .slice none 0 0] 24 24)
  have Q := hide (each18 19 (enters_of Try.func19 (by kernel_rfl) rfl) lsV (fun e p w he => less19 he p w) (fun p h => ls_zero h) c cm (I.below (unhide BL)) ZB (EL.below (unhide BL)) hW1 hH1 hk2 hk hm hl)
  clear I ZB EL hm
  go_enter Try.func9, Try.ntmps9
  go_wp2_with fail
  refine (unhide Q).mono ?_
  rintro e w2 ⟨g, rfl, G⟩
  have R2 := hide ((unhide BR).2.below G.bel (unhide BR).2.lt)
  obtain ⟨⟨r0, r1, r2⟩, f0, f1, f2⟩ := box_cells (unhide R2)
  have hr := (unhide R2).lt
  have hg : w.heap.size + 2 ≤ g := by have h := G.new; simp at h; omega
  have GR := hide G.row
  have GB := hide (bel_into (unhide BL) G.bel)
  have NG := hide (show g ≠ w.heap.size + 1 by omega)
  clear G
  go_wp2
  exact bodyPost_ret (results_row_tmp rfl _ _ (w.heap.size + 1) 24 _ (0, 0) _ rfl ((((unhide R2).set 0 _).set 1 _).set 2 _) Try.underlying24 rfl (by kernel_rfl)) rfl ⟨g, rfl, ⟨(((unhide GR).other (p := ⟨w.heap.size + 1, 0, none⟩) (unhide NG) _).other (p := ⟨w.heap.size + 1, 1, none⟩) (unhide NG) _).other (p := ⟨w.heap.size + 1, 2, none⟩) (unhide NG) _, by omega, (((unhide GB).setCell (p := ⟨w.heap.size + 1, 0, none⟩) (by simp) _).setCell (p := ⟨w.heap.size + 1, 1, none⟩) (by simp) _).setCell (p := ⟨w.heap.size + 1, 2, none⟩) (by simp) _⟩⟩
set_option maxHeartbeats 400000 in
theorem back10 {W H k m b off n bb bo : Nat} (c cm : Nat) {z : Nat → Nat} {E : Nat → El} {w : World} (I : Img w W H b off n z) (ZB : ∀ i, i < n → z i < 4294967296) (EL : Els w bb bo m E)
    (hW1 : 1 ≤ W) (hH1 : 1 ≤ H) (hk2 : 2 ≤ k) (hk : k ≤ 9) (hm : m = bl W k * bl H k) (hl : n ≤ 1000000) :
    Calls Try.prog 10 #[.agg #[.int .i64 W, .int .i64 H, .slice (some ⟨b, off, none⟩) n c], .int .i64 k, .slice (some ⟨bb, bo, none⟩) m cm] w fun e w' =>
      ∃ g, e = .returned (.tuple #[.agg #[.int .i64 W, .int .i64 H, .slice (some ⟨g, 0, none⟩) n n], .int .i64 0]) ∧ Gives w n g (ou moV E W k z) w' := by
  have BL := hide (bel_a2 w (.cells #[.int .i64 W, .int .i64 H, .slice (some ⟨b, off, none⟩) n c] 24) (.cells #[.int .i64 0, .int .i64 0, .slice none 0 0] 24))
  have BR := hide (two_boxes w #[.int .i64 W, .int .i64 H, .slice (some ⟨b, off, none⟩) n c] #[.int .i64 0, .int .i64 0, .slice none 0 0] 24 24)
  have Q := hide (each18 20 (enters_of Try.func20 (by kernel_rfl) rfl) moV (fun e p w he => more20 he p w) (fun p h => mo_zero h) c cm (I.below (unhide BL)) ZB (EL.below (unhide BL)) hW1 hH1 hk2 hk hm hl)
  clear I ZB EL hm
  go_enter Try.func10, Try.ntmps10
  go_wp2_with fail
  refine (unhide Q).mono ?_
  rintro e w2 ⟨g, rfl, G⟩
  have R2 := hide ((unhide BR).2.below G.bel (unhide BR).2.lt)
  obtain ⟨⟨r0, r1, r2⟩, f0, f1, f2⟩ := box_cells (unhide R2)
  have hr := (unhide R2).lt
  have hg : w.heap.size + 2 ≤ g := by have h := G.new; simp at h; omega
  have GR := hide G.row
  have GB := hide (bel_into (unhide BL) G.bel)
  have NG := hide (show g ≠ w.heap.size + 1 by omega)
  clear G
  go_wp2
  exact bodyPost_ret (results_row_tmp rfl _ _ (w.heap.size + 1) 24 _ (0, 0) _ rfl ((((unhide R2).set 0 _).set 1 _).set 2 _) Try.underlying24 rfl (by kernel_rfl)) rfl ⟨g, rfl, ⟨(((unhide GR).other (p := ⟨w.heap.size + 1, 0, none⟩) (unhide NG) _).other (p := ⟨w.heap.size + 1, 1, none⟩) (unhide NG) _).other (p := ⟨w.heap.size + 1, 2, none⟩) (unhide NG) _, by omega, (((unhide GB).setCell (p := ⟨w.heap.size + 1, 0, none⟩) (by simp) _).setCell (p := ⟨w.heap.size + 1, 1, none⟩) (by simp) _).setCell (p := ⟨w.heap.size + 1, 2, none⟩) (by simp) _⟩⟩
/-- Forth and back each pixel is itself. -/
theorem ou_back {W k n : Nat} {z : Nat → Nat} (E : Nat → El) (ZB : ∀ i, i < n → z i < 4294967296) (i : Nat) (hi : i < n) : ou moV E W k (ou lsV E W k z) i = z i := mo_ls _ (ZB i hi)
theorem ou_forth {W k n : Nat} {z : Nat → Nat} (E : Nat → El) (ZB : ∀ i, i < n → z i < 4294967296) (i : Nat) (hi : i < n) : ou lsV E W k (ou moV E W k z) i = z i := ls_mo _ (ZB i hi)
theorem ou_ls_lt (E : Nat → El) (W k : Nat) (z : Nat → Nat) (i : Nat) : ou lsV E W k z i < 4294967296 := lsV_lt _ _
theorem ou_mo_lt (E : Nat → El) (W k : Nat) (z : Nat → Nat) (i : Nat) : ou moV E W k z i < 4294967296 := moV_lt _ _
theorem stays_bits {x y : Nat} (hx : x < 4294967296) (hy : y < 4294967296) (h0 : pt x 0 = pt y 0) (h2 : pt x 2 = pt y 2) : bits .and .u32 (bits .xor .u32 (x : Int) (y : Int)) 4278255360 = 0 := by
  have hx2 : x ^^^ y < 2 ^ 32 := Nat.xor_lt_two_pow (by omega) (by omega)
  rw [u32_xor_nat x y hx hy, show (4278255360 : Int) = ((4278255360 : Nat) : Int) from rfl, u32_and_nat _ _ (by omega) (by omega), stays h0 h2]
  rfl
/-- Alpha and green stay. -/
theorem ou_stays {W k n : Nat} {z : Nat → Nat} (E : Nat → El) (ZB : ∀ i, i < n → z i < 4294967296) (i : Nat) (hi : i < n) : bits .and .u32 (bits .xor .u32 (ou lsV E W k z i : Nat) (z i : Nat)) 4278255360 = 0 :=
  stays_bits (lsV_lt _ _) (ZB i hi) (ls_0 _ _) (ls_2 _ _)
end Go.Proofs.Ytejfjocoadfahaa.XFor
