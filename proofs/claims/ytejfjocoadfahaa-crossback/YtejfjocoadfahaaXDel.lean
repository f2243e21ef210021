/- Contracts: cross.Delta, the document's Delta, ofRed, ofBlue, Pixel, Of. Conditions: numbers fit their kinds. -/
import Derived.Test.YtejfjocoadfahaaXNum
import Derived.Test.YtejfjocoadfahaaIms
import Derived.Laws.StructEq
namespace Go.Proofs.Ytejfjocoadfahaa.XDel
set_option linter.unusedVariables false
open Go.ChangeShapes Go.WideShapes Go.ChangeAt Go.RowKit Go.Proofs.Ytejfjocoadfahaa.Core Go.Proofs.Ytejfjocoadfahaa.PNum Go.Proofs.Ytejfjocoadfahaa.PPrt Go.Proofs.Ytejfjocoadfahaa.XNum Go.Proofs.Ytejfjocoadfahaa.Ims

theorem wrap_small {z : Int} (h0 : -16384 ≤ z) (h1 : z ≤ 16384) : IntKind.i64.wrap z = z := by
  simp [IntKind.wrap, IntKind.bits, IntKind.signed]; omega
theorem delta15 (t c : Int) (h0 : -128 ≤ t) (h1 : t ≤ 127) (h2 : -128 ≤ c) (h3 : c ≤ 127) (w : World) :
    Calls Try.prog 15 #[.int .i8 t, .int .i8 c] w fun e w' => e = .returned (.int .i64 (dl t c)) ∧ w' = w := by
  have b := mul_bd h0 h1 h2 h3
  have M := wrap_small b.1 b.2
  have D := hide (show dl t c = t * c / 32 from rfl)
  clear b
  go_enter Try.func15, Try.ntmps15
  go_wp2
  go_ret
  exact ⟨ret_int (unhide D).symm, rfl⟩
theorem neg_up (z : Int) (h : z < 0) : -((-z + 31) / 32) = z / 32 := by omega
theorem rdelta16 (t c : Int) (h0 : -128 ≤ t) (h1 : t ≤ 127) (h2 : -128 ≤ c) (h3 : c ≤ 127) (w : World) :
    Calls Try.prog 16 #[.int .i64 t, .int .i64 c] w fun e w' => e = .returned (.int .i64 (dl t c)) ∧ w' = w := by
  have b := mul_bd h0 h1 h2 h3
  have M := wrap_small b.1 b.2
  have D := hide (show dl t c = t * c / 32 from rfl)
  obtain ⟨z, hz⟩ : ∃ z, t * c = z := ⟨_, rfl⟩
  rw [hz] at b M D
  by_cases h : 0 ≤ z
  · go_enter Try.func16, Try.ntmps16
    go_wp2
    go_ret
    exact ⟨ret_int (by rw [unhide D]), rfl⟩
  · have N := hide (neg_up z (by omega))
    go_enter Try.func16, Try.ntmps16
    go_wp2
    go_ret
    exact ⟨ret_int (by rw [unhide D]; exact unhide N), rfl⟩
/-- An element as a value. -/
def ev (e : El) : Value := .agg #[.int .i8 e.a, .int .i8 e.b, .int .i8 e.c]
theorem red26 {e : El} (he : e.ok) (g : Nat) (hg : g < 256) (w : World) :
    Calls Try.prog 26 #[.agg #[.int .i8 e.a, .int .i8 e.b, .int .i8 e.c], .int .u8 g] w fun e' w' => e' = .returned (.int .u8 (rd e g)) ∧ Below w.heap.size w w' := by
  obtain ⟨a0, a1, b0, b1, c0, c1⟩ := he
  obtain ⟨s0, s1⟩ := sg_bd hg
  have Q := hide (fun w => delta15 e.a (sg g) a0 a1 s0 s1 w)
  have D := hide (un_cast (dl e.a (sg g)))
  have R := hide (show rd e g = un (dl e.a (sg g)) from rfl)
  have db := dl_bd a0 a1 s0 s1
  have SG : IntKind.i8.wrap (g : Int) = sg g := by
    unfold sg; split <;> (simp [IntKind.wrap, IntKind.bits, IntKind.signed]; omega)
  generalize dl e.a (sg g) = d at *
  generalize sg g = s at *
  go_enter Try.func26, Try.ntmps26
  go_wp2_with fail
  refine (unhide Q _).mono ?_
  rintro e' w' ⟨rfl, rfl⟩
  go_wp2
  go_ret
  exact ⟨ret_int (by rw [unhide R, unhide D]), bel_a1 _ _⟩
theorem i8_of {g : Nat} (hg : g < 256) : IntKind.i8.wrap (g : Int) = sg g := by
  unfold sg; split <;> (simp [IntKind.wrap, IntKind.bits, IntKind.signed]; omega)
set_option maxHeartbeats 400000 in
theorem blue27 {e : El} (he : e.ok) (r g : Nat) (hr : r < 256) (hg : g < 256) (w : World) :
    Calls Try.prog 27 #[.agg #[.int .i8 e.a, .int .i8 e.b, .int .i8 e.c], .int .u8 r, .int .u8 g] w fun e' w' => e' = .returned (.int .u8 (bu e r g)) ∧ Below w.heap.size w w' := by
  obtain ⟨a0, a1, b0, b1, c0, c1⟩ := he
  obtain ⟨s0, s1⟩ := sg_bd hg
  obtain ⟨t0, t1⟩ := sg_bd hr
  have Q1 := hide (fun w => delta15 e.b (sg g) b0 b1 s0 s1 w)
  have Q2 := hide (fun w => delta15 e.c (sg r) c0 c1 t0 t1 w)
  have D := hide (un_cast (dl e.b (sg g) + dl e.c (sg r)))
  have R := hide (show bu e r g = un (dl e.b (sg g) + dl e.c (sg r)) from rfl)
  have d1 := dl_bd b0 b1 s0 s1
  have d2 := dl_bd c0 c1 t0 t1
  have G1 := i8_of hg
  have G2 := i8_of hr
  generalize dl e.b (sg g) = d at *
  generalize dl e.c (sg r) = d' at *
  generalize sg g = s at *
  generalize sg r = t at *
  go_enter Try.func27, Try.ntmps27
  go_wp2_with fail
  go_quiet ((go_at_call 15; first | (with_reducible exact Calls.quiet_of_same (unhide Q1 _)) | (with_reducible exact Calls.quiet_of_same (unhide Q2 _))))
  go_wp2
  go_ret
  exact ⟨ret_int (by rw [unhide R, unhide D]), below_drew (bel_a1 _ _) _⟩
theorem u8_of (z : Int) : IntKind.u8.wrap z = (un z : Int) := by
  unfold un; simp [IntKind.wrap, IntKind.bits, IntKind.signed]; omega
set_option maxHeartbeats 400000 in
theorem pixel12 (e : El) (w : World) :
    Calls Try.prog 12 #[.agg #[.int .i8 e.a, .int .i8 e.b, .int .i8 e.c]] w fun e' w' => e' = .returned (.int .u32 (epx e)) ∧ Below w.heap.size w w' := by
  have Q := hide (fun w => make11 255 (un e.c) (un e.b) (un e.a) (by omega) (un_lt _) (un_lt _) (un_lt _) w)
  have R : Hid (epx e = ((255 * 256 + un e.c) * 256 + un e.b) * 256 + un e.a) := rfl
  have U1 := u8_of e.a
  have U2 := u8_of e.b
  have U3 := u8_of e.c
  generalize un e.a = x at *
  generalize un e.b = y at *
  generalize un e.c = z at *
  go_enter Try.func12, Try.ntmps12
  go_wp2_with fail
  refine (unhide Q _).mono ?_
  rintro e' w' ⟨rfl, rfl⟩
  go_wp2
  go_ret
  exact ⟨ret_int (congrArg Int.ofNat (unhide R)).symm, bel_a1 _ _⟩
set_option maxHeartbeats 400000 in
theorem of13 (p : Nat) (w : World) :
    Calls Try.prog 13 #[.int .u32 p] w fun e' w' => e' = .returned (.agg #[.int .i8 (pel p).a, .int .i8 (pel p).b, .int .i8 (pel p).c]) ∧ Below w.heap.size w w' := by
  have E : Hid (Value.agg #[.int .i8 (pel p).a, .int .i8 (pel p).b, .int .i8 (pel p).c] = .agg #[.int .i8 (sg (pt p 3)), .int .i8 (sg (pt p 2)), .int .i8 (sg (pt p 1))]) := rfl
  rw [unhide E]
  clear E
  have PP := hide (parts8 p)
  have G1 := i8_of (pt_lt p 1)
  have G2 := i8_of (pt_lt p 2)
  have G3 := i8_of (pt_lt p 3)
  generalize sg (pt p 1) = s1 at *
  generalize sg (pt p 2) = s2 at *
  generalize sg (pt p 3) = s3 at *
  generalize pt p 0 = x0 at *
  generalize pt p 1 = x1 at *
  generalize pt p 2 = x2 at *
  generalize pt p 3 = x3 at *
  go_enter Try.func13, Try.ntmps13
  go_wp2_with fail
  refine (unhide PP _).mono ?_
  rintro e' w' ⟨rfl, rfl⟩
  go_wp2
  exact bodyPost_ret (results_cell_row rfl _ _ w.heap.size 37 #[.int .i8 s3, .int .i8 s2, .int .i8 s1] (0, 0) _ rfl (Box.made w 37 _) Try.underlying37 rfl (by kernel_rfl)) rfl ⟨rfl, bel_a1 w _⟩
set_option maxHeartbeats 400000 in
theorem ans8 (w : World) : Calls Try.prog 8 #[] w fun e w' => e = .returned (.bool true) ∧ Below w.heap.size w w' := by
  have Q1 := hide (fun w => delta15 (-1) 1 (by omega) (by omega) (by omega) (by omega) w)
  have Q2 := hide (fun w => pixel12 ⟨0, 0, 1⟩ w)
  have e1 : dl (-1) 1 = -1 := by decide
  have e2 : (epx ⟨0, 0, 1⟩ : Int) = 4278255616 := by decide
  go_enter Try.func8, Try.ntmps8
  go_wp2_with fail
  refine (unhide Q1 _).mono ?_
  rintro e' w' ⟨rfl, rfl⟩
  rw [e1]
  go_wp2_with fail
  refine (unhide Q2 _).mono ?_
  rintro e' w' ⟨rfl, b1⟩
  have B1 := hide b1
  clear b1
  rw [e2]
  go_wp2
  go_ret
  exact ⟨rfl, unhide B1⟩
end Go.Proofs.Ytejfjocoadfahaa.XDel
