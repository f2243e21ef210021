/- Contracts: less and more of cross. Conditions: the element's numbers fit their kind. -/
import Derived.Test.YtejfjocoadfahaaXDel
namespace Go.Proofs.Ytejfjocoadfahaa.XLes
set_option linter.unusedVariables false
open Go.ChangeShapes Go.WideShapes Go.ChangeAt Go.RowKit Go.Sort Go.Proofs.Ytejfjocoadfahaa.Core Go.Proofs.Ytejfjocoadfahaa.PNum Go.Proofs.Ytejfjocoadfahaa.PPrt Go.Proofs.Ytejfjocoadfahaa.XNum Go.Proofs.Ytejfjocoadfahaa.Ims Go.Proofs.Ytejfjocoadfahaa.XDel

theorem box_el {w : World} {g : Nat} {x y z : Value} (h : Box w g 37 #[x, y, z]) : w.cell? ⟨g, 0, none⟩ = some x ∧ w.cell? ⟨g, 1, none⟩ = some y ∧ w.cell? ⟨g, 2, none⟩ = some z :=
  ⟨(h.cell 0).trans rfl, (h.cell 1).trans rfl, (h.cell 2).trans rfl⟩
theorem u8_sub {x d : Nat} (hx : x < 256) (hd : d < 256) : IntKind.u8.wrap ((x : Int) - (d : Int)) = (((x + 256 - d) % 256 : Nat) : Int) := by
  simp [IntKind.wrap, IntKind.bits, IntKind.signed]; omega
theorem u8_add {x d : Nat} (hx : x < 256) (hd : d < 256) : IntKind.u8.wrap ((x : Int) + (d : Int)) = (((x + d) % 256 : Nat) : Int) := by
  simp [IntKind.wrap, IntKind.bits, IntKind.signed]
set_option maxHeartbeats 1000000 in
theorem less19 {e : El} (he : e.ok) (p : Nat) (w : World) :
    Calls Try.prog 19 #[.int .u32 p, .agg #[.int .i8 e.a, .int .i8 e.b, .int .i8 e.c]] w fun e' w' => e' = .returned (.int .u32 (lsV e p)) ∧ Below w.heap.size w w' := by
  have PP := hide (parts8 p)
  have BX := hide (Box.made w 37 #[.int .i8 e.a, .int .i8 e.b, .int .i8 e.c])
  have BL := hide (bel_a1 w (.cells #[.int .i8 e.a, .int .i8 e.b, .int .i8 e.c] 37))
  have QR := hide (fun w => red26 he (pt p 2) (pt_lt _ _) w)
  have QB := hide (fun w => blue27 he (pt p 1) (pt p 2) (pt_lt _ _) (pt_lt _ _) w)
  have QM := hide (fun w => make11 (pt p 0) ((pt p 1 + 256 - rd e (pt p 2)) % 256) (pt p 2) ((pt p 3 + 256 - bu e (pt p 1) (pt p 2)) % 256) (pt_lt _ _) (md_lt _) (pt_lt _ _) (md_lt _) w)
  have R : Hid (lsV e p = ((pt p 0 * 256 + (pt p 1 + 256 - rd e (pt p 2)) % 256) * 256 + pt p 2) * 256 + (pt p 3 + 256 - bu e (pt p 1) (pt p 2)) % 256) := rfl
  have S1 := u8_sub (pt_lt p 1) (rd_lt e (pt p 2))
  have S3 := u8_sub (pt_lt p 3) (bu_lt e (pt p 1) (pt p 2))
  have lr := rd_lt e (pt p 2)
  have lb := bu_lt e (pt p 1) (pt p 2)
  have l0 := pt_lt p 0
  have l1 := pt_lt p 1
  have l2 := pt_lt p 2
  have l3 := pt_lt p 3
  clear he
  generalize (pt p 1 + 256 - rd e (pt p 2)) % 256 = q1 at *
  generalize (pt p 3 + 256 - bu e (pt p 1) (pt p 2)) % 256 = q3 at *
  generalize rd e (pt p 2) = r at *
  generalize bu e (pt p 1) (pt p 2) = b at *
  generalize lsV e p = v at *
  generalize pt p 0 = x0 at *
  generalize pt p 1 = x1 at *
  generalize pt p 2 = x2 at *
  generalize pt p 3 = x3 at *
  obtain ⟨ea, eb, ec⟩ := e
  go_enter Try.func19, Try.ntmps19
  go_wp2_with fail
  refine (unhide PP _).mono ?_
  rintro e' w' ⟨rfl, rfl⟩
  obtain ⟨c0, c1, c2⟩ := box_el (unhide BX)
  have k0 := cell_regrown c0
  have k1 := cell_regrown c1
  have k2 := cell_regrown c2
  have A26 : Hid (∀ d os, Calls Try.prog 26 #[.agg #[.int .i8 ea, .int .i8 eb, .int .i8 ec], .int .u8 x2] (grow (redrawn (w.alloc (.cells #[.int .i8 ea, .int .i8 eb, .int .i8 ec] 37)) d) os) fun e w'' => e = .returned (.int .u8 r) ∧ ∃ p : Regrown, w'' = grow (redrawn (w.alloc (.cells #[.int .i8 ea, .int .i8 eb, .int .i8 ec] 37)) p.d) p.os) := hide fun d os => Calls.regrown_of (unhide QR _)
  have A27 : Hid (∀ d os, Calls Try.prog 27 #[.agg #[.int .i8 ea, .int .i8 eb, .int .i8 ec], .int .u8 x1, .int .u8 x2] (grow (redrawn (w.alloc (.cells #[.int .i8 ea, .int .i8 eb, .int .i8 ec] 37)) d) os) fun e w'' => e = .returned (.int .u8 b) ∧ ∃ p : Regrown, w'' = grow (redrawn (w.alloc (.cells #[.int .i8 ea, .int .i8 eb, .int .i8 ec] 37)) p.d) p.os) := hide fun d os => Calls.regrown_of (unhide QB _)
  have A22 : Hid (∀ d os, Calls Try.prog 22 #[.int .u8 x0, .int .u8 q1, .int .u8 x2, .int .u8 q3] (grow (redrawn (w.alloc (.cells #[.int .i8 ea, .int .i8 eb, .int .i8 ec] 37)) d) os) fun e w'' => e = .returned (.int .u32 (((x0 * 256 + q1) * 256 + x2) * 256 + q3 : Nat)) ∧ ∃ p : Regrown, w'' = grow (redrawn (w.alloc (.cells #[.int .i8 ea, .int .i8 eb, .int .i8 ec] 37)) p.d) p.os) := hide fun d os => Calls.regrown_of ((unhide QM _).mono fun e w' h => ⟨h.1, h.2 ▸ Below.refl _ _⟩)
  clear PP QR QB QM c0 c1 c2
  generalize w.alloc (.cells #[.int .i8 ea, .int .i8 eb, .int .i8 ec] 37) = w1 at *
  go_wp2_with fail
  refine wp_region_quiet_below (by kernel_rfl) (by kernel_rfl) ?_
  repeat (go_big_quiet_step (first | (go_at_call 26; with_reducible exact unhide A26 _ _) | (go_at_call 27; with_reducible exact unhide A27 _ _) | (go_at_call 22; with_reducible exact unhide A22 _ _)))
  refine wpQuiet_nil ?_
  intro _ hw'
  obtain ⟨⟨dq, osq⟩, hw''⟩ := hw'
  subst hw''
  go_wp2
  go_ret
  exact ⟨ret_int (congrArg Int.ofNat (unhide R)).symm, below_two (unhide BL) (below_regrown w1 dq osq)⟩
set_option maxHeartbeats 1000000 in
theorem more20 {e : El} (he : e.ok) (p : Nat) (w : World) :
    Calls Try.prog 20 #[.int .u32 p, .agg #[.int .i8 e.a, .int .i8 e.b, .int .i8 e.c]] w fun e' w' => e' = .returned (.int .u32 (moV e p)) ∧ Below w.heap.size w w' := by
  have PP := hide (parts8 p)
  have BX := hide (Box.made w 37 #[.int .i8 e.a, .int .i8 e.b, .int .i8 e.c])
  have BL := hide (bel_a1 w (.cells #[.int .i8 e.a, .int .i8 e.b, .int .i8 e.c] 37))
  have R : Hid (moV e p = ((pt p 0 * 256 + (pt p 1 + rd e (pt p 2)) % 256) * 256 + pt p 2) * 256 + (pt p 3 + bu e ((pt p 1 + rd e (pt p 2)) % 256) (pt p 2)) % 256) := rfl
  have S1 := u8_add (pt_lt p 1) (rd_lt e (pt p 2))
  have lq := md_lt (pt p 1 + rd e (pt p 2))
  have lr := rd_lt e (pt p 2)
  have QR := hide (fun w => red26 he (pt p 2) (pt_lt _ _) w)
  generalize (pt p 1 + rd e (pt p 2)) % 256 = q1 at *
  have S3 := u8_add (pt_lt p 3) (bu_lt e q1 (pt p 2))
  have QB := hide (fun w => blue27 he q1 (pt p 2) lq (pt_lt _ _) w)
  have QM := hide (fun w => make11 (pt p 0) q1 (pt p 2) ((pt p 3 + bu e q1 (pt p 2)) % 256) (pt_lt _ _) lq (pt_lt _ _) (md_lt _) w)
  have lb := bu_lt e q1 (pt p 2)
  have l0 := pt_lt p 0
  have l1 := pt_lt p 1
  have l2 := pt_lt p 2
  have l3 := pt_lt p 3
  clear he
  generalize (pt p 3 + bu e q1 (pt p 2)) % 256 = q3 at *
  generalize rd e (pt p 2) = r at *
  generalize bu e q1 (pt p 2) = b at *
  generalize moV e p = v at *
  generalize pt p 0 = x0 at *
  generalize pt p 1 = x1 at *
  generalize pt p 2 = x2 at *
  generalize pt p 3 = x3 at *
  obtain ⟨ea, eb, ec⟩ := e
  go_enter Try.func20, Try.ntmps20
  go_wp2_with fail
  refine (unhide PP _).mono ?_
  rintro e' w' ⟨rfl, rfl⟩
  obtain ⟨c0, c1, c2⟩ := box_el (unhide BX)
  go_wp2_with fail
  refine (unhide QR _).mono ?_
  rintro e' w2 ⟨rfl, b2⟩
  have X2 := hide ((unhide BX).below b2 (unhide BX).lt)
  have B2 := hide (below_two (unhide BL) b2)
  clear b2 c0 c1 c2
  obtain ⟨c0, c1, c2⟩ := box_el (unhide X2)
  go_wp2_with fail
  refine (unhide QB _).mono ?_
  rintro e' w3 ⟨rfl, b3⟩
  have B3 := hide (bel_into (unhide B2) b3)
  clear b3 c0 c1 c2
  go_wp2_with fail
  refine (unhide QM _).mono ?_
  rintro e' w4 ⟨rfl, rfl⟩
  go_wp2
  go_ret
  exact ⟨ret_int (congrArg Int.ofNat (unhide R)).symm, unhide B3⟩
end Go.Proofs.Ytejfjocoadfahaa.XLes
