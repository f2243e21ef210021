/- Contract: what every law of layer 9 asks first. Conditions: the package's list holds what the program's text lays. -/
import Derived.Test.YtpblcaihikdpmaaDoorCde
namespace Go.Proofs.YtpblcaihikdpmaaDoor.Ans
open Go.ChangeShapes Go.WideShapes Go.ChangeAt Go.RowKit Go.Proofs.YtpblcaihikdpmaaDoor.Core Go.Proofs.YtpblcaihikdpmaaDoor.Num Go.Proofs.YtpblcaihikdpmaaDoor.Pts Go.Proofs.YtpblcaihikdpmaaDoor.Cde

theorem D1 : D 1 10 = 10 := by decide +kernel
theorem K1 : K 1 10 = 2 := by decide +kernel
set_option maxHeartbeats 400000 in
theorem ans9 (w : World) (t : Tab w) : Calls Tryd.prog 9 #[] w fun e w' => e = .returned (.bool true) ∧ Below w.heap.size w w' := by
  have TT := hide t
  have H1 := hide (dist10 1 10 w t)
  rw [D1] at H1
  clear t
  go_enter Tryd.func9, Tryd.ntmps9
  go_wp2_with (first | (go_at_call 10; refine (unhide H1).mono ?_; rintro e w1 ⟨rfl, hb⟩; have HB := hide hb; have H2 := hide (code12 1 10 w1 ((unhide TT).on hb)); rw [K1] at H2; clear hb) | (go_at_call 12; refine (unhide H2).mono ?_; rintro e w2 ⟨rfl, hb⟩; have HB2 := hide hb; clear hb))
  go_ret
  exact ⟨rfl, (unhide HB).trans ((unhide HB2).mono (unhide HB).size)⟩
/-- One call behind another. -/
theorem then_below {a b c : World} (h : Below a.heap.size a b) (k : Below b.heap.size b c) : Below a.heap.size a c := h.trans (k.mono h.size)
end Go.Proofs.YtpblcaihikdpmaaDoor.Ans
