/- Contracts: the document's At. Conditions: the image may be and is in memory, the place lies within. -/
import Derived.Test.YtnfokdcoelignaaGRar
namespace Go.Proofs.Ytnfokdcoelignaa.GRat
open Go.ChangeShapes Go.WideShapes Go.ChangeAt Go.RowKit Go.Sort Go.Proofs.Ytnfokdcoelignaa.Core Go.Proofs.Ytnfokdcoelignaa.PNum Go.Proofs.Ytnfokdcoelignaa.PPrt Go.Proofs.Ytnfokdcoelignaa.PFun Go.Proofs.Ytnfokdcoelignaa.PGoo Go.Proofs.Ytnfokdcoelignaa.GGue Go.Proofs.Ytnfokdcoelignaa.GImg Go.Proofs.Ytnfokdcoelignaa.GAro Go.Proofs.Ytnfokdcoelignaa.GAtt Go.Proofs.Ytnfokdcoelignaa.GRar

theorem below_alloc {a b : World} (h : Below a.heap.size a b) (o : Obj) : Below a.heap.size a (b.alloc o) := h.alloc h.size o
set_option maxHeartbeats 1000000 in
theorem rat14 {W H b off n : Nat} {z : Nat → Nat} (c : Nat) (m : Int) (X Y : Nat) {w : World} (I : Img w W H b off n z) (hx : X < W) (hy : Y < H) :
    Calls Try.prog 33 #[.int .i64 W, .slice (some ⟨b, off, none⟩) n c, .int .i64 m, .int .i64 X, .int .i64 Y] w fun e w' =>
      e = .returned (.int .u32 (atV W z m X Y)) ∧ Below w.heap.size w w' := by
  have I0 := hide I
  have HX := hide hx
  have HY := hide hy
  clear I hx hy
  by_cases hX : X = 0
  · by_cases hY : Y = 0
    · have E := hide (at_00 W z m hX hY)
      have hx1 : ((X : Int) == 0) = true := by simpa using hX
      have hy1 : ((Y : Int) == 0) = true := by simpa using hY
      clear hX hY
      generalize atV W z m X Y = v at *
      go_enter Try.func33, Try.ntmps33
      go_wp2_with fail
      refine (raround13 c X Y (unhide I0) (unhide HX) (unhide HY)).mono ?_
      rintro e w2 ⟨rfl, b2⟩
      have B2 := hide b2
      clear b2
      unfold fourV
      generalize lV W z X Y = l at *
      generalize tV W z X Y = t at *
      generalize uV W z X Y = u at *
      generalize rV W z X Y = r at *
      go_wp2
      go_ret
      exact ⟨ret_int (congrArg Int.ofNat (unhide E)).symm, below_alloc (unhide B2) _⟩
    · have E := hide (at_0y W z m hX hY)
      have hx1 : ((X : Int) == 0) = true := by simpa using hX
      have hy1 : ((Y : Int) == 0) = false := by simpa using hY
      clear hX hY
      generalize atV W z m X Y = v at *
      go_enter Try.func33, Try.ntmps33
      go_wp2_with fail
      refine (raround13 c X Y (unhide I0) (unhide HX) (unhide HY)).mono ?_
      rintro e w2 ⟨rfl, b2⟩
      have B2 := hide b2
      clear b2
      unfold fourV
      generalize lV W z X Y = l at *
      generalize tV W z X Y = t at *
      generalize uV W z X Y = u at *
      generalize rV W z X Y = r at *
      go_wp2
      go_ret
      exact ⟨ret_int (congrArg Int.ofNat (unhide E)).symm, below_alloc (unhide B2) _⟩
  · by_cases hY : Y = 0
    · have E := hide (at_x0 W z m hX hY)
      have hx1 : ((X : Int) == 0) = false := by simpa using hX
      have hy1 : ((Y : Int) == 0) = true := by simpa using hY
      clear hX hY
      generalize atV W z m X Y = v at *
      go_enter Try.func33, Try.ntmps33
      go_wp2_with fail
      refine (raround13 c X Y (unhide I0) (unhide HX) (unhide HY)).mono ?_
      rintro e w2 ⟨rfl, b2⟩
      have B2 := hide b2
      clear b2
      unfold fourV
      generalize lV W z X Y = l at *
      generalize tV W z X Y = t at *
      generalize uV W z X Y = u at *
      generalize rV W z X Y = r at *
      go_wp2
      go_ret
      exact ⟨ret_int (congrArg Int.ofNat (unhide E)).symm, below_alloc (unhide B2) _⟩
    · have E := hide (at_xy W z m hX hY)
      have hx1 : ((X : Int) == 0) = false := by simpa using hX
      have hy1 : ((Y : Int) == 0) = false := by simpa using hY
      clear hX hY
      generalize atV W z m X Y = v at *
      go_enter Try.func33, Try.ntmps33
      go_wp2_with fail
      refine (raround13 c X Y (unhide I0) (unhide HX) (unhide HY)).mono ?_
      rintro e w2 ⟨rfl, b2⟩
      have B2 := hide b2
      clear b2
      unfold fourV
      generalize lV W z X Y = l at *
      generalize tV W z X Y = t at *
      generalize uV W z X Y = u at *
      generalize rV W z X Y = r at *
      go_wp2_with fail
      refine (rguess9 m l t u r _).mono ?_
      rintro e w3 ⟨rfl, b3⟩
      have B3 := hide (below_two (below_alloc (unhide B2) _) b3)
      clear b3
      go_wp2
      go_ret
      exact ⟨ret_int (congrArg Int.ofNat (unhide E)).symm, unhide B3⟩
end Go.Proofs.Ytnfokdcoelignaa.GRat
