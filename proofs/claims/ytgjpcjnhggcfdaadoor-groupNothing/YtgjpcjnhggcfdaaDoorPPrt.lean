/- Contracts: pixel.Parts, Make, fourOf, cut, distance, isSide; the document's Part and cut. Conditions: numbers fit their kinds. -/
import Derived.Test.YtgjpcjnhggcfdaaDoorPNum
import Derived.OwnWalk
namespace Go.Proofs.YtgjpcjnhggcfdaaDoor.PPrt
open Go.ChangeShapes Go.WideShapes Go.ChangeAt Go.RowKit Go.Proofs.YtgjpcjnhggcfdaaDoor.Core Go.Proofs.YtgjpcjnhggcfdaaDoor.PNum

theorem results_tmp4 {fn : Func} {t u v x : Tmp} (h : fn.results = #[.tmp t, .tmp u, .tmp v, .tmp x]) (tmps : Array Value) (P : Program) (w : World) :
    (results fn tmps).run P w = .ok (.tuple #[tmps.getD t undef, tmps.getD u undef, tmps.getD v undef, tmps.getD x undef]) w := by
  simp [results, h]
set_option maxHeartbeats 400000 in
theorem parts8 (p : Nat) (w : World) :
    Calls Tryd.prog 39 #[.int .u32 p] w fun e w' => e = .returned (.tuple #[.int .u8 (pt p 0), .int .u8 (pt p 1), .int .u8 (pt p 2), .int .u8 (pt p 3)]) ∧ w' = w := by
  have H := hide (And.intro (pt_0 p) (And.intro (pt_1 p) (And.intro (pt_2 p) (pt_3 p))))
  go_enter Tryd.func39, Tryd.ntmps39
  go_wp2
  obtain ⟨h0, h1, h2, h3⟩ := unhide H
  refine bodyPost_ret (results_tmp4 rfl _ _ _) rfl ⟨?_, rfl⟩
  rw [h0, h1, h2, h3]
  rfl
theorem join4 (a b c d : Nat) (ha : a < 256) (hb : b < 256) (hc : c < 256) (hd : d < 256) :
    bits .or .u32 (bits .or .u32 (bits .or .u32 ((a : Int) * 16777216) ((b : Int) * 65536)) ((c : Int) * 256)) (d : Int) = ((((a * 256 + b) * 256 + c) * 256 + d : Nat) : Int) := by
  have e1 : bits .or .u32 ((a : Int) * 16777216) ((b : Int) * 65536) = ((a * 16777216 + b * 65536 : Nat) : Int) := by
    rw [u32_or _ _ (by omega) (by omega) (by omega) (by omega), nat_join 24 _ _ (by omega) (by omega)]; omega
  rw [e1]
  have e2 : bits .or .u32 ((a * 16777216 + b * 65536 : Nat) : Int) ((c : Int) * 256) = ((a * 16777216 + b * 65536 + c * 256 : Nat) : Int) := by
    rw [u32_or _ _ (by omega) (by omega) (by omega) (by omega), nat_join 16 _ _ (by omega) (by omega)]; omega
  rw [e2, u32_or _ _ (by omega) (by omega) (by omega) (by omega), nat_join 8 _ _ (by omega) (by omega)]
  omega
set_option maxHeartbeats 400000 in
theorem make11 (a b c d : Nat) (ha : a < 256) (hb : b < 256) (hc : c < 256) (hd : d < 256) (w : World) :
    Calls Tryd.prog 36 #[.int .u8 a, .int .u8 b, .int .u8 c, .int .u8 d] w fun e w' => e = .returned (.int .u32 (((a * 256 + b) * 256 + c) * 256 + d : Nat)) ∧ w' = w := by
  have H := hide (join4 a b c d ha hb hc hd)
  go_enter Tryd.func36, Tryd.ntmps36
  go_wp2
  go_ret
  exact ⟨ret_int (unhide H), rfl⟩
/-- Four numbers in a block. -/
def four (f : Nat → Int) : Array Value := #[.int .i64 (f 0), .int .i64 (f 1), .int .i64 (f 2), .int .i64 (f 3)]
/-- A pixel's four as numbers. -/
def pf (p k : Nat) : Int := pt p k
end Go.Proofs.YtgjpcjnhggcfdaaDoor.PPrt
