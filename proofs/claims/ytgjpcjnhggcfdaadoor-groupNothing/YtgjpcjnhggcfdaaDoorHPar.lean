/- Contracts: group.single, partsOf of a Literal. Conditions: the width may be. -/
import Derived.Test.YtgjpcjnhggcfdaaDoorHTel
import Derived.Test.YtgjpcjnhggcfdaaDoorPPrt
namespace Go.Proofs.YtgjpcjnhggcfdaaDoor.HPar
set_option linter.unusedVariables false
open Go.ChangeShapes Go.WideShapes Go.ChangeAt Go.RowKit Go.Proofs.YtgjpcjnhggcfdaaDoor.Core Go.Proofs.YtgjpcjnhggcfdaaDoor.PNum Go.Proofs.YtgjpcjnhggcfdaaDoor.PPrt Go.Proofs.YtgjpcjnhggcfdaaDoor.HNum Go.Proofs.YtgjpcjnhggcfdaaDoor.HSiz Go.Proofs.YtgjpcjnhggcfdaaDoor.HFit Go.Proofs.YtgjpcjnhggcfdaaDoor.HFiv Go.Proofs.YtgjpcjnhggcfdaaDoor.HNew Go.Proofs.YtgjpcjnhggcfdaaDoor.HHas Go.Proofs.YtgjpcjnhggcfdaaDoor.HTel

theorem single40 (s : Nat) (w : World) : Calls Tryd.prog 40 #[.int .i64 s] w fun e w' => e = .returned (.agg #[.bool true, .int .i64 s, .int .i64 0, .int .u32 0]) ∧ Below w.heap.size w w' := by
  go_enter Tryd.func40, Tryd.ntmps40
  go_wp2
  exact bodyPost_ret (results_cell_row rfl _ _ _ 71 _ (0, 0) _ rfl (Box.made w 71 (pc (sgl s))) Tryd.underlying71 rfl (by kernel_rfl)) rfl ⟨rfl, bel_a1 _ _⟩
/-- Two results, the first in a cell. -/
theorem results_row_tmp {P : Program} {fn : Func} {p u : Tmp} {ty : TypeId} (h : fn.results = #[.cell p ty, .tmp u]) (tmps : Array Value) (w : World) (g : Nat) (t : TypeId) (cs : Array Value) (fr : Nat × Nat) (d : TypeDesc)
    (hp : tmps.getD p undef = .pointer (some ⟨g, 0, none⟩)) (hg : w.heap[g]? = some (.cells cs t fr))
    (hu : P.underlying ty = some d) (hd : (match d with | .struct _ | .array _ _ => true | _ => false) = true) (hi : (P.info? ty).map (·.size) = some cs.size) :
    (results fn tmps).run P w = .ok (.tuple #[.agg cs, tmps.getD u undef]) w := by
  have hp' : tmps[p]?.getD undef = .pointer (some ⟨g, 0, none⟩) := by simpa using hp
  simp [results, h, hp', asAddr, run_loadVar_row w g t ty cs fr d hg hu hd hi]
theorem setRow_box {w : World} {g : Nat} {t : TypeId} {old : Array Value} (b : Box w g t old) (cs : Array Value) : Box (w.setRow g cs) g t cs := setRow_heap _ _ _ _ _ _ b
/-- The parts of a Literal. -/
def lit4 (g r b a : Nat) : Array Value := #[.bool true, .int .i64 g, .int .i64 (0 : Nat), .int .u32 (0 : Nat), .bool true, .int .i64 r, .int .i64 (0 : Nat), .int .u32 (0 : Nat), .bool true, .int .i64 b, .int .i64 (0 : Nat), .int .u32 (0 : Nat), .bool true, .int .i64 a, .int .i64 (0 : Nat), .int .u32 (0 : Nat), .bool false, .int .i64 (0 : Nat), .int .i64 (0 : Nat), .int .u32 (0 : Nat)]
theorem info_lit {g r b a : Nat} : (Tryd.prog.info? 72).map (·.size) = some (lit4 g r b a).size := by
  rw [show (lit4 g r b a).size = 20 from rfl]; kernel_rfl
set_option maxRecDepth 20000 in
set_option maxHeartbeats 1000000 in
theorem parts24_lit (n d i : Int) (a : Nat) (wd pls : Int) (h0 : 1 ≤ wd) (h1 : wd ≤ 16384) (w : World) :
    Calls Tryd.prog 24 #[.agg (tkc ⟨1, n, d, i, a⟩), .int .i64 wd, .int .i64 pls] w fun e w' => e = .returned (.tuple #[.agg (prc (plit a)), .bool true]) ∧ Below w.heap.size w w' := by
  have IW := hide (fun w => isw20 wd h0 h1 w)
  have P8 := hide (fun w => parts8 a w)
  have LT := hide (And.intro (pt_lt a 0) (And.intro (pt_lt a 1) (And.intro (pt_lt a 2) (pt_lt a 3))))
  rw [show prc (plit a) = lit4 (pt a 2) (pt a 1) (pt a 3) (pt a 0) from rfl]
  have ONE := hide (show (lit4 (pt a 2) (pt a 1) (pt a 3) (pt a 0)).all (·.oneCell') = true from prc_one (plit a))
  clear h0 h1
  generalize pt a 0 = y0 at *
  generalize pt a 1 = y1 at *
  generalize pt a 2 = y2 at *
  generalize pt a 3 = y3 at *
  obtain ⟨l0, l1, l2, l3⟩ := unhide LT
  clear LT
  simp only [tkc] at *
  go_enter Tryd.func24, Tryd.ntmps24
  have bt := (Box.made w 39 (tkc ⟨1, n, d, i, a⟩)).alloc (.cells pc0 72)
  have br := Box.made (w.alloc (.cells (tkc ⟨1, n, d, i, a⟩) 39)) 72 pc0
  rw [size_a] at br
  have b0 := (bel_a1 w (.cells (tkc ⟨1, n, d, i, a⟩) 39)).alloc (by simp) (.cells pc0 72)
  simp only [tkc, pc0] at bt br b0
  go_wp2_with fail
  refine (unhide IW _).mono ?_
  rintro e w' ⟨rfl, rfl⟩
  generalize (w.alloc (.cells #[.int .i64 1, .int .i64 n, .int .i64 d, .int .i64 i, .int .u32 a] 39)).alloc (.cells #[.bool false, .int .i64 0, .int .i64 0, .int .u32 0, .bool false, .int .i64 0, .int .i64 0, .int .u32 0, .bool false, .int .i64 0, .int .i64 0, .int .u32 0, .bool false, .int .i64 0, .int .i64 0, .int .u32 0, .bool false, .int .i64 0, .int .i64 0, .int .u32 0] 72) = w1 at *
  have x0 : w1.cell? ⟨w.heap.size, 0, none⟩ = some (.int .i64 1) := bt.cell 0
  have x4 : w1.cell? ⟨w.heap.size, 4, none⟩ = some (.int .u32 a) := bt.cell 4
  have xl := bt.lt
  have BR := hide br
  have B0 := hide b0
  clear bt br b0
  go_wp2_with fail
  refine (unhide P8 _).mono ?_
  rintro e w2 ⟨rfl, rfl⟩
  clear x0 x4 xl
  go_wp2_with fail
  with_reducible refine (single40 _ _).mono ?_
  rintro e w3 ⟨rfl, b3⟩
  have BR0 := hide ((unhide BR).below b3 (unhide BR).lt)
  have C0 := hide (bel_into (unhide B0) b3)
  clear b3
  go_wp2_with fail
  with_reducible refine (single40 _ _).mono ?_
  rintro e w4 ⟨rfl, b4⟩
  have BR1 := hide ((unhide BR0).below b4 (unhide BR0).lt)
  have C1 := hide (bel_into (unhide C0) b4)
  clear b4
  go_wp2_with fail
  with_reducible refine (single40 _ _).mono ?_
  rintro e w5 ⟨rfl, b5⟩
  have BR2 := hide ((unhide BR1).below b5 (unhide BR1).lt)
  have C2 := hide (bel_into (unhide C1) b5)
  clear b5
  go_wp2_with fail
  with_reducible refine (single40 _ _).mono ?_
  rintro e w6 ⟨rfl, b6⟩
  have BR3 := hide ((unhide BR2).below b6 (unhide BR2).lt)
  have C3 := hide (bel_into (unhide C2) b6)
  clear b6
  go_wp2_with (first | (refine wpList_store_row rfl 72 (.tmp 6) (.tmp 40) rfl (w.heap.size + 1) (lit4 y2 y1 y3 y0) rfl rfl 72 _ (unhide BR3) info_lit rfl (unhide ONE) ?_) | fail)
  refine bodyPost_ret (results_row_tmp rfl _ _ (w.heap.size + 1) 72 (lit4 y2 y1 y3 y0) (0, 0) _ rfl (setRow_box (unhide BR3) _) Tryd.underlying72 rfl info_lit) rfl ⟨rfl, bel_row (unhide C3) (by omega) _⟩
end Go.Proofs.YtgjpcjnhggcfdaaDoor.HPar
