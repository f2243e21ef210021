/-
  Contracts: pixel.Parts, Make, fourOf, cut, distance, isSide; the document's Part and cut. Conditions: numbers fit their kinds.
  Contracts: group.single, partsOf of a Literal. Conditions: the width may be.
  Plain facts: how often symbols are told by steps; steps in memory. No function of the program. No conditions.
  Contract: group.Count, by what partsOf answers of each step. Conditions: at most a million steps; the cache may be.
-/
import Derived.Test.YtgjpcjnhggcfdaaGreatDoorC02
import Derived.OwnWalk
import Derived.Test.YtgjpcjnhggcfdaaGreatDoorC11
namespace Go.Proofs.YtgjpcjnhggcfdaaGreatDoor.PPrt
open Go.ChangeShapes Go.WideShapes Go.ChangeAt Go.RowKit Go.Proofs.YtgjpcjnhggcfdaaGreatDoor.Core Go.Proofs.YtgjpcjnhggcfdaaGreatDoor.PNum

theorem results_tmp4 {fn : Func} {t u v x : Tmp} (h : fn.results = #[.tmp t, .tmp u, .tmp v, .tmp x]) (tmps : Array Value) (P : Program) (w : World) :
    (results fn tmps).run P w = .ok (.tuple #[tmps.getD t undef, tmps.getD u undef, tmps.getD v undef, tmps.getD x undef]) w := by
  simp [results, h]
set_option maxHeartbeats 400000 in
theorem parts8 (p : Nat) (w : World) :
    Calls Tryz.prog 35 #[.int .u32 p] w fun e w' => e = .returned (.tuple #[.int .u8 (pt p 0), .int .u8 (pt p 1), .int .u8 (pt p 2), .int .u8 (pt p 3)]) ∧ w' = w := by
  have H := hide (And.intro (pt_0 p) (And.intro (pt_1 p) (And.intro (pt_2 p) (pt_3 p))))
  go_enter Tryz.func35, Tryz.ntmps35
  go_wp2
  obtain ⟨h0, h1, h2, h3⟩ := unhide H
  refine bodyPost_ret (results_tmp4 rfl _ _ _) rfl ⟨?_, rfl⟩
  rw [h0, h1, h2, h3]
  rfl
theorem join4 (a b c d : Nat) (ha : a < 256) (hb : b < 256) (hc : c < 256) (hd : d < 256) :
    bits .or .u32 (bits .or .u32 (bits .or .u32 ((a : Int) * 16777216) ((b : Int) * 65536)) ((c : Int) * 256)) (d : Int) = ((((a * 256 + b) * 256 + c) * 256 + d : Nat) : Int) := by
  have e1 : bits .or .u32 ((a : Int) * 16777216) ((b : Int) * 65536) = ((a * 16777216 + b * 65536 : Nat) : Int) := by
    rw [u32_or _ _ (by omega) (by omega) (by omega) (by omega), nat_join 24 _ _ (by omega) (by omega)]; omega
  rw [e1]
  have e2 : bits .or .u32 ((a * 16777216 + b * 65536 : Nat) : Int) ((c : Int) * 256) = ((a * 16777216 + b * 65536 + c * 256 : Nat) : Int) := by
    rw [u32_or _ _ (by omega) (by omega) (by omega) (by omega), nat_join 16 _ _ (by omega) (by omega)]; omega
  rw [e2, u32_or _ _ (by omega) (by omega) (by omega) (by omega), nat_join 8 _ _ (by omega) (by omega)]
  omega
/-- Four numbers in a block. -/
def four (f : Nat → Int) : Array Value := #[.int .i64 (f 0), .int .i64 (f 1), .int .i64 (f 2), .int .i64 (f 3)]
theorem four_size (f : Nat → Int) : (four f).size = 4 := rfl
theorem four_at (f : Nat → Int) (k : Nat) (h : k < 4) : (four f)[k]? = some (.int .i64 (f k)) := by
  have : k = 0 ∨ k = 1 ∨ k = 2 ∨ k = 3 := by omega
  rcases this with rfl | rfl | rfl | rfl <;> rfl
theorem four_congr {f g : Nat → Int} (h : ∀ k, k < 4 → f k = g k) : four f = four g := by
  unfold four; rw [h 0 (by omega), h 1 (by omega), h 2 (by omega), h 3 (by omega)]
theorem four_set (f : Nat → Int) (k : Nat) (z : Int) (h : k < 4) : (four f).setIfInBounds k (.int .i64 z) = four (fun j => if j = k then z else f j) := by
  have : k = 0 ∨ k = 1 ∨ k = 2 ∨ k = 3 := by omega
  rcases this with rfl | rfl | rfl | rfl <;> rfl
/-- A pixel's four as numbers. -/
def pf (p k : Nat) : Int := pt p k
end Go.Proofs.YtgjpcjnhggcfdaaGreatDoor.PPrt

namespace Go.Proofs.YtgjpcjnhggcfdaaGreatDoor.HPar
set_option linter.unusedVariables false
open Go.ChangeShapes Go.WideShapes Go.ChangeAt Go.RowKit Go.Proofs.YtgjpcjnhggcfdaaGreatDoor.Core Go.Proofs.YtgjpcjnhggcfdaaGreatDoor.PNum Go.Proofs.YtgjpcjnhggcfdaaGreatDoor.PPrt Go.Proofs.YtgjpcjnhggcfdaaGreatDoor.HNum Go.Proofs.YtgjpcjnhggcfdaaGreatDoor.HSiz Go.Proofs.YtgjpcjnhggcfdaaGreatDoor.HFit Go.Proofs.YtgjpcjnhggcfdaaGreatDoor.HFiv Go.Proofs.YtgjpcjnhggcfdaaGreatDoor.HNew Go.Proofs.YtgjpcjnhggcfdaaGreatDoor.HHas Go.Proofs.YtgjpcjnhggcfdaaGreatDoor.HTel

theorem single40 (s : Nat) (w : World) : Calls Tryz.prog 36 #[.int .i64 s] w fun e w' => e = .returned (.agg #[.bool true, .int .i64 s, .int .i64 0, .int .u32 0]) ∧ Below w.heap.size w w' := by
  go_enter Tryz.func36, Tryz.ntmps36
  go_wp2
  exact bodyPost_ret (results_cell_row rfl _ _ _ 58 _ (0, 0) _ rfl (Box.made w 58 (pc (sgl s))) Tryz.underlying58 rfl (by kernel_rfl)) rfl ⟨rfl, bel_a1 _ _⟩
/-- Two results, the first in a cell. -/
theorem results_row_tmp {P : Program} {fn : Func} {p u : Tmp} {ty : TypeId} (h : fn.results = #[.cell p ty, .tmp u]) (tmps : Array Value) (w : World) (g : Nat) (t : TypeId) (cs : Array Value) (fr : Nat × Nat) (d : TypeDesc)
    (hp : tmps.getD p undef = .pointer (some ⟨g, 0, none⟩)) (hg : w.heap[g]? = some (.cells cs t fr))
    (hu : P.underlying ty = some d) (hd : (match d with | .struct _ | .array _ _ => true | _ => false) = true) (hi : (P.info? ty).map (·.size) = some cs.size) :
    (results fn tmps).run P w = .ok (.tuple #[.agg cs, tmps.getD u undef]) w := by
  have hp' : tmps[p]?.getD undef = .pointer (some ⟨g, 0, none⟩) := by simpa using hp
  simp [results, h, hp', asAddr, run_loadVar_row w g t ty cs fr d hg hu hd hi]
theorem setRow_box {w : World} {g : Nat} {t : TypeId} {old : Array Value} (b : Box w g t old) (cs : Array Value) : Box (w.setRow g cs) g t cs := setRow_heap _ _ _ _ _ _ b
/-- The parts of a Literal. -/
def lit4 (g r b a : Nat) : Array Value := #[.bool true, .int .i64 g, .int .i64 (0 : Nat), .int .u32 (0 : Nat), .bool true, .int .i64 r, .int .i64 (0 : Nat), .int .u32 (0 : Nat), .bool true, .int .i64 b, .int .i64 (0 : Nat), .int .u32 (0 : Nat), .bool true, .int .i64 a, .int .i64 (0 : Nat), .int .u32 (0 : Nat), .bool false, .int .i64 (0 : Nat), .int .i64 (0 : Nat), .int .u32 (0 : Nat)]
theorem info_lit {g r b a : Nat} : (Tryz.prog.info? 59).map (·.size) = some (lit4 g r b a).size := by
  rw [show (lit4 g r b a).size = 20 from rfl]; kernel_rfl
set_option maxRecDepth 20000 in
set_option maxHeartbeats 1000000 in
theorem parts24_lit (n d i : Int) (a : Nat) (wd pls : Int) (h0 : 1 ≤ wd) (h1 : wd ≤ 16384) (w : World) :
    Calls Tryz.prog 17 #[.agg (tkc ⟨1, n, d, i, a⟩), .int .i64 wd, .int .i64 pls] w fun e w' => e = .returned (.tuple #[.agg (prc (plit a)), .bool true]) ∧ Below w.heap.size w w' := by
  have IW := hide (fun w => isw20 wd h0 h1 w)
  have P8 := hide (fun w => parts8 a w)
  have LT := hide (And.intro (pt_lt a 0) (And.intro (pt_lt a 1) (And.intro (pt_lt a 2) (pt_lt a 3))))
  rw [show prc (plit a) = lit4 (pt a 2) (pt a 1) (pt a 3) (pt a 0) from rfl]
  have ONE := hide (show (lit4 (pt a 2) (pt a 1) (pt a 3) (pt a 0)).all (·.oneCell') = true from prc_one (plit a))
  clear h0 h1
  generalize pt a 0 = y0 at *
  generalize pt a 1 = y1 at *
  generalize pt a 2 = y2 at *
  generalize pt a 3 = y3 at *
  obtain ⟨l0, l1, l2, l3⟩ := unhide LT
  clear LT
  simp only [tkc] at *
  go_enter Tryz.func17, Tryz.ntmps17
  have bt := (Box.made w 44 (tkc ⟨1, n, d, i, a⟩)).alloc (.cells pc0 59)
  have br := Box.made (w.alloc (.cells (tkc ⟨1, n, d, i, a⟩) 44)) 59 pc0
  rw [size_a] at br
  have b0 := (bel_a1 w (.cells (tkc ⟨1, n, d, i, a⟩) 44)).alloc (by simp) (.cells pc0 59)
  simp only [tkc, pc0] at bt br b0
  go_wp2_with fail
  refine (unhide IW _).mono ?_
  rintro e w' ⟨rfl, rfl⟩
  generalize (w.alloc (.cells #[.int .i64 1, .int .i64 n, .int .i64 d, .int .i64 i, .int .u32 a] 44)).alloc (.cells #[.bool false, .int .i64 0, .int .i64 0, .int .u32 0, .bool false, .int .i64 0, .int .i64 0, .int .u32 0, .bool false, .int .i64 0, .int .i64 0, .int .u32 0, .bool false, .int .i64 0, .int .i64 0, .int .u32 0, .bool false, .int .i64 0, .int .i64 0, .int .u32 0] 59) = w1 at *
  have x0 : w1.cell? ⟨w.heap.size, 0, none⟩ = some (.int .i64 1) := bt.cell 0
  have x4 : w1.cell? ⟨w.heap.size, 4, none⟩ = some (.int .u32 a) := bt.cell 4
  have xl := bt.lt
  have BR := hide br
  have B0 := hide b0
  clear bt br b0
  go_wp2_with fail
  refine (unhide P8 _).mono ?_
  rintro e w2 ⟨rfl, rfl⟩
  clear x0 x4 xl
  go_wp2_with fail
  with_reducible refine (single40 _ _).mono ?_
  rintro e w3 ⟨rfl, b3⟩
  have BR0 := hide ((unhide BR).below b3 (unhide BR).lt)
  have C0 := hide (bel_into (unhide B0) b3)
  clear b3
  go_wp2_with fail
  with_reducible refine (single40 _ _).mono ?_
  rintro e w4 ⟨rfl, b4⟩
  have BR1 := hide ((unhide BR0).below b4 (unhide BR0).lt)
  have C1 := hide (bel_into (unhide C0) b4)
  clear b4
  go_wp2_with fail
  with_reducible refine (single40 _ _).mono ?_
  rintro e w5 ⟨rfl, b5⟩
  have BR2 := hide ((unhide BR1).below b5 (unhide BR1).lt)
  have C2 := hide (bel_into (unhide C1) b5)
  clear b5
  go_wp2_with fail
  with_reducible refine (single40 _ _).mono ?_
  rintro e w6 ⟨rfl, b6⟩
  have BR3 := hide ((unhide BR2).below b6 (unhide BR2).lt)
  have C3 := hide (bel_into (unhide C2) b6)
  clear b6
  go_wp2_with (first | (refine wpList_store_row rfl 59 (.tmp 6) (.tmp 40) rfl (w.heap.size + 1) (lit4 y2 y1 y3 y0) rfl rfl 59 _ (unhide BR3) info_lit rfl (unhide ONE) ?_) | fail)
  refine bodyPost_ret (results_row_tmp rfl _ _ (w.heap.size + 1) 59 (lit4 y2 y1 y3 y0) (0, 0) _ rfl (setRow_box (unhide BR3) _) Tryz.underlying59 rfl info_lit) rfl ⟨rfl, bel_row (unhide C3) (by omega) _⟩
end Go.Proofs.YtgjpcjnhggcfdaaGreatDoor.HPar

namespace Go.Proofs.YtgjpcjnhggcfdaaGreatDoor.HCnt
set_option linter.unusedVariables false
open Go.ChangeShapes Go.WideShapes Go.ChangeAt Go.RowKit Go.Proofs.YtgjpcjnhggcfdaaGreatDoor.Core Go.Proofs.YtgjpcjnhggcfdaaGreatDoor.Ord Go.Proofs.YtgjpcjnhggcfdaaGreatDoor.HNum Go.Proofs.YtgjpcjnhggcfdaaGreatDoor.HSiz Go.Proofs.YtgjpcjnhggcfdaaGreatDoor.HFit Go.Proofs.YtgjpcjnhggcfdaaGreatDoor.HFiv Go.Proofs.YtgjpcjnhggcfdaaGreatDoor.HNew Go.Proofs.YtgjpcjnhggcfdaaGreatDoor.HHas Go.Proofs.YtgjpcjnhggcfdaaGreatDoor.HTel Go.Proofs.YtgjpcjnhggcfdaaGreatDoor.HPar

/-- Does the part tell this symbol? -/
def hit (q : Pa) (k : Nat) : Nat := if q.th = true ∧ q.sy = k then 1 else 0
/-- How often these steps tell a symbol of code i. -/
def cn (qf : Tk → Nat → Pa) (i : Nat) : List Tk → Nat → Nat
  | [], _ => 0
  | t :: ts, k => hit (qf t i) k + cn qf i ts k
theorem cn_snoc (qf : Tk → Nat → Pa) (i : Nat) (t : Tk) (k : Nat) : ∀ ts, cn qf i (ts ++ [t]) k = cn qf i ts k + hit (qf t i) k
  | [] => by simp [cn]
  | u :: ts => by simp only [List.cons_append, cn, cn_snoc qf i t k ts]; omega
theorem cn_le (qf : Tk → Nat → Pa) (i k : Nat) : ∀ ts, cn qf i ts k ≤ ts.length
  | [] => by simp [cn]
  | t :: ts => by
    have := cn_le qf i k ts
    have h : hit (qf t i) k ≤ 1 := by unfold hit; split <;> omega
    simp only [cn, List.length_cons]; omega
theorem take_next {ts : List Tk} {j : Nat} {t : Tk} (h : ts[j]? = some t) : ts.take (j + 1) = ts.take j ++ [t] := by
  rw [List.take_add_one, h]; rfl
/-- Steps in memory, below block B. -/
def Tks (B : Nat) (w : World) (a : Option Addr) (ts : List Tk) : Prop := ∀ (i : Nat) (t : Tk), ts[i]? = some t → ∃ b off, a = some ⟨b, off, none⟩ ∧ b < B ∧
  w.cell? ⟨b, off + i * 5, none⟩ = some (.int .i64 t.k) ∧ w.cell? ⟨b, off + i * 5 + 1, none⟩ = some (.int .i64 t.n) ∧ w.cell? ⟨b, off + i * 5 + 2, none⟩ = some (.int .i64 t.d) ∧ w.cell? ⟨b, off + i * 5 + 3, none⟩ = some (.int .i64 t.i) ∧ w.cell? ⟨b, off + i * 5 + 4, none⟩ = some (.int .u32 t.a)
theorem Tks.below {B : Nat} {w w' : World} {a : Option Addr} {ts : List Tk} (h : Tks B w a ts) (u : Below B w w') : Tks B w' a ts := fun i t ht => by
  obtain ⟨b, off, e, hb, h0, h1, h2, h3, h4⟩ := h i t ht
  exact ⟨b, off, e, hb, (u.cell (p := ⟨b, off + i * 5, none⟩) hb).trans h0, (u.cell (p := ⟨b, off + i * 5 + 1, none⟩) hb).trans h1, (u.cell (p := ⟨b, off + i * 5 + 2, none⟩) hb).trans h2, (u.cell (p := ⟨b, off + i * 5 + 3, none⟩) hb).trans h3, (u.cell (p := ⟨b, off + i * 5 + 4, none⟩) hb).trans h4⟩
/-- A step's cells. -/
def Tc (w : World) (b : Nat) (t : Tk) : Prop := w.cell? ⟨b, 0, none⟩ = some (.int .i64 t.k) ∧ w.cell? ⟨b, 1, none⟩ = some (.int .i64 t.n) ∧ w.cell? ⟨b, 2, none⟩ = some (.int .i64 t.d) ∧ w.cell? ⟨b, 3, none⟩ = some (.int .i64 t.i) ∧ w.cell? ⟨b, 4, none⟩ = some (.int .u32 t.a)
/-- The sizes' cells. -/
def Sc (w : World) (b c : Nat) : Prop := w.cell? ⟨b, 0, none⟩ = some (.int .i64 (sz c 0 : Nat)) ∧ w.cell? ⟨b, 1, none⟩ = some (.int .i64 (sz c 1 : Nat)) ∧ w.cell? ⟨b, 2, none⟩ = some (.int .i64 (sz c 2 : Nat)) ∧ w.cell? ⟨b, 3, none⟩ = some (.int .i64 (sz c 3 : Nat)) ∧ w.cell? ⟨b, 4, none⟩ = some (.int .i64 (sz c 4 : Nat))
theorem Tc.same {w w' : World} {b : Nat} {t : Tk} (h : Tc w b t) (e : ∀ k, w'.cell? ⟨b, k, none⟩ = w.cell? ⟨b, k, none⟩) : Tc w' b t :=
  ⟨(e 0).trans h.1, (e 1).trans h.2.1, (e 2).trans h.2.2.1, (e 3).trans h.2.2.2.1, (e 4).trans h.2.2.2.2⟩
theorem Sc.same {w w' : World} {b c : Nat} (h : Sc w b c) (e : ∀ k, w'.cell? ⟨b, k, none⟩ = w.cell? ⟨b, k, none⟩) : Sc w' b c :=
  ⟨(e 0).trans h.1, (e 1).trans h.2.1, (e 2).trans h.2.2.1, (e 3).trans h.2.2.2.1, (e 4).trans h.2.2.2.2⟩
theorem Tc.lt {w : World} {b : Nat} {t : Tk} (h : Tc w b t) : b < w.heap.size := lt_of_cell h.1
theorem Sc.lt {w : World} {b c : Nat} (h : Sc w b c) : b < w.heap.size := lt_of_cell h.1
/-- Both. -/
def TS (w : World) (b Z c : Nat) (t : Tk) : Prop := Tc w b t ∧ Sc w Z c
theorem TS.below {w w' : World} {b Z c : Nat} {t : Tk} (h : TS w b Z c t) (u : Below w.heap.size w w') : TS w' b Z c t :=
  ⟨h.1.same fun k => u.cell (p := ⟨b, k, none⟩) h.1.lt, h.2.same fun k => u.cell (p := ⟨Z, k, none⟩) h.2.lt⟩
theorem TS.row {w : World} {b Z c : Nat} {t : Tk} (h : TS w b Z c t) {g : Nat} (h1 : b ≠ g) (h2 : Z ≠ g) (cs : Array Value) : TS (w.setRow g cs) b Z c t :=
  ⟨h.1.same fun k => cell_setRow_other w g cs ⟨b, k, none⟩ h1, h.2.same fun k => cell_setRow_other w g cs ⟨Z, k, none⟩ h2⟩
/-- Rows of counts, and what Count keeps beside them. -/
structure CtI (w0 wr : World) (F Z R : Nat) (G : Nat → Nat) (c i : Nat) (f : Nat → Nat → Nat) : Prop where
  rws : Rws (Z + 1) wr G c i f
  box : Box wr F 27 (fv (fu G c i))
  siz : Box wr Z 55 (fvn (sz c))
  res : Box wr R 27 (fv (fun _ => .slice none 0 0))
  bel : Below w0.heap.size w0 wr
theorem CtI.next {w0 wr w' : World} {F Z R : Nat} {G : Nat → Nat} {c i g : Nat} {f : Nat → Nat → Nat} (h : CtI w0 wr F Z R G c i f) (hi : i < 5) (hF : w0.heap.size ≤ F) (hFZ : Z < F) (hR : R < F) (hlo : ∀ k, k < i → F < G k) (u : Upd (fun k => k = F) wr w') (hg : wr.heap.size ≤ g)
    (b : Box w' g 3 (nr (f i) (sz c i)).toArray) (bF : Box w' F 27 ((fv (fu G c i)).setIfInBounds i (.slice (some ⟨g, 0, none⟩) (sz c i) (sz c i)))) : CtI w0 w' F Z R (fun k => if k = i then g else G k) c (i + 1) f := by
  have hz := h.siz.lt
  refine ⟨⟨fun k hk => ?_, fun k j hkj hj => ?_, fun k hk => ?_⟩, by rw [← fu_next _ _ _ _ hi]; exact bF, h.siz.keep u (by omega), h.res.keep u (by omega), h.bel.trans (u.below _ h.bel.size (fun k hk => by omega))⟩
  · by_cases e : k = i
    · simp only [if_pos e]; omega
    · simp only [if_neg e]; exact h.rws.low k (by omega)
  · by_cases e : j = i
    · have e2 : k ≠ i := by omega
      simp only [if_pos e, if_neg e2]
      have := (h.rws.row k (by omega)).lt
      omega
    · have e2 : k ≠ i := by omega
      simp only [if_neg e, if_neg e2]; exact h.rws.rise k j hkj (by omega)
  · by_cases e : k = i
    · subst e
      simp only [if_true]; exact b
    · simp only [if_neg e]
      have := hlo k (by omega)
      exact (h.rws.row k (by omega)).keep u (by omega)
theorem CtI.below {w0 wr w' : World} {F Z R : Nat} {G : Nat → Nat} {c i : Nat} {f : Nat → Nat → Nat} (h : CtI w0 wr F Z R G c i f) (u : Below wr.heap.size wr w') : CtI w0 w' F Z R G c i f :=
  ⟨⟨h.rws.low, h.rws.rise, fun k hk => (h.rws.row k hk).below u (h.rws.row k hk).lt⟩, h.box.below u h.box.lt, h.siz.below u h.siz.lt, h.res.below u h.res.lt, h.bel.trans (u.mono h.bel.size)⟩
theorem rws_inj {lo : Nat} {w : World} {G : Nat → Nat} {c i : Nat} {f : Nat → Nat → Nat} (h : Rws lo w G c i f) {k j : Nat} (hk : k < i) (hj : j < i) (hne : k ≠ j) : G k ≠ G j := by
  rcases Nat.lt_or_gt_of_ne hne with e | e
  · have := h.rise k j e hj; omega
  · have := h.rise j k e hk; omega
theorem rws_congr {lo : Nat} {w : World} {G : Nat → Nat} {c i : Nat} {f f' : Nat → Nat → Nat} (h : Rws lo w G c i f) (e : ∀ k, k < i → ∀ s, s < sz c k → f k s = f' k s) : Rws lo w G c i f' :=
  ⟨h.low, h.rise, fun k hk => by rw [← na_congr (e k hk)]; exact h.row k hk⟩
theorem CtI.congr {w0 wr : World} {F Z R : Nat} {G : Nat → Nat} {c i : Nat} {f f' : Nat → Nat → Nat} (h : CtI w0 wr F Z R G c i f) (e : ∀ k, k < i → ∀ s, s < sz c k → f k s = f' k s) : CtI w0 wr F Z R G c i f' :=
  ⟨rws_congr h.rws e, h.box, h.siz, h.res, h.bel⟩
/-- One more of a symbol. -/
theorem CtI.count {w0 wr : World} {F Z R : Nat} {G : Nat → Nat} {c i s z : Nat} {f f' : Nat → Nat → Nat} (h : CtI w0 wr F Z R G c 5 f) (hi : i < 5) (hlo : w0.heap.size ≤ G i) (hF : F ≠ G i) (hZ : Z ≠ G i) (hR : R ≠ G i)
    (e : ∀ k, k < sz c i → (if k = s then z else f i k) = f' i k) (e2 : ∀ j, j ≠ i → f' j = f j) : CtI w0 (wr.setCell ⟨G i, s, none⟩ (.int .i64 z)) F Z R G c 5 f' := by
  refine ⟨⟨h.rws.low, h.rws.rise, fun k hk => ?_⟩, h.box.other (p := ⟨G i, s, none⟩) hF _, h.siz.other (p := ⟨G i, s, none⟩) hZ _, h.res.other (p := ⟨G i, s, none⟩) hR _, h.bel.setCell (p := ⟨G i, s, none⟩) hlo _⟩
  by_cases ek : k = i
  · subst ek
    have b := (h.rws.row k hk).set s (.int .i64 z)
    rw [na_set, na_congr e] at b
    exact b
  · rw [e2 k ek]
    exact (h.rws.row k hk).other (p := ⟨G i, s, none⟩) (rws_inj h.rws hk hi ek) _
end Go.Proofs.YtgjpcjnhggcfdaaGreatDoor.HCnt

namespace Go.Proofs.YtgjpcjnhggcfdaaGreatDoor.HCou
set_option linter.unusedVariables false
open Go.ChangeShapes Go.WideShapes Go.ChangeAt Go.RowKit Go.Proofs.YtgjpcjnhggcfdaaGreatDoor.Core Go.Proofs.YtgjpcjnhggcfdaaGreatDoor.Add Go.Proofs.YtgjpcjnhggcfdaaGreatDoor.Ord Go.Proofs.YtgjpcjnhggcfdaaGreatDoor.HNum Go.Proofs.YtgjpcjnhggcfdaaGreatDoor.HSiz Go.Proofs.YtgjpcjnhggcfdaaGreatDoor.HFit Go.Proofs.YtgjpcjnhggcfdaaGreatDoor.HFiv Go.Proofs.YtgjpcjnhggcfdaaGreatDoor.HNew Go.Proofs.YtgjpcjnhggcfdaaGreatDoor.HHas Go.Proofs.YtgjpcjnhggcfdaaGreatDoor.HTel Go.Proofs.YtgjpcjnhggcfdaaGreatDoor.HPar Go.Proofs.YtgjpcjnhggcfdaaGreatDoor.HCnt

/-- What Count answers. -/
structure CntR (w : World) (c : Nat) (ok : Prop) (f : Nat → Nat → Nat) (e : Ending) (w' : World) : Prop where
  yes : ok → ∃ G, e = .returned (.tuple #[.agg (fv (gs G c)), .bool true]) ∧ Rws w.heap.size w' G c 5 f
  no : ¬ ok → e = .returned (.tuple #[.agg (fv (fun _ => .slice none 0 0)), .bool false])
  bel : Below w.heap.size w w'
theorem info_nil : (Tryz.prog.info? 27).map (·.size) = some (fv (fun _ => Value.slice none 0 0)).size := by
  rw [show (fv (fun _ => Value.slice none 0 0)).size = 5 from rfl]; kernel_rfl
theorem info_gs {G : Nat → Nat} {c : Nat} : (Tryz.prog.info? 27).map (·.size) = some (fv (gs G c)).size := by
  rw [show (fv (gs G c)).size = 5 from rfl]; kernel_rfl
theorem fv_one {u : Nat → Value} (h : ∀ i, (u i).oneCell' = true) : (fv u).all (·.oneCell') = true := by simp [fv, h]
/-- Counts while one step is counted: the first i codes are done. -/
def fm (qf : Tk → Nat → Pa) (ts : List Tk) (t : Tk) (j i : Nat) (k s : Nat) : Nat := cn qf k (ts.take j) s + if k < i then hit (qf t k) s else 0
set_option maxRecDepth 20000 in
set_option maxHeartbeats 4000000 in
theorem count13 {B c n cp : Nat} {w : World} {a : Option Addr} {ts : List Tk} (hc : c ≤ 11) (wd : Int) (h : Tks B w a ts) (hn : n = ts.length) (hl : n ≤ 1000000) (hB : B ≤ w.heap.size) (qf : Tk → Nat → Pa) (okf : Tk → Bool)
    (par : ∀ t, t ∈ ts → ∀ w', Below w.heap.size w w' → Calls Tryz.prog 17 #[.agg (tkc t), .int .i64 wd, .int .i64 (pl c)] w' fun e w'' => e = .returned (.tuple #[.agg (prc (qf t)), .bool (okf t)]) ∧ Below w'.heap.size w' w'')
    (hs : ∀ t, t ∈ ts → okf t = true → ∀ i, i < 5 → (qf t i).th = true → (qf t i).sy < sz c i) :
    Calls Tryz.prog 5 #[.slice a n cp, .int .i64 wd, .int .i64 c] w fun e w' => CntR w c (∀ t, t ∈ ts → okf t = true) (fun i => cn qf i ts) e w' := by
  have SI := hide (fun w => sizes14 c hc w)
  have PLC := hide (fun w => places17 (sz c) (pl c) (by simp [sz]) (by have := pl_le c hc; omega) w)
  have SZ := hide (fun i => sz_bd c i hc)
  have IXS := hide (index_fvn (sz c))
  have h0 : ¬ ((sz c 0 : Nat) : Int) = 0 := by have := (sz_bd c 0 hc).1; omega
  have EQ := hide (fun w => eq_five (sz c 0 : Nat) (sz c 1 : Nat) (sz c 2 : Nat) (sz c 3 : Nat) (sz c 4 : Nat) h0 w)
  have TK := hide h
  have HN := hide hn
  have HB := hide hB
  have PA := hide par
  have HS := hide hs
  clear h hn hB par hs h0 hc
  simp only [tkc] at PA
  unfold fvn at SI IXS PLC
  go_enter Tryz.func5, Tryz.ntmps5
  go_wp2_with fail
  refine (unhide SI _).mono ?_
  rintro e w1 ⟨rfl, b1⟩
  have br := (Box.made w 27 (fv (fun _ => .slice none 0 0))).below b1 (Box.made w 27 _).lt
  have BR := hide br
  have rl := br.lt
  have B1 := hide (bel_into (bel_a1 w _) b1)
  have eq := unhide EQ
  clear b1 br
  go_wp2
  have bF := Box.made (w1.alloc (.cells #[.int .i64 (sz c 0 : Nat), .int .i64 (sz c 1 : Nat), .int .i64 (sz c 2 : Nat), .int .i64 (sz c 3 : Nat), .int .i64 (sz c 4 : Nat)] 55)) 27 #[.slice none 0 0, .slice none 0 0, .slice none 0 0, .slice none 0 0, .slice none 0 0]
  rw [size_a] at bF
  have hsz := (unhide B1).size
  have I0 : CtI w ((w1.alloc (.cells #[.int .i64 (sz c 0 : Nat), .int .i64 (sz c 1 : Nat), .int .i64 (sz c 2 : Nat), .int .i64 (sz c 3 : Nat), .int .i64 (sz c 4 : Nat)] 55)).alloc (.cells #[.slice none 0 0, .slice none 0 0, .slice none 0 0, .slice none 0 0, .slice none 0 0] 27)) (w1.heap.size + 1) w1.heap.size w.heap.size (fun _ => 0) c 0 (fun _ _ => 0) :=
    ⟨⟨fun k hk => by omega, fun k j _ hj => by omega, fun k hk => by omega⟩, bF, (Box.made w1 55 _).alloc _, ((unhide BR).alloc _).alloc _, ((unhide B1).alloc hsz _).alloc (by simp; omega) _⟩
  have II := hide I0
  have hZs := hide (show w.heap.size ≤ w1.heap.size from hsz)
  have hZ2 := hide rl
  clear bF I0 hsz eq SI B1 BR rl EQ
  generalize (w1.alloc (.cells #[.int .i64 (sz c 0 : Nat), .int .i64 (sz c 1 : Nat), .int .i64 (sz c 2 : Nat), .int .i64 (sz c 3 : Nat), .int .i64 (sz c 4 : Nat)] 55)).alloc (.cells #[.slice none 0 0, .slice none 0 0, .slice none 0 0, .slice none 0 0, .slice none 0 0] 27) = w2 at *
  generalize w1.heap.size = Z at *
  go_loopw [25] (fun x wr => ∃ (i : Nat) (G : Nat → Nat), i ≤ 5 ∧ x = .int .i64 i ∧ CtI w wr (Z + 1) Z w.heap.size G c i (fun _ _ => 0) ∧ ∀ k, k < i → Z + 1 < G k) (fun x _ => 5 - (intOf x).toNat)
  case atStart => exact ⟨0, _, by omega, rfl, unhide II, fun k hk => by omega⟩
  case round =>
    obtain ⟨i, G, hi, rfl, I1, hlo⟩ := hrel
    have IR := hide I1
    have LO := hide hlo
    have hFl := I1.box.lt
    clear II hlo
    by_cases hlt : i < 5
    · have hlt' : (i : Int) < 5 := by omega
      have ix := unhide IXS i hlt
      have fF := I1.box.free i
      have cF := (I1.box.cell i).trans (fv_at (fu G c i) i hlt)
      obtain ⟨z0, z1⟩ := unhide SZ i
      clear I1
      have FN := hide (fun (w' : World) => CtI.next (w' := w') (g := wr.heap.size) (unhide IR) hlt (by have := unhide hZs; omega) (by omega) (by have := unhide hZ2; omega) (unhide LO))
      generalize hz : sz c i = z at *
      have mk := fun w => make_ints w z (by omega)
      have U3 : Upd (fun k => k = Z + 1) wr ((wr.setCell ⟨Z + 1, i, none⟩ (.slice (some ⟨wr.heap.size, 0, none⟩) z z)).alloc (.cells (nr (fun _ => 0) z).toArray 3)) :=
        ((Upd.refl (fun k => k = Z + 1) wr).setCell (p := ⟨Z + 1, i, none⟩) rfl _).alloc _
      have BG : Box ((wr.setCell ⟨Z + 1, i, none⟩ (.slice (some ⟨wr.heap.size, 0, none⟩) z z)).alloc (.cells (nr (fun _ => 0) z).toArray 3)) wr.heap.size 3 (nr (fun _ => 0) z).toArray :=
        made_set _ _ _ _ _
      have BF := ((unhide IR).box.set i (.slice (some ⟨wr.heap.size, 0, none⟩) z z)).alloc (.cells (nr (fun _ => 0) z).toArray 3)
      have FF := hide (unhide FN _ U3 (Nat.le_refl _) BG BF)
      have hFi := hide hFl
      clear U3 BG BF FN
      go_wp2
      go_roundw
      case rel =>
        refine ⟨i + 1, fun k => if k = i then wr.heap.size else G k, by omega, by go_num, unhide FF, fun k hk => ?_⟩
        by_cases e : k = i
        · simp only [if_pos e]; exact unhide hFi
        · simp only [if_neg e]; exact unhide LO k (by omega)
      case measure => simp [intOf]; omega
    · obtain rfl : i = 5 := by omega
      clear I1
      have JJ : CtI w wr (Z + 1) Z w.heap.size G c 5 (fun i => cn qf i (ts.take 0)) := unhide IR
      have JI := hide JJ
      clear JJ IR IXS SZ
      go_wp2
      go_loopw [36] (fun x wr => ∃ j : Nat, j ≤ n ∧ x = .int .i64 j ∧ (∀ t, t ∈ ts.take j → okf t = true) ∧ CtI w wr (Z + 1) Z w.heap.size G c 5 (fun i => cn qf i (ts.take j))) (fun x _ => n - (intOf x).toNat)
      case atStart => exact ⟨0, by omega, rfl, fun t ht => by simp at ht, unhide JI⟩
      case round =>
        obtain ⟨j, hj, rfl, oks, I1⟩ := hrel
        have IR := hide I1
        have OKS := hide oks
        clear JI oks
        by_cases hlt : j < n
        · have hlt' : (j : Int) < (n : Int) := by omega
          obtain ⟨t, ht⟩ : ∃ t, ts[j]? = some t := ⟨_, List.getElem?_eq_getElem (by have := unhide HN; omega)⟩
          obtain ⟨bb, off, rfl, hbb, q0, q1, q2, q3, q4⟩ := (unhide TK) j t ht
          have B1 := I1.bel.mono (unhide HB)
          have d0 := (B1.cell (p := ⟨bb, off + j * 5, none⟩) hbb).trans q0
          have d1 := (B1.cell (p := ⟨bb, off + j * 5 + 1, none⟩) hbb).trans q1
          have d2 := (B1.cell (p := ⟨bb, off + j * 5 + 2, none⟩) hbb).trans q2
          have d3 := (B1.cell (p := ⟨bb, off + j * 5 + 3, none⟩) hbb).trans q3
          have d4 := (B1.cell (p := ⟨bb, off + j * 5 + 4, none⟩) hbb).trans q4
          have hbw : bb < wr.heap.size := lt_of_cell d0
          have hmem := hide (List.mem_of_getElem? ht)
          have HTN := hide (take_next ht)
          clear q0 q1 q2 q3 q4 ht B1 I1
          go_wp2
          have IA := hide ((unhide IR).below (bel_a1 wr (.cells #[.int .i64 t.k, .int .i64 t.n, .int .i64 t.d, .int .i64 t.i, .int .u32 t.a] 44)))
          have TA : TS (wr.alloc (.cells #[.int .i64 t.k, .int .i64 t.n, .int .i64 t.d, .int .i64 t.i, .int .u32 t.a] 44)) wr.heap.size Z c t := by
            have b := Box.made wr 44 #[.int .i64 t.k, .int .i64 t.n, .int .i64 t.d, .int .i64 t.i, .int .u32 t.a]
            have b2 := (unhide IA).siz
            exact ⟨⟨b.cell 0, b.cell 1, b.cell 2, b.cell 3, b.cell 4⟩, ⟨b2.cell 0, b2.cell 1, b2.cell 2, b2.cell 3, b2.cell 4⟩⟩
          have PP := hide (fun w' b => unhide PA t (unhide hmem) w' b)
          clear d0 d1 d2 d3 d4 hbw IR
          generalize wr.alloc (.cells #[.int .i64 t.k, .int .i64 t.n, .int .i64 t.d, .int .i64 t.i, .int .u32 t.a] 44) = wA at *
          generalize wr.heap.size = bt at *
          have tl := TA.1.lt
          have zl := TA.2.lt
          have TT := hide TA
          go_cut [14, 15] from 40 to 47 (fun v b wx => Kn wA (qf t) (okf t) v b wx)
          case first =>
            obtain ⟨⟨x0, x1, x2, x3, x4⟩, s0, s1, s2, s3, s4⟩ := TA
            have ZA : bt ≠ wA.heap.size := Nat.ne_of_lt tl
            have ZB : Z ≠ wA.heap.size := Nat.ne_of_lt zl
            go_region_held3 (fun w' => (w'.cell? ⟨bt, 0, none⟩ = some (.int .i64 t.k) ∧ w'.cell? ⟨bt, 1, none⟩ = some (.int .i64 t.n) ∧ w'.cell? ⟨bt, 2, none⟩ = some (.int .i64 t.d) ∧ w'.cell? ⟨bt, 3, none⟩ = some (.int .i64 t.i) ∧ w'.cell? ⟨bt, 4, none⟩ = some (.int .u32 t.a)) ∧ (w'.cell? ⟨Z, 0, none⟩ = some (.int .i64 (sz c 0 : Nat)) ∧ w'.cell? ⟨Z, 1, none⟩ = some (.int .i64 (sz c 1 : Nat)) ∧ w'.cell? ⟨Z, 2, none⟩ = some (.int .i64 (sz c 2 : Nat)) ∧ w'.cell? ⟨Z, 3, none⟩ = some (.int .i64 (sz c 3 : Nat)) ∧ w'.cell? ⟨Z, 4, none⟩ = some (.int .i64 (sz c 4 : Nat)))) (first | exact ty | exact ty.below (bel_a1 _ _) | exact ty.row ZA ZB _ | exact (ty.below (bel_a1 _ _)).row YA YB _ | exact ty.row XA XB _ | exact tz | exact tz.below (bel_a1 _ _) | go_keep) ((first | (go_at_call 18; with_reducible refine Calls.mono (unhide PLC _) ?_; rintro e w4 ⟨rfl, b4⟩; have Z4 := hide (bel_into (by first | exact bel_d0 wA | exact bel_da wA _ | exact bel_ad wA _ | exact bel_a1 wA _) b4); have tz := (unhide TT).below (unhide Z4); have bk4 := fun (b : Nat) (h : Box _ b 59 pc0) => Box.below h b4 h.lt; (first | (have m4 := hide (bk4 wA.heap.size (by first | exact Box.made wA.drew 59 _ | exact box_drew (Box.made wA 59 _) | exact Box.made wA 59 _))) | skip); have XA : bt ≠ w4.heap.size := Nat.ne_of_lt (Nat.lt_of_lt_of_le tl (unhide Z4).size); have XB : Z ≠ w4.heap.size := Nat.ne_of_lt (Nat.lt_of_lt_of_le zl (unhide Z4).size); clear b4 bk4) | (go_at_call 17; with_reducible refine Calls.mono (unhide PP _ (bel_into (unhide IA).bel (by first | exact unhide Z4 | exact (unhide Z4).alloc (unhide Z4).size _))) ?_; rintro e w5 ⟨rfl, b5⟩; have Z5 := hide (bel_into (w0 := wA) (by first | exact unhide Z4 | exact (unhide Z4).alloc (unhide Z4).size _) b5); have ty := (unhide TT).below (unhide Z5); have YA : bt ≠ w5.heap.size := Nat.ne_of_lt (Nat.lt_of_lt_of_le tl (unhide Z5).size); have YB : Z ≠ w5.heap.size := Nat.ne_of_lt (Nat.lt_of_lt_of_le zl (unhide Z5).size); have bk5 := fun (b : Nat) (h : Box _ b 59 pc0) => Box.below h b5 h.lt; (first | (have st1 := st20 (q := qf t) (bk5 wA.heap.size (unhide m4)); have K1 := hide (kn_row (q := qf t) (ok := okf t) (bk5 wA.heap.size (unhide m4)) (unhide Z5) (Nat.le_refl _))) | (have st1 := st20 (q := qf t) (bk5 w4.heap.size (Box.made w4 59 _)); have K1 := hide (kn_row (q := qf t) (ok := okf t) (bk5 w4.heap.size (Box.made w4 59 _)) (unhide Z5) (unhide Z4).size)) | skip); have st2 := st20 (q := qf t) (Box.made w5 59 pc0); have K2 := hide (kn_row (q := qf t) (ok := okf t) (Box.made w5 59 pc0) ((unhide Z5).alloc (unhide Z5).size _) (unhide Z5).size); simp only [pc0] at st2 K2; clear b5 bk5)))
            all_goals go_wp2_with fail
            all_goals go_meet
            all_goals first | exact unhide K2 | exact unhide K1
          case rest =>
            obtain ⟨⟨g9, rfl, rfl, bq⟩, bl⟩ := hcut
            have IC := hide ((unhide IA).below bl)
            have BQ := hide bq
            clear TA TT tl zl PP IA bl bq
            have HOK := hide (show okf t = okf t from rfl)
            generalize hok : okf t = ok at *
            cases ok with
            | false =>
              have HNO := hide hok
              clear hok BQ
              go_wp2_with (first | (refine wpList_store_row rfl 27 (.tmp 6) (.tmp 50) rfl w.heap.size (fv (fun _ => .slice none 0 0)) rfl rfl 27 _ (unhide IC).res info_nil rfl (fv_one (fun _ => rfl)) ?_) | fail)
              refine bodyPost_ret (results_row_tmp rfl _ _ w.heap.size 27 (fv (fun _ => .slice none 0 0)) (0, 0) _ rfl (setRow_box (unhide IC).res _) Tryz.underlying27 rfl info_nil) rfl ⟨fun h => ?_, fun _ => rfl, bel_row (unhide IC).bel (Nat.le_refl _) _⟩
              have := h t (unhide hmem)
              rw [unhide HNO] at this
              cases this
            | true =>
              have HYE := hide hok
              clear hok
              have HSY := hide (unhide HS t (unhide hmem) (unhide HYE))
              go_wp2_with (first | (refine wpList_load_row rfl 59 (.tmp 14) rfl g9 rfl 59 (prc (qf t)) (0, 0) _ (unhide BQ) Tryz.underlying59 rfl info_prc ?_) | fail)
              have IX := hide (index_prc (qf t))
              have IM := hide (show CtI w wc (Z + 1) Z w.heap.size G c 5 (fm qf ts t j 0) from (unhide IC).congr (fun k hk s hs => by simp [fm]))
              clear BQ IC
              go_loopw [52] (fun x wr => ∃ i : Nat, i ≤ 5 ∧ x = .int .i64 i ∧ CtI w wr (Z + 1) Z w.heap.size G c 5 (fm qf ts t j i)) (fun x _ => 5 - (intOf x).toNat)
              case atStart => exact ⟨0, by omega, rfl, unhide IM⟩
              case round =>
                obtain ⟨i, hi5, rfl, I3⟩ := hrel
                have IT := hide I3
                clear IM
                by_cases hl5 : i < 5
                · have hl5' : (i : Int) < 5 := by omega
                  have ix := unhide IX i hl5
                  have EF := hide (show ∀ s, fm qf ts t j i i s = cn qf i (ts.take j) s from fun s => by simp [fm])
                  have EN := hide (show ∀ k s, k ≠ i → fm qf ts t j (i + 1) k s = fm qf ts t j i k s from fun k s hk => by
                    simp only [fm]
                    by_cases e : k < i
                    · rw [if_pos e, if_pos (by omega)]
                    · rw [if_neg e, if_neg (by omega)])
                  have EI := hide (show ∀ s, fm qf ts t j (i + 1) i s = fm qf ts t j i i s + hit (qf t i) s from fun s => by simp [fm])
                  have HSI := hide (unhide HSY i hl5)
                  rcases hqi : qf t i with ⟨th, sy, bi, ex⟩
                  rw [hqi] at ix HSI EI
                  simp only [pc] at ix
                  cases th with
                  | false =>
                    have IN := hide (show CtI w (wr.alloc (.cells #[.bool false, .int .i64 sy, .int .i64 bi, .int .u32 ex] 58)) (Z + 1) Z w.heap.size G c 5 (fm qf ts t j (i + 1)) from ((unhide IT).below (bel_a1 _ _)).congr (fun k hk s hs => by
                      by_cases e : k = i
                      · subst e
                        rw [unhide EI s]
                        simp [hit]
                      · exact (unhide EN k s e).symm))
                    clear I3 EF EN EI
                    go_wp2
                    go_roundw
                    case rel => exact ⟨i + 1, by omega, by go_num, unhide IN⟩
                    case measure => simp [intOf]; omega
                  | true =>
                    have hsy : sy < sz c i := unhide HSI rfl
                    have hGF := hide (unhide LO i hl5)
                    have hGi := hide ((unhide IT).rws.row i hl5).lt
                    have cF := (I3.box.cell i).trans (fv_at _ i hl5)
                    rw [show fu G c 5 i = .slice (some ⟨G i, 0, none⟩) (sz c i) (sz c i) from if_pos hl5] at cF
                    have cG := (((I3.rws.row i hl5).cell sy).trans (na_at _ _ _ hsy))
                    have fG := (I3.rws.row i hl5).free sy
                    have hFl := I3.box.lt
                    have hGl := (I3.rws.row i hl5).lt
                    have hv : fm qf ts t j i i sy ≤ 1000000 := by
                      rw [unhide EF]
                      have := cn_le qf i sy (ts.take j)
                      have h2 : (ts.take j).length ≤ j := by simp; omega
                      omega
                    have IN := hide (((CtI.count (s := sy) (z := fm qf ts t j i i sy + 1) (f' := fm qf ts t j (i + 1)) (unhide IT) hl5 (by have := unhide hGF; have := unhide hZs; omega) (by have := unhide hGF; omega) (by have := unhide hGF; omega) (by have := unhide hGF; have := unhide hZs; omega) (fun k hk => by
                      rw [unhide EI k]
                      by_cases e : k = sy
                      · subst e; simp [hit]
                      · rw [if_neg e]; simp only [hit]; rw [if_neg (by rintro ⟨_, h⟩; exact e h.symm)]; rfl) (fun k hk => funext fun s => unhide EN k s hk)).below (bel_a1 _ (.cells #[.bool true, .int .i64 sy, .int .i64 bi, .int .u32 ex] 58))).below (bel_d0 _))
                    have hsyi : (sy : Int) < ((sz c i : Nat) : Int) := by omega
                    clear I3 EF EN EI
                    generalize fm qf ts t j i i sy = v at *
                    generalize sz c i = z at *
                    generalize G i = gg at *
                    go_wp2
                    go_region
                    all_goals go_wp2
                    all_goals go_roundw
                    all_goals first
                      | exact ⟨i + 1, by omega, by go_num, unhide IN⟩
                      | (simp [intOf]; omega)
                · obtain rfl : i = 5 := by omega
                  have I5 := hide (show CtI w wr (Z + 1) Z w.heap.size G c 5 (fun k => cn qf k (ts.take (j + 1))) from I3.congr (fun k hk s hs => by rw [unhide HTN, cn_snoc]; simp only [fm]; rw [if_pos hk]))
                  have OK5 := hide (show ∀ u, u ∈ ts.take (j + 1) → okf u = true from fun u hu => by
                    rw [unhide HTN] at hu
                    rcases List.mem_append.1 hu with h | h
                    · exact unhide OKS u h
                    · rw [List.mem_singleton.1 h]; exact unhide HYE)
                  clear I3 IT
                  go_wp2
                  go_roundw
                  case rel => first
                    | exact ⟨j + 1, by omega, by go_num, unhide OK5, unhide I5⟩
                    | ((repeat apply Exists.intro); exact ⟨⟨j + 1, by omega, by go_num, unhide OK5, unhide I5⟩, rfl⟩)
                  case measure => simp [intOf]; omega
        · obtain rfl : j = n := by omega
          have EA := hide (show ts.take j = ts from List.take_of_length_le (by have := unhide HN; omega))
          have q := fun k (hk : k < 5) => (I1.box.cell k).trans (fv_at (fu G c 5) k hk)
          have q0 : wr.cell? ⟨Z + 1, 0, none⟩ = some (.slice (some ⟨G 0, 0, none⟩) (sz c 0) (sz c 0)) := q 0 (by omega)
          have q1 : wr.cell? ⟨Z + 1, 1, none⟩ = some (.slice (some ⟨G 1, 0, none⟩) (sz c 1) (sz c 1)) := q 1 (by omega)
          have q2 : wr.cell? ⟨Z + 1, 2, none⟩ = some (.slice (some ⟨G 2, 0, none⟩) (sz c 2) (sz c 2)) := q 2 (by omega)
          have q3 : wr.cell? ⟨Z + 1, 3, none⟩ = some (.slice (some ⟨G 3, 0, none⟩) (sz c 3) (sz c 3)) := q 3 (by omega)
          have q4 : wr.cell? ⟨Z + 1, 4, none⟩ = some (.slice (some ⟨G 4, 0, none⟩) (sz c 4) (sz c 4)) := q 4 (by omega)
          clear q I1
          have hnl : ¬ (j : Int) < (j : Int) := by omega
          go_wp2_with (first | (refine wpList_store_row rfl 27 (.tmp 6) (.tmp 69) rfl w.heap.size (fv (gs G c)) rfl rfl 27 _ (unhide IR).res info_gs rfl (fv_one (fun _ => rfl)) ?_) | fail)
          refine bodyPost_ret (results_row_tmp rfl _ _ w.heap.size 27 (fv (gs G c)) (0, 0) _ rfl (setRow_box (unhide IR).res _) Tryz.underlying27 rfl info_gs) rfl ⟨fun h => ⟨G, rfl, ?_⟩, fun h => absurd (by have := unhide OKS; rw [unhide EA] at this; exact this) h, bel_row (unhide IR).bel (Nat.le_refl _) _⟩
          have r := (unhide IR).rws
          rw [unhide EA] at r
          have hz := unhide hZs
          exact ⟨fun k hk => by have := r.low k hk; omega, r.rise, fun k hk => (setRow_other _ _ _ _ (by have := r.low k hk; omega)).trans (r.row k hk)⟩
end Go.Proofs.YtgjpcjnhggcfdaaGreatDoor.HCou
