/-
  Plain facts: steps and five numbers that came in; steps in a row of one's own. Conditions: as each says.
  Contract: what a program that does nothing does not answer. No conditions.
  Contracts: near.pointOf, isWidth, point.dist, Point, Dist. Conditions: the package's list holds what the program's text lays.
  Contract: the iterator of near.points. Conditions: the package's list holds what the program's text lays.
-/
import Derived.Test.YtgjpcjnhggcfdaaGreatDoorC24
import Derived.Deep.Slices
import Derived.OpenShut
import Derived.Laws.AppendOwnNone
import Derived.Maps.AppendAt
import Derived.Test.YtgjpcjnhggcfdaaGreatDoorC02
import Derived.OwnWalk
import Derived.RangeFuncNested
import Derived.RangeFuncBound
import Derived.RangeFuncCalls
import Derived.RangeFuncLeaves
import Derived.RangeFuncFrom
import Derived.Shelf.Abstract
import Derived.Shelf.RegionOpen
import Derived.WalkKit
import Derived.OwnWalkIn
import Derived.TacticsInMore
import Derived.LoopNIn
import Derived.LoopIn
namespace Go.Proofs.YtgjpcjnhggcfdaaGreatDoor.HInp
set_option linter.unusedVariables false
open Go.ChangeShapes Go.WideShapes Go.ChangeAt Go.RowKit Go.Proofs.YtgjpcjnhggcfdaaGreatDoor.Core Go.Proofs.YtgjpcjnhggcfdaaGreatDoor.HNum Go.Proofs.YtgjpcjnhggcfdaaGreatDoor.HSiz Go.Proofs.YtgjpcjnhggcfdaaGreatDoor.HFit Go.Proofs.YtgjpcjnhggcfdaaGreatDoor.HFiv Go.Proofs.YtgjpcjnhggcfdaaGreatDoor.HCnt

def IsTks (w : World) (a : Option Addr) (len cap : Nat) : Prop :=
  (a = none ∧ len = 0 ∧ cap = 0) ∨ ∃ x, a = some x ∧ ∀ i, i < len → ∃ t : Tk, t.a < 4294967296 ∧ w.cell? (x.add (i * 5)) = some (.int .i64 t.k) ∧ w.cell? (x.add (i * 5 + 1)) = some (.int .i64 t.n) ∧ w.cell? (x.add (i * 5 + 2)) = some (.int .i64 t.d) ∧ w.cell? (x.add (i * 5 + 3)) = some (.int .i64 t.i) ∧ w.cell? (x.add (i * 5 + 4)) = some (.int .u32 (t.a : Int))
theorem range_at {α : Type} (E : Nat → α) {n i : Nat} {x : α} (h : ((List.range n).map E)[i]? = some x) : i < n ∧ x = E i := by
  simp only [List.getElem?_map, Option.map_eq_some_iff] at h
  obtain ⟨j, h1, h2⟩ := h
  obtain ⟨h3, h4⟩ := List.getElem?_eq_some_iff.1 h1
  simp at h3 h4
  subst h4
  exact ⟨h3, h2.symm⟩
theorem tks_of {w : World} {a : Option Addr} {len cap : Nat} (h : IsTks w a len cap) : ∃ ts : List Tk, ts.length = len ∧ Tks w.heap.size w a ts ∧ ∀ t ∈ ts, t.a < 4294967296 := by
  rcases Nat.eq_zero_or_pos len with h0 | h0
  · exact ⟨[], h0.symm, fun i t h => by simp at h, fun t h => by simp at h⟩
  · rcases h with ⟨rfl, h1, _⟩ | ⟨x, rfl, h⟩
    · omega
    · have inh : Inhabited Tk := ⟨⟨0, 0, 0, 0, 0⟩⟩
      obtain ⟨E, hE⟩ := Go.Deep.choose_lt h
      obtain ⟨b, off, spot⟩ := x
      have hspot : spot = none := by
        have h1 := (hE 0 h0).2.1
        simpa [Addr.add] using World.cell?_spot h1
      subst hspot
      refine ⟨(List.range len).map E, by simp, fun i t ht => ?_, fun t ht => ?_⟩
      · obtain ⟨hi, rfl⟩ := range_at E ht
        obtain ⟨_, h0, h1, h2, h3, h4⟩ := hE i hi
        rw [Go.WideShapes.add_plain] at h0 h1 h2 h3 h4
        exact ⟨b, off, rfl, lt_of_cell h0, h0, h1, h2, h3, h4⟩
      · obtain ⟨i, hi, rfl⟩ := List.mem_map.1 ht
        exact (hE i (by simpa using hi)).1
set_option maxRecDepth 20000 in
theorem tks_in {H : Type} {enc : TypeId × Value → H} {w : World} {base : Nat} {spare : Nat → Bool} {held : Bool} {a : Option Addr} {len cap fuel : Nat} {x : DataW H × List MemPlace}
    (h : DataW.trod enc Tryz.prog w base spare held fuel 22 [.slice a len cap] = some x) : IsTks w a len cap := by
  rcases Go.Deep.open_slice Tryz.underlying22 h with ⟨h0, _⟩ | ⟨y, l, c, m, n, D, Pl, hcs, hb, hl, hm, hmm, rfl, hx⟩
  · simp only [List.cons.injEq, and_true, Value.slice.injEq] at h0
    exact .inl h0
  · simp only [List.cons.injEq, and_true, Value.slice.injEq] at hcs
    obtain ⟨rfl, rfl, rfl⟩ := hcs
    refine .inr ⟨y, rfl, fun i hi => ?_⟩
    have him : i < m := by rw [hmm]; split <;> omega
    obtain ⟨cs', h1, h2⟩ := hx i him
    have ce : Tryz.prog.cellsOf 44 = 5 := by kernel_rfl
    rw [ce] at h1
    obtain ⟨_, hlen, hcell⟩ := World.cells?_some h1
    obtain ⟨xs, k, hk, hxy, _, hxl, hf⟩ := DataW.trod_struct Tryz.underlying44 h2
    have c0 : Tryz.prog.cellsOf 3 = 1 := by kernel_rfl
    have c1 : Tryz.prog.cellsOf 42 = 1 := by kernel_rfl
    match xs, hxl, cs', hlen with
    | [y0, y1, y2, y3, y4], _, [v0, v1, v2, v3, v4], _ =>
      have g0 := hf 0 _ rfl
      have g1 := hf 1 _ rfl
      have g2 := hf 2 _ rfl
      have g3 := hf 3 _ rfl
      have g4 := hf 4 _ rfl
      simp [c0, c1] at g0 g1 g2 g3 g4
      obtain ⟨p, e0, _, w0⟩ := DataW.trod_int Tryz.underlying3 g0
      obtain ⟨q, e1, _, w1⟩ := DataW.trod_int Tryz.underlying3 g1
      obtain ⟨r, e2, _, w2⟩ := DataW.trod_int Tryz.underlying3 g2
      obtain ⟨s, e3, _, w3⟩ := DataW.trod_int Tryz.underlying3 g3
      obtain ⟨u, e4, _, w4⟩ := DataW.trod_int Tryz.underlying42 g4
      simp only [List.cons.injEq, and_true] at e0 e1 e2 e3 e4
      subst e0 e1 e2 e3 e4
      obtain ⟨u0, u1⟩ := bounds_u32 w4
      have k0 := hcell 0 (by omega)
      have k1 := hcell 1 (by omega)
      have k2 := hcell 2 (by omega)
      have k3 := hcell 3 (by omega)
      have k4 := hcell 4 (by omega)
      rw [Go.Deep.add_add] at k0 k1 k2 k3 k4
      refine ⟨⟨p, q, r, s, u.toNat⟩, by show u.toNat < 4294967296; omega, by simpa using k0, by simpa using k1, by simpa using k2, by simpa using k3, ?_⟩
      show _ = some (Value.int .u32 (u.toNat : Int))
      rw [Int.toNat_of_nonneg u0]
      simpa using k4
def tc (t : Tk) : List Value := [.int .i64 t.k, .int .i64 t.n, .int .i64 t.d, .int .i64 t.i, .int .u32 (t.a : Int)]
def tcs (ts : List Tk) : List Value := ts.flatMap tc
theorem tcs_snoc (ts : List Tk) (t : Tk) : tcs (ts ++ [t]) = tcs ts ++ tc t := by simp [tcs]
theorem flat_at {α β : Type} {f : α → List β} {k : Nat} (hf : ∀ x, (f x).length = k) : ∀ (l : List α) (i : Nat) (x : α) (j : Nat), l[i]? = some x → j < k → (l.flatMap f)[i * k + j]? = (f x)[j]?
  | [], i, x, j, h, _ => by simp at h
  | y :: l, 0, x, j, h, hj => by
    simp only [List.getElem?_cons_zero, Option.some.injEq] at h
    subst h
    rw [List.flatMap_cons, Nat.zero_mul, Nat.zero_add, List.getElem?_append_left (by rw [hf]; exact hj)]
  | y :: l, i + 1, x, j, h, hj => by
    rw [List.getElem?_cons_succ] at h
    rw [List.flatMap_cons, List.getElem?_append_right (by rw [hf, Nat.succ_mul]; omega), hf, show (i + 1) * k + j - k = i * k + j by rw [Nat.succ_mul]; omega]
    exact flat_at hf l i x j h hj
theorem own_shape {w : World} {base n k : Nat} {e : TypeId} {v : Value} {xs : List Value} (h : w.ownsRow base e k v n xs) : ∃ a c, v = .slice a n c ∧ n ≤ c := by
  rcases h.2 with ⟨rfl, rfl⟩ | ⟨g, cap, cur, rfl, _, _, h4, _⟩
  · exact ⟨_, _, rfl, Nat.le_refl _⟩
  · exact ⟨_, _, rfl, h4⟩
theorem own_cell {w : World} {base n k : Nat} {e : TypeId} {v : Value} {xs : List Value} (h : w.ownsRow base e k v n xs) (hn : 0 < n) : ∃ g c, v = .slice (some ⟨g, 0, none⟩) n c ∧ n ≤ c ∧ base ≤ g ∧ g < w.heap.size ∧ ∀ j u, xs[j]? = some u → w.cell? ⟨g, j, none⟩ = some u := by
  have hl := h.lt
  have H := h
  rcases h.2 with ⟨_, h0⟩ | ⟨g, cap, cur, rfl, _, _, h4, _⟩
  · omega
  · refine ⟨g, cap, rfl, h4, (hl g rfl).1, (hl g rfl).2, fun j u hu => ?_⟩
    have c := H.cells (g := g) rfl j u hu
    rwa [Go.WideShapes.add_plain, Nat.zero_add] at c
theorem own_tks {w : World} {base n : Nat} {v : Value} {ts : List Tk} (h : w.ownsRow base 44 5 v n (tcs ts)) (hn : n = ts.length) : ∃ a c, v = .slice a ts.length c ∧ ts.length ≤ c ∧ Tks w.heap.size w a ts := by
  subst hn
  rcases Nat.eq_zero_or_pos ts.length with h0 | h0
  · obtain ⟨a, c, rfl, hc⟩ := own_shape h
    refine ⟨a, c, rfl, hc, ?_⟩
    rw [List.length_eq_zero_iff.1 h0]
    exact fun i x hx => by simp at hx
  · obtain ⟨g, c, rfl, hc, _, hg, hx⟩ := own_cell h h0
    refine ⟨_, c, rfl, hc, fun i t hi => ⟨g, 0, rfl, hg, ?_⟩⟩
    have f := fun j hj => flat_at (f := tc) (k := 5) (fun _ => rfl) ts i t j hi hj
    rw [Nat.zero_add]
    exact ⟨hx _ _ (f 0 (by omega)), hx _ _ (f 1 (by omega)), hx _ _ (f 2 (by omega)), hx _ _ (f 3 (by omega)), hx _ _ (f 4 (by omega))⟩
theorem tc_one (t : Tk) : ∀ u ∈ tc t, u.oneCell' = true := by
  intro u hu
  simp [tc] at hu
  rcases hu with rfl | rfl | rfl | rfl | rfl <;> rfl
theorem box_new {w : World} {g : Nat} {T : TypeId} {vs : Array Value} (h : Box w g T vs) : ∀ j u, vs.toList[j]? = some u → w.cell? ((⟨g, 0, none⟩ : Addr).add j) = some u := by
  intro j u hj
  rw [Go.WideShapes.add_plain, Nat.zero_add, h.cell j]
  simpa using hj
theorem info44 : (Tryz.prog.info? 44).map (fun i => (i.zero, i.size, i.bytes)) = some (some (.agg #[.int .i64 0, .int .i64 0, .int .i64 0, .int .i64 0, .int .u32 0]), 5, 40) := by kernel_rfl
set_option maxRecDepth 20000 in
/-- Five small numbers that came in. -/
theorem a16_in {H : Type} {enc : TypeId × Value → H} {w : World} {base : Nat} {spare : Nat → Bool} {held : Bool} {v : Value} {fuel : Nat} {x : DataW H × List MemPlace} (hv : ∃ vs, v = .agg vs)
    (h : DataW.trod enc Tryz.prog w base spare held fuel 24 v.cells.toList = some x) : ∃ s : Nat → Nat, v = .agg (a16 s) ∧ ∀ i, s i < 65536 := by
  obtain ⟨vs, rfl⟩ := hv
  obtain ⟨xs, m, _, rfl, hl, hx, hf⟩ := DataW.trod_array Tryz.underlying24 h
  have hcs : Tryz.prog.cellsOf 24 = 5 := by kernel_rfl
  have hce : Tryz.prog.cellsOf 23 = 1 := by kernel_rfl
  rw [hcs] at hl
  match xs, hx with
  | [y0, y1, y2, y3, y4], _ =>
    have g0 := hf 0 (by omega)
    have g1 := hf 1 (by omega)
    have g2 := hf 2 (by omega)
    have g3 := hf 3 (by omega)
    have g4 := hf 4 (by omega)
    simp only [Value.cells] at hl g0 g1 g2 g3 g4
    obtain ⟨l, rfl⟩ : ∃ l : List Value, vs = l.toArray := ⟨vs.toList, by simp⟩
    simp only at hl g0 g1 g2 g3 g4
    match l, hl with
    | [v0, v1, v2, v3, v4], _ =>
      simp [hce] at g0 g1 g2 g3 g4
      obtain ⟨p, e0, _, w0⟩ := DataW.trod_int Tryz.underlying23 g0
      obtain ⟨q, e1, _, w1⟩ := DataW.trod_int Tryz.underlying23 g1
      obtain ⟨r, e2, _, w2⟩ := DataW.trod_int Tryz.underlying23 g2
      obtain ⟨s, e3, _, w3⟩ := DataW.trod_int Tryz.underlying23 g3
      obtain ⟨u, e4, _, w4⟩ := DataW.trod_int Tryz.underlying23 g4
      simp only [List.cons.injEq, and_true] at e0 e1 e2 e3 e4
      subst e0 e1 e2 e3 e4
      have b0 := bounds_u16 w0
      have b1 := bounds_u16 w1
      have b2 := bounds_u16 w2
      have b3 := bounds_u16 w3
      have b4 := bounds_u16 w4
      refine ⟨fun i => if i = 0 then p.toNat else if i = 1 then q.toNat else if i = 2 then r.toNat else if i = 3 then s.toNat else u.toNat, ?_, fun i => ?_⟩
      · simp only [a16]
        congr 3
        all_goals simp
        all_goals omega
      · simp only
        repeat' split
        all_goals omega
end Go.Proofs.YtgjpcjnhggcfdaaGreatDoor.HInp

namespace Go.Proofs.YtgjpcjnhggcfdaaGreatDoor.HAns
set_option linter.unusedVariables false
open Go.ChangeShapes Go.WideShapes Go.ChangeAt Go.RowKit Go.Proofs.YtgjpcjnhggcfdaaGreatDoor.Core Go.Proofs.YtgjpcjnhggcfdaaGreatDoor.Add Go.Proofs.YtgjpcjnhggcfdaaGreatDoor.Ord Go.Proofs.YtgjpcjnhggcfdaaGreatDoor.PNum Go.Proofs.YtgjpcjnhggcfdaaGreatDoor.HNum Go.Proofs.YtgjpcjnhggcfdaaGreatDoor.HSiz Go.Proofs.YtgjpcjnhggcfdaaGreatDoor.HFit Go.Proofs.YtgjpcjnhggcfdaaGreatDoor.HFiv Go.Proofs.YtgjpcjnhggcfdaaGreatDoor.HNew Go.Proofs.YtgjpcjnhggcfdaaGreatDoor.HHas Go.Proofs.YtgjpcjnhggcfdaaGreatDoor.HTel Go.Proofs.YtgjpcjnhggcfdaaGreatDoor.HPar Go.Proofs.YtgjpcjnhggcfdaaGreatDoor.HCnt Go.Proofs.YtgjpcjnhggcfdaaGreatDoor.HCou

/-- The one step. -/
def t1 : Tk := ⟨1, 0, 0, 0, 16909060⟩
theorem t1_tks (w : World) : Tks (w.alloc (.cells (tkc t1) 44)).heap.size (w.alloc (.cells (tkc t1) 44)) (some ⟨w.heap.size, 0, none⟩) [t1] := fun i t ht => by
  have b := Box.made w 44 (tkc t1)
  refine ⟨_, _, rfl, b.lt, ?_⟩
  rw [b.cell, b.cell, b.cell, b.cell, b.cell]
  match i, ht with
  | 0, ht => cases ht; exact ⟨rfl, rfl, rfl, rfl, rfl⟩
theorem t1_sy (i : Nat) (hi : i < 5) (h : (plit 16909060 i).th = true) : (plit 16909060 i).sy < sz 0 i := by
  rcases lt5 hi with rfl | rfl | rfl | rfl | rfl
  · decide
  · decide
  · decide
  · decide
  · cases h
set_option maxRecDepth 20000 in
set_option maxHeartbeats 1000000 in
theorem answers4 (w : World) : Calls Tryz.prog 4 #[] w fun e w' => e = .returned (.bool true) ∧ Below w.heap.size w w' := by
  have C := hide (count13 (c := 0) (n := 1) (cp := 1) (by omega) 5 (t1_tks w) rfl (by omega) (Nat.le_refl _) (fun t => plit t.a) (fun _ => true)
    (fun t ht w' _ => by rw [List.mem_singleton.1 ht]; exact parts24_lit 0 0 0 16909060 5 _ (by omega) (by omega) w') (fun t ht _ i hi h => by rw [List.mem_singleton.1 ht] at h ⊢; exact t1_sy i hi h))
  have SI := hide (fun w => sizes14 1 (by omega) w)
  unfold fvn at SI
  simp only [tkc, t1] at C
  go_enter Tryz.func4, Tryz.ntmps4
  go_wp2_with fail
  refine (unhide C).mono ?_
  rintro e w2 ⟨hy, _, bel⟩
  obtain ⟨G, rfl, rw2⟩ := hy (by simp)
  have c0 : w2.cell? ⟨G 0, 3, none⟩ = some (.int .i64 1) := ((rw2.row 0 (by omega)).cell 3).trans (na_at _ _ 3 (by decide))
  have c1 : w2.cell? ⟨G 3, 1, none⟩ = some (.int .i64 1) := ((rw2.row 3 (by omega)).cell 1).trans (na_at _ _ 1 (by decide))
  have l0 := (rw2.row 0 (by omega)).lt
  have l3 := (rw2.row 3 (by omega)).lt
  have B2 := hide ((bel_a1 w _).trans (bel.mono (by simp)))
  have e0 : sz 0 0 = 280 := rfl
  have e3 : sz 0 3 = 256 := rfl
  clear hy bel rw2 C
  simp only [fv, gs, e0, e3]
  generalize G 0 = g0 at *
  generalize G 3 = g3 at *
  go_wp2_with fail
  refine (unhide SI _).mono ?_
  rintro e w5 ⟨rfl, b5⟩
  have B5 := hide (bel_into ((unhide B2).alloc (unhide B2).size (.cells #[.slice (some ⟨g0, 0, none⟩) 280 280, .slice (some ⟨G 1, 0, none⟩) (sz 0 1) (sz 0 1), .slice (some ⟨G 2, 0, none⟩) (sz 0 2) (sz 0 2), .slice (some ⟨g3, 0, none⟩) 256 256, .slice (some ⟨G 4, 0, none⟩) (sz 0 4) (sz 0 4)] 27)) b5)
  clear b5
  have ix : ∀ w, (Instr.index 55 (.agg #[.int .i64 (sz 1 0 : Nat), .int .i64 (sz 1 1 : Nat), .int .i64 (sz 1 2 : Nat), .int .i64 (sz 1 3 : Nat), .int .i64 (sz 1 4 : Nat)]) (.int .i64 0)).run Tryz.prog w = .ok (.int .i64 282) w := index_fvn (sz 1) 0 (by omega)
  go_wp2
  go_ret
  exact ⟨rfl, unhide B5⟩
end Go.Proofs.YtgjpcjnhggcfdaaGreatDoor.HAns

namespace Go.Proofs.YtgjpcjnhggcfdaaGreatDoor.NPts
open Go.ChangeShapes Go.WideShapes Go.ChangeAt Go.RowKit Go.Proofs.YtgjpcjnhggcfdaaGreatDoor.Core Go.Proofs.YtgjpcjnhggcfdaaGreatDoor.NNum

/-- The list as the program lays it. -/
def Tab (w : World) : Prop := ∀ j, j < 240 → w.cell? ⟨0, j, none⟩ = some (.int .i8 (T j))
theorem Tab.lt {w : World} (h : Tab w) : 0 < w.heap.size := lt_of_cell (h 0 (by omega))
theorem Tab.below {w w' : World} {n : Nat} (h : Tab w) (b : Below n w w') (hn : 0 < n) : Tab w' := fun j hj => (b.cell (p := ⟨0, j, none⟩) hn).trans (h j hj)
theorem Tab.on {w w' : World} (h : Tab w) (b : Below w.heap.size w w') : Tab w' := h.below b h.lt

theorem belowN {b : Nat} {a w : World} (h : Below b a w) (n : Nat) : Below b a (w.drewN n) := ⟨h.os, h.tape, h.output, h.size, h.block⟩

theorem isw16 (x : Int) (w : World) : Calls Tryz.prog 59 #[.int .i64 x] w fun e w' => e = .returned (.bool (wd x)) ∧ w' = w := by
  by_cases h1 : 1 ≤ x
  · by_cases h2 : x ≤ 16384
    · rw [wd_in ⟨h1, h2⟩]
      go_enter Tryz.func59, Tryz.ntmps59
      go_wp2
      go_ret
      exact ⟨rfl, rfl⟩
    · rw [wd_out (fun h => h2 h.2)]
      go_enter Tryz.func59, Tryz.ntmps59
      go_wp2
      go_ret
      exact ⟨rfl, rfl⟩
  · rw [wd_out (fun h => h1 h.1)]
    go_enter Tryz.func59, Tryz.ntmps59
    go_wp2
    go_ret
    exact ⟨rfl, rfl⟩

theorem wrap_small {z : Int} (h : -200000 ≤ z ∧ z ≤ 2000000) : IntKind.i64.wrap z = z := by simp [IntKind.wrap, IntKind.bits, IntKind.signed]; omega

set_option maxHeartbeats 400000 in
theorem dist17 (x y v : Int) (w : World) (h1 : IntKind.i64.wrap (y * v) = y * v) (h2 : IntKind.i64.wrap (x + y * v) = x + y * v) :
    Calls Tryz.prog 61 #[.agg #[.int .i64 x, .int .i64 y], .int .i64 v] w fun e w' => e = .returned (.int .i64 (cut (x + y * v))) ∧ Below w.heap.size w w' := by
  by_cases h3 : 1 < x + y * v
  · have e : cut (x + y * v) = x + y * v := by unfold cut; rw [if_neg (by omega)]
    rw [e]
    clear e
    go_enter Tryz.func61, Tryz.ntmps61
    go_wp2
    go_ret
    exact ⟨rfl, (Below.refl _ _).alloc (Nat.le_refl _) _⟩
  · have e : cut (x + y * v) = 1 := by unfold cut; split <;> omega
    rw [e]
    clear e
    go_enter Tryz.func61, Tryz.ntmps61
    go_wp2
    go_ret
    exact ⟨rfl, (Below.refl _ _).alloc (Nat.le_refl _) _⟩

set_option maxHeartbeats 400000 in
theorem pt14 (m : Nat) (w : World) (hm : m < 120) (t : Tab w) :
    Calls Tryz.prog 75 #[.int .i64 ((m : Int) + 1)] w fun e w' => e = .returned (.agg #[.int .i64 (px m), .int .i64 (py m)]) ∧ Below w.heap.size w w' := by
  have c1 : w.cell? ⟨0, 2 * m, none⟩ = some (.int .i8 (px m)) := t _ (by omega)
  have c2 : w.cell? ⟨0, 2 * m + 1, none⟩ = some (.int .i8 (py m)) := t _ (by omega)
  have hl := t.lt
  have w1 : IntKind.i64.wrap (px m) = px m := wrap_small (by have := px_small m hm; omega)
  have w2 : IntKind.i64.wrap (py m) = py m := wrap_small (by have := py_small m hm; omega)
  clear t
  go_enter Tryz.func75, Tryz.ntmps75
  go_wp2
  go_region
  all_goals go_wp2
  refine bodyPost_ret (results_cell_row rfl _ _ w.heap.size 124 #[.int .i64 (px m), .int .i64 (py m)] (0, 0) _ rfl (Box.made w 124 _) Tryz.underlying124 rfl (by kernel_rfl)) rfl ⟨rfl, ((Below.refl _ _).alloc (Nat.le_refl _) _).drew⟩

theorem dd_wrap (m : Nat) (v : Int) (h3 : wd v = true) : IntKind.i64.wrap (py m * v) = py m * v ∧ IntKind.i64.wrap (px m + py m * v) = px m + py m * v := by
  have h1 := T_all (2 * m)
  have h2 := T_all (2 * m + 1)
  have h4 := mul_all h2 (wd_is h3)
  unfold px py
  exact ⟨wrap_small (by omega), wrap_small (by omega)⟩
theorem pt14' (c : Int) (m : Nat) (w : World) (hc : Hid (c = (m : Int) + 1)) (hm : m < 120) (t : Tab w) :
    Calls Tryz.prog 75 #[.int .i64 c] w fun e w' => e = .returned (.agg #[.int .i64 (px m), .int .i64 (py m)]) ∧ Below w.heap.size w w' := by
  rw [unhide hc]
  exact pt14 m w hm t
end Go.Proofs.YtgjpcjnhggcfdaaGreatDoor.NPts

namespace Go.Proofs.YtgjpcjnhggcfdaaGreatDoor.NItr
open Go.ChangeShapes Go.WideShapes Go.ChangeAt Go.RowKit Go.Shelf Go.Proofs.YtgjpcjnhggcfdaaGreatDoor.Core Go.Proofs.YtgjpcjnhggcfdaaGreatDoor.NNum Go.Proofs.YtgjpcjnhggcfdaaGreatDoor.NPts
attribute [local go_sem] Oper.semAt_some

/-- The list's block stays. -/
def Bz (W W' : World) : Prop := W'.heap[0]? = W.heap[0]?
theorem Bz.tab {W W' : World} (h : Bz W W') (t : Tab W) : Tab W' := fun j hj => (World.cell?_of_block (w := W) (show W'.heap[(⟨0, j, none⟩ : Addr).block]? = _ from h)).trans (t j hj)
theorem Bz.trans {A B C : World} (h : Bz A B) (k : Bz B C) : Bz A C := Eq.trans k h
def allOf : List Nat := List.range 120
abbrev ag (m : Nat) : Value := .agg #[.int .i64 (px m), .int .i64 (py m)]
abbrev en (m : Nat) : Array Value := #[.int .i64 ((m : Int) + 1), ag m]

set_option maxRecDepth 100000 in
set_option maxHeartbeats 2000000 in
theorem pts19 (n : Nat) (hn : 1 ≤ n) (l : Nat) (J Jx : List Nat → World → Prop)
    (hJ : ∀ pre W W', J pre W → Below W.heap.size W W' → J pre W')
    (hY : ∀ pre x W, J pre W → pre.length < 120 → YieldAt Fence.wide (n - 1) Tryz.prog l (en x) W fun e W' =>
      (e = .returned (.bool true) ∧ J (pre ++ [x]) W' ∧ Bz W W') ∨ (e = .returned (.bool false) ∧ Jx (pre ++ [x]) W'))
    (W : World) (t : Tab W) (h0 : J [] W) :
    CallsIn Fence.wide n Tryz.prog 74 #[.func (.yield l) #[] #[]] W fun e W' => (∃ v, e = .returned v) ∧
      ((∃ ys, ys = allOf ∧ J ys W') ∨ (∃ pre, (∃ k, k < 120 ∧ pre = List.range (k + 1)) ∧ Jx pre W')) := by
  have YY := hide hY
  have JW := hide hJ
  have TT := hide t
  have ht14 : Fence.wide.fn 75 := trivial
  clear hY hJ t
  refine callsIn_of_wp Tryz.func74 rfl trivial ?_ rfl
  simp only [Tryz.ntmps74, List.size_toArray, List.length_cons, List.length_nil, Nat.reduceAdd, Nat.reduceSub, Array.replicate_succ, Array.replicate_zero, List.push_toArray, List.append_toArray, List.nil_append, List.cons_append]
  gi_wp2
  gi_loopw [2] (fun i wr => ∃ k : Nat, k ≤ 120 ∧ i = .int .i64 ((k : Int) + 1) ∧ J (List.range k) wr ∧ Tab wr) (fun i _ => 121 - (intOf i).toNat)
  case atStart => exact ⟨0, Nat.zero_le _, rfl, h0, unhide TT⟩
  case round =>
    obtain ⟨k, hk, rfl, hJs, htr⟩ := hrel
    have JJ := hide hJs
    have TR := hide htr
    clear hJs htr
    by_cases hlt : k < 120
    · have hle : (k : Int) + 1 ≤ 120 := by omega
      gi_wp2_with (first | (gi_at_call 75; refine (callsIn_wide.2 (pt14 k wr hlt (unhide TR))).mono ?_; rintro e w1 ⟨rfl, hb⟩; have HT := hide ((unhide TR).on hb); obtain ⟨fn, tmps, assign, body, hy, hR⟩ := unhide YY _ k w1 (unhide JW _ _ _ (unhide JJ) hb) (by rw [List.length_range]; omega); dsimp only [en, ag] at hy; have HR := hide (hR.mono (R' := fun e W' => ∃ b : Bool, e = .returned (.bool b) ∧ ((b = true ∧ J (List.range k ++ [k]) W' ∧ Bz w1 W') ∨ (b = false ∧ Jx (List.range k ++ [k]) W'))) (fun e W' h => h.elim (fun h => ⟨true, h.1, .inl ⟨rfl, h.2⟩⟩) (fun h => ⟨false, h.1, .inr ⟨rfl, h.2⟩⟩))); clear hR hb) | (refine (unhide HR).mono ?_; rintro e W3 ⟨b, rfl, h3⟩; have H3 := hide h3; clear h3))
      · refine bodyPost_ret (results_none rfl _ _ _) rfl ⟨⟨_, rfl⟩, .inr ⟨_, ⟨k, hlt, rfl⟩, ?_⟩⟩
        rename_i hb
        rcases unhide H3 with ⟨e1, _⟩ | ⟨_, e2⟩
        · rw [e1] at hb
          cases hb
        · rw [List.range_succ]
          exact e2
      · refine ⟨⟨k + 1, by omega, by go_num, ?_⟩, by simp [intOf]; omega⟩
        rename_i hb
        rcases unhide H3 with ⟨_, e2, e3⟩ | ⟨e1, _⟩
        · rw [List.range_succ]
          exact ⟨e2, e3.tab (unhide HT)⟩
        · rw [e1] at hb
          cases hb
    · have hke : k = 120 := by omega
      have hnl : ¬ (k : Int) + 1 ≤ 120 := by omega
      gi_wp2
      go_end0
      have h9 : J allOf wr := by
        unfold allOf
        rw [← hke]
        exact unhide JJ
      exact ⟨⟨_, rfl⟩, .inl (by first | exact h9 | exact ⟨_, rfl, h9⟩)⟩
theorem pts18 (n : Nat) (w : World) : CallsIn Fence.wide n Tryz.prog 60 #[] w fun e w' => e = .returned (.func (.func 74) #[] #[]) ∧ w' = w := by
  refine callsIn_of_wp Tryz.func60 rfl trivial ?_ rfl
  simp only [Tryz.ntmps60, List.size_toArray, List.length_nil, Nat.reduceSub, Array.replicate_succ, Array.replicate_zero, List.push_toArray, List.append_toArray, List.nil_append]
  gi_wp2
  go_ret
  exact ⟨rfl, rfl⟩
theorem pts_stops (n : Nat) (hn : 1 ≤ n) (w : World) (t : Tab w) :
    SeqStopsK Fence.wide n Tryz.prog 74 #[] en Bz (fun ys => ys = allOf) (fun pre => ∃ k, k < 120 ∧ pre = List.range (k + 1)) 120 w := fun l J Jx W hW hJ _ hY h0 => by
  refine pts19 n hn l J Jx (fun pre A B h b => hJ pre A B none h ⟨b.os, b.tape, b.output, b.size, fun k hk _ => b.block k hk⟩ (fun r e => by cases e)) hY W (t.on hW) h0
end Go.Proofs.YtgjpcjnhggcfdaaGreatDoor.NItr
