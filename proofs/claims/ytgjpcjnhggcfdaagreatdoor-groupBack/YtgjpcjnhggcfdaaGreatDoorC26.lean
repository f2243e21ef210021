/-
  Contract: near.Code. Conditions: the package's list holds what the program's text lays.
  Contracts: group.split, copied, partsOf. Conditions: the width may be.
  Plain numbers: the bits that tell a step, wherever they stand. No function of the program. Conditions: as each says.
  Contract: the document's own reading of lengths, wherever their bits stand. Conditions: the bits are there, and few.
-/
import Derived.Test.YtgjpcjnhggcfdaaGreatDoorC25
import Derived.RangeFuncWrites
import Derived.RangeFuncBox
import Derived.Test.YtgjpcjnhggcfdaaGreatDoorC24
import Derived.Test.YtgjpcjnhggcfdaaGreatDoorC03
import Derived.Test.YtgjpcjnhggcfdaaGreatDoorC11
import Derived.Test.YtgjpcjnhggcfdaaGreatDoorC12
import Derived.Test.YtgjpcjnhggcfdaaGreatDoorC23
import Derived.Test.YtgjpcjnhggcfdaaGreatDoorC13
namespace Go.Proofs.YtgjpcjnhggcfdaaGreatDoor.NCde
open Go.ChangeShapes Go.WideShapes Go.ChangeAt Go.RowKit Go.Shelf Go.Proofs.YtgjpcjnhggcfdaaGreatDoor.Core Go.Proofs.YtgjpcjnhggcfdaaGreatDoor.NNum Go.Proofs.YtgjpcjnhggcfdaaGreatDoor.NPts Go.Proofs.YtgjpcjnhggcfdaaGreatDoor.NItr
attribute [local go_sem] Oper.semAt_some

theorem results12 (tmps : Array Value) (w : World) (g : Nat) (v : Value) (hp : tmps.getD 4 undef = .pointer (some ⟨g, 0, none⟩)) (hc : w.cell? ⟨g, 0, none⟩ = some v) : (results Tryz.f38 tmps).run Tryz.prog w = .ok v w := by
  have hp' : tmps[4]?.getD undef = .pointer (some ⟨g, 0, none⟩) := by simpa using hp
  simp [results, Tryz.f38, go_sem, hp', hc]

theorem below3 (w : World) (a b c : Obj) : Below w.heap.size w (((w.alloc a).alloc b).alloc c) :=
  (((Below.refl _ w).alloc (Nat.le_refl _) _).alloc (by simp) _).alloc (by simp; omega) _
theorem box3 (w : World) (a b : Obj) (t : TypeId) (vs : Array Value) : Box (((w.alloc a).alloc b).alloc (.cells vs t)) (w.heap.size + 1 + 1) t vs := by
  have := Box.made ((w.alloc a).alloc b) t vs
  rw [World.size_alloc, World.size_alloc] at this
  exact this
theorem box2 (w : World) (a b : Obj) (t : TypeId) (vs : Array Value) : Box (((w.alloc a).alloc (.cells vs t)).alloc b) (w.heap.size + 1) t vs := by
  have := Box.made (w.alloc a) t vs
  rw [World.size_alloc] at this
  exact this.alloc _
theorem box1 (w : World) (a b : Obj) (t : TypeId) (vs : Array Value) : Box (((w.alloc (.cells vs t)).alloc a).alloc b) w.heap.size t vs := ((Box.made w t vs).alloc _).alloc _

set_option maxHeartbeats 400000 in
theorem code12_out (d v : Int) (w : World) (h : ¬ (1 ≤ d ∧ d ≤ 1048456 ∧ wd v = true)) :
    Calls Tryz.prog 38 #[.int .i64 d, .int .i64 v] w fun e w' => e = .returned (.int .i64 0) ∧ Below w.heap.size w w' := by
  by_cases h1 : d < 1
  · clear h
    go_enter Tryz.func38, Tryz.ntmps38
    go_wp2
    refine bodyPost_ret (results12 _ _ (w.heap.size + 1 + 1) _ rfl (Box.cell (g := w.heap.size + 1 + 1) (T := 3) (vs := #[.int .i64 0]) (box3 w _ _ _ _) 0)) rfl ⟨rfl, below3 w _ _ _⟩
  · by_cases h2 : 1048456 < d
    · clear h
      go_enter Tryz.func38, Tryz.ntmps38
      go_wp2
      refine bodyPost_ret (results12 _ _ (w.heap.size + 1 + 1) _ rfl (Box.cell (g := w.heap.size + 1 + 1) (T := 3) (vs := #[.int .i64 0]) (box3 w _ _ _ _) 0)) rfl ⟨rfl, below3 w _ _ _⟩
    · have h3 : wd v = false := by
        cases hv : wd v
        · rfl
        · exact absurd ⟨by omega, by omega, hv⟩ h
      clear h
      go_enter Tryz.func38, Tryz.ntmps38
      go_wp2_with (go_at_call 59; refine (isw16 v _).mono ?_; rintro e w' ⟨rfl, rfl⟩)
      refine bodyPost_ret (results12 _ _ (w.heap.size + 1 + 1) _ rfl (Box.cell (g := w.heap.size + 1 + 1) (T := 3) (vs := #[.int .i64 0]) (box3 w _ _ _ _) 0)) rfl ⟨rfl, below3 w _ _ _⟩
theorem keeps_below {W W' : World} (h : Below W.drew.heap.size W.drew W') : KeepsOthers W W' :=
  ⟨h.size, fun k _ hk _ => (h.block k (Array.getElem?_eq_some_iff.1 hk).1).trans hk⟩
theorem boxed_below {W W' : World} {g : Nat} {t : TypeId} {u : Value} (x : Boxed W g t u) (h : Below W.drew.heap.size W.drew W') : Boxed W' g t u := (h.block g x.lt).trans x
/-- What the body keeps between two rounds. -/
abbrev Inn (w : World) (d v : Int) : List Nat → World → Prop := fun pre W => ((Boxed W w.heap.size 3 (.int .i64 d) ∧ Boxed W (w.heap.size + 1) 3 (.int .i64 v)) ∧ Boxed W (w.heap.size + 1 + 1) 3 (.int .i64 0)) ∧ Below w.heap.size w W ∧ ∀ m ∈ pre, dd m v ≠ d
/-- How a round is left for good. -/
abbrev Out (w : World) (d v : Int) : Code → List Nat → World → Prop := fun c pre W => c = .ret ∧ (∃ x : Nat, Boxed W (w.heap.size + 1 + 1) 3 (.int .i64 ((x : Int) + 1)) ∧ ∃ pre', pre = pre' ++ [x] ∧ (∀ m ∈ pre', dd m v ≠ d) ∧ dd x v = d) ∧ Below w.heap.size w W
theorem fin_ret {w W w3 : World} {d v : Int} {B x : Nat} {pre : List Nat} {a : Act} (x3 : Boxed W (w.heap.size + 1 + 1) 3 (.int .i64 0)) (hB : Below w.heap.size w W) (h3 : Below W.drew.heap.size W.drew w3) (hn : ∀ m ∈ pre, dd m v ≠ d) (hq : dd x v = d) :
    ownPostG B Bz (Inn w d v) (Out w d v) (pre ++ [x]) W .ret a (w3.setCell ⟨w.heap.size + 1 + 1, 0, none⟩ (.int .i64 ((x : Int) + 1))) := by
  refine ⟨((keeps_below h3).trans (KeepsOthers.setCell _ _ _)).from _, rfl, ⟨x, (boxed_below x3 h3).set _, pre, rfl, hn, hq⟩, ?_⟩
  exact (hB.trans (Below.mono (Below.trans (Below.drew (Below.refl _ W)) h3) hB.size)).setCell (p := ⟨w.heap.size + 1 + 1, 0, none⟩) (by simp; omega) _
theorem fin_on {w W w3 : World} {d v : Int} {B x : Nat} {pre : List Nat} {a : Act} (h0 : 0 < w.heap.size) (x1 : Boxed W w.heap.size 3 (.int .i64 d)) (x2 : Boxed W (w.heap.size + 1) 3 (.int .i64 v)) (x3 : Boxed W (w.heap.size + 1 + 1) 3 (.int .i64 0)) (hB : Below w.heap.size w W) (h3 : Below W.drew.heap.size W.drew w3) (hn : ∀ m ∈ pre, dd m v ≠ d) (hq : ¬ dd x v = d) :
    ownPostG B Bz (Inn w d v) (Out w d v) (pre ++ [x]) W .normal a w3 := by
  refine ⟨(keeps_below h3).from _, h3.block 0 (Nat.lt_of_lt_of_le h0 hB.size), ⟨⟨⟨boxed_below x1 h3, boxed_below x2 h3⟩, boxed_below x3 h3⟩, hB.trans (Below.mono (Below.trans (Below.drew (Below.refl _ W)) h3) hB.size), fun m hm => ?_⟩⟩
  rcases List.mem_append.1 hm with h | h
  · exact hn m h
  · simp at h
    rw [h]
    exact hq

set_option maxRecDepth 100000 in
set_option maxHeartbeats 2000000 in
theorem code12_in (n : Nat) (d v : Int) (w : World) (hn : 3 ≤ n) (t : Tab w) (h1 : ¬ d < 1) (h2 : ¬ 1048456 < d) (h3 : wd v = true) :
    CallsIn Fence.wide n Tryz.prog 38 #[.int .i64 d, .int .i64 v] w fun e w' => e = .returned (.int .i64 (K d v)) ∧ Below w.heap.size w w' := by
  have hn1 : 1 ≤ n := by omega
  have hin : 1 ≤ d ∧ d ≤ 1048456 ∧ wd v = true := ⟨by omega, by omega, h3⟩
  have HI := hide hin
  have TT := hide t
  clear hin t
  refine callsIn_of_wp_marks Tryz.func38 rfl trivial ?_ rfl
  simp only [Tryz.ntmps38, List.size_toArray, List.length_cons, List.length_nil, Nat.reduceAdd, Nat.reduceSub, Array.replicate_succ, Array.replicate_zero, List.push_toArray, List.append_toArray, List.nil_append, List.cons_append]
  have ht16 : Fence.wide.fn 59 := trivial
  have ht18 : Fence.wide.fn 60 := trivial
  gi_wp2_with (first | (gi_at_call 59; refine (callsIn_wide.2 (isw16 v _)).mono ?_; rintro e w' ⟨rfl, rfl⟩) | (gi_at_call 60; refine (pts18 _ _).mono ?_; rintro e w' ⟨rfl, rfl⟩))
  obtain ⟨W0, hW0⟩ : ∃ W0, ((w.alloc (.cells #[.int .i64 d] 3)).alloc (.cells #[.int .i64 v] 3)).alloc (.cells #[.int .i64 0] 3) = W0 := ⟨_, rfl⟩
  have b1 : Boxed W0 w.heap.size 3 (.int .i64 d) := by rw [← hW0]; exact box1 w _ _ _ _
  have b2 : Boxed W0 (w.heap.size + 1) 3 (.int .i64 v) := by rw [← hW0]; exact box2 w _ _ _ _
  have b3 : Boxed W0 (w.heap.size + 1 + 1) 3 (.int .i64 0) := by rw [← hW0]; exact box3 w _ _ _ _
  have hB0 : Below w.heap.size w W0 := by rw [← hW0]; exact below3 w _ _ _
  have hsz : W0.heap.size = w.heap.size + 3 := by rw [← hW0]; simp
  have h0 : 0 < w.heap.size := (unhide TT).lt
  rw [hW0]
  refine wpIn_rangeFunc_ownH rfl hn1 (gf := 74) (lb := #[]) rfl trivial (enters_of Tryz.func74 (by kernel_rfl) rfl)
    (pts_stops (n - 1) (by omega) W0 ((unhide TT).on hB0)) Bz.trans (fun W l o o' hl h2 _ _ => World.putObj_heap_other (fun e => by omega)) (Below.refl _ _) (fun _ => rfl)
    (Inn w d v) (Out w d v)
    (OwnFrom.and (OwnFrom.and (OwnFrom.and (Own.from (boxed_own _ _ _) _) (Own.from (boxed_own _ _ _) _)) (Own.from (boxed_own _ _ _) _)) (OwnFrom.and (ownFrom_below (Nat.le_refl _) (by omega)) (fun _ _ _ _ hs _ _ => hs)))
    (fun c s A B row hs hg hr => ⟨hs.1, (by
      obtain ⟨x, hx, hp⟩ := hs.2.1
      exact ⟨x, Own.from (boxed_own (β := Unit) (w.heap.size + 1 + 1) 3 (fun _ => .int .i64 ((x : Int) + 1))) _ () A B row hx hg hr, hp⟩), ownFrom_below (β := Unit) (Nat.le_refl _) (by omega) () A B row hs.2.2 hg hr⟩)
    ⟨⟨⟨b1, b2⟩, b3⟩, hB0, fun _ h => by cases h⟩
    (fun x a' W => ∃ Ba, Box W Ba 124 #[.int .i64 (px x), .int .i64 (py x)] ∧ a' = { tmps := #[.int .i64 d, .int .i64 v, .pointer (some ⟨w.heap.size, 0, none⟩), .pointer (some ⟨w.heap.size + 1, 0, none⟩), .pointer (some ⟨w.heap.size + 1 + 1, 0, none⟩), .int .i64 ((x : Int) + 1), .pointer (some ⟨Ba, 0, none⟩), .int .i64 d, .bool false, .bool false, .int .i64 d, .bool false, .bool false, .bool false, .int .i64 v, .bool true, .bool false, .bool false, .func (.func 74) #[] #[], .int .i64 ((x : Int) + 1), ag x, undef, undef, undef, undef, undef, undef, undef, undef], defers := [] })
    (fun x a' => by
      rintro _ A B row ⟨Ba, xa, e⟩ hg hr
      refine ⟨Ba, (hg.block Ba xa.lt (fun e2 => ?_)).trans xa, e⟩
      obtain ⟨_, o, ho, hc⟩ := hr Ba e2.symm
      rw [show A.heap[Ba]? = _ from xa] at ho; cases ho; cases hc) ?assign ?body ?done ?stop
  case assign =>
    rintro l pre x W K ⟨⟨⟨x1, x2⟩, x3⟩, hB, hne⟩ hK
    gi_wp2
    refine hK _ _ ((KeepsOthers.alloc W _).from _) (Below.heap_alloc _ _ _ (by have := hB.size; omega)) ⟨⟨⟨x1.alloc _, x2.alloc _⟩, x3.alloc _⟩, hB.alloc hB.size _, hne⟩ ⟨W.heap.size, Box.made W 124 _, rfl⟩
  case body =>
    rintro l pre x a' W hl ⟨r, hr⟩ ⟨⟨⟨x1, x2⟩, x3⟩, hB, hne⟩ ⟨Ba, xa, rfl⟩ hlt
    have d1 := x1.cell
    have d2 := x2.cell
    have d3 := x3.cell
    have f3 := x3.frozen
    have a0 : W.cell? ⟨Ba, 0, none⟩ = some (.int .i64 (px x)) := xa.cell 0
    have a1 : W.cell? ⟨Ba, 1, none⟩ = some (.int .i64 (py x)) := xa.cell 1
    have X1 := hide x1
    have X2 := hide x2
    have X3 := hide x3
    have XA := hide xa
    have HB := hide hB
    have HN := hide hne
    have HW := hide (dd_wrap x v h3)
    clear x1 x2 x3 xa hB hne hr b1 b2 b3 hB0
    have hmx : Tryz.prog.follows .mixedOrders = true := by kernel_rfl
    have hn3 : 1 ≤ n - 1 - 1 := by omega
    have ht17 : Fence.wide.fn 61 := trivial
    by_cases hq : dd x v = d
    · have bq : (cut (px x + py x * v) == d) = true := by simpa [dd] using hq
      gi_wp2
      gi_region_with_o (gi_at_call 61; refine (CallsIn.inRound l (callsIn_wide.2 (dist17 (px x) (py x) v _ (unhide HW).1 (unhide HW).2))).mono ?_; rintro e w3 ⟨rfl, hb⟩; have g1 := (hb.cell (p := ⟨w.heap.size, 0, none⟩) (unhide X1).lt).trans d1; have g3 := (hb.cell (p := ⟨w.heap.size + 1 + 1, 0, none⟩) (unhide X3).lt).trans d3; have g4 := (hb.frozen (p := ⟨w.heap.size + 1 + 1, 0, none⟩) (unhide X3).lt).trans f3; have HB3 := hide hb; clear hb)
      all_goals gi_wp2
      all_goals exact fin_ret (unhide X3) (unhide HB) (unhide HB3) (unhide HN) hq
    · have bq : (cut (px x + py x * v) == d) = false := by simpa [dd] using hq
      gi_wp2
      gi_region_with_o (gi_at_call 61; refine (CallsIn.inRound l (callsIn_wide.2 (dist17 (px x) (py x) v _ (unhide HW).1 (unhide HW).2))).mono ?_; rintro e w3 ⟨rfl, hb⟩; have g1 := (hb.cell (p := ⟨w.heap.size, 0, none⟩) (unhide X1).lt).trans d1; have g3 := (hb.cell (p := ⟨w.heap.size + 1 + 1, 0, none⟩) (unhide X3).lt).trans d3; have g4 := (hb.frozen (p := ⟨w.heap.size + 1 + 1, 0, none⟩) (unhide X3).lt).trans f3; have HB3 := hide hb; clear hb)
      all_goals gi_wp2
      all_goals exact fin_on h0 (unhide X1) (unhide X2) (unhide X3) (unhide HB) (unhide HB3) (unhide HN) hq
  case done =>
    rintro D ys W hD rfl ⟨⟨⟨x1, x2⟩, x3⟩, hB, hne⟩ hK
    have d1 := x1.cell
    have d3 := x3.cell
    have f3 := x3.frozen
    have HK := hide (K_none (unhide HI) (fun m hm => hne m (by unfold allOf; simpa using hm)))
    have X3 := hide x3
    have HB := hide hB
    have hd2 : d ≤ 1048456 := (unhide HI).2.1
    clear x1 x2 x3 hB hne b1 b2 b3 hB0
    gi_wp2
    have X4 := (unhide X3).set (.int .i64 (d + 120))
    have hK' := (KeepsOthers.setCell W ⟨w.heap.size + 1 + 1, 0, none⟩ (.int .i64 (d + 120))).same D _ hK rfl
    refine ⟨by simp, .inl ⟨_, _, rfl, run_takeDeferred hK', ?_⟩⟩
    refine ⟨_, results12 _ _ (w.heap.size + 1 + 1) _ rfl (cell_kept X4.cell (grownBy_putObj' _ D (.deferred none)) (fun r e => by cases e; exact ⟨_, hK', rfl⟩)), ret_int (unhide HK).symm, ?_⟩
    exact ((unhide HB).setCell (p := ⟨w.heap.size + 1 + 1, 0, none⟩) (by simp; omega) _).trans (belowK_b (w := w) (Nat.le_refl _) _ D _ _ (by omega) hK' rfl rfl)
  case stop =>
    rintro D c pre W hD ⟨k, hk, rfl⟩ ⟨rfl, ⟨x, hx, pre', hp, hn', he⟩, hB⟩ hK
    have hkx : x = k ∧ pre' = List.range k := by
      rw [List.range_succ] at hp
      obtain ⟨e1, e2⟩ := List.append_inj' hp rfl
      simp at e2
      exact ⟨e2.symm, e1.symm⟩
    obtain ⟨rfl, rfl⟩ := hkx
    have HK := hide (K_at x (unhide HI) hk (fun m hm => hn' m (by simpa using hm)) he)
    have HB := hide hB
    have HX := hide hx
    clear hp hn' he hB hx b1 b2 b3 hB0
    gi_wp2
    refine ⟨by simp, .inl ⟨_, _, rfl, run_takeDeferred hK, ?_⟩⟩
    refine ⟨_, results12 _ _ (w.heap.size + 1 + 1) _ rfl (cell_kept (unhide HX).cell (grownBy_putObj' _ D (.deferred none)) (fun r e => by cases e; exact ⟨_, hK, rfl⟩)), ret_int (unhide HK).symm, ?_⟩
    exact (unhide HB).trans (belowK_b (w := w) (Nat.le_refl _) _ D _ _ (by omega) hK rfl rfl)
theorem code12 (d v : Int) (w : World) (t : Tab w) :
    Calls Tryz.prog 38 #[.int .i64 d, .int .i64 v] w fun e w' => e = .returned (.int .i64 (K d v)) ∧ Below w.heap.size w w' := by
  by_cases h : 1 ≤ d ∧ d ≤ 1048456 ∧ wd v = true
  · exact (callsIn_wide (n := 3)).1 (code12_in 3 d v w (Nat.le_refl _) t (by omega) (by omega) h.2.2)
  · rw [K_out h]
    exact code12_out d v w h
end Go.Proofs.YtgjpcjnhggcfdaaGreatDoor.NCde

namespace Go.Proofs.YtgjpcjnhggcfdaaGreatDoor.HCop
set_option linter.unusedVariables false
open Go.ChangeShapes Go.WideShapes Go.ChangeAt Go.RowKit Go.Proofs.YtgjpcjnhggcfdaaGreatDoor.Core Go.Proofs.YtgjpcjnhggcfdaaGreatDoor.PNum Go.Proofs.YtgjpcjnhggcfdaaGreatDoor.VNum Go.Proofs.YtgjpcjnhggcfdaaGreatDoor.HNum Go.Proofs.YtgjpcjnhggcfdaaGreatDoor.HSiz Go.Proofs.YtgjpcjnhggcfdaaGreatDoor.HFit Go.Proofs.YtgjpcjnhggcfdaaGreatDoor.HFiv Go.Proofs.YtgjpcjnhggcfdaaGreatDoor.HNew Go.Proofs.YtgjpcjnhggcfdaaGreatDoor.HHas Go.Proofs.YtgjpcjnhggcfdaaGreatDoor.HTel Go.Proofs.YtgjpcjnhggcfdaaGreatDoor.HPar Go.Proofs.YtgjpcjnhggcfdaaGreatDoor.HVal Go.Proofs.YtgjpcjnhggcfdaaGreatDoor.NPts Go.Proofs.YtgjpcjnhggcfdaaGreatDoor.NCde

/-- A part's cells. -/
def sp (first n : Nat) : Array Value := #[.bool true, .int .i64 (first + sv n : Nat), .int .i64 (exn (sv n) : Nat), .int .u32 (xv n : Nat)]
set_option maxRecDepth 20000 in
set_option maxHeartbeats 400000 in
theorem split58 (first n : Nat) (hf : first ≤ 1000) (h0 : 1 ≤ n) (h1 : n ≤ 1048576) (w : World) :
    Calls Tryz.prog 58 #[.int .i64 first, .int .i64 n] w fun e w' => e = .returned (.agg (sp first n)) ∧ Below w.heap.size w w' := by
  have SP := hide (fun w => VSpt.split12 n w h0 h1)
  have HN := hide (And.intro h0 h1)
  have hs := sv_lt n h0 h1
  clear h0 h1
  go_enter Tryz.func58, Tryz.ntmps58
  go_wp2_with fail
  refine (unhide SP _).mono ?_
  rintro e w1 ⟨s, x, hi, rfl, k, hw⟩
  obtain ⟨rfl, rfl⟩ := sv_one (unhide HN).1 (unhide HN).2 hi
  have BX := hide ((Box.made w 58 #[.bool false, .int .i64 0, .int .i64 0, .int .u32 0]).drewN k)
  have B1 := hide (bel_drN (bel_a1 w (.cells #[.bool false, .int .i64 0, .int .i64 0, .int .u32 0] 58)) k)
  rw [← hw] at BX B1
  clear hi hw
  have hadd : ((first : Int) + ((sv n : Nat) : Int)) = ((first + sv n : Nat) : Int) := by omega
  have hz : ((first + sv n : Nat) : Int) ≤ 2000 := by omega
  have HSP := hide (show sp first n = #[.bool true, .int .i64 (first + sv n : Nat), .int .i64 (exn (sv n) : Nat), .int .u32 (xv n : Nat)] from rfl)
  generalize exn (sv n) = ee at *
  generalize xv n = xx at *
  generalize hzz : first + sv n = z at *
  generalize sv n = ss at *
  have INF := hide (show (Tryz.prog.info? 58).map (·.size) = some (#[.bool true, .int .i64 z, .int .i64 ee, .int .u32 xx] : Array Value).size by rw [show (#[.bool true, .int .i64 z, .int .i64 ee, .int .u32 xx] : Array Value).size = 4 from rfl]; kernel_rfl)
  go_wp2_with (first | (refine wpList_store_row rfl 58 (.tmp 4) (.tmp 19) rfl w.heap.size #[.bool true, .int .i64 z, .int .i64 ee, .int .u32 xx] rfl rfl 58 _ (unhide BX) (unhide INF) rfl (by simp [Value.oneCell']) ?_) | fail)
  rw [unhide HSP]
  exact bodyPost_ret (results_cell_row rfl _ _ w.heap.size 58 #[.bool true, .int .i64 z, .int .i64 ee, .int .u32 xx] (0, 0) _ rfl (setRow_box (unhide BX) _) Tryz.underlying58 rfl (unhide INF)) rfl ⟨rfl, bel_row (unhide B1) (Nat.le_refl _) _⟩
theorem info_pc0 : (Tryz.prog.info? 59).map (·.size) = some pc0.size := by
  rw [show pc0.size = 20 from rfl]; kernel_rfl
theorem pc0_one : pc0.all (·.oneCell') = true := by simp [pc0, Value.oneCell']
set_option maxRecDepth 20000 in
set_option maxHeartbeats 1000000 in
theorem copied37_no (n m : Int) (h : n < 1 ∨ 4096 < n ∨ m = 0) (w : World) :
    Calls Tryz.prog 37 #[.int .i64 n, .int .i64 m] w fun e w' => e = .returned (.tuple #[.agg (prc fun _ => nop), .bool false]) ∧ Below w.heap.size w w' := by
  have hm : ¬ (n < 1 ∨ 4096 < n) → (m == 0) = true := fun h' => by rw [beq_iff_eq]; omega
  by_cases h1 : n < 1
  · clear h hm
    go_enter Tryz.func37, Tryz.ntmps37
    go_wp2_with (first | (refine wpList_store_row rfl 59 (.tmp 4) (.tmp 16) rfl w.heap.size pc0 rfl rfl 59 _ (Box.made w 59 pc0) info_pc0 rfl pc0_one ?_) | fail)
    exact bodyPost_ret (results_row_tmp rfl _ _ w.heap.size 59 pc0 (0, 0) _ rfl (setRow_box (Box.made w 59 pc0) _) Tryz.underlying59 rfl info_pc0) rfl ⟨rfl, bel_row (bel_a1 _ _) (Nat.le_refl _) _⟩
  · by_cases h2 : 4096 < n
    · clear h hm
      go_enter Tryz.func37, Tryz.ntmps37
      go_wp2_with (first | (refine wpList_store_row rfl 59 (.tmp 4) (.tmp 16) rfl w.heap.size pc0 rfl rfl 59 _ (Box.made w 59 pc0) info_pc0 rfl pc0_one ?_) | fail)
      exact bodyPost_ret (results_row_tmp rfl _ _ w.heap.size 59 pc0 (0, 0) _ rfl (setRow_box (Box.made w 59 pc0) _) Tryz.underlying59 rfl info_pc0) rfl ⟨rfl, bel_row (bel_a1 _ _) (Nat.le_refl _) _⟩
    · obtain rfl : m = 0 := by omega
      clear h hm
      go_enter Tryz.func37, Tryz.ntmps37
      go_wp2_with (first | (refine wpList_store_row rfl 59 (.tmp 4) (.tmp 16) rfl w.heap.size pc0 rfl rfl 59 _ (Box.made w 59 pc0) info_pc0 rfl pc0_one ?_) | fail)
      exact bodyPost_ret (results_row_tmp rfl _ _ w.heap.size 59 pc0 (0, 0) _ rfl (setRow_box (Box.made w 59 pc0) _) Tryz.underlying59 rfl info_pc0) rfl ⟨rfl, bel_row (bel_a1 _ _) (Nat.le_refl _) _⟩
/-- The parts of a Copy. -/
def cp2 (a b c d e f : Nat) : Array Value := #[.bool true, .int .i64 a, .int .i64 b, .int .u32 c, .bool false, .int .i64 0, .int .i64 0, .int .u32 0, .bool false, .int .i64 0, .int .i64 0, .int .u32 0, .bool false, .int .i64 0, .int .i64 0, .int .u32 0, .bool true, .int .i64 d, .int .i64 e, .int .u32 f]
theorem info_cp {a b c d e f : Nat} : (Tryz.prog.info? 59).map (·.size) = some (cp2 a b c d e f).size := by
  rw [show (cp2 a b c d e f).size = 20 from rfl]; kernel_rfl
theorem cp_one (a b c d e f : Nat) : (cp2 a b c d e f).all (·.oneCell') = true := by simp [cp2, Value.oneCell']
set_option maxRecDepth 20000 in
set_option maxHeartbeats 1000000 in
theorem copied37_yes (n m : Nat) (n0 : 1 ≤ n) (n1 : n ≤ 4096) (m0 : 1 ≤ m) (m1 : m ≤ 1048576) (w : World) :
    Calls Tryz.prog 37 #[.int .i64 n, .int .i64 m] w fun e w' => e = .returned (.tuple #[.agg (prc (pcp n m)), .bool true]) ∧ Below w.heap.size w w' := by
  have S1 := hide (fun w => split58 256 n (by omega) n0 (by omega) w)
  have S2 := hide (fun w => split58 0 m (by omega) m0 m1 w)
  have h1 : ¬ (n : Int) < 1 := by omega
  have h2 : ¬ (4096 : Int) < (n : Int) := by omega
  have h3 : ((m : Int) == 0) = false := by rw [beq_eq_false_iff_ne]; omega
  simp only [sp] at S1 S2
  rw [show prc (pcp n m) = cp2 (256 + sv n) (exn (sv n)) (xv n) (0 + sv m) (exn (sv m)) (xv m) from rfl]
  clear n0 n1 m0 m1
  generalize 256 + sv n = a at *
  generalize exn (sv n) = b at *
  generalize xv n = c at *
  generalize 0 + sv m = d at *
  generalize exn (sv m) = e at *
  generalize xv m = f at *
  have B0 := hide (bel_a1 w (.cells #[.bool false, .int .i64 0, .int .i64 0, .int .u32 0, .bool false, .int .i64 0, .int .i64 0, .int .u32 0, .bool false, .int .i64 0, .int .i64 0, .int .u32 0, .bool false, .int .i64 0, .int .i64 0, .int .u32 0, .bool false, .int .i64 0, .int .i64 0, .int .u32 0] 59))
  have X0 := hide (Box.made w 59 #[.bool false, .int .i64 0, .int .i64 0, .int .u32 0, .bool false, .int .i64 0, .int .i64 0, .int .u32 0, .bool false, .int .i64 0, .int .i64 0, .int .u32 0, .bool false, .int .i64 0, .int .i64 0, .int .u32 0, .bool false, .int .i64 0, .int .i64 0, .int .u32 0])
  go_enter Tryz.func37, Tryz.ntmps37
  go_wp2_with fail
  refine (unhide S1 _).mono ?_
  rintro e1 w1 ⟨rfl, b1⟩
  have B1 := hide (bel_into (unhide B0) b1)
  have X1 := hide ((unhide X0).below b1 (unhide X0).lt)
  clear b1 B0 X0
  go_wp2_with fail
  refine (unhide S2 _).mono ?_
  rintro e2 w2 ⟨rfl, b2⟩
  have B2 := hide (bel_into (unhide B1) b2)
  have X2 := hide ((unhide X1).below b2 (unhide X1).lt)
  clear b2 B1 X1
  go_wp2_with (first | (refine wpList_store_row rfl 59 (.tmp 4) (.tmp 21) rfl w.heap.size (cp2 a b c d e f) rfl rfl 59 _ (unhide X2) info_cp rfl (cp_one _ _ _ _ _ _) ?_) | fail)
  exact bodyPost_ret (results_row_tmp rfl _ _ w.heap.size 59 (cp2 a b c d e f) (0, 0) _ rfl (setRow_box (unhide X2) _) Tryz.underlying59 rfl info_cp) rfl ⟨rfl, bel_row (unhide B2) (Nat.le_refl _) _⟩
/-- The parts of a Known. -/
def kn1 (s : Nat) : Array Value := #[.bool true, .int .i64 s, .int .i64 0, .int .u32 0, .bool false, .int .i64 0, .int .i64 0, .int .u32 0, .bool false, .int .i64 0, .int .i64 0, .int .u32 0, .bool false, .int .i64 0, .int .i64 0, .int .u32 0, .bool false, .int .i64 0, .int .i64 0, .int .u32 0]
theorem info_kn {s : Nat} : (Tryz.prog.info? 59).map (·.size) = some (kn1 s).size := by
  rw [show (kn1 s).size = 20 from rfl]; kernel_rfl
theorem kn_one (s : Nat) : (kn1 s).all (·.oneCell') = true := by simp [kn1, Value.oneCell']
theorem isw34 (x : Int) (h0 : 1 ≤ x) (h1 : x ≤ 16384) (w : World) : Calls Tryz.prog 34 #[.int .i64 x] w fun e w' => e = .returned (.bool true) ∧ w' = w := isw20 x h0 h1 w
set_option maxRecDepth 20000 in
set_option maxHeartbeats 1000000 in
theorem parts17_kno (n d : Int) (j p : Nat) (a : Nat) (wd : Int) (h0 : 1 ≤ wd) (h1 : wd ≤ 16384) (hj : j < p) (hp : p ≤ 3000) (w : World) :
    Calls Tryz.prog 17 #[.agg (tkc ⟨3, n, d, j, a⟩), .int .i64 wd, .int .i64 p] w fun e w' => e = .returned (.tuple #[.agg (prc (pkn j)), .bool true]) ∧ Below w.heap.size w w' := by
  rw [show prc (pkn j) = kn1 (280 + j) from rfl]
  have e280 : (280 : Int) + (j : Int) = ((280 + j : Nat) : Int) := by omega
  have hb : ((280 + j : Nat) : Int) ≤ 5000 := by omega
  have hj1 : ¬ (p : Int) ≤ (j : Int) := by omega
  have hj3 : decide (p ≤ j) = false := decide_eq_false (by omega)
  have hj2 : ¬ (j : Int) < 0 := by omega
  have hs : decide ((j : Int) < 0) = false := decide_eq_false hj2
  have hjb : (j : Int) ≤ 3000 := by omega
  simp only [tkc]
  generalize 280 + j = s at *
  have IW := hide (fun w => isw34 wd h0 h1 w)
  go_enter Tryz.func17, Tryz.ntmps17
  have bt := (Box.made w 44 #[.int .i64 3, .int .i64 n, .int .i64 d, .int .i64 j, .int .u32 a]).alloc (.cells #[.bool false, .int .i64 0, .int .i64 0, .int .u32 0, .bool false, .int .i64 0, .int .i64 0, .int .u32 0, .bool false, .int .i64 0, .int .i64 0, .int .u32 0, .bool false, .int .i64 0, .int .i64 0, .int .u32 0, .bool false, .int .i64 0, .int .i64 0, .int .u32 0] 59)
  have br := Box.made (w.alloc (.cells #[.int .i64 3, .int .i64 n, .int .i64 d, .int .i64 j, .int .u32 a] 44)) 59 #[.bool false, .int .i64 0, .int .i64 0, .int .u32 0, .bool false, .int .i64 0, .int .i64 0, .int .u32 0, .bool false, .int .i64 0, .int .i64 0, .int .u32 0, .bool false, .int .i64 0, .int .i64 0, .int .u32 0, .bool false, .int .i64 0, .int .i64 0, .int .u32 0]
  rw [size_a] at br
  have b0 := (bel_a1 w (.cells #[.int .i64 3, .int .i64 n, .int .i64 d, .int .i64 j, .int .u32 a] 44)).alloc (by simp) (.cells #[.bool false, .int .i64 0, .int .i64 0, .int .u32 0, .bool false, .int .i64 0, .int .i64 0, .int .u32 0, .bool false, .int .i64 0, .int .i64 0, .int .u32 0, .bool false, .int .i64 0, .int .i64 0, .int .u32 0, .bool false, .int .i64 0, .int .i64 0, .int .u32 0] 59)
  go_wp2_with fail
  refine (unhide IW _).mono ?_
  rintro e w' ⟨rfl, rfl⟩
  generalize (w.alloc (.cells #[.int .i64 3, .int .i64 n, .int .i64 d, .int .i64 j, .int .u32 a] 44)).alloc (.cells #[.bool false, .int .i64 0, .int .i64 0, .int .u32 0, .bool false, .int .i64 0, .int .i64 0, .int .u32 0, .bool false, .int .i64 0, .int .i64 0, .int .u32 0, .bool false, .int .i64 0, .int .i64 0, .int .u32 0, .bool false, .int .i64 0, .int .i64 0, .int .u32 0] 59) = w1 at *
  have x0 : w1.cell? ⟨w.heap.size, 0, none⟩ = some (.int .i64 3) := bt.cell 0
  have x1 : w1.cell? ⟨w.heap.size, 1, none⟩ = some (.int .i64 n) := bt.cell 1
  have x2 : w1.cell? ⟨w.heap.size, 2, none⟩ = some (.int .i64 d) := bt.cell 2
  have x3 : w1.cell? ⟨w.heap.size, 3, none⟩ = some (.int .i64 j) := bt.cell 3
  have xl := bt.lt
  have rl := br.lt
  have BR := hide br
  have B0 := hide b0
  have BT := hide bt
  clear bt br b0
  go_wp2_with fail
  refine (single40 s _).mono ?_
  rintro e w2 ⟨rfl, b2⟩
  have BR := hide ((unhide BR).below b2 (unhide BR).lt)
  have B0 := hide (bel_into (unhide B0) b2)
  clear b2
  go_wp2_with (first | (refine wpList_store_row rfl 59 (.tmp 6) (.tmp 68) rfl (w.heap.size + 1) (kn1 s) rfl rfl 59 _ (unhide BR) info_kn rfl (kn_one _) ?_) | fail)
  exact bodyPost_ret (results_row_tmp rfl _ _ (w.heap.size + 1) 59 (kn1 s) (0, 0) _ rfl (setRow_box (unhide BR) _) Tryz.underlying59 rfl info_kn) rfl ⟨rfl, bel_row (unhide B0) (by omega) _⟩
set_option maxRecDepth 20000 in
set_option maxHeartbeats 1000000 in
theorem parts17_low (n d i : Int) (p : Nat) (a : Nat) (wd : Int) (h0 : 1 ≤ wd) (h1 : wd ≤ 16384) (hi : i < 0) (w : World) :
    Calls Tryz.prog 17 #[.agg (tkc ⟨3, n, d, i, a⟩), .int .i64 wd, .int .i64 p] w fun e w' => e = .returned (.tuple #[.agg (prc fun _ => nop), .bool false]) ∧ Below w.heap.size w w' := by
  simp only [tkc]
  have IW := hide (fun w => isw34 wd h0 h1 w)
  go_enter Tryz.func17, Tryz.ntmps17
  have bt := (Box.made w 44 #[.int .i64 3, .int .i64 n, .int .i64 d, .int .i64 i, .int .u32 a]).alloc (.cells #[.bool false, .int .i64 0, .int .i64 0, .int .u32 0, .bool false, .int .i64 0, .int .i64 0, .int .u32 0, .bool false, .int .i64 0, .int .i64 0, .int .u32 0, .bool false, .int .i64 0, .int .i64 0, .int .u32 0, .bool false, .int .i64 0, .int .i64 0, .int .u32 0] 59)
  have br := Box.made (w.alloc (.cells #[.int .i64 3, .int .i64 n, .int .i64 d, .int .i64 i, .int .u32 a] 44)) 59 #[.bool false, .int .i64 0, .int .i64 0, .int .u32 0, .bool false, .int .i64 0, .int .i64 0, .int .u32 0, .bool false, .int .i64 0, .int .i64 0, .int .u32 0, .bool false, .int .i64 0, .int .i64 0, .int .u32 0, .bool false, .int .i64 0, .int .i64 0, .int .u32 0]
  rw [size_a] at br
  have b0 := (bel_a1 w (.cells #[.int .i64 3, .int .i64 n, .int .i64 d, .int .i64 i, .int .u32 a] 44)).alloc (by simp) (.cells #[.bool false, .int .i64 0, .int .i64 0, .int .u32 0, .bool false, .int .i64 0, .int .i64 0, .int .u32 0, .bool false, .int .i64 0, .int .i64 0, .int .u32 0, .bool false, .int .i64 0, .int .i64 0, .int .u32 0, .bool false, .int .i64 0, .int .i64 0, .int .u32 0] 59)
  go_wp2_with fail
  refine (unhide IW _).mono ?_
  rintro e w' ⟨rfl, rfl⟩
  generalize (w.alloc (.cells #[.int .i64 3, .int .i64 n, .int .i64 d, .int .i64 i, .int .u32 a] 44)).alloc (.cells #[.bool false, .int .i64 0, .int .i64 0, .int .u32 0, .bool false, .int .i64 0, .int .i64 0, .int .u32 0, .bool false, .int .i64 0, .int .i64 0, .int .u32 0, .bool false, .int .i64 0, .int .i64 0, .int .u32 0, .bool false, .int .i64 0, .int .i64 0, .int .u32 0] 59) = w1 at *
  have x0 : w1.cell? ⟨w.heap.size, 0, none⟩ = some (.int .i64 3) := bt.cell 0
  have x1 : w1.cell? ⟨w.heap.size, 1, none⟩ = some (.int .i64 n) := bt.cell 1
  have x2 : w1.cell? ⟨w.heap.size, 2, none⟩ = some (.int .i64 d) := bt.cell 2
  have x3 : w1.cell? ⟨w.heap.size, 3, none⟩ = some (.int .i64 i) := bt.cell 3
  have xl := bt.lt
  have rl := br.lt
  have BR := hide br
  have B0 := hide b0
  have BT := hide bt
  clear bt br b0
  go_wp2_with (first | (refine wpList_store_row rfl 59 (.tmp 6) (.tmp 63) rfl (w.heap.size + 1) pc0 rfl rfl 59 _ (unhide BR) info_pc0 rfl pc0_one ?_) | fail)
  exact bodyPost_ret (results_row_tmp rfl _ _ (w.heap.size + 1) 59 pc0 (0, 0) _ rfl (setRow_box (unhide BR) _) Tryz.underlying59 rfl info_pc0) rfl ⟨rfl, bel_row (unhide B0) (by omega) _⟩
set_option maxRecDepth 20000 in
set_option maxHeartbeats 1000000 in
theorem parts17_high (n d i : Int) (p : Nat) (a : Nat) (wd : Int) (h0 : 1 ≤ wd) (h1 : wd ≤ 16384) (hi0 : ¬ i < 0) (hi : (p : Int) ≤ i) (w : World) :
    Calls Tryz.prog 17 #[.agg (tkc ⟨3, n, d, i, a⟩), .int .i64 wd, .int .i64 p] w fun e w' => e = .returned (.tuple #[.agg (prc fun _ => nop), .bool false]) ∧ Below w.heap.size w w' := by
  simp only [tkc]
  have IW := hide (fun w => isw34 wd h0 h1 w)
  go_enter Tryz.func17, Tryz.ntmps17
  have bt := (Box.made w 44 #[.int .i64 3, .int .i64 n, .int .i64 d, .int .i64 i, .int .u32 a]).alloc (.cells #[.bool false, .int .i64 0, .int .i64 0, .int .u32 0, .bool false, .int .i64 0, .int .i64 0, .int .u32 0, .bool false, .int .i64 0, .int .i64 0, .int .u32 0, .bool false, .int .i64 0, .int .i64 0, .int .u32 0, .bool false, .int .i64 0, .int .i64 0, .int .u32 0] 59)
  have br := Box.made (w.alloc (.cells #[.int .i64 3, .int .i64 n, .int .i64 d, .int .i64 i, .int .u32 a] 44)) 59 #[.bool false, .int .i64 0, .int .i64 0, .int .u32 0, .bool false, .int .i64 0, .int .i64 0, .int .u32 0, .bool false, .int .i64 0, .int .i64 0, .int .u32 0, .bool false, .int .i64 0, .int .i64 0, .int .u32 0, .bool false, .int .i64 0, .int .i64 0, .int .u32 0]
  rw [size_a] at br
  have b0 := (bel_a1 w (.cells #[.int .i64 3, .int .i64 n, .int .i64 d, .int .i64 i, .int .u32 a] 44)).alloc (by simp) (.cells #[.bool false, .int .i64 0, .int .i64 0, .int .u32 0, .bool false, .int .i64 0, .int .i64 0, .int .u32 0, .bool false, .int .i64 0, .int .i64 0, .int .u32 0, .bool false, .int .i64 0, .int .i64 0, .int .u32 0, .bool false, .int .i64 0, .int .i64 0, .int .u32 0] 59)
  go_wp2_with fail
  refine (unhide IW _).mono ?_
  rintro e w' ⟨rfl, rfl⟩
  generalize (w.alloc (.cells #[.int .i64 3, .int .i64 n, .int .i64 d, .int .i64 i, .int .u32 a] 44)).alloc (.cells #[.bool false, .int .i64 0, .int .i64 0, .int .u32 0, .bool false, .int .i64 0, .int .i64 0, .int .u32 0, .bool false, .int .i64 0, .int .i64 0, .int .u32 0, .bool false, .int .i64 0, .int .i64 0, .int .u32 0, .bool false, .int .i64 0, .int .i64 0, .int .u32 0] 59) = w1 at *
  have x0 : w1.cell? ⟨w.heap.size, 0, none⟩ = some (.int .i64 3) := bt.cell 0
  have x1 : w1.cell? ⟨w.heap.size, 1, none⟩ = some (.int .i64 n) := bt.cell 1
  have x2 : w1.cell? ⟨w.heap.size, 2, none⟩ = some (.int .i64 d) := bt.cell 2
  have x3 : w1.cell? ⟨w.heap.size, 3, none⟩ = some (.int .i64 i) := bt.cell 3
  have xl := bt.lt
  have rl := br.lt
  have BR := hide br
  have B0 := hide b0
  have BT := hide bt
  clear bt br b0
  go_wp2_with (first | (refine wpList_store_row rfl 59 (.tmp 6) (.tmp 63) rfl (w.heap.size + 1) pc0 rfl rfl 59 _ (unhide BR) info_pc0 rfl pc0_one ?_) | fail)
  exact bodyPost_ret (results_row_tmp rfl _ _ (w.heap.size + 1) 59 pc0 (0, 0) _ rfl (setRow_box (unhide BR) _) Tryz.underlying59 rfl info_pc0) rfl ⟨rfl, bel_row (unhide B0) (by omega) _⟩
set_option maxRecDepth 20000 in
set_option maxHeartbeats 1000000 in
theorem parts17_other (k n d i : Int) (p : Nat) (a : Nat) (wd : Int) (h0 : 1 ≤ wd) (h1 : wd ≤ 16384) (k1 : ¬ k = 1) (k2 : ¬ k = 2) (k3 : ¬ k = 3) (w : World) :
    Calls Tryz.prog 17 #[.agg (tkc ⟨k, n, d, i, a⟩), .int .i64 wd, .int .i64 p] w fun e w' => e = .returned (.tuple #[.agg (prc fun _ => nop), .bool false]) ∧ Below w.heap.size w w' := by
  have e1 : (k == 1) = false := by rw [beq_eq_false_iff_ne]; exact k1
  have e2 : (k == 2) = false := by rw [beq_eq_false_iff_ne]; exact k2
  have e3 : (k == 3) = false := by rw [beq_eq_false_iff_ne]; exact k3
  clear k1 k2 k3
  simp only [tkc]
  have IW := hide (fun w => isw34 wd h0 h1 w)
  go_enter Tryz.func17, Tryz.ntmps17
  have bt := (Box.made w 44 #[.int .i64 k, .int .i64 n, .int .i64 d, .int .i64 i, .int .u32 a]).alloc (.cells #[.bool false, .int .i64 0, .int .i64 0, .int .u32 0, .bool false, .int .i64 0, .int .i64 0, .int .u32 0, .bool false, .int .i64 0, .int .i64 0, .int .u32 0, .bool false, .int .i64 0, .int .i64 0, .int .u32 0, .bool false, .int .i64 0, .int .i64 0, .int .u32 0] 59)
  have br := Box.made (w.alloc (.cells #[.int .i64 k, .int .i64 n, .int .i64 d, .int .i64 i, .int .u32 a] 44)) 59 #[.bool false, .int .i64 0, .int .i64 0, .int .u32 0, .bool false, .int .i64 0, .int .i64 0, .int .u32 0, .bool false, .int .i64 0, .int .i64 0, .int .u32 0, .bool false, .int .i64 0, .int .i64 0, .int .u32 0, .bool false, .int .i64 0, .int .i64 0, .int .u32 0]
  rw [size_a] at br
  have b0 := (bel_a1 w (.cells #[.int .i64 k, .int .i64 n, .int .i64 d, .int .i64 i, .int .u32 a] 44)).alloc (by simp) (.cells #[.bool false, .int .i64 0, .int .i64 0, .int .u32 0, .bool false, .int .i64 0, .int .i64 0, .int .u32 0, .bool false, .int .i64 0, .int .i64 0, .int .u32 0, .bool false, .int .i64 0, .int .i64 0, .int .u32 0, .bool false, .int .i64 0, .int .i64 0, .int .u32 0] 59)
  go_wp2_with fail
  refine (unhide IW _).mono ?_
  rintro e w' ⟨rfl, rfl⟩
  generalize (w.alloc (.cells #[.int .i64 k, .int .i64 n, .int .i64 d, .int .i64 i, .int .u32 a] 44)).alloc (.cells #[.bool false, .int .i64 0, .int .i64 0, .int .u32 0, .bool false, .int .i64 0, .int .i64 0, .int .u32 0, .bool false, .int .i64 0, .int .i64 0, .int .u32 0, .bool false, .int .i64 0, .int .i64 0, .int .u32 0, .bool false, .int .i64 0, .int .i64 0, .int .u32 0] 59) = w1 at *
  have x0 : w1.cell? ⟨w.heap.size, 0, none⟩ = some (.int .i64 k) := bt.cell 0
  have x1 : w1.cell? ⟨w.heap.size, 1, none⟩ = some (.int .i64 n) := bt.cell 1
  have x2 : w1.cell? ⟨w.heap.size, 2, none⟩ = some (.int .i64 d) := bt.cell 2
  have x3 : w1.cell? ⟨w.heap.size, 3, none⟩ = some (.int .i64 i) := bt.cell 3
  have xl := bt.lt
  have rl := br.lt
  have BR := hide br
  have B0 := hide b0
  have BT := hide bt
  clear bt br b0
  go_wp2_with (first | (refine wpList_store_row rfl 59 (.tmp 6) (.tmp 69) rfl (w.heap.size + 1) pc0 rfl rfl 59 _ (unhide BR) info_pc0 rfl pc0_one ?_) | fail)
  exact bodyPost_ret (results_row_tmp rfl _ _ (w.heap.size + 1) 59 pc0 (0, 0) _ rfl (setRow_box (unhide BR) _) Tryz.underlying59 rfl info_pc0) rfl ⟨rfl, bel_row (unhide B0) (by omega) _⟩
set_option maxRecDepth 20000 in
set_option maxHeartbeats 1000000 in
theorem parts17_cpy (n d i : Int) (p : Nat) (a : Nat) (wd : Int) (h0 : 1 ≤ wd) (h1 : wd ≤ 16384) (q : Nat → Pa) (ok : Bool) (w : World) (tab : Tab w)
    (cp : ∀ w, Calls Tryz.prog 37 #[.int .i64 n, .int .i64 (NNum.K d wd)] w fun e w' => e = .returned (.tuple #[.agg (prc q), .bool ok]) ∧ Below w.heap.size w w') :
    Calls Tryz.prog 17 #[.agg (tkc ⟨2, n, d, i, a⟩), .int .i64 wd, .int .i64 p] w fun e w' => e = .returned (.tuple #[.agg (prc q), .bool ok]) ∧ Below w.heap.size w w' := by
  have CP := hide cp
  have TB := hide tab
  clear cp tab
  simp only [tkc]
  have IW := hide (fun w => isw34 wd h0 h1 w)
  go_enter Tryz.func17, Tryz.ntmps17
  have bt := (Box.made w 44 #[.int .i64 2, .int .i64 n, .int .i64 d, .int .i64 i, .int .u32 a]).alloc (.cells #[.bool false, .int .i64 0, .int .i64 0, .int .u32 0, .bool false, .int .i64 0, .int .i64 0, .int .u32 0, .bool false, .int .i64 0, .int .i64 0, .int .u32 0, .bool false, .int .i64 0, .int .i64 0, .int .u32 0, .bool false, .int .i64 0, .int .i64 0, .int .u32 0] 59)
  have br := Box.made (w.alloc (.cells #[.int .i64 2, .int .i64 n, .int .i64 d, .int .i64 i, .int .u32 a] 44)) 59 #[.bool false, .int .i64 0, .int .i64 0, .int .u32 0, .bool false, .int .i64 0, .int .i64 0, .int .u32 0, .bool false, .int .i64 0, .int .i64 0, .int .u32 0, .bool false, .int .i64 0, .int .i64 0, .int .u32 0, .bool false, .int .i64 0, .int .i64 0, .int .u32 0]
  rw [size_a] at br
  have b0 := (bel_a1 w (.cells #[.int .i64 2, .int .i64 n, .int .i64 d, .int .i64 i, .int .u32 a] 44)).alloc (by simp) (.cells #[.bool false, .int .i64 0, .int .i64 0, .int .u32 0, .bool false, .int .i64 0, .int .i64 0, .int .u32 0, .bool false, .int .i64 0, .int .i64 0, .int .u32 0, .bool false, .int .i64 0, .int .i64 0, .int .u32 0, .bool false, .int .i64 0, .int .i64 0, .int .u32 0] 59)
  go_wp2_with fail
  refine (unhide IW _).mono ?_
  rintro e w' ⟨rfl, rfl⟩
  generalize (w.alloc (.cells #[.int .i64 2, .int .i64 n, .int .i64 d, .int .i64 i, .int .u32 a] 44)).alloc (.cells #[.bool false, .int .i64 0, .int .i64 0, .int .u32 0, .bool false, .int .i64 0, .int .i64 0, .int .u32 0, .bool false, .int .i64 0, .int .i64 0, .int .u32 0, .bool false, .int .i64 0, .int .i64 0, .int .u32 0, .bool false, .int .i64 0, .int .i64 0, .int .u32 0] 59) = w1 at *
  have x0 : w1.cell? ⟨w.heap.size, 0, none⟩ = some (.int .i64 2) := bt.cell 0
  have x1 : w1.cell? ⟨w.heap.size, 1, none⟩ = some (.int .i64 n) := bt.cell 1
  have x2 : w1.cell? ⟨w.heap.size, 2, none⟩ = some (.int .i64 d) := bt.cell 2
  have x3 : w1.cell? ⟨w.heap.size, 3, none⟩ = some (.int .i64 i) := bt.cell 3
  have xl := bt.lt
  have rl := br.lt
  have BR := hide br
  have B0 := hide b0
  have BT := hide bt
  clear bt br b0
  have CO := hide (fun (w' : World) (b : Below w1.heap.size w1 w') => code12 d wd w' ((unhide TB).on (bel_into (unhide B0) b)))
  generalize NNum.K d wd = m at *
  go_wp2_with fail
  have hne1 : w.heap.size ≠ w.heap.size + 1 := by omega
  go_region_held3 (fun w' => w'.cell? ⟨w.heap.size, 1, none⟩ = some (.int .i64 n) ∧ w'.cell? ⟨w.heap.size, 2, none⟩ = some (.int .i64 d)) (first | exact ⟨kr z1 _ _ hne1, kr z2 _ _ hne1⟩ | exact ⟨z1, z2⟩ | exact ⟨y1, y2⟩ | go_keep) ((first | (go_at_call 38; with_reducible refine Calls.mono (unhide CO _ (by first | exact bel_d0 _ | exact Below.refl _ _)) ?_; rintro e w4 ⟨rfl, b4⟩; have Z4 := hide (bel_into (by first | exact bel_d0 w1 | exact Below.refl _ w1) b4); have y1 := thru (Below.refl _ _) (unhide Z4) x1; have y2 := thru (Below.refl _ _) (unhide Z4) x2; clear b4) | (go_at_call 37; with_reducible refine Calls.mono (unhide CP _) ?_; rintro e w5 ⟨rfl, b5⟩; have Z5 := hide (bel_into (unhide Z4) b5); have z1 := thru (Below.refl _ _) (unhide Z5) x1; have z2 := thru (Below.refl _ _) (unhide Z5) x2; have R5 := hide ((unhide BR).below (unhide Z5) (unhide BR).lt); have st1 := st20 (q := q) (unhide R5); clear b5)))
  all_goals go_wp2_with fail
  all_goals exact bodyPost_ret (results_row_tmp rfl _ _ (w.heap.size + 1) 59 (prc q) (0, 0) _ rfl (setRow_box (unhide R5) _) Tryz.underlying59 rfl info_prc) rfl ⟨rfl, bel_row (bel_into (unhide B0) (unhide Z5)) (by omega) _⟩
theorem isC_wd {wd : Int} {t : Tk} (h0 : 1 ≤ wd) (h1 : wd ≤ 16384) (h : isC t = true) : t.k = 2 ∧ 1 ≤ t.n ∧ t.n ≤ 4096 ∧ 1 ≤ t.d ∧ t.d ≤ 1048456 ∧ NNum.wd wd = true := by
  have := of_decide_eq_true h
  exact ⟨this.1, this.2.1, this.2.2.1, this.2.2.2.1, this.2.2.2.2, NNum.wd_in ⟨h0, h1⟩⟩
theorem parts17 (t : Tk) (c : Nat) (hc : c ≤ 11) (wd : Int) (h0 : 1 ≤ wd) (h1 : wd ≤ 16384) (w : World) (tab : Tab w) :
    Calls Tryz.prog 17 #[.agg (tkc t), .int .i64 wd, .int .i64 (pl c)] w fun e w' => e = .returned (.tuple #[.agg (prc (qP wd c t)), .bool (okP c t)]) ∧ Below w.heap.size w w' := by
  have hpl := pl_le c hc
  by_cases k1 : t.k = 1
  · have e1 : qP wd c t = plit t.a := if_pos k1
    have e2 : okP c t = true := by unfold okP; simp [k1]
    rw [e1, e2]
    rcases t with ⟨k, n, d, i, a⟩
    obtain rfl : k = 1 := k1
    exact parts24_lit n d i a wd _ h0 h1 w
  · by_cases k2 : t.k = 2
    · have hk : isK c t = false := by unfold isK; rw [decide_eq_false_iff_not]; omega
      by_cases hC : isC t = true
      · obtain ⟨_, n0, n1, d0, d1, hw⟩ := isC_wd h0 h1 hC
        have e1 : qP wd c t = pcp t.n.toNat (NNum.K t.d wd).toNat := by unfold qP; rw [if_neg k1, if_pos hC]
        have e2 : okP c t = true := by unfold okP; simp [hC]
        rw [e1, e2]
        obtain ⟨m, hm, m0, m1, _⟩ := K_in t.d wd ⟨d0, d1, hw⟩
        rcases t with ⟨k, n, d, i, a⟩
        obtain rfl : k = 2 := k2
        simp only at *
        rw [hm]
        obtain ⟨nn, rfl⟩ : ∃ nn : Nat, n = (nn : Int) := ⟨n.toNat, by omega⟩
        refine parts17_cpy _ d i _ a wd h0 h1 _ _ w tab (fun w => ?_)
        rw [hm]
        exact copied37_yes nn m (by omega) (by omega) m0 m1 w
      · have hC' : isC t = false := by simpa using hC
        have e1 : qP wd c t = fun _ => nop := by unfold qP; rw [if_neg k1, if_neg hC, if_neg (by rw [hk]; decide)]
        have e2 : okP c t = false := by unfold okP; simp [k1, hC', hk]
        rw [e1, e2]
        have hb : t.n < 1 ∨ 4096 < t.n ∨ NNum.K t.d wd = 0 := by
          have := of_decide_eq_false hC'
          by_cases hd : 1 ≤ t.d ∧ t.d ≤ 1048456
          · omega
          · exact .inr (.inr (NNum.K_out (fun h => hd ⟨h.1, h.2.1⟩)))
        rcases t with ⟨k, n, d, i, a⟩
        obtain rfl : k = 2 := k2
        exact parts17_cpy n d i _ a wd h0 h1 _ _ w tab (fun w => copied37_no n _ hb w)
    · have hC : isC t = false := by unfold isC; rw [decide_eq_false_iff_not]; omega
      by_cases k3 : t.k = 3
      · by_cases hK : isK c t = true
        · have e1 : qP wd c t = pkn t.i.toNat := by unfold qP; rw [if_neg k1, if_neg (by rw [hC]; decide), if_pos hK]
          have e2 : okP c t = true := by unfold okP; simp [hK]
          have := of_decide_eq_true hK
          rw [e1, e2]
          rcases t with ⟨k, n, d, i, a⟩
          obtain rfl : k = 3 := k3
          simp only at *
          obtain ⟨j, rfl⟩ : ∃ j : Nat, i = (j : Int) := ⟨i.toNat, by omega⟩
          exact parts17_kno n d j (pl c) a wd h0 h1 (by omega) (by omega) w
        · have hK' : isK c t = false := by simpa using hK
          have e1 : qP wd c t = fun _ => nop := by unfold qP; rw [if_neg k1, if_neg (by rw [hC]; decide), if_neg hK]
          have e2 : okP c t = false := by unfold okP; simp [k1, hC, hK']
          rw [e1, e2]
          have hge : t.i < 0 ∨ ((pl c : Nat) : Int) ≤ t.i := by
            have := of_decide_eq_false hK'
            omega
          rcases t with ⟨k, n, d, i, a⟩
          obtain rfl : k = 3 := k3
          simp only at hge
          by_cases hi : i < 0
          · exact parts17_low n d i _ a wd h0 h1 hi w
          · exact parts17_high n d i _ a wd h0 h1 hi (by omega) w
      · have hK : isK c t = false := by unfold isK; rw [decide_eq_false_iff_not]; omega
        have e1 : qP wd c t = fun _ => nop := by unfold qP; rw [if_neg k1, if_neg (by rw [hC]; decide), if_neg (by rw [hK]; decide)]
        have e2 : okP c t = false := by unfold okP; simp [k1, hC, hK]
        rw [e1, e2]
        rcases t with ⟨k, n, d, i, a⟩
        exact parts17_other k n d i _ a wd h0 h1 k1 k2 k3 w
end Go.Proofs.YtgjpcjnhggcfdaaGreatDoor.HCop

namespace Go.Proofs.YtgjpcjnhggcfdaaGreatDoor.HSay
set_option linter.unusedVariables false
open Go.Proofs.YtgjpcjnhggcfdaaGreatDoor.Core Go.Proofs.YtgjpcjnhggcfdaaGreatDoor.Math Go.Proofs.YtgjpcjnhggcfdaaGreatDoor.Dec Go.Proofs.YtgjpcjnhggcfdaaGreatDoor.Tre Go.Proofs.YtgjpcjnhggcfdaaGreatDoor.Foot Go.Proofs.YtgjpcjnhggcfdaaGreatDoor.Bak Go.Proofs.YtgjpcjnhggcfdaaGreatDoor.Eyes Go.Proofs.YtgjpcjnhggcfdaaGreatDoor.Lsp Go.Proofs.YtgjpcjnhggcfdaaGreatDoor.HNum Go.Proofs.YtgjpcjnhggcfdaaGreatDoor.HHas Go.Proofs.YtgjpcjnhggcfdaaGreatDoor.HTel

/-- How many bits the symbol of part k has. -/
def ql (c : Nat) (f : Nat → Nat → Int) (q : Nat → Pa) (k : Nat) : Nat := (qq (f k) (sz c k) (q k).sy).toNat
/-- From bit i on the parts are told. -/
def Says (c : Nat) (f : Nat → Nat → Int) (q : Nat → Pa) (V i : Nat) : Prop :=
  ∀ k, k < 5 → (q k).th = true → nb V (tN c f q i k) (ql c f q k) = uu (f k) (sz c k) (q k).sy ∧ nb V (tN c f q i k + ql c f q k) (q k).bi = (q k).ex
theorem tN_up (c : Nat) (f : Nat → Nat → Int) (q : Nat → Pa) (i : Nat) {k j : Nat} (h : k ≤ j) : tN c f q i k ≤ tN c f q i j := by
  induction j with
  | zero => obtain rfl : k = 0 := by omega
            exact Nat.le_refl _
  | succ j ih =>
    rcases Nat.lt_or_ge k (j + 1) with e | e
    · exact Nat.le_trans (ih (by omega)) (by show _ ≤ tN c f q i j + ln c f q j; omega)
    · obtain rfl : k = j + 1 := by omega
      exact Nat.le_refl _
theorem tN_next (c : Nat) (f : Nat → Nat → Int) (q : Nat → Pa) (i k : Nat) (h : (q k).th = true) : tN c f q i (k + 1) = tN c f q i k + ql c f q k + (q k).bi := by
  show tN c f q i k + ln c f q k = _
  unfold ln ql
  rw [if_pos h]; omega
theorem tN_skip (c : Nat) (f : Nat → Nat → Int) (q : Nat → Pa) (i k : Nat) (h : (q k).th = false) : tN c f q i (k + 1) = tN c f q i k := by
  show tN c f q i k + ln c f q k = _
  unfold ln
  rw [if_neg (by rw [h]; decide)]; omega
theorem Says.same {c : Nat} {f : Nat → Nat → Int} {q : Nat → Pa} {V V' i M : Nat} (h : Says c f q V i) (e : V % 2 ^ M = V' % 2 ^ M) (hM : tN c f q i 5 ≤ M) : Says c f q V' i := fun k hk ht => by
  obtain ⟨a, b⟩ := h k hk ht
  have h1 := tN_next c f q i k ht
  have h2 := tN_up c f q i (show k + 1 ≤ 5 by omega)
  exact ⟨by rw [← a]; exact (nb_same e (by omega)).symm, by rw [← b]; exact (nb_same e (by omega)).symm⟩
theorem bv_lt (c : Nat) (f : Nat → Nat → Int) (q : Nat → Pa) (k : Nat) (hx : (q k).ex < 2 ^ (q k).bi) : bv c f q k < 2 ^ ln c f q k := by
  unfold bv ln
  by_cases h : (q k).th = true
  · rw [if_pos h, if_pos h]
    exact sum_lt _ _ _ _ (uu_lt _ _ _) hx
  · rw [if_neg h, if_neg h]; exact Nat.one_pos
theorem tV_lt (c : Nat) (f : Nat → Nat → Int) (q : Nat → Pa) (V N : Nat) (hV : V < 2 ^ N) : ∀ k, (∀ j, j < k → (q j).ex < 2 ^ (q j).bi) → tV c f q V N k < 2 ^ tN c f q N k
  | 0, _ => hV
  | k + 1, h => sum_lt _ _ _ _ (tV_lt c f q V N hV k (fun j hj => h j (by omega))) (bv_lt c f q k (h k (by omega)))
theorem tV_mod (c : Nat) (f : Nat → Nat → Int) (q : Nat → Pa) (V N : Nat) (k : Nat) (hk : tV c f q V N k < 2 ^ tN c f q N k) : ∀ j, k ≤ j → tV c f q V N j % 2 ^ tN c f q N k = tV c f q V N k := by
  intro j hj
  induction j with
  | zero => obtain rfl : k = 0 := by omega
            exact Nat.mod_eq_of_lt hk
  | succ j ih =>
    rcases Nat.lt_or_ge k (j + 1) with e | e
    · have ih' := ih (by omega)
      show (tV c f q V N j + bv c f q j * 2 ^ tN c f q N j) % _ = _
      obtain ⟨d, hd⟩ : ∃ d, tN c f q N j = tN c f q N k + d := ⟨tN c f q N j - tN c f q N k, by have := tN_up c f q N (show k ≤ j by omega); omega⟩
      rw [hd, Nat.pow_add, ← Nat.mul_assoc, Nat.mul_right_comm, Nat.add_mul_mod_self_right]
      exact ih'
    · obtain rfl : k = j + 1 := by omega
      exact Nat.mod_eq_of_lt hk
theorem says_new {c : Nat} {f : Nat → Nat → Int} {q : Nat → Pa} {V N : Nat} (hV : V < 2 ^ N) (hx : ∀ j, j < 5 → (q j).ex < 2 ^ (q j).bi) :
    Says c f q (tV c f q V N 5) N ∧ tV c f q V N 5 < 2 ^ tN c f q N 5 ∧ tV c f q V N 5 % 2 ^ N = V := by
  refine ⟨fun k hk ht => ?_, tV_lt c f q V N hV 5 hx, tV_mod c f q V N 0 hV 5 (by omega)⟩
  have l0 := tV_lt c f q V N hV k (fun j hj => hx j (by omega))
  have l1 := tV_lt c f q V N hV (k + 1) (fun j hj => hx j (by omega))
  have e := tV_mod c f q V N (k + 1) l1 5 (by omega)
  have e' : tV c f q V N 5 % 2 ^ tN c f q N (k + 1) = tV c f q V N (k + 1) % 2 ^ tN c f q N (k + 1) := by rw [e, Nat.mod_eq_of_lt l1]
  have hn := tN_next c f q N k ht
  rw [nb_same e' (by omega), nb_same e' (by omega)]
  have hb : bv c f q k = uu (f k) (sz c k) (q k).sy + (q k).ex * 2 ^ ql c f q k := by unfold bv ql; rw [if_pos ht]
  have hv : tV c f q V N (k + 1) = tV c f q V N k + uu (f k) (sz c k) (q k).sy * 2 ^ tN c f q N k + (q k).ex * 2 ^ (tN c f q N k + ql c f q k) := by
    show tV c f q V N k + bv c f q k * 2 ^ tN c f q N k = _
    rw [hb, Nat.add_mul, Nat.mul_assoc, ← Nat.pow_add, Nat.add_comm (ql c f q k), ← Nat.add_assoc]
  have hu : uu (f k) (sz c k) (q k).sy < 2 ^ ql c f q k := uu_lt _ _ _
  have l2 : tV c f q V N k + uu (f k) (sz c k) (q k).sy * 2 ^ tN c f q N k < 2 ^ (tN c f q N k + ql c f q k) := sum_lt _ _ _ _ l0 hu
  rw [hv]
  constructor
  · rw [nb_same (nb_old _ _ _) (Nat.le_refl _)]
    exact nb_new _ _ _ _ l0 hu
  · exact nb_new _ _ _ _ l2 (hx k hk)
/-- The symbol comes next. -/
theorem says_nx {c : Nat} {f : Nat → Nat → Int} {q : Nat → Pa} {V i N : Nat} (h : Says c f q V i) (hV : V < 2 ^ N) (hN : tN c f q i 5 ≤ N) {k : Nat} (hk : k < 5) (ht : (q k).th = true) (hch : chk (f k) (sz c k) = 0) (hh : hasB (f k) (sz c k) (q k).sy = true) :
    Nx (f k) (sz c k) (fun j => bt (byt V) (tN c f q i k + j)) (ql c f q k) (q k).sy := by
  have hm : (q k).sy < sz c k ∧ f k (q k).sy ≠ 0 := by
    unfold hasB at hh
    have := of_decide_eq_true hh
    exact ⟨by omega, this.2.2⟩
  have h1 := tN_next c f q i k ht
  have h2 := tN_up c f q i (show k + 1 ≤ 5 by omega)
  exact told_nx (o := fun _ => tN c f q i k) (t := 0) hch hV hm.1 hm.2 (by show tN c f q i k + ql c f q k ≤ N; omega) (h k hk ht).1
end Go.Proofs.YtgjpcjnhggcfdaaGreatDoor.HSay

namespace Go.Proofs.YtgjpcjnhggcfdaaGreatDoor.HLns
set_option linter.unusedVariables false
open Go.ChangeShapes Go.WideShapes Go.ChangeAt Go.RowKit Go.Proofs.YtgjpcjnhggcfdaaGreatDoor.Core Go.Proofs.YtgjpcjnhggcfdaaGreatDoor.Gnd Go.Proofs.YtgjpcjnhggcfdaaGreatDoor.Math Go.Proofs.YtgjpcjnhggcfdaaGreatDoor.Dec Go.Proofs.YtgjpcjnhggcfdaaGreatDoor.Ord Go.Proofs.YtgjpcjnhggcfdaaGreatDoor.Lsp Go.Proofs.YtgjpcjnhggcfdaaGreatDoor.Lrh Go.Proofs.YtgjpcjnhggcfdaaGreatDoor.Foot Go.Proofs.YtgjpcjnhggcfdaaGreatDoor.Add Go.Proofs.YtgjpcjnhggcfdaaGreatDoor.Byt Go.Proofs.YtgjpcjnhggcfdaaGreatDoor.Bitin Go.Proofs.YtgjpcjnhggcfdaaGreatDoor.Eyes Go.Proofs.YtgjpcjnhggcfdaaGreatDoor.Bak Go.Proofs.YtgjpcjnhggcfdaaGreatDoor.Wsl Go.Proofs.YtgjpcjnhggcfdaaGreatDoor.Wsm

theorem hand_same {V V' M i n s t q : Nat} {two : Bool} (h : Hand V i n s t q two) (e : V % 2 ^ M = V' % 2 ^ M) (hq : q ≤ M) : Hand V' i n s t q two := by
  obtain ⟨n1, n2, n3, n4, n5, n6⟩ := h
  have hw : nb V (i + 2) 1 < 2 := nb_lt V (i + 2) 1
  have hq2 : i + 4 + 7 * nb V (i + 2) 1 ≤ M := by rw [n6] at hq; omega
  have ew : nb V' (i + 2) 1 = nb V (i + 2) 1 := (nb_same e (by omega)).symm
  refine ⟨?_, ?_, ?_, fun ht => ?_, n5, by rw [ew]; exact n6⟩
  · rw [← nb_same e (by omega)]; exact n1
  · rw [← nb_same e (by omega)]; exact n2
  · rw [ew, ← nb_same e (by omega)]; exact n3
  · obtain ⟨a, b⟩ := n4 ht
    rw [ht] at n6
    simp only [if_true] at n6
    exact ⟨by rw [ew, ← nb_same e (by omega)]; exact a, b⟩
theorem norm_same {V V' M i n K most p q : Nat} {l : List (Nat × Nat)} (h : Norm V i n K most p l q) (e : V % 2 ^ M = V' % 2 ^ M) (hq : q ≤ M) : Norm V' i n K most p l q := by
  obtain ⟨n1, n2, n3, n4, n5, n6, n7, n8, n9, n10⟩ := h
  have hpq := n7.le
  have ecl : (fun s => (cl V (i + 5) K s : Int)) = (fun s => (cl V' (i + 5) K s : Int)) := by
    have : i + 5 + 3 * K ≤ M := by rcases n5 with ⟨_, _, h⟩ | ⟨_, _, h⟩ <;> omega
    exact funext (fun s => by rw [cl_same e this s])
  refine ⟨?_, ?_, n3, by rw [← ecl]; exact n4, ?_, n6, by rw [← ecl]; exact n7.same e hq, n8, n9, n10⟩
  · rw [← nb_same e (by rcases n5 with ⟨_, _, h⟩ | ⟨_, _, h⟩ <;> omega)]; exact n1
  · rw [← nb_same e (by rcases n5 with ⟨_, _, h⟩ | ⟨_, _, h⟩ <;> omega)]; exact n2
  · rcases n5 with ⟨a, b, c⟩ | ⟨a, b, c⟩
    · exact .inl ⟨by rw [← nb_same e (by omega)]; exact a, b, c⟩
    · have e1 : nb V' (i + 5 + 3 * K + 1) 3 = nb V (i + 5 + 3 * K + 1) 3 := (nb_same e (by omega)).symm
      refine .inr ⟨by rw [← nb_same e (by omega)]; exact a, ?_, by rw [e1]; exact c⟩
      rw [e1, ← nb_same e (by omega)]
      exact b
/-- Lengths are told from bit i on. -/
def TldAt (V i n : Nat) (f : Nat → Nat) (q : Nat) : Prop :=
  (∃ s t two, Hand V i n s t q two ∧ ∀ j, j < n → f j = by_hand s t two j) ∨ (∃ K most p l, Norm V i n K most p l q ∧ ∀ j, j < n → got (told l 8) j = f j)
theorem TldAt.same {V V' M i n q : Nat} {f : Nat → Nat} (h : TldAt V i n f q) (e : V % 2 ^ M = V' % 2 ^ M) (hq : q ≤ M) : TldAt V' i n f q := by
  rcases h with ⟨s, t, two, h1, h2⟩ | ⟨K, m, p, l, h1, h2⟩
  · exact .inl ⟨s, t, two, hand_same h1 e hq, h2⟩
  · exact .inr ⟨K, m, p, l, norm_same h1 e hq, h2⟩
theorem nb_up (V U N : Nat) (hV : V < 2 ^ N) (k m : Nat) : nb (V + U * 2 ^ N) (N + k) m = nb U k m := by
  unfold nb
  rw [Nat.pow_add, ← Nat.div_div_eq_div_mul, Nat.add_mul_div_right _ _ (Nat.pow_pos (by omega)), Nat.div_eq_of_lt hV, Nat.zero_add]
theorem cl_up (V U N : Nat) (hV : V < 2 ^ N) (K s : Nat) : cl (V + U * 2 ^ N) (N + 0 + 5) K s = cl U (0 + 5) K s := by
  unfold cl
  split
  · rw [show N + 0 + 5 + 3 * idx s = N + (0 + 5 + 3 * idx s) by omega, nb_up V U N hV]
  · rfl
theorem tells_up (c : Nat → Int) (V U N : Nat) (hV : V < 2 ^ N) : ∀ {l : List (Nat × Nat)} {i q : Nat}, Tells c U i l q → Tells c (V + U * 2 ^ N) (N + i) l (N + q)
  | [], i, q, h => by
    obtain rfl : q = i := h
    exact .nil _
  | (s, x) :: r, i, q, h => by
    obtain ⟨L, nx, hx, st⟩ := h
    refine .cons (L := L) (nx_congr nx (fun j _ => by rw [Nat.add_assoc, nb_up V U N hV])) (by rw [hx, Nat.add_assoc, nb_up V U N hV]) ?_
    have := tells_up c V U N hV st
    rwa [show N + (i + L + wid s) = N + i + L + wid s by omega] at this
theorem tld_up {V U N n q : Nat} {f : Nat → Nat} (hV : V < 2 ^ N) (h : Tld U n f q) : TldAt (V + U * 2 ^ N) N n f (N + q) := by
  have up := nb_up V U N hV
  have u : ∀ a k m, a = N + k → nb (V + U * 2 ^ N) a m = nb U k m := fun a k m e => by rw [e, up]
  rcases h with ⟨s, t, two, h1, h2⟩ | ⟨K, m, p, l, h1, h2⟩
  · obtain ⟨a1, a2, a3, a4, a5, a6⟩ := h1
    have e2 : nb (V + U * 2 ^ N) (N + 2) 1 = nb U (0 + 2) 1 := u _ _ _ (by omega)
    refine .inl ⟨s, t, two, ⟨by rw [u N 0 1 (by omega)]; exact a1, by rw [u (N + 1) (0 + 1) 1 (by omega)]; exact a2, ?_, fun ht => ?_, a5, by rw [e2, a6]; omega⟩, h2⟩
    · rw [e2, u (N + 3) (0 + 3) _ (by omega)]; exact a3
    · obtain ⟨b1, b2⟩ := a4 ht
      exact ⟨by rw [e2, u (N + 4 + 7 * nb U (0 + 2) 1) (0 + 4 + 7 * nb U (0 + 2) 1) 8 (by omega)]; exact b1, b2⟩
  · obtain ⟨a1, a2, a3, a4, a5, a6, a7, a8, a9, a10⟩ := h1
    have ecl : (fun s => (cl (V + U * 2 ^ N) (N + 5) K s : Int)) = fun s => (cl U (0 + 5) K s : Int) := funext fun s => by rw [← cl_up V U N hV K s]
    refine .inr ⟨K, m, N + p, l, ⟨by rw [u N 0 1 (by omega)]; exact a1, by rw [u (N + 1) (0 + 1) 4 (by omega)]; exact a2, a3, by rw [ecl]; exact a4, ?_, a6, by rw [ecl]; exact tells_up _ V U N hV a7, a8, a9, a10⟩, h2⟩
    have e1 : nb (V + U * 2 ^ N) (N + 5 + 3 * K) 1 = nb U (0 + 5 + 3 * K) 1 := u _ _ _ (by omega)
    have e3 : nb (V + U * 2 ^ N) (N + 5 + 3 * K + 1) 3 = nb U (0 + 5 + 3 * K + 1) 3 := u _ _ _ (by omega)
    have e4 : ∀ m, nb (V + U * 2 ^ N) (N + 5 + 3 * K + 4) m = nb U (0 + 5 + 3 * K + 4) m := fun m => u _ _ _ (by omega)
    rw [e1, e3, e4]
    rcases a5 with ⟨x, y, z⟩ | ⟨x, y, z⟩
    · exact .inl ⟨x, y, by omega⟩
    · exact .inr ⟨x, y, by omega⟩
/-- What the document's own reading answers. -/
structure Gotr (w : World) (lo hi e bl : Nat) (bc : Nat → Nat) (q n : Nat) (f : Nat → Nat) (r : Ending) (w' : World) : Prop where
  ex : ∃ g, r = .returned (.tuple #[.slice (some ⟨g, 0, none⟩) n n, .int .i64 0]) ∧ w.heap.size ≤ g ∧ Box w' g 3 (nr f n).toArray ∧ Eyes w' lo hi e bc bl (some q) ∧ Upd (fun k => k = e) w w'
theorem ref_at (lo hi e bl i n q V : Nat) (f : Nat → Nat) (bc : Nat → Nat) (hc : ∀ k, bc k ≤ 255) (hbl : bl ≤ 100000) (w : World) (he : Eyes w lo hi e bc bl (some i)) (hlo : lo ≤ e ∧ e < hi ∧ hi ≤ w.heap.size) (hn1 : 1 ≤ n) (hn : n ≤ 4096)
    (hV : num bc 0 bl = V) (hq : q ≤ 8 * bl) (tl : TldAt V i n f q) (hch : chk (fun j => (f j : Int)) n = 0) :
    Calls Tryz.prog 28 #[.pointer (some ⟨e, 0, none⟩), .int .i64 n] w fun r w' => Gotr w lo hi e bl bc q n f r w' := by
  subst hV
  rcases tl with ⟨s, t, two, h1, h2⟩ | ⟨K, m, p, l, h1, h2⟩
  · refine (lens_hand lo hi e bl i n s t q two bc hc hbl w he hlo (by omega) h1 hq).mono (fun r w' g => ?_)
    obtain ⟨b, a1, a2, a3, a4, a5⟩ := g
    exact ⟨b, a1, a2, by rw [na_congr h2]; exact a3, a4, a5⟩
  · refine (Lrf.lens_norm lo hi e bl i n K m p q l bc hc hbl w he hlo hn1 (by omega) h1 hq _ rfl (by rw [Wsh.chk_congr (d := fun j => (f j : Int)) (fun k hk => by show (got (Lsp.told l 8) k : Int) = (f k : Int); rw [h2 k hk])]; exact hch)).mono (fun r w' g => ?_)
    obtain ⟨b, a1, a2, a3, a4, a5⟩ := g
    exact ⟨b, a1, a2, by rw [← na_congr h2]; exact a3, a4, a5⟩
/-- The bytes of a writer are its bits. -/
theorem num_bits (V N : Nat) (h : V < 2 ^ N) : num (byt V) 0 ((N + 7) / 8) = V := by
  rw [num_byt, Nat.pow_zero, Nat.div_one]
  refine Nat.mod_eq_of_lt (Nat.lt_of_lt_of_le h ?_)
  rw [show 256 = 2 ^ 8 from rfl, ← Nat.pow_mul]
  exact Nat.pow_le_pow_right (by omega) (by omega)
end Go.Proofs.YtgjpcjnhggcfdaaGreatDoor.HLns
