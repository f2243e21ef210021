/- Contract: near.Code. Conditions: the package's list holds what the program's text lays. -/
import Derived.Test.YtpblcaihikdpmaaDoorItr
import Derived.RangeFuncWrites
import Derived.RangeFuncBox
namespace Go.Proofs.YtpblcaihikdpmaaDoor.Cde
open Go.ChangeShapes Go.WideShapes Go.ChangeAt Go.RowKit Go.Shelf Go.Proofs.YtpblcaihikdpmaaDoor.Core Go.Proofs.YtpblcaihikdpmaaDoor.Num Go.Proofs.YtpblcaihikdpmaaDoor.Pts Go.Proofs.YtpblcaihikdpmaaDoor.Itr
attribute [local go_sem] Oper.semAt_some

theorem results12 (tmps : Array Value) (w : World) (g : Nat) (v : Value) (hp : tmps.getD 4 undef = .pointer (some ⟨g, 0, none⟩)) (hc : w.cell? ⟨g, 0, none⟩ = some v) : (results Tryd.f12 tmps).run Tryd.prog w = .ok v w := by
  have hp' : tmps[4]?.getD undef = .pointer (some ⟨g, 0, none⟩) := by simpa using hp
  simp [results, Tryd.f12, go_sem, hp', hc]

theorem below3 (w : World) (a b c : Obj) : Below w.heap.size w (((w.alloc a).alloc b).alloc c) :=
  (((Below.refl _ w).alloc (Nat.le_refl _) _).alloc (by simp) _).alloc (by simp; omega) _
theorem box3 (w : World) (a b : Obj) (t : TypeId) (vs : Array Value) : Box (((w.alloc a).alloc b).alloc (.cells vs t)) (w.heap.size + 1 + 1) t vs := by
  have := Box.made ((w.alloc a).alloc b) t vs
  rw [World.size_alloc, World.size_alloc] at this
  exact this
theorem box2 (w : World) (a b : Obj) (t : TypeId) (vs : Array Value) : Box (((w.alloc a).alloc (.cells vs t)).alloc b) (w.heap.size + 1) t vs := by
  have := Box.made (w.alloc a) t vs
  rw [World.size_alloc] at this
  exact this.alloc _
theorem box1 (w : World) (a b : Obj) (t : TypeId) (vs : Array Value) : Box (((w.alloc (.cells vs t)).alloc a).alloc b) w.heap.size t vs := ((Box.made w t vs).alloc _).alloc _

set_option maxHeartbeats 400000 in
theorem code12_out (d v : Int) (w : World) (h : ¬ (1 ≤ d ∧ d ≤ 1048456 ∧ wd v = true)) :
    Calls Tryd.prog 12 #[.int .i64 d, .int .i64 v] w fun e w' => e = .returned (.int .i64 0) ∧ Below w.heap.size w w' := by
  by_cases h1 : d < 1
  · clear h
    go_enter Tryd.func12, Tryd.ntmps12
    go_wp2
    refine bodyPost_ret (results12 _ _ (w.heap.size + 1 + 1) _ rfl (Box.cell (g := w.heap.size + 1 + 1) (T := 3) (vs := #[.int .i64 0]) (box3 w _ _ _ _) 0)) rfl ⟨rfl, below3 w _ _ _⟩
  · by_cases h2 : 1048456 < d
    · clear h
      go_enter Tryd.func12, Tryd.ntmps12
      go_wp2
      refine bodyPost_ret (results12 _ _ (w.heap.size + 1 + 1) _ rfl (Box.cell (g := w.heap.size + 1 + 1) (T := 3) (vs := #[.int .i64 0]) (box3 w _ _ _ _) 0)) rfl ⟨rfl, below3 w _ _ _⟩
    · have h3 : wd v = false := by
        cases hv : wd v
        · rfl
        · exact absurd ⟨by omega, by omega, hv⟩ h
      clear h
      go_enter Tryd.func12, Tryd.ntmps12
      go_wp2_with (go_at_call 16; refine (isw16 v _).mono ?_; rintro e w' ⟨rfl, rfl⟩)
      refine bodyPost_ret (results12 _ _ (w.heap.size + 1 + 1) _ rfl (Box.cell (g := w.heap.size + 1 + 1) (T := 3) (vs := #[.int .i64 0]) (box3 w _ _ _ _) 0)) rfl ⟨rfl, below3 w _ _ _⟩
theorem keeps_below {W W' : World} (h : Below W.drew.heap.size W.drew W') : KeepsOthers W W' :=
  ⟨h.size, fun k _ hk _ => (h.block k (Array.getElem?_eq_some_iff.1 hk).1).trans hk⟩
theorem boxed_below {W W' : World} {g : Nat} {t : TypeId} {u : Value} (x : Boxed W g t u) (h : Below W.drew.heap.size W.drew W') : Boxed W' g t u := (h.block g x.lt).trans x
/-- What the body keeps between two rounds. -/
abbrev Inn (w : World) (d v : Int) : List Nat → World → Prop := fun pre W => ((Boxed W w.heap.size 3 (.int .i64 d) ∧ Boxed W (w.heap.size + 1) 3 (.int .i64 v)) ∧ Boxed W (w.heap.size + 1 + 1) 3 (.int .i64 0)) ∧ Below w.heap.size w W ∧ ∀ m ∈ pre, dd m v ≠ d
/-- How a round is left for good. -/
abbrev Out (w : World) (d v : Int) : Code → List Nat → World → Prop := fun c pre W => c = .ret ∧ (∃ x : Nat, Boxed W (w.heap.size + 1 + 1) 3 (.int .i64 ((x : Int) + 1)) ∧ ∃ pre', pre = pre' ++ [x] ∧ (∀ m ∈ pre', dd m v ≠ d) ∧ dd x v = d) ∧ Below w.heap.size w W
theorem fin_ret {w W w3 : World} {d v : Int} {B x : Nat} {pre : List Nat} {a : Act} (x3 : Boxed W (w.heap.size + 1 + 1) 3 (.int .i64 0)) (hB : Below w.heap.size w W) (h3 : Below W.drew.heap.size W.drew w3) (hn : ∀ m ∈ pre, dd m v ≠ d) (hq : dd x v = d) :
    ownPostG B Bz (Inn w d v) (Out w d v) (pre ++ [x]) W .ret a (w3.setCell ⟨w.heap.size + 1 + 1, 0, none⟩ (.int .i64 ((x : Int) + 1))) := by
  refine ⟨((keeps_below h3).trans (KeepsOthers.setCell _ _ _)).from _, rfl, ⟨x, (boxed_below x3 h3).set _, pre, rfl, hn, hq⟩, ?_⟩
  exact (hB.trans (Below.mono (Below.trans (Below.drew (Below.refl _ W)) h3) hB.size)).setCell (p := ⟨w.heap.size + 1 + 1, 0, none⟩) (by simp; omega) _
theorem fin_on {w W w3 : World} {d v : Int} {B x : Nat} {pre : List Nat} {a : Act} (h0 : 0 < w.heap.size) (x1 : Boxed W w.heap.size 3 (.int .i64 d)) (x2 : Boxed W (w.heap.size + 1) 3 (.int .i64 v)) (x3 : Boxed W (w.heap.size + 1 + 1) 3 (.int .i64 0)) (hB : Below w.heap.size w W) (h3 : Below W.drew.heap.size W.drew w3) (hn : ∀ m ∈ pre, dd m v ≠ d) (hq : ¬ dd x v = d) :
    ownPostG B Bz (Inn w d v) (Out w d v) (pre ++ [x]) W .normal a w3 := by
  refine ⟨(keeps_below h3).from _, h3.block 0 (Nat.lt_of_lt_of_le h0 hB.size), ⟨⟨⟨boxed_below x1 h3, boxed_below x2 h3⟩, boxed_below x3 h3⟩, hB.trans (Below.mono (Below.trans (Below.drew (Below.refl _ W)) h3) hB.size), fun m hm => ?_⟩⟩
  rcases List.mem_append.1 hm with h | h
  · exact hn m h
  · simp at h
    rw [h]
    exact hq

set_option maxRecDepth 100000 in
set_option maxHeartbeats 2000000 in
theorem code12_in (n : Nat) (d v : Int) (w : World) (hn : 3 ≤ n) (t : Tab w) (h1 : ¬ d < 1) (h2 : ¬ 1048456 < d) (h3 : wd v = true) :
    CallsIn Fence.wide n Tryd.prog 12 #[.int .i64 d, .int .i64 v] w fun e w' => e = .returned (.int .i64 (K d v)) ∧ Below w.heap.size w w' := by
  have hn1 : 1 ≤ n := by omega
  have hin : 1 ≤ d ∧ d ≤ 1048456 ∧ wd v = true := ⟨by omega, by omega, h3⟩
  have HI := hide hin
  have TT := hide t
  clear hin t
  refine callsIn_of_wp_marks Tryd.func12 rfl trivial ?_ rfl
  simp only [Tryd.ntmps12, List.size_toArray, List.length_cons, List.length_nil, Nat.reduceAdd, Nat.reduceSub, Array.replicate_succ, Array.replicate_zero, List.push_toArray, List.append_toArray, List.nil_append, List.cons_append]
  have ht16 : Fence.wide.fn 16 := trivial
  have ht18 : Fence.wide.fn 18 := trivial
  gi_wp2_with (first | (gi_at_call 16; refine (callsIn_wide.2 (isw16 v _)).mono ?_; rintro e w' ⟨rfl, rfl⟩) | (gi_at_call 18; refine (pts18 _ _).mono ?_; rintro e w' ⟨rfl, rfl⟩))
  obtain ⟨W0, hW0⟩ : ∃ W0, ((w.alloc (.cells #[.int .i64 d] 3)).alloc (.cells #[.int .i64 v] 3)).alloc (.cells #[.int .i64 0] 3) = W0 := ⟨_, rfl⟩
  have b1 : Boxed W0 w.heap.size 3 (.int .i64 d) := by rw [← hW0]; exact box1 w _ _ _ _
  have b2 : Boxed W0 (w.heap.size + 1) 3 (.int .i64 v) := by rw [← hW0]; exact box2 w _ _ _ _
  have b3 : Boxed W0 (w.heap.size + 1 + 1) 3 (.int .i64 0) := by rw [← hW0]; exact box3 w _ _ _ _
  have hB0 : Below w.heap.size w W0 := by rw [← hW0]; exact below3 w _ _ _
  have hsz : W0.heap.size = w.heap.size + 3 := by rw [← hW0]; simp
  have h0 : 0 < w.heap.size := (unhide TT).lt
  rw [hW0]
  refine wpIn_rangeFunc_ownH rfl hn1 (gf := 19) (lb := #[]) rfl trivial (enters_of Tryd.func19 (by kernel_rfl) rfl)
    (pts_stops (n - 1) (by omega) W0 ((unhide TT).on hB0)) Bz.trans (fun W l o o' hl h2 _ _ => World.putObj_heap_other (fun e => by omega)) (Below.refl _ _) (fun _ => rfl)
    (Inn w d v) (Out w d v)
    (OwnFrom.and (OwnFrom.and (OwnFrom.and (Own.from (boxed_own _ _ _) _) (Own.from (boxed_own _ _ _) _)) (Own.from (boxed_own _ _ _) _)) (OwnFrom.and (ownFrom_below (Nat.le_refl _) (by omega)) (fun _ _ _ _ hs _ _ => hs)))
    (fun c s A B row hs hg hr => ⟨hs.1, (by
      obtain ⟨x, hx, hp⟩ := hs.2.1
      exact ⟨x, Own.from (boxed_own (β := Unit) (w.heap.size + 1 + 1) 3 (fun _ => .int .i64 ((x : Int) + 1))) _ () A B row hx hg hr, hp⟩), ownFrom_below (β := Unit) (Nat.le_refl _) (by omega) () A B row hs.2.2 hg hr⟩)
    ⟨⟨⟨b1, b2⟩, b3⟩, hB0, fun _ h => by cases h⟩
    (fun x a' W => ∃ Ba, Box W Ba 33 #[.int .i64 (px x), .int .i64 (py x)] ∧ a' = { tmps := #[.int .i64 d, .int .i64 v, .pointer (some ⟨w.heap.size, 0, none⟩), .pointer (some ⟨w.heap.size + 1, 0, none⟩), .pointer (some ⟨w.heap.size + 1 + 1, 0, none⟩), .int .i64 ((x : Int) + 1), .pointer (some ⟨Ba, 0, none⟩), .int .i64 d, .bool false, .bool false, .int .i64 d, .bool false, .bool false, .bool false, .int .i64 v, .bool true, .bool false, .bool false, .func (.func 19) #[] #[], .int .i64 ((x : Int) + 1), ag x, undef, undef, undef, undef, undef, undef, undef, undef], defers := [] })
    (fun x a' => by
      rintro _ A B row ⟨Ba, xa, e⟩ hg hr
      refine ⟨Ba, (hg.block Ba xa.lt (fun e2 => ?_)).trans xa, e⟩
      obtain ⟨_, o, ho, hc⟩ := hr Ba e2.symm
      rw [show A.heap[Ba]? = _ from xa] at ho; cases ho; cases hc) ?assign ?body ?done ?stop
  case assign =>
    rintro l pre x W K ⟨⟨⟨x1, x2⟩, x3⟩, hB, hne⟩ hK
    gi_wp2
    refine hK _ _ ((KeepsOthers.alloc W _).from _) (Below.heap_alloc _ _ _ (by have := hB.size; omega)) ⟨⟨⟨x1.alloc _, x2.alloc _⟩, x3.alloc _⟩, hB.alloc hB.size _, hne⟩ ⟨W.heap.size, Box.made W 33 _, rfl⟩
  case body =>
    rintro l pre x a' W hl ⟨r, hr⟩ ⟨⟨⟨x1, x2⟩, x3⟩, hB, hne⟩ ⟨Ba, xa, rfl⟩ hlt
    have d1 := x1.cell
    have d2 := x2.cell
    have d3 := x3.cell
    have f3 := x3.frozen
    have a0 : W.cell? ⟨Ba, 0, none⟩ = some (.int .i64 (px x)) := xa.cell 0
    have a1 : W.cell? ⟨Ba, 1, none⟩ = some (.int .i64 (py x)) := xa.cell 1
    have X1 := hide x1
    have X2 := hide x2
    have X3 := hide x3
    have XA := hide xa
    have HB := hide hB
    have HN := hide hne
    have HW := hide (dd_wrap x v h3)
    clear x1 x2 x3 xa hB hne hr b1 b2 b3 hB0
    have hmx : Tryd.prog.follows .mixedOrders = true := by kernel_rfl
    have hn3 : 1 ≤ n - 1 - 1 := by omega
    have ht17 : Fence.wide.fn 17 := trivial
    by_cases hq : dd x v = d
    · have bq : (cut (px x + py x * v) == d) = true := by simpa [dd] using hq
      gi_wp2
      gi_region_with_o (gi_at_call 17; refine (CallsIn.inRound l (callsIn_wide.2 (dist17 (px x) (py x) v _ (unhide HW).1 (unhide HW).2))).mono ?_; rintro e w3 ⟨rfl, hb⟩; have g1 := (hb.cell (p := ⟨w.heap.size, 0, none⟩) (unhide X1).lt).trans d1; have g3 := (hb.cell (p := ⟨w.heap.size + 1 + 1, 0, none⟩) (unhide X3).lt).trans d3; have g4 := (hb.frozen (p := ⟨w.heap.size + 1 + 1, 0, none⟩) (unhide X3).lt).trans f3; have HB3 := hide hb; clear hb)
      all_goals gi_wp2
      all_goals exact fin_ret (unhide X3) (unhide HB) (unhide HB3) (unhide HN) hq
    · have bq : (cut (px x + py x * v) == d) = false := by simpa [dd] using hq
      gi_wp2
      gi_region_with_o (gi_at_call 17; refine (CallsIn.inRound l (callsIn_wide.2 (dist17 (px x) (py x) v _ (unhide HW).1 (unhide HW).2))).mono ?_; rintro e w3 ⟨rfl, hb⟩; have g1 := (hb.cell (p := ⟨w.heap.size, 0, none⟩) (unhide X1).lt).trans d1; have g3 := (hb.cell (p := ⟨w.heap.size + 1 + 1, 0, none⟩) (unhide X3).lt).trans d3; have g4 := (hb.frozen (p := ⟨w.heap.size + 1 + 1, 0, none⟩) (unhide X3).lt).trans f3; have HB3 := hide hb; clear hb)
      all_goals gi_wp2
      all_goals exact fin_on h0 (unhide X1) (unhide X2) (unhide X3) (unhide HB) (unhide HB3) (unhide HN) hq
  case done =>
    rintro D ys W hD rfl ⟨⟨⟨x1, x2⟩, x3⟩, hB, hne⟩ hK
    have d1 := x1.cell
    have d3 := x3.cell
    have f3 := x3.frozen
    have HK := hide (K_none (unhide HI) (fun m hm => hne m (by unfold allOf; simpa using hm)))
    have X3 := hide x3
    have HB := hide hB
    have hd2 : d ≤ 1048456 := (unhide HI).2.1
    clear x1 x2 x3 hB hne b1 b2 b3 hB0
    gi_wp2
    have X4 := (unhide X3).set (.int .i64 (d + 120))
    have hK' := (KeepsOthers.setCell W ⟨w.heap.size + 1 + 1, 0, none⟩ (.int .i64 (d + 120))).same D _ hK rfl
    refine ⟨by simp, .inl ⟨_, _, rfl, run_takeDeferred hK', ?_⟩⟩
    refine ⟨_, results12 _ _ (w.heap.size + 1 + 1) _ rfl (cell_kept X4.cell (grownBy_putObj' _ D (.deferred none)) (fun r e => by cases e; exact ⟨_, hK', rfl⟩)), ret_int (unhide HK).symm, ?_⟩
    exact ((unhide HB).setCell (p := ⟨w.heap.size + 1 + 1, 0, none⟩) (by simp; omega) _).trans (belowK_b (w := w) (Nat.le_refl _) _ D _ _ (by omega) hK' rfl rfl)
  case stop =>
    rintro D c pre W hD ⟨k, hk, rfl⟩ ⟨rfl, ⟨x, hx, pre', hp, hn', he⟩, hB⟩ hK
    have hkx : x = k ∧ pre' = List.range k := by
      rw [List.range_succ] at hp
      obtain ⟨e1, e2⟩ := List.append_inj' hp rfl
      simp at e2
      exact ⟨e2.symm, e1.symm⟩
    obtain ⟨rfl, rfl⟩ := hkx
    have HK := hide (K_at x (unhide HI) hk (fun m hm => hn' m (by simpa using hm)) he)
    have HB := hide hB
    have HX := hide hx
    clear hp hn' he hB hx b1 b2 b3 hB0
    gi_wp2
    refine ⟨by simp, .inl ⟨_, _, rfl, run_takeDeferred hK, ?_⟩⟩
    refine ⟨_, results12 _ _ (w.heap.size + 1 + 1) _ rfl (cell_kept (unhide HX).cell (grownBy_putObj' _ D (.deferred none)) (fun r e => by cases e; exact ⟨_, hK, rfl⟩)), ret_int (unhide HK).symm, ?_⟩
    exact (unhide HB).trans (belowK_b (w := w) (Nat.le_refl _) _ D _ _ (by omega) hK rfl rfl)
theorem code12 (d v : Int) (w : World) (t : Tab w) :
    Calls Tryd.prog 12 #[.int .i64 d, .int .i64 v] w fun e w' => e = .returned (.int .i64 (K d v)) ∧ Below w.heap.size w w' := by
  by_cases h : 1 ≤ d ∧ d ≤ 1048456 ∧ wd v = true
  · exact (callsIn_wide (n := 3)).1 (code12_in 3 d v w (Nat.le_refl _) t (by omega) (by omega) h.2.2)
  · rw [K_out h]
    exact code12_out d v w h
end Go.Proofs.YtpblcaihikdpmaaDoor.Cde
