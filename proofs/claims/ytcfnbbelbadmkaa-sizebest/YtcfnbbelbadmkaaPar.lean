/- Contract: size.paired. Conditions: the slice reads as items, and they are few. -/
import Derived.Test.YtcfnbbelbadmkaaPai
import Derived.Test.YtcfnbbelbadmkaaBst
import Derived.RangeFuncWrites
import Derived.RangeFuncBox
namespace Go.Proofs.Ytcfnbbelbadmkaa.Par
open Go.Proofs.Ytcfnbbelbadmkaa.Shr (its_slice)
open Go.ChangeShapes Go.WideShapes Go.ChangeAt Go.RowKit Go.Shelf Go.Proofs.Ytcfnbbelbadmkaa.Core Go.Proofs.Ytcfnbbelbadmkaa.Gnd Go.Proofs.Ytcfnbbelbadmkaa.Itm Go.Proofs.Ytcfnbbelbadmkaa.Mrg Go.Proofs.Ytcfnbbelbadmkaa.Pur Go.Proofs.Ytcfnbbelbadmkaa.Pai
attribute [local go_sem] Oper.semAt_some

theorem pai28 (n l1 c1 : Nat) (a1 : Option Addr) (w : World) :
    CallsIn Fence.wide n Try.prog 28 #[.slice a1 l1 c1] w fun e w' => e = .returned (.func (.func 31) #[] #[.pointer (some ⟨w.heap.size, 0, none⟩)]) ∧ w' = w.alloc (.cells #[.slice a1 l1 c1] 42) := by
  refine callsIn_of_wp Try.func28 rfl trivial ?_ rfl
  simp only [Try.ntmps28, List.size_toArray, List.length_cons, List.length_nil, Nat.reduceAdd, Nat.reduceSub, Array.replicate_succ, Array.replicate_zero, List.push_toArray, List.append_toArray, List.nil_append, List.cons_append]
  gi_wp2
  go_ret
  exact ⟨rfl, rfl⟩
theorem pai_stops (n : Nat) (hn : 1 ≤ n) (B1 len c1 : Nat) (P : Nat → Prop) (a1 : Option Addr) (xs : List It) (hlen : xs.length = len) (hB1 : P B1) (hl1 : len ≤ 100000) (w : World) (hP : ∀ k, P k → k < w.heap.size)
    (hc1 : w.cell? ⟨B1, 0, none⟩ = some (.slice a1 len c1))
    (d1 : ∀ i, i < len → ∃ b o, a1 = some ⟨b, o, none⟩ ∧ P b ∧ w.cell? ⟨b, o + i * 2, none⟩ = some (.int .i64 (at_ xs i).1) ∧ w.cell? ⟨b, o + i * 2 + 1, none⟩ = some (.bool (at_ xs i).2)) :
    SeqStopsK Fence.wide n Try.prog 31 #[.pointer (some ⟨B1, 0, none⟩)] en2 (Bp P) (fun ys => ys = two xs (len / 2)) (fun _ => True) (len / 2) w := fun l J Jx W hW hJ _ hY h0 => by
  refine pai31 n hn l B1 len c1 P a1 xs hlen hB1 hl1 J Jx (fun pre W h => hJ pre W W.drew none h ⟨rfl, rfl, rfl, Nat.le_refl _, fun _ _ _ => rfl⟩ (fun r e => by cases e)) hY W ?_ ?_ h0
  · exact (hW.cell (p := ⟨B1, 0, none⟩) (hP _ hB1)).trans hc1
  · intro i hi
    obtain ⟨b, o, e, h1, h2, h3⟩ := d1 i hi
    exact ⟨b, o, e, h1, (hW.cell (p := ⟨b, o + i * 2, none⟩) (hP _ h1)).trans h2, (hW.cell (p := ⟨b, o + i * 2 + 1, none⟩) (hP _ h1)).trans h3⟩
def jn (p : It × It) : It := (wrap64 (p.1.1 + p.2.1), false)
set_option maxRecDepth 100000 in
set_option maxHeartbeats 2000000 in
theorem par24_in (n len c1 : Nat) (a1 : Option Addr) (xs : List It) (w : World) (hn : 3 ≤ n) (hlen : xs.length = len) (hl1 : len ≤ 20000) (s1 : Its w (.slice a1 len c1) xs) :
    CallsIn Fence.wide n Try.prog 24 #[.slice a1 len c1] w fun e w' => ∃ r, e = .returned r ∧ Its w' r ((two xs (len / 2)).map jn) ∧ Below w.heap.size w w' := by
  have h1 : 1 ≤ n := by omega
  have hmk : ∀ w, (Instr.makeSlice 42 (.int .i64 0) (.int .i64 ((len : Int) / 2))).run Try.prog w = .ok (.slice (some ⟨w.heap.size, 0, none⟩) 0 (len / 2)) (w.alloc (.cells (irow (fun _ => 0) (fun _ => false) (len / 2)) 56)) := fun w => by
    have := make_room w (len / 2) (by omega)
    rw [show ((len / 2 : Nat) : Int) = (len : Int) / 2 by omega] at this
    exact this
  refine callsIn_of_wp_marks Try.func24 rfl trivial ?_ rfl
  simp only [Try.ntmps24, List.size_toArray, List.length_cons, List.length_nil, Nat.reduceAdd, Nat.reduceSub, Array.replicate_succ, Array.replicate_zero, List.push_toArray, List.append_toArray, List.nil_append, List.cons_append]
  have ht28 : Fence.wide.fn 28 := trivial
  gi_wp2_with (gi_at_call 28; refine (pai28 _ _ _ _ _).mono ?_; rintro e w' ⟨rfl, rfl⟩)
  obtain ⟨i0, hi, hz0, hz1, hz2⟩ := info_parts info56
  obtain ⟨W0, hW0⟩ : ∃ W0, ((w.alloc (.cells (irow (fun _ => 0) (fun _ => false) (len / 2)) 56)).alloc (.cells #[.slice (some ⟨w.heap.size, 0, none⟩) 0 (len / 2)] 42)).alloc (.cells #[.slice a1 len c1] 42) = W0 := ⟨_, rfl⟩
  have bJ : Boxed W0 (w.heap.size + 1) 42 (.slice (some ⟨w.heap.size, 0, none⟩) 0 (len / 2)) := by
    rw [← hW0]
    have := Boxed.new (w.alloc (.cells (irow (fun _ => 0) (fun _ => false) (len / 2)) 56)) 42 (.slice (some ⟨w.heap.size, 0, none⟩) 0 (len / 2))
    rw [World.size_alloc] at this
    exact this.alloc _
  have bS : Boxed W0 (w.heap.size + 2) 42 (.slice a1 len c1) := by
    rw [← hW0]
    have := Boxed.new ((w.alloc (.cells (irow (fun _ => 0) (fun _ => false) (len / 2)) 56)).alloc (.cells #[.slice (some ⟨w.heap.size, 0, none⟩) 0 (len / 2)] 42)) 42 (.slice a1 len c1)
    rw [World.size_alloc, World.size_alloc] at this
    exact this
  have oJ : W0.ownsRow w.heap.size 56 2 (.slice (some ⟨w.heap.size, 0, none⟩) 0 (len / 2)) 0 [] := by
    rw [← hW0]
    exact ((World.ownsRow_made w _ _ (Nat.le_refl _) (by unfold maxLen; omega) (irow_size _ _ _)).alloc _).alloc _
  have hsz : W0.heap.size = w.heap.size + 3 := by rw [← hW0]; simp
  have hB0 : Below w.heap.size w W0 := by rw [← hW0]; exact (((Below.refl _ w).alloc (Nat.le_refl _) _).alloc (by simp) _).alloc (by simp; omega) _
  rw [hW0]
  have k1 : ∀ i, i < len → ∃ b o, a1 = some ⟨b, o, none⟩ ∧ (b < w.heap.size ∨ b = w.heap.size + 2) ∧ W0.cell? ⟨b, o + i * 2, none⟩ = some (.int .i64 (at_ xs i).1) ∧ W0.cell? ⟨b, o + i * 2 + 1, none⟩ = some (.bool (at_ xs i).2) := fun i hi => by
    rcases s1 with ⟨_, e⟩ | ⟨b, o, cap, e, _, h⟩
    · subst e; simp at hlen; omega
    · cases e
      obtain ⟨x1, x2⟩ := h i (by omega)
      have hb := lt_of_cell x1
      exact ⟨b, o, rfl, .inl hb, (hB0.cell hb).trans x1, (hB0.cell (p := ⟨b, o + (i * 2 + 1), none⟩) hb).trans x2⟩
  refine wpIn_rangeFunc_ownH rfl h1 (gf := 31) (lb := #[.pointer (some ⟨w.heap.size + 1 + 1, 0, none⟩)]) rfl trivial (enters_of Try.func31 (by kernel_rfl) rfl)
    (pai_stops (n - 1) (by omega) (w.heap.size + 2) len c1 (fun k => k < w.heap.size ∨ k = w.heap.size + 2) a1 xs hlen (.inr rfl) (by omega) W0 (fun k hk => by omega) bS.cell k1) Bp.trans (fun W l o o' hl h2 _ _ k hk => World.putObj_heap_other (fun e => by omega)) (Below.refl _ _) (fun _ => rfl)
    (fun pre W => (∃ v, Boxed W (w.heap.size + 1) 42 v ∧ W.ownsRow w.heap.size 56 2 v pre.length (mcells (pre.map jn)) ∧ True) ∧ (Boxed W (w.heap.size + 2) 42 (.slice a1 len c1) ∧ Below w.heap.size w W))
    (fun _ _ _ => False)
    (OwnFrom.and (Own.from (holdsRow_own w.heap.size (w.heap.size + 1) 42 56 2 (fun pre : List (It × It) => pre.length) (fun pre => mcells (pre.map jn)) (fun _ _ => True)) _) (OwnFrom.and (Own.from (boxed_own _ _ _) _) (ownFrom_below (Nat.le_refl _) (by omega))))
    (fun _ _ _ _ _ hs _ _ => hs)
    ⟨⟨_, bJ, oJ, trivial⟩, bS, hB0⟩
    (fun x a' W => ∃ Ba Bb, Box W Ba 56 #[.int .i64 x.1.1, .bool x.1.2] ∧ Box W Bb 56 #[.int .i64 x.2.1, .bool x.2.2] ∧ a' = { tmps := #[.slice a1 len c1, undef, .slice none 0 0, .pointer (some ⟨w.heap.size + 1, 0, none⟩), .pointer (some ⟨Ba, 0, none⟩), .pointer (some ⟨Bb, 0, none⟩), .slice a1 len c1, .int .i64 len, .int .i64 ((len : Int) / 2), .slice (some ⟨w.heap.size, 0, none⟩) 0 (len / 2), .slice a1 len c1, .func (.func 31) #[] #[.pointer (some ⟨w.heap.size + 1 + 1, 0, none⟩)], ag x.1, ag x.2, undef, undef, undef, undef, undef, undef, undef, undef, undef, undef], defers := [] })
    (fun x a' => by
      rintro _ A B row ⟨Ba, Bb, xa, xb, e⟩ hg hr
      refine ⟨Ba, Bb, (hg.block Ba xa.lt (fun e2 => ?_)).trans xa, (hg.block Bb xb.lt (fun e2 => ?_)).trans xb, e⟩
      · obtain ⟨_, o, ho, hc⟩ := hr Ba e2.symm
        rw [show A.heap[Ba]? = _ from xa] at ho; cases ho; cases hc
      · obtain ⟨_, o, ho, hc⟩ := hr Bb e2.symm
        rw [show A.heap[Bb]? = _ from xb] at ho; cases ho; cases hc) ?assign ?body ?done ?stop
  case assign =>
    rintro l pre ⟨⟨p1, p2⟩, ⟨q1, q2⟩⟩ W K ⟨⟨v, hv, hrow, _⟩, hb2, hB⟩ hK
    gi_wp2
    refine hK _ _ (((KeepsOthers.alloc W _).trans (KeepsOthers.alloc _ _)).from _) (fun k hk => ?_) ⟨⟨v, (hv.alloc _).alloc _, (hrow.alloc _).alloc _, trivial⟩, (hb2.alloc _).alloc _, (hB.alloc hB.size _).alloc (by have := hB.size; simp; omega) _⟩ ⟨W.heap.size, W.heap.size + 1, (Box.made W 56 _).alloc _, ?_, rfl⟩
    · have hlt : k < W.heap.size := by
        have := hb2.lt
        have := hB.size
        omega
      exact (Below.heap_alloc _ _ _ (by simp; omega)).trans (Below.heap_alloc _ _ _ hlt)
    · have := Box.made (W.alloc (.cells #[.int .i64 p1, .bool p2] 56)) 56 #[.int .i64 q1, .bool q2]
      rw [World.size_alloc] at this
      exact this
  case body =>
    rintro l pre ⟨⟨p1, p2⟩, ⟨q1, q2⟩⟩ a' W hl ⟨r, hr⟩ ⟨⟨v, hv, hrow, _⟩, hb2, hB⟩ ⟨Ba, Bb, xa, xb, rfl⟩ hlt
    have d1 : W.cell? ⟨Ba, 0, none⟩ = some (.int .i64 p1) := xa.cell 0
    have d2 : W.cell? ⟨Bb, 0, none⟩ = some (.int .i64 q1) := xb.cell 0
    have d3 := hv.cell
    have HV := hide hv
    have HR := hide hrow
    have HB2 := hide hb2
    have HBB := hide hB
    have hvl := hv.lt
    clear hv hrow hb2 hB xa xb hr s1 bJ bS oJ hB0 hmk k1
    gi_wp2_with (first | (gi_at_builtin; refine wpListIn_append_own _ rfl (.tmp 14) (.tmp 21) 42 rfl w.heap.size 56 i0 _ 2 16 Try.underlying42 hi hz0 hz1 hz2 rfl (by decide) v pre.length (mcells (pre.map jn)) rfl ((unhide HR).alloc _) ⟨W.heap.size, 0, none⟩ 1 1 (mcells [(wrap64 (p1 + q1), false)]) rfl rfl (it_src _ _) (mcells_one _) (by unfold maxLen; omega) (by omega) (by have := (unhide HBB).size; simp; omega) ?_; intro v1 w1 own1 gr1 _; obtain ⟨g', cap', rfl⟩ := ownsRow_succ own1; obtain ⟨hv1, hv2, hr2, hk2, hb3⟩ := (unhide HV).appended (by decide) (unhide HR) (unhide HBB).size (Nat.le_succ _) own1 gr1; have hc1 := hv1.cell; have hf1 := hv1.frozen; have HV2 := hide hv2; have HR2 := hide hr2; have HK2 := hide hk2; have HB3 := hide hb3; have HS2 := hide (((unhide HB2).alloc _).kept gr1 ((unhide HB2).not_row (by decide) (unhide HR))); clear hv1 hv2 hr2 hk2 hb3 own1 gr1) | fail)
    have hs3 := (unhide HS2).other (show w.heap.size + 2 ≠ w.heap.size + 1 by omega) (.slice (some ⟨g', 0, none⟩) (pre.length + 1) cap')
    refine ⟨(unhide HK2).from _, fun k hk => ?_, ⟨_, unhide HV2, ?_, trivial⟩, hs3, (unhide HBB).trans (unhide HB3)⟩
    · rcases hk with hk | hk
      · exact (unhide HB3).block k hk
      · subst hk
        exact (show _ = _ from hs3).trans (show _ = _ from unhide HB2).symm
    · rw [List.map_append, mcells_app, List.length_append]
      exact unhide HR2
  case done =>
    rintro D ys W hD rfl ⟨⟨v, hv, hrow, _⟩, hb2, hB⟩ hK
    have hc := hv.cell
    have HR := hide hrow
    have HB := hide hB
    obtain ⟨va, vx, vy, rfl⟩ : ∃ a x y, v = .slice a x y := its_slice (own_its (xs := (two xs (len / 2)).map jn) (by rw [List.length_map]; exact hrow))
    clear hrow hB hb2 hv
    gi_wp2
    refine ⟨by simp, .inl ⟨_, _, rfl, run_takeDeferred hK, ?_⟩⟩
    refine ⟨_, results_tmp rfl _ _ _, _, rfl, ?_, (unhide HB).trans (belowK_b (w := w) (Nat.le_refl _) W D _ _ (by omega) hK rfl rfl)⟩
    have := ownsRow_putObj (unhide HR) (.deferred none) hK rfl
    refine own_its (base := w.heap.size) ?_
    rw [List.length_map]
    exact this
  case stop =>
    rintro D c pre W _ _ h _
    exact h.elim
theorem two_prs : ∀ (xs : List It), (∀ x ∈ xs, 0 < x.1 ∧ x.1 ≤ 4000000000000000000) → (two xs (xs.length / 2)).map jn = prs xs := fun xs hx => by
  apply List.ext_getElem
  · rw [List.length_map, two_len, prs_len]
  · intro i h1 h2
    rw [List.length_map, two_len] at h1
    have e1 := prs_at xs i h1
    rw [at_get (by rw [prs_len]; exact h1)] at e1
    rw [e1]
    have a1 := hx _ (at_mem (show 2 * i < xs.length by omega))
    have a2 := hx _ (at_mem (show 2 * i + 1 < xs.length by omega))
    simp only [two, List.getElem_map, List.getElem_range, jn]
    congr 1
    simp [wrap64]
    omega
theorem par24 : Go.Proofs.Ytcfnbbelbadmkaa.Bst.ParOk := fun v xs w src hl hx => by
  obtain ⟨a, y, rfl, _⟩ := Go.Proofs.Ytcfnbbelbadmkaa.Shr.its_len src
  have h := (callsIn_wide (n := 3)).1 (par24_in 3 xs.length y a xs w (Nat.le_refl _) rfl hl src)
  rw [two_prs xs hx] at h
  exact h
end Go.Proofs.Ytcfnbbelbadmkaa.Par
