/- Contract: size.Total. Conditions: the slices read as integers, and they are few. -/
import Derived.Test.YtcfnbbelbadmkaaTot
namespace Go.Proofs.Ytcfnbbelbadmkaa.Totl
open Go.ChangeShapes Go.WideShapes Go.ChangeAt Go.RowKit Go.Shelf Go.Proofs.Ytcfnbbelbadmkaa.Core Go.Proofs.Ytcfnbbelbadmkaa.Gnd Go.Proofs.Ytcfnbbelbadmkaa.Tot
attribute [local go_sem] Oper.semAt_some

theorem bes17 (n l1 c1 l2 c2 : Nat) (a1 a2 : Option Addr) (w : World) :
    CallsIn Fence.wide n Try.prog 17 #[.slice a1 l1 c1, .slice a2 l2 c2] w fun e w' => e = .returned (.func (.func 25) #[] #[.pointer (some ⟨w.heap.size, 0, none⟩), .pointer (some ⟨w.heap.size + 1, 0, none⟩)]) ∧ w' = (w.alloc (.cells #[.slice a1 l1 c1] 22)).alloc (.cells #[.slice a2 l2 c2] 22) := by
  refine callsIn_of_wp Try.func17 rfl trivial ?_ rfl
  simp only [Try.ntmps17, List.size_toArray, List.length_cons, List.length_nil, Nat.reduceAdd, Nat.reduceSub, Array.replicate_succ, Array.replicate_zero, List.push_toArray, List.append_toArray, List.nil_append, List.cons_append]
  gi_wp2
  go_ret
  exact ⟨rfl, rfl⟩
theorem bes_stops (n : Nat) (hn : 1 ≤ n) (B1 B2 n0 T l1 c1 l2 c2 : Nat) (a1 a2 : Option Addr) (ca cb : Nat → Int) (hB1 : B1 < n0 ∧ B1 ≠ T) (hB2 : B2 < n0 ∧ B2 ≠ T) (hl1 : l1 ≤ 100000) (hl2 : l2 ≤ 100000) (w : World) (hn0 : n0 ≤ w.heap.size)
    (hc1 : w.cell? ⟨B1, 0, none⟩ = some (.slice a1 l1 c1)) (hc2 : w.cell? ⟨B2, 0, none⟩ = some (.slice a2 l2 c2))
    (d1 : ∀ i, i < l1 → ∃ b o, a1 = some ⟨b, o, none⟩ ∧ (b < n0 ∧ b ≠ T) ∧ w.cell? ⟨b, o + i, none⟩ = some (.int .i64 (ca i))) (d2 : ∀ i, i < l2 → ∃ b o, a2 = some ⟨b, o, none⟩ ∧ (b < n0 ∧ b ≠ T) ∧ w.cell? ⟨b, o + i, none⟩ = some (.int .i64 (cb i))) :
    SeqStopsK Fence.wide n Try.prog 25 #[.pointer (some ⟨B1, 0, none⟩), .pointer (some ⟨B2, 0, none⟩)] encs (But n0 T) (fun ys => ys = zipF ca cb (min l1 l2)) (fun _ => True) (min l1 l2) w := fun l J Jx W hW hJ _ hY h0 => by
  refine bes25 n hn l B1 B2 n0 T l1 c1 l2 c2 a1 a2 ca cb hB1 hB2 hl1 hl2 J Jx (fun pre W h => hJ pre W W.drew none h ⟨rfl, rfl, rfl, Nat.le_refl _, fun _ _ _ => rfl⟩ (fun r e => by cases e)) hY W ?_ ?_ ?_ ?_ h0
  · exact (hW.cell (p := ⟨B1, 0, none⟩) (by exact Nat.lt_of_lt_of_le hB1.1 hn0)).trans hc1
  · exact (hW.cell (p := ⟨B2, 0, none⟩) (by exact Nat.lt_of_lt_of_le hB2.1 hn0)).trans hc2
  · intro i hi
    obtain ⟨b, o, e, h1, h2⟩ := d1 i hi
    exact ⟨b, o, e, h1, (hW.cell (p := ⟨b, o + i, none⟩) (by exact Nat.lt_of_lt_of_le h1.1 hn0)).trans h2⟩
  · intro i hi
    obtain ⟨b, o, e, h1, h2⟩ := d2 i hi
    exact ⟨b, o, e, h1, (hW.cell (p := ⟨b, o + i, none⟩) (by exact Nat.lt_of_lt_of_le h1.1 hn0)).trans h2⟩
def sumP : List (Int × Int) → Int := List.foldl (fun s p => wrap64 (s + wrap64 (p.1 * p.2))) 0
theorem sumP_snoc (pre : List (Int × Int)) (x : Int × Int) : sumP (pre ++ [x]) = wrap64 (sumP pre + wrap64 (x.1 * x.2)) := by simp [sumP]
/-- The sum of counts times lengths, as it runs round. -/
def tot (ca cb : Nat → Int) : Nat → Int
  | 0 => 0
  | n + 1 => wrap64 (tot ca cb n + wrap64 (ca n * cb n))
theorem sumP_zip (ca cb : Nat → Int) : ∀ n, sumP (zipF ca cb n) = tot ca cb n
  | 0 => rfl
  | n + 1 => by rw [zipF_succ, sumP_snoc, sumP_zip ca cb n, tot]
theorem but_b {n T : Nat} {w : World} (hw : n ≤ w.heap.size) : ∀ (W : World) (l : Nat) (o o' : Obj), w.heap.size ≤ l → W.heap[l]? = some o → o.isCells = false → o.isWalk = false → But n T W (W.putObj l o') :=
  fun W l _ o' hl _ _ _ k hk _ => World.putObj_heap_other (fun e => by omega)
set_option maxRecDepth 100000 in
set_option maxHeartbeats 2000000 in
theorem tot11_in (n l1 c1 l2 c2 : Nat) (a1 a2 : Option Addr) (ca cb : Nat → Int) (w : World) (hn : 3 ≤ n) (hl1 : l1 ≤ 100000) (hl2 : l2 ≤ 100000)
    (s1 : Ints .i64 w (.slice a1 l1 c1) l1 ca) (s2 : Ints .i64 w (.slice a2 l2 c2) l2 cb) :
    CallsIn Fence.wide n Try.prog 11 #[.slice a1 l1 c1, .slice a2 l2 c2] w fun e w' => e = .returned (.int .i64 (tot ca cb (min l1 l2))) ∧ Below w.heap.size w w' := by
  have h1 : 1 ≤ n := by omega
  refine callsIn_of_wp_marks Try.func11 rfl trivial ?_ rfl
  simp only [Try.ntmps11, List.size_toArray, List.length_cons, List.length_nil, Nat.reduceAdd, Nat.reduceSub, Array.replicate_succ, Array.replicate_zero, List.push_toArray, List.append_toArray, List.nil_append, List.cons_append]
  have ht17 : Fence.wide.fn 17 := trivial
  gi_wp2_with (gi_at_call 17; refine (bes17 _ _ _ _ _ _ _ _).mono ?_; rintro e w' ⟨rfl, rfl⟩)
  obtain ⟨W0, hW0⟩ : ∃ W0, ((w.alloc (.cells #[.int .i64 0] 3)).alloc (.cells #[.slice a1 l1 c1] 22)).alloc (.cells #[.slice a2 l2 c2] 22) = W0 := ⟨_, rfl⟩
  have bT : Box W0 w.heap.size 3 #[.int .i64 0] := by rw [← hW0]; exact ((Box.made w 3 _).alloc _).alloc _
  have b1 : Box W0 (w.heap.size + 1) 22 #[.slice a1 l1 c1] := by
    rw [← hW0]
    have := Box.made (w.alloc (.cells #[.int .i64 0] 3)) 22 #[.slice a1 l1 c1]
    rw [World.size_alloc] at this
    exact this.alloc _
  have b2 : Box W0 (w.heap.size + 2) 22 #[.slice a2 l2 c2] := by
    rw [← hW0]
    have := Box.made ((w.alloc (.cells #[.int .i64 0] 3)).alloc (.cells #[.slice a1 l1 c1] 22)) 22 #[.slice a2 l2 c2]
    rw [World.size_alloc, World.size_alloc] at this
    exact this
  have hsz : W0.heap.size = w.heap.size + 3 := by rw [← hW0]; simp
  have hB0 : Below w.heap.size w W0 := by rw [← hW0]; exact (((Below.refl _ w).alloc (Nat.le_refl _) _).alloc (by simp) _).alloc (by simp; omega) _
  rw [hW0]
  have k1 : ∀ i, i < l1 → ∃ b o, a1 = some ⟨b, o, none⟩ ∧ (b < w.heap.size + 3 ∧ b ≠ w.heap.size) ∧ W0.cell? ⟨b, o + i, none⟩ = some (.int .i64 (ca i)) := fun i hi => by
    obtain ⟨a, cap, e, h⟩ := s1
    cases e
    obtain ⟨b, o, e, hc⟩ := h i hi
    have hb := lt_of_cell hc
    exact ⟨b, o, e, by simp at hb; omega, (hB0.cell hb).trans hc⟩
  have k2 : ∀ i, i < l2 → ∃ b o, a2 = some ⟨b, o, none⟩ ∧ (b < w.heap.size + 3 ∧ b ≠ w.heap.size) ∧ W0.cell? ⟨b, o + i, none⟩ = some (.int .i64 (cb i)) := fun i hi => by
    obtain ⟨a, cap, e, h⟩ := s2
    cases e
    obtain ⟨b, o, e, hc⟩ := h i hi
    have hb := lt_of_cell hc
    exact ⟨b, o, e, by simp at hb; omega, (hB0.cell hb).trans hc⟩
  refine wpIn_rangeFunc_ownF rfl h1 (gf := 25) (lb := #[.pointer (some ⟨w.heap.size + 1, 0, none⟩), .pointer (some ⟨w.heap.size + 1 + 1, 0, none⟩)]) rfl trivial (enters_of Try.func25 (by kernel_rfl) rfl)
    (bes_stops (n - 1) (by omega) (w.heap.size + 1) (w.heap.size + 2) (w.heap.size + 3) w.heap.size l1 c1 l2 c2 a1 a2 ca cb ⟨by omega, by omega⟩ ⟨by omega, by omega⟩ hl1 hl2 W0 (by omega) (b1.cell 0) (b2.cell 0) k1 k2) But.trans (but_b (by omega)) (Below.refl _ _) (fun _ => rfl)
    (fun pre W => (W.cell? ⟨w.heap.size, 0, none⟩ = some (.int .i64 (sumP pre)) ∧ W.frozen? ⟨w.heap.size, 0, none⟩ = false) ∧ Below w.heap.size w W)
    (fun _ _ _ => False)
    (OwnFrom.and (Own.from (fun s A B row hs hg hr => ⟨cell_kept hs.1 hg hr, (frozen_kept hs.1 hg hr).trans hs.2⟩) _) (ownFrom_below (Nat.le_refl _) (by omega)))
    (fun _ _ _ _ _ hs _ _ => hs)
    ⟨⟨bT.cell 0, bT.free 0⟩, hB0⟩
    (fun x => { tmps := #[.slice a1 l1 c1, .slice a2 l2 c2, undef, undef, .int .i64 0, .pointer (some ⟨w.heap.size, 0, none⟩), .int .i64 x.1, .int .i64 x.2, .slice a1 l1 c1, .slice a2 l2 c2, .func (.func 25) #[] #[.pointer (some ⟨w.heap.size + 1, 0, none⟩), .pointer (some ⟨w.heap.size + 1 + 1, 0, none⟩)], .int .i64 x.1, .int .i64 x.2, undef, undef, undef, undef, undef, undef], defers := [] }) ?assign ?body ?done ?stop
  case assign =>
    intro l x W K hK
    gi_wp2
    exact hK
  case body =>
    rintro l pre x W ⟨⟨hc, hf⟩, hB⟩ _
    gi_wp2
    refine ⟨KeepsOthers.setCell _ _ _, fun k hk hT => Below.heap_setCell _ _ _ _ (by exact hT), ⟨by rw [sumP_snoc]; exact World.cell?_setCell_same' _ _ _ (by rw [hc]; rfl), by rw [World.frozen?_setCell]; exact hf⟩, hB.setCell (p := ⟨w.heap.size, 0, none⟩) (Nat.le_refl _) _⟩
  case done =>
    rintro D ys W hD rfl ⟨⟨hc, _⟩, hB⟩ hK
    gi_wp2
    refine ⟨by simp, .inl ⟨_, _, rfl, run_takeDeferred hK, ?_⟩⟩
    exact ⟨_, results_tmp rfl _ _ _, by rw [← sumP_zip]; rfl, hB.trans (belowK_b (w := w) (Nat.le_refl _) W D _ _ (by omega) hK rfl rfl)⟩
  case stop =>
    rintro D c pre W _ _ h _
    exact h.elim
theorem tot11 (va vb : Value) (l1 l2 : Nat) (ca cb : Nat → Int) (w : World) (hl1 : l1 ≤ 100000) (hl2 : l2 ≤ 100000) (s1 : Ints .i64 w va l1 ca) (s2 : Ints .i64 w vb l2 cb) :
    Calls Try.prog 11 #[va, vb] w fun e w' => e = .returned (.int .i64 (tot ca cb (min l1 l2))) ∧ Below w.heap.size w w' := by
  have h1 := s1
  have h2 := s2
  obtain ⟨a1, c1, rfl, _⟩ := h1
  obtain ⟨a2, c2, rfl, _⟩ := h2
  exact (callsIn_wide (n := 3)).1 (tot11_in 3 l1 c1 l2 c2 a1 a2 ca cb w (Nat.le_refl _) hl1 hl2 s1 s2)
end Go.Proofs.Ytcfnbbelbadmkaa.Totl
