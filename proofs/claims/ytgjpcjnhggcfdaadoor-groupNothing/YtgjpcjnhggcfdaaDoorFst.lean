/- Contracts: the first code of each length, by the program's own way. Conditions: the slice reads as lengths from 0 to 15 whose sum is not beyond 1. -/
import Derived.Test.YtgjpcjnhggcfdaaDoorChk
namespace Go.Proofs.YtgjpcjnhggcfdaaDoor.Fst
open Go.ChangeShapes Go.WideShapes Go.ChangeAt Go.RowKit Go.Proofs.YtgjpcjnhggcfdaaDoor.Core Go.Proofs.YtgjpcjnhggcfdaaDoor.Gnd Go.Proofs.YtgjpcjnhggcfdaaDoor.Math Go.Proofs.YtgjpcjnhggcfdaaDoor.Each Go.Proofs.YtgjpcjnhggcfdaaDoor.One Go.Proofs.YtgjpcjnhggcfdaaDoor.Chk

theorem inc21 (i : Int) (m g : Nat) (f : Nat → Nat) (w : World) (b1 : Box w g 120 (arr f)) (hm : m ≤ 15) (hf : f m ≤ 100000) :
    Calls Tryd.prog 73 (#[.int .i64 i, .int .i64 m] ++ #[.pointer (some ⟨g, 0, none⟩)]) w fun e w' =>
      e = .returned (.tuple #[]) ∧ w' = w.setCell ⟨g, m, none⟩ (.int .u32 ((f m + 1 : Nat) : Int)) := by
  have c1 : w.cell? ⟨g, m, none⟩ = some (.int .u32 (f m)) := (b1.cell m).trans (arr_at f m (by omega))
  have f1 := b1.free m
  clear b1
  go_enter Tryd.func73, Tryd.ntmps73
  go_wp2
  go_end0
  exact ⟨rfl, by simp⟩
/-- Three rows of sixteen numbers. -/
def Three (w : World) (f g : Nat → Nat) (wr : World) : Prop :=
  Box wr w.heap.size 120 (arr (fun _ => 0)) ∧ Box wr (w.heap.size + 1) 120 (arr f) ∧ Box wr (w.heap.size + 1 + 1) 120 (arr g) ∧ Below w.heap.size w wr
theorem three_start (w : World) (x : Array Value) (hx : x = arr (fun _ => 0)) : Three w (fun _ => 0) (fun _ => 0) (((w.alloc (.cells x 120)).alloc (.cells x 120)).alloc (.cells x 120)) := by
  subst hx
  obtain ⟨h1, h2, h3⟩ := two_start w 120 120 (arr (fun _ => 0)) (arr (fun _ => 0))
  refine ⟨h1.alloc _, h2.alloc _, ?_, h3.alloc (by simp; omega) _⟩
  have := Box.made ((w.alloc (.cells (arr (fun _ => 0)) 120)).alloc (.cells (arr (fun _ => 0)) 120)) 120 (arr (fun _ => 0))
  simpa using this
theorem Three.congr {w wr : World} {f g f' g' : Nat → Nat} (h : Three w f g wr) (hf : ∀ k, k < 16 → f k = f' k) (hg : ∀ k, k < 16 → g k = g' k) : Three w f' g' wr := by
  unfold Three
  rw [← arr_congr hf, ← arr_congr hg]
  exact h
theorem Three.left {w wr : World} {f g : Nat → Nat} (h : Three w f g wr) (m z : Nat) (hm : m < 16) : Three w (fun j => if j = m then z else f j) g (wr.setCell ⟨w.heap.size + 1, m, none⟩ (.int .u32 (z : Int))) := by
  obtain ⟨h1, h2, h3, h4⟩ := h
  refine ⟨h1.other (by simp) _, ?_, h3.other (by simp) _, h4.setCell (p := ⟨w.heap.size + 1, m, none⟩) (Nat.le_succ _) _⟩
  have := h2.set m (.int .u32 (z : Int))
  rwa [arr_set _ _ _ hm] at this
theorem Three.right {w wr : World} {f g : Nat → Nat} (h : Three w f g wr) (m z : Nat) (hm : m < 16) : Three w f (fun j => if j = m then z else g j) (wr.setCell ⟨w.heap.size + 1 + 1, m, none⟩ (.int .u32 (z : Int))) := by
  obtain ⟨h1, h2, h3, h4⟩ := h
  refine ⟨h1.other (by simp; omega) _, h2.other (by simp) _, ?_, h4.setCell (p := ⟨w.heap.size + 1 + 1, m, none⟩) (by show w.heap.size ≤ w.heap.size + 1 + 1; omega) _⟩
  have := h3.set m (.int .u32 (z : Int))
  rwa [arr_set _ _ _ hm] at this
theorem Three.drew {w wr : World} {f g : Nat → Nat} (h : Three w f g wr) : Three w f g wr.drew := ⟨h.1, h.2.1, h.2.2.1, h.2.2.2.drew⟩
theorem cnt_next (c : Nat → Int) (i m : Nat) (hc : c i = (m : Int)) (hm : m ≠ 0) (k : Nat) : (if k = m then cnt c m i + 1 else cnt c k i) = cnt c k (i + 1) := by
  have : cnt c k (i + 1) = cnt c k i + if c i = (k : Int) ∧ k ≠ 0 then 1 else 0 := rfl
  rw [this]
  by_cases e : k = m
  · subst e
    rw [if_pos rfl, if_pos ⟨hc, hm⟩]
  · rw [if_neg e, if_neg (fun h => e (by omega))]
    rfl
theorem cnt_skip (c : Nat → Int) (i : Nat) (hc : c i = 0) (k : Nat) : cnt c k (i + 1) = cnt c k i := by
  have : cnt c k (i + 1) = cnt c k i + if c i = (k : Int) ∧ k ≠ 0 then 1 else 0 := rfl
  rw [this, if_neg (fun h => h.2 (by omega))]
  rfl
theorem info38 (f : Nat → Nat) : (Tryd.prog.info? 120).map (·.size) = some (arr f).size := by
  rw [arr_size]
  kernel_rfl
theorem arr_ones (f : Nat → Nat) : (arr f).all (·.oneCell') = true :=
  Array.all_eq_true_iff_forall_mem.2 fun v hv => arr_one f v (by simpa using hv)
theorem box_row {w : World} {g : Nat} {T : TypeId} {vs : Array Value} (h : Box w g T vs) (us : Array Value) : Box (w.setRow g us) g T us := setRow_heap w g vs us T (0, 0) h
theorem below_setRow {B : Nat} {a w : World} (h : Below B a w) {g : Nat} (hg : B ≤ g) (us : Array Value) : Below B a (w.setRow g us) :=
  h.trans ⟨rfl, rfl, rfl, by simp [World.setRow], fun k hk => by
    simp only [World.setRow, Array.getElem?_modify]
    rw [if_neg (by omega)]⟩
set_option maxHeartbeats 1000000 in
theorem fst16 (v : Value) (len : Nat) (c : Nat → Int) (hl : len ≤ 100000) (hg : Rng c len) (hk : kr c len ≤ 32768) (w : World) (src : Ints .i64 w v len c) :
    Calls Tryd.prog 65 #[v] w fun e w' => e = .returned (.agg (arr (fst c len))) ∧ Below w.heap.size w w' := by
  have eg : ∀ args w, (callFunc 73 args).run Tryd.prog w = .ok (.enter 73 args) w := enters_of Tryd.func73 (by kernel_rfl) rfl
  have SRC := hide src
  have HG := hide hg
  have HK := hide hk
  clear src hg hk
  go_enter Tryd.func65, Tryd.ntmps65
  go_wp2_with fail
  refine (each14 73 eg _ v len c hl (fun i => Three w (fun m => cnt c m i) (fun _ => 0)) _ (fun i wr h => (unhide SRC).keep h.2.2.2) (three_start w _ rfl) ?_ ?_).mono ?_
  · intro i wr hi hc h
    exact h.congr (fun k _ => (cnt_skip c i hc k).symm) (fun _ _ => rfl)
  · intro i wr hi hc h
    have h1 := unhide HG i hi
    obtain ⟨m, hcm⟩ : ∃ m : Nat, c i = (m : Int) := ⟨(c i).toNat, by omega⟩
    have hm0 : m ≠ 0 := by omega
    have h2 := cnt_le c m i
    rw [hcm]
    refine (inc21 i m _ _ wr h.2.1 (by omega) (by omega)).mono fun e w' ⟨e1, e2⟩ => ⟨e1, ?_⟩
    rw [e2]
    exact (h.left m _ (by omega)).congr (fun k _ => cnt_next c i m hcm hm0 k) (fun _ _ => rfl)
  · rintro e w1 ⟨rfl, h1⟩
    have H1 := hide h1
    clear h1
    go_wp2
    go_loopw [5] (fun i wr => ∃ q : Nat, q ≤ 15 ∧ i = .int .i64 (q + 1) ∧ Three w (fun m => cnt c m len) (fun j => if j ≤ q then fst c len j else 0) wr) (fun i _ => 16 - (intOf i).toNat)
    case atStart =>
      refine ⟨0, by omega, rfl, (unhide H1).congr (fun _ _ => rfl) (fun k _ => ?_)⟩
      by_cases e : k ≤ 0
      · obtain rfl : k = 0 := by omega
        rfl
      · rw [if_neg e]
    case round =>
      obtain ⟨q, hq, rfl, h3⟩ := hrel
      have H3 := hide h3
      by_cases hlt : q < 15
      · have t1 := top_cap (unhide HG) (unhide HK) q (by omega)
        have c1 : wr.cell? ⟨w.heap.size + 1, q, none⟩ = some (.int .u32 (cnt c q len)) := (h3.2.1.cell q).trans (arr_at _ q (by omega))
        have c2 : wr.cell? ⟨w.heap.size + 1 + 1, q, none⟩ = some (.int .u32 (fst c len q)) := by
          rw [h3.2.2.1.cell q, arr_at _ q (by omega), if_pos (Nat.le_refl _)]
        have c3 : wr.cell? ⟨w.heap.size + 1 + 1, q + 1, none⟩ = some (.int .u32 0) := by
          rw [h3.2.2.1.cell (q + 1), arr_at _ (q + 1) (by omega), if_neg (by omega)]
          rfl
        have f3 := h3.2.2.1.free (q + 1)
        have FS : Hid (fst c len (q + 1) = (fst c len q + cnt c q len) * 2) := rfl
        clear h3
        generalize fst c len q = x at *
        generalize cnt c q len = y at *
        go_wp2
        go_region
        go_wp2
        go_roundw
        case rel =>
          refine ⟨q + 1, by omega, by go_num, ?_⟩
          have e1 : (((x + y) * 2 : Nat) : Int) = ((x : Int) + y) * 2 := by omega
          have h4 := (unhide H3).right (q + 1) ((x + y) * 2) (by omega)
          rw [e1] at h4
          refine (h4.congr (fun _ _ => rfl) (fun k _ => ?_)).drew
          by_cases e : k = q + 1
          · subst e
            rw [if_pos rfl, if_pos (Nat.le_refl _), unhide FS]
          · rw [if_neg e]
            by_cases e2 : k ≤ q
            · rw [if_pos e2, if_pos (by omega)]
            · rw [if_neg e2, if_neg (by omega)]
        case measure => simp [intOf]; omega
      · obtain rfl : q = 15 := by omega
        have hB : Box wr (w.heap.size + 1 + 1) 120 (arr (fst c len)) := by
          rw [← arr_congr (f := fun j => if j ≤ 15 then fst c len j else 0) (fun k hk => if_pos (by omega))]
          exact h3.2.2.1
        have B0 := hide h3.1
        have BB := hide hB
        have BEL := hide h3.2.2.2
        have hz : ¬ ((15 : Nat) : Int) + 1 ≤ 15 := by omega
        clear h3 hB H3 H1 hlt
        go_wp2_with (first | (refine wpList_load_row rfl 120 (.tmp 4) rfl (w.heap.size + 1 + 1) rfl 120 (arr (fst c len)) (0, 0) _ (unhide BB) Tryd.underlying120 rfl (info38 _) ?_) | (refine wpList_store_row rfl 120 (.tmp 2) (.tmp 25) rfl w.heap.size (arr (fst c len)) rfl rfl 120 (arr (fun _ => 0)) (unhide B0) (info38 _) (by rw [arr_size, arr_size]) (arr_ones _) ?_) | fail)
        refine bodyPost_ret (results_cell_row rfl _ _ w.heap.size 120 (arr (fst c len)) (0, 0) _ rfl (box_row (unhide B0) _) Tryd.underlying120 rfl (info38 _)) rfl ⟨rfl, below_setRow (unhide BEL) (Nat.le_refl _) _⟩
end Go.Proofs.YtgjpcjnhggcfdaaDoor.Fst
