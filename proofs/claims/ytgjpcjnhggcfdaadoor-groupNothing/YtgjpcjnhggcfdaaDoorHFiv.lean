/- Contract: the law's five (lengths of a group, one symbol each). Conditions: the cache may be. -/
import Derived.Test.YtgjpcjnhggcfdaaDoorHFit
namespace Go.Proofs.YtgjpcjnhggcfdaaDoor.HFiv
set_option linter.unusedVariables false
open Go.ChangeShapes Go.WideShapes Go.ChangeAt Go.RowKit Go.Proofs.YtgjpcjnhggcfdaaDoor.Core Go.Proofs.YtgjpcjnhggcfdaaDoor.Ord Go.Proofs.YtgjpcjnhggcfdaaDoor.Sml Go.Proofs.YtgjpcjnhggcfdaaDoor.HNum Go.Proofs.YtgjpcjnhggcfdaaDoor.HSiz Go.Proofs.YtgjpcjnhggcfdaaDoor.HFit

theorem size_a (w : World) (o : Obj) : (w.alloc o).heap.size = w.heap.size + 1 := by simp
theorem made_set (w : World) (p : Addr) (v : Value) (T : TypeId) (vs : Array Value) : Box ((w.setCell p v).alloc (.cells vs T)) w.heap.size T vs := by
  have h := Box.made (w.setCell p v) T vs
  rwa [show (w.setCell p v).heap.size = w.heap.size by simp] at h
/-- Slices of whole rows. -/
def gs (G : Nat → Nat) (c k : Nat) : Value := .slice (some ⟨G k, 0, none⟩) (sz c k) (sz c k)
/-- The first i of them. -/
def fu (G : Nat → Nat) (c i k : Nat) : Value := if k < i then gs G c k else .slice none 0 0
def a16 (at_ : Nat → Nat) : Array Value := #[.int .u16 (at_ 0), .int .u16 (at_ 1), .int .u16 (at_ 2), .int .u16 (at_ 3), .int .u16 (at_ 4)]
theorem a16_at (s : Nat → Nat) (i : Nat) (h : i < 5) : (a16 s)[i]? = some (.int .u16 (s i)) := by
  rcases lt5 h with rfl | rfl | rfl | rfl | rfl <;> rfl
theorem fv_set (u : Nat → Value) (i : Nat) (h : i < 5) (v : Value) : (fv u).setIfInBounds i v = fv (fun k => if k = i then v else u k) := by
  rcases lt5 h with rfl | rfl | rfl | rfl | rfl <;> rfl
theorem fv_congr {u v : Nat → Value} (h : ∀ i, i < 5 → u i = v i) : fv u = fv v := by
  unfold fv; rw [h 0 (by omega), h 1 (by omega), h 2 (by omega), h 3 (by omega), h 4 (by omega)]
/-- Rows of lengths, each in a block of its own. -/
structure Rws (lo : Nat) (w : World) (G : Nat → Nat) (c i : Nat) (f : Nat → Nat → Nat) : Prop where
  low : ∀ k, k < i → lo ≤ G k
  rise : ∀ k j, k < j → j < i → G k < G j
  row : ∀ k, k < i → Box w (G k) 3 (nr (f k) (sz c k)).toArray
/-- What five has done after i of five. -/
structure FivI (w0 wr : World) (F Z A : Nat) (at_ : Nat → Nat) (G : Nat → Nat) (c i : Nat) (f : Nat → Nat → Nat) : Prop where
  rws : Rws (Z + 1) wr G c i f
  box : Box wr F 27 (fv (fu G c i))
  siz : Box wr Z 50 (fvn (sz c))
  ats : Box wr A 31 (a16 at_)
  res : Box wr (A + 1) 27 (fv (fun _ => .slice none 0 0))
  bel : Below w0.heap.size w0 wr
theorem Rws.keep {S : Nat → Prop} {lo : Nat} {w w' : World} {G : Nat → Nat} {c i : Nat} {f : Nat → Nat → Nat} (h : Rws lo w G c i f) (u : Upd S w w') (hs : ∀ k, lo ≤ k → k < w.heap.size → ¬ S k) : Rws lo w' G c i f :=
  ⟨h.low, h.rise, fun k hk => (h.row k hk).keep u (hs _ (h.low k hk) (h.row k hk).lt)⟩
theorem Rws.next {lo : Nat} {w w' : World} {G : Nat → Nat} {c i g : Nat} {f : Nat → Nat → Nat} (h : Rws lo w G c i f) (u : Below w.heap.size w w') (hg : w.heap.size ≤ g) (hl : lo ≤ g) (b : Box w' g 3 (nr (f i) (sz c i)).toArray) : Rws lo w' (fun k => if k = i then g else G k) c (i + 1) f := by
  refine ⟨fun k hk => ?_, fun k j hkj hj => ?_, fun k hk => ?_⟩
  · by_cases e : k = i
    · simp only [if_pos e]; exact hl
    · simp only [if_neg e]; exact h.low k (by omega)
  · by_cases e : j = i
    · have e2 : k ≠ i := by omega
      simp only [if_pos e, if_neg e2]
      have := (h.row k (by omega)).lt
      omega
    · have e2 : k ≠ i := by omega
      simp only [if_neg e, if_neg e2]; exact h.rise k j hkj (by omega)
  · by_cases e : k = i
    · subst e
      simp only [if_true]; exact b
    · simp only [if_neg e]; exact (h.row k (by omega)).below u (h.row k (by omega)).lt
theorem fu_next (G : Nat → Nat) (c i g : Nat) (h : i < 5) : (fv (fu G c i)).setIfInBounds i (.slice (some ⟨g, 0, none⟩) (sz c i) (sz c i)) = fv (fu (fun k => if k = i then g else G k) c (i + 1)) := by
  rw [fv_set _ _ h]
  refine fv_congr fun k _ => ?_
  unfold fu gs
  by_cases e : k = i
  · subst e
    simp
  · by_cases e2 : k < i
    · have e3 : k < i + 1 := by omega
      simp only [if_neg e, if_pos e2, if_pos e3]
    · have e3 : ¬ k < i + 1 := by omega
      simp only [if_neg e, if_neg e2, if_neg e3]
theorem FivI.next {w0 wr w' : World} {F Z A : Nat} {at_ : Nat → Nat} {G : Nat → Nat} {c i g : Nat} {f : Nat → Nat → Nat} (h : FivI w0 wr F Z A at_ G c i f) (hi : i < 5) (hF : w0.heap.size ≤ F) (hFZ : F < Z) (hA : A + 1 < F) (u : Upd (fun k => k = F) wr w') (hg : wr.heap.size ≤ g)
    (b : Box w' g 3 (nr (f i) (sz c i)).toArray) (bF : Box w' F 27 ((fv (fu G c i)).setIfInBounds i (.slice (some ⟨g, 0, none⟩) (sz c i) (sz c i)))) : FivI w0 w' F Z A at_ (fun k => if k = i then g else G k) c (i + 1) f := by
  have hz := h.siz.lt
  refine ⟨⟨fun k hk => ?_, fun k j hkj hj => ?_, fun k hk => ?_⟩, by rw [← fu_next _ _ _ _ hi]; exact bF, h.siz.keep u (by omega), h.ats.keep u (by omega), h.res.keep u (by omega), h.bel.trans (u.below _ h.bel.size (fun k hk => by omega))⟩
  · by_cases e : k = i
    · simp only [if_pos e]; omega
    · simp only [if_neg e]; exact h.rws.low k (by omega)
  · by_cases e : j = i
    · have e2 : k ≠ i := by omega
      simp only [if_pos e, if_neg e2]
      have := (h.rws.row k (by omega)).lt
      omega
    · have e2 : k ≠ i := by omega
      simp only [if_neg e, if_neg e2]; exact h.rws.rise k j hkj (by omega)
  · by_cases e : k = i
    · subst e
      simp only [if_true]; exact b
    · simp only [if_neg e]
      have := h.rws.low k (by omega)
      exact (h.rws.row k (by omega)).keep u (by omega)
/-- What five answers. -/
structure FivR (w : World) (c : Nat) (f : Nat → Nat → Nat) (e : Ending) (w' : World) : Prop where
  ex : ∃ G, e = .returned (.agg (fv (gs G c))) ∧ Rws w.heap.size w' G c 5 f
  bel : Below w.heap.size w w'
set_option maxHeartbeats 2000000 in
theorem five5 (at_ : Nat → Nat) (ha : ∀ i, at_ i ≤ 65535) (c : Nat) (h : c ≤ 11) (w : World) :
    Calls Tryd.prog 5 #[.int .i64 c, .agg (a16 at_), .bool false] w fun e w' => FivR w c (fun i => f1 (at_ i % sz c i) 1) e w' := by
  have S := hide (fun w => sizes15 c h w)
  have SZ := hide (fun i => sz_bd c i h)
  clear h
  unfold fvn at S
  go_enter Tryd.func5, Tryd.ntmps5
  go_wp2_with fail
  refine (unhide S _).mono ?_
  rintro e w1 ⟨rfl, b1⟩
  have bA := ((((Box.made w 31 (a16 at_)).alloc (.cells (fv (fun _ => .slice none 0 0)) 27)).alloc (.cells (fv (fun _ => .slice none 0 0)) 27)))
  have bR := ((Box.made (w.alloc (.cells (a16 at_) 31)) 27 (fv (fun _ => .slice none 0 0))).alloc (.cells (fv (fun _ => .slice none 0 0)) 27))
  have bF := (Box.made ((w.alloc (.cells (a16 at_) 31)).alloc (.cells (fv (fun _ => .slice none 0 0)) 27)) 27 (fv (fun _ => .slice none 0 0)))
  rw [size_a] at bR
  rw [size_a, size_a] at bF
  have hb := ((bel_a1 w (.cells (a16 at_) 31)).alloc (by simp) (.cells (fv (fun _ => .slice none 0 0)) 27)).alloc (by simp; omega) (.cells (fv (fun _ => .slice none 0 0)) 27)
  have BB := hb.trans (b1.mono hb.size)
  have I0 : FivI w (w1.alloc (.cells #[.int .i64 (sz c 0 : Nat), .int .i64 (sz c 1 : Nat), .int .i64 (sz c 2 : Nat), .int .i64 (sz c 3 : Nat), .int .i64 (sz c 4 : Nat)] 50)) (w.heap.size + 1 + 1) w1.heap.size w.heap.size at_ (fun _ => 0) c 0 (fun i => f1 (at_ i % sz c i) 1) :=
    ⟨⟨fun k hk => by omega, fun k j _ hj => by omega, fun k hk => by omega⟩, (bF.below b1 bF.lt).alloc _, Box.made _ _ _, (bA.below b1 bA.lt).alloc _, (bR.below b1 bR.lt).alloc _, BB.alloc BB.size _⟩
  have II := hide I0
  have hFZ := hide (show w.heap.size + 1 + 1 < w1.heap.size from (bF.below b1 bF.lt).lt)
  clear bA bR bF hb BB I0 b1 S
  go_wp2
  have hS : (w1.alloc (.cells #[.int .i64 (sz c 0 : Nat), .int .i64 (sz c 1 : Nat), .int .i64 (sz c 2 : Nat), .int .i64 (sz c 3 : Nat), .int .i64 (sz c 4 : Nat)] 50)).heap.size = w1.heap.size + 1 := by simp
  have HS := hide hS
  clear hS
  generalize w1.alloc (.cells #[.int .i64 (sz c 0 : Nat), .int .i64 (sz c 1 : Nat), .int .i64 (sz c 2 : Nat), .int .i64 (sz c 3 : Nat), .int .i64 (sz c 4 : Nat)] 50) = w2 at *
  generalize w1.heap.size = Z at *
  go_loopw [9] (fun x wr => ∃ (i : Nat) (G : Nat → Nat), i ≤ 5 ∧ x = .int .i64 i ∧ FivI w wr (w.heap.size + 1 + 1) Z w.heap.size at_ G c i (fun i => f1 (at_ i % sz c i) 1)) (fun x _ => 5 - (intOf x).toNat)
  case atStart => exact ⟨0, _, by omega, rfl, unhide II⟩
  case round =>
    obtain ⟨i, G, hi, rfl, I1⟩ := hrel
    have IR := hide I1
    have hFl := I1.box.lt
    have hZl := I1.siz.lt
    have hAl := I1.ats.lt
    clear II HS
    by_cases hlt : i < 5
    · have hlt' : (i : Int) < 5 := by omega
      have cz := (I1.siz.cell i).trans (fvn_at (sz c) i hlt)
      have ca := (I1.ats.cell i).trans (a16_at at_ i hlt)
      have fF := I1.box.free i
      have cF := (I1.box.cell i).trans (fv_at (fu G c i) i hlt)
      have hA5 := ha i
      clear I1
      obtain ⟨z0, z1⟩ := unhide SZ i
      have FN := hide (fun (w' : World) => FivI.next (w' := w') (g := wr.heap.size) (unhide IR) hlt (by omega) (unhide hFZ) (by omega))
      generalize hz : sz c i = z at *
      have mk := fun w => make_ints w z (by omega)
      have hm : ((at_ i : Int)).tmod (z : Int) = ((at_ i % z : Nat) : Int) := rfl
      have hml : at_ i % z < z := Nat.mod_lt _ (by omega)
      have hz0 : ¬ (z : Int) = 0 := by omega
      generalize hmm : at_ i % z = m at *
      have HMM := hide hmm
      clear hmm
      have hFne : w.heap.size + 1 + 1 ≠ wr.heap.size := by omega
      have U3 : Upd (fun k => k = w.heap.size + 1 + 1) wr ((wr.setCell ⟨w.heap.size + 1 + 1, i, none⟩ (.slice (some ⟨wr.heap.size, 0, none⟩) z z)).alloc (.cells (nr (fun _ => 0) z).toArray 3)) :=
        ((Upd.refl (fun k => k = w.heap.size + 1 + 1) wr).setCell (p := ⟨w.heap.size + 1 + 1, i, none⟩) rfl _).alloc _
      have BG : Box ((wr.setCell ⟨w.heap.size + 1 + 1, i, none⟩ (.slice (some ⟨wr.heap.size, 0, none⟩) z z)).alloc (.cells (nr (fun _ => 0) z).toArray 3)) wr.heap.size 3 (nr (fun _ => 0) z).toArray :=
        made_set _ _ _ _ _
      have BF := ((unhide IR).box.set i (.slice (some ⟨wr.heap.size, 0, none⟩) z z)).alloc (.cells (nr (fun _ => 0) z).toArray 3)
      go_wp2
      clear ca cz
      generalize hw3 : (wr.setCell ⟨w.heap.size + 1 + 1, i, none⟩ (.slice (some ⟨wr.heap.size, 0, none⟩) z z)).alloc (.cells (nr (fun _ => 0) z).toArray 3) = w3 at *
      have cz := (((unhide IR).siz.keep U3 (by have := unhide hFZ; omega)).cell i).trans (fvn_at (sz c) i hlt)
      have ca := (((unhide IR).ats.keep U3 (by omega)).cell i).trans (a16_at at_ i hlt)
      rw [hz] at cz
      clear hw3
      have U4 := hide U3
      have BG4 := hide BG
      have BF4 := hide BF
      have sF : (w.heap.size + 1 + 1) < w3.heap.size := by have := U3.size; omega
      have cF3 : w3.cell? ⟨w.heap.size + 1 + 1, i, none⟩ = some (.slice (some ⟨wr.heap.size, 0, none⟩) z z) := (BF.cell i).trans (by rw [fv_set _ _ hlt, fv_at _ _ hlt, if_pos rfl])
      have fG := BG.free m
      have cG := (BG.cell m).trans (na_at _ _ _ hml)
      clear U3 BG BF cF fF mk
      go_quiet (fail)
      have U5 := hide ((unhide U4).drewN nq)
      have cF5 : (w3.drewN nq).cell? ⟨w.heap.size + 1 + 1, i, none⟩ = some (.slice (some ⟨wr.heap.size, 0, none⟩) z z) := cF3
      have fG5 : (w3.drewN nq).frozen? ⟨wr.heap.size, m, none⟩ = false := fG
      have cG5 : (w3.drewN nq).cell? ⟨wr.heap.size, m, none⟩ = some (.int .i64 ((0 : Nat) : Int)) := cG
      have BG5 := hide ((unhide BG4).drewN nq)
      have BF5 := hide ((unhide BF4).drewN nq)
      clear ca cz cF3 fG cG U4 BG4 BF4 sF
      generalize w3.drewN nq = w5 at *
      have hmli : (m : Int) < (z : Int) := by omega
      have hn := hide (hFne)
      go_wp2
      go_roundw
      case rel =>
        have hn' := unhide hn
        have bG := (unhide BG5).set m (.int .i64 1)
        have bF := (unhide BF5).other (p := ⟨wr.heap.size, m, none⟩) hn' (.int .i64 1)
        have u := upd_new (unhide U5) (p := ⟨wr.heap.size, m, none⟩) (Nat.le_refl _) (.int .i64 1)
        refine ⟨i + 1, fun k => if k = i then wr.heap.size else G k, by omega, by go_num, unhide FN _ u (Nat.le_refl _) ?_ bF⟩
        have e : (nr (fun _ => 0) z).toArray.setIfInBounds m (.int .i64 1) = (nr (f1 m 1) z).toArray := na_set (fun _ => 0) z m 1
        rw [← e]
        exact bG
      case measure => simp [intOf]; omega
    · obtain rfl : i = 5 := by omega
      have q := fun k (hk : k < 5) => (I1.box.cell k).trans (fv_at (fu G c 5) k hk)
      have q0 : wr.cell? ⟨w.heap.size + 1 + 1, 0, none⟩ = some (.slice (some ⟨G 0, 0, none⟩) (sz c 0) (sz c 0)) := q 0 (by omega)
      have q1 : wr.cell? ⟨w.heap.size + 1 + 1, 1, none⟩ = some (.slice (some ⟨G 1, 0, none⟩) (sz c 1) (sz c 1)) := q 1 (by omega)
      have q2 : wr.cell? ⟨w.heap.size + 1 + 1, 2, none⟩ = some (.slice (some ⟨G 2, 0, none⟩) (sz c 2) (sz c 2)) := q 2 (by omega)
      have q3 : wr.cell? ⟨w.heap.size + 1 + 1, 3, none⟩ = some (.slice (some ⟨G 3, 0, none⟩) (sz c 3) (sz c 3)) := q 3 (by omega)
      have q4 : wr.cell? ⟨w.heap.size + 1 + 1, 4, none⟩ = some (.slice (some ⟨G 4, 0, none⟩) (sz c 4) (sz c 4)) := q 4 (by omega)
      have r0 := I1.res.free 0
      have r1 := I1.res.free 1
      have r2 := I1.res.free 2
      have r3 := I1.res.free 3
      have r4 := I1.res.free 4
      have rr := I1.res.lt
      have t := fun k (hk : k < 5) => (I1.res.cell k).trans (fv_at (fun _ => .slice none 0 0) k hk)
      have t0 := t 0 (by omega)
      have t1 := t 1 (by omega)
      have t2 := t 2 (by omega)
      have t3 := t 3 (by omega)
      have t4 := t 4 (by omega)
      clear t q I1
      go_wp2
      have bx := (unhide IR).res
      have be := (unhide IR).bel
      have u : Upd (fun k => k = w.heap.size + 1) wr (((((wr.setCell ⟨w.heap.size + 1, 0, none⟩ (.slice (some ⟨G 0, 0, none⟩) (sz c 0) (sz c 0))).setCell ⟨w.heap.size + 1, 1, none⟩ (.slice (some ⟨G 1, 0, none⟩) (sz c 1) (sz c 1))).setCell ⟨w.heap.size + 1, 2, none⟩ (.slice (some ⟨G 2, 0, none⟩) (sz c 2) (sz c 2))).setCell ⟨w.heap.size + 1, 3, none⟩ (.slice (some ⟨G 3, 0, none⟩) (sz c 3) (sz c 3))).setCell ⟨w.heap.size + 1, 4, none⟩ (.slice (some ⟨G 4, 0, none⟩) (sz c 4) (sz c 4))) :=
        (((((Upd.refl (fun k => k = w.heap.size + 1) wr).setCell (p := ⟨w.heap.size + 1, 0, none⟩) rfl _).setCell (p := ⟨w.heap.size + 1, 1, none⟩) rfl _).setCell (p := ⟨w.heap.size + 1, 2, none⟩) rfl _).setCell (p := ⟨w.heap.size + 1, 3, none⟩) rfl _).setCell (p := ⟨w.heap.size + 1, 4, none⟩) rfl _
      have hb := (((((bx.set 0 (.slice (some ⟨G 0, 0, none⟩) (sz c 0) (sz c 0))).set 1 (.slice (some ⟨G 1, 0, none⟩) (sz c 1) (sz c 1))).set 2 (.slice (some ⟨G 2, 0, none⟩) (sz c 2) (sz c 2))).set 3 (.slice (some ⟨G 3, 0, none⟩) (sz c 3) (sz c 3))).set 4 (.slice (some ⟨G 4, 0, none⟩) (sz c 4) (sz c 4)))
      have hz := unhide hFZ
      refine bodyPost_ret (results_cell_row rfl _ _ (w.heap.size + 1) 27 (fv (gs G c)) (0, 0) _ rfl hb Tryd.underlying27 rfl (by kernel_rfl)) rfl ⟨⟨G, rfl, ?_⟩, ?_⟩
      · have r := (unhide IR).rws
        exact ⟨fun k hk => by have := r.low k hk; omega, r.rise, fun k hk => (r.row k hk).keep u (by have := r.low k hk; omega)⟩
      · exact be.trans (u.below _ be.size (fun k hk => by omega))
end Go.Proofs.YtgjpcjnhggcfdaaDoor.HFiv
