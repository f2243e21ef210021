/- Contracts: group.literal, Step, of a group whose codes have one symbol each. Conditions: the group and the reader lie apart in memory. -/
import Derived.Test.YtgjpcjnhggcfdaaDoorHPar
namespace Go.Proofs.YtgjpcjnhggcfdaaDoor.HStp
set_option linter.unusedVariables false
open Go.ChangeShapes Go.WideShapes Go.ChangeAt Go.RowKit Go.Proofs.YtgjpcjnhggcfdaaDoor.Core Go.Proofs.YtgjpcjnhggcfdaaDoor.Math Go.Proofs.YtgjpcjnhggcfdaaDoor.Bitin Go.Proofs.YtgjpcjnhggcfdaaDoor.Tre Go.Proofs.YtgjpcjnhggcfdaaDoor.Trr Go.Proofs.YtgjpcjnhggcfdaaDoor.PNum Go.Proofs.YtgjpcjnhggcfdaaDoor.PPrt Go.Proofs.YtgjpcjnhggcfdaaDoor.HNum Go.Proofs.YtgjpcjnhggcfdaaDoor.HSiz Go.Proofs.YtgjpcjnhggcfdaaDoor.HFit Go.Proofs.YtgjpcjnhggcfdaaDoor.HFiv Go.Proofs.YtgjpcjnhggcfdaaDoor.HNew Go.Proofs.YtgjpcjnhggcfdaaDoor.HHas Go.Proofs.YtgjpcjnhggcfdaaDoor.HTel Go.Proofs.YtgjpcjnhggcfdaaDoor.HPar

/-- Four numbers. -/
def f4 (s : Nat → Nat) : Array Value := #[.int .i64 (s 0), .int .i64 (s 1), .int .i64 (s 2), .int .i64 (s 3)]
theorem f4_set (s : Nat → Nat) (i z : Nat) (h : i < 4) : (f4 s).setIfInBounds i (.int .i64 z) = f4 (fun k => if k = i then z else s k) := by
  have : i = 0 ∨ i = 1 ∨ i = 2 ∨ i = 3 := by omega
  rcases this with rfl | rfl | rfl | rfl <;> rfl
theorem f4_congr {s t : Nat → Nat} (h : ∀ k, k < 4 → s k = t k) : f4 s = f4 t := by
  unfold f4; rw [h 0 (by omega), h 1 (by omega), h 2 (by omega), h 3 (by omega)]
/-- The first i of four. -/
def fs (s : Nat → Nat) (i k : Nat) : Nat := if k < i then s k else 0
/-- A group and a reader, apart. -/
structure GA (w : World) (lo hi g c : Nat) (T : Nat → Nat) (f : Nat → Nat → Int) (rl rh r bl i : Nat) (bc : Nat → Nat) : Prop where
  gr : Gr w lo hi g c T f
  rd : At w rl rh r bc bl (some i)
  ap : r < lo ∨ hi ≤ r
theorem GA.keep {S : Nat → Prop} {w w' : World} {lo hi g c : Nat} {T : Nat → Nat} {f : Nat → Nat → Int} {rl rh r bl i : Nat} {bc : Nat → Nat} (h : GA w lo hi g c T f rl rh r bl i bc) (u : Upd S w w') (h1 : ∀ k, lo ≤ k → k < hi → ¬ S k) (h2 : ∀ k, rl ≤ k → k < rh → ¬ S k) : GA w' lo hi g c T f rl rh r bl i bc :=
  ⟨h.gr.keep u h1, h.rd.keep u h2, h.ap⟩
/-- One more symbol was read: nothing but the reader may have turned. -/
structure GB (w : World) (lo hi g c : Nat) (T : Nat → Nat) (f : Nat → Nat → Int) (rl rh r bl i : Nat) (bc : Nat → Nat) (w' : World) : Prop where
  ga : GA w' lo hi g c T f rl rh r bl i bc
  upd : Upd (fun k => k = r) w w'
theorem one_read {w : World} {lo hi g c : Nat} {T : Nat → Nat} {f : Nat → Nat → Int} {rl rh r bl i : Nat} {bc : Nat → Nat} (h : GA w lo hi g c T f rl rh r bl i bc) (hc : ∀ k, bc k ≤ 255) (hbl : bl ≤ 1000000) (k : Nat) (hk : k < 5) (hm : many (f k) (sz c k) = 1) :
    Calls Tryd.prog 21 #[.pointer (some ⟨T k, 0, none⟩), .pointer (some ⟨r, 0, none⟩)] w fun e w' => e = .returned (.tuple #[.int .i64 (sel (f k) (sz c k)), .int .i64 0]) ∧ GB w lo hi g c T f rl rh r bl i bc w' := by
  have hl := h.gr.low
  refine (read_one (g + 1) hi (T k) (sz c k) (f k) rl rh r bl i bc hc hbl w (h.gr.tr k hk) h.rd (by have := h.ap; omega) hm).mono ?_
  rintro e w' ⟨rfl, a, u⟩
  exact ⟨rfl, ⟨h.gr.keep u (fun j h1 h2 => by have := h.ap; omega), a, h.ap⟩, u⟩
theorem f4_at (s : Nat → Nat) (i : Nat) (h : i < 4) : (f4 s)[i]? = some (.int .i64 (s i)) := by
  have : i = 0 ∨ i = 1 ∨ i = 2 ∨ i = 3 := by omega
  rcases this with rfl | rfl | rfl | rfl <;> rfl
theorem upd_row {S : Nat → Prop} {a w : World} (h : Upd S a w) {g : Nat} (hg : a.heap.size ≤ g) (cs : Array Value) : Upd S a (w.setRow g cs) :=
  ⟨h.os, h.tape, h.output, by simpa [World.setRow] using h.size, fun k hk hs => (setRow_other w g k cs (by omega)).trans (h.block k hk hs)⟩
theorem upd_row1 (w : World) (g : Nat) (cs : Array Value) : Upd (fun k => k = g) w (w.setRow g cs) :=
  ⟨rfl, rfl, rfl, by simp [World.setRow], fun k hk hs => setRow_other w g k cs hs⟩
theorem info_tk {t : Tk} : (Tryd.prog.info? 39).map (·.size) = some (tkc t).size := by
  rw [show (tkc t).size = 5 from rfl]; kernel_rfl
theorem tkc_one (t : Tk) : (tkc t).all (·.oneCell') = true := by simp [tkc, Value.oneCell']
/-- What literal has read of four. -/
structure GI0 (w wr : World) (lo hi g c : Nat) (T : Nat → Nat) (f : Nat → Nat → Int) (rl rh r bl i : Nat) (bc : Nat → Nat) (s : Nat → Nat) (k : Nat) : Prop where
  box : Box wr (w.heap.size + 1) 87 (f4 (fs s k))
  res : Box wr w.heap.size 39 (tkc ⟨0, 0, 0, 0, 0⟩)
  ga : GA wr lo hi g c T f rl rh r bl i bc
  upd : Upd (fun k => k = r) w wr
theorem GI0.next {w wr w' : World} {lo hi g c : Nat} {T : Nat → Nat} {f : Nat → Nat → Int} {rl rh r bl i : Nat} {bc : Nat → Nat} {s : Nat → Nat} {k : Nat} (h : GI0 w wr lo hi g c T f rl rh r bl i bc s k) (hk : k < 4) (b : GB wr lo hi g c T f rl rh r bl i bc w') (hr : r < w.heap.size) (hh : hi ≤ w.heap.size) (hrh : rh ≤ w.heap.size) :
    GI0 w (w'.setCell ⟨w.heap.size + 1, k, none⟩ (.int .i64 (s k))) lo hi g c T f rl rh r bl i bc s (k + 1) := by
  have us : Upd (fun k => k = w.heap.size + 1) w' (w'.setCell ⟨w.heap.size + 1, k, none⟩ (.int .i64 (s k))) := (Upd.refl (fun k => k = w.heap.size + 1) w').setCell (p := ⟨w.heap.size + 1, k, none⟩) rfl _
  refine ⟨?_, (h.res.keep b.upd (show ¬ w.heap.size = r by omega)).keep us (show ¬ w.heap.size = w.heap.size + 1 by omega), b.ga.keep us (fun j _ h2 => by show ¬ (j = w.heap.size + 1); omega) (fun j _ h2 => by show ¬ (j = w.heap.size + 1); omega), Ord.upd_new (h.upd.trans b.upd) (p := ⟨w.heap.size + 1, k, none⟩) (Nat.le_succ _) _⟩
  have b1 := (h.box.keep b.upd (show ¬ w.heap.size + 1 = r by omega)).set k (.int .i64 (s k))
  rw [f4_set _ _ _ hk, f4_congr (t := fs s (k + 1)) (fun j hj => by
    simp only [fs]
    by_cases e : j = k
    · subst e; simp
    · by_cases e2 : j < k
      · rw [if_neg e, if_pos e2, if_pos (by omega)]
      · rw [if_neg e, if_neg e2, if_neg (by omega)])] at b1
  exact b1
set_option maxHeartbeats 1000000 in
theorem literal22 {w : World} {lo hi g c : Nat} {T : Nat → Nat} {f : Nat → Nat → Int} {rl rh r bl i : Nat} {bc : Nat → Nat} (h : GA w lo hi g c T f rl rh r bl i bc) (hc : ∀ k, bc k ≤ 255) (hbl : bl ≤ 1000000) (hm : ∀ k, k < 5 → many (f k) (sz c k) = 1)
    (s : Nat → Nat) (hs : ∀ k, k < 4 → s k = sel (f k) (sz c k)) (hb : ∀ k, k < 4 → s k < 256) :
    Calls Tryd.prog 22 #[.pointer (some ⟨g, 0, none⟩), .pointer (some ⟨r, 0, none⟩), .int .i64 (s 0)] w fun e w' => e = .returned (.tuple #[.agg (tkc ⟨1, 0, 0, 0, ((s 3 * 256 + s 1) * 256 + s 0) * 256 + s 2⟩), .int .i64 0]) ∧ GB w lo hi g c T f rl rh r bl i bc w' := by
  obtain ⟨M, hM⟩ : ∃ M, ((s 3 * 256 + s 1) * 256 + s 0) * 256 + s 2 = M := ⟨_, rfl⟩
  rw [hM]
  have HME := hide hM
  clear hM
  have HS := hide hs
  have HM := hide hm
  have HBB := hide hb
  have rlt : r < w.heap.size := Nat.lt_of_lt_of_le h.rd.2.1 h.rd.2.2.1
  have hhi := h.gr.hi_le
  have hrh := h.rd.2.2.1
  have GG := hide (h.keep (((Upd.refl (fun _ => False) w).alloc (.cells (tkc ⟨0, 0, 0, 0, 0⟩) 39)).alloc (.cells #[.int .i64 (s 0), .int .i64 0, .int .i64 0, .int .i64 0] 87)) (fun _ _ _ h => h) (fun _ _ _ h => h))
  clear h hs hm hb
  have bF := Box.made (w.alloc (.cells (tkc ⟨0, 0, 0, 0, 0⟩) 39)) 87 (f4 (fs s 1))
  rw [size_a] at bF
  have bR := (Box.made w 39 (tkc ⟨0, 0, 0, 0, 0⟩)).alloc (.cells (f4 (fs s 1)) 87)
  have u0 := ((Upd.refl (fun k => k = r) w).alloc (.cells (tkc ⟨0, 0, 0, 0, 0⟩) 39)).alloc (.cells (f4 (fs s 1)) 87)
  have GI : GI0 w ((w.alloc (.cells #[.int .i64 0, .int .i64 0, .int .i64 0, .int .i64 0, .int .u32 0] 39)).alloc (.cells #[.int .i64 (s 0), .int .i64 0, .int .i64 0, .int .i64 0] 87)) lo hi g c T f rl rh r bl i bc s 1 := ⟨bF, bR, unhide GG, u0⟩
  have G0 := hide GI
  clear bF bR u0 GI GG
  go_enter Tryd.func22, Tryd.ntmps22
  go_wp2
  generalize (w.alloc (.cells #[.int .i64 0, .int .i64 0, .int .i64 0, .int .i64 0, .int .u32 0] 39)).alloc (.cells #[.int .i64 (s 0), .int .i64 0, .int .i64 0, .int .i64 0] 87) = w2 at *
  go_loopw [9] (fun x wr => ∃ k : Nat, 1 ≤ k ∧ k ≤ 4 ∧ x = .int .i64 k ∧ GI0 w wr lo hi g c T f rl rh r bl i bc s k) (fun x _ => 4 - (intOf x).toNat)
  case atStart => exact ⟨1, by omega, by omega, rfl, unhide G0⟩
  case round =>
    obtain ⟨k, hk1, hk4, rfl, I1⟩ := hrel
    have IR := hide I1
    clear G0
    by_cases hlt : k < 4
    · have hlt' : (k : Int) < 4 := by omega
      have gl := I1.ga.gr.box.lt
      have gc := (I1.ga.gr.box.cell k).trans (grc_at _ _ k (by omega))
      rw [show tp T 5 k = .pointer (some ⟨T k, 0, none⟩) from if_pos (by omega)] at gc
      have RD := hide (one_read I1.ga hc hbl k (by omega) (unhide HM k (by omega)))
      rw [← unhide HS k hlt] at RD
      clear I1
      go_wp2_with fail
      refine (unhide RD).mono ?_
      rintro e w5 ⟨rfl, gb⟩
      have bx := (unhide IR).box.keep gb.upd (show ¬ w.heap.size + 1 = r by omega)
      have xl := bx.lt
      have xf := bx.free k
      have xc : ∃ v, w5.cell? ⟨w.heap.size + 1, k, none⟩ = some v := ⟨_, (bx.cell k).trans (f4_at _ _ hlt)⟩
      obtain ⟨xv, xc⟩ := xc
      have IN := hide ((unhide IR).next hlt gb rlt hhi hrh)
      clear gb bx gc gl RD
      go_wp2
      go_roundw
      case rel => exact ⟨k + 1, by omega, by omega, by go_num, unhide IN⟩
      case measure => simp [intOf]; omega
    · obtain rfl : k = 4 := by omega
      have c0 : wr.cell? ⟨w.heap.size + 1, 0, none⟩ = some (.int .i64 (s 0)) := I1.box.cell 0
      have c1 : wr.cell? ⟨w.heap.size + 1, 1, none⟩ = some (.int .i64 (s 1)) := I1.box.cell 1
      have c2 : wr.cell? ⟨w.heap.size + 1, 2, none⟩ = some (.int .i64 (s 2)) := I1.box.cell 2
      have c3 : wr.cell? ⟨w.heap.size + 1, 3, none⟩ = some (.int .i64 (s 3)) := I1.box.cell 3
      have h0 := unhide HBB 0 (by omega)
      have h1 := unhide HBB 1 (by omega)
      have h2 := unhide HBB 2 (by omega)
      have h3 := unhide HBB 3 (by omega)
      clear I1
      have MK := make11 (s 3) (s 1) (s 0) (s 2) h3 h1 h0 h2 wr
      rw [unhide HME] at MK
      have MK := hide MK
      go_wp2_with fail
      refine (unhide MK).mono ?_
      rintro e w' ⟨rfl, rfl⟩
      go_wp2_with (first | (refine wpList_store_row rfl 39 (.tmp 6) (.tmp 51) rfl w.heap.size (tkc ⟨1, 0, 0, 0, M⟩) rfl rfl 39 _ (unhide IR).res info_tk rfl (tkc_one _) ?_) | fail)
      exact bodyPost_ret (results_row_tmp rfl _ _ w.heap.size 39 (tkc ⟨1, 0, 0, 0, M⟩) (0, 0) _ rfl (setRow_box (unhide IR).res _) Tryd.underlying39 rfl info_tk) rfl ⟨rfl, (unhide IR).ga.keep (upd_row1 _ _ _) (fun j _ h => by show ¬ (j = w.heap.size); omega) (fun j _ h => by show ¬ (j = w.heap.size); omega), upd_row (unhide IR).upd (Nat.le_refl _) _⟩
set_option maxHeartbeats 1000000 in
theorem step8 {w : World} {lo hi g c : Nat} {T : Nat → Nat} {f : Nat → Nat → Int} {rl rh r bl i : Nat} {bc : Nat → Nat} (h : GA w lo hi g c T f rl rh r bl i bc) (hc : ∀ k, bc k ≤ 255) (hbl : bl ≤ 1000000) (hm : ∀ k, k < 5 → many (f k) (sz c k) = 1)
    (s : Nat → Nat) (hs : ∀ k, k < 4 → s k = sel (f k) (sz c k)) (hb : ∀ k, k < 4 → s k < 256) (wd : Int) (h1 : 1 ≤ wd) (h2 : wd ≤ 16384) :
    Calls Tryd.prog 8 #[.pointer (some ⟨g, 0, none⟩), .pointer (some ⟨r, 0, none⟩), .int .i64 wd] w fun e w' => e = .returned (.tuple #[.agg (tkc ⟨1, 0, 0, 0, ((s 3 * 256 + s 1) * 256 + s 0) * 256 + s 2⟩), .int .i64 0]) ∧ GB w lo hi g c T f rl rh r bl i bc w' := by
  have IW := hide (fun w => isw20 wd h1 h2 w)
  have rlt : r < w.heap.size := Nat.lt_of_lt_of_le h.rd.2.1 h.rd.2.2.1
  have hhi := h.gr.hi_le
  have hrh := h.rd.2.2.1
  have hg1 := h.gr.box.lt
  have gc := (h.gr.box.cell 0).trans (grc_at _ _ 0 (by omega))
  rw [show tp T 5 0 = .pointer (some ⟨T 0, 0, none⟩) from rfl] at gc
  have GG := hide (h.keep ((Upd.refl (fun _ => False) w).alloc (.cells (tkc ⟨0, 0, 0, 0, 0⟩) 39)) (fun _ _ _ h => h) (fun _ _ _ h => h))
  have BR := hide (Box.made w 39 (tkc ⟨0, 0, 0, 0, 0⟩))
  have RD := hide (one_read (unhide GG) hc hbl 0 (by omega) (hm 0 (by omega)))
  rw [← hs 0 (by omega)] at RD
  have LI := hide (fun (w' : World) (h : GA w' lo hi g c T f rl rh r bl i bc) => literal22 h hc hbl hm s hs hb)
  have h0 : ((s 0 : Nat) : Int) < 256 := by have := hb 0 (by omega); omega
  simp only [tkc] at GG BR RD
  clear h hs hm hb h1 h2
  generalize ((s 3 * 256 + s 1) * 256 + s 0) * 256 + s 2 = M at *
  generalize s 0 = s0 at *
  go_enter Tryd.func8, Tryd.ntmps8
  go_wp2_with fail
  refine (unhide IW _).mono ?_
  rintro e w' ⟨rfl, hw'⟩
  subst hw'
  go_wp2_with fail
  refine (unhide RD).mono ?_
  rintro e w3 ⟨rfl, gb⟩
  have B3 := hide ((unhide BR).keep gb.upd (show ¬ w.heap.size = r by omega))
  have U3 := hide (((Upd.refl (fun k => k = r) w).alloc _).trans gb.upd)
  have L3 := hide (unhide LI w3 gb.ga)
  clear gb RD LI BR GG
  go_wp2_with fail
  refine (unhide L3).mono ?_
  rintro e w4 ⟨rfl, gb⟩
  have B4 := hide ((unhide B3).keep gb.upd (show ¬ w.heap.size = r by omega))
  have U4 := hide ((unhide U3).trans gb.upd)
  have G4 := hide gb.ga
  clear gb
  go_wp2_with (first | (refine wpList_store_row rfl 39 (.tmp 6) (.tmp 40) rfl w.heap.size (tkc ⟨1, 0, 0, 0, M⟩) rfl rfl 39 _ (unhide B4) info_tk rfl (tkc_one _) ?_) | fail)
  exact bodyPost_ret (results_row_tmp rfl _ _ w.heap.size 39 (tkc ⟨1, 0, 0, 0, M⟩) (0, 0) _ rfl (setRow_box (unhide B4) _) Tryd.underlying39 rfl info_tk) rfl ⟨rfl, (unhide G4).keep (upd_row1 _ _ _) (fun j _ h => by show ¬ (j = w.heap.size); omega) (fun j _ h => by show ¬ (j = w.heap.size); omega), upd_row (unhide U4) (Nat.le_refl _) _⟩
end Go.Proofs.YtgjpcjnhggcfdaaDoor.HStp
