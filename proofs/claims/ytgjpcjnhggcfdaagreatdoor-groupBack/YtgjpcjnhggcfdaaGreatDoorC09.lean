/-
  Contract: group.New where each code may be; a group in memory. Conditions: the cache may be, the lengths are complete.
  Contracts: tree.Cost, group.has. Conditions: the group lies in memory.
  Plain facts: append onto a row of the call's own, and in which blocks it may lie behind it; bits and bytes of a number. No conditions.
  Contract: package bitout's own add: so many bits of a number come behind. Conditions: the writer lies in memory, its bits are few.
-/
import Derived.Test.YtgjpcjnhggcfdaaGreatDoorC08
import Derived.Test.YtgjpcjnhggcfdaaGreatDoorC05
import Derived.Deep.RegionLaw
import Derived.Laws.MathBits
import Derived.BigRegion
namespace Go.Proofs.YtgjpcjnhggcfdaaGreatDoor.HNew
set_option linter.unusedVariables false
open Go.ChangeShapes Go.WideShapes Go.ChangeAt Go.RowKit Go.Proofs.YtgjpcjnhggcfdaaGreatDoor.Core Go.Proofs.YtgjpcjnhggcfdaaGreatDoor.Gnd Go.Proofs.YtgjpcjnhggcfdaaGreatDoor.Math Go.Proofs.YtgjpcjnhggcfdaaGreatDoor.Tre Go.Proofs.YtgjpcjnhggcfdaaGreatDoor.HNum Go.Proofs.YtgjpcjnhggcfdaaGreatDoor.HSiz Go.Proofs.YtgjpcjnhggcfdaaGreatDoor.HFit Go.Proofs.YtgjpcjnhggcfdaaGreatDoor.HFiv

theorem tr_wide {w : World} {lo hi g n lo' hi' : Nat} {c : Nat → Int} (h : Tr w lo hi g c n) (h1 : lo' ≤ lo) (h2 : hi ≤ hi') (h3 : hi' ≤ w.heap.size) : Tr w lo' hi' g c n := by
  obtain ⟨a1, a2, a3, tb, sb, le, b1, b2, b3, b4, r⟩ := h
  exact ⟨by omega, by omega, h3, tb, sb, le, by omega, by omega, by omega, by omega, r⟩
/-- The first i trees. -/
def tp (T : Nat → Nat) (i k : Nat) : Value := if k < i then .pointer (some ⟨T k, 0, none⟩) else .pointer none
/-- A group's cells. -/
def grc (u : Nat → Value) (p : Nat) : Array Value := #[u 0, u 1, u 2, u 3, u 4, .int .i64 p]
theorem grc_at (u : Nat → Value) (p i : Nat) (h : i < 5) : (grc u p)[i]? = some (u i) := by
  rcases lt5 h with rfl | rfl | rfl | rfl | rfl <;> rfl
theorem grc_5 (u : Nat → Value) (p : Nat) : (grc u p)[5]? = some (.int .i64 p) := rfl
theorem grc_set (u : Nat → Value) (p i : Nat) (h : i < 5) (v : Value) : (grc u p).setIfInBounds i v = grc (fun k => if k = i then v else u k) p := by
  rcases lt5 h with rfl | rfl | rfl | rfl | rfl <;> rfl
theorem grc_congr {u v : Nat → Value} (p : Nat) (h : ∀ i, i < 5 → u i = v i) : grc u p = grc v p := by
  unfold grc; rw [h 0 (by omega), h 1 (by omega), h 2 (by omega), h 3 (by omega), h 4 (by omega)]
/-- The first i codes of a group. -/
structure GrI (w : World) (lo hi g c i : Nat) (T : Nat → Nat) (f : Nat → Nat → Int) : Prop where
  box : Box w g 67 (grc (tp T i) (pl c))
  tr : ∀ k, k < i → Tr w (g + 1) hi (T k) (f k) (sz c k)
  low : lo ≤ g
  lt : g < hi
  hi_le : hi ≤ w.heap.size
theorem GrI.keep {S : Nat → Prop} {w w' : World} {lo hi g c i : Nat} {T : Nat → Nat} {f : Nat → Nat → Int} (h : GrI w lo hi g c i T f) (u : Upd S w w') (hs : ∀ k, lo ≤ k → k < hi → ¬ S k) : GrI w' lo hi g c i T f :=
  ⟨h.box.keep u (hs g h.low h.lt), fun k hk => (h.tr k hk).keep u (fun j h1 h2 => hs j (by have := h.low; omega) h2), h.low, h.lt, Nat.le_trans h.hi_le u.size⟩
theorem GrI.below {w w' : World} {lo hi g c i : Nat} {T : Nat → Nat} {f : Nat → Nat → Int} (h : GrI w lo hi g c i T f) (u : Below w.heap.size w w') : GrI w' lo hi g c i T f :=
  h.keep (Upd.ofBelow (S := fun _ => False) u) (fun _ _ _ h => h)
theorem GrI.next {w w' : World} {lo hi g c i t : Nat} {T : Nat → Nat} {f : Nat → Nat → Int} (h : GrI w lo hi g c i T f) (hi5 : i < 5) (u : Below w.heap.size w w') (ht : Tr w' w.heap.size w'.heap.size t (f i) (sz c i)) :
    GrI (w'.setCell ⟨g, i, none⟩ (.pointer (some ⟨t, 0, none⟩))) lo w'.heap.size g c (i + 1) (fun k => if k = i then t else T k) f := by
  have s := u.size
  have hl := h.lt
  have hh := h.hi_le
  have us : Upd (fun k => k = g) w' (w'.setCell ⟨g, i, none⟩ (.pointer (some ⟨t, 0, none⟩))) := (Upd.refl (fun k => k = g) w').setCell (p := ⟨g, i, none⟩) rfl _
  have h1 := h.below u
  refine ⟨?_, fun k hk => ?_, h.low, by omega, by simp [World.setCell]⟩
  · have b := h1.box.set i (.pointer (some ⟨t, 0, none⟩))
    rw [grc_set _ _ _ hi5] at b
    rw [grc_congr (v := tp (fun k => if k = i then t else T k) (i + 1)) _ (fun k _ => ?_)] at b
    · exact b
    · unfold tp
      by_cases e : k = i
      · subst e; simp
      · by_cases e2 : k < i
        · have e3 : k < i + 1 := by omega
          simp only [if_neg e, if_pos e2, if_pos e3]
        · have e3 : ¬ k < i + 1 := by omega
          simp only [if_neg e, if_neg e2, if_neg e3]
  · by_cases e : k = i
    · subst e
      simp only [if_true]
      exact tr_wide (ht.keep us (fun j a b => by omega)) (by omega) (Nat.le_refl _) (by simp [World.setCell])
    · simp only [if_neg e]
      exact tr_wide ((h1.tr k (by omega)).keep us (fun j a b => by omega)) (Nat.le_refl _) (by omega) (by simp [World.setCell])
/-- A group in memory. -/
def Gr (w : World) (lo hi g c : Nat) (T : Nat → Nat) (f : Nat → Nat → Int) : Prop := GrI w lo hi g c 5 T f
/-- What New answers. -/
structure NewR (w : World) (c : Nat) (f : Nat → Nat → Int) (e : Ending) (w' : World) : Prop where
  ex : ∃ g T, e = .returned (.tuple #[.pointer (some ⟨g, 0, none⟩), .int .i64 0]) ∧ Gr w' w.heap.size w'.heap.size g c T f
  bel : Below w.heap.size w w'
set_option maxHeartbeats 2000000 in
theorem new6 (a : Nat → Option Addr) (cp : Nat → Nat) (c : Nat) (h : c ≤ 11) (f : Nat → Nat → Int) (w : World) (src : ∀ i, i < 5 → Ints .i64 w (sl5 a (sz c) cp i) (sz c i) (f i)) (hch : ∀ i, i < 5 → chk (f i) (sz c i) = 0) :
    Calls Tryz.prog 7 #[.agg (fv (sl5 a (sz c) cp)), .int .i64 c] w fun e w' => NewR w c f e w' := by
  have FI := hide (fun w => fits16 a cp c h w)
  have SI := hide (fun w => sizes14 c h w)
  have PL := hide (fun w => places17 (sz c) (pl c) (by simp [sz]) (by have := pl_le c h; omega) w)
  have IX := hide (index_fv (sl5 a (sz c) cp))
  have SZ := hide (fun i => sz_bd c i h)
  have SRC := hide src
  have HCH := hide hch
  clear h src hch
  simp only [fv] at *
  go_enter Tryz.func7, Tryz.ntmps7
  go_wp2_with fail
  refine (unhide FI _).mono ?_
  rintro e w1 ⟨rfl, b1⟩
  have b0 := (Box.made w 30 #[sl5 a (sz c) cp 0, sl5 a (sz c) cp 1, sl5 a (sz c) cp 2, sl5 a (sz c) cp 3, sl5 a (sz c) cp 4]).below b1 (by simp)
  have B1 := hide ((bel_a1 w (.cells #[sl5 a (sz c) cp 0, sl5 a (sz c) cp 1, sl5 a (sz c) cp 2, sl5 a (sz c) cp 3, sl5 a (sz c) cp 4] 30)).trans (b1.mono (by simp)))
  have X1 := hide b0
  clear b1 b0
  go_wp2_with fail
  refine (unhide SI _).mono ?_
  rintro e w2 ⟨rfl, b2⟩
  have X2 := hide ((unhide X1).below b2 (unhide X1).lt)
  have B2 := hide (bel_into (unhide B1) b2)
  clear b2 X1 B1
  go_wp2_with fail
  refine (unhide PL _).mono ?_
  rintro e w3 ⟨rfl, b3⟩
  have X3 := hide ((unhide X2).below b3 (unhide X2).lt)
  have B3 := hide (bel_into (unhide B2) b3)
  clear b3 X2 B2
  have x0 : w3.cell? ⟨w.heap.size, 0, none⟩ = some (sl5 a (sz c) cp 0) := (unhide X3).cell 0
  have x1 : w3.cell? ⟨w.heap.size, 1, none⟩ = some (sl5 a (sz c) cp 1) := (unhide X3).cell 1
  have x2 : w3.cell? ⟨w.heap.size, 2, none⟩ = some (sl5 a (sz c) cp 2) := (unhide X3).cell 2
  have x3 : w3.cell? ⟨w.heap.size, 3, none⟩ = some (sl5 a (sz c) cp 3) := (unhide X3).cell 3
  have x4 : w3.cell? ⟨w.heap.size, 4, none⟩ = some (sl5 a (sz c) cp 4) := (unhide X3).cell 4
  have xl := (unhide X3).lt
  go_wp2
  have bz := (unhide B3).size
  have G0 : GrI (w3.alloc (.cells #[.pointer none, .pointer none, .pointer none, .pointer none, .pointer none, .int .i64 (pl c)] 67)) w.heap.size (w3.heap.size + 1) w3.heap.size c 0 (fun _ => 0) f :=
    ⟨Box.made w3 67 _, fun k hk => by omega, bz, by omega, by simp⟩
  have B4 := hide ((unhide B3).alloc bz (.cells #[.pointer none, .pointer none, .pointer none, .pointer none, .pointer none, .int .i64 (pl c)] 67))
  have GG := hide G0
  clear G0 x0 x1 x2 x3 x4 xl X3 B3 bz FI SI PL
  generalize w3.alloc (.cells #[.pointer none, .pointer none, .pointer none, .pointer none, .pointer none, .int .i64 (pl c)] 67) = w4 at *
  generalize w3.heap.size = g at *
  go_loopw [21] (fun x wr => ∃ (i hi : Nat) (T : Nat → Nat), i ≤ 5 ∧ x = .int .i64 i ∧ GrI wr w.heap.size hi g c i T f ∧ Below w.heap.size w wr) (fun x _ => 5 - (intOf x).toNat)
  case atStart => exact ⟨0, _, _, by omega, rfl, unhide GG, unhide B4⟩
  case round =>
    obtain ⟨i, hi, T, hi5, rfl, G1, be⟩ := hrel
    have GI := hide G1
    have BE := hide be
    clear GG B4
    by_cases hlt : i < 5
    · have hlt' : (i : Int) < 5 := by omega
      have ix := unhide IX i hlt
      have TN := hide (tnew (sl5 a (sz c) cp i) (sz c i) (f i) (by have := (unhide SZ i).2; omega) (unhide HCH i hlt) wr ((unhide SRC i hlt).keep be))
      clear G1 be
      go_wp2_with fail
      refine (unhide TN).mono ?_
      rintro e w5 ⟨t, rfl, ht, b5⟩
      have GN := hide (GrI.next (unhide GI) hlt b5 ht)
      have gx := (unhide GI).below b5
      have gl := gx.box.lt
      have gf := gx.box.free i
      have gc := (gx.box.cell i).trans (grc_at _ _ i hlt)
      have hg0 := (unhide GI).low
      have BN := hide ((bel_into (unhide BE) b5).setCell (p := ⟨g, i, none⟩) hg0 (.pointer (some ⟨t, 0, none⟩)))
      clear gx b5 ht TN hg0
      go_wp2
      go_roundw
      case rel => exact ⟨i + 1, _, _, by omega, by go_num, unhide GN, unhide BN⟩
      case measure => simp [intOf]; omega
    · obtain rfl : i = 5 := by omega
      have hh := G1.hi_le
      clear G1 be
      go_wp2
      go_ret2
      exact ⟨⟨_, T, rfl, ⟨(unhide GI).box, fun k hk => tr_wide ((unhide GI).tr k hk) (Nat.le_refl _) hh (Nat.le_refl _), (unhide GI).low, Nat.lt_of_lt_of_le (unhide GI).lt hh, Nat.le_refl _⟩⟩, unhide BE⟩
end Go.Proofs.YtgjpcjnhggcfdaaGreatDoor.HNew

namespace Go.Proofs.YtgjpcjnhggcfdaaGreatDoor.HHas
set_option linter.unusedVariables false
open Go.ChangeShapes Go.WideShapes Go.ChangeAt Go.RowKit Go.Proofs.YtgjpcjnhggcfdaaGreatDoor.Core Go.Proofs.YtgjpcjnhggcfdaaGreatDoor.Gnd Go.Proofs.YtgjpcjnhggcfdaaGreatDoor.Math Go.Proofs.YtgjpcjnhggcfdaaGreatDoor.Dec Go.Proofs.YtgjpcjnhggcfdaaGreatDoor.Wrd Go.Proofs.YtgjpcjnhggcfdaaGreatDoor.Cou Go.Proofs.YtgjpcjnhggcfdaaGreatDoor.Tre Go.Proofs.YtgjpcjnhggcfdaaGreatDoor.HNum Go.Proofs.YtgjpcjnhggcfdaaGreatDoor.HSiz Go.Proofs.YtgjpcjnhggcfdaaGreatDoor.HFit Go.Proofs.YtgjpcjnhggcfdaaGreatDoor.HFiv Go.Proofs.YtgjpcjnhggcfdaaGreatDoor.HNew

/-- What Cost answers. -/
def cosV (c : Nat → Int) (n m : Nat) : Int := if hasB c n m = true then qq c n m else 0
theorem cost43 (lo hi g n : Nat) (c : Nat → Int) (hg : Rng c n) (m : Nat) (w : World) (h : Tr w lo hi g c n) :
    Calls Tryz.prog 48 #[.pointer (some ⟨g, 0, none⟩), .int .i64 m] w fun e w' => e = .returned (.tuple #[.int .i64 (cosV c n m), .bool (hasB c n m)]) ∧ w' = w := by
  have HA := has33 lo hi g n c hg m w h
  unfold cosV
  by_cases hb : hasB c n (m : Int) = true
  · have hm : m < n ∧ c m ≠ 0 := by
      unfold hasB at hb
      have := of_decide_eq_true hb
      exact ⟨by omega, this.2.2⟩
    have hq1 := qq_bd hg hm.1
    rw [if_pos hb]
    rw [hb] at HA ⊢
    obtain ⟨h1, h2, h3, tb, sb, le, a1, a2, a3, a4, a5, a6, a7, a8, a9, a10⟩ := h
    have c0 := (a8.cell 0).trans (tc_0 _ _ _ _)
    have w1 := (a9.cell (m * 2 + 1)).trans (wrow_cnt _ _ n m hm.1)
    have HH := hide HA
    have hml : (m : Int) < (n : Int) := by omega
    clear HA hb a8 a9 a10 a6 a7
    generalize qq c n m = x at *
    go_enter Tryz.func48, Tryz.ntmps48
    go_wp2_with fail
    refine (unhide HH).mono ?_
    rintro e w2 ⟨rfl, rfl⟩
    go_wp2
    go_ret2
    exact ⟨rfl, rfl⟩
  · have hb' : hasB c n (m : Int) = false := by simpa using hb
    rw [if_neg hb]
    rw [hb'] at HA ⊢
    have HH := hide HA
    clear HA h hb hb'
    go_enter Tryz.func48, Tryz.ntmps48
    go_wp2_with fail
    refine (unhide HH).mono ?_
    rintro e w2 ⟨rfl, rfl⟩
    go_wp2
    go_ret2
    exact ⟨rfl, rfl⟩
theorem prc_cell (q : Nat → Pa) (i : Nat) (h : i < 5) : (prc q).extract (i * 4) (i * 4 + 4) = pc (q i) := by
  rcases lt5 h with rfl | rfl | rfl | rfl | rfl <;> rfl
theorem index_prc (q : Nat → Pa) (i : Nat) (h : i < 5) (w : World) : (Instr.index 59 (.agg (prc q)) (.int .i64 i)).run Tryz.prog w = .ok (.agg (pc (q i))) w := by
  rcases lt5 h with rfl | rfl | rfl | rfl | rfl <;> kernel_rfl
theorem info_prc {q : Nat → Pa} : (Tryz.prog.info? 59).map (·.size) = some (prc q).size := by
  rw [prc_size]; kernel_rfl
/-- Has the part a code, if it is there? -/
def okU (c : Nat) (f : Nat → Nat → Int) (q : Nat → Pa) (i : Nat) : Bool := !(q i).th || hasB (f i) (sz c i) (q i).sy
/-- Have all parts codes? -/
def okA (c : Nat) (f : Nat → Nat → Int) (q : Nat → Pa) : Bool := okU c f q 0 && okU c f q 1 && okU c f q 2 && okU c f q 3 && okU c f q 4
theorem okA_no {c : Nat} {f : Nat → Nat → Int} {q : Nat → Pa} {i : Nat} (h : i < 5) (e : okU c f q i = false) : okA c f q = false := by
  unfold okA
  rcases lt5 h with rfl | rfl | rfl | rfl | rfl <;> simp [e]
theorem okA_yes {c : Nat} {f : Nat → Nat → Int} {q : Nat → Pa} (h : ∀ i, i < 5 → okU c f q i = true) : okA c f q = true := by
  unfold okA
  simp [h 0 (by omega), h 1 (by omega), h 2 (by omega), h 3 (by omega), h 4 (by omega)]
theorem okA_at {c : Nat} {f : Nat → Nat → Int} {q : Nat → Pa} (h : okA c f q = true) {i : Nat} (hi : i < 5) : okU c f q i = true := by
  cases e : okU c f q i
  · rw [okA_no hi e] at h; cases h
  · rfl
set_option maxHeartbeats 2000000 in
theorem has25 (lo hi g c : Nat) (T : Nat → Nat) (f : Nat → Nat → Int) (hr : ∀ i, i < 5 → Rng (f i) (sz c i)) (q : Nat → Pa) (w : World) (h : Gr w lo hi g c T f) :
    Calls Tryz.prog 24 #[.pointer (some ⟨g, 0, none⟩), .agg (prc q)] w fun e w' => e = .returned (.bool (okA c f q)) ∧ Below w.heap.size w w' := by
  have GG := hide h
  have HR := hide hr
  have IX := hide (index_prc q)
  clear h hr
  have BQ := hide (Box.made w 59 (prc q))
  go_enter Tryz.func24, Tryz.ntmps24
  go_wp2_with (first | (refine wpList_load_row rfl 59 (.tmp 3) rfl w.heap.size rfl 59 (prc q) (0, 0) _ (unhide BQ) Tryz.underlying59 rfl info_prc ?_) | fail)
  have G1 := hide ((unhide GG).below (bel_a1 w (.cells (prc q) 59)))
  have B1 := hide (bel_a1 w (.cells (prc q) 59))
  clear BQ
  generalize w.alloc (.cells (prc q) 59) = w1 at *
  go_loopw [10] (fun x wr => ∃ i : Nat, i ≤ 5 ∧ x = .int .i64 i ∧ (∀ k, k < i → okU c f q k = true) ∧ Gr wr lo hi g c T f ∧ Below w.heap.size w wr) (fun x _ => 5 - (intOf x).toNat)
  case atStart => exact ⟨0, by omega, rfl, fun k hk => by omega, unhide G1, unhide B1⟩
  case round =>
    obtain ⟨i, hi5, rfl, ok, G2, be⟩ := hrel
    have OK := hide ok
    have BE := hide be
    have GR := hide G2
    clear G1 B1 ok
    by_cases hlt : i < 5
    · have hlt' : (i : Int) < 5 := by omega
      have ix := unhide IX i hlt
      have gl := G2.box.lt
      have gc := (G2.box.cell i).trans (grc_at _ _ i hlt)
      have tv : tp T 5 i = .pointer (some ⟨T i, 0, none⟩) := if_pos hlt
      rw [tv] at gc
      have bA := hide (bel_a1 wr (.cells (pc (q i)) 58))
      have TT := hide ((G2.tr i hlt).below (bel_a1 wr (.cells (pc (q i)) 58)))
      have CO := hide (fun (n : Nat) => cost43 (g + 1) hi (T i) (sz c i) (f i) (unhide HR i hlt) (q i).sy ((wr.alloc (.cells (pc (q i)) 58)).drewN n) ((unhide TT).keep ((Upd.refl (fun _ => False) _).drewN n) (fun _ _ _ h => h)))
      have BX := hide (Box.made wr 58 (pc (q i)))
      have okd : okU c f q i = (!(q i).th || hasB (f i) (sz c i) (q i).sy) := rfl
      have OKD := hide okd
      clear G2 be tv okd
      generalize T i = t at *
      generalize hasB (f i) (sz c i) (q i).sy = hb at *
      generalize cosV (f i) (sz c i) (q i).sy = x at *
      rcases hq : q i with ⟨th, sy, bi, ex⟩
      clear TT
      rw [hq] at ix CO BX OKD bA
      simp only [pc] at *
      cases th with
      | false =>
        have GN := hide ((unhide GR).below (bel_a1 wr (.cells #[.bool false, .int .i64 sy, .int .i64 bi, .int .u32 ex] 58)))
        have BN := hide (bel_into (unhide BE) (unhide bA))
        clear gc gl CO BX
        go_wp2
        go_roundw
        case rel => exact ⟨i + 1, by omega, by go_num, fun k hk => by rcases Nat.lt_or_eq_of_le (Nat.le_of_lt_succ hk) with e | e; exact unhide OK k e; (rw [e, unhide OKD]; rfl), unhide GN, unhide BN⟩
        case measure => simp [intOf]; omega
      | true =>
        have GN := hide ((unhide GR).below (bel_a1 wr (.cells #[.bool true, .int .i64 sy, .int .i64 bi, .int .u32 ex] 58)))
        have BN := hide (bel_into (unhide BE) (unhide bA))
        cases hb with
        | false =>
          go_wp2
          go_quiet ((go_at_call 48; exact Calls.quiet_of_same (unhide CO _)))
          have BE2 := hide (bel_drN (unhide BN) nq)
          clear gc gl CO BX
          generalize (wr.alloc (.cells #[.bool true, .int .i64 sy, .int .i64 bi, .int .u32 ex] 58)).drewN nq = w7 at *
          go_wp2
          go_ret
          exact ⟨ret_bool (okA_no hlt (unhide OKD)).symm, unhide BE2⟩
        | true =>
          go_wp2
          go_quiet ((go_at_call 48; exact Calls.quiet_of_same (unhide CO _)))
          have BE2 := hide (bel_drN (unhide BN) nq)
          have GN2 := hide ((unhide GN).keep ((Upd.refl (fun _ => False) _).drewN nq) (fun _ _ _ h => h))
          clear gc gl CO BX
          generalize (wr.alloc (.cells #[.bool true, .int .i64 sy, .int .i64 bi, .int .u32 ex] 58)).drewN nq = w7 at *
          go_wp2
          go_roundw
          case rel => exact ⟨i + 1, by omega, by go_num, fun k hk => by rcases Nat.lt_or_eq_of_le (Nat.le_of_lt_succ hk) with e | e; exact unhide OK k e; (rw [e, unhide OKD]; rfl), unhide GN2, unhide BE2⟩
          case measure => simp [intOf]; omega
    · obtain rfl : i = 5 := by omega
      clear G2 be
      go_wp2
      go_ret
      exact ⟨ret_bool (okA_yes (unhide OK)).symm, unhide BE⟩
end Go.Proofs.YtgjpcjnhggcfdaaGreatDoor.HHas

namespace Go.Proofs.YtgjpcjnhggcfdaaGreatDoor.Foot
open Go.ChangeShapes Go.WideShapes Go.ChangeAt Go.RowKit Go.Proofs.YtgjpcjnhggcfdaaGreatDoor.Core

theorem own_weak {w : World} {base n : Nat} {v : Value} {xs : List Value} (h : w.ownsRow base 5 1 v n xs) : w.ownsRow 0 5 1 v n xs := by
  refine ⟨h.1, ?_⟩
  rcases h.2 with h | ⟨g, cap, cur, e, _, r⟩
  · exact .inl h
  · exact .inr ⟨g, cap, cur, e, Nat.zero_le _, r⟩
theorem grown_weak {w w' : World} (h : w.grownBy w' none) (row : Option Nat) : w.grownBy w' row :=
  ⟨h.os, h.tape, h.output, h.size, fun k hk _ => h.block k hk (by simp)⟩
/-- In which blocks a slice may lie behind an append, and what of it stays. -/
structure Stays (w w' : World) (v v' : Value) (n : Nat) : Prop where
  foot : ∀ k, v'.ownBlock = some k → v.ownBlock = some k ∨ w.heap.size ≤ k
  kept : ∀ b k, v.ownBlock = some b → k < n → w'.cell? ⟨b, k, none⟩ = w.cell? ⟨b, k, none⟩
theorem run_app (w : World) (ty : TypeId) (v : Value) (n : Nat) (xs : List Value) (hown : w.ownsRow 0 5 1 v n xs) (ad : Addr) (m c : Nat) (news : List Value)
    (hl : news.length = m) (hnews : ∀ j u, news[j]? = some u → w.cell? (ad.add j) = some u) (h1 : ∀ u ∈ news, u.oneCell' = true) (hn : n + m ≤ 1000000) :
    ∃ v' w', (Builtin.append_ #[47, 47] ty #[v, .slice (some ad) m c]).run Tryz.prog w = .ok v' w' ∧ w'.ownsRow 0 5 1 v' (n + m) (xs ++ news) ∧ w.grownBy w' v.ownBlock ∧ Stays w w' v v' n := by
  obtain ⟨i0, hi, hz0, hz1, hz2⟩ := info_parts Tryz.info5
  have hl' : news.length = m * 1 := by omega
  have b1 : n + m ≤ maxLen := by unfold maxLen; omega
  have b2 : (n + m) * 1 ≤ 140737488355328 := by omega
  rcases hown.2 with ⟨rfl, rfl⟩ | ⟨g, cap, cur, rfl, _⟩
  · have hx : xs = [] := List.eq_nil_of_length_eq_zero (by simpa using hown.1)
    subst hx
    obtain ⟨v', w', hr, r1, r2, _⟩ := run_append_own (P := Tryz.prog) w w.heap.size 47 ty 5 i0 (.int .u8 0) 1 1 Tryz.underlying47 hi hz0 hz1 hz2 rfl (by decide) (.slice none 0 0) 0 [] (World.ownsRow_nil w _ 5 1) ad m c news hl' hnews h1 b1 b2 (Nat.le_refl _)
    exact ⟨v', w', hr, own_weak r1, r2, fun k hk => .inr (r1.lt k hk).1, fun b k hb _ => by simp [Value.ownBlock] at hb⟩
  · by_cases hroom : n + m ≤ cap
    · obtain ⟨w', hr, r1, r2⟩ := run_append_fits (P := Tryz.prog) w 0 47 ty 5 i0 1 Tryz.underlying47 hi hz1 g n cap xs hown ad m c news hl' hnews h1 hroom
      refine ⟨_, w', hr, r1, r2, fun k hk => .inl hk, fun b k hb hk => ?_⟩
      have hb' : g = b := by simpa [Value.ownBlock] using hb
      subst hb'
      rw [r1.cellAt k (by omega), hown.cellAt k (by omega), List.getElem?_append_left (by rw [hown.1]; omega)]
    · obtain ⟨v', w', hr, r1, r2⟩ := run_append_arg_grows (P := Tryz.prog) w 47 ty 5 i0 (.int .u8 0) 1 1 Tryz.underlying47 hi hz0 hz1 hz2 rfl (by decide) ⟨g, 0, none⟩ n cap xs hown.1 (hown.cells (g := g) rfl) ad m c news hl' hnews (by omega) b1 b2
      refine ⟨v', w', hr, own_weak r1, grown_weak r2 _, fun k hk => .inr (r1.lt k hk).1, fun b k hb hk => ?_⟩
      have hb' : g = b := by simpa [Value.ownBlock] using hb
      subst hb'
      exact World.cell?_of_block (r2.block g (hown.lt g rfl).2 (by simp))
theorem step_app {ops : Array Oper} {o : Oper} {a : Act} {w : World} {K : Act → World → Prop} {Q : Exit → Act → World → Prop} {E : Prop}
    (hg : o.guard = none) (s x : Operand) (hop : o.op = Op.call { callee := Callee.builtin Builtin.append, args := #[s, x], argTypes := #[47, 47] })
    (v : Value) (n : Nat) (xs : List Value) (hs : a.eval s = v) (hown : w.ownsRow 0 5 1 v n xs) (ad : Addr) (m c : Nat) (news : List Value) (hx : a.eval x = .slice (some ad) m c)
    (hl : news.length = m) (hnews : ∀ j u, news[j]? = some u → w.cell? (ad.add j) = some u) (h1 : ∀ u ∈ news, u.oneCell' = true) (hn : n + m ≤ 1000000)
    (hK : ∀ v' w', w'.ownsRow 0 5 1 v' (n + m) (xs ++ news) → w.grownBy w' v.ownBlock → Stays w w' v v' n → K (a.put o.dst v') w') :
    if Region.wanted o (yielded ops a.tmps) = true then Oper.wp Tryz.prog o a w K Q else E := by
  have hw : Region.wanted o (yielded ops a.tmps) = true := by simp [Region.wanted, hg]
  rw [if_pos hw]
  obtain ⟨v', w', hr, r1, r2, r3⟩ := run_app w o.type v n xs hown ad m c news hl hnews h1 hn
  unfold Oper.wp
  simp [execOp, hop, resolve, invoke, builtin, hs, hx, hr, Result.andThen]
  exact hK v' w' r1 r2 r3
theorem list_app {w : World} {ops : Array Oper} {rest : List Oper} {o : Oper} {a : Act} {Q : Exit → Act → World → Prop} (hg : o.guard = none) (s x : Operand)
    (hop : o.op = .call { callee := .builtin .append, args := #[s, x], argTypes := #[47, 47] })
    (v : Value) (n : Nat) (xs : List Value) (hs : a.eval s = v) (hown : w.ownsRow 0 5 1 v n xs) (ad : Addr) (m c : Nat) (news : List Value) (hx : a.eval x = .slice (some ad) m c)
    (hl : news.length = m) (hnews : ∀ j u, news[j]? = some u → w.cell? (ad.add j) = some u) (h1 : ∀ u ∈ news, u.oneCell' = true) (hn : n + m ≤ 1000000)
    (hK : ∀ v' w', w'.ownsRow 0 5 1 v' (n + m) (xs ++ news) → w.grownBy w' v.ownBlock → Stays w w' v v' n → wpList Tryz.prog ops Q rest (a.put o.dst v') w') : wpList Tryz.prog ops Q (o :: rest) a w := by
  refine wpList_plain hg fun K hK' => ?_
  obtain ⟨v', w', hr, r1, r2, r3⟩ := run_app w o.type v n xs hown ad m c news hl hnews h1 hn
  unfold Oper.wp
  simp [execOp, hop, resolve, invoke, builtin, hs, hx, hr, Result.andThen]
  exact hK' _ _ (hK v' w' r1 r2 r3)
theorem one_src (w : World) (x : Value) : ∀ j u, ([x] : List Value)[j]? = some u → (w.alloc (.cells #[x] 5)).cell? ((⟨w.heap.size, 0, none⟩ : Addr).add j) = some u := by
  intro j u hj
  match j, hj with
  | 0, hj => simp at hj; subst hj; simp [Addr.add]
theorem one_one (k : IntKind) (x : Int) : ∀ u ∈ [Value.int k x], u.oneCell' = true := by
  intro u hu; simp at hu; subst hu; rfl

/-- Byte k of a number. -/
def byt (V k : Nat) : Nat := V / 2 ^ (8 * k) % 256
theorem byt_le (V k : Nat) : byt V k ≤ 255 := by unfold byt; omega
theorem pow_pos2 (n : Nat) : 0 < 2 ^ n := Nat.pow_pos (by omega)
theorem cells_succ (c : Nat → Nat) (n : Nat) : cells c (n + 1) = cells c n ++ [.int .u8 (c n)] := by
  simp [cells, List.range_succ]
theorem cells_congr (c d : Nat → Nat) (n : Nat) (h : ∀ k, k < n → c k = d k) : cells c n = cells d n := by
  unfold cells
  apply List.map_congr_left
  intro k hk
  rw [h k (List.mem_range.1 hk)]
theorem byt_keep (V v N k : Nat) (h : 8 * k + 8 ≤ N) : byt (V + v * 2 ^ N) k = byt V k := by
  unfold byt
  obtain ⟨t, rfl⟩ : ∃ t, N = 8 * k + (8 + t) := ⟨N - 8 * k - 8, by omega⟩
  rw [show v * 2 ^ (8 * k + (8 + t)) = 2 ^ (8 * k) * (256 * (v * 2 ^ t)) by rw [Nat.pow_add, Nat.pow_add, show (2 : Nat) ^ 8 = 256 from rfl]; simp only [Nat.mul_comm, Nat.mul_left_comm, Nat.mul_assoc],
    Nat.add_mul_div_left _ _ (pow_pos2 _), Nat.add_mul_mod_self_left]
theorem rest_add (V v N : Nat) : (V + v * 2 ^ N) / 2 ^ (8 * (N / 8)) = V / 2 ^ (8 * (N / 8)) + v * 2 ^ (N % 8) := by
  have e : v * 2 ^ N = 2 ^ (8 * (N / 8)) * (v * 2 ^ (N % 8)) := by
    rw [Nat.mul_left_comm, ← Nat.pow_add, show 8 * (N / 8) + N % 8 = N by omega]
  rw [e, Nat.add_mul_div_left _ _ (pow_pos2 _)]
theorem rest_lt (V N : Nat) (h : V < 2 ^ N) : V / 2 ^ (8 * (N / 8)) < 2 ^ (N % 8) := by
  rw [Nat.div_lt_iff_lt_mul (pow_pos2 _), ← Nat.pow_add, show N % 8 + 8 * (N / 8) = N by omega]
  exact h
theorem sum_lt (V v N n : Nat) (h : V < 2 ^ N) (hv : v < 2 ^ n) : V + v * 2 ^ N < 2 ^ (N + n) := by
  rw [Nat.pow_add, Nat.mul_comm (2 ^ N)]
  have h1 : (v + 1) * 2 ^ N ≤ 2 ^ n * 2 ^ N := Nat.mul_le_mul_right _ hv
  rw [Nat.add_mul, Nat.one_mul] at h1
  omega
theorem half (V K : Nat) : V / 2 ^ (8 * K) / 256 = V / 2 ^ (8 * (K + 1)) := by
  rw [Nat.div_div_eq_div_mul, show 8 * (K + 1) = 8 * K + 8 by omega, Nat.pow_add]
end Go.Proofs.YtgjpcjnhggcfdaaGreatDoor.Foot

namespace Go.Proofs.YtgjpcjnhggcfdaaGreatDoor.Add
open Go.ChangeShapes Go.WideShapes Go.ChangeAt Go.RowKit Go.Proofs.YtgjpcjnhggcfdaaGreatDoor.Core Go.Proofs.YtgjpcjnhggcfdaaGreatDoor.Foot

/-- The blocks of a writer at g with full bytes v. -/
def Ft (g : Nat) (v : Value) (k : Nat) : Prop := k = g ∨ v.ownBlock = some k
/-- A writer's three fields: K whole bytes of V, what is behind them, how many bits. -/
structure Raw (w : World) (g : Nat) (v : Value) (V K r c : Nat) : Prop where
  box : Box w g 72 #[v, .int .u64 r, .int .i64 c]
  own : w.ownsRow 0 5 1 v K (cells (byt V) K)
  ne : v.ownBlock ≠ some g
/-- A writer at g, N bits written: those of V. -/
structure Wr (w : World) (g : Nat) (v : Value) (V N : Nat) : Prop where
  raw : Raw w g v V (N / 8) (V / 2 ^ (8 * (N / 8))) (N % 8)
  lt : V < 2 ^ N
/-- What a method that writes may turn. -/
structure Turn (g : Nat) (v v' : Value) (n : Nat) (w w' : World) : Prop where
  upd : Upd (Ft g v) w w'
  stays : Stays w w' v v' n
theorem Raw.lt {w : World} {g : Nat} {v : Value} {V K r c : Nat} (h : Raw w g v V K r c) : ∀ k, Ft g v k → k < w.heap.size := by
  rintro k (rfl | hk)
  · exact h.box.lt
  · exact (h.own.lt k hk).2
theorem Turn.refl (g : Nat) (v : Value) (n : Nat) (w : World) : Turn g v v n w w := ⟨Upd.refl _ _, fun _ h => .inl h, fun _ _ _ _ => rfl⟩
theorem Turn.trans {g : Nat} {v v1 v2 : Value} {n n1 : Nat} {w w1 w2 : World} (h : Turn g v v1 n w w1) (k : Turn g v1 v2 n1 w1 w2) (hn : n ≤ n1) (hne : v.ownBlock ≠ some g) (hlt : ∀ b, v.ownBlock = some b → b < w.heap.size) : Turn g v v2 n w w2 := by
  refine ⟨⟨k.upd.os.trans h.upd.os, k.upd.tape.trans h.upd.tape, k.upd.output.trans h.upd.output, Nat.le_trans h.upd.size k.upd.size, fun i hi hs => ?_⟩, ?_, ?_⟩
  · refine (k.upd.block i (Nat.lt_of_lt_of_le hi h.upd.size) ?_).trans (h.upd.block i hi hs)
    rintro (rfl | h1)
    · exact hs (.inl rfl)
    · rcases h.stays.foot i h1 with h2 | h2
      · exact hs (.inr h2)
      · omega
  · intro i hi
    rcases k.stays.foot i hi with h1 | h1
    · exact h.stays.foot i h1
    · exact .inr (Nat.le_trans h.upd.size h1)
  · intro b i hb hi
    rw [← h.stays.kept b i hb hi]
    by_cases hb1 : v1.ownBlock = some b
    · exact k.stays.kept b i hb1 (by omega)
    · refine k.upd.cell (p := ⟨b, i, none⟩) (Nat.lt_of_lt_of_le (hlt b hb) h.upd.size) ?_
      rintro (h2 | h2)
      · exact hne (h2 ▸ hb)
      · exact hb1 h2
theorem Raw.keep {S : Nat → Prop} {w w' : World} {g : Nat} {v : Value} {V K r c : Nat} (h : Raw w g v V K r c) (u : Upd S w w') (hs : ∀ k, Ft g v k → ¬ S k) : Raw w' g v V K r c := by
  refine ⟨h.box.keep u (hs g (.inl rfl)), ?_, h.ne⟩
  obtain ⟨h1, h2⟩ := h.own
  refine ⟨h1, ?_⟩
  rcases h2 with h2 | ⟨b, cap, cur, rfl, l0, hb, r⟩
  · exact .inl h2
  · exact .inr ⟨b, cap, cur, rfl, l0, (u.block b (Array.getElem?_eq_some_iff.1 hb).1 (hs b (.inr rfl))).trans hb, r⟩
theorem Wr.keep {S : Nat → Prop} {w w' : World} {g : Nat} {v : Value} {V N : Nat} (h : Wr w g v V N) (u : Upd S w w') (hs : ∀ k, Ft g v k → ¬ S k) : Wr w' g v V N := ⟨h.raw.keep u hs, h.lt⟩

def cnt (g : Nat) (w : World) : Nat := (intOf ((w.cell? ⟨g, 2, none⟩).getD (.bool false))).toNat
theorem or_rest (r v c : Nat) (hr : r < 2 ^ c) (h1 : r < 18446744073709551616) (h2 : v * 2 ^ c < 18446744073709551616) : bits .or .u64 (r : Int) ((v : Int) * 2 ^ c) = ((r + v * 2 ^ c : Nat) : Int) := by
  have e1 : (v : Int) * 2 ^ c = ((v * 2 ^ c : Nat) : Int) := by simp
  rw [e1, u64_or_nat _ _ h1 h2, Nat.or_comm, nat_join c _ _ (by simp) hr, Nat.add_comm]
theorem shl_bd (v n c : Nat) (hv : v < 2 ^ n) (hn : n ≤ 32) (hc : c ≤ 7) : v * 2 ^ c < 549755813888 ∧ 2 ^ c ≤ 128 := by
  have h1 : (2 : Nat) ^ n ≤ 2 ^ 32 := Nat.pow_le_pow_right (by omega) hn
  have h2 : (2 : Nat) ^ c ≤ 2 ^ 7 := Nat.pow_le_pow_right (by omega) hc
  have h3 : (2 : Nat) ^ 32 = 4294967296 := by decide
  have h4 : (2 : Nat) ^ 7 = 128 := by decide
  have h5 : v * 2 ^ c ≤ 4294967295 * 128 := Nat.mul_le_mul (by omega) (by omega)
  omega

theorem Raw.drew {w : World} {g : Nat} {v : Value} {V K r c : Nat} (h : Raw w g v V K r c) : Raw w.drew g v V K r c := ⟨h.box, h.own, h.ne⟩
theorem own_setCell {w : World} {v : Value} {n : Nat} {xs : List Value} (h : w.ownsRow 0 5 1 v n xs) (g k : Nat) (x : Value) (hne : v.ownBlock ≠ some g) : (w.setCell ⟨g, k, none⟩ x).ownsRow 0 5 1 v n xs := by
  refine ⟨h.1, ?_⟩
  rcases h.2 with h2 | ⟨b, cap, cur, rfl, l0, hb, r⟩
  · exact .inl h2
  · exact .inr ⟨b, cap, cur, rfl, l0, (Below.heap_setCell _ _ _ _ (fun e => hne (by simp [Value.ownBlock]; exact e))).trans hb, r⟩
theorem stays_setCell {w : World} (v : Value) (n : Nat) (g k : Nat) (x : Value) (hne : v.ownBlock ≠ some g) : Stays w (w.setCell ⟨g, k, none⟩ x) v v n :=
  ⟨fun _ h => .inl h, fun b i hb _ => World.cell?_of_block (Below.heap_setCell _ _ _ _ (fun e => hne (by have e' : b = g := e; rw [← e']; exact hb)))⟩
theorem turn_setCell {w : World} (v : Value) (n : Nat) (g k : Nat) (x : Value) (hne : v.ownBlock ≠ some g) : Turn g v v n w (w.setCell ⟨g, k, none⟩ x) :=
  ⟨(Upd.refl _ _).setCell (p := ⟨g, k, none⟩) (.inl rfl) _, stays_setCell v n g k x hne⟩
theorem turn_drew {w : World} (g : Nat) (v : Value) (n : Nat) : Turn g v v n w w.drew := ⟨⟨rfl, rfl, rfl, Nat.le_refl _, fun _ _ _ => rfl⟩, fun _ h => .inl h, fun _ _ _ _ => rfl⟩

theorem box_grown {w w' : World} {g : Nat} {T : TypeId} {vs : Array Value} {row : Option Nat} (h : Box w g T vs) (hg : w.grownBy w' row) (hne : row ≠ some g) : Box w' g T vs := (hg.block g h.lt (fun e => hne e.symm)).trans h
theorem box_alloc {w : World} {g : Nat} {T : TypeId} {vs : Array Value} (h : Box w g T vs) (o : Obj) : Box (w.alloc o) g T vs := (Below.heap_alloc _ _ _ h.lt).trans h
theorem box_drew {w : World} {g : Nat} {T : TypeId} {vs : Array Value} (h : Box w g T vs) : Box w.drew g T vs := h
theorem stays_of_alloc {w w' : World} {v v' : Value} {n : Nat} {o : Obj} (h : Stays (w.drew.alloc o) w' v v' n) (hlt : ∀ b, v.ownBlock = some b → b < w.heap.size) : Stays w w' v v' n :=
  ⟨fun k hk => (h.foot k hk).elim .inl (fun h => .inr (by simp at h; omega)), fun b k hb hk => (h.kept b k hb hk).trans (World.cell?_of_block (Below.heap_alloc w.drew o b (hlt b hb)))⟩
theorem upd_of_grown {w w' : World} {row : Option Nat} {o : Obj} {S : Nat → Prop} (h : (w.drew.alloc o).grownBy w' row) (hS : ∀ k, row = some k → S k) : Upd S w w' :=
  ⟨h.os, h.tape, h.output, Nat.le_trans (by simp) h.size, fun k hk hs => (h.block k (by simp; omega) (fun e => hs (hS k e.symm))).trans (Below.heap_alloc w.drew o k hk)⟩
theorem cnt_raw {w : World} {g : Nat} {v : Value} {V K r c : Nat} (h : Raw w g v V K r c) : cnt g w = c := by
  have := h.box.cell 2
  simp at this
  simp [cnt, this, intOf]
theorem round_step {wr w' : World} {g : Nat} {u v : Value} {V K R C : Nat} {o : Obj} (raw : Raw wr g u V K R C) (hR : R = V / 2 ^ (8 * K))
    (own : w'.ownsRow 0 5 1 v (K + 1) (cells (byt V) K ++ [.int .u8 ((R : Int) % 256)])) (grow : (wr.drew.alloc o).grownBy w' u.ownBlock) (stay : Stays (wr.drew.alloc o) w' u v K) (x y : Int) (R1 C1 : Nat) (hx : x = (R1 : Int)) (hy : y = (C1 : Int)) :
    Raw (((w'.setCell ⟨g, 0, none⟩ v).setCell ⟨g, 1, none⟩ (.int .u64 x)).setCell ⟨g, 2, none⟩ (.int .i64 y)) g v V (K + 1) R1 C1 ∧
      Turn g u v K wr (((w'.setCell ⟨g, 0, none⟩ v).setCell ⟨g, 1, none⟩ (.int .u64 x)).setCell ⟨g, 2, none⟩ (.int .i64 y)) := by
  subst hx hy
  have hlt : ∀ b, u.ownBlock = some b → b < wr.heap.size := fun b hb => (raw.own.lt b hb).2
  have stay' := stays_of_alloc stay hlt
  have ne : v.ownBlock ≠ some g := fun e => by
    rcases stay'.foot g e with h | h
    · exact raw.ne h
    · have := raw.box.lt; omega
  have bx := box_grown (box_alloc (box_drew raw.box) o) grow raw.ne
  have e : ((R : Int) % 256) = ((byt V K : Nat) : Int) := by unfold byt; rw [← hR]; omega
  rw [e, ← cells_succ] at own
  have T1 : Turn g u v K wr w' := ⟨upd_of_grown grow (fun k hk => .inr hk), stay'⟩
  have hlt' : ∀ b, v.ownBlock = some b → b < w'.heap.size := fun b hb => (own.lt b hb).2
  refine ⟨⟨((bx.set 0 v).set 1 (.int .u64 R1)).set 2 (.int .i64 C1), own_setCell (own_setCell (own_setCell own g 0 _ ne) g 1 _ ne) g 2 _ ne, ne⟩, ?_⟩
  exact T1.trans (((turn_setCell v (K + 1) g 0 _ ne).trans (turn_setCell v (K + 1) g 1 _ ne) (Nat.le_refl _) ne hlt').trans (turn_setCell v (K + 1) g 2 _ ne) (Nat.le_refl _) ne hlt') (by omega) raw.ne hlt
set_option maxRecDepth 20000 in
set_option maxHeartbeats 1000000 in
theorem add_raw (g : Nat) (u : Value) (V K r c v n M R : Nat) (w : World) (h : Raw w g u V K r c) (hr : r < 2 ^ c) (hc : c ≤ 7) (hn : n ≤ 32) (hv : v < 2 ^ n) (hR : R = V / 2 ^ (8 * K)) (hE : r + v * 2 ^ c = R) (hK : K ≤ 900000) (hM : M = 8 * K + c + n) :
    Calls Tryz.prog 47 #[.pointer (some ⟨g, 0, none⟩), .int .u64 v, .int .i64 n] w fun e w' => e = .returned (.tuple #[]) ∧ ∃ u', Raw w' g u' V (M / 8) (V / 2 ^ (8 * (M / 8))) (M % 8) ∧ Turn g u u' K w w' := by
  have H := hide h
  have f1 := h.box.free 1
  have f2 := h.box.free 2
  have h1 := h.box.cell 1
  have h2 := h.box.cell 2
  simp at h1 h2
  obtain ⟨s1, s2⟩ := shl_bd v n c hv hn hc
  have hv32 : v < 4294967296 := Nat.lt_of_lt_of_le hv (Nat.pow_le_pow_right (j := 32) (by omega) hn)
  have hor := or_rest r v c hr (by omega) (by omega)
  rw [hE] at hor
  have b1 : (0 : Int) ≤ (v : Int) * 2 ^ c := by
    have e1 : (v : Int) * 2 ^ c = ((v * 2 ^ c : Nat) : Int) := by simp
    omega
  have b2 : (v : Int) * 2 ^ c ≤ 18446744073709551615 := by
    have e1 : (v : Int) * 2 ^ c = ((v * 2 ^ c : Nat) : Int) := by simp
    omega
  have b3 : (c : Int) + (n : Int) ≤ 39 := by omega
  have NE := hide h.ne
  have LT := hide (fun b (hb : u.ownBlock = some b) => (h.own.lt b hb).2)
  have HR := hide hR
  have RB := hide (show R ≤ 18446744073709551615 by omega)
  clear h hE hR
  go_enter Tryz.func47, Tryz.ntmps47
  go_wp2
  go_region
  go_wp2
  go_loopw [27] (fun _ wr => ∃ (K' C R' : Nat) (u' : Value), Raw wr g u' V K' R' C ∧ R' = V / 2 ^ (8 * K') ∧ R' ≤ 18446744073709551615 ∧ 8 * K' + C = M ∧ K ≤ K' ∧ C ≤ 39 ∧ Turn g u u' K w wr) (fun _ wr => cnt g wr)
  case atStart =>
    have h' := unhide H
    refine ⟨K, c + n, R, u, ⟨?_, (own_setCell (own_setCell h'.own g 1 _ h'.ne) g 2 _ h'.ne).drew, h'.ne⟩, unhide HR, unhide RB, by omega, Nat.le_refl _, by omega, ?_⟩
    · exact (h'.box.set 1 (.int .u64 R)).set 2 (.int .i64 ((c + n : Nat) : Int))
    · exact ((turn_setCell u K g 1 _ h'.ne).trans (turn_setCell u K g 2 _ h'.ne) (Nat.le_refl _) h'.ne (unhide LT)).trans (turn_drew g u K) (Nat.le_refl _) h'.ne (unhide LT)
  case round =>
    obtain ⟨K', C, R', u', raw, hR, hRb, hM', hKK, hC, turn⟩ := hrel
    have g0 := raw.box.free 0
    have g1 := raw.box.free 1
    have g2 := raw.box.free 2
    have c0 := raw.box.cell 0
    have c1 := raw.box.cell 1
    have c2 := raw.box.cell 2
    simp at c0 c1 c2
    have RAW := hide raw
    have TURN := hide turn
    have HR' := hide hR
    have hKb : K' ≤ 900010 := by omega
    clear f1 f2 h1 h2 hor b1 b2 b3 raw turn hR HR RB H hM
    by_cases h8 : 8 ≤ C
    · have h8' : (8 : Int) ≤ (C : Int) := by omega
      have d1 : (R' : Int) ≤ 18446744073709551615 := by omega
      have OWN := hide (unhide RAW).own
      have p0 : ∀ o, (wr.alloc o).cell? ⟨g, 0, none⟩ = some u' := fun o => (box_alloc (unhide RAW).box o).cell 0
      go_wp2
      go_region_law (refine step_app rfl (.tmp 36) (.tmp 42) rfl u' K' (cells (byt V) K') (by simp [Act.eval]) ((unhide OWN).drew.alloc _) ⟨wr.heap.size, 0, none⟩ 1 1 [.int .u8 ((R' : Int) % 256)] (by simp [Act.eval]) rfl (one_src _ _) (one_one _ _) (by omega) ?_; intro v' w' hown hgrow hstay; have BX := hide (box_grown (box_alloc (box_drew (unhide RAW).box) _) hgrow (unhide RAW).ne); have k0 := (unhide BX).free 0; have k1 := (unhide BX).free 1; have k2 := (unhide BX).free 2; have m0 := (unhide BX).cell 0; have m1 := (unhide BX).cell 1; have m2 := (unhide BX).cell 2; simp at m0 m1 m2; have OWN' := hide hown; have GROW := hide hgrow; have STAY := hide hstay; obtain ⟨a', cap', rfl⟩ := own_slice hown; clear hown hgrow hstay)
      all_goals
        go_wp2
        go_roundw
        case rel =>
          obtain ⟨rw1, tn1⟩ := round_step (unhide RAW) (unhide HR') (unhide OWN') (unhide GROW) (unhide STAY) ((R' : Int) / 256) ((C : Int) - 8) (R' / 256) (C - 8) (by omega) (by omega)
          exact ⟨K' + 1, C - 8, R' / 256, _, rw1, by rw [unhide HR', half], by omega, by omega, by omega, by omega, (unhide TURN).trans tn1 hKK (unhide NE) (unhide LT)⟩
        case measure =>
          obtain ⟨rw1, tn1⟩ := round_step (unhide RAW) (unhide HR') (unhide OWN') (unhide GROW) (unhide STAY) ((R' : Int) / 256) ((C : Int) - 8) (R' / 256) (C - 8) (by omega) (by omega)
          rw [cnt_raw rw1, cnt_raw (unhide RAW)]
          omega
    · have h8' : (C : Int) < 8 := by omega
      go_wp2
      go_end0
      obtain rfl : K' = M / 8 := by omega
      obtain rfl : C = M % 8 := by omega
      refine ⟨rfl, u', ?_, unhide TURN⟩
      rw [← unhide HR']
      exact unhide RAW
theorem add16 (g : Nat) (u : Value) (V N v n : Nat) (w : World) (h : Wr w g u V N) (hn : n ≤ 32) (hv : v < 2 ^ n) (hN : N ≤ 1000000) :
    Calls Tryz.prog 47 #[.pointer (some ⟨g, 0, none⟩), .int .u64 v, .int .i64 n] w fun e w' => e = .returned (.tuple #[]) ∧ ∃ u', Wr w' g u' (V + v * 2 ^ N) (N + n) ∧ Turn g u u' (N / 8) w w' := by
  have raw : Raw w g u (V + v * 2 ^ N) (N / 8) (V / 2 ^ (8 * (N / 8))) (N % 8) := by
    refine ⟨h.raw.box, ?_, h.raw.ne⟩
    rw [cells_congr (byt (V + v * 2 ^ N)) (byt V) (N / 8) (fun k hk => byt_keep V v N k (by omega))]
    exact h.raw.own
  refine (add_raw g u (V + v * 2 ^ N) (N / 8) _ (N % 8) v n (N + n) _ w raw (rest_lt V N h.lt) (by omega) hn hv rfl (rest_add V v N).symm (by omega) (by omega)).mono ?_
  rintro e w' ⟨rfl, u', r', t'⟩
  exact ⟨rfl, u', ⟨r', sum_lt V v N n h.lt hv⟩, t'⟩
end Go.Proofs.YtgjpcjnhggcfdaaGreatDoor.Add
