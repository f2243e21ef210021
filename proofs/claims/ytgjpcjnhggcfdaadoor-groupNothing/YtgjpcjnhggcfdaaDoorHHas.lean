/- Contracts: tree.Cost, group.has. Conditions: the group lies in memory. -/
import Derived.Test.YtgjpcjnhggcfdaaDoorHNew
namespace Go.Proofs.YtgjpcjnhggcfdaaDoor.HHas
set_option linter.unusedVariables false
open Go.ChangeShapes Go.WideShapes Go.ChangeAt Go.RowKit Go.Proofs.YtgjpcjnhggcfdaaDoor.Core Go.Proofs.YtgjpcjnhggcfdaaDoor.Gnd Go.Proofs.YtgjpcjnhggcfdaaDoor.Math Go.Proofs.YtgjpcjnhggcfdaaDoor.Dec Go.Proofs.YtgjpcjnhggcfdaaDoor.Wrd Go.Proofs.YtgjpcjnhggcfdaaDoor.Cou Go.Proofs.YtgjpcjnhggcfdaaDoor.Tre Go.Proofs.YtgjpcjnhggcfdaaDoor.HNum Go.Proofs.YtgjpcjnhggcfdaaDoor.HSiz Go.Proofs.YtgjpcjnhggcfdaaDoor.HFit Go.Proofs.YtgjpcjnhggcfdaaDoor.HFiv Go.Proofs.YtgjpcjnhggcfdaaDoor.HNew

/-- What Cost answers. -/
def cosV (c : Nat → Int) (n m : Nat) : Int := if hasB c n m = true then qq c n m else 0
theorem cost43 (lo hi g n : Nat) (c : Nat → Int) (hg : Rng c n) (m : Nat) (w : World) (h : Tr w lo hi g c n) :
    Calls Tryd.prog 43 #[.pointer (some ⟨g, 0, none⟩), .int .i64 m] w fun e w' => e = .returned (.tuple #[.int .i64 (cosV c n m), .bool (hasB c n m)]) ∧ w' = w := by
  have HA := has33 lo hi g n c hg m w h
  unfold cosV
  by_cases hb : hasB c n (m : Int) = true
  · have hm : m < n ∧ c m ≠ 0 := by
      unfold hasB at hb
      have := of_decide_eq_true hb
      exact ⟨by omega, this.2.2⟩
    have hq1 := qq_bd hg hm.1
    rw [if_pos hb]
    rw [hb] at HA ⊢
    obtain ⟨h1, h2, h3, tb, sb, le, a1, a2, a3, a4, a5, a6, a7, a8, a9, a10⟩ := h
    have c0 := (a8.cell 0).trans (tc_0 _ _ _ _)
    have w1 := (a9.cell (m * 2 + 1)).trans (wrow_cnt _ _ n m hm.1)
    have HH := hide HA
    have hml : (m : Int) < (n : Int) := by omega
    clear HA hb a8 a9 a10 a6 a7
    generalize qq c n m = x at *
    go_enter Tryd.func43, Tryd.ntmps43
    go_wp2_with fail
    refine (unhide HH).mono ?_
    rintro e w2 ⟨rfl, rfl⟩
    go_wp2
    go_ret2
    exact ⟨rfl, rfl⟩
  · have hb' : hasB c n (m : Int) = false := by simpa using hb
    rw [if_neg hb]
    rw [hb'] at HA ⊢
    have HH := hide HA
    clear HA h hb hb'
    go_enter Tryd.func43, Tryd.ntmps43
    go_wp2_with fail
    refine (unhide HH).mono ?_
    rintro e w2 ⟨rfl, rfl⟩
    go_wp2
    go_ret2
    exact ⟨rfl, rfl⟩
theorem prc_cell (q : Nat → Pa) (i : Nat) (h : i < 5) : (prc q).extract (i * 4) (i * 4 + 4) = pc (q i) := by
  rcases lt5 h with rfl | rfl | rfl | rfl | rfl <;> rfl
theorem index_prc (q : Nat → Pa) (i : Nat) (h : i < 5) (w : World) : (Instr.index 72 (.agg (prc q)) (.int .i64 i)).run Tryd.prog w = .ok (.agg (pc (q i))) w := by
  rcases lt5 h with rfl | rfl | rfl | rfl | rfl <;> kernel_rfl
theorem info_prc {q : Nat → Pa} : (Tryd.prog.info? 72).map (·.size) = some (prc q).size := by
  rw [prc_size]; kernel_rfl
/-- Has the part a code, if it is there? -/
def okU (c : Nat) (f : Nat → Nat → Int) (q : Nat → Pa) (i : Nat) : Bool := !(q i).th || hasB (f i) (sz c i) (q i).sy
/-- Have all parts codes? -/
def okA (c : Nat) (f : Nat → Nat → Int) (q : Nat → Pa) : Bool := okU c f q 0 && okU c f q 1 && okU c f q 2 && okU c f q 3 && okU c f q 4
theorem okA_no {c : Nat} {f : Nat → Nat → Int} {q : Nat → Pa} {i : Nat} (h : i < 5) (e : okU c f q i = false) : okA c f q = false := by
  unfold okA
  rcases lt5 h with rfl | rfl | rfl | rfl | rfl <;> simp [e]
theorem okA_yes {c : Nat} {f : Nat → Nat → Int} {q : Nat → Pa} (h : ∀ i, i < 5 → okU c f q i = true) : okA c f q = true := by
  unfold okA
  simp [h 0 (by omega), h 1 (by omega), h 2 (by omega), h 3 (by omega), h 4 (by omega)]
theorem okA_at {c : Nat} {f : Nat → Nat → Int} {q : Nat → Pa} (h : okA c f q = true) {i : Nat} (hi : i < 5) : okU c f q i = true := by
  cases e : okU c f q i
  · rw [okA_no hi e] at h; cases h
  · rfl
set_option maxHeartbeats 2000000 in
theorem has25 (lo hi g c : Nat) (T : Nat → Nat) (f : Nat → Nat → Int) (hr : ∀ i, i < 5 → Rng (f i) (sz c i)) (q : Nat → Pa) (w : World) (h : Gr w lo hi g c T f) :
    Calls Tryd.prog 25 #[.pointer (some ⟨g, 0, none⟩), .agg (prc q)] w fun e w' => e = .returned (.bool (okA c f q)) ∧ Below w.heap.size w w' := by
  have GG := hide h
  have HR := hide hr
  have IX := hide (index_prc q)
  clear h hr
  have BQ := hide (Box.made w 72 (prc q))
  go_enter Tryd.func25, Tryd.ntmps25
  go_wp2_with (first | (refine wpList_load_row rfl 72 (.tmp 3) rfl w.heap.size rfl 72 (prc q) (0, 0) _ (unhide BQ) Tryd.underlying72 rfl info_prc ?_) | fail)
  have G1 := hide ((unhide GG).below (bel_a1 w (.cells (prc q) 72)))
  have B1 := hide (bel_a1 w (.cells (prc q) 72))
  clear BQ
  generalize w.alloc (.cells (prc q) 72) = w1 at *
  go_loopw [10] (fun x wr => ∃ i : Nat, i ≤ 5 ∧ x = .int .i64 i ∧ (∀ k, k < i → okU c f q k = true) ∧ Gr wr lo hi g c T f ∧ Below w.heap.size w wr) (fun x _ => 5 - (intOf x).toNat)
  case atStart => exact ⟨0, by omega, rfl, fun k hk => by omega, unhide G1, unhide B1⟩
  case round =>
    obtain ⟨i, hi5, rfl, ok, G2, be⟩ := hrel
    have OK := hide ok
    have BE := hide be
    have GR := hide G2
    clear G1 B1 ok
    by_cases hlt : i < 5
    · have hlt' : (i : Int) < 5 := by omega
      have ix := unhide IX i hlt
      have gl := G2.box.lt
      have gc := (G2.box.cell i).trans (grc_at _ _ i hlt)
      have tv : tp T 5 i = .pointer (some ⟨T i, 0, none⟩) := if_pos hlt
      rw [tv] at gc
      have bA := hide (bel_a1 wr (.cells (pc (q i)) 71))
      have TT := hide ((G2.tr i hlt).below (bel_a1 wr (.cells (pc (q i)) 71)))
      have CO := hide (fun (n : Nat) => cost43 (g + 1) hi (T i) (sz c i) (f i) (unhide HR i hlt) (q i).sy ((wr.alloc (.cells (pc (q i)) 71)).drewN n) ((unhide TT).keep ((Upd.refl (fun _ => False) _).drewN n) (fun _ _ _ h => h)))
      have BX := hide (Box.made wr 71 (pc (q i)))
      have okd : okU c f q i = (!(q i).th || hasB (f i) (sz c i) (q i).sy) := rfl
      have OKD := hide okd
      clear G2 be tv okd
      generalize T i = t at *
      generalize hasB (f i) (sz c i) (q i).sy = hb at *
      generalize cosV (f i) (sz c i) (q i).sy = x at *
      rcases hq : q i with ⟨th, sy, bi, ex⟩
      clear TT
      rw [hq] at ix CO BX OKD bA
      simp only [pc] at *
      cases th with
      | false =>
        have GN := hide ((unhide GR).below (bel_a1 wr (.cells #[.bool false, .int .i64 sy, .int .i64 bi, .int .u32 ex] 71)))
        have BN := hide (bel_into (unhide BE) (unhide bA))
        clear gc gl CO BX
        go_wp2
        go_roundw
        case rel => exact ⟨i + 1, by omega, by go_num, fun k hk => by rcases Nat.lt_or_eq_of_le (Nat.le_of_lt_succ hk) with e | e; exact unhide OK k e; (rw [e, unhide OKD]; rfl), unhide GN, unhide BN⟩
        case measure => simp [intOf]; omega
      | true =>
        have GN := hide ((unhide GR).below (bel_a1 wr (.cells #[.bool true, .int .i64 sy, .int .i64 bi, .int .u32 ex] 71)))
        have BN := hide (bel_into (unhide BE) (unhide bA))
        cases hb with
        | false =>
          go_wp2
          go_quiet ((go_at_call 43; exact Calls.quiet_of_same (unhide CO _)))
          have BE2 := hide (bel_drN (unhide BN) nq)
          clear gc gl CO BX
          generalize (wr.alloc (.cells #[.bool true, .int .i64 sy, .int .i64 bi, .int .u32 ex] 71)).drewN nq = w7 at *
          go_wp2
          go_ret
          exact ⟨ret_bool (okA_no hlt (unhide OKD)).symm, unhide BE2⟩
        | true =>
          go_wp2
          go_quiet ((go_at_call 43; exact Calls.quiet_of_same (unhide CO _)))
          have BE2 := hide (bel_drN (unhide BN) nq)
          have GN2 := hide ((unhide GN).keep ((Upd.refl (fun _ => False) _).drewN nq) (fun _ _ _ h => h))
          clear gc gl CO BX
          generalize (wr.alloc (.cells #[.bool true, .int .i64 sy, .int .i64 bi, .int .u32 ex] 71)).drewN nq = w7 at *
          go_wp2
          go_roundw
          case rel => exact ⟨i + 1, by omega, by go_num, fun k hk => by rcases Nat.lt_or_eq_of_le (Nat.le_of_lt_succ hk) with e | e; exact unhide OK k e; (rw [e, unhide OKD]; rfl), unhide GN2, unhide BE2⟩
          case measure => simp [intOf]; omega
    · obtain rfl : i = 5 := by omega
      clear G2 be
      go_wp2
      go_ret
      exact ⟨ret_bool (okA_yes (unhide OK)).symm, unhide BE⟩
end Go.Proofs.YtgjpcjnhggcfdaaDoor.HHas
