/- Contract: slices.symMergeCmpFunc, where the second row is of one. Conditions: the places lie in the row. -/
import Derived.Test.YtcfnbbelbadmkaaSyl
namespace Go.Proofs.Ytcfnbbelbadmkaa.Syr
open Go.ChangeShapes Go.WideShapes Go.ChangeAt Go.RowKit Go.Proofs.Ytcfnbbelbadmkaa.Core Go.Proofs.Ytcfnbbelbadmkaa.Gnd Go.Proofs.Ytcfnbbelbadmkaa.Srt Go.Proofs.Ytcfnbbelbadmkaa.Ins Go.Proofs.Ytcfnbbelbadmkaa.Syl

set_option maxRecDepth 20000 in
set_option maxHeartbeats 4000000 in
theorem syr30 (K : Nat) (eg : ∀ args w, (callFunc K args).run Try.prog w = .ok (.enter K args) w) (cb : Array Value) (g n cap a m b len : Nat) (f : Nat → Nat) (c : Nat → Int) (w : World) (hr : Row w g n f) (rg : Rg f n len) (ask : Asks K cb w g len c)
    (hm : b = m + 1) (h0 : m ≠ a + 1) (h1 : a < m) (h2 : b ≤ n) (hn : n ≤ 100000) (up : Up c f a m) :
    Calls Try.prog 30 #[.slice (some ⟨g, 0, none⟩) n cap, .int .i64 a, .int .i64 m, .int .i64 b, .func (.func K) #[] cb] w fun e w' => e = .returned (.tuple #[]) ∧ ∃ f', Re a b f f' ∧ Up c f' a b ∧ Row w' g n f' ∧ Upd (fun k => k = g) w w' := by
  have RR := hide hr
  have RG := hide rg
  have ASK := hide ask
  have UP := hide up
  have e1 : ((m : Int) - a == 1) = false := beq_eq_false_iff_ne.2 (by omega)
  have e2 : (b : Int) - m = 1 := by omega
  have HM := hide hm
  have hmn : m < n := by omega
  clear hr rg ask up hm h0
  go_enter Try.func30, Try.ntmps30
  go_wp2
  go_loopw [14, 15] (fun x y wr => ∃ (i j : Nat), x = .int .i64 i ∧ y = .int .i64 j ∧ a ≤ i ∧ i ≤ j ∧ j ≤ m ∧ (∀ k, a ≤ k → k < i → c (f k) ≤ c (f m)) ∧ (∀ k, j ≤ k → k < m → c (f m) < c (f k)) ∧ Row wr g n f ∧ Upd (fun k => k = g) w wr) (fun x y _ => (intOf y).toNat - (intOf x).toNat)
  case atStart => exact ⟨a, m, rfl, rfl, by omega, by omega, by omega, fun k _ _ => by omega, fun k _ _ => by omega, unhide RR, Upd.refl _ w⟩
  case round =>
    obtain ⟨i, j, rfl, rfl, hi, hij, hj, lo, hi2, row, u⟩ := hrel
    have LO := hide lo
    have HI := hide hi2
    have ROW := hide row
    have UU := hide u
    clear lo hi2
    by_cases hlt : i < j
    · have hlt' : (i : Int) < (j : Int) := by omega
      obtain ⟨h, hh⟩ : ∃ h, h = (i + j) / 2 := ⟨_, rfl⟩
      have hh' : ((i : Int) + j) / 2 = (h : Int) := by omega
      have hih : i ≤ h := by omega
      have hhj : h < j := by omega
      clear hh
      obtain ⟨c1, f1'⟩ := row h (by omega)
      obtain ⟨c2, f2'⟩ := row m (by omega)
      have g1 := unhide RG h (by omega)
      have g2 := unhide RG m (by omega)
      have AK := hide (fun q => (unhide ASK).2 (wr.drewN q) (u.drewN q) _ _ g2 g1)
      have v1 := (unhide ASK).1 _ g1
      have v2 := (unhide ASK).1 _ g2
      clear row u
      have hx : (h : Int) < n := by omega
      have hy : (m : Int) < n := by omega
      by_cases hc : c (f m) < c (f h)
      · have hc' : c (f m) - c (f h) < 0 := by omega
        have LN := hide (show ∀ k, h ≤ k → k < m → c (f m) < c (f k) from fun k k1 k2 => by
          by_cases e : k = h
          · subst e; exact hc
          · have := unhide UP h k (by omega) (by omega) k2
            omega)
        go_wp2
        go_quiet ((go_at_fn K; exact Calls.quiet_of (unhide AK _)))
        rename_i nq
        have RQ := hide ((unhide ROW).drewN nq)
        have UQ := hide ((unhide UU).drewN nq)
        clear c1 c2 f1' f2' AK
        generalize wr.drewN nq = wq at *
        go_wp2
        go_roundw
        case rel => exact ⟨i, h, rfl, by go_num, hi, by omega, by omega, unhide LO, unhide LN, unhide RQ, unhide UQ⟩
        case measure => simp [intOf]; omega
      · have hc' : decide (c (f m) - c (f h) < 0) = false := decide_eq_false (by omega)
        have LN := hide (show ∀ k, a ≤ k → k < h + 1 → c (f k) ≤ c (f m) from fun k k1 k2 => by
          by_cases e : k = h
          · subst e; omega
          · have := unhide UP k h k1 (by omega) (by omega)
            omega)
        go_wp2
        go_quiet ((go_at_fn K; exact Calls.quiet_of (unhide AK _)))
        rename_i nq
        have RQ := hide ((unhide ROW).drewN nq)
        have UQ := hide ((unhide UU).drewN nq)
        clear c1 c2 f1' f2' AK
        generalize wr.drewN nq = wq at *
        go_wp2
        go_roundw
        case rel => exact ⟨h + 1, j, by go_num, rfl, by omega, by omega, hj, unhide LN, unhide HI, unhide RQ, unhide UQ⟩
        case measure => simp [intOf]; omega
    · obtain rfl : i = j := by omega
      have hnl : ¬ (i : Int) < (i : Int) := by omega
      have DONE := hide (mw_up (unhide UP) hi hj (unhide LO) (unhide HI))
      rw [← unhide HM] at DONE
      clear row u hlt
      go_wp2
      go_loopw [17] (fun x wi => ∃ k : Nat, x = .int .i64 k ∧ i ≤ k ∧ k ≤ m ∧ Re a b f (fun x => f (mw k m x)) ∧ Row wi g n (fun x => f (mw k m x)) ∧ Upd (fun k => k = g) w wi) (fun x _ => (intOf x).toNat)
      case atStart => exact ⟨m, rfl, hj, by omega, (Re.refl a b f).congr (fun x => by rw [mw_start]), (unhide ROW).congr (fun x _ => by rw [mw_start]), unhide UU⟩
      case round =>
        clear ROW UU
        obtain ⟨k, rfl, hak, hki, re, row, u⟩ := hrel
        have RE := hide re
        have ROW := hide row
        have UU := hide u
        by_cases hlt : i < k
        · obtain ⟨k, rfl⟩ : ∃ p, k = p + 1 := ⟨k - 1, by omega⟩
          have hlt' : (i : Int) < (k : Int) + 1 := by omega
          have q1 := row (k + 1) (by omega)
          have q2 := row k (by omega)
          have d1 : wr.cell? ⟨g, k + 1, none⟩ = some (.int .i64 (f m)) := by have := q1.1; rwa [show (fun x => f (mw (k + 1) m x)) (k + 1) = f m from by show f (mw (k + 1) m (k + 1)) = f m; rw [mw_2]] at this
          have d2 : wr.cell? ⟨g, k, none⟩ = some (.int .i64 (f k)) := by have := q2.1; rwa [show (fun x => f (mw (k + 1) m x)) k = f k from by show f (mw (k + 1) m k) = f k; rw [mw_3 (by omega) hki]] at this
          have p1 := q1.2
          have p2 := q2.2
          have hb := unhide HM
          have RN := hide (((unhide RE).trans (Re.swap a b (k + 1) k _ (by omega) (by omega))).congr (f2 := fun x => f (mw k m x)) (fun x => by rw [mw_step k m x hki]))
          have EX := hide (show Row ((wr.setCell ⟨g, k + 1, none⟩ (.int .i64 (f k))).setCell ⟨g, k, none⟩ (.int .i64 (f m))) g n (fun x => f (mw k m x)) from by
            have := (row.swap (k + 1) k).congr (f' := fun x => f (mw k m x)) (fun x _ => by rw [mw_step k m x hki])
            simp only [mw_2] at this
            rwa [mw_3 (x := k) (by omega) hki] at this)
          clear re row u q1 q2 hb
          have i1 : (k : Int) < n := by omega
          have i2 : (k : Int) + 1 < n := by omega
          have hne : k + 1 ≠ k := by omega
          go_wp2
          go_region
          go_wp2
          go_roundw
          case rel => exact ⟨k, by go_num, by omega, by omega, unhide RN, unhide EX, (((unhide UU).setCell (p := ⟨g, k + 1, none⟩) rfl _).setCell (p := ⟨g, k, none⟩) rfl _).drewN 1⟩
          case measure => simp [intOf]
        · obtain rfl : k = i := by omega
          have hnl2 : ¬ (k : Int) < (k : Int) := by omega
          clear re row u
          go_wp2
          refine bodyPost_ret (results_none rfl _ _ _) rfl ?_
          exact ⟨rfl, _, unhide RE, unhide DONE, unhide ROW, unhide UU⟩
end Go.Proofs.Ytcfnbbelbadmkaa.Syr
