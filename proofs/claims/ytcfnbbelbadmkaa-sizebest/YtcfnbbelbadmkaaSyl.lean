/- Contract: slices.symMergeCmpFunc, where one of the two rows is of one. Conditions: the places lie in the row. -/
import Derived.Test.YtcfnbbelbadmkaaIns
namespace Go.Proofs.Ytcfnbbelbadmkaa.Syl
open Go.ChangeShapes Go.WideShapes Go.ChangeAt Go.RowKit Go.Proofs.Ytcfnbbelbadmkaa.Core Go.Proofs.Ytcfnbbelbadmkaa.Gnd Go.Proofs.Ytcfnbbelbadmkaa.Srt Go.Proofs.Ytcfnbbelbadmkaa.Ins

/-- The one at a is brought to k. -/
def mv (a k x : Nat) : Nat := if a ≤ x ∧ x < k then x + 1 else if x = k then a else x
theorem mv_1 {a k x : Nat} (h1 : a ≤ x) (h2 : x < k) : mv a k x = x + 1 := by unfold mv; rw [if_pos ⟨h1, h2⟩]
theorem mv_2 (a k : Nat) : mv a k k = a := by unfold mv; rw [if_neg (by omega), if_pos rfl]
theorem mv_3 {a k x : Nat} (h : x < a ∨ k < x) (hk : a ≤ k) : mv a k x = x := by unfold mv; rw [if_neg (by omega), if_neg (by omega)]
theorem mv_start (a x : Nat) : mv a a x = x := by
  by_cases e : x = a
  · subst e; exact mv_2 x x
  · exact mv_3 (by omega) (Nat.le_refl _)
theorem mv_step (a k x : Nat) (h : a ≤ k) : mv a (k + 1) x = mv a k (sw k (k + 1) x) := by
  by_cases e1 : x = k
  · subst e1; rw [sw_l, mv_1 h (by omega), mv_3 (by omega) h]
  · by_cases e2 : x = k + 1
    · subst e2; rw [sw_r, mv_2, mv_2]
    · rw [sw_o e1 e2]
      by_cases e3 : a ≤ x ∧ x < k
      · rw [mv_1 e3.1 e3.2, mv_1 e3.1 (by omega)]
      · rw [mv_3 (by omega) (by omega), mv_3 (by omega) h]
theorem mv_up {c : Nat → Int} {f : Nat → Nat} {a b i : Nat} (up : Up c f (a + 1) b) (hi : a + 1 ≤ i) (hib : i ≤ b) (lo : ∀ k, a + 1 ≤ k → k < i → c (f k) < c (f a)) (hh : ∀ k, i ≤ k → k < b → c (f a) ≤ c (f k)) : Up c (fun k => f (mv a (i - 1) k)) a b := fun x y h1 h2 h3 => by
  show c (f (mv a (i - 1) x)) ≤ c (f (mv a (i - 1) y))
  by_cases e1 : y < i - 1
  · have e0 : x < i - 1 := by omega
    rw [mv_1 (k := i - 1) (x := x) h1 e0, mv_1 (k := i - 1) (x := y) (by omega) e1]
    exact up _ _ (by omega) (by omega) (by omega)
  · by_cases e2 : y = i - 1
    · rw [e2, mv_2, mv_1 h1 (by omega)]
      have := lo (x + 1) (by omega) (by omega)
      omega
    · rw [mv_3 (k := i - 1) (x := y) (by omega) (by omega)]
      by_cases e3 : x < i - 1
      · rw [mv_1 h1 e3]
        exact up _ _ (by omega) (by omega) h3
      · by_cases e4 : x = i - 1
        · rw [e4, mv_2]
          exact hh y (by omega) h3
        · rw [mv_3 (by omega) (by omega)]
          exact up _ _ (by omega) h2 h3
/-- The one at m is brought to k. -/
def mw (k m x : Nat) : Nat := if k < x ∧ x ≤ m then x - 1 else if x = k then m else x
theorem mw_1 {k m x : Nat} (h1 : k < x) (h2 : x ≤ m) : mw k m x = x - 1 := by unfold mw; rw [if_pos ⟨h1, h2⟩]
theorem mw_2 (k m : Nat) : mw k m k = m := by unfold mw; rw [if_neg (by omega), if_pos rfl]
theorem mw_3 {k m x : Nat} (h : x < k ∨ m < x) (hk : k ≤ m) : mw k m x = x := by unfold mw; rw [if_neg (by omega), if_neg (by omega)]
theorem mw_start (m x : Nat) : mw m m x = x := by
  by_cases e : x = m
  · subst e; exact mw_2 x x
  · exact mw_3 (by omega) (Nat.le_refl _)
theorem mw_step (k m x : Nat) (h : k + 1 ≤ m) : mw k m x = mw (k + 1) m (sw (k + 1) k x) := by
  by_cases e1 : x = k + 1
  · subst e1; rw [sw_l, mw_1 (by omega) h, mw_3 (by omega) h]; omega
  · by_cases e2 : x = k
    · subst e2; rw [sw_r, mw_2, mw_2]
    · rw [sw_o e1 e2]
      by_cases e3 : k < x ∧ x ≤ m
      · rw [mw_1 e3.1 e3.2, mw_1 (by omega) e3.2]
      · rw [mw_3 (by omega) (by omega), mw_3 (by omega) h]
theorem mw_up {c : Nat → Int} {f : Nat → Nat} {a m i : Nat} (up : Up c f a m) (hi : a ≤ i) (him : i ≤ m) (lo : ∀ k, a ≤ k → k < i → c (f k) ≤ c (f m)) (hh : ∀ k, i ≤ k → k < m → c (f m) < c (f k)) : Up c (fun k => f (mw i m k)) a (m + 1) := fun x y h1 h2 h3 => by
  show c (f (mw i m x)) ≤ c (f (mw i m y))
  by_cases e1 : x < i
  · rw [mw_3 (x := x) (.inl e1) him]
    by_cases e2 : y < i
    · rw [mw_3 (.inl e2) him]
      exact up _ _ h1 h2 (by omega)
    · by_cases e3 : y = i
      · rw [e3, mw_2]
        exact lo x h1 e1
      · rw [mw_1 (by omega) (by omega)]
        exact up _ _ h1 (by omega) (by omega)
  · rw [mw_1 (x := y) (by omega) (by omega)]
    by_cases e3 : x = i
    · rw [e3, mw_2]
      have := hh (y - 1) (by omega) (by omega)
      omega
    · rw [mw_1 (by omega) (by omega)]
      exact up _ _ (by omega) (by omega) (by omega)
set_option maxRecDepth 20000 in
set_option maxHeartbeats 4000000 in
theorem syl30 (K : Nat) (eg : ∀ args w, (callFunc K args).run Try.prog w = .ok (.enter K args) w) (cb : Array Value) (g n cap a m b len : Nat) (f : Nat → Nat) (c : Nat → Int) (w : World) (hr : Row w g n f) (rg : Rg f n len) (ask : Asks K cb w g len c)
    (hm : m = a + 1) (h1 : m < b) (h2 : b ≤ n) (hn : n ≤ 100000) (up : Up c f m b) :
    Calls Try.prog 30 #[.slice (some ⟨g, 0, none⟩) n cap, .int .i64 a, .int .i64 m, .int .i64 b, .func (.func K) #[] cb] w fun e w' => e = .returned (.tuple #[]) ∧ ∃ f', Re a b f f' ∧ Up c f' a b ∧ Row w' g n f' ∧ Upd (fun k => k = g) w w' := by
  have RR := hide hr
  have RG := hide rg
  have ASK := hide ask
  have UP := hide up
  have e1 : (m : Int) - a = 1 := by omega
  have HM := hide hm
  clear hr rg ask up hm
  go_enter Try.func30, Try.ntmps30
  go_wp2
  go_loopw [10, 11] (fun x y wr => ∃ (i j : Nat), x = .int .i64 i ∧ y = .int .i64 j ∧ m ≤ i ∧ i ≤ j ∧ j ≤ b ∧ (∀ k, m ≤ k → k < i → c (f k) < c (f a)) ∧ (∀ k, j ≤ k → k < b → c (f a) ≤ c (f k)) ∧ Row wr g n f ∧ Upd (fun k => k = g) w wr) (fun x y _ => (intOf y).toNat - (intOf x).toNat)
  case atStart => exact ⟨m, b, rfl, rfl, by omega, by omega, by omega, fun k _ _ => by omega, fun k _ _ => by omega, unhide RR, Upd.refl _ w⟩
  case round =>
    obtain ⟨i, j, rfl, rfl, hi, hij, hj, lo, hi2, row, u⟩ := hrel
    have LO := hide lo
    have HI := hide hi2
    have ROW := hide row
    have UU := hide u
    clear lo hi2
    by_cases hlt : i < j
    · have hlt' : (i : Int) < (j : Int) := by omega
      obtain ⟨h, hh⟩ : ∃ h, h = (i + j) / 2 := ⟨_, rfl⟩
      have hh' : ((i : Int) + j) / 2 = (h : Int) := by omega
      have hih : i ≤ h := by omega
      have hhj : h < j := by omega
      clear hh
      obtain ⟨c1, f1'⟩ := row h (by omega)
      obtain ⟨c2, f2'⟩ := row a (by have := unhide HM; omega)
      have g1 := unhide RG h (by omega)
      have g2 := unhide RG a (by have := unhide HM; omega)
      have AK := hide (fun q => (unhide ASK).2 (wr.drewN q) (u.drewN q) _ _ g1 g2)
      have v1 := (unhide ASK).1 _ g1
      have v2 := (unhide ASK).1 _ g2
      clear row u
      have hx : (h : Int) < n := by omega
      have hy : (a : Int) < n := by have := unhide HM; omega
      by_cases hc : c (f h) < c (f a)
      · have hc' : c (f h) - c (f a) < 0 := by omega
        have LN := hide (show ∀ k, m ≤ k → k < h + 1 → c (f k) < c (f a) from fun k k1 k2 => by
          by_cases e : k = h
          · subst e; exact hc
          · have := unhide UP k h k1 (by omega) (by omega)
            omega)
        go_wp2
        go_quiet ((go_at_fn K; exact Calls.quiet_of (unhide AK _)))
        rename_i nq
        have RQ := hide ((unhide ROW).drewN nq)
        have UQ := hide ((unhide UU).drewN nq)
        clear c1 c2 f1' f2' AK
        generalize wr.drewN nq = wq at *
        go_wp2
        go_roundw
        case rel => exact ⟨h + 1, j, by go_num, rfl, by omega, by omega, hj, unhide LN, unhide HI, unhide RQ, unhide UQ⟩
        case measure => simp [intOf]; omega
      · have hc' : ¬ c (f h) - c (f a) < 0 := by omega
        have LN := hide (show ∀ k, h ≤ k → k < b → c (f a) ≤ c (f k) from fun k k1 k2 => by
          by_cases e : k = h
          · subst e; omega
          · have := unhide UP h k (by omega) (by omega) k2
            omega)
        go_wp2
        go_quiet ((go_at_fn K; exact Calls.quiet_of (unhide AK _)))
        rename_i nq
        have RQ := hide ((unhide ROW).drewN nq)
        have UQ := hide ((unhide UU).drewN nq)
        clear c1 c2 f1' f2' AK
        generalize wr.drewN nq = wq at *
        go_wp2
        go_roundw
        case rel =>
          exact ⟨i, h, rfl, by go_num, hi, by omega, by omega, unhide LO, unhide LN, unhide RQ, unhide UQ⟩
        case measure => simp [intOf]; omega
    · obtain rfl : i = j := by omega
      have hnl : ¬ (i : Int) < (i : Int) := by omega
      have DONE := hide (mv_up (c := c) (f := f) (a := a) (b := b) (i := i) (by rw [← unhide HM]; exact unhide UP) (by rw [← unhide HM]; exact hi) hj (by rw [← unhide HM]; exact unhide LO) (unhide HI))
      have ham : a < m := by have := unhide HM; omega
      clear row u hlt
      obtain ⟨i, rfl⟩ : ∃ p, i = p + 1 := ⟨i - 1, by omega⟩
      go_wp2
      go_loopw [13] (fun x wi => ∃ k : Nat, x = .int .i64 k ∧ a ≤ k ∧ k ≤ i ∧ Re a b f (fun x => f (mv a k x)) ∧ Row wi g n (fun x => f (mv a k x)) ∧ Upd (fun k => k = g) w wi) (fun x _ => i - (intOf x).toNat)
      case atStart => exact ⟨a, rfl, Nat.le_refl _, by omega, (Re.refl a b f).congr (fun x => by rw [mv_start]), (unhide ROW).congr (fun x _ => by rw [mv_start]), unhide UU⟩
      case round =>
        clear ROW UU
        obtain ⟨k, rfl, hak, hki, re, row, u⟩ := hrel
        have RE := hide re
        have ROW := hide row
        have UU := hide u
        by_cases hlt : k < i
        · have hlt' : (k : Int) < (i : Int) := by omega
          have q1 := row k (by omega)
          have q2 := row (k + 1) (by omega)
          have d1 : wr.cell? ⟨g, k, none⟩ = some (.int .i64 (f a)) := by have := q1.1; rwa [show (fun x => f (mv a k x)) k = f a from by show f (mv a k k) = f a; rw [mv_2]] at this
          have d2 : wr.cell? ⟨g, k + 1, none⟩ = some (.int .i64 (f (k + 1))) := by have := q2.1; rwa [show (fun x => f (mv a k x)) (k + 1) = f (k + 1) from by show f (mv a k (k + 1)) = f (k + 1); rw [mv_3 (by omega) hak]] at this
          have p1 := q1.2
          have p2 := q2.2
          have RN := hide (((unhide RE).trans (Re.swap a b k (k + 1) _ (by omega) (by omega))).congr (f2 := fun x => f (mv a (k + 1) x)) (fun x => by rw [mv_step a k x hak]))
          have EX := hide (show Row ((wr.setCell ⟨g, k, none⟩ (.int .i64 (f (k + 1)))).setCell ⟨g, k + 1, none⟩ (.int .i64 (f a))) g n (fun x => f (mv a (k + 1) x)) from by
            have := (row.swap k (k + 1)).congr (f' := fun x => f (mv a (k + 1) x)) (fun x _ => by rw [mv_step a k x hak])
            simp only [mv_2] at this
            rwa [mv_3 (x := k + 1) (by omega) hak] at this)
          clear re row u q1 q2
          have i1 : (k : Int) < n := by omega
          have i2 : (k : Int) + 1 < n := by omega
          have hne : k ≠ k + 1 := by omega
          go_wp2
          go_region
          go_wp2
          go_roundw
          case rel => exact ⟨k + 1, by go_num, by omega, by omega, unhide RN, unhide EX, (((unhide UU).setCell (p := ⟨g, k, none⟩) rfl _).setCell (p := ⟨g, k + 1, none⟩) rfl _).drewN 1⟩
          case measure => simp [intOf]; omega
        · obtain rfl : k = i := by omega
          have hnl2 : ¬ (k : Int) < (k : Int) := by omega
          clear re row u
          go_wp2
          refine bodyPost_ret (results_none rfl _ _ _) rfl ?_
          exact ⟨rfl, _, unhide RE, unhide DONE, unhide ROW, unhide UU⟩
end Go.Proofs.Ytcfnbbelbadmkaa.Syl
