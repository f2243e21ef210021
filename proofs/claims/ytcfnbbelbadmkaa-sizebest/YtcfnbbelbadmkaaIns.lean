/- Contract: slices.insertionSortCmpFunc. Conditions: the places lie in the row. -/
import Derived.Test.YtcfnbbelbadmkaaSrt
namespace Go.Proofs.Ytcfnbbelbadmkaa.Ins
open Go.ChangeShapes Go.WideShapes Go.ChangeAt Go.RowKit Go.Proofs.Ytcfnbbelbadmkaa.Core Go.Proofs.Ytcfnbbelbadmkaa.Gnd Go.Proofs.Ytcfnbbelbadmkaa.Srt

/-- All but the one at j rises, and those behind j are not less than it. -/
structure Hole (c : Nat → Int) (f : Nat → Nat) (a i j : Nat) : Prop where
  rest : ∀ x y, a ≤ x → x < y → y ≤ i → x ≠ j → y ≠ j → c (f x) ≤ c (f y)
  high : ∀ y, j < y → y ≤ i → c (f j) ≤ c (f y)
theorem Hole.start {c : Nat → Int} {f : Nat → Nat} {a i : Nat} (h : Up c f a i) : Hole c f a i i :=
  ⟨fun x y h1 h2 h3 _ h5 => h x y h1 h2 (by omega), fun y h1 h2 => by omega⟩
theorem Hole.done {c : Nat → Int} {f : Nat → Nat} {a i j : Nat} (h : Hole c f a i j) (hj : j = a ∨ c (f (j - 1)) ≤ c (f j)) (hji : j ≤ i) : Up c f a (i + 1) := fun x y h1 h2 h3 => by
  by_cases e1 : y = j
  · subst e1
    rcases hj with rfl | hj
    · omega
    · by_cases e2 : x = y - 1
      · subst e2; exact hj
      · have := h.rest x (y - 1) h1 (by omega) (by omega) (by omega) (by omega)
        omega
  · by_cases e2 : x = j
    · subst e2
      exact h.high y h2 (by omega)
    · exact h.rest x y h1 h2 (by omega) e2 e1
theorem sw_l (i j : Nat) : sw i j i = j := by unfold sw; rw [if_pos rfl]
theorem sw_r (i j : Nat) : sw i j j = i := by
  unfold sw
  by_cases e : j = i
  · rw [if_pos e, e]
  · rw [if_neg e, if_pos rfl]
theorem sw_o {i j k : Nat} (h1 : k ≠ i) (h2 : k ≠ j) : sw i j k = k := by unfold sw; rw [if_neg h1, if_neg h2]
theorem Hole.step {c : Nat → Int} {f : Nat → Nat} {a i j : Nat} (h : Hole c f a i (j + 1)) (ha : a ≤ j) (hji : j + 1 ≤ i) (hl : c (f (j + 1)) ≤ c (f j)) : Hole c (fun k => f (sw (j + 1) j k)) a i j := by
  refine ⟨fun x y h1 h2 h3 h4 h5 => ?_, fun y h1 h2 => ?_⟩
  · show c (f (sw (j + 1) j x)) ≤ c (f (sw (j + 1) j y))
    by_cases e1 : x = j + 1
    · subst e1
      rw [sw_l, sw_o (by omega) (by omega)]
      exact h.rest j y ha (by omega) h3 (by omega) (by omega)
    · rw [sw_o e1 h4]
      by_cases e2 : y = j + 1
      · subst e2
        rw [sw_l]
        exact h.rest x j h1 (by omega) (by omega) (by omega) (by omega)
      · rw [sw_o e2 h5]
        exact h.rest x y h1 h2 h3 e1 e2
  · show c (f (sw (j + 1) j j)) ≤ c (f (sw (j + 1) j y))
    rw [sw_r]
    by_cases e2 : y = j + 1
    · subst e2
      rw [sw_l]
      exact hl
    · rw [sw_o e2 (by omega)]
      exact h.high y (by omega) h2
set_option maxHeartbeats 2000000 in
theorem ins29 (K : Nat) (eg : ∀ args w, (callFunc K args).run Try.prog w = .ok (.enter K args) w) (cb : Array Value) (g n cap a b len : Nat) (f : Nat → Nat) (c : Nat → Int) (w : World) (hr : Row w g n f) (rg : Rg f n len) (ask : Asks K cb w g len c)
    (h1 : a ≤ b) (h2 : b ≤ n) (hn : n ≤ 100000) :
    Calls Try.prog 29 #[.slice (some ⟨g, 0, none⟩) n cap, .int .i64 a, .int .i64 b, .func (.func K) #[] cb] w fun e w' => e = .returned (.tuple #[]) ∧ ∃ f', Re a b f f' ∧ Up c f' a b ∧ Row w' g n f' ∧ Upd (fun k => k = g) w w' := by
  have RR := hide hr
  have RG := hide rg
  have ASK := hide ask
  clear hr rg ask
  go_enter Try.func29, Try.ntmps29
  go_wp2
  go_loopw [8] (fun x wr => ∃ (i : Nat) (f1 : Nat → Nat), x = .int .i64 i ∧ a < i ∧ i ≤ b + 1 ∧ Re a b f f1 ∧ Up c f1 a i ∧ Row wr g n f1 ∧ Upd (fun k => k = g) w wr) (fun x _ => b + 1 - (intOf x).toNat)
  case atStart => exact ⟨a + 1, f, by go_num, by omega, by omega, Re.refl _ _ _, fun x y _ _ _ => by omega, unhide RR, Upd.refl _ w⟩
  case round =>
    obtain ⟨i, f1, rfl, ha, hib, re, up, row, u⟩ := hrel
    have RE := hide re
    have UP := hide up
    have ROW := hide row
    have UU := hide u
    clear re up row u
    by_cases hlt : i < b
    · have hlt' : (i : Int) < (b : Int) := by omega
      go_wp2
      go_loopw [9] (fun x wi => ∃ (j : Nat) (f2 : Nat → Nat), x = .int .i64 j ∧ a ≤ j ∧ j ≤ i ∧ Re a b f f2 ∧ Hole c f2 a i j ∧ Row wi g n f2 ∧ Upd (fun k => k = g) w wi) (fun x _ => (intOf x).toNat)
      case atStart => exact ⟨i, f1, rfl, by omega, by omega, unhide RE, Hole.start (unhide UP), unhide ROW, unhide UU⟩
      case round =>
        clear RE UP ROW UU
        obtain ⟨j, f2, rfl, haj, hji, re, hole, row, u⟩ := hrel
        have RE := hide re
        have HO := hide hole
        have ROW := hide row
        have UU := hide u
        by_cases hja : a < j
        · obtain ⟨m, rfl⟩ : ∃ m, j = m + 1 := ⟨j - 1, by omega⟩
          obtain ⟨c1, f1'⟩ := row (m + 1) (by omega)
          obtain ⟨c2, f2'⟩ := row m (by omega)
          have g1 : f2 (m + 1) < len := re.rg h2 (unhide RG) _ (by omega)
          have g2 : f2 m < len := re.rg h2 (unhide RG) _ (by omega)
          have AK := hide (fun q => (unhide ASK).2 (wr.drewN q) (u.drewN q) _ _ g1 g2)
          have EX := hide (row.swap (m + 1) m)
          have v1 := (unhide ASK).1 _ g1
          have v2 := (unhide ASK).1 _ g2
          clear re hole row u
          have hja' : (a : Int) < (m : Int) + 1 := by omega
          have hx : (m : Int) + 1 < n := by omega
          have hy : (m : Int) < n := by omega
          have hne : m + 1 ≠ m := by omega
          by_cases hc : c (f2 (m + 1)) < c (f2 m)
          · have hc' : c (f2 (m + 1)) - c (f2 m) < 0 := by omega
            have ST := hide ((unhide HO).step (by omega) hji (by omega))
            have RS := hide ((unhide RE).trans (Re.swap a b (m + 1) m f2 (by omega) (by omega)))
            go_wp2
            go_quiet ((go_at_fn K; exact Calls.quiet_of (unhide AK _)))
            rename_i nq
            have c1q : (wr.drewN nq).cell? ⟨g, m + 1, none⟩ = some (.int .i64 (f2 (m + 1))) := c1
            have c2q : (wr.drewN nq).cell? ⟨g, m, none⟩ = some (.int .i64 (f2 m)) := c2
            have f1q : (wr.drewN nq).frozen? ⟨g, m + 1, none⟩ = false := f1'
            have f2q : (wr.drewN nq).frozen? ⟨g, m, none⟩ = false := f2'
            have EXq := hide (show Row (((wr.drewN nq).setCell ⟨g, m + 1, none⟩ (.int .i64 (f2 m))).setCell ⟨g, m, none⟩ (.int .i64 (f2 (m + 1)))) g n (fun k => f2 (sw (m + 1) m k)) from unhide EX)
            have UQ := hide ((unhide UU).drewN nq)
            clear c1 c2 f1' f2' EX UU
            generalize wr.drewN nq = wq at *
            go_wp2
            go_region
            go_wp2
            go_roundw
            case rel => exact ⟨m, _, by go_num, by omega, by omega, unhide RS, unhide ST, unhide EXq, (((unhide UQ).setCell (p := ⟨g, m + 1, none⟩) rfl _).setCell (p := ⟨g, m, none⟩) rfl _).drewN 1⟩
            case measure => simp [intOf]
          · have hc' : ¬ c (f2 (m + 1)) - c (f2 m) < 0 := by omega
            have DN := hide ((unhide HO).done (.inr (by rw [Nat.add_sub_cancel]; omega)) hji)
            go_wp2
            go_quiet ((go_at_fn K; exact Calls.quiet_of (unhide AK _)))
            rename_i nq
            have RQ := hide ((unhide ROW).drewN nq)
            have UQ := hide ((unhide UU).drewN nq)
            generalize wr.drewN nq = wq at *
            go_wp2
            go_roundw
            case rel => exact ⟨i + 1, f2, by go_num, by omega, by omega, unhide RE, unhide DN, unhide RQ, unhide UQ⟩
            case measure => simp [intOf]; omega
        · obtain rfl : j = a := by omega
          have hnl : ¬ (j : Int) < (j : Int) := by omega
          have DN := hide ((unhide HO).done (.inl rfl) hji)
          clear re hole row u
          go_wp2
          go_quiet ((fail))
          rename_i nq
          have RQ := hide ((unhide ROW).drewN nq)
          have UQ := hide ((unhide UU).drewN nq)
          generalize wr.drewN nq = wq at *
          go_wp2
          go_roundw
          case rel => exact ⟨i + 1, f2, by go_num, by omega, by omega, unhide RE, unhide DN, unhide RQ, unhide UQ⟩
          case measure => simp [intOf]; omega
    · have hnl : ¬ (i : Int) < (b : Int) := by omega
      go_wp2
      go_end0
      exact ⟨rfl, f1, unhide RE, fun x y h3 h4 h5 => unhide UP x y h3 h4 (by omega), unhide ROW, unhide UU⟩
end Go.Proofs.Ytcfnbbelbadmkaa.Ins
