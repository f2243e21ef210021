/- Plain facts: what the lengths cost, by the counts alone. Conditions: as each says. -/
import Derived.Test.YtcfnbbelbadmkaaMon
namespace Go.Proofs.Ytcfnbbelbadmkaa.Wid
open Go.Proofs.Ytcfnbbelbadmkaa.Srt Go.Proofs.Ytcfnbbelbadmkaa.Ris Go.Proofs.Ytcfnbbelbadmkaa.Ris2 Go.Proofs.Ytcfnbbelbadmkaa.Itm Go.Proofs.Ytcfnbbelbadmkaa.Mrg Go.Proofs.Ytcfnbbelbadmkaa.Pur Go.Proofs.Ytcfnbbelbadmkaa.Spr Go.Proofs.Ytcfnbbelbadmkaa.Bst Go.Proofs.Ytcfnbbelbadmkaa.Fin Go.Proofs.Ytcfnbbelbadmkaa.Use Go.Proofs.Ytcfnbbelbadmkaa.Mon

theorem pos_perm {c : Nat → Int} {n : Nat} {s : Nat → Nat} (h : Re 0 (pos c n).length (fun i => (pos c n).getD i 0) s) : ((List.range (pos c n).length).map s).Perm (pos c n) := by
  refine (List.perm_ext_iff_of_nodup ?_ ?_).2 (fun x => ?_)
  · refine List.pairwise_iff_getElem.2 (fun i j hi hj hij e => ?_)
    simp only [List.length_map, List.length_range] at hi hj
    simp only [List.getElem_map, List.getElem_range] at e
    have := re_inj h hi hj e
    omega
  · refine List.pairwise_iff_getElem.2 (fun i j hi hj hij e => ?_)
    have := pos_nodup c n i j hij hj
    rw [List.getD_eq_getElem?_getD, List.getD_eq_getElem?_getD, List.getElem?_eq_getElem hi, List.getElem?_eq_getElem hj] at this
    simp only [Option.getD_some] at this
    omega
  · rw [pos_mem]
    constructor
    · intro hx
      obtain ⟨i, hi, e⟩ := List.mem_map.1 hx
      have := re_pos h (List.mem_range.1 hi)
      rw [e] at this
      exact this
    · rintro ⟨h1, h2⟩
      obtain ⟨p, hp, e⟩ := re_surj h h1 h2
      exact List.mem_map.2 ⟨p, List.mem_range.2 hp, e⟩
theorem wts_map (c : Nat → Int) (s : Nat → Nat) (n : Nat) : wts c (fun i => (s i : Int)) n = ((List.range n).map s).map (fun x => (c x, true)) := by
  unfold wts
  rw [List.map_map]
  rfl
theorem wts_perm {c : Nat → Int} {n : Nat} {s : Nat → Nat} (h : Re 0 (pos c n).length (fun i => (pos c n).getD i 0) s) : (wts c (fun i => (s i : Int)) (pos c n).length).Perm ((pos c n).map (fun x => ((c x, true) : It))) := by
  rw [wts_map]
  exact (pos_perm h).map _
theorem it_eq {a b : It} (h1 : a.2 = true) (h2 : b.2 = true) (h3 : a.1 ≤ b.1) (h4 : b.1 ≤ a.1) : a = b := by
  obtain ⟨a1, a2⟩ := a
  obtain ⟨b1, b2⟩ := b
  simp only at h1 h2 h3 h4
  subst h1; subst h2
  rw [Int.le_antisymm h3 h4]
theorem sym_eq {S S' : List It} (h : Sym S) (h' : Sym S') (p : S.Perm S') : S = S' :=
  p.eq_of_pairwise (le := fun a b => leI a b = true) (fun a b ha hb h1 h2 => it_eq (h.all a ha) (h'.all b hb) (of_decide_eq_true h1) (of_decide_eq_true h2)) ((ris_iff S).1 h.ris) ((ris_iff S').1 h'.ris)
theorem wts_same {c : Nat → Int} {n : Nat} {s s' : Nat → Nat} (h : Re 0 (pos c n).length (fun i => (pos c n).getD i 0) s) (u : Up c s 0 (pos c n).length) (h' : Re 0 (pos c n).length (fun i => (pos c n).getD i 0) s') (u' : Up c s' 0 (pos c n).length) :
    wts c (fun i => (s i : Int)) (pos c n).length = wts c (fun i => (s' i : Int)) (pos c n).length :=
  sym_eq (sym_of h u) (sym_of h' u') ((wts_perm h).trans (wts_perm h').symm)
/-- What the best lengths cost. -/
def cw (S : List It) (m : Nat) : Int := if S.length = 1 then wsum S else wsum ((rowI S (m - 1)).take (2 * S.length - 2))
theorem lns_cost {c : Nat → Int} {len m : Nat} {s M : Nat → Nat} (h : Lns c len m s M) (hm : 1 ≤ m) (hn : (pos c len).length ≤ 2 ^ m) : sumZ (fun x => c x * (M x : Int)) len = cw (wts c (fun i => (s i : Int)) (pos c len).length) m := by
  rw [lns_sum h]
  unfold cw
  rw [wts_len]
  by_cases h1 : (pos c len).length = 1
  · rw [if_pos h1, h1]
    show 0 + c (s 0) * ((M (s 0) : Nat) : Int) = _
    rw [h.one h1]
    simp [wts, wsum]
  · rw [if_neg h1]
    by_cases h2 : 2 ≤ (pos c len).length
    · exact (lns_good h h2 hm hn).cost
    · rw [show (pos c len).length = 0 by omega]
      simp [sumZ, wsum]
theorem cw_mono {S : List It} (h : Sym S) (m d : Nat) (hm : 1 ≤ m) (hn : S.length ≤ 2 ^ m) : cw S (m + d) ≤ cw S m := by
  unfold cw
  by_cases h1 : S.length = 1
  · rw [if_pos h1, if_pos h1]; exact Int.le_refl _
  · rw [if_neg h1, if_neg h1]
    have hk := row_enough S (m - 1) (by rw [show m - 1 + 1 = m by omega]; exact hn)
    have := (cost_mono h _ (m - 1) hk d).2
    rw [show m - 1 + d = m + d - 1 by omega] at this
    exact this
theorem wsum_at (S : List It) : wsum S = sumZ (fun p => (at_ S p).1) S.length := by
  have := pre_sum S S.length (Nat.le_refl _)
  unfold pre at this
  rwa [List.take_length] at this
theorem cw_flat {S : List It} (h : Sym S) (m : Nat) (hm : 1 ≤ m) (hn : S.length ≤ 2 ^ m) : cw S m ≤ (m : Int) * wsum S ∧ 0 ≤ wsum S ∧ 0 ≤ cw S m := by
  have hp : 0 ≤ wsum S := by
    rw [wsum_at]
    have := sumZ_le (g := fun _ => 0) (h := fun p => (at_ S p).1) S.length (fun k hk => Int.le_of_lt (h.pos _ (at_mem hk)))
    rw [sumZ_zero] at this
    exact this
  unfold cw
  by_cases h1 : S.length = 1
  · rw [if_pos h1]
    refine ⟨?_, hp, hp⟩
    have := Int.mul_le_mul_of_nonneg_right (show (1 : Int) ≤ (m : Int) by omega) hp
    omega
  · rw [if_neg h1]
    by_cases h2 : 2 ≤ S.length
    · have g := good6 h m h2 hm hn
      rw [← g.cost]
      refine ⟨?_, hp, ?_⟩
      · have := sumZ_le S.length (g := fun p => (at_ S p).1 * ((sumN (fun r => if p < sprd S (m - 1) (2 * S.length - 2) r then 1 else 0) m : Nat) : Int)) (h := fun p => (at_ S p).1 * (m : Int)) (fun k hk => Int.mul_le_mul_of_nonneg_left (by have := (g.pos k hk).2; omega) (Int.le_of_lt (h.pos _ (at_mem hk))))
        rw [sumZ_mul, ← wsum_at, Int.mul_comm (wsum S)] at this
        exact this
      · have := sumZ_le S.length (g := fun _ => 0) (h := fun p => (at_ S p).1 * ((sumN (fun r => if p < sprd S (m - 1) (2 * S.length - 2) r then 1 else 0) m : Nat) : Int)) (fun k hk => Int.mul_nonneg (Int.le_of_lt (h.pos _ (at_mem hk))) (Int.natCast_nonneg _))
        rw [sumZ_zero] at this
        exact this
    · have e : S = [] := List.eq_nil_of_length_eq_zero (by omega)
      subst e
      simp [wsum]
theorem wts_all {c : Nat → Int} {len : Nat} {s : Nat → Nat} (h : Re 0 (pos c len).length (fun i => (pos c len).getD i 0) s) (hc : ∀ x, x < len → 0 ≤ c x) : wsum (wts c (fun i => (s i : Int)) (pos c len).length) = sumZ c len := by
  rw [wsum_at, wts_len, sumZ_congr _ (h := fun p => c (s p)) (fun p hp => by rw [wts_at _ _ _ _ hp]; rfl)]
  refine (sumZ_re _ c (fun p hp => (re_pos h hp).1) (fun p q hp hq e => re_inj h hp hq e) (fun x hx hn => ?_)).symm
  have h0 := hc x hx
  rcases Int.lt_or_eq_of_le h0 with h1 | h1
  · obtain ⟨p, hp, e⟩ := re_surj h hx h1
    exact absurd e (hn p hp)
  · exact h1.symm
theorem lns_le {c : Nat → Int} {len m : Nat} {s M : Nat → Nat} (h : Lns c len m s M) (hm : 1 ≤ m) (hn : (pos c len).length ≤ 2 ^ m) (x : Nat) (hx : x < len) : M x ≤ m := by
  by_cases e : ∃ p, p < (pos c len).length ∧ s p = x
  · obtain ⟨p, hp, rfl⟩ := e
    by_cases h1 : (pos c len).length = 1
    · rw [show p = 0 by omega, h.one h1]
      exact hm
    · exact ((lns_good h (by omega) hm hn).pos p hp).2
  · rw [h.none x hx (fun p hp e2 => e ⟨p, hp, e2⟩)]
    exact Nat.zero_le _
theorem lns_tot {c : Nat → Int} {len m : Nat} {s M : Nat → Nat} (h : Lns c len m s M) (hm : 1 ≤ m) (hm2 : m ≤ 15) (hn : (pos c len).length ≤ 2 ^ m) (hl : len ≤ 4096) (ok : Okc c len) : Totl.tot c (fun i => (M i : Int)) len = cw (wts c (fun i => (s i : Int)) (pos c len).length) m := by
  rw [← lns_cost h hm hn]
  refine (tot_sum len hl (fun k hk => ?_)).1
  have h1 := ok k hk
  have h2 := lns_le h hm hn k hk
  refine ⟨Int.mul_nonneg h1.1 (Int.natCast_nonneg _), ?_⟩
  have h3 := Int.mul_le_mul h1.2 (show (M k : Int) ≤ 15 by omega) (Int.natCast_nonneg _) (by omega)
  omega
end Go.Proofs.Ytcfnbbelbadmkaa.Wid
