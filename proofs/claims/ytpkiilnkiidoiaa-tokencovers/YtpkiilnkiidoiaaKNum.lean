/- Plain numbers: pixels that are told by steps, and the cache of them; spans, and the steps that cover pixels by them. No function of the program. No conditions. -/
import Derived.Test.YtpkiilnkiidoiaaCNum
namespace Go.Proofs.Ytpkiilnkiidoiaa.KNum
open Go.Proofs.Ytpkiilnkiidoiaa.CNum

/-- A step: its kind, length, distance, place, colour. -/
structure Tk where
  k : Int
  n : Int
  d : Int
  i : Int
  a : Nat
/-- A span: its place, length, distance. -/
structure Sp where
  p : Int
  n : Int
  d : Int

/-- What stands where in a cache of b bits, behind these pixels. -/
def cf (b : Nat) (l : List Nat) : Nat → Nat := l.foldl (fun f a => upd f (sl a b) a) (fun _ => 0)
theorem cf_snoc (b : Nat) (l : List Nat) (a : Nat) : cf b (l ++ [a]) = upd (cf b l) (sl a b) a := by
  unfold cf; rw [List.foldl_append]; rfl
/-- How many places there are. -/
def pl (b : Nat) : Nat := if b = 0 then 0 else 2 ^ b
theorem pl_zero : pl 0 = 0 := rfl
theorem pl_pos {b : Nat} (h : 1 ≤ b) : pl b = 2 ^ b := if_neg (by omega)
/-- k pixels more, each as the one that is d ahead of it. -/
def cpy (l : List Nat) (d : Nat) : Nat → List Nat
  | 0 => l
  | k + 1 => cpy l d k ++ [(cpy l d k).getD ((cpy l d k).length - d) 0]
theorem cpy_len (l : List Nat) (d k : Nat) : (cpy l d k).length = l.length + k := by
  induction k with
  | zero => rfl
  | succ k ih => simp [cpy, ih]; omega
def isLit (m : Nat) (l : List Nat) (t : Tk) : Bool := decide (t.k = 1 ∧ l.length < m)
def isCpy (m : Nat) (l : List Nat) (t : Tk) : Bool := decide (t.k = 2 ∧ 1 ≤ t.n ∧ t.n ≤ 4096 ∧ 1 ≤ t.d ∧ t.d ≤ l.length ∧ t.n + l.length ≤ m)
def isKno (b m : Nat) (l : List Nat) (t : Tk) : Bool := decide (t.k = 3 ∧ 0 ≤ t.i ∧ t.i < pl b ∧ l.length < m)
/-- What a step tells behind these pixels, if it is one. -/
def stepP (b m : Nat) (l : List Nat) (t : Tk) : Option (List Nat) :=
  if isLit m l t then some (l ++ [t.a]) else if isCpy m l t then some (cpy l t.d.toNat t.n.toNat) else if isKno b m l t then some (l ++ [cf b l t.i.toNat]) else none
theorem step_lit {b m : Nat} {l : List Nat} {t : Tk} (h : isLit m l t = true) : stepP b m l t = some (l ++ [t.a]) := if_pos h
theorem step_cpy {b m : Nat} {l : List Nat} {t : Tk} (h : isCpy m l t = true) : stepP b m l t = some (cpy l t.d.toNat t.n.toNat) := by
  have h1 : isLit m l t = false := by
    have := of_decide_eq_true h
    exact decide_eq_false (by omega)
  simp [stepP, h1, h]
theorem step_kno {b m : Nat} {l : List Nat} {t : Tk} (h : isKno b m l t = true) : stepP b m l t = some (l ++ [cf b l t.i.toNat]) := by
  have h1 : isLit m l t = false := by
    have := of_decide_eq_true h
    exact decide_eq_false (by omega)
  have h2 : isCpy m l t = false := by
    have := of_decide_eq_true h
    exact decide_eq_false (by omega)
  simp [stepP, h1, h2, h]
theorem step_no {b m : Nat} {l : List Nat} {t : Tk} (h1 : isLit m l t = false) (h2 : isCpy m l t = false) (h3 : isKno b m l t = false) : stepP b m l t = none := by
  simp [stepP, h1, h2, h3]
/-- What the steps tell behind these pixels. -/
def expP (b m : Nat) : List Nat → List Tk → Option (List Nat)
  | l, [] => some l
  | l, t :: ts => match stepP b m l t with
    | none => none
    | some l' => expP b m l' ts
theorem exp_some {b m : Nat} {l l' : List Nat} {t : Tk} {ts : List Tk} (h : stepP b m l t = some l') : expP b m l (t :: ts) = expP b m l' ts := by simp [expP, h]
theorem exp_none {b m : Nat} {l : List Nat} {t : Tk} {ts : List Tk} (h : stepP b m l t = none) : expP b m l (t :: ts) = none := by simp [expP, h]
theorem step_len {b m : Nat} {l l' : List Nat} {t : Tk} (h : stepP b m l t = some l') : l'.length ≤ m := by
  unfold stepP at h
  split at h
  · next hh => have := of_decide_eq_true hh; cases h; simp; omega
  · split at h
    · next hh => have := of_decide_eq_true hh; cases h; rw [cpy_len]; omega
    · split at h
      · next hh => have := of_decide_eq_true hh; cases h; simp; omega
      · cases h
/-- All pixels told, of just so many. -/
def allP (b m : Nat) (ts : List Tk) : Option (List Nat) := match expP b m [] ts with
  | some l => if l.length < m then none else some l
  | none => none
theorem all_none {b m : Nat} {ts : List Tk} (h : expP b m [] ts = none) : allP b m ts = none := by simp [allP, h]
theorem all_less {b m : Nat} {ts : List Tk} {l : List Nat} (h : expP b m [] ts = some l) (hl : l.length < m) : allP b m ts = none := by simp [allP, h, hl]
theorem all_some {b m : Nat} {ts : List Tk} {l : List Nat} (h : expP b m [] ts = some l) (hl : ¬ l.length < m) : allP b m ts = some l := by simp only [allP, h, if_neg hl]

/-! Spans. -/
def okV (n : Nat) (s : Sp) : Bool := decide (0 ≤ s.p ∧ 1 ≤ s.n ∧ s.n ≤ 4096 ∧ 1 ≤ s.d ∧ s.d ≤ s.p ∧ s.d ≤ 1048456 ∧ s.p + s.n ≤ n)
def sect (px : List Nat) (p n : Nat) : List Nat := (px.drop p).take n
def fit1 (px : List Nat) (s : Sp) : Bool := okV px.length s && decide (sect px s.p.toNat s.n.toNat = sect px (s.p.toNat - s.d.toNat) s.n.toNat)
def fitV (px : List Nat) : Nat → List Sp → Bool
  | _, [] => true
  | nx, s :: ss => decide ((nx : Int) ≤ s.p) && fit1 px s && fitV px (s.p + s.n).toNat ss
theorem sect_len (px : List Nat) (p n : Nat) (h : p + n ≤ px.length) : (sect px p n).length = n := by simp [sect]; omega
theorem sect_at (px : List Nat) (p n j : Nat) (h : j < n) : (sect px p n)[j]? = px[p + j]? := by simp [sect, h, List.getElem?_drop]
theorem getD_of {l : List Nat} {i a : Nat} (h : l[i]? = some a) : l.getD i 0 = a := by simp [List.getD_eq_getElem?_getD, h]
theorem some_getD {l : List Nat} {i : Nat} (h : i < l.length) : l[i]? = some (l.getD i 0) := by simp [List.getD_eq_getElem?_getD, h]
theorem sect_eq {px : List Nat} {p q n : Nat} (hp : p + n ≤ px.length) (hq : q + n ≤ px.length) (h : ∀ j, j < n → px.getD (p + j) 0 = px.getD (q + j) 0) : sect px p n = sect px q n := by
  apply List.ext_getElem?
  intro j
  by_cases hj : j < n
  · rw [sect_at _ _ _ _ hj, sect_at _ _ _ _ hj, some_getD (by omega), some_getD (by omega), h j hj]
  · rw [List.getElem?_eq_none (by rw [sect_len _ _ _ hp]; omega), List.getElem?_eq_none (by rw [sect_len _ _ _ hq]; omega)]
theorem sect_ne {px : List Nat} {p q n j : Nat} (hp : p + n ≤ px.length) (hq : q + n ≤ px.length) (hj : j < n) (h : px.getD (p + j) 0 ≠ px.getD (q + j) 0) : sect px p n ≠ sect px q n := by
  intro e
  have h1 := sect_at px p n j hj
  rw [e, sect_at px q n j hj, some_getD (by omega), some_getD (by omega)] at h1
  exact h (Option.some.inj h1).symm
theorem sect_get {px : List Nat} {p q n j : Nat} (hp : p + n ≤ px.length) (hq : q + n ≤ px.length) (hj : j < n) (h : sect px p n = sect px q n) : px.getD (p + j) 0 = px.getD (q + j) 0 :=
  Classical.byContradiction fun c => sect_ne hp hq hj c h
/-- What a span that fits is, in natural numbers. -/
theorem fit_nat {px : List Nat} {s : Sp} (h : fit1 px s = true) : ∃ p n d : Nat, s = ⟨p, n, d⟩ ∧ 1 ≤ n ∧ n ≤ 4096 ∧ 1 ≤ d ∧ d ≤ p ∧ d ≤ 1048456 ∧ p + n ≤ px.length ∧ sect px p n = sect px (p - d) n := by
  unfold fit1 at h
  rw [Bool.and_eq_true] at h
  obtain ⟨h1, h2⟩ := h
  obtain ⟨a1, a2, a3, a4, a5, a6, a7⟩ := of_decide_eq_true h1
  have h2' := of_decide_eq_true h2
  obtain ⟨p, n, d⟩ := s
  obtain ⟨p, rfl⟩ := Int.eq_ofNat_of_zero_le a1
  obtain ⟨n, rfl⟩ := Int.eq_ofNat_of_zero_le (a := n) (by simp only at a2; omega)
  obtain ⟨d, rfl⟩ := Int.eq_ofNat_of_zero_le (a := d) (by simp only at a4; omega)
  simp only at a1 a2 a3 a4 a5 a6 a7
  exact ⟨p, n, d, rfl, by omega, by omega, by omega, by omega, by omega, by omega, by simpa using h2'⟩
theorem fit_cons {px : List Nat} {nx : Nat} {s : Sp} {ss : List Sp} (h : fitV px nx (s :: ss) = true) : (nx : Int) ≤ s.p ∧ fit1 px s = true ∧ fitV px (s.p + s.n).toNat ss = true := by
  simp only [fitV, Bool.and_eq_true, decide_eq_true_eq] at h
  exact ⟨h.1.1, h.1.2, h.2⟩
theorem fit_mk {px : List Nat} {nx : Nat} {s : Sp} {ss : List Sp} (h1 : (nx : Int) ≤ s.p) (h2 : fit1 px s = true) : fitV px nx (s :: ss) = fitV px (s.p + s.n).toNat ss := by
  simp [fitV, h1, h2]
theorem fit_no {px : List Nat} {nx : Nat} {s : Sp} {ss : List Sp} (h : (nx : Int) ≤ s.p → fit1 px s = false) : fitV px nx (s :: ss) = false := by
  by_cases hp : (nx : Int) ≤ s.p
  · simp [fitV, h hp]
  · simp [fitV, hp]
theorem fit_snoc {px : List Nat} {s : Sp} : ∀ {nx e : Nat} {ss : List Sp}, fitV px nx ss = true → (∀ t ∈ ss, t.p + t.n ≤ e) → nx ≤ e → (e : Int) ≤ s.p → fit1 px s = true → fitV px nx (ss ++ [s]) = true
  | nx, e, [], _, _, h1, h2, h3 => by
    rw [List.nil_append, fit_mk (by omega) h3]; rfl
  | nx, e, t :: ss, h, ha, h1, h2, h3 => by
    obtain ⟨c1, c2, c3⟩ := fit_cons h
    obtain ⟨p, n, d, rfl, _⟩ := fit_nat c2
    rw [List.cons_append, fit_mk c1 c2]
    have hh := ha _ (List.mem_cons_self)
    simp only at hh
    exact fit_snoc c3 (fun t ht => ha t (List.mem_cons_of_mem _ ht)) (by simp only; omega) h2 h3
theorem fit_all {px : List Nat} : ∀ {nx : Nat} {ss : List Sp}, fitV px nx ss = true → ∀ t ∈ ss, (nx : Int) ≤ t.p ∧ fit1 px t = true
  | nx, [], _, t, ht => by cases ht
  | nx, s :: ss, h, t, ht => by
    obtain ⟨c1, c2, c3⟩ := fit_cons h
    rcases List.mem_cons.1 ht with rfl | hm
    · exact ⟨c1, c2⟩
    · obtain ⟨p, n, d, rfl, e1, _⟩ := fit_nat c2
      have := fit_all c3 t hm
      simp only at this c1 ⊢
      exact ⟨by omega, this.2⟩
theorem cpy_take {px : List Nat} {p d k : Nat} (hd : 1 ≤ d) (hp : d ≤ p) (hk : p + k ≤ px.length) (h : ∀ j, j < k → px.getD (p + j) 0 = px.getD (p - d + j) 0) : cpy (px.take p) d k = px.take (p + k) := by
  induction k with
  | zero => rfl
  | succ k ih =>
    have ih := ih (by omega) (fun j hj => h j (by omega))
    rw [cpy, ih]
    have hl : (px.take (p + k)).length = p + k := by simp; omega
    rw [hl, show p + (k + 1) = (p + k) + 1 by omega, List.take_add_one, some_getD (l := px) (i := p + k) (by omega)]
    have : (px.take (p + k)).getD (p + k - d) 0 = px.getD (p + k) 0 := by
      rw [h k (by omega), List.getD_eq_getElem?_getD, List.getD_eq_getElem?_getD, List.getElem?_take, if_pos (by omega), show p + k - d = p - d + k by omega]
    rw [this]; rfl
/-- The step of one pixel. -/
def sgl (b : Nat) (l : List Nat) (a : Nat) : Tk := if b ≠ 0 ∧ cf b l (sl a b) = a then ⟨3, 0, 0, (sl a b : Nat), 0⟩ else ⟨1, 0, 0, 0, a⟩
theorem sgl_yes {b : Nat} {l : List Nat} {a : Nat} (hb : b ≠ 0) (h : cf b l (sl a b) = a) : sgl b l a = ⟨3, 0, 0, (sl a b : Nat), 0⟩ := if_pos ⟨hb, h⟩
theorem sgl_no {b : Nat} {l : List Nat} {a : Nat} (h : b = 0 ∨ cf b l (sl a b) ≠ a) : sgl b l a = ⟨1, 0, 0, 0, a⟩ := if_neg (fun c => h.elim c.1 (fun k => k c.2))
def sngs (b : Nat) : List Nat → List Nat → List Tk
  | _, [] => []
  | l, a :: r => sgl b l a :: sngs b (l ++ [a]) r
theorem sngs_snoc (b : Nat) (a : Nat) : ∀ (r l : List Nat), sngs b l (r ++ [a]) = sngs b l r ++ [sgl b (l ++ r) a]
  | [], l => by simp [sngs]
  | x :: r, l => by simp [sngs, sngs_snoc b a r, List.append_assoc]
theorem sngs_len (b : Nat) : ∀ (r l : List Nat), (sngs b l r).length = r.length
  | [], l => rfl
  | x :: r, l => by simp [sngs, sngs_len b r]
/-- The steps that cover these pixels by spans. -/
def covP (b : Nat) (px : List Nat) : Nat → List Sp → List Tk
  | nx, [] => sngs b (px.take nx) (px.drop nx)
  | nx, s :: ss => sngs b (px.take nx) (sect px nx (s.p.toNat - nx)) ++ ⟨2, s.n, s.d, 0, 0⟩ :: covP b px (s.p + s.n).toNat ss
theorem sgl_step {b m : Nat} {l : List Nat} {a : Nat} (hb : b ≤ 11) (hm : l.length < m) : stepP b m l (sgl b l a) = some (l ++ [a]) := by
  by_cases h : b ≠ 0 ∧ cf b l (sl a b) = a
  · rw [sgl_yes h.1 h.2]
    have hs := sl_lt a b (by omega)
    have hp := pl_pos (b := b) (by omega)
    rw [step_kno (decide_eq_true ⟨rfl, by simp only; omega, by simp only; omega, hm⟩)]
    simp only [Int.toNat_natCast, h.2]
  · rw [sgl_no (by by_cases hb0 : b = 0; exact .inl hb0; exact .inr fun c => h ⟨hb0, c⟩)]
    exact step_lit (decide_eq_true ⟨rfl, hm⟩)
theorem take_snoc {px : List Nat} {p : Nat} (h : p < px.length) : px.take p ++ [px.getD p 0] = px.take (p + 1) := by
  rw [List.take_add_one, some_getD h]; rfl
theorem sect_cons {px : List Nat} {p n : Nat} (h : p < px.length) : sect px p (n + 1) = px.getD p 0 :: sect px (p + 1) n := by
  unfold sect
  rw [List.drop_eq_getElem_cons h, List.take_succ_cons, List.getD_eq_getElem?_getD, List.getElem?_eq_getElem h]; rfl
theorem drop_cons {px : List Nat} {p : Nat} (h : p < px.length) : px.drop p = px.getD p 0 :: px.drop (p + 1) := by
  rw [List.drop_eq_getElem_cons h, List.getD_eq_getElem?_getD, List.getElem?_eq_getElem h]; rfl
/-- One pixel more, of its own. -/
theorem cov_one {b : Nat} {px : List Nat} {nx : Nat} {ss : List Sp} (h : nx < px.length) (hs : ∀ s, ss.head? = some s → (nx : Int) < s.p) : covP b px nx ss = sgl b (px.take nx) (px.getD nx 0) :: covP b px (nx + 1) ss := by
  cases ss with
  | nil => rw [covP, covP, drop_cons h, sngs, take_snoc h]
  | cons s ss =>
    have hs := hs s rfl
    rw [covP, covP, show s.p.toNat - nx = (s.p.toNat - (nx + 1)) + 1 by omega, sect_cons h, sngs, take_snoc h]; rfl
/-- One span more. -/
theorem cov_span {b : Nat} {px : List Nat} {nx : Nat} {s : Sp} {ss : List Sp} (h : s.p = nx) : covP b px nx (s :: ss) = ⟨2, s.n, s.d, 0, 0⟩ :: covP b px (s.p + s.n).toNat ss := by
  rw [covP, h]
  simp [sect, sngs]
theorem span_step {b m : Nat} {px : List Nat} {s : Sp} (h : fit1 px s = true) (hm : px.length ≤ m) : stepP b m (px.take s.p.toNat) ⟨2, s.n, s.d, 0, 0⟩ = some (px.take (s.p + s.n).toNat) := by
  obtain ⟨p, n, d, rfl, h1, h2, h3, h4, h5, h6, h7⟩ := fit_nat h
  have hl : (px.take p).length = p := by simp; omega
  have hc : isCpy m (px.take p) ⟨2, n, d, 0, 0⟩ = true := decide_eq_true (show (2 : Int) = 2 ∧ 1 ≤ (n : Int) ∧ (n : Int) ≤ 4096 ∧ 1 ≤ (d : Int) ∧ (d : Int) ≤ ((px.take p).length : Nat) ∧ (n : Int) + ((px.take p).length : Nat) ≤ (m : Nat) from by rw [hl]; omega)
  simp only [Int.toNat_natCast]
  rw [step_cpy hc]
  simp only [Int.toNat_natCast]
  rw [cpy_take h3 h4 h6 (fun j hj => sect_get h6 (by omega) hj h7)]
  congr 2
/-- The steps that cover pixels tell them. -/
theorem exp_cov {b m : Nat} {px : List Nat} (hb : b ≤ 11) (hm : px.length ≤ m) : ∀ (k nx : Nat) (ss : List Sp), px.length ≤ nx + k → nx ≤ px.length → fitV px nx ss = true → expP b m (px.take nx) (covP b px nx ss) = some px := by
  intro k
  induction k with
  | zero =>
    intro nx ss hk hn hf
    have e : nx = px.length := by omega
    cases ss with
    | nil => subst e; simp [covP, sngs, expP]
    | cons s ss =>
      obtain ⟨c1, c2, c3⟩ := fit_cons hf
      obtain ⟨p, n, d, rfl, h1, h2, h3, h4, h5, h6, h7⟩ := fit_nat c2
      simp only at c1
      omega
  | succ k ih =>
    intro nx ss hk hn hf
    by_cases e : nx = px.length
    · cases ss with
      | nil => subst e; simp [covP, sngs, expP]
      | cons s ss =>
        obtain ⟨c1, c2, c3⟩ := fit_cons hf
        obtain ⟨p, n, d, rfl, h1, h2, h3, h4, h5, h6, h7⟩ := fit_nat c2
        simp only at c1
        omega
    · have hl : (px.take nx).length = nx := by simp; omega
      by_cases hh : ∀ s, ss.head? = some s → (nx : Int) < s.p
      · rw [cov_one (by omega) hh, exp_some (sgl_step hb (by rw [hl]; omega)), take_snoc (by omega)]
        refine ih _ _ (by omega) (by omega) ?_
        cases ss with
        | nil => rfl
        | cons s ss =>
          obtain ⟨c1, c2, c3⟩ := fit_cons hf
          rw [fit_mk (by have := hh s rfl; omega) c2]; exact c3
      · cases ss with
        | nil => exact absurd (fun s hs => by cases hs) hh
        | cons s ss =>
          obtain ⟨c1, c2, c3⟩ := fit_cons hf
          have hp : s.p = nx := by
            have : ¬ (nx : Int) < s.p := fun c => hh fun s' hs' => by cases hs'; exact c
            omega
          have hs := span_step (b := b) (m := m) c2 hm
          rw [show s.p.toNat = nx by omega] at hs
          rw [cov_span hp, exp_some hs]
          obtain ⟨p, n, d, rfl, h1, h2, h3, h4, h5, h6, h7⟩ := fit_nat c2
          simp only at hp c3 ⊢
          have hz : ((p : Int) + (n : Int)).toNat = p + n := by omega
          rw [hz] at c3 ⊢
          exact ih _ _ (by omega) (by omega) c3
theorem all_cov {b : Nat} {px : List Nat} {ss : List Sp} (hb : b ≤ 11) (h : fitV px 0 ss = true) : allP b px.length (covP b px 0 ss) = some px := by
  have := exp_cov (m := px.length) hb (Nat.le_refl _) px.length 0 ss (by omega) (by omega) h
  rw [List.take_zero] at this
  exact all_some this (by omega)
end Go.Proofs.Ytpkiilnkiidoiaa.KNum
