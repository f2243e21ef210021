/- Numbers alone: which symbol comes next by complete lengths; where a tree keeps its symbols. Conditions: as each says. -/
import Derived.Test.YtgjpcjnhggcfdaaDoorRvm
import Derived.Test.YtgjpcjnhggcfdaaDoorMath
import Derived.Test.YtgjpcjnhggcfdaaDoorEyes
namespace Go.Proofs.YtgjpcjnhggcfdaaDoor.Dec
open Go.Proofs.YtgjpcjnhggcfdaaDoor.Rvm Go.Proofs.YtgjpcjnhggcfdaaDoor.Math Go.Proofs.YtgjpcjnhggcfdaaDoor.Eyes Go.Proofs.YtgjpcjnhggcfdaaDoor.Bitin

/-- The first m bits as a number, the first one highest. -/
def vm (b : Nat → Nat) : Nat → Nat
  | 0 => 0
  | m + 1 => 2 * vm b m + b m
theorem vm_lt {b : Nat → Nat} (hb : ∀ j, b j ≤ 1) : ∀ m, vm b m < 2 ^ m
  | 0 => by simp [vm]
  | m + 1 => by
    have := vm_lt hb m
    have := hb m
    rw [Nat.pow_succ]
    simp only [vm]
    omega
theorem vm_pre {b : Nat → Nat} (hb : ∀ j, b j ≤ 1) (m : Nat) : ∀ d, vm b (m + d) / 2 ^ d = vm b m
  | 0 => by simp
  | d + 1 => by
    have ih := vm_pre hb m d
    have := hb (m + d)
    rw [Nat.pow_succ, Nat.mul_comm, ← Nat.div_div_eq_div_mul, ← Nat.add_assoc]
    simp only [vm]
    rw [show (2 * vm b (m + d) + b (m + d)) / 2 = vm b (m + d) by omega, ih]
theorem vm_congr {b d : Nat → Nat} : ∀ m, (∀ j, j < m → b j = d j) → vm b m = vm d m
  | 0, _ => rfl
  | m + 1, h => by
    simp only [vm]
    rw [vm_congr m (fun j hj => h j (by omega)), h m (by omega)]
theorem vm_rv (c : Nat → Nat) (hc : ∀ k, c k ≤ 255) (len i : Nat) : ∀ m, i + m ≤ 8 * len → rv m (val c len i m) = vm (fun j => bt c (i + j)) m
  | 0, _ => by simp [rv, vm]
  | m + 1, h => by
    have ih := vm_rv c hc len i m (by omega)
    rw [val_add, bt_val c hc len (i + m) (by omega), rv_snoc m _ _ (val_lt _ _ _ _) (bt_le c _), ih]
    rfl

/-- The bits make a code of length L, and none that is shorter. -/
structure Stop (c : Nat → Int) (n : Nat) (b : Nat → Nat) (L : Nat) : Prop where
  pos : 1 ≤ L
  le : L ≤ 15
  lt : vm b L < fst c n L + cnt c L n
  ge : ∀ m, m < L → fst c n m + cnt c m n ≤ vm b m
theorem top15 {c : Nat → Int} {n : Nat} (hg : Rng c n) (hs : kr c n = 32768) : fst c n 15 + cnt c 15 n = 32768 := by
  have h := top_S c n 15 (by omega)
  rw [← kr_S c n hg, hs] at h
  simpa using h
theorem stop_ex {c : Nat → Int} {n : Nat} {b : Nat → Nat} (hg : Rng c n) (hs : kr c n = 32768) (hb : ∀ j, b j ≤ 1) : ∃ L, Stop c n b L := by
  have h15 : vm b 15 < fst c n 15 + cnt c 15 n := by
    rw [top15 hg hs]
    exact vm_lt hb 15
  obtain ⟨L, hL, h1, h2⟩ := least (fun m => vm b m < fst c n m + cnt c m n) 15 h15
  refine ⟨L, ?_, hL, h1, fun m hm => by have := h2 m hm; omega⟩
  rcases Nat.eq_zero_or_pos L with h | h
  · subst h
    rw [cnt_zero] at h1
    simp [vm, fst] at h1
  · exact h
theorem Stop.low {c : Nat → Int} {n : Nat} {b : Nat → Nat} {L : Nat} (h : Stop c n b L) (m : Nat) (hm : m ≤ L) : fst c n m ≤ vm b m := by
  cases m with
  | zero => exact Nat.zero_le _
  | succ m =>
    have h1 := h.ge m (by omega)
    simp only [fst, vm]
    omega
theorem cnt_hit {c : Nat → Int} {m d : Nat} : ∀ n, d < cnt c m n → ∃ k, k < n ∧ c k = (m : Int) ∧ cnt c m k = d
  | 0, h => by simp [cnt] at h
  | n + 1, h => by
    by_cases hd : d < cnt c m n
    · obtain ⟨k, h1, h2⟩ := cnt_hit n hd
      exact ⟨k, by omega, h2⟩
    · unfold cnt at h
      split at h
      · next hh => exact ⟨n, by omega, hh.1, by omega⟩
      · omega
theorem Stop.sym {c : Nat → Int} {n : Nat} {b : Nat → Nat} {L : Nat} (h : Stop c n b L) : ∃ k, k < n ∧ c k = (L : Int) ∧ cod c n k = vm b L := by
  have h1 := h.low L (Nat.le_refl _)
  have h2 := h.lt
  obtain ⟨k, hk, hc, hd⟩ := cnt_hit (c := c) (m := L) (d := vm b L - fst c n L) n (by omega)
  refine ⟨k, hk, hc, ?_⟩
  rw [cod_of L hc (by have := h.pos; omega), hd]
  omega
theorem stop_code {c : Nat → Int} {n : Nat} {b : Nat → Nat} {L s : Nat} (hg : Rng c n) (hb : ∀ j, b j ≤ 1) (hs : s < n) (hc : c s = (L : Int)) (h0 : L ≠ 0) (hv : vm b L = cod c n s) : Stop c n b L := by
  have g1 := hg s hs
  have e := cod_of (n := n) L hc h0
  refine ⟨by omega, by omega, ?_, fun m hm => ?_⟩
  · have := cnt_lt c L hs hc h0
    rw [hv, e]
    omega
  · have h1 := top_S c n m (by omega)
    have h2 := S_mono c n (show m + 1 ≤ L by omega)
    rw [← h1, ← fst_S c n L (by omega)] at h2
    have h4 : 2 ^ (15 - m) = 2 ^ (L - m) * 2 ^ (15 - L) := by rw [← Nat.pow_add]; congr 1; omega
    rw [h4, ← Nat.mul_assoc] at h2
    have h5 := Nat.le_of_mul_le_mul_right h2 (Nat.pow_pos (by omega))
    have h6 := vm_pre hb m (L - m)
    rw [show m + (L - m) = L by omega, hv] at h6
    rw [← h6, Nat.le_div_iff_mul_le (Nat.pow_pos (by omega))]
    omega
theorem Stop.only {c : Nat → Int} {n : Nat} {b : Nat → Nat} {L M : Nat} (h : Stop c n b L) (k : Stop c n b M) : L = M := by
  rcases Nat.lt_trichotomy L M with h1 | h1 | h1
  · have := k.ge L h1
    have := h.lt
    omega
  · exact h1
  · have := h.ge M h1
    have := k.lt
    omega
theorem fst_none {c : Nat → Int} {n le : Nat} (h : ∀ j, j < le → cnt c j n = 0) : ∀ m, m ≤ le → fst c n m = 0
  | 0, _ => rfl
  | m + 1, hm => by
    simp only [fst]
    rw [fst_none h m (by omega), h m (by omega)]
theorem Stop.least {c : Nat → Int} {n : Nat} {b : Nat → Nat} {L le : Nat} (h : Stop c n b L) (hl : ∀ j, j < le → cnt c j n = 0) : le ≤ L := by
  rcases Nat.lt_or_ge L le with h1 | h1
  · have h2 := h.lt
    rw [hl L h1, fst_none hl L (by omega)] at h2
    omega
  · exact h1

/-- What comes next: symbol k, by L bits. -/
def Nx (c : Nat → Int) (n : Nat) (b : Nat → Nat) (L k : Nat) : Prop :=
  (many c n = 1 ∧ L = 0 ∧ k = sel c n) ∨ (many c n ≠ 1 ∧ Stop c n b L ∧ k < n ∧ c k = (L : Int) ∧ cod c n k = vm b L)
theorem sel_one {c : Nat → Int} : ∀ n, (many c n = 0 → ∀ k, k < n → c k = 0) ∧ (many c n = 1 → sel c n < n ∧ c (sel c n) ≠ 0 ∧ ∀ k, k < n → k ≠ sel c n → c k = 0)
  | 0 => ⟨fun _ k hk => by omega, fun h => by simp [many] at h⟩
  | n + 1 => by
    obtain ⟨h0, h1⟩ := sel_one (c := c) n
    by_cases hc : c n = 0
    · simp only [many, sel, hc, if_true, Nat.add_zero]
      refine ⟨fun h k hk => ?_, fun h => ?_⟩
      · by_cases e : k = n
        · subst e; exact hc
        · exact h0 h k (by omega)
      · obtain ⟨a, b, d⟩ := h1 h
        refine ⟨by omega, b, fun k hk hne => ?_⟩
        by_cases e : k = n
        · subst e; exact hc
        · exact d k (by omega) hne
    · simp only [many, sel, hc, if_false]
      refine ⟨fun h => by omega, fun h => ⟨by omega, hc, fun k hk hne => h0 (by omega) k (by omega)⟩⟩
theorem next_ex {c : Nat → Int} {n : Nat} {b : Nat → Nat} (h : chk c n = 0) (hb : ∀ j, b j ≤ 1) : ∃ L k, Nx c n b L k := by
  obtain ⟨hg, h1, _⟩ := chk_zero h
  by_cases hm : many c n = 1
  · exact ⟨0, _, .inl ⟨hm, rfl, rfl⟩⟩
  · obtain ⟨L, hL⟩ := stop_ex hg (by omega) hb
    obtain ⟨k, hk⟩ := hL.sym
    exact ⟨L, k, .inr ⟨hm, hL, hk⟩⟩
theorem Nx.lt {c : Nat → Int} {n : Nat} {b : Nat → Nat} {L k : Nat} (h : Nx c n b L k) : k < n ∧ L ≤ 15 := by
  rcases h with ⟨h1, h2, h3⟩ | ⟨_, h2, h3, _⟩
  · have := (sel_one n).2 h1
    omega
  · exact ⟨h3, h2.le⟩
theorem next_code {c : Nat → Int} {n : Nat} {b : Nat → Nat} {L s : Nat} (h : chk c n = 0) (hb : ∀ j, b j ≤ 1) (hs : s < n) (hc : c s ≠ 0)
    (hL : L = if many c n = 1 then 0 else (c s).toNat) (hv : many c n ≠ 1 → vm b L = cod c n s) : Nx c n b L s := by
  obtain ⟨hg, h1, _⟩ := chk_zero h
  by_cases hm : many c n = 1
  · rw [if_pos hm] at hL
    refine .inl ⟨hm, hL, ?_⟩
    by_cases e : s = sel c n
    · exact e
    · exact absurd (((sel_one n).2 hm).2.2 s hs e) hc
  · rw [if_neg hm] at hL
    have g := hg s hs
    have hcs : c s = (L : Int) := by omega
    exact .inr ⟨hm, stop_code hg hb hs hcs (by omega) (hv hm), hs, hcs, (hv hm).symm⟩

/-- How many bits each symbol's code has, -1: it has none; and these bits, the first one lowest. -/
def qq (c : Nat → Int) (n k : Nat) : Int := if c k = 0 then -1 else if many c n = 1 then 0 else c k
def uu (c : Nat → Int) (n k : Nat) : Nat := if c k = 0 ∨ many c n = 1 then 0 else rv (c k).toNat (cod c n k)
/-- How many of the first are m. -/
def cq (q : Nat → Int) (m : Nat) : Nat → Nat
  | 0 => 0
  | n + 1 => cq q m n + if q n = (m : Int) then 1 else 0
/-- How many are less than m. -/
def bel (q : Nat → Int) (n : Nat) : Nat → Nat
  | 0 => 0
  | m + 1 => bel q n m + cq q m n
def ps (q : Nat → Int) (n k : Nat) : Nat := bel q n (q k).toNat + cq q (q k).toNat k
theorem cq_le (q : Nat → Int) (m : Nat) : ∀ n, cq q m n ≤ n
  | 0 => Nat.le_refl _
  | n + 1 => by
    have := cq_le q m n
    unfold cq
    split <;> omega
theorem cq_mono (q : Nat → Int) (m : Nat) {a b : Nat} (h : a ≤ b) : cq q m a ≤ cq q m b := by
  induction b with
  | zero => obtain rfl : a = 0 := by omega
            exact Nat.le_refl _
  | succ b ih =>
    by_cases e : a = b + 1
    · rw [e]; exact Nat.le_refl _
    · have h1 := ih (by omega)
      have h2 : cq q m (b + 1) = cq q m b + if q b = (m : Int) then 1 else 0 := rfl
      omega
theorem cq_here {q : Nat → Int} {m k : Nat} (h : q k = (m : Int)) : cq q m (k + 1) = cq q m k + 1 := by
  show cq q m k + (if q k = (m : Int) then 1 else 0) = _
  rw [if_pos h]
theorem cq_not {q : Nat → Int} {m k : Nat} (h : q k ≠ (m : Int)) : cq q m (k + 1) = cq q m k := by
  show cq q m k + (if q k = (m : Int) then 1 else 0) = _
  rw [if_neg h, Nat.add_zero]
theorem cq_lt {q : Nat → Int} {m k n : Nat} (hk : k < n) (h : q k = (m : Int)) : cq q m k + 1 ≤ cq q m n := by
  rw [← cq_here h]
  exact cq_mono q m hk
theorem bel_le (q : Nat → Int) (n : Nat) : ∀ m, bel q n m ≤ m * n
  | 0 => Nat.zero_le _
  | m + 1 => by
    have := bel_le q n m
    have := cq_le q m n
    simp only [bel]
    rw [Nat.add_mul]
    omega
theorem bel_mono (q : Nat → Int) (n : Nat) {a b : Nat} (h : a ≤ b) : bel q n a ≤ bel q n b := by
  induction b with
  | zero => obtain rfl : a = 0 := by omega
            exact Nat.le_refl _
  | succ b ih =>
    by_cases e : a = b + 1
    · rw [e]; exact Nat.le_refl _
    · have h1 := ih (by omega)
      have h2 : bel q n (b + 1) = bel q n b + cq q b n := rfl
      omega
theorem ps_of {q : Nat → Int} {n k m : Nat} (h : q k = (m : Int)) : ps q n k = bel q n m + cq q m k := by
  unfold ps
  rw [h]
  rfl
theorem ps_lt {q : Nat → Int} {n k m : Nat} (hk : k < n) (h : q k = (m : Int)) : ps q n k < bel q n (m + 1) := by
  rw [ps_of h]
  have := cq_lt hk h
  simp only [bel]
  omega
theorem ps_tot {q : Nat → Int} {n k : Nat} (hk : k < n) (h0 : 0 ≤ q k) (h1 : q k ≤ 15) : ps q n k < bel q n 16 := by
  have h := ps_lt (q := q) (m := (q k).toNat) hk (by omega)
  exact Nat.lt_of_lt_of_le h (bel_mono q n (by omega))
theorem ps_ne {q : Nat → Int} {n k i : Nat} (hk : k < i) (hi : i < n) (h0 : 0 ≤ q k) (h1 : 0 ≤ q i) : ps q n k ≠ ps q n i := by
  obtain ⟨a, ha⟩ : ∃ a : Nat, q k = (a : Int) := ⟨(q k).toNat, by omega⟩
  obtain ⟨b, hb⟩ : ∃ b : Nat, q i = (b : Int) := ⟨(q i).toNat, by omega⟩
  rcases Nat.lt_trichotomy a b with h | h | h
  · have h2 := ps_lt (n := n) (by omega) ha
    have h3 := bel_mono q n (show a + 1 ≤ b by omega)
    rw [ps_of hb]
    omega
  · subst h
    have h2 := cq_lt hk ha
    rw [ps_of ha, ps_of hb]
    omega
  · have h2 := ps_lt hi hb
    have h3 := bel_mono q n (show b + 1 ≤ a by omega)
    rw [ps_of ha]
    omega
theorem cq_cnt {c : Nat → Int} {n : Nat} (hm : many c n ≠ 1) (m : Nat) : ∀ i, cq (qq c n) m i = cnt c m i
  | 0 => rfl
  | i + 1 => by
    have ih := cq_cnt hm m i
    show cq (qq c n) m i + (if qq c n i = (m : Int) then 1 else 0) = cnt c m i + (if c i = (m : Int) ∧ m ≠ 0 then 1 else 0)
    rw [ih]
    have e : (qq c n i = (m : Int)) ↔ (c i = (m : Int) ∧ m ≠ 0) := by
      unfold qq
      by_cases h : c i = 0
      · rw [if_pos h, h]
        constructor
        · intro h2; omega
        · intro h2; omega
      · rw [if_neg h, if_neg hm]
        constructor
        · intro h2; exact ⟨h2, by omega⟩
        · intro h2; exact h2.1
    by_cases h : qq c n i = (m : Int)
    · rw [if_pos h, if_pos (e.1 h)]
    · rw [if_neg h, if_neg (fun h2 => h (e.2 h2))]
theorem qq_bd {c : Nat → Int} {n k : Nat} (hg : Rng c n) (hk : k < n) : -1 ≤ qq c n k ∧ qq c n k ≤ 15 := by
  have := hg k hk
  unfold qq
  split
  · omega
  · split <;> omega
theorem qq_has {c : Nat → Int} {n k : Nat} (hg : Rng c n) (hk : k < n) : 0 ≤ qq c n k ↔ c k ≠ 0 := by
  have := hg k hk
  unfold qq
  split
  · omega
  · split <;> omega
theorem qq_many {c : Nat → Int} {n k : Nat} (hm : many c n ≠ 1) (h : c k ≠ 0) : qq c n k = c k := by
  unfold qq
  rw [if_neg h, if_neg hm]
theorem qq_one {c : Nat → Int} {n k : Nat} (hm : many c n = 1) (h : c k ≠ 0) : qq c n k = 0 := by
  unfold qq
  rw [if_neg h, if_pos hm]
theorem has_one {c : Nat → Int} {n : Nat} (h : chk c n = 0) : ∃ k, k < n ∧ c k ≠ 0 := by
  obtain ⟨hg, h1, _⟩ := chk_zero h
  rcases h1 with h1 | h1
  · exact many_pos c n (by omega)
  · exact kr_pos c n (by omega)
theorem uu_lt (c : Nat → Int) (n k : Nat) : uu c n k < 2 ^ (qq c n k).toNat := by
  unfold uu qq
  by_cases h : c k = 0
  · rw [if_pos (.inl h), if_pos h]; decide
  · by_cases hm : many c n = 1
    · rw [if_pos (.inr hm), if_neg h, if_pos hm]; decide
    · rw [if_neg (by simp [h, hm]), if_neg h, if_neg hm]
      exact rv_lt _ _
theorem uu_many {c : Nat → Int} {n k : Nat} (hm : many c n ≠ 1) (h : c k ≠ 0) : uu c n k = rv (c k).toNat (cod c n k) := by
  unfold uu
  rw [if_neg (by simp [h, hm])]
end Go.Proofs.YtgjpcjnhggcfdaaDoor.Dec
