/-
  Plain numbers: the symbol and the bits of a number; what the codes tell of a step. No function of the program. Conditions: as each says.
  Plain facts: slices of integers that are read, rows of sixteen numbers. No conditions.
  Numbers alone: lengths of codes, how many there are, their sum, the codes, which are apart. Conditions: as each says.
  Contracts: code.each for whatever function is handed to it; what it is asked of: code.One, slices.ContainsFunc. Conditions: the slice reads as integers, and they are few.
-/
import Derived.Test.YtgjpcjnhggcfdaaGreatDoorC02
import Derived.Test.YtgjpcjnhggcfdaaGreatDoorC01
namespace Go.Proofs.YtgjpcjnhggcfdaaGreatDoor.HVal
open Go.Proofs.YtgjpcjnhggcfdaaGreatDoor.VNum Go.Proofs.YtgjpcjnhggcfdaaGreatDoor.PNum Go.Proofs.YtgjpcjnhggcfdaaGreatDoor.HNum

/-- The symbol of a number, and its bits. -/
def sv (n : Nat) : Nat := if n ≤ 4 then n - 1 else 2 * (bitLen (n - 1) - 1) + (n - 1) / 2 ^ (bitLen (n - 1) - 2) % 2
def xv (n : Nat) : Nat := if n ≤ 4 then 0 else (n - 1) % 2 ^ (bitLen (n - 1) - 2)
theorem sv_is (n : Nat) (h0 : 1 ≤ n) (h1 : n ≤ 1048576) : Is n (sv n) (xv n) := by
  unfold sv xv
  by_cases h : n ≤ 4
  · rw [if_pos h, if_pos h]; exact (is_small n h0 h).1
  · rw [if_neg h, if_neg h]
    obtain ⟨k, hb, k1, k2⟩ := bitLen_at (n - 1) (by omega)
    obtain ⟨i, _⟩ := is_big (n - 1) k (by omega) (by omega) k1 k2
    rw [hb, show n - 1 + 1 = n by omega] at *
    exact i
theorem sv_one {n s x : Nat} (h0 : 1 ≤ n) (h1 : n ≤ 1048576) (h : Is n s x) : s = sv n ∧ x = xv n := by
  have i := sv_is n h0 h1
  exact frs_one s (sv n) x (xv n) h.sym i.sym h.low i.low (h.num.trans i.num.symm)
theorem sv_lt (n : Nat) (h0 : 1 ≤ n) (h1 : n ≤ 1048576) : sv n < 40 := (sv_is n h0 h1).sym
theorem sv_len (n : Nat) (h0 : 1 ≤ n) (h1 : n ≤ 4096) : sv n < 24 := by
  have i := sv_is n h0 (by omega)
  rcases Nat.lt_or_ge (sv n) 24 with h | h
  · exact h
  · have h2 := frs_lt 23 (sv n) (2 ^ exn 23 - 1) (xv n) (by omega) i.sym (by decide) (by omega)
    have h3 : frs 23 + (2 ^ exn 23 - 1) = 4096 := by decide
    have := i.num
    omega
theorem K_in (d w : Int) (h : 1 ≤ d ∧ d ≤ 1048456 ∧ NNum.wd w = true) : ∃ m : Nat, NNum.K d w = (m : Int) ∧ 1 ≤ m ∧ m ≤ 1048576 ∧ NNum.D (m : Int) w = d := by
  rcases NNum.least d w with ⟨k, hk, hn, he⟩ | hn
  · refine ⟨k + 1, by rw [NNum.K_at k h hk hn he]; omega, by omega, by omega, ?_⟩
    have := NNum.D_near k w hk h.2.2
    rw [he] at this
    exact this
  · refine ⟨(d + 120).toNat, by rw [NNum.K_none h hn]; omega, by omega, by omega, ?_⟩
    rw [show (((d + 120).toNat : Nat) : Int) = d + 120 by omega, NNum.D_far (by omega) (by omega) h.2.2]
    omega
/-- What the codes tell of a Copy, of a Known. -/
def pcp (n m : Nat) (i : Nat) : Pa := if i = 0 then ⟨true, 256 + sv n, exn (sv n), xv n⟩ else if i = 4 then ⟨true, 0 + sv m, exn (sv m), xv m⟩ else nop
def pkn (j : Nat) (i : Nat) : Pa := if i = 0 then sgl (280 + j) else nop
def isC (t : Tk) : Bool := decide (t.k = 2 ∧ 1 ≤ t.n ∧ t.n ≤ 4096 ∧ 1 ≤ t.d ∧ t.d ≤ 1048456)
def isK (c : Nat) (t : Tk) : Bool := decide (t.k = 3 ∧ 0 ≤ t.i ∧ t.i < pl c)
/-- May the step be told? -/
def okP (c : Nat) (t : Tk) : Bool := decide (t.k = 1) || isC t || isK c t
/-- What the codes tell of a step. -/
def qP (wd : Int) (c : Nat) (t : Tk) : Nat → Pa := if t.k = 1 then plit t.a else if isC t = true then pcp t.n.toNat (NNum.K t.d wd).toNat else if isK c t = true then pkn t.i.toNat else fun _ => nop
end Go.Proofs.YtgjpcjnhggcfdaaGreatDoor.HVal

namespace Go.Proofs.YtgjpcjnhggcfdaaGreatDoor.Gnd
open Go.ChangeShapes Go.WideShapes Go.ChangeAt Go.RowKit Go.Proofs.YtgjpcjnhggcfdaaGreatDoor.Core

/-- A slice of integers of one kind: its numbers are told by c. -/
def Ints (k : IntKind) (w : World) (v : Value) (len : Nat) (c : Nat → Int) : Prop :=
  ∃ a cap, v = .slice a len cap ∧ ∀ i, i < len → ∃ b off, a = some ⟨b, off, none⟩ ∧ w.cell? ⟨b, off + i, none⟩ = some (.int k (c i))
theorem Ints.keep {k : IntKind} {w w' : World} {v : Value} {len : Nat} {c : Nat → Int} (h : Ints k w v len c) (u : Below w.heap.size w w') : Ints k w' v len c := by
  obtain ⟨a, cap, e, hc⟩ := h
  refine ⟨a, cap, e, fun i hi => ?_⟩
  obtain ⟨b, off, e2, h2⟩ := hc i hi
  exact ⟨b, off, e2, (u.cell (p := ⟨b, off + i, none⟩) (lt_of_cell h2)).trans h2⟩
theorem Ints.congr {k : IntKind} {w : World} {v : Value} {len : Nat} {c d : Nat → Int} (h : Ints k w v len c) (e : ∀ i, i < len → c i = d i) : Ints k w v len d := by
  obtain ⟨a, cap, e1, hc⟩ := h
  refine ⟨a, cap, e1, fun i hi => ?_⟩
  obtain ⟨b, off, e2, h2⟩ := hc i hi
  exact ⟨b, off, e2, by rw [h2, e i hi]⟩
theorem ints_of_row {w : World} {a : Option Addr} {len cap : Nat} {zs : List Int}
    (h : (a = none ∧ len = 0 ∧ cap = 0 ∧ zs = []) ∨
      ∃ x, a = some x ∧ len ≤ cap ∧ cap ≤ maxLen ∧ zs.length = cap ∧ (∀ i, i < zs.length → w.cell? (x.add i) = some (.int .i64 (zs.getD i 0))) ∧ ∀ n ∈ zs, (Lit.int .i64 n).wf = true) :
    Ints .i64 w (.slice a len cap) len (fun k => zs.getD k 0) ∧ ∀ k, -9223372036854775808 ≤ zs.getD k 0 ∧ zs.getD k 0 ≤ 9223372036854775807 := by
  rcases h with ⟨rfl, rfl, rfl, rfl⟩ | ⟨x, rfl, h1, h2, hz, hc, hwf⟩
  · exact ⟨⟨none, 0, rfl, fun i hi => by omega⟩, fun k => by simp⟩
  · refine ⟨⟨some x, cap, rfl, fun i hi => ?_⟩, fun k => ?_⟩
    · have h3 := hc i (by omega)
      obtain ⟨b, off, spot⟩ := x
      have hspot : spot = none := by
        have h0 := hc 0 (by omega)
        simpa [Addr.add] using World.cell?_spot h0
      subst hspot
      exact ⟨b, off, rfl, by rw [← Go.WideShapes.add_plain]; exact h3⟩
    · by_cases hk : k < zs.length
      · have hx : zs.getD k 0 ∈ zs := by
          rw [List.getD_eq_getElem?_getD, List.getElem?_eq_getElem hk]; exact List.getElem_mem hk
        exact bounds_i64 (hwf _ hx)
      · rw [List.getD_eq_getElem?_getD, List.getElem?_eq_none (by omega)]; simp

/-- Sixteen numbers in a block. -/
def arr (f : Nat → Nat) : Array Value := ((List.range 16).map fun k => Value.int .u32 (f k)).toArray
theorem arr_size (f : Nat → Nat) : (arr f).size = 16 := by simp [arr]
theorem arr_at (f : Nat → Nat) (k : Nat) (h : k < 16) : (arr f)[k]? = some (.int .u32 (f k)) := by
  simp [arr, h]
theorem arr_set (f : Nat → Nat) (k z : Nat) (h : k < 16) : (arr f).setIfInBounds k (.int .u32 z) = arr (fun j => if j = k then z else f j) := by
  apply Array.ext_getElem?
  intro j
  rw [Array.getElem?_setIfInBounds]
  by_cases hj : j < 16
  · rw [arr_at _ j hj, arr_at _ j hj, arr_size]
    by_cases e : k = j
    · subst e; simp [hj]
    · have : ¬ j = k := fun h => e h.symm
      simp [e, this]
  · rw [Array.getElem?_eq_none (xs := arr f) (by rw [arr_size]; omega), Array.getElem?_eq_none (xs := arr _) (by rw [arr_size]; omega), arr_size]
    split
    · omega
    · rfl
theorem arr_congr {f g : Nat → Nat} (h : ∀ k, k < 16 → f k = g k) : arr f = arr g := by
  apply Array.ext_getElem?
  intro j
  by_cases hj : j < 16
  · rw [arr_at _ j hj, arr_at _ j hj, h j hj]
  · rw [Array.getElem?_eq_none (xs := arr f) (by rw [arr_size]; omega), Array.getElem?_eq_none (xs := arr _) (by rw [arr_size]; omega)]
theorem arr_one (f : Nat → Nat) : ∀ v ∈ (arr f).toList, v.oneCell' = true := by
  intro v hv
  simp only [arr, List.mem_map] at hv
  obtain ⟨_, _, rfl⟩ := hv
  rfl
theorem arr_zero : arr (fun _ => 0) = #[.int .u32 0, .int .u32 0, .int .u32 0, .int .u32 0, .int .u32 0, .int .u32 0, .int .u32 0, .int .u32 0, .int .u32 0, .int .u32 0, .int .u32 0, .int .u32 0, .int .u32 0, .int .u32 0, .int .u32 0, .int .u32 0] := rfl
end Go.Proofs.YtgjpcjnhggcfdaaGreatDoor.Gnd

namespace Go.Proofs.YtgjpcjnhggcfdaaGreatDoor.Math
/-- How many of the first lengths are not 0. -/
def many (c : Nat → Int) : Nat → Nat
  | 0 => 0
  | n + 1 => many c n + if c n = 0 then 0 else 1
def pt2 (x : Int) : Nat := if x = 0 then 0 else 2 ^ (15 - x.toNat)
def kr (c : Nat → Int) : Nat → Nat
  | 0 => 0
  | n + 1 => kr c n + pt2 (c n)
/-- How many of the first lengths are m (of m = 0: none). -/
def cnt (c : Nat → Int) (m : Nat) : Nat → Nat
  | 0 => 0
  | n + 1 => cnt c m n + if c n = (m : Int) ∧ m ≠ 0 then 1 else 0
/-- The first code of each length. -/
def fst (c : Nat → Int) (n : Nat) : Nat → Nat
  | 0 => 0
  | m + 1 => (fst c n m + cnt c m n) * 2
def sel (c : Nat → Int) : Nat → Nat
  | 0 => 0
  | n + 1 => if c n = 0 then sel c n else n
def sel1 (c : Nat → Int) : Nat → Nat
  | 0 => 0
  | n + 1 => if c n ≠ 0 ∧ many c n = 0 then n else sel1 c n
def Rng (c : Nat → Int) (n : Nat) : Prop := ∀ k, k < n → 0 ≤ c k ∧ c k ≤ 15
/-- The same, reckoned. -/
def rngB (c : Nat → Int) : Nat → Bool
  | 0 => true
  | n + 1 => rngB c n && (decide (0 ≤ c n) && decide (c n ≤ 15))
theorem rngB_iff (c : Nat → Int) : ∀ n, rngB c n = true ↔ Rng c n
  | 0 => ⟨fun _ k hk => by omega, fun _ => rfl⟩
  | n + 1 => by
    have ih := rngB_iff c n
    simp only [rngB, Bool.and_eq_true, decide_eq_true_eq]
    refine ⟨fun h k hk => ?_, fun h => ⟨ih.2 (fun k hk => h k (by omega)), h n (by omega)⟩⟩
    by_cases e : k = n
    · subst e; exact h.2
    · exact ih.1 h.1 k (by omega)
def chk (c : Nat → Int) (n : Nat) : Int := if rngB c n = true then (if many c n = 1 ∨ kr c n = 32768 then 0 else 3) else 8
def cod (c : Nat → Int) (n k : Nat) : Nat := if c k = 0 then 0 else fst c n (c k).toNat + cnt c (c k).toNat k

theorem Rng.pre {c : Nat → Int} {n : Nat} (h : Rng c (n + 1)) : Rng c n := fun k hk => h k (by omega)
theorem many_le (c : Nat → Int) : ∀ n, many c n ≤ n
  | 0 => Nat.le_refl _
  | n + 1 => by
    have := many_le c n
    unfold many
    split <;> omega
theorem pt2_le (x : Int) : pt2 x ≤ 32768 := by
  unfold pt2
  split
  · omega
  · exact Nat.pow_le_pow_right (n := 2) (i := 15 - x.toNat) (j := 15) (by omega) (by omega)
theorem kr_le (c : Nat → Int) : ∀ n, kr c n ≤ n * 32768
  | 0 => Nat.zero_le _
  | n + 1 => by
    have := kr_le c n
    have := pt2_le (c n)
    unfold kr
    omega
theorem cnt_le (c : Nat → Int) (m : Nat) : ∀ n, cnt c m n ≤ n
  | 0 => Nat.le_refl _
  | n + 1 => by
    have := cnt_le c m n
    unfold cnt
    split <;> omega
theorem cnt_zero (c : Nat → Int) : ∀ n, cnt c 0 n = 0
  | 0 => rfl
  | n + 1 => by
    have := cnt_zero c n
    unfold cnt
    simp [this]
theorem cnt_mono (c : Nat → Int) (m : Nat) {a b : Nat} (h : a ≤ b) : cnt c m a ≤ cnt c m b := by
  induction b with
  | zero => obtain rfl : a = 0 := by omega
            exact Nat.le_refl _
  | succ b ih =>
    by_cases e : a = b + 1
    · rw [e]; exact Nat.le_refl _
    · have h1 := ih (by omega)
      have h2 : cnt c m (b + 1) = cnt c m b + if c b = (m : Int) ∧ m ≠ 0 then 1 else 0 := rfl
      omega
theorem cnt_lt (c : Nat → Int) (m : Nat) {k b : Nat} (h : k < b) (hk : c k = (m : Int)) (hm : m ≠ 0) : cnt c m k + 1 ≤ cnt c m b := by
  have h1 := cnt_mono c m (show k + 1 ≤ b by omega)
  have h2 : cnt c m (k + 1) = cnt c m k + 1 := by
    show cnt c m k + (if c k = (m : Int) ∧ m ≠ 0 then 1 else 0) = _
    rw [if_pos ⟨hk, hm⟩]
  omega
theorem many_sel (c : Nat → Int) : ∀ n, (many c n = 0 → sel c n = 0 ∧ sel1 c n = 0) ∧ (many c n = 1 → sel c n = sel1 c n)
  | 0 => ⟨fun _ => ⟨rfl, rfl⟩, fun _ => rfl⟩
  | n + 1 => by
    obtain ⟨h0, h1⟩ := many_sel c n
    by_cases hc : c n = 0
    · simp only [many, sel, sel1, hc, if_true, Nat.add_zero, ne_eq, not_true_eq_false, false_and, if_false]
      exact ⟨h0, h1⟩
    · simp only [many, sel, sel1, hc, if_false, ne_eq, not_false_eq_true, true_and]
      refine ⟨fun h => by omega, fun h => ?_⟩
      rw [if_pos (by omega)]
theorem many_pos (c : Nat → Int) : ∀ n, 0 < many c n → ∃ k, k < n ∧ c k ≠ 0
  | 0, h => by simp [many] at h
  | n + 1, h => by
    by_cases hc : c n = 0
    · simp only [many, hc, if_true, Nat.add_zero] at h
      obtain ⟨k, hk, h2⟩ := many_pos c n h
      exact ⟨k, by omega, h2⟩
    · exact ⟨n, by omega, hc⟩
theorem kr_pos (c : Nat → Int) : ∀ n, 0 < kr c n → ∃ k, k < n ∧ c k ≠ 0
  | 0, h => by simp [kr] at h
  | n + 1, h => by
    by_cases hc : c n = 0
    · simp only [kr, pt2, hc, if_true, Nat.add_zero] at h
      obtain ⟨k, hk, h2⟩ := kr_pos c n h
      exact ⟨k, by omega, h2⟩
    · exact ⟨n, by omega, hc⟩
/-- The sum by lengths. -/
def S (c : Nat → Int) (n : Nat) : Nat → Nat
  | 0 => 0
  | m + 1 => S c n m + cnt c m n * 2 ^ (15 - m)
theorem S_succ (c : Nat → Int) (n : Nat) (h0 : 0 ≤ c n) : ∀ M, S c (n + 1) M = S c n M + if c n < (M : Int) then pt2 (c n) else 0
  | 0 => by simp only [S]; rw [if_neg (by omega)]
  | M + 1 => by
    have ih := S_succ c n h0 M
    simp only [S]
    rw [ih]
    have hc : cnt c M (n + 1) = cnt c M n + if c n = (M : Int) ∧ M ≠ 0 then 1 else 0 := rfl
    rw [hc, Nat.add_mul]
    by_cases h1 : c n = (M : Int)
    · by_cases hM : M = 0
      · subst hM
        simp [h1, pt2]
      · have e : (c n).toNat = M := by omega
        have hp : pt2 (c n) = 2 ^ (15 - M) := by
          unfold pt2
          rw [if_neg (by omega), e]
        have n1 : ¬ c n < (M : Int) := by omega
        have n2 : c n < ((M + 1 : Nat) : Int) := by omega
        simp only [h1, hM, if_true, ne_eq, not_false_eq_true, and_self]
        rw [h1] at hp n1 n2
        simp only [n1, n2, if_true, if_false, hp]
        omega
    · have n0 : ¬ (c n = (M : Int) ∧ M ≠ 0) := fun h => h1 h.1
      rw [if_neg n0]
      by_cases h2 : c n < (M : Int)
      · have n2 : c n < ((M + 1 : Nat) : Int) := by omega
        simp only [h2, n2, if_true]; omega
      · have n2 : ¬ c n < ((M + 1 : Nat) : Int) := by omega
        simp only [h2, n2, if_false]; omega
theorem S_nil (c : Nat → Int) : ∀ M, S c 0 M = 0
  | 0 => rfl
  | M + 1 => by simp [S, S_nil c M, cnt]
theorem kr_S (c : Nat → Int) : ∀ n, Rng c n → kr c n = S c n 16
  | 0, _ => (S_nil c 16).symm
  | n + 1, h => by
    have h1 := h n (by omega)
    rw [S_succ c n h1.1 16, if_pos (by omega), ← kr_S c n h.pre]
    rfl
theorem S_mono (c : Nat → Int) (n : Nat) {a b : Nat} (h : a ≤ b) : S c n a ≤ S c n b := by
  induction b with
  | zero => obtain rfl : a = 0 := by omega
            exact Nat.le_refl _
  | succ b ih =>
    by_cases e : a = b + 1
    · rw [e]; exact Nat.le_refl _
    · have h1 := ih (by omega)
      have h2 : S c n (b + 1) = S c n b + cnt c b n * 2 ^ (15 - b) := rfl
      omega
theorem fst_S (c : Nat → Int) (n : Nat) : ∀ m, m ≤ 15 → fst c n m * 2 ^ (15 - m) = S c n m
  | 0, _ => by simp [fst, S]
  | m + 1, h => by
    have ih := fst_S c n m (by omega)
    simp only [fst, S]
    rw [← ih, show 15 - m = (15 - (m + 1)) + 1 by omega, Nat.pow_succ, Nat.mul_assoc, Nat.mul_comm 2, Nat.add_mul]
theorem top_S (c : Nat → Int) (n m : Nat) (h : m ≤ 15) : (fst c n m + cnt c m n) * 2 ^ (15 - m) = S c n (m + 1) := by
  rw [Nat.add_mul, fst_S c n m h]; rfl
theorem pow_split {m : Nat} (h : m ≤ 15) : 2 ^ m * 2 ^ (15 - m) = 32768 := by
  rw [← Nat.pow_add, show m + (15 - m) = 15 by omega]
/-- Complete lengths: their sum is not beyond 1. -/
theorem many_one_kr (c : Nat → Int) : ∀ n, (many c n = 0 → kr c n = 0) ∧ (many c n = 1 → kr c n ≤ 32768)
  | 0 => ⟨fun _ => rfl, fun _ => Nat.zero_le _⟩
  | n + 1 => by
    obtain ⟨h0, h1⟩ := many_one_kr c n
    by_cases hc : c n = 0
    · simp only [many, kr, pt2, hc, if_true, Nat.add_zero]
      exact ⟨h0, h1⟩
    · have hp := pt2_le (c n)
      simp only [many, kr, hc, if_false]
      exact ⟨fun h => by omega, fun h => by have := h0 (by omega); omega⟩
theorem chk_zero {c : Nat → Int} {n : Nat} (h : chk c n = 0) : Rng c n ∧ (many c n = 1 ∨ kr c n = 32768) ∧ kr c n ≤ 32768 := by
  unfold chk at h
  by_cases hg : Rng c n
  · rw [if_pos ((rngB_iff c n).2 hg)] at h
    by_cases hk : many c n = 1 ∨ kr c n = 32768
    · refine ⟨hg, hk, ?_⟩
      rcases hk with hk | hk
      · exact (many_one_kr c n).2 hk
      · omega
    · rw [if_neg hk] at h; omega
  · rw [if_neg (fun h2 => hg ((rngB_iff c n).1 h2))] at h; omega
theorem top_le {c : Nat → Int} {n : Nat} (hg : Rng c n) (hk : kr c n ≤ 32768) (m : Nat) (h : m ≤ 15) : fst c n m + cnt c m n ≤ 2 ^ m := by
  have h1 := top_S c n m h
  have h2 := S_mono c n (show m + 1 ≤ 16 by omega)
  rw [← kr_S c n hg] at h2
  have h3 := pow_split h
  have h4 : 0 < 2 ^ (15 - m) := Nat.pow_pos (by omega)
  exact Nat.le_of_mul_le_mul_right (by omega) h4
theorem top_cap {c : Nat → Int} {n : Nat} (hg : Rng c n) (hk : kr c n ≤ 32768) (m : Nat) (h : m ≤ 15) : fst c n m + cnt c m n ≤ 32768 :=
  Nat.le_trans (top_le hg hk m h) (Nat.pow_le_pow_right (n := 2) (i := m) (j := 15) (by omega) h)
theorem cod_of {c : Nat → Int} {n k : Nat} (m : Nat) (hm : c k = (m : Int)) (h0 : m ≠ 0) : cod c n k = fst c n m + cnt c m k := by
  unfold cod
  rw [if_neg (by omega), hm]
  rfl
theorem cod_lt {c : Nat → Int} {n : Nat} (hg : Rng c n) (hk : kr c n ≤ 32768) (k : Nat) (h : k < n) (m : Nat) (hm : c k = (m : Int)) (h0 : m ≠ 0) : cod c n k < 2 ^ m := by
  have h1 := hg k h
  have h2 := top_le hg hk m (by omega)
  have h3 := cnt_lt c m h hm h0
  rw [cod_of m hm h0]
  omega
/-- Of two codes the longer does not begin with the shorter. -/
theorem apart {c : Nat → Int} {n : Nat} (hg : Rng c n) {i k : Nat} (hi : i < n) (hk : k < n) (hne : k ≠ i) (a b : Nat) (ha : c i = (a : Int)) (hb : c k = (b : Int)) (h0 : a ≠ 0) (hab : a ≤ b) :
    cod c n k / 2 ^ (b - a) ≠ cod c n i := by
  have g1 := hg i hi
  have g2 := hg k hk
  rw [cod_of a ha h0, cod_of b hb (by omega)]
  by_cases e : a = b
  · subst e
    rw [Nat.sub_self, Nat.pow_zero, Nat.div_one]
    rcases Nat.lt_or_gt_of_ne hne with h | h
    · have := cnt_lt c a h hb h0; omega
    · have := cnt_lt c a h ha h0; omega
  · have h1 := top_S c n a (by omega)
    have h2 := S_mono c n (show a + 1 ≤ b by omega)
    rw [← h1, ← fst_S c n b (by omega)] at h2
    have h3 := cnt_lt c a hi ha h0
    have h4 : 2 ^ (15 - a) = 2 ^ (b - a) * 2 ^ (15 - b) := by rw [← Nat.pow_add]; congr 1; omega
    rw [h4, ← Nat.mul_assoc] at h2
    have h5 := Nat.le_of_mul_le_mul_right h2 (Nat.pow_pos (by omega))
    have h6 : 0 < 2 ^ (b - a) := Nat.pow_pos (by omega)
    have h7 : fst c n a + cnt c a n ≤ (fst c n b + cnt c b k) / 2 ^ (b - a) := by
      rw [Nat.le_div_iff_mul_le h6]
      omega
    omega
theorem least_or (P : Nat → Prop) : ∀ n, (∀ k, k < n → ¬ P k) ∨ ∃ m, m < n ∧ P m ∧ ∀ k, k < m → ¬ P k
  | 0 => .inl fun k hk => by omega
  | n + 1 => by
    rcases least_or P n with h | ⟨m, hm, h1, h2⟩
    · by_cases hp : P n
      · exact .inr ⟨n, by omega, hp, h⟩
      · refine .inl fun k hk => ?_
        by_cases e : k = n
        · subst e; exact hp
        · exact h k (by omega)
    · exact .inr ⟨m, by omega, h1, h2⟩
theorem least (P : Nat → Prop) (n : Nat) (h : P n) : ∃ m, m ≤ n ∧ P m ∧ ∀ k, k < m → ¬ P k := by
  rcases least_or P n with h1 | ⟨m, hm, h1, h2⟩
  · exact ⟨n, Nat.le_refl _, h, h1⟩
  · exact ⟨m, by omega, h1, h2⟩
theorem most (P : Nat → Prop) : ∀ n k, k < n → P k → ∃ m, m < n ∧ P m ∧ ∀ j, m < j → j < n → ¬ P j := by
  intro n
  induction n with
  | zero => intro k hk; omega
  | succ n ih =>
    intro k hk hp
    by_cases hn : P n
    · exact ⟨n, by omega, hn, fun j h1 h2 => by omega⟩
    · by_cases e : k = n
      · subst e; exact absurd hp hn
      · obtain ⟨m, hm, h1, h2⟩ := ih k (by omega) hp
        refine ⟨m, by omega, h1, fun j h3 h4 => ?_⟩
        by_cases ej : j = n
        · subst ej; exact hn
        · exact h2 j h3 (by omega)
theorem cnt_none {c : Nat → Int} {m : Nat} : ∀ n, (∀ k, k < n → c k ≠ (m : Int)) → cnt c m n = 0
  | 0, _ => rfl
  | n + 1, h => by
    have h1 := cnt_none n (fun k hk => h k (by omega))
    unfold cnt
    rw [h1, if_neg (fun h2 => h n (by omega) h2.1)]
theorem cnt_tail {c : Nat → Int} {m k : Nat} : ∀ n, k ≤ n → (∀ j, k ≤ j → j < n → c j ≠ (m : Int)) → cnt c m n = cnt c m k
  | 0, h, _ => by obtain rfl : k = 0 := by omega
                  rfl
  | n + 1, h, hn => by
    by_cases e : k = n + 1
    · rw [e]
    · have h1 := cnt_tail n (by omega) (fun j h1 h2 => hn j h1 (by omega))
      have : cnt c m (n + 1) = cnt c m n + if c n = (m : Int) ∧ m ≠ 0 then 1 else 0 := rfl
      rw [this, h1, if_neg (fun h2 => hn n (by omega) (by omega) h2.1), Nat.add_zero]
theorem S_zero {c : Nat → Int} {n : Nat} : ∀ M, (∀ j, j < M → cnt c j n = 0) → S c n M = 0
  | 0, _ => rfl
  | M + 1, h => by
    unfold S
    rw [S_zero M (fun j hj => h j (by omega)), h M (by omega)]
    simp
theorem S_stay {c : Nat → Int} {n m : Nat} : ∀ M, m ≤ M → (∀ j, m ≤ j → j < M → cnt c j n = 0) → S c n M = S c n m
  | 0, h, _ => by obtain rfl : m = 0 := by omega
                  rfl
  | M + 1, h, hn => by
    by_cases e : m = M + 1
    · rw [e]
    · have h1 := S_stay M (by omega) (fun j h1 h2 => hn j h1 (by omega))
      have : S c n (M + 1) = S c n M + cnt c M n * 2 ^ (15 - M) := rfl
      rw [this, h1, hn M (by omega) (by omega), Nat.zero_mul, Nat.add_zero]
/-- One code is nought. -/
theorem low_there {c : Nat → Int} {n : Nat} (hg : Rng c n) {k : Nat} (hk : k < n) (h0 : c k ≠ 0) : ∃ i, i < n ∧ c i ≠ 0 ∧ cod c n i = 0 := by
  obtain ⟨m, _, ⟨h1, j, hj, hcj⟩, h2⟩ := least (fun m => m ≠ 0 ∧ ∃ j, j < n ∧ c j = (m : Int)) (c k).toNat ⟨by have := hg k hk; omega, k, hk, by have := hg k hk; omega⟩
  obtain ⟨i, hi, hci, h3⟩ := least (fun j => c j = (m : Int)) j hcj
  have hm : m ≤ 15 := by have := hg j hj; omega
  have z : ∀ a, a < m → cnt c a n = 0 := fun a ha => by
    by_cases e : a = 0
    · rw [e]; exact cnt_zero c n
    · exact cnt_none n (fun q hq hcq => h2 a ha ⟨e, q, hq, hcq⟩)
  refine ⟨i, by omega, by omega, ?_⟩
  rw [cod_of m hci h1, cnt_none i (fun q hq => h3 q hq)]
  have h4 := fst_S c n m hm
  rw [S_zero m z] at h4
  rcases Nat.mul_eq_zero.1 h4 with h5 | h5
  · omega
  · have : 0 < 2 ^ (15 - m) := Nat.pow_pos (by omega)
    omega
/-- One code is nothing but ones, if the sum is 1. -/
theorem high_there {c : Nat → Int} {n : Nat} (hg : Rng c n) (hs : kr c n = 32768) : ∃ i m : Nat, i < n ∧ m ≠ 0 ∧ c i = (m : Int) ∧ cod c n i + 1 = 2 ^ m := by
  obtain ⟨k, hk, h0⟩ := kr_pos c n (by omega)
  obtain ⟨m, hm, ⟨h1, j, hj, hcj⟩, h2⟩ := most (fun m => m ≠ 0 ∧ ∃ j, j < n ∧ c j = (m : Int)) 16 (c k).toNat (by have := hg k hk; omega) ⟨by have := hg k hk; omega, k, hk, by have := hg k hk; omega⟩
  obtain ⟨i, hi, hci, h3⟩ := most (fun j => c j = (m : Int)) n j hj hcj
  have z : ∀ a, m + 1 ≤ a → a < 16 → cnt c a n = 0 := fun a ha hb => cnt_none n (fun q hq hcq => h2 a ha hb ⟨by omega, q, hq, hcq⟩)
  refine ⟨i, m, hi, h1, hci, ?_⟩
  rw [cod_of m hci h1]
  have h4 := top_S c n m (by omega)
  rw [← S_stay 16 (by omega) z, ← kr_S c n hg, hs, ← pow_split (show m ≤ 15 by omega)] at h4
  have h5 := Nat.eq_of_mul_eq_mul_right (Nat.pow_pos (by omega)) h4
  have h6 : cnt c m n = cnt c m (i + 1) := cnt_tail n (by omega) (fun q h7 h8 => h3 q (by omega) h8)
  have h7 : cnt c m (i + 1) = cnt c m i + if c i = (m : Int) ∧ m ≠ 0 then 1 else 0 := rfl
  rw [if_pos ⟨hci, h1⟩] at h7
  omega
end Go.Proofs.YtgjpcjnhggcfdaaGreatDoor.Math

namespace Go.Proofs.YtgjpcjnhggcfdaaGreatDoor.Each
open Go.ChangeShapes Go.WideShapes Go.ChangeAt Go.RowKit Go.Proofs.YtgjpcjnhggcfdaaGreatDoor.Core Go.Proofs.YtgjpcjnhggcfdaaGreatDoor.Gnd Go.Proofs.YtgjpcjnhggcfdaaGreatDoor.Math

theorem each14 (K : Nat) (eg : ∀ args w, (callFunc K args).run Tryz.prog w = .ok (.enter K args) w) (lb : Array Value) (v : Value) (len : Nat) (c : Nat → Int) (hl : len ≤ 100000) (Inv : Nat → World → Prop) (w : World)
    (src : ∀ i wr, Inv i wr → Ints .i64 wr v len c) (h0 : Inv 0 w)
    (skip : ∀ i wr, i < len → c i = 0 → Inv i wr → Inv (i + 1) wr)
    (ask : ∀ i wr, i < len → c i ≠ 0 → Inv i wr → Calls Tryz.prog K (#[.int .i64 i, .int .i64 (c i)] ++ lb) wr fun e w' => e = .returned (.tuple #[]) ∧ Inv (i + 1) w') :
    Calls Tryz.prog 65 #[v, .func (.func K) #[] lb] w fun e w' => e = .returned (.tuple #[]) ∧ Inv len w' := by
  obtain ⟨a, cap, rfl, _⟩ := src 0 w h0
  have SRC := hide src
  have ASK := hide ask
  have SKIP := hide skip
  clear src ask skip
  go_enter Tryz.func65, Tryz.ntmps65
  go_wp2
  go_loopw [8] (fun i wr => ∃ k : Nat, k ≤ len ∧ i = .int .i64 k ∧ Inv k wr) (fun i _ => len - (intOf i).toNat)
  case atStart => exact ⟨0, Nat.zero_le _, rfl, h0⟩
  case round =>
    obtain ⟨k, hk, rfl, inv⟩ := hrel
    have INV := hide inv
    by_cases hlt : k < len
    · have hlt' : (k : Int) < (len : Int) := by omega
      obtain ⟨a1, cap1, e1, hc0⟩ := unhide SRC k wr inv
      cases e1
      obtain ⟨b, off, rfl, hcell⟩ := hc0 k hlt
      have NEXT := hide (fun h => unhide ASK k wr hlt h inv)
      have SK := hide (fun h => unhide SKIP k wr hlt h inv)
      clear inv hc0 h0
      by_cases hz : c k = 0
      · rw [hz] at hcell
        have HZ := hide hz
        clear hz
        go_wp2
        go_roundw
        case rel => exact ⟨k + 1, by omega, by go_num, unhide SK (unhide HZ)⟩
        case measure => simp [intOf]; omega
      · go_wp2_with (go_at_fn K; refine (unhide NEXT hz).mono ?_; rintro e w1 ⟨rfl, inv1⟩)
        go_roundw
        case rel => exact ⟨k + 1, by omega, by go_num, inv1⟩
        case measure => simp [intOf]; omega
    · obtain rfl : k = len := by omega
      clear inv h0
      go_wp2
      go_end0
      exact ⟨rfl, unhide INV⟩
end Go.Proofs.YtgjpcjnhggcfdaaGreatDoor.Each
