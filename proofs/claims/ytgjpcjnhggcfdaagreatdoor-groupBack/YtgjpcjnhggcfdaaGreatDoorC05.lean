/-
  Numbers alone: bits in turned order, by halves of words; the bits of a number, the first one highest. No conditions.
  Plain facts: what a call leaves as it was, blocks of memory, slices of bytes that are read or appended. No conditions.
  Contracts: le.isWidth, le.Blocks and le.Get as other layers call them. Conditions: the numbers are within their bounds, the slice reads as bytes.
  Contracts: package bitin: New, Bits, Left, Over, by the state that the reader is in. Conditions: the reader lies in memory, its bytes are few.
-/
import Derived.Test.YtgjpcjnhggcfdaaGreatDoorC01
import Derived.WalkKit
import Derived.ProofKit
import Derived.OpenShut
import Derived.WalkSpells
import Derived.Laws.BitsAllLaws
import Derived.Laws.AppendOwnNone
import Derived.Deep.QuietTactic
import Derived.BigQuiet
import Derived.Below
import Derived.WalkSmall
namespace Go.Proofs.YtgjpcjnhggcfdaaGreatDoor.Rvm

/-- The lowest n bits of v, the last of them first. -/
def rv : Nat → Nat → Nat
  | 0, _ => 0
  | n + 1, v => v % 2 * 2 ^ n + rv n (v / 2)
theorem rv_lt : ∀ n v, rv n v < 2 ^ n
  | 0, _ => by simp [rv]
  | n + 1, v => by
    have h := rv_lt n (v / 2)
    have h2 : v % 2 * 2 ^ n ≤ 1 * 2 ^ n := Nat.mul_le_mul_right _ (by omega)
    simp only [rv]
    rw [Nat.pow_succ]
    omega
theorem rv_bit : ∀ n v i, (rv n v).testBit i = (decide (i < n) && v.testBit (n - 1 - i))
  | 0, v, i => by simp [rv]
  | n + 1, v, i => by
    have ih := rv_bit n (v / 2) i
    have hl := rv_lt n (v / 2)
    simp only [rv]
    rw [Nat.mul_comm, Nat.testBit_two_pow_mul_add _ hl]
    by_cases h : i < n
    · rw [if_pos h, ih]
      have e : n + 1 - 1 - i = (n - 1 - i) + 1 := by omega
      rw [e, Nat.testBit_succ]
      simp [h, show i < n + 1 by omega]
    · rw [if_neg h]
      by_cases h2 : i = n
      · subst h2
        have e : i + 1 - 1 - i = 0 := by omega
        rw [e, Nat.sub_self]
        simp only [Nat.testBit_zero]
        simp
      · have h3 : ¬ i < n + 1 := by omega
        rw [Nat.testBit_lt_two_pow (Nat.lt_of_lt_of_le (Nat.mod_lt v (by omega)) (show 2 ≤ 2 ^ (i - n) from Nat.pow_le_pow_right (n := 2) (i := 1) (by omega) (by omega)))]
        simp [h3]
theorem rv_top (n v : Nat) (h : n ≤ 32) : rv 32 v / 2 ^ (32 - n) = rv n v := by
  apply Nat.eq_of_testBit_eq
  intro i
  rw [← Nat.shiftRight_eq_div_pow, Nat.testBit_shiftRight, rv_bit, rv_bit]
  by_cases hi : i < n
  · simp only [hi, show 32 - n + i < 32 by omega, decide_true, Bool.true_and]
    congr 1
    omega
  · simp [hi, show ¬ 32 - n + i < 32 by omega]
theorem rv_rv (n v : Nat) (h : v < 2 ^ n) : rv n (rv n v) = v := by
  apply Nat.eq_of_testBit_eq
  intro i
  rw [rv_bit, rv_bit]
  by_cases hi : i < n
  · simp only [hi, show n - 1 - i < n by omega, decide_true, Bool.true_and]
    congr 1
    omega
  · rw [Nat.testBit_lt_two_pow (Nat.lt_of_lt_of_le h (Nat.pow_le_pow_right (by omega) (show n ≤ i by omega)))]
    simp [hi]
theorem rv_zero (n : Nat) : rv n 0 = 0 := by
  apply Nat.eq_of_testBit_eq
  intro i
  rw [rv_bit]
  simp
theorem rv_snoc (m x b : Nat) (hx : x < 2 ^ m) (hb : b ≤ 1) : rv (m + 1) (x + b * 2 ^ m) = 2 * rv m x + b := by
  apply Nat.eq_of_testBit_eq
  intro i
  rw [rv_bit, Nat.add_comm x, Nat.mul_comm b, Nat.testBit_two_pow_mul_add _ hx]
  have hl : b < 2 ^ 1 := by omega
  rw [show 2 * rv m x + b = 2 ^ 1 * rv m x + b from rfl, Nat.testBit_two_pow_mul_add _ hl, rv_bit]
  by_cases h0 : i = 0
  · subst h0
    rw [if_neg (by omega), if_pos (by omega)]
    simp
  · rw [if_neg (show ¬ i < 1 by omega)]
    by_cases hi : i < m + 1
    · rw [if_pos (by omega)]
      simp only [hi, show i - 1 < m by omega, decide_true, Bool.true_and]
      congr 1
      omega
    · simp [hi, show ¬ i - 1 < m by omega]

/-- Parts of s bits each, changed two by two. -/
def swp (s M x : Nat) : Nat := (x / 2 ^ s &&& M) ||| (x &&& M) * 2 ^ s
theorem swp_bit (s M x i : Nat) : (swp s M x).testBit i = ((x.testBit (s + i) && M.testBit i) || (decide (s ≤ i) && (x.testBit (i - s) && M.testBit (i - s)))) := by
  unfold swp
  rw [Nat.testBit_or, Nat.testBit_and, ← Nat.shiftRight_eq_div_pow, Nat.testBit_shiftRight, ← Nat.shiftLeft_eq, Nat.testBit_shiftLeft, Nat.testBit_and]
theorem swp_lt (s M x k : Nat) (h : M < 2 ^ k) (h2 : M * 2 ^ s < 2 ^ k) : swp s M x < 2 ^ k := by
  unfold swp
  refine Nat.or_lt_two_pow ?_ ?_
  · exact Nat.lt_of_le_of_lt Nat.and_le_right h
  · exact Nat.lt_of_le_of_lt (Nat.mul_le_mul_right _ Nat.and_le_right) h2
def rev32 (x : Nat) : Nat := swp 8 16711935 (swp 4 252645135 (swp 2 858993459 (swp 1 1431655765 x)))
def rev (x : Nat) : Nat := rev32 x / 65536 ||| rev32 x * 65536 % 4294967296
theorem m1 : ∀ i, i < 64 → (1431655765 : Nat).testBit i = (decide (i < 32) && decide (i % 2 = 0)) := by decide
theorem m2 : ∀ i, i < 64 → (858993459 : Nat).testBit i = (decide (i < 32) && decide (i / 2 % 2 = 0)) := by decide
theorem m4 : ∀ i, i < 64 → (252645135 : Nat).testBit i = (decide (i < 32) && decide (i / 4 % 2 = 0)) := by decide
theorem m8 : ∀ i, i < 64 → (16711935 : Nat).testBit i = (decide (i < 32) && decide (i / 8 % 2 = 0)) := by decide
theorem rev32_lt (x : Nat) : rev32 x < 4294967296 := swp_lt 8 16711935 _ 32 (by decide) (by decide)
theorem swp_at (s M x : Nat) (hM : ∀ i, i < 64 → M.testBit i = (decide (i < 32) && decide (i / s % 2 = 0))) (i : Nat) (hi : i < 32) (hs : 0 < s) : (swp s M x).testBit i = if i / s % 2 = 0 then x.testBit (i + s) else x.testBit (i - s) := by
  rw [swp_bit, hM i (by omega), hM (i - s) (by omega)]
  by_cases h : i / s % 2 = 0
  · simp only [hi, h, decide_true, Bool.and_true, if_true, Nat.add_comm s i]
    by_cases h2 : s ≤ i
    · have e : i / s = (i - s) / s + 1 := by
        rw [← Nat.add_div_right _ hs, Nat.sub_add_cancel h2]
      have h3 : ¬ (i - s) / s % 2 = 0 := by omega
      simp [h3]
    · simp [h2]
  · have h2 : s ≤ i := by
      rcases Nat.lt_or_ge i s with h3 | h3
      · rw [Nat.div_eq_of_lt h3] at h; omega
      · exact h3
    have e : i / s = (i - s) / s + 1 := by
      rw [← Nat.add_div_right _ hs, Nat.sub_add_cancel h2]
    have h3 : (i - s) / s % 2 = 0 := by omega
    simp [h, h2, h3, show i - s < 32 by omega]
theorem rev_eq (x : Nat) (_ : x < 4294967296) : rev x = rv 32 x := by
  apply Nat.eq_of_testBit_eq
  intro i
  rw [rv_bit]
  unfold rev
  rw [Nat.testBit_or, show rev32 x / 65536 = rev32 x >>> 16 from (Nat.shiftRight_eq_div_pow _ 16).symm, Nat.testBit_shiftRight, show rev32 x * 65536 % 4294967296 = (rev32 x <<< 16) % 2 ^ 32 by rw [Nat.shiftLeft_eq], Nat.testBit_mod_two_pow, Nat.testBit_shiftLeft]
  have hz : ∀ j, 32 ≤ j → (rev32 x).testBit j = false := fun j hj => Nat.testBit_lt_two_pow (Nat.lt_of_lt_of_le (rev32_lt x) (Nat.pow_le_pow_right (n := 2) (i := 32) (by omega) hj))
  have hb : ∀ j, j < 32 → (rev32 x).testBit j = x.testBit ((j / 16) * 16 + (15 - j % 16)) := by
    intro j hj
    unfold rev32
    have a8 := fun y k hk => swp_at 8 16711935 y m8 k hk (by omega)
    have a4 := fun y k hk => swp_at 4 252645135 y m4 k hk (by omega)
    have a2 := fun y k hk => swp_at 2 858993459 y m2 k hk (by omega)
    have a1 := fun y k hk => swp_at 1 1431655765 y (fun i hi => by rw [m1 i hi, Nat.div_one]) k hk (by omega)
    have b8 : ∀ y, (swp 8 16711935 y).testBit j = y.testBit (if j / 8 % 2 = 0 then j + 8 else j - 8) := fun y => by rw [a8 y j hj]; split <;> rfl
    rw [b8]
    generalize hk8 : (if j / 8 % 2 = 0 then j + 8 else j - 8) = j8
    have l8 : j8 < 32 := by rw [← hk8]; split <;> omega
    have b4 : ∀ y, (swp 4 252645135 y).testBit j8 = y.testBit (if j8 / 4 % 2 = 0 then j8 + 4 else j8 - 4) := fun y => by rw [a4 y j8 l8]; split <;> rfl
    rw [b4]
    generalize hk4 : (if j8 / 4 % 2 = 0 then j8 + 4 else j8 - 4) = j4
    have l4 : j4 < 32 := by rw [← hk4]; split <;> omega
    have b2 : ∀ y, (swp 2 858993459 y).testBit j4 = y.testBit (if j4 / 2 % 2 = 0 then j4 + 2 else j4 - 2) := fun y => by rw [a2 y j4 l4]; split <;> rfl
    rw [b2]
    generalize hk2 : (if j4 / 2 % 2 = 0 then j4 + 2 else j4 - 2) = j2
    have l2 : j2 < 32 := by rw [← hk2]; split <;> omega
    have b1 : ∀ y, (swp 1 1431655765 y).testBit j2 = y.testBit (if j2 / 1 % 2 = 0 then j2 + 1 else j2 - 1) := fun y => by rw [a1 y j2 l2]; split <;> rfl
    rw [b1]
    congr 1
    have key : ∀ j, j < 32 → (fun j2 => if j2 / 1 % 2 = 0 then j2 + 1 else j2 - 1) ((fun j4 => if j4 / 2 % 2 = 0 then j4 + 2 else j4 - 2) ((fun j8 => if j8 / 4 % 2 = 0 then j8 + 4 else j8 - 4) (if j / 8 % 2 = 0 then j + 8 else j - 8))) = (j / 16) * 16 + (15 - j % 16) := by decide
    have := key j hj
    rw [hk8] at this
    simp only [hk4, hk2] at this
    exact this
  by_cases hi : i < 32
  · by_cases h16 : i < 16
    · rw [hb (16 + i) (by omega)]
      have hn : ¬ 16 ≤ i := by omega
      have e : (16 + i) / 16 * 16 + (15 - (16 + i) % 16) = 32 - 1 - i := by omega
      rw [e]
      simp [hi, hn]
    · rw [hz (16 + i) (by omega), hb (i - 16) (by omega)]
      have e : (i - 16) / 16 * 16 + (15 - (i - 16) % 16) = 32 - 1 - i := by omega
      rw [e]
      simp [hi, show 16 ≤ i by omega]
  · rw [hz (16 + i) (by omega)]
    simp [hi]
end Go.Proofs.YtgjpcjnhggcfdaaGreatDoor.Rvm

namespace Go.Proofs.YtgjpcjnhggcfdaaGreatDoor.Core
open Go.ChangeShapes Go.WideShapes Go.ChangeAt Go.RowKit

/-- A slice of bytes that came in: nil, or somewhere, its bytes told by c. -/
def Src (w : World) (v : Value) (len : Nat) (c : Nat → Nat) : Prop :=
  (v = .slice none 0 0 ∧ len = 0) ∨ ∃ x cap, v = .slice (some x) len cap ∧ ∀ k, k < len → w.cell? (x.add k) = some (.int .u8 (c k))
theorem Src.keep {S : Nat → Prop} {w w' : World} {v : Value} {len : Nat} {c : Nat → Nat} (h : Src w v len c) (u : Upd S w w') (hs : ∀ k, S k → w.heap.size ≤ k) : Src w' v len c := by
  rcases h with h | ⟨x, cap, e, hc⟩
  · exact .inl h
  · exact .inr ⟨x, cap, e, fun k hk => (u.cell (lt_of_cell (hc k hk)) (fun h => by have := hs _ h; have := lt_of_cell (hc k hk); omega)).trans (hc k hk)⟩
theorem src_at {w : World} {a : Addr} {n : Nat} {c : Nat → Nat} (h : ∀ i, i < n → w.cell? (a.add i) = some (.int .u8 (c i))) (hp : 0 < n) :
    ∃ b off, a = ⟨b, off, none⟩ ∧ ∀ j, j < n → w.cell? ⟨b, off + j, none⟩ = some (.int .u8 (c j)) := by
  obtain ⟨b, off, spot⟩ := a
  have hspot : spot = none := by simpa [Addr.add] using World.cell?_spot (h 0 hp)
  subst hspot
  exact ⟨b, off, rfl, fun j hj => by rw [← Go.WideShapes.add_plain]; exact h j hj⟩
theorem src_of_row {w : World} {a : Option Addr} {len cap : Nat} {zs : List Int}
    (h : (a = none ∧ len = 0 ∧ cap = 0 ∧ zs = []) ∨
      ∃ x, a = some x ∧ len ≤ cap ∧ cap ≤ maxLen ∧ zs.length = cap ∧ (∀ i, i < zs.length → w.cell? (x.add i) = some (.int .u8 (zs.getD i 0))) ∧ ∀ n ∈ zs, (Lit.int .u8 n).wf = true) :
    ∃ c : Nat → Nat, (∀ k, c k ≤ 255) ∧ Src w (.slice a len cap) len c := by
  rcases h with ⟨rfl, rfl, rfl, _⟩ | ⟨x, rfl, h1, h2, hz, hc, hwf⟩
  · exact ⟨fun _ => 0, fun _ => Nat.zero_le _, .inl ⟨rfl, rfl⟩⟩
  · have hbd : ∀ k, 0 ≤ zs.getD k 0 ∧ zs.getD k 0 ≤ 255 := fun k => by
      by_cases hk : k < zs.length
      · have hx : zs.getD k 0 ∈ zs := by
          rw [List.getD_eq_getElem?_getD, List.getElem?_eq_getElem hk]; exact List.getElem_mem hk
        exact bounds_u8 (hwf _ hx)
      · rw [List.getD_eq_getElem?_getD, List.getElem?_eq_none (by omega)]; simp
    refine ⟨fun k => (zs.getD k 0).toNat, fun k => by have := hbd k; simp only; omega, .inr ⟨x, cap, rfl, fun k hk => ?_⟩⟩
    rw [hc k (by omega)]
    have e : (((zs.getD k 0).toNat : Nat) : Int) = zs.getD k 0 := by have := hbd k; omega
    simp only [e]
/-- Bytes as cells. -/
def cells (c : Nat → Nat) (n : Nat) : List Value := (List.range n).map fun k => .int .u8 (c k)
theorem cells_len (c : Nat → Nat) (n : Nat) : (cells c n).length = n := by simp [cells]
theorem cells_at (c : Nat → Nat) (n k : Nat) (h : k < n) : (cells c n)[k]? = some (.int .u8 (c k)) := by
  simp [cells, h]
theorem cells_one (c : Nat → Nat) (n : Nat) : ∀ u ∈ cells c n, u.oneCell' = true := by
  intro u hu
  obtain ⟨_, _, rfl⟩ := List.mem_map.1 hu
  rfl
theorem news_of {w : World} {n : Nat} {x : Addr} {c : Nat → Nat} (h : ∀ k, k < n → w.cell? (x.add k) = some (.int .u8 (c k))) :
    ∀ j u, (cells c n)[j]? = some u → w.cell? (x.add j) = some u := by
  intro j u hu
  have hj : j < n := by
    have := (List.getElem?_eq_some_iff.1 hu).1
    rwa [cells_len] at this
  rw [cells_at c n j hj] at hu
  rw [h j hj]
  exact hu

/-- What a copy hands back. -/
def Got (w : World) (lo : Nat) (v : Value) (len : Nat) (c : Nat → Nat) : Prop :=
  ∃ a cap, v = .slice a len cap ∧ (len = 0 ∨ ∃ b, a = some ⟨b, 0, none⟩ ∧ lo ≤ b ∧ b < w.heap.size ∧ ∀ k, k < len → w.cell? ⟨b, k, none⟩ = some (.int .u8 (c k)))

theorem got_of {w : World} {base : Nat} {v : Value} {len : Nat} {c : Nat → Nat} (h : w.ownsRow base 5 1 v len (cells c len)) : Got w base v len c := by
  have hlt := h.lt
  rcases h.2 with ⟨rfl, h0⟩ | ⟨g, cap, cur, rfl, _⟩
  · exact ⟨none, 0, by rw [h0], .inl h0⟩
  · exact ⟨_, cap, rfl, .inr ⟨g, rfl, (hlt g rfl).1, (hlt g rfl).2, fun k hk => (h.cellAt k (by omega)).trans (cells_at c len k hk)⟩⟩

theorem Tryz.info5 : (Tryz.prog.info? 5).map (fun i => (i.zero, i.size, i.bytes)) = some (some (.int .u8 0), 1, 1) := by kernel_rfl
theorem grown_refl (w : World) (row : Option Nat) : w.grownBy w row := ⟨rfl, rfl, rfl, Nat.le_refl _, fun _ _ _ => rfl⟩
theorem app_src {w : World} {ops : Array Oper} {rest : List Oper} {o : Oper} {a : Act} {Q : Exit → Act → World → Prop} (hgd : o.guard = none) (s x : Operand)
    (ho : o.op = .call { callee := .builtin .append, args := #[s, x], argTypes := #[47, 47] })
    (base : Nat) (v : Value) (n : Nat) (xs : List Value) (hs : a.eval s = v) (hown : w.ownsRow base 5 1 v n xs)
    (u : Value) (len : Nat) (c : Nat → Nat) (hx : a.eval x = u) (src : Src w u len c) (hn : n + len ≤ 1000000) (hbase : base ≤ w.heap.size)
    (h : ∀ v' w', w'.ownsRow base 5 1 v' (n + len) (xs ++ cells c len) → w.grownBy w' v.ownBlock → wpList Tryz.prog ops Q rest (a.put o.dst v') w') : wpList Tryz.prog ops Q (o :: rest) a w := by
  obtain ⟨i0, hi, hz0, hz1, hz2⟩ := info_parts Tryz.info5
  rcases src with ⟨rfl, rfl⟩ | ⟨ad, cap, rfl, hc⟩
  · refine wpList_append_own_none hgd s x 47 ho base 5 i0 1 Tryz.underlying47 hi v n xs hs hown hx (h v w ?_ (grown_refl _ _))
    rw [show cells c 0 = [] from rfl, List.append_nil]
    exact hown
  · exact wpList_append_own w hgd s x 47 ho base 5 i0 (.int .u8 0) 1 1 Tryz.underlying47 hi hz0 hz1 hz2 rfl (by decide) v n xs hs hown ad len cap (cells c len) hx (by rw [cells_len, Nat.mul_one])
      (news_of hc) (cells_one _ _) (by unfold maxLen; omega) (by omega) hbase (fun v' w' h1 h2 _ => h v' w' h1 h2)
theorem own_slice {w : World} {base n : Nat} {v : Value} {xs : List Value} (h : w.ownsRow base 5 1 v n xs) : ∃ a cap, v = .slice a n cap := by
  rcases h.2 with ⟨rfl, h0⟩ | ⟨g, cap, cur, rfl, _⟩
  · exact ⟨none, 0, by rw [h0]⟩
  · exact ⟨_, _, rfl⟩
theorem src_of_own {w : World} {base n : Nat} {v : Value} {c : Nat → Nat} (h : w.ownsRow base 5 1 v n (cells c n)) : Src w v n c := by
  rcases h.2 with ⟨rfl, h0⟩ | ⟨g, cap, cur, rfl, _⟩
  · exact .inl ⟨rfl, h0⟩
  · exact .inr ⟨_, cap, rfl, fun k hk => by rw [add_plain, Nat.zero_add]; exact (h.cellAt k (by omega)).trans (cells_at c n k hk)⟩
theorem cells_set (c : Nat → Nat) (n k z : Nat) : (cells c n).set k (.int .u8 z) = cells (fun j => if j = k then z else c j) n := by
  apply List.ext_getElem?
  intro j
  rw [List.getElem?_set]
  by_cases hj : j < n
  · rw [cells_at _ n j hj, cells_at _ n j hj, cells_len]
    by_cases e : k = j
    · subst e; simp [hj]
    · have : ¬ j = k := fun h => e h.symm
      simp [e, this]
  · rw [List.getElem?_eq_none (l := cells c n) (by rw [cells_len]; omega), List.getElem?_eq_none (l := cells _ n) (by rw [cells_len]; omega), cells_len]
    split
    · rw [if_neg (by omega)]
    · rfl
end Go.Proofs.YtgjpcjnhggcfdaaGreatDoor.Core

namespace Go.Proofs.YtgjpcjnhggcfdaaGreatDoor.Le
open Go.ChangeShapes Go.WideShapes Go.ChangeAt Go.RowKit Go.Proofs.YtgjpcjnhggcfdaaGreatDoor.Core

/-- The number of n bytes from p on, the lowest first. -/
def leN (c : Nat → Int) : Nat → Nat → Int
  | _, 0 => 0
  | p, n + 1 => c p + 256 * leN c (p + 1) n
theorem leN_bd (c : Nat → Int) (hc : ∀ k, 0 ≤ c k ∧ c k ≤ 255) : ∀ (n p : Nat), 0 ≤ leN c p n ∧ leN c p n < 256 ^ n
  | 0, p => by simp [leN]
  | n + 1, p => by
    have := leN_bd c hc n (p + 1)
    have h := hc p
    rw [leN, Int.pow_succ]; omega
theorem leN_bd7 (c : Nat → Int) (hc : ∀ k, 0 ≤ c k ∧ c k ≤ 255) (n p : Nat) (hn : n ≤ 7) : 0 ≤ leN c p n ∧ leN c p n < 72057594037927936 := by
  have h := leN_bd c hc n p
  have h1 : (256 : Nat) ^ n ≤ 256 ^ 7 := Nat.pow_le_pow_right (by omega) hn
  have h2 : (256 : Nat) ^ 7 = 72057594037927936 := by decide
  have h3 : ((256 ^ n : Nat) : Int) = (256 : Int) ^ n := by simp
  omega
theorem or_add (a b : Int) (h1 : 0 ≤ a) (h2 : a < 72057594037927936) (h3 : 0 ≤ b) (h4 : b ≤ 255) : bits .or .u64 (a * 256) b = a * 256 + b := by
  rw [u64_or _ _ (by omega) (by omega) (by omega) (by omega), nat_join 8 _ _ (by omega) (by omega)]; omega

end Go.Proofs.YtgjpcjnhggcfdaaGreatDoor.Le

namespace Go.Proofs.YtgjpcjnhggcfdaaGreatDoor.Bitin
open Go.ChangeShapes Go.WideShapes Go.ChangeAt Go.RowKit Go.Proofs.YtgjpcjnhggcfdaaGreatDoor.Core Go.Proofs.YtgjpcjnhggcfdaaGreatDoor.Le

/-- The number that n bytes make from p on. -/
def num (c : Nat → Nat) : Nat → Nat → Nat
  | _, 0 => 0
  | p, n + 1 => c p + 256 * num c (p + 1) n
theorem leN_num (c : Nat → Nat) : ∀ n p, leN (fun k => (c k : Int)) p n = (num c p n : Int)
  | 0, p => rfl
  | n + 1, p => by rw [leN, num, leN_num c n (p + 1)]; simp
theorem num_lt (c : Nat → Nat) (hc : ∀ k, c k ≤ 255) : ∀ n p, num c p n < 256 ^ n
  | 0, p => by simp [num]
  | n + 1, p => by
    have := num_lt c hc n (p + 1)
    have h := hc p
    rw [num, Nat.pow_succ]; omega
theorem num_split (c : Nat → Nat) : ∀ a b p, num c p (a + b) = num c p a + 256 ^ a * num c (p + a) b
  | 0, b, p => by simp [num]
  | a + 1, b, p => by
    rw [show a + 1 + b = (a + b) + 1 from by omega, num, num, num_split c a b (p + 1), Nat.pow_succ, Nat.mul_add, show p + 1 + a = p + (a + 1) from by omega,
      Nat.mul_comm (256 ^ a) 256, Nat.mul_assoc, Nat.add_assoc]
theorem num_part (c : Nat → Nat) (hc : ∀ k, c k ≤ 255) (p m len : Nat) (h : p + m ≤ len) : num c 0 len / 256 ^ p % 256 ^ m = num c p m := by
  obtain ⟨r, rfl⟩ : ∃ r, len = p + (m + r) := ⟨len - p - m, by omega⟩
  rw [num_split c p (m + r) 0, Nat.add_mul_div_left _ _ (Nat.pow_pos (by omega)), Nat.div_eq_of_lt (num_lt c hc p 0), Nat.zero_add, Nat.zero_add,
    num_split c m r p, Nat.add_mul_mod_self_left, Nat.mod_eq_of_lt (num_lt c hc m p)]
/-- The n bits from place i on. -/
def val (c : Nat → Nat) (len i n : Nat) : Nat := num c 0 len / 2 ^ i % 2 ^ n
theorem take_eq (c : Nat → Nat) (hc : ∀ k, c k ≤ 255) (p s m n len : Nat) (h : p + m ≤ len) (h2 : s + n ≤ 8 * m) :
    num c p m / 2 ^ s % 2 ^ n = val c len (8 * p + s) n := by
  rw [← num_part c hc p m len h]
  unfold val
  generalize num c 0 len = N
  rw [show (256 : Nat) = 2 ^ 8 from rfl, ← Nat.pow_mul, ← Nat.pow_mul, Nat.pow_add, ← Nat.div_div_eq_div_mul]
  generalize N / 2 ^ (8 * p) = X
  obtain ⟨t, ht⟩ : ∃ t, 8 * m = s + t := ⟨8 * m - s, by omega⟩
  rw [ht, Nat.pow_add, Nat.mod_mul_right_div_self, Nat.mod_mod_of_dvd _ (Nat.pow_dvd_pow 2 (by omega))]
theorem val_lt (c : Nat → Nat) (len i n : Nat) : val c len i n < 2 ^ n := Nat.mod_lt _ (Nat.pow_pos (by omega))
theorem val_add (c : Nat → Nat) (len i x y : Nat) : val c len i (x + y) = val c len i x + val c len (i + x) y * 2 ^ x := by
  unfold val
  rw [Nat.pow_add, Nat.mod_mul, Nat.pow_add, ← Nat.div_div_eq_div_mul, Nat.mul_comm (2 ^ x)]

theorem pow32 (n : Nat) (h : n ≤ 32) : (1 : Int) ≤ 2 ^ n ∧ (2 : Int) ^ n ≤ 4294967296 := by
  have h1 : (2 : Nat) ^ n ≤ 2 ^ 32 := Nat.pow_le_pow_right (by omega) h
  have h2 : 0 < (2 : Nat) ^ n := Nat.pow_pos (by omega)
  have h3 : ((2 ^ n : Nat) : Int) = (2 : Int) ^ n := by simp
  have h4 : (2 : Nat) ^ 32 = 4294967296 := by decide
  omega
theorem and_mask (X s n : Nat) (hX : X < 256 ^ 8) (hn : n ≤ 32) : bits .and .u64 ((X : Int) / 2 ^ s) (2 ^ n - 1) % 4294967296 = ((X / 2 ^ s % 2 ^ n : Nat) : Int) := by
  have e1 : (X : Int) / 2 ^ s = ((X / 2 ^ s : Nat) : Int) := by simp
  have e2 : (2 : Int) ^ n - 1 = ((2 ^ n - 1 : Nat) : Int) := by
    have h3 : ((2 ^ n : Nat) : Int) = (2 : Int) ^ n := by simp
    have h2 : 0 < (2 : Nat) ^ n := Nat.pow_pos (by omega)
    omega
  have h1 : (2 : Nat) ^ n ≤ 2 ^ 32 := Nat.pow_le_pow_right (by omega) hn
  have h4 : (2 : Nat) ^ 32 = 4294967296 := by decide
  have h5 : (256 : Nat) ^ 8 = 18446744073709551616 := by decide
  have h6 : X / 2 ^ s ≤ X := Nat.div_le_self _ _
  have h7 : X / 2 ^ s % 2 ^ n < 2 ^ n := Nat.mod_lt _ (Nat.pow_pos (by omega))
  rw [e1, e2, u64_and_nat _ _ (by omega) (by omega), Nat.and_two_pow_sub_one_eq_mod]
  omega
theorem ret_ue {a b : Int} {c : Int} (h : a = b) : Ending.returned (.tuple #[.int .u32 a, .int .i64 c]) = .returned (.tuple #[.int .u32 b, .int .i64 c]) := by rw [h]
theorem eql_nil (w : World) : (binOp .eql 47 (.slice none 0 0) (.slice none 0 0)).run Tryz.prog w = .ok (.bool true) w := by kernel_rfl
theorem eql_some (w : World) (a : Addr) (n c : Nat) : (binOp .eql 47 (.slice (some a) n c) (.slice none 0 0)).run Tryz.prog w = .ok (.bool false) w := by kernel_rfl
/-- The state behind a call: how many bits are read; none: it is over. -/
def stp (len : Nat) (s : Option Nat) (n : Nat) : Option Nat :=
  if n = 0 then s else match s with | some i => if i + n ≤ 8 * len then some (i + n) else none | none => none
def resV (c : Nat → Nat) (len : Nat) (s : Option Nat) (n : Nat) : Nat :=
  match s with | some i => if i + n ≤ 8 * len then val c len i n else 0 | none => 0
def resE (len : Nat) (s : Option Nat) (n : Nat) : Nat :=
  if n = 0 then 0 else match s with | some i => if i + n ≤ 8 * len then 0 else 2 | none => 2
/-- How many bits are left, in a state. -/
def leftOf (len : Nat) (s : Option Nat) : Nat := match s with | some i => 8 * len - i | none => 0
end Go.Proofs.YtgjpcjnhggcfdaaGreatDoor.Bitin
