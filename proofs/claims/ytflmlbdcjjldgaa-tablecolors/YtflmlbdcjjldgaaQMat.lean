/- Plain facts: a part of a row that is parted by a number. No function of the program. No conditions. -/
import Derived.Test.YtflmlbdcjjldgaaQNum
namespace Go.Proofs.Ytflmlbdcjjldgaa.QMat
set_option linter.unusedVariables false
open Go.ChangeShapes Go.WideShapes Go.ChangeAt Go.RowKit Go.Sort Go.Proofs.Ytflmlbdcjjldgaa.Core Go.Proofs.Ytflmlbdcjjldgaa.QNum

/-- So far what lies from a + 1 to i is on the one side of p, what lies from j + 1 to b on the other. -/
structure Prt (L : Nat → Nat → Bool) (a b : Nat) (d : Array Nat) (p i j : Nat) (dk : Array Nat) : Prop where
  perm : PermIn a b d dk
  ha : a < i
  hij : i ≤ j + 1
  hjb : j < b
  hb : b ≤ dk.size
  piv : dk[a]! = p
  lo : ∀ t, a < t → t < i → L dk[t]! p = true
  hi : ∀ t, j < t → t < b → L dk[t]! p = false
variable {L : Nat → Nat → Bool} {a b p i j : Nat} {d dk : Array Nat}
theorem Prt.start {q : Nat} (h1 : a ≤ q) (h2 : q < b) (hb : b ≤ d.size) : Prt L a b d d[q]! (a + 1) (b - 1) (swp d a q) where
  perm := swp_permIn d a b a q (Nat.le_refl _) (by omega) h1 h2 hb
  ha := by omega
  hij := by omega
  hjb := by omega
  hb := by rw [size_swp]; exact hb
  piv := by
    by_cases e : a = q
    · subst e; rw [swp_right d a a (by omega)]
    · exact swp_left d a q (by omega) e
  lo t h k := by omega
  hi t h k := by omega
theorem Prt.up (h : Prt L a b d p i j dk) (hij : i ≤ j) (hl : L dk[i]! p = true) : Prt L a b d p (i + 1) j dk :=
  { h with
    ha := by have := h.ha; omega
    hij := by omega
    lo := fun t h1 h2 => by
      by_cases e : t = i
      · subst e; exact hl
      · exact h.lo t h1 (by omega) }
theorem Prt.down (h : Prt L a b d p i j dk) (hij : i ≤ j) (hl : L dk[j]! p = false) : Prt L a b d p i (j - 1) dk :=
  { h with
    hij := by omega
    hjb := by have := h.hjb; omega
    hi := fun t h1 h2 => by
      by_cases e : t = j
      · subst e; exact hl
      · exact h.hi t (by omega) h2 }
theorem Prt.swap (h : Prt L a b d p i j dk) (hij : i ≤ j) (h1 : L dk[i]! p = false) (h2 : L dk[j]! p = true) : Prt L a b d p (i + 1) (j - 1) (swp dk i j) := by
  have ha := h.ha
  have hjb := h.hjb
  have hb := h.hb
  have ne : i ≠ j := fun e => by subst e; rw [h1] at h2; cases h2
  exact {
    perm := permIn_trans _ _ _ _ _ h.perm (swp_permIn dk a b i j (by omega) (by omega) (by omega) (by omega) hb)
    ha := by omega
    hij := by omega
    hjb := by omega
    hb := by rw [size_swp]; exact hb
    piv := by rw [swp_other dk i j a (by omega) (by omega)]; exact h.piv
    lo := fun t k1 k2 => by
      by_cases e : t = i
      · subst e; rw [swp_left dk t j (by omega) ne]; exact h2
      · rw [swp_other dk i j t e (by omega)]; exact h.lo t k1 (by omega)
    hi := fun t k1 k2 => by
      by_cases e : t = j
      · subst e; rw [swp_right dk i t (by omega)]; exact h1
      · rw [swp_other dk i j t (by omega) e]; exact h.hi t (by omega) k2 }
/-- What a partition leaves: p at m, less ahead of it, no less behind it. -/
structure Cut (a b : Nat) (d : Array Nat) (m : Nat) (d4 : Array Nat) : Prop where
  perm : PermIn a b d d4
  h1 : a ≤ m
  h2 : m < b
  lo : ∀ t, a ≤ t → t < m → cl d4[t]! d4[m]! = true
  hi : ∀ t, m < t → t < b → cl d4[t]! d4[m]! = false
theorem Prt.cut (h : Prt cl a b d p i j dk) (hij : j < i) : Cut a b d j (swp dk j a) := by
  have ha := h.ha
  have hjb := h.hjb
  have hb := h.hb
  have h3 := h.hij
  have hm : (swp dk j a)[j]! = p := by
    by_cases e : j = a
    · subst e; rw [swp_right dk j j (by omega)]; exact h.piv
    · rw [swp_left dk j a (by omega) e]; exact h.piv
  refine ⟨permIn_trans _ _ _ _ _ h.perm (swp_permIn dk a b j a (by omega) (by omega) (Nat.le_refl _) (by omega) hb), by omega, hjb, fun t k1 k2 => ?_, fun t k1 k2 => ?_⟩
  · rw [hm]
    by_cases e : t = a
    · subst e
      rw [swp_right dk j t (by omega)]
      exact h.lo j (by omega) (by omega)
    · rw [swp_other dk j a t (by omega) e]
      exact h.lo t (by omega) (by omega)
  · rw [hm, swp_other dk j a t (by omega) (by omega)]
    exact h.hi t k1 k2
/-- What a partition of what is no less than p leaves: what is no greater, then what is greater. -/
structure Same (a b : Nat) (d : Array Nat) (p m : Nat) (d4 : Array Nat) : Prop where
  perm : PermIn a b d d4
  h1 : a < m
  h2 : m ≤ b
  lo : ∀ t, a ≤ t → t < m → cl p d4[t]! = false
  hi : ∀ t, m ≤ t → t < b → cl p d4[t]! = true
def le2 (x p : Nat) : Bool := !cl p x
theorem Prt.same (h : Prt le2 a b d p i j dk) (hij : j < i) : Same a b d p i dk := by
  have ha := h.ha
  have hjb := h.hjb
  have h3 := h.hij
  refine ⟨h.perm, ha, by omega, fun t k1 k2 => ?_, fun t k1 k2 => ?_⟩
  · by_cases e : t = a
    · subst e
      rw [h.piv]
      exact cl_swo.irrefl p
    · exact nt (h.lo t (by omega) k2)
  · exact nf (h.hi t (by omega) k2)

/-- What is left to sort: whoever sorts the part from a' to b' of dk has sorted d from a to b. -/
def Tobe (a b : Nat) (d : Array Nat) (a' b' : Nat) (dk : Array Nat) : Prop :=
  ∀ e, PermIn a' b' dk e → SortedIn cl a' b' e → PermIn a b d e ∧ SortedIn cl a b e
variable {a' b' : Nat} {d1 d4 : Array Nat}
theorem Tobe.start : Tobe a b d a b d := fun e h k => ⟨h, k⟩
theorem Tobe.perm (h : Tobe a b d a' b' dk) (k : PermIn a' b' dk d1) : Tobe a b d a' b' d1 := fun e p s => h e (permIn_trans _ _ _ _ _ k p) s
theorem perm_le (h : PermIn a b d dk) (hb : b ≤ d.size) (q : Nat → Prop) (k : ∀ t, a ≤ t → t < b → q d[t]!) : ∀ t, a ≤ t → t < b → q dk[t]! := permIn_all d dk a b q hb h k
end Go.Proofs.Ytflmlbdcjjldgaa.QMat
