/- Contract: table.numbersOf: a map from each colour of a table to its first number. Conditions: the table has at most 1000 colours. -/
import Derived.Test.YtflmlbdcjjldgaaTLea
import Derived.Maps.OwnSet
namespace Go.Proofs.Ytflmlbdcjjldgaa.TMap
set_option linter.unusedVariables false
open Go.ChangeShapes Go.WideShapes Go.ChangeAt Go.RowKit Go.Maps Go.Proofs.Ytflmlbdcjjldgaa.Core Go.Proofs.Ytflmlbdcjjldgaa.LBlk Go.Proofs.Ytflmlbdcjjldgaa.PNum Go.Proofs.Ytflmlbdcjjldgaa.Ims Go.Proofs.Ytflmlbdcjjldgaa.TNum

theorem law31 : Keyed Try.prog 31 := int_keyed Try.underlying31
theorem zero3 (w : World) : (zeroValue 3).run Try.prog w = .ok (.int .i64 0) w := by kernel_rfl
theorem wf32 {x : Nat} (h : x < 4294967296) : (Lit.int .u32 (x : Int)).wf = true := WalkArith.wf_u32 (by omega)
/-- A map that tells of each colour its first number from i on. -/
structure Nu (t : Nat → Nat) (n i : Nat) (D : DataW Unit) : Prop where
  yes : ∀ p : Nat, fr t p i (n - i) < n → ∀ zd, D.atKey (.int .u32 (p : Int)) zd = .lit (.int .i64 (fr t p i (n - i) : Nat))
  has : ∀ p : Nat, Maps.has D (.int .u32 (p : Int)) = decide (fr t p i (n - i) < n)
theorem Nu.start (t : Nat → Nat) (n : Nat) : Nu t n n (.map []) where
  yes p h := by
    rw [Nat.sub_self] at h
    simp [fr] at h
  has p := by
    rw [Nat.sub_self]
    simp [fr, Maps.has]
theorem lit_ne {p q : Nat} (h : p ≠ q) : (Lit.int .u32 (p : Int)) ≠ .int .u32 (q : Int) := fun e => h (by injection e with _ e; omega)
theorem Nu.step {t : Nat → Nat} {n i : Nat} {D : DataW Unit} (h : Nu t n (i + 1) D) (hi : i < n) (hD : IsMap D) : Nu t n i (D.put (.int .u32 (t i : Int)) (.lit (.int .i64 (i : Int)))) := by
  have e : n - i = (n - (i + 1)) + 1 := by omega
  refine ⟨fun p hp zd => ?_, fun p => ?_⟩
  · by_cases hq : t i = p
    · subst hq
      rw [e, fr_hit rfl]
      exact atKey_put_same hD (by trivial) _ _
    · rw [atKey_put_other (lit_ne (Ne.symm hq))]
      rw [e, fr_go hq] at hp ⊢
      exact h.yes p hp zd
  · by_cases hq : t i = p
    · subst hq
      rw [e, fr_hit rfl, has_put_same hD (by trivial)]
      simp [hi]
    · rw [has_put_other (lit_ne (Ne.symm hq)), e, fr_go hq]
      exact h.has p
set_option maxHeartbeats 800000 in
theorem numbers31 {b off n : Nat} {t : Nat → Nat} (c : Nat) {w : World} (h : Pixs w b off n t) (ht : ∀ i, i < n → t i < 4294967296) (h0 : 0 < n) (hn : n ≤ 1000) :
    Calls Try.prog 31 #[.slice (some ⟨b, off, none⟩) n c] w fun e w' => ∃ (g : Nat) (D : DataW Unit), e = .returned (.map (some g)) ∧ w'.ownsMap Try.prog 31 (plainElem Try.prog 3) g n D ∧ Nu t n 0 D ∧ w.heap.size ≤ g ∧ Below w.heap.size w w' := by
  have hmm := @run_makeMap Try.prog
  have P := hide h
  have HT := hide ht
  clear h ht
  go_enter Try.func31, Try.ntmps31
  go_wp2
  go_loopw [4] (fun v wr => ∃ (k : Nat) (D : DataW Unit), v = .int .i64 ((k : Int) - 1) ∧ k ≤ n ∧ wr.ownsMap Try.prog 31 (plainElem Try.prog 3) w.heap.size (n - k) D ∧ Nu t n k D ∧ Below w.heap.size w wr) (fun v _ => (intOf v + 1).toNat)
  case atStart => exact ⟨n, .map [], rfl, Nat.le_refl _, by rw [Nat.sub_self]; exact World.ownsMap_made _ _ _ _, Nu.start t n, bel_a1 _ _⟩
  case round =>
    obtain ⟨k, D, rfl, hk, hown, hnu, hb⟩ := hrel
    cases k with
    | zero =>
      have HO := hide hown
      have HN := hide hnu
      have HB := hide hb
      clear hown hnu hb
      rw [show ((0 : Nat) : Int) - 1 = -1 from rfl]
      go_wp2
      go_ret
      exact ⟨w.heap.size, D, rfl, unhide HO, unhide HN, Nat.le_refl _, unhide HB⟩
    | succ k =>
      have ek : ((k + 1 : Nat) : Int) - 1 = (k : Int) := by omega
      rw [ek]
      have c1 : wr.cell? ⟨b, off + k, none⟩ = some (.int .u32 (t k)) := (unhide P).below hb k (by omega)
      have hkey : keyOf Try.prog 31 (.int .u32 (t k : Nat)) = some (.int .u32 (t k : Nat)) := keyOf_int_mk Try.underlying31 (wf32 (unhide HT k (by omega)))
      have HN := hide hnu
      have HB := hide hb
      clear hnu hb
      have hkn : k < n := by omega
      go_wp2_with (first
        | (at_mapUpdate; refine wpList_mapUpdate_own _ rfl _ _ _ 53 rfl 31 3 law31 Try.underlying53 _ w.heap.size (n - (k + 1)) _ rfl hown (by unfold maxLen; omega) _ _ _ rfl rfl hkey _ [] (plainElem_int Try.underlying3 (WalkArith.wf_i64 (by omega))) ?_; intro w1 hown1 hgrow1)
        | go_in)
      go_roundw
      case rel =>
        refine ⟨k, _, rfl, by omega, ?_, (unhide HN).step hkn hown.isMap, (unhide HB).grown hgrow1 (unhide HB).size (fun j hj => by cases hj; exact Nat.le_refl _)⟩
        rw [show n - k = n - (k + 1) + 1 by omega]
        exact hown1
      case measure => simp [intOf]
end Go.Proofs.Ytflmlbdcjjldgaa.TMap
