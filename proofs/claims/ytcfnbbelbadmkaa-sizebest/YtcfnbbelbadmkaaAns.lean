/- Contract: answers: what a program that does nothing does not answer. No conditions. -/
import Derived.Test.YtcfnbbelbadmkaaUse
import Derived.Test.YtcfnbbelbadmkaaPar
namespace Go.Proofs.Ytcfnbbelbadmkaa.Ans
open Go.ChangeShapes Go.WideShapes Go.ChangeAt Go.RowKit Go.Proofs.Ytcfnbbelbadmkaa.Core Go.Proofs.Ytcfnbbelbadmkaa.Gnd Go.Proofs.Ytcfnbbelbadmkaa.Srt Go.Proofs.Ytcfnbbelbadmkaa.Ris Go.Proofs.Ytcfnbbelbadmkaa.Bst Go.Proofs.Ytcfnbbelbadmkaa.Fin Go.Proofs.Ytcfnbbelbadmkaa.Spr Go.Proofs.Ytcfnbbelbadmkaa.Use Go.Proofs.Ytcfnbbelbadmkaa.Totl Go.Proofs.Ytcfnbbelbadmkaa.Par

def c5 (i : Nat) : Int := if i = 0 then 5 else 1
theorem pos5 : pos c5 3 = [0, 1, 2] := by simp [pos, c5]
theorem three {a b c : Nat} (h1 : 1 ≤ c) (hcb : c ≤ b) (hba : b ≤ a) (h15 : a ≤ 15) (hs : 2 ^ (15 - a) + 2 ^ (15 - b) + 2 ^ (15 - c) = 32768) : c = 1 ∧ b = 2 ∧ a = 2 := by
  have up : ∀ x k : Nat, k ≤ x → x ≤ 15 → 2 ^ (15 - x) ≤ 2 ^ (15 - k) := fun x k hk _ => Nat.pow_le_pow_right (by omega) (by omega)
  have ps : ∀ x : Nat, 0 < 2 ^ (15 - x) := fun x => Nat.pow_pos (by omega)
  have pa := ps a
  have e1 : (2 : Nat) ^ (15 - 1) = 16384 := rfl
  have e2 : (2 : Nat) ^ (15 - 2) = 8192 := rfl
  have e3 : (2 : Nat) ^ (15 - 3) = 4096 := rfl
  have hc : c = 1 := by
    by_cases e : c = 1
    · exact e
    · have u1 := up c 2 (by omega) (by omega)
      have u2 := up b 2 (by omega) (by omega)
      have u3 := up a 2 (by omega) (by omega)
      omega
  subst hc
  have hb : b = 2 := by
    by_cases e : b = 1
    · subst e; omega
    · by_cases e4 : b = 2
      · exact e4
      · have u2 := up b 3 (by omega) (by omega)
        have u3 := up a 3 (by omega) (by omega)
        omega
  subst hb
  have ha : a = 2 := by
    by_cases e : a = 2
    · exact e
    · have u3 := up a 3 (by omega) (by omega)
      omega
  exact ⟨rfl, rfl, ha⟩
theorem lens5 {s M : Nat → Nat} (h : Lns c5 3 15 s M) : M 0 = 1 ∧ M 1 = 2 ∧ M 2 = 2 := by
  have hl : (pos c5 3).length = 3 := by rw [pos5]; rfl
  have g := lns_good h (by omega) (by omega) (by rw [hl]; decide)
  have r := fun p hp => (re_pos h.re (i := p) hp)
  have inj := fun p q hp hq e => re_inj h.re (i := p) (j := q) hp hq e
  have su := fun x hx hc => re_surj h.re (x := x) hx hc
  have up := h.up
  rw [hl] at g r inj su up
  have f := g.full
  simp only [sumN] at f
  have p0 : 1 ≤ M (s 0) ∧ M (s 0) ≤ 15 := g.pos 0 (by omega)
  have p2 : 1 ≤ M (s 2) ∧ M (s 2) ≤ 15 := g.pos 2 (by omega)
  have o1 : M (s 1) ≤ M (s 0) := g.ord 0 1 (by omega) (by omega)
  have o2 : M (s 2) ≤ M (s 1) := g.ord 1 2 (by omega) (by omega)
  obtain ⟨t2, t1, t0⟩ := three p2.1 o2 o1 p0.2 (by rw [← show (2 : Nat) ^ 15 = 32768 from rfl]; omega)
  have u1 : c5 (s 0) ≤ c5 (s 1) := up 0 1 (by omega) (by omega) (by omega)
  have u2 : c5 (s 1) ≤ c5 (s 2) := up 1 2 (by omega) (by omega) (by omega)
  have cz : ∀ x, c5 x = 5 ↔ x = 0 := fun x => by
    unfold c5
    by_cases e : x = 0 <;> simp [e]
  have cl : ∀ x, c5 x ≤ 5 := fun x => by
    unfold c5
    by_cases e : x = 0 <;> simp [e]
  have s20 : s 2 = 0 := by
    obtain ⟨p, hp, e⟩ := su 0 (by omega) (by decide)
    have hcl := cl (s 2)
    have hcl1 := cl (s 1)
    have hp' : p = 0 ∨ p = 1 ∨ p = 2 := by omega
    rcases hp' with rfl | rfl | rfl
    · have := (cz (s 0)).2 e
      have h1 : s 1 = 0 := (cz _).1 (by omega)
      have := inj 0 1 (by omega) (by omega) (by rw [e, h1])
      omega
    · have := (cz (s 1)).2 e
      have h1 : s 2 = 0 := (cz _).1 (by omega)
      exact h1
    · exact e
  have oth : ∀ x, x < 3 → x ≠ 0 → M x = 2 := fun x hx h0 => by
    obtain ⟨p, hp, e⟩ := su x hx (by unfold c5; rw [if_neg h0]; decide)
    have hp' : p = 0 ∨ p = 1 ∨ p = 2 := by omega
    rcases hp' with rfl | rfl | rfl
    · rw [← e]; exact t0
    · rw [← e]; exact t1
    · omega
  exact ⟨by rw [← s20]; exact t2, oth 1 (by omega) (by omega), oth 2 (by omega) (by omega)⟩
set_option maxHeartbeats 1000000 in
theorem ans8 (w : World) : Calls Try.prog 8 #[] w fun e w' => e = .returned (.bool true) ∧ Below w.heap.size w w' := by
  have src : ∀ w : World, Ints .i64 (w.alloc (.cells #[.int .i64 5, .int .i64 1, .int .i64 1] 3)) (.slice (some ⟨w.heap.size, 0, none⟩) 3 3) 3 c5 := fun w => by
    refine ⟨_, 3, rfl, fun i hi => ⟨w.heap.size, 0, rfl, ?_⟩⟩
    have b := Box.made w 3 #[.int .i64 5, .int .i64 1, .int .i64 1]
    rw [Nat.zero_add, b.cell]
    have hi' : i = 0 ∨ i = 1 ∨ i = 2 := by omega
    rcases hi' with rfl | rfl | rfl <;> rfl
  have SRC := hide src
  have CB := hide (bst_ok par24 _ 3 15 c5 _ (src w) (by omega) (fun k hk => by unfold c5; by_cases e : k = 0 <;> simp [e]) (by omega) (by omega) (by rw [pos5]; decide))
  clear src
  go_enter Try.func8, Try.ntmps8
  go_wp2_with fail
  refine (unhide CB).mono ?_
  rintro e w1 ⟨u, s, M, rfl, iu, ln, b1⟩
  obtain ⟨m0, m1, m2⟩ := lens5 ln
  have B1 := hide (show Below w.heap.size w w1 from ((Below.refl _ w).alloc (Nat.le_refl _) _).trans (b1.mono (by simp)))
  have IU := hide iu
  have CT := hide (fun w' (hb : Below w1.heap.size w1 w') => tot11 _ _ 3 3 c5 (fun i => (M i : Int)) (w'.alloc (.cells #[.int .i64 5, .int .i64 1, .int .i64 1] 3)) (by omega) (by omega) (unhide SRC w') ((unhide IU).keep (hb.trans (((Below.refl _ w').alloc (Nat.le_refl _) _).mono hb.size))))
  have TT := hide (show tot c5 (fun i => (M i : Int)) (min 3 3) = 9 from by
    rw [show min 3 3 = 3 from rfl]
    simp only [tot, m0, m1, m2]
    simp [c5, wrap64])
  obtain ⟨ia, icap, rfl, hi⟩ := iu
  obtain ⟨b, off, rfl, hc⟩ := hi 0 (by omega)
  have hc' : w1.cell? ⟨b, off, none⟩ = some (.int .i64 1) := by
    have : w1.cell? ⟨b, off, none⟩ = some (.int .i64 ((M 0 : Nat) : Int)) := hc
    rw [m0] at this
    exact this
  clear hi hc ln b1 m0 m1 m2 CB
  go_wp2_with fail
  refine (unhide CT w1 (Below.refl _ _)).mono ?_
  rw [unhide TT]
  rintro e w2 ⟨rfl, b2⟩
  have B2 := hide (show Below w.heap.size w w2 from ((unhide B1).alloc (unhide B1).size _).trans (b2.mono (by have := (unhide B1).size; simp; omega)))
  clear b2
  go_wp2
  go_ret
  exact ⟨by simp, unhide B2⟩
end Go.Proofs.Ytcfnbbelbadmkaa.Ans
