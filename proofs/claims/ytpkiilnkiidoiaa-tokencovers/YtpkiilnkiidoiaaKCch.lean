/- Contracts: token.mayBe, token.cacheOf, and a cache's Add, Find, Get behind a pointer that may be nil. Conditions: the bits are from 0 to 11. -/
import Derived.Test.YtpkiilnkiidoiaaKMem
namespace Go.Proofs.Ytpkiilnkiidoiaa.KCch
set_option linter.unusedVariables false
open Go.ChangeShapes Go.WideShapes Go.ChangeAt Go.RowKit Go.Proofs.Ytpkiilnkiidoiaa.Core Go.Proofs.Ytpkiilnkiidoiaa.CNum Go.Proofs.Ytpkiilnkiidoiaa.CSlo Go.Proofs.Ytpkiilnkiidoiaa.CCac Go.Proofs.Ytpkiilnkiidoiaa.KNum Go.Proofs.Ytpkiilnkiidoiaa.KMem

theorem may17_yes (b : Int) (w : World) (h0 : 0 ≤ b) (h1 : b ≤ 11) : Calls Try.prog 17 #[.int .i64 b] w fun e w' => e = .returned (.bool true) ∧ w' = w := by
  go_enter Try.func17, Try.ntmps17
  go_wp2
  go_ret
  exact ⟨rfl, rfl⟩
theorem may17_no (b : Int) (w : World) (h : b < 0 ∨ 11 < b) : Calls Try.prog 17 #[.int .i64 b] w fun e w' => e = .returned (.bool false) ∧ w' = w := by
  rcases h with h | h
  · go_enter Try.func17, Try.ntmps17
    go_wp2
    go_ret
    exact ⟨rfl, rfl⟩
  · have h' : 0 ≤ b := by omega
    have h2 : ¬ b ≤ 11 := by omega
    clear h
    go_enter Try.func17, Try.ntmps17
    go_wp2
    go_ret
    exact ⟨rfl, rfl⟩
/-- A new cache of b bits, or none. -/
structure NewC (w : World) (b : Nat) (e : Ending) (cp : Value) (w' : World) : Prop where
  ret : e = .returned cp
  ca : Cp w.heap.size w'.heap.size w' b cp (cf b [])
  bel : Below w.heap.size w w'
theorem new18_zero (w : World) : Calls Try.prog 18 #[.int .i64 0] w fun e w' => e = .returned (.pointer none) ∧ w' = w := by
  go_enter Try.func18, Try.ntmps18
  go_wp2_with fail
  refine (new7_no 0 w (by omega)).mono ?_
  rintro e w' ⟨rfl, rfl⟩
  go_wp2
  go_ret
  exact ⟨rfl, rfl⟩
theorem new18_pos (b : Nat) (w : World) (h0 : 1 ≤ b) (h1 : b ≤ 11) : Calls Try.prog 18 #[.int .i64 b] w fun e w' => NewC w b e (.pointer (some ⟨w.heap.size + 1, 0, none⟩)) w' := by
  have H := hide (new7 b w h0 h1)
  clear h0 h1
  go_enter Try.func18, Try.ntmps18
  go_wp2_with fail
  refine (unhide H).mono ?_
  rintro e w' ⟨rfl, sz, C, bel⟩
  have HH := hide (And.intro sz (And.intro C bel))
  clear sz C bel
  go_wp2
  go_ret
  obtain ⟨sz, C, bel⟩ := unhide HH
  exact ⟨rfl, .inr ⟨_, _, rfl, C, by omega, by omega, by omega, by omega⟩, bel⟩
theorem new18 (b : Nat) (w : World) (h : b ≤ 11) : Calls Try.prog 18 #[.int .i64 b] w fun e w' => ∃ cp, NewC w b e cp w' := by
  rcases Nat.eq_zero_or_pos b with h0 | h0
  · subst h0
    exact (new18_zero w).mono fun e w' ⟨h1, h2⟩ => by subst h2; exact ⟨_, h1, .inl ⟨rfl, rfl⟩, Below.refl _ _⟩
  · exact (new18_pos b w h0 h).mono fun e w' h => ⟨_, h⟩
/-- What a cache's Add does: only what belongs to it may turn. -/
structure CAdd (B g : Nat) (w : World) (b : Nat) (cp : Value) (f : Nat → Nat) (a : Nat) (w' : World) : Prop where
  ca : Cp B g w' b cp (upd f (sl a b) a)
  size : w'.heap.size = w.heap.size
  upd : Upd (fun k => B ≤ k ∧ k < g) w w'
theorem cadd34 {B g b : Nat} {w : World} {cp : Value} {f : Nat → Nat} (h : Cp B g w b cp f) (a : Nat) : Calls Try.prog 34 #[cp, .int .u32 a] w fun e w' => e = .returned (.tuple #[]) ∧ CAdd B g w b cp f a w' := by
  rcases h with ⟨h0, rfl⟩ | ⟨gc, rc, rfl, C, h1, h2, h3, h4⟩
  · exact (add11_nil a w).mono fun e w' ⟨h1, h2⟩ => by subst h2; exact ⟨h1, .inl ⟨h0, rfl⟩, rfl, Upd.refl _ _⟩
  · exact (add11 gc rc b (2 ^ b) f a w C).mono fun e w' ⟨e1, e2⟩ => by
      subst e2
      exact ⟨e1, .inr ⟨gc, rc, rfl, C.set _ _, h1, h2, h3, h4⟩, by simp [World.setCell], (Upd.refl _ w).setCell (p := ⟨rc, sl a b, none⟩) ⟨h3, h4⟩ _⟩
theorem cfind33_yes {B g b : Nat} {w : World} {cp : Value} {f : Nat → Nat} (h : Cp B g w b cp f) (a : Nat) (hb : b ≠ 0) (hf : f (sl a b) = a) : Calls Try.prog 33 #[cp, .int .u32 a] w fun e w' => e = .returned (.tuple #[.int .i64 (sl a b : Nat), .bool true]) ∧ w' = w := by
  rcases h with ⟨h0, rfl⟩ | ⟨gc, rc, rfl, C, h1, h2, h3, h4⟩
  · exact absurd h0 hb
  · exact find9_yes gc rc b (2 ^ b) f a w C hf
theorem cfind33_no {B g b : Nat} {w : World} {cp : Value} {f : Nat → Nat} (h : Cp B g w b cp f) (a : Nat) (hf : b = 0 ∨ f (sl a b) ≠ a) : Calls Try.prog 33 #[cp, .int .u32 a] w fun e w' => e = .returned (.tuple #[.int .i64 0, .bool false]) ∧ w' = w := by
  rcases h with ⟨h0, rfl⟩ | ⟨gc, rc, rfl, C, h1, h2, h3, h4⟩
  · exact find9_nil a w
  · refine find9_no gc rc b (2 ^ b) f a w C (hf.elim (fun e => ?_) id)
    have := C.b0
    omega
theorem cget31_yes {B g b : Nat} {w : World} {cp : Value} {f : Nat → Nat} (h : Cp B g w b cp f) (i : Int) (h0 : 0 ≤ i) (h1 : i < pl b) : Calls Try.prog 31 #[cp, .int .i64 i] w fun e w' => e = .returned (.tuple #[.int .u32 (f i.toNat), .bool true]) ∧ w' = w := by
  obtain ⟨i, rfl⟩ := Int.eq_ofNat_of_zero_le h0
  rcases h with ⟨hb, rfl⟩ | ⟨gc, rc, rfl, C, _, _, _, _⟩
  · subst hb
    rw [pl_zero] at h1; omega
  · rw [pl_pos C.b0] at h1
    exact get12 gc rc b (2 ^ b) f i w C (by omega)
theorem cget31_no {B g b : Nat} {w : World} {cp : Value} {f : Nat → Nat} (h : Cp B g w b cp f) (i : Int) (h0 : i < 0 ∨ pl b ≤ i) : Calls Try.prog 31 #[cp, .int .i64 i] w fun e w' => e = .returned (.tuple #[.int .u32 0, .bool false]) ∧ w' = w := by
  rcases h with ⟨hb, rfl⟩ | ⟨gc, rc, rfl, C, _, _, _, _⟩
  · exact get12_nil i w
  · rw [pl_pos C.b0] at h0
    exact get12_no gc rc b (2 ^ b) f i w C h0
theorem Td.cadd {B base g b : Nat} {w w' : World} {cp v : Value} {l : List Nat} {f : Nat → Nat} {a : Nat} (h : Td B base w g b cp v l f) (u : CAdd B g w b cp f a w') : Td B base w' g b cp v l (upd f (sl a b) a) ∧ Below B w w' :=
  ⟨⟨(u.upd.block g h.box.lt (fun c => by omega)).trans h.box, own_same h.own (fun k h1 h2 => u.upd.block k h2 (fun c => by have := h.g1; omega)), u.ca, h.g0, h.g1, by rw [u.size]; exact h.hb⟩,
    u.upd.below B (by have := h.box.lt; have := h.g0; omega) (fun k c => c.1)⟩
theorem Cv.cadd {B base g b : Nat} {w w' : World} {cp v : Value} {ts : List Tk} {f : Nat → Nat} {a : Nat} (h : Cv B base w g b cp v ts f) (u : CAdd B g w b cp f a w') : Cv B base w' g b cp v ts (upd f (sl a b) a) ∧ Below B w w' :=
  ⟨⟨(u.upd.block g h.box.lt (fun c => by omega)).trans h.box, own_same h.own (fun k h1 h2 => u.upd.block k h2 (fun c => by have := h.g1; omega)), u.ca, h.g0, h.g1, by rw [u.size]; exact h.hb⟩,
    u.upd.below B (by have := h.box.lt; have := h.g0; omega) (fun k c => c.1)⟩
end Go.Proofs.Ytpkiilnkiidoiaa.KCch
