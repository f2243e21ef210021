/- Contracts: two writers that share no block, written one behind the other. Conditions: the writers lie in memory, their bits are few. -/
import Derived.Test.YtieaglncimfelaaRef
namespace Go.Proofs.Ytieaglncimfelaa.Two
open Go.ChangeShapes Go.WideShapes Go.ChangeAt Go.RowKit Go.Proofs.Ytieaglncimfelaa.Core Go.Proofs.Ytieaglncimfelaa.Foot Go.Proofs.Ytieaglncimfelaa.Add Go.Proofs.Ytieaglncimfelaa.Wri Go.Proofs.Ytieaglncimfelaa.Byt Go.Proofs.Ytieaglncimfelaa.Sam Go.Proofs.Ytieaglncimfelaa.Joi Go.Proofs.Ytieaglncimfelaa.Sep Go.Proofs.Ytieaglncimfelaa.Ref

def Two (w : World) (lo g h V N U M : Nat) : Prop :=
  ∃ u v, Wr w g u V N ∧ Wr w h v U M ∧ Sep w lo (Ft g u) (Ft h v) No No ∧ lo ≤ w.heap.size
theorem Two.symm {w : World} {lo g h V N U M : Nat} (t : Two w lo g h V N U M) : Two w lo h g U M V N := by
  obtain ⟨u, v, h1, h2, h3, h4⟩ := t
  exact ⟨v, u, h2, h1, h3.ba, h4⟩
theorem Two.below {w w' : World} {lo g h V N U M : Nat} (t : Two w lo g h V N U M) (b : Below w.heap.size w w') : Two w' lo g h V N U M := by
  obtain ⟨u, v, h1, h2, h3, h4⟩ := t
  have up := Upd.ofBelow (S := fun _ => False) b
  exact ⟨u, v, h1.keep up (fun _ _ h => h), h2.keep up (fun _ _ h => h), h3.same b.size, Nat.le_trans h4 b.size⟩
theorem Two.drewN {w : World} {lo g h V N U M : Nat} (t : Two w lo g h V N U M) (n : Nat) : Two (w.drewN n) lo g h V N U M := t.below (below_drewN (Below.refl _ _) n)
theorem two_new (w : World) :
    Calls Try.prog 8 #[] w fun e w1 => ∃ g, e = .returned (.pointer (some ⟨g, 0, none⟩)) ∧ Below w.heap.size w w1 ∧
      Calls Try.prog 8 #[] w1 fun e w2 => ∃ h, e = .returned (.pointer (some ⟨h, 0, none⟩)) ∧ Below w.heap.size w w2 ∧ Two w2 w.heap.size g h 0 0 0 0 := by
  refine (new8 w).mono ?_
  rintro e w1 ⟨g, rfl, lg, wr1, b1⟩
  refine ⟨g, rfl, b1, (new8 w1).mono ?_⟩
  rintro e w2 ⟨h, rfl, lh, wr2, b2⟩
  have s1 := b1.size
  have s2 := b2.size
  have g1 := wr1.raw.box.lt
  have g2 := wr2.raw.box.lt
  have f : ∀ g k, Ft g (.slice none 0 0) k → k = g := fun g k hk => by
    rcases hk with hk | hk
    · exact hk
    · simp [Value.ownBlock] at hk
  refine ⟨h, rfl, b1.trans (b2.mono s1), _, _, wr1.keep (Upd.ofBelow (S := fun _ => False) b2) (fun _ _ h => h), wr2, ⟨?_, fun _ _ h => h, fun _ _ h => h, fun _ _ h => h, fun _ _ h => h, fun _ h _ => h, ?_, ?_, fun _ h => h.elim, fun _ h => h.elim⟩, by omega⟩
  · intro k hk hk'
    have := f g k hk
    have := f h k hk'
    omega
  · intro k hk
    have := f g k hk
    omega
  · intro k hk
    have := f h k hk
    omega
theorem two_bits (w : World) (lo g h V N U M x n : Nat) (t : Two w lo g h V N U M) (hn : n ≤ 32) (hx : x < 2 ^ n) (hN : N ≤ 900000) :
    Calls Try.prog 9 #[.pointer (some ⟨g, 0, none⟩), .int .u32 x, .int .i64 n] w fun e w' => e = .returned (.bool true) ∧ Two w' lo g h (V + x * 2 ^ N) (N + n) U M ∧ Below lo w w' := by
  obtain ⟨u, v, h1, h2, h3, h4⟩ := t
  refine (bits_yes g u V N x n w h1 hn hx (by omega)).mono ?_
  rintro e w' ⟨rfl, u', wr', t'⟩
  exact ⟨rfl, ⟨u', v, wr', h2.keep t'.upd (fun k hk hs => h3.ab k hs hk), h3.turnA h4 t'.upd.size (turn_foot t') wr'.raw.lt, Nat.le_trans h4 t'.upd.size⟩, t'.upd.below lo h4 (fun k hk => (h3.a k hk).1)⟩
theorem two_bits2 (w : World) (lo g h V N U M x n : Nat) (t : Two w lo g h V N U M) (hn : n ≤ 32) (hx : x < 2 ^ n) (hN : M ≤ 900000) :
    Calls Try.prog 9 #[.pointer (some ⟨h, 0, none⟩), .int .u32 x, .int .i64 n] w fun e w' => e = .returned (.bool true) ∧ Two w' lo g h V N (U + x * 2 ^ M) (M + n) ∧ Below lo w w' := by
  refine (two_bits w lo h g U M V N x n t.symm hn hx hN).mono ?_
  rintro e w' ⟨rfl, t', b'⟩
  exact ⟨rfl, t'.symm, b'⟩
theorem two_len (w : World) (lo g h V N U M : Nat) (t : Two w lo g h V N U M) (hN : N ≤ 900000) :
    Calls Try.prog 11 #[.pointer (some ⟨g, 0, none⟩)] w fun e w' => e = .returned (.int .i64 N) ∧ ∃ k, w' = w.drewN k := by
  obtain ⟨u, v, h1, h2, h3, h4⟩ := t
  exact len_at g u V N w h1 (by omega)
theorem two_bytes (w : World) (lo g h V N U M : Nat) (t : Two w lo g h V N U M) (hN : N ≤ 900000) :
    Calls Try.prog 10 #[.pointer (some ⟨g, 0, none⟩)] w fun e w' => ∃ v, e = .returned v ∧ Src w' v ((N + 7) / 8) (byt V) ∧ Below w.heap.size w w' := by
  obtain ⟨u, v, h1, h2, h3, h4⟩ := t
  refine (bytes_at g u V N w h1 (by omega)).mono ?_
  rintro e w' ⟨v, rfl, o, b⟩
  exact ⟨v, rfl, src_of_own o, b⟩
end Go.Proofs.Ytieaglncimfelaa.Two
