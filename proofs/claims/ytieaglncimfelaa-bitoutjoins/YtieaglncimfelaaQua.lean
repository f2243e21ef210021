/- Contracts: two writers and two slices of bits that share no block. Conditions: the writers lie in memory, their bits are few. -/
import Derived.Test.YtieaglncimfelaaPai
namespace Go.Proofs.Ytieaglncimfelaa.Qua
open Go.ChangeShapes Go.WideShapes Go.ChangeAt Go.RowKit Go.Proofs.Ytieaglncimfelaa.Core Go.Proofs.Ytieaglncimfelaa.Foot Go.Proofs.Ytieaglncimfelaa.Add Go.Proofs.Ytieaglncimfelaa.Wri Go.Proofs.Ytieaglncimfelaa.Byt Go.Proofs.Ytieaglncimfelaa.Sam Go.Proofs.Ytieaglncimfelaa.Joi Go.Proofs.Ytieaglncimfelaa.Sep Go.Proofs.Ytieaglncimfelaa.Ref Go.Proofs.Ytieaglncimfelaa.Two Go.Proofs.Ytieaglncimfelaa.Pai

/-- Bits b, n of them, and bits c behind them. -/
def cat (b : Nat → Nat) (n : Nat) (c : Nat → Nat) : Nat → Nat := fun i => if i < n then b i else c (i - n)
theorem cat_le (b c : Nat → Nat) (hb : ∀ k, b k ≤ 1) (hc : ∀ k, c k ≤ 1) (n : Nat) : ∀ k, cat b n c k ≤ 1 := fun k => by
  unfold cat
  split
  · exact hb k
  · exact hc _
theorem cells_cat (b c : Nat → Nat) (n k : Nat) : cells b n ++ cells c k = cells (cat b n c) (n + k) := by
  induction k with
  | zero =>
    rw [show cells c 0 = [] from rfl, List.append_nil]
    exact cells_congr _ _ n (fun i hi => by simp [cat, hi])
  | succ k ih =>
    rw [cells_succ, ← List.append_assoc, ih, show n + (k + 1) = (n + k) + 1 by omega, cells_succ]
    have : cat b n c (n + k) = c k := by
      unfold cat
      rw [if_neg (by omega), show n + k - n = k by omega]
    rw [this]
theorem sm_cat (b c : Nat → Nat) (n : Nat) : ∀ k, sm (cat b n c) (n + k) = sm b n + sm c k * 2 ^ n
  | 0 => by
    rw [Nat.add_zero, sm, Nat.zero_mul, Nat.add_zero]
    exact sm_congr _ _ n (fun k hk => by simp [cat, hk])
  | k + 1 => by
    rw [show n + (k + 1) = (n + k) + 1 by omega, sm, sm_cat b c n k, sm]
    have e1 : cat b n c (n + k) = c k := by
      unfold cat
      rw [if_neg (by omega), show n + k - n = k by omega]
    rw [e1, Nat.pow_add, Nat.add_mul]
    have : c k * (2 ^ n * 2 ^ k) = c k * 2 ^ k * 2 ^ n := by rw [Nat.mul_comm (2 ^ n), Nat.mul_assoc]
    omega
def Quad (w : World) (lo g h : Nat) (l m : Value) (V N U M n k : Nat) (b c : Nat → Nat) : Prop :=
  ∃ u v, Wr w g u V N ∧ Wr w h v U M ∧ w.ownsRow 0 5 1 l n (cells b n) ∧ w.ownsRow 0 5 1 m k (cells c k) ∧ Sep w lo (Ft g u) (Ft h v) (Bk l) (Bk m) ∧ lo ≤ w.heap.size
theorem Quad.symm {w : World} {lo g h V N U M n k : Nat} {l m : Value} {b c : Nat → Nat} (t : Quad w lo g h l m V N U M n k b c) : Quad w lo h g m l U M V N k n c b := by
  obtain ⟨u, v, h1, h2, h3, h4, h5, h6⟩ := t
  exact ⟨v, u, h2, h1, h4, h3, h5.ba.rot.rot.ba.rot.rot, h6⟩
theorem Quad.below {w w' : World} {lo g h V N U M n k : Nat} {l m : Value} {b c : Nat → Nat} (t : Quad w lo g h l m V N U M n k b c) (bl : Below w.heap.size w w') : Quad w' lo g h l m V N U M n k b c := by
  obtain ⟨u, v, h1, h2, h3, h4, h5, h6⟩ := t
  have up := Upd.ofBelow (S := fun _ => False) bl
  exact ⟨u, v, h1.keep up (fun _ _ h => h), h2.keep up (fun _ _ h => h), own_keep h3 up (fun _ _ h => h), own_keep h4 up (fun _ _ h => h), h5.same bl.size, Nat.le_trans h6 bl.size⟩
theorem Quad.drewN {w : World} {lo g h V N U M n k : Nat} {l m : Value} {b c : Nat → Nat} (t : Quad w lo g h l m V N U M n k b c) (i : Nat) : Quad (w.drewN i) lo g h l m V N U M n k b c := t.below (below_drewN (Below.refl _ _) i)
theorem Quad.ext {w : World} {lo g h V N U M n k : Nat} {l m : Value} {b c : Nat → Nat} (t : Quad w lo g h l m V N U M n k b c) (d : Nat → Nat) (hd : ∀ i, i < n → b i = d i) : Quad w lo g h l m V N U M n k d c := by
  obtain ⟨u, v, h1, h2, h3, h4, h5, h6⟩ := t
  exact ⟨u, v, h1, h2, by rw [← cells_congr b d n hd]; exact h3, h4, h5, h6⟩
theorem Quad.own {w : World} {lo g h V N U M n k : Nat} {l m : Value} {b c : Nat → Nat} (t : Quad w lo g h l m V N U M n k b c) : w.ownsRow 0 5 1 l n (cells b n) := by
  obtain ⟨u, v, h1, h2, h3, h4, h5, h6⟩ := t
  exact h3
theorem Quad.lo {w : World} {lo g h V N U M n k : Nat} {l m : Value} {b c : Nat → Nat} (t : Quad w lo g h l m V N U M n k b c) : lo ≤ w.heap.size := by
  obtain ⟨u, v, h1, h2, h3, h4, h5, h6⟩ := t
  exact h6
theorem Quad.of_two {w : World} {lo g h V N U M : Nat} (t : Two w lo g h V N U M) (b c : Nat → Nat) : Quad w lo g h (.slice none 0 0) (.slice none 0 0) V N U M 0 0 b c := by
  obtain ⟨u, v, h1, h2, h3, h4⟩ := t
  have no : ∀ k, ¬ Bk (.slice none 0 0) k := fun k h => by simp [Bk, Value.ownBlock] at h
  exact ⟨u, v, h1, h2, World.ownsRow_nil _ _ _ _, World.ownsRow_nil _ _ _ _, ⟨h3.ab, fun k _ h => no k h, fun k _ h => no k h, fun k _ h => no k h, fun k _ h => no k h, fun k _ h => no k h, h3.a, h3.b, fun k h => (no k h).elim, fun k h => (no k h).elim⟩, h4⟩
theorem quad_turn {w w' : World} {lo g h U M n k V' N' i : Nat} {l m u v u' : Value} {b c : Nat → Nat} (h2 : Wr w h v U M) (h3 : w.ownsRow 0 5 1 l n (cells b n)) (h4 : w.ownsRow 0 5 1 m k (cells c k))
    (h5 : Sep w lo (Ft g u) (Ft h v) (Bk l) (Bk m)) (h6 : lo ≤ w.heap.size) (wr' : Wr w' g u' V' N') (t' : Turn g u u' i w w') : Quad w' lo g h l m V' N' U M n k b c ∧ Below lo w w' :=
  ⟨⟨u', v, wr', h2.keep t'.upd (fun k hk hs => h5.ab k hs hk), own_keep h3 t'.upd (fun k hk hs => h5.ac k hs hk), own_keep h4 t'.upd (fun k hk hs => h5.ad k hs hk), h5.turnA h6 t'.upd.size (turn_foot t') wr'.raw.lt, Nat.le_trans h6 t'.upd.size⟩, t'.upd.below lo h6 (fun k hk => (h5.a k hk).1)⟩
theorem quad_bits (w : World) (lo g h V N U M n k x j : Nat) (l m : Value) (b c : Nat → Nat) (t : Quad w lo g h l m V N U M n k b c) (hj : j ≤ 32) (hx : x < 2 ^ j) (hN : N ≤ 800000) :
    Calls Try.prog 9 #[.pointer (some ⟨g, 0, none⟩), .int .u32 x, .int .i64 j] w fun e w' => e = .returned (.bool true) ∧ Quad w' lo g h l m (V + x * 2 ^ N) (N + j) U M n k b c ∧ Below lo w w' := by
  obtain ⟨u, v, h1, h2, h3, h4, h5, h6⟩ := t
  refine (bits_yes g u V N x j w h1 hj hx (by omega)).mono ?_
  rintro e w' ⟨rfl, u', wr', t'⟩
  exact ⟨rfl, quad_turn h2 h3 h4 h5 h6 wr' t'⟩
theorem quad_join_self (w : World) (lo g h V N U M n k : Nat) (l m : Value) (b c : Nat → Nat) (t : Quad w lo g h l m V N U M n k b c) (hN : N ≤ 400000) :
    Calls Try.prog 14 #[.pointer (some ⟨g, 0, none⟩), .pointer (some ⟨g, 0, none⟩)] w fun e w' => e = .returned (.tuple #[]) ∧ Quad w' lo g h l m (V + V * 2 ^ N) (N + N) U M n k b c ∧ Below lo w w' := by
  obtain ⟨u, v, h1, h2, h3, h4, h5, h6⟩ := t
  refine (join_raw g g u u V N V N w h1 h1 (by omega) (fun b hb => ⟨fun e => h1.raw.ne (e ▸ hb), fun _ => Nat.le_refl _⟩)).mono ?_
  rintro e w' ⟨rfl, u', wr', t'⟩
  exact ⟨rfl, quad_turn h2 h3 h4 h5 h6 wr' t'⟩
theorem quad_join (w : World) (lo g h V N U M n k : Nat) (l m : Value) (b c : Nat → Nat) (t : Quad w lo g h l m V N U M n k b c) (hN : N ≤ 400000) (hM : M ≤ 400000) :
    Calls Try.prog 14 #[.pointer (some ⟨g, 0, none⟩), .pointer (some ⟨h, 0, none⟩)] w fun e w' => e = .returned (.tuple #[]) ∧ Quad w' lo g h l m (V + U * 2 ^ N) (N + M) U M n k b c ∧ Below lo w w' := by
  obtain ⟨u, v, h1, h2, h3, h4, h5, h6⟩ := t
  refine (join_raw g h v u V N U M w h1 h2 (by omega) (fun b hb => ⟨fun e => h5.ab g (.inl rfl) (.inr (e ▸ hb)), fun hu => (h5.ab b (.inr hu) (.inr hb)).elim⟩)).mono ?_
  rintro e w' ⟨rfl, u', wr', t'⟩
  exact ⟨rfl, quad_turn h2 h3 h4 h5 h6 wr' t'⟩
theorem quad_len (w : World) (lo g h V N U M n k : Nat) (l m : Value) (b c : Nat → Nat) (t : Quad w lo g h l m V N U M n k b c) (hN : N ≤ 900000) :
    Calls Try.prog 11 #[.pointer (some ⟨g, 0, none⟩)] w fun e w' => e = .returned (.int .i64 N) ∧ ∃ i, w' = w.drewN i := by
  obtain ⟨u, v, h1, h2, h3, h4, h5, h6⟩ := t
  exact len_at g u V N w h1 (by omega)
theorem quad_bytes (w : World) (lo g h V N U M n k : Nat) (l m : Value) (b c : Nat → Nat) (t : Quad w lo g h l m V N U M n k b c) (hN : N ≤ 900000) :
    Calls Try.prog 10 #[.pointer (some ⟨g, 0, none⟩)] w fun e w' => ∃ v, e = .returned v ∧ Src w' v ((N + 7) / 8) (byt V) ∧ Below w.heap.size w w' := by
  obtain ⟨u, v, h1, h2, h3, h4, h5, h6⟩ := t
  refine (bytes_at g u V N w h1 (by omega)).mono ?_
  rintro e w' ⟨v, rfl, o, bl⟩
  exact ⟨v, rfl, src_of_own o, bl⟩
/-- More bits in the slice l. -/
theorem quad_more {w w' : World} {lo g h V N U M n k n' : Nat} {l m l' : Value} {b c b' : Nat → Nat} (t : Quad w lo g h l m V N U M n k b c)
    (own : w'.ownsRow 0 5 1 l' n' (cells b' n')) (grow : w.grownBy w' l.ownBlock) (stay : Stays w w' l l' n) : Quad w' lo g h l' m V N U M n' k b' c ∧ Below lo w w' := by
  obtain ⟨u, v, h1, h2, h3, h4, h5, h6⟩ := t
  have up : Upd (Bk l) w w' := ⟨grow.os, grow.tape, grow.output, grow.size, fun k hk hs => grow.block k hk (fun e => hs e.symm)⟩
  exact ⟨⟨u, v, h1.keep up (fun k hk hs => h5.ac k hk hs), h2.keep up (fun k hk hs => h5.bc k hk hs), own, own_keep h4 up (fun k hk hs => h5.cd k hs hk), h5.turnC h6 up.size (fun k hk => stay.foot k hk) (fun k hk => (own.lt k hk).2), Nat.le_trans h6 up.size⟩, up.below lo h6 (fun k hk => (h5.c k hk).1)⟩
theorem quad_one {w w' : World} {lo g h V N U M n k : Nat} {l m l' : Value} {b c : Nat → Nat} {o : Obj} (x : Int) (t : Quad w lo g h l m V N U M n k b c) (hx : x = (b n : Int))
    (own : w'.ownsRow 0 5 1 l' (n + 1) (cells b n ++ [.int .u8 x])) (grow : (w.alloc o).grownBy w' l.ownBlock) (stay : Stays (w.alloc o) w' l l' n) : Quad w' lo g h l' m V N U M (n + 1) k b c ∧ Below lo w w' := by
  rw [hx, ← cells_succ] at own
  have ba : Below w.heap.size w (w.alloc o) := (Below.refl _ w).alloc (Nat.le_refl _) o
  obtain ⟨q, bl⟩ := quad_more (t.below ba) own grow stay
  exact ⟨q, (ba.mono t.lo).trans bl⟩
end Go.Proofs.Ytieaglncimfelaa.Qua
