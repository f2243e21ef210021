/- Contracts: a writer and a slice of bits beside it that share no block. Conditions: the writer lies in memory, its bits are few. -/
import Derived.Test.YtieaglncimfelaaTwo
namespace Go.Proofs.Ytieaglncimfelaa.Pai
open Go.ChangeShapes Go.WideShapes Go.ChangeAt Go.RowKit Go.Proofs.Ytieaglncimfelaa.Core Go.Proofs.Ytieaglncimfelaa.Foot Go.Proofs.Ytieaglncimfelaa.Add Go.Proofs.Ytieaglncimfelaa.Wri Go.Proofs.Ytieaglncimfelaa.Byt Go.Proofs.Ytieaglncimfelaa.Sam Go.Proofs.Ytieaglncimfelaa.Joi Go.Proofs.Ytieaglncimfelaa.Sep Go.Proofs.Ytieaglncimfelaa.Ref Go.Proofs.Ytieaglncimfelaa.Two

/-- Bits b, N of them, and those of v behind them. -/
def ext (b : Nat → Nat) (N v : Nat) : Nat → Nat := fun i => if i < N then b i else v / 2 ^ (i - N) % 2
theorem ext_le (b : Nat → Nat) (hb : ∀ k, b k ≤ 1) (N v : Nat) : ∀ k, ext b N v k ≤ 1 := fun k => by
  unfold ext
  split
  · exact hb k
  · omega
theorem sm_ext (b : Nat → Nat) (N v : Nat) : ∀ j, sm (ext b N v) (N + j) = sm b N + v % 2 ^ j * 2 ^ N
  | 0 => by
    rw [Nat.add_zero, Nat.pow_zero, Nat.mod_one, Nat.zero_mul, Nat.add_zero]
    exact sm_congr _ _ N (fun k hk => by simp [ext, hk])
  | j + 1 => by
    rw [show N + (j + 1) = (N + j) + 1 by omega, sm, sm_ext b N v j]
    have e1 : ext b N v (N + j) = v / 2 ^ j % 2 := by
      unfold ext
      rw [if_neg (by omega), show N + j - N = j by omega]
    have e2 : v % 2 ^ (j + 1) = v % 2 ^ j + 2 ^ j * (v / 2 ^ j % 2) := by rw [Nat.pow_succ, Nat.mod_mul]
    rw [e1, e2, Nat.pow_add, Nat.add_mul]
    have : v / 2 ^ j % 2 * (2 ^ N * 2 ^ j) = 2 ^ j * (v / 2 ^ j % 2) * 2 ^ N := by rw [Nat.mul_comm (2 ^ N), ← Nat.mul_assoc, Nat.mul_comm (v / 2 ^ j % 2)]
    omega
def Pair (w : World) (lo g : Nat) (l : Value) (V N n : Nat) (b : Nat → Nat) : Prop :=
  ∃ u, Wr w g u V N ∧ w.ownsRow 0 5 1 l n (cells b n) ∧ Sep w lo (Ft g u) (Bk l) No No ∧ lo ≤ w.heap.size
theorem Pair.below {w w' : World} {lo g V N n : Nat} {l : Value} {b : Nat → Nat} (t : Pair w lo g l V N n b) (h : Below w.heap.size w w') : Pair w' lo g l V N n b := by
  obtain ⟨u, h1, h2, h3, h4⟩ := t
  have up := Upd.ofBelow (S := fun _ => False) h
  exact ⟨u, h1.keep up (fun _ _ h => h), own_keep h2 up (fun _ _ h => h), h3.same h.size, Nat.le_trans h4 h.size⟩
theorem Pair.drewN {w : World} {lo g V N n : Nat} {l : Value} {b : Nat → Nat} (t : Pair w lo g l V N n b) (m : Nat) : Pair (w.drewN m) lo g l V N n b := t.below (below_drewN (Below.refl _ _) m)
theorem Pair.lo {w : World} {lo g V N n : Nat} {l : Value} {b : Nat → Nat} (t : Pair w lo g l V N n b) : lo ≤ w.heap.size := by
  obtain ⟨u, h1, h2, h3, h4⟩ := t
  exact h4
theorem pair_new (w : World) :
    Calls Try.prog 8 #[] w fun e w1 => ∃ g, e = .returned (.pointer (some ⟨g, 0, none⟩)) ∧ Below w.heap.size w w1 ∧ Pair w1 w.heap.size g (.slice none 0 0) 0 0 0 (fun _ => 0) := by
  refine (new8 w).mono ?_
  rintro e w1 ⟨g, rfl, lg, wr1, b1⟩
  have s1 := b1.size
  have g1 := wr1.raw.box.lt
  have f : ∀ g k, Ft g (.slice none 0 0) k → k = g := fun g k hk => by
    rcases hk with hk | hk
    · exact hk
    · simp [Value.ownBlock] at hk
  refine ⟨g, rfl, b1, _, wr1, World.ownsRow_nil _ _ _ _, ⟨fun k _ h => by simp [Bk, Value.ownBlock] at h, fun _ _ h => h, fun _ _ h => h, fun _ _ h => h, fun _ _ h => h, fun _ h _ => h, ?_, fun k h => by simp [Bk, Value.ownBlock] at h, fun _ h => h.elim, fun _ h => h.elim⟩, by omega⟩
  intro k hk
  have := f g k hk
  omega
theorem pair_bits (w : World) (lo g V N n x m : Nat) (l : Value) (b : Nat → Nat) (t : Pair w lo g l V N n b) (hm : m ≤ 32) (hx : x < 2 ^ m) (hN : N ≤ 900000) :
    Calls Try.prog 9 #[.pointer (some ⟨g, 0, none⟩), .int .u32 x, .int .i64 m] w fun e w' => e = .returned (.bool true) ∧ Pair w' lo g l (V + x * 2 ^ N) (N + m) n b ∧ Below lo w w' := by
  obtain ⟨u, h1, h2, h3, h4⟩ := t
  refine (bits_yes g u V N x m w h1 hm hx (by omega)).mono ?_
  rintro e w' ⟨rfl, u', wr', t'⟩
  exact ⟨rfl, ⟨u', wr', own_keep h2 t'.upd (fun k hk hs => h3.ab k hs hk), h3.turnA h4 t'.upd.size (turn_foot t') wr'.raw.lt, Nat.le_trans h4 t'.upd.size⟩, t'.upd.below lo h4 (fun k hk => (h3.a k hk).1)⟩
theorem pair_len (w : World) (lo g V N n : Nat) (l : Value) (b : Nat → Nat) (t : Pair w lo g l V N n b) (hN : N ≤ 900000) :
    Calls Try.prog 11 #[.pointer (some ⟨g, 0, none⟩)] w fun e w' => e = .returned (.int .i64 N) ∧ ∃ k, w' = w.drewN k := by
  obtain ⟨u, h1, h2, h3, h4⟩ := t
  exact len_at g u V N w h1 (by omega)
theorem pair_bytes (w : World) (lo g V N n : Nat) (l : Value) (b : Nat → Nat) (t : Pair w lo g l V N n b) (hN : N ≤ 900000) :
    Calls Try.prog 10 #[.pointer (some ⟨g, 0, none⟩)] w fun e w' => ∃ v, e = .returned v ∧ w'.ownsRow w.heap.size 5 1 v ((N + 7) / 8) (cells (byt V) ((N + 7) / 8)) ∧ Below w.heap.size w w' := by
  obtain ⟨u, h1, h2, h3, h4⟩ := t
  exact bytes_at g u V N w h1 (by omega)
theorem pair_src {w : World} {lo g V N n : Nat} {l : Value} {b : Nat → Nat} (t : Pair w lo g l V N n b) : Src w l n b := by
  obtain ⟨u, h1, h2, h3, h4⟩ := t
  exact src_of_own h2
theorem pair_slice {w : World} {lo g V N n : Nat} {l : Value} {b : Nat → Nat} (t : Pair w lo g l V N n b) : ∃ a cap, l = .slice a n cap := by
  obtain ⟨u, h1, h2, h3, h4⟩ := t
  exact own_slice h2
/-- One bit more in the slice. -/
theorem pair_one {w w' : World} {lo g V N n : Nat} {l l' : Value} {b : Nat → Nat} {o : Obj} (x : Int) (t : Pair w lo g l V N n b) (hx : x = (b n : Int))
    (own : w'.ownsRow 0 5 1 l' (n + 1) (cells b n ++ [.int .u8 x])) (grow : (w.alloc o).grownBy w' l.ownBlock) (stay : Stays (w.alloc o) w' l l' n) : Pair w' lo g l' V N (n + 1) b ∧ Below lo w w' := by
  obtain ⟨u, h1, h2, h3, h4⟩ := t
  have up : Upd (Bk l) w w' := upd_of_grown (w := w) (o := o) ⟨grow.os, grow.tape, grow.output, grow.size, grow.block⟩ (fun k hk => hk)
  rw [hx, ← cells_succ] at own
  refine ⟨⟨u, h1.keep up (fun k hk hs => h3.ab k hk hs), own, h3.turnB h4 up.size (fun k hk => (stay.foot k hk).elim .inl (fun h => .inr (by simp at h; omega))) (fun k hk => (own.lt k hk).2), Nat.le_trans h4 up.size⟩, up.below lo h4 (fun k hk => (h3.b k hk).1)⟩
theorem pair_own {w : World} {lo g V N n : Nat} {l : Value} {b : Nat → Nat} (t : Pair w lo g l V N n b) : w.ownsRow 0 5 1 l n (cells b n) := by
  obtain ⟨u, h1, h2, h3, h4⟩ := t
  exact h2
theorem pair_ext {w : World} {lo g V N n : Nat} {l : Value} {b : Nat → Nat} (t : Pair w lo g l V N n b) (c : Nat → Nat) (h : ∀ k, k < n → b k = c k) : Pair w lo g l V N n c := by
  obtain ⟨u, h1, h2, h3, h4⟩ := t
  exact ⟨u, h1, by rw [← cells_congr b c n h]; exact h2, h3, h4⟩
end Go.Proofs.Ytieaglncimfelaa.Pai
