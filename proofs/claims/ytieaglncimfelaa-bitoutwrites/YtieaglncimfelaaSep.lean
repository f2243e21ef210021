/- Plain facts: things that share no block, and stay so when one of them grows; a number by its bits. Contract: the document's own bytes of bits (ref.Bytes). Conditions: the slice reads as bits, and they are few. -/
import Derived.Test.YtieaglncimfelaaJoi
namespace Go.Proofs.Ytieaglncimfelaa.Sep
open Go.ChangeShapes Go.WideShapes Go.ChangeAt Go.RowKit Go.Proofs.Ytieaglncimfelaa.Core Go.Proofs.Ytieaglncimfelaa.Foot Go.Proofs.Ytieaglncimfelaa.Add Go.Proofs.Ytieaglncimfelaa.Wri Go.Proofs.Ytieaglncimfelaa.Byt Go.Proofs.Ytieaglncimfelaa.Sam Go.Proofs.Ytieaglncimfelaa.Joi

/-- Four things that share no block, all from lo on. -/
structure Sep (w : World) (lo : Nat) (A B C D : Nat → Prop) : Prop where
  ab : ∀ k, A k → ¬ B k
  ac : ∀ k, A k → ¬ C k
  ad : ∀ k, A k → ¬ D k
  bc : ∀ k, B k → ¬ C k
  bd : ∀ k, B k → ¬ D k
  cd : ∀ k, C k → ¬ D k
  a : ∀ k, A k → lo ≤ k ∧ k < w.heap.size
  b : ∀ k, B k → lo ≤ k ∧ k < w.heap.size
  c : ∀ k, C k → lo ≤ k ∧ k < w.heap.size
  d : ∀ k, D k → lo ≤ k ∧ k < w.heap.size
theorem Sep.ba {w : World} {lo : Nat} {A B C D : Nat → Prop} (h : Sep w lo A B C D) : Sep w lo B A C D :=
  ⟨fun k x y => h.ab k y x, h.bc, h.bd, h.ac, h.ad, h.cd, h.b, h.a, h.c, h.d⟩
theorem Sep.rot {w : World} {lo : Nat} {A B C D : Nat → Prop} (h : Sep w lo A B C D) : Sep w lo B C D A :=
  ⟨h.bc, h.bd, fun k x y => h.ab k y x, h.cd, fun k x y => h.ac k y x, fun k x y => h.ad k y x, h.b, h.c, h.d, h.a⟩
theorem Sep.turnA {w w' : World} {lo : Nat} {A A' B C D : Nat → Prop} (h : Sep w lo A B C D) (hlo : lo ≤ w.heap.size) (hs : w.heap.size ≤ w'.heap.size)
    (hA : ∀ k, A' k → A k ∨ w.heap.size ≤ k) (hlt : ∀ k, A' k → k < w'.heap.size) : Sep w' lo A' B C D := by
  have far : ∀ {X : Nat → Prop}, (∀ k, A k → ¬ X k) → (∀ k, X k → lo ≤ k ∧ k < w.heap.size) → ∀ k, A' k → ¬ X k := fun hx hb k hk hX => by
    rcases hA k hk with h1 | h1
    · exact hx k h1 hX
    · have := (hb k hX).2; omega
  have up : ∀ {X : Nat → Prop}, (∀ k, X k → lo ≤ k ∧ k < w.heap.size) → ∀ k, X k → lo ≤ k ∧ k < w'.heap.size := fun hb k hk => ⟨(hb k hk).1, Nat.lt_of_lt_of_le (hb k hk).2 hs⟩
  refine ⟨far h.ab h.b, far h.ac h.c, far h.ad h.d, h.bc, h.bd, h.cd, fun k hk => ⟨?_, hlt k hk⟩, up h.b, up h.c, up h.d⟩
  rcases hA k hk with h1 | h1
  · exact (h.a k h1).1
  · omega
theorem Sep.turnB {w w' : World} {lo : Nat} {A B B' C D : Nat → Prop} (h : Sep w lo A B C D) (hlo : lo ≤ w.heap.size) (hs : w.heap.size ≤ w'.heap.size)
    (hB : ∀ k, B' k → B k ∨ w.heap.size ≤ k) (hlt : ∀ k, B' k → k < w'.heap.size) : Sep w' lo A B' C D := (h.rot.turnA hlo hs hB hlt).rot.rot.rot
theorem Sep.turnC {w w' : World} {lo : Nat} {A B C C' D : Nat → Prop} (h : Sep w lo A B C D) (hlo : lo ≤ w.heap.size) (hs : w.heap.size ≤ w'.heap.size)
    (hC : ∀ k, C' k → C k ∨ w.heap.size ≤ k) (hlt : ∀ k, C' k → k < w'.heap.size) : Sep w' lo A B C' D := (h.rot.rot.turnA hlo hs hC hlt).rot.rot
theorem Sep.turnD {w w' : World} {lo : Nat} {A B C D D' : Nat → Prop} (h : Sep w lo A B C D) (hlo : lo ≤ w.heap.size) (hs : w.heap.size ≤ w'.heap.size)
    (hD : ∀ k, D' k → D k ∨ w.heap.size ≤ k) (hlt : ∀ k, D' k → k < w'.heap.size) : Sep w' lo A B C D' := (h.rot.rot.rot.turnA hlo hs hD hlt).rot
theorem Sep.same {w w' : World} {lo : Nat} {A B C D : Nat → Prop} (h : Sep w lo A B C D) (hs : w.heap.size ≤ w'.heap.size) : Sep w' lo A B C D :=
  ⟨h.ab, h.ac, h.ad, h.bc, h.bd, h.cd, fun k x => ⟨(h.a k x).1, Nat.lt_of_lt_of_le (h.a k x).2 hs⟩, fun k x => ⟨(h.b k x).1, Nat.lt_of_lt_of_le (h.b k x).2 hs⟩, fun k x => ⟨(h.c k x).1, Nat.lt_of_lt_of_le (h.c k x).2 hs⟩, fun k x => ⟨(h.d k x).1, Nat.lt_of_lt_of_le (h.d k x).2 hs⟩⟩
/-- The block of a slice. -/
def Bk (l : Value) (k : Nat) : Prop := l.ownBlock = some k
def No (_ : Nat) : Prop := False
theorem turn_foot {g n : Nat} {u u' : Value} {w w' : World} (t : Turn g u u' n w w') : ∀ k, Ft g u' k → Ft g u k ∨ w.heap.size ≤ k := by
  rintro k (rfl | hk)
  · exact .inl (.inl rfl)
  · exact (t.stays.foot k hk).elim (fun h => .inl (.inr h)) .inr
theorem own_keep {S : Nat → Prop} {w w' : World} {v : Value} {n : Nat} {xs : List Value} (h : w.ownsRow 0 5 1 v n xs) (u : Upd S w w') (hs : ∀ k, Bk v k → ¬ S k) : w'.ownsRow 0 5 1 v n xs := by
  refine ⟨h.1, ?_⟩
  rcases h.2 with h2 | ⟨b, cap, cur, rfl, l0, hb, r⟩
  · exact .inl h2
  · exact .inr ⟨b, cap, cur, rfl, l0, (u.block b (Array.getElem?_eq_some_iff.1 hb).1 (hs b rfl)).trans hb, r⟩
theorem below_drewN {B : Nat} {a w : World} (h : Below B a w) (n : Nat) : Below B a (w.drewN n) := ⟨h.os, h.tape, h.output, h.size, h.block⟩

/-- The number of n bits, the first one lowest. -/
def sm (b : Nat → Nat) : Nat → Nat
  | 0 => 0
  | n + 1 => sm b n + b n * 2 ^ n
theorem sm_lt (b : Nat → Nat) (hb : ∀ k, b k ≤ 1) : ∀ n, sm b n < 2 ^ n
  | 0 => by simp [sm]
  | n + 1 => by
    have h := sm_lt b hb n
    have h1 : b n * 2 ^ n ≤ 1 * 2 ^ n := Nat.mul_le_mul_right _ (hb n)
    rw [sm, Nat.pow_succ]; omega
theorem sm_congr (b c : Nat → Nat) : ∀ n, (∀ k, k < n → b k = c k) → sm b n = sm c n
  | 0, _ => rfl
  | n + 1, h => by rw [sm, sm, sm_congr b c n (fun k hk => h k (by omega)), h n (by omega)]
theorem byt_top (V K : Nat) (h : V < 2 ^ (8 * K)) : byt V K = 0 := by
  unfold byt
  rw [Nat.div_eq_of_lt h]
theorem byt_add (V k : Nat) (h : V < 2 ^ k) : byt (V + 2 ^ k) (k / 8) = byt V (k / 8) + 2 ^ (k % 8) ∧ byt V (k / 8) < 2 ^ (k % 8) := by
  have h1 := rest_lt V k h
  have h2 := rest_add V 1 k
  rw [Nat.one_mul, Nat.one_mul] at h2
  have h3 : (2 : Nat) ^ (k % 8) ≤ 2 ^ 7 := Nat.pow_le_pow_right (by omega) (by omega)
  have h4 : (2 : Nat) ^ 7 = 128 := by decide
  unfold byt
  rw [h2]
  clear h2 h
  generalize V / 2 ^ (8 * (k / 8)) = x at *
  generalize 2 ^ (k % 8) = y at *
  omega
theorem cells_bit (V k : Nat) (h : V < 2 ^ k) : cells (fun j => if j = k / 8 then byt V (k / 8) + 2 ^ (k % 8) else byt V j) (k / 8 + 1) = cells (byt (V + 2 ^ k)) (k / 8 + 1) := by
  apply cells_congr
  intro j hj
  by_cases e : j = k / 8
  · rw [if_pos e, e, (byt_add V k h).1]
  · have := byt_keep V 1 k j (by omega)
    rw [Nat.one_mul] at this
    rw [if_neg e, this]
end Go.Proofs.Ytieaglncimfelaa.Sep
