/- Plain facts: what a call leaves as it was, a reader in memory, and the number that bytes make, bit by bit. No conditions. -/
import Derived.Test.YtjdnkjolbnplaaaBase
import Derived.Below
import Derived.WalkSmall
namespace Go.Proofs.Ytjdnkjolbnplaaa.Mem
open Go.ChangeShapes Go.WideShapes Go.ChangeAt Go.RowKit Go.Proofs.Ytjdnkjolbnplaaa.Base

/-- Of what was there only the blocks of S may have turned. -/
structure Upd (S : Nat → Prop) (w w' : World) : Prop where
  os : w'.os = w.os
  tape : w'.tape = w.tape
  output : w'.output = w.output
  size : w.heap.size ≤ w'.heap.size
  block : ∀ k, k < w.heap.size → ¬ S k → w'.heap[k]? = w.heap[k]?
theorem Upd.refl (S : Nat → Prop) (w : World) : Upd S w w := ⟨rfl, rfl, rfl, Nat.le_refl _, fun _ _ _ => rfl⟩
theorem Upd.trans {S : Nat → Prop} {a b c : World} (h : Upd S a b) (k : Upd S b c) : Upd S a c :=
  ⟨k.os.trans h.os, k.tape.trans h.tape, k.output.trans h.output, Nat.le_trans h.size k.size, fun i hi hs => (k.block i (Nat.lt_of_lt_of_le hi h.size) hs).trans (h.block i hi hs)⟩
theorem Upd.mono {S T : Nat → Prop} {w w' : World} (h : Upd S w w') (hST : ∀ k, k < w.heap.size → S k → T k) : Upd T w w' :=
  ⟨h.os, h.tape, h.output, h.size, fun k hk ht => h.block k hk fun hs => ht (hST k hk hs)⟩
theorem Upd.below {S : Nat → Prop} {w w' : World} (h : Upd S w w') (B : Nat) (hB : B ≤ w.heap.size) (hS : ∀ k, S k → B ≤ k) : Below B w w' :=
  ⟨h.os, h.tape, h.output, h.size, fun k hk => h.block k (by omega) fun hs => by have := hS k hs; omega⟩
theorem Upd.ofBelow {S : Nat → Prop} {w w' : World} (h : Below w.heap.size w w') : Upd S w w' :=
  ⟨h.os, h.tape, h.output, h.size, fun k hk _ => h.block k hk⟩
theorem Upd.drewN {S : Nat → Prop} {a w : World} (h : Upd S a w) (n : Nat) : Upd S a (w.drewN n) := ⟨h.os, h.tape, h.output, h.size, h.block⟩
theorem Upd.setCell {S : Nat → Prop} {a w : World} (h : Upd S a w) {p : Addr} (hp : S p.block) (u : Value) : Upd S a (w.setCell p u) :=
  h.trans ⟨rfl, rfl, rfl, by simp [World.setCell], fun k _ hs => Below.heap_setCell _ _ _ _ (fun e => hs (e ▸ hp))⟩
theorem Upd.alloc {S : Nat → Prop} {a w : World} (h : Upd S a w) (o : Obj) : Upd S a (w.alloc o) :=
  h.trans ⟨rfl, rfl, rfl, by simp, fun k hk _ => Below.heap_alloc _ _ _ hk⟩
theorem Upd.cell {S : Nat → Prop} {w w' : World} (h : Upd S w w') {p : Addr} (hp : p.block < w.heap.size) (hs : ¬ S p.block) : w'.cell? p = w.cell? p := World.cell?_of_block (w := w) (h.block p.block hp hs)

/-- A block that holds just these values, none of them frozen. -/
def Box (w : World) (g : Nat) (T : TypeId) (vs : Array Value) : Prop := w.heap[g]? = some (.cells vs T (0, 0))
theorem Box.lt {w : World} {g : Nat} {T : TypeId} {vs : Array Value} (h : Box w g T vs) : g < w.heap.size := (Array.getElem?_eq_some_iff.1 h).1
theorem Box.cell {w : World} {g : Nat} {T : TypeId} {vs : Array Value} (h : Box w g T vs) (k : Nat) : w.cell? ⟨g, k, none⟩ = vs[k]? := by
  unfold Box at h; simp [World.cell?, h]
theorem Box.free {w : World} {g : Nat} {T : TypeId} {vs : Array Value} (h : Box w g T vs) (k : Nat) : w.frozen? ⟨g, k, none⟩ = false := by
  unfold Box at h; simp [World.frozen?, h]
theorem Box.set {w : World} {g : Nat} {T : TypeId} {vs : Array Value} (h : Box w g T vs) (k : Nat) (v : Value) : Box (w.setCell ⟨g, k, none⟩ v) g T (vs.setIfInBounds k v) := by
  unfold Box at *; simp [World.setCell, Array.getElem?_modify, h]
theorem Box.drewN {w : World} {g : Nat} {T : TypeId} {vs : Array Value} (h : Box w g T vs) (n : Nat) : Box (w.drewN n) g T vs := h
theorem Box.made (w : World) (T : TypeId) (vs : Array Value) : Box (w.alloc (.cells vs T)) w.heap.size T vs := by
  show (w.heap.push _)[w.heap.size]? = _
  simp
theorem Box.keep {S : Nat → Prop} {w w' : World} {g : Nat} {T : TypeId} {vs : Array Value} (h : Box w g T vs) (u : Upd S w w') (hs : ¬ S g) : Box w' g T vs :=
  (u.block g h.lt hs).trans h

/-- The number that n bytes make from p on. -/
def num (c : Nat → Nat) : Nat → Nat → Nat
  | _, 0 => 0
  | p, n + 1 => c p + 256 * num c (p + 1) n
theorem leN_num (c : Nat → Nat) : ∀ n p, leN (fun k => (c k : Int)) p n = (num c p n : Int)
  | 0, p => rfl
  | n + 1, p => by rw [leN, num, leN_num c n (p + 1)]; simp
theorem num_lt (c : Nat → Nat) (hc : ∀ k, c k ≤ 255) : ∀ n p, num c p n < 256 ^ n
  | 0, p => by simp [num]
  | n + 1, p => by
    have := num_lt c hc n (p + 1)
    have h := hc p
    rw [num, Nat.pow_succ]; omega
theorem num_split (c : Nat → Nat) : ∀ a b p, num c p (a + b) = num c p a + 256 ^ a * num c (p + a) b
  | 0, b, p => by simp [num]
  | a + 1, b, p => by
    rw [show a + 1 + b = (a + b) + 1 from by omega, num, num, num_split c a b (p + 1), Nat.pow_succ, Nat.mul_add, show p + 1 + a = p + (a + 1) from by omega,
      Nat.mul_comm (256 ^ a) 256, Nat.mul_assoc, Nat.add_assoc]
theorem num_part (c : Nat → Nat) (hc : ∀ k, c k ≤ 255) (p m len : Nat) (h : p + m ≤ len) : num c 0 len / 256 ^ p % 256 ^ m = num c p m := by
  obtain ⟨r, rfl⟩ : ∃ r, len = p + (m + r) := ⟨len - p - m, by omega⟩
  rw [num_split c p (m + r) 0, Nat.add_mul_div_left _ _ (Nat.pow_pos (by omega)), Nat.div_eq_of_lt (num_lt c hc p 0), Nat.zero_add, Nat.zero_add,
    num_split c m r p, Nat.add_mul_mod_self_left, Nat.mod_eq_of_lt (num_lt c hc m p)]
/-- The n bits from place i on. -/
def val (c : Nat → Nat) (len i n : Nat) : Nat := num c 0 len / 2 ^ i % 2 ^ n
theorem take_eq (c : Nat → Nat) (hc : ∀ k, c k ≤ 255) (p s m n len : Nat) (h : p + m ≤ len) (h2 : s + n ≤ 8 * m) :
    num c p m / 2 ^ s % 2 ^ n = val c len (8 * p + s) n := by
  rw [← num_part c hc p m len h]
  unfold val
  generalize num c 0 len = N
  rw [show (256 : Nat) = 2 ^ 8 from rfl, ← Nat.pow_mul, ← Nat.pow_mul, Nat.pow_add, ← Nat.div_div_eq_div_mul]
  generalize N / 2 ^ (8 * p) = X
  obtain ⟨t, ht⟩ : ∃ t, 8 * m = s + t := ⟨8 * m - s, by omega⟩
  rw [ht, Nat.pow_add, Nat.mod_mul_right_div_self, Nat.mod_mod_of_dvd _ (Nat.pow_dvd_pow 2 (by omega))]
theorem val_lt (c : Nat → Nat) (len i n : Nat) : val c len i n < 2 ^ n := Nat.mod_lt _ (Nat.pow_pos (by omega))
theorem val_add (c : Nat → Nat) (len i x y : Nat) : val c len i (x + y) = val c len i x + val c len (i + x) y * 2 ^ x := by
  unfold val
  rw [Nat.pow_add, Nat.mod_mul, Nat.pow_add, ← Nat.div_div_eq_div_mul, Nat.mul_comm (2 ^ x)]

/-- A reader that lies at block g, with i bits read; it and its bytes lie from lo to hi. -/
def On (w : World) (lo hi g : Nat) (c : Nat → Nat) (len i : Nat) : Prop :=
  ∃ a cap, Box w g 45 #[.slice a len cap, .int .i64 i, .bool false] ∧ lo ≤ g ∧ g < hi ∧ hi ≤ w.heap.size ∧ i ≤ 8 * len ∧
    (len = 0 ∨ ∃ b, a = some ⟨b, 0, none⟩ ∧ lo ≤ b ∧ b < hi ∧ b ≠ g ∧ ∀ k, k < len → w.cell? ⟨b, k, none⟩ = some (.int .u8 (c k)))
/-- A reader that is over. -/
def Off (w : World) (g : Nat) : Prop := Box w g 45 #[.slice none 0 0, .int .i64 0, .bool true]
theorem On.keep {S : Nat → Prop} {w w' : World} {lo hi g len i : Nat} {c : Nat → Nat} (h : On w lo hi g c len i) (u : Upd S w w') (hs : ∀ k, lo ≤ k → k < hi → ¬ S k) : On w' lo hi g c len i := by
  obtain ⟨a, cap, h0, h1, h2, h3, h4, h5⟩ := h
  refine ⟨a, cap, h0.keep u (hs g h1 h2), h1, h2, Nat.le_trans h3 u.size, h4, ?_⟩
  rcases h5 with h5 | ⟨b, e, b1, b2, b3, b4⟩
  · exact .inl h5
  · exact .inr ⟨b, e, b1, b2, b3, fun k hk => (u.cell (p := ⟨b, k, none⟩) (Nat.lt_of_lt_of_le b2 h3) (hs b b1 b2)).trans (b4 k hk)⟩
theorem Off.keep {S : Nat → Prop} {w w' : World} {g : Nat} (h : Off w g) (u : Upd S w w') (hs : ¬ S g) : Off w' g := Box.keep h u hs
end Go.Proofs.Ytjdnkjolbnplaaa.Mem
