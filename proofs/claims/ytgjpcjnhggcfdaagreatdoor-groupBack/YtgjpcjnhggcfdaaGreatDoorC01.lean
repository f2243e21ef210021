/-
  Plain facts: what a call leaves as it was, blocks of memory. No conditions.
  Plain facts: a symbol's bits and its first number, by arithmetic; each number has one symbol. No conditions.
  Contracts: value.Extra, Join, Split and the document's Extra and Join, by plain arithmetic. Conditions: none on the numbers.
  Contracts: value.Join and the document's Join answer the same number. Conditions: none on the numbers.
-/
import Derived.Test.YtgjpcjnhggcfdaaGreatDoorRows
import Derived.WalkKit
import Derived.ProofKit
import Derived.OpenShut
import Derived.WalkSpells
import Derived.Laws.BitsAllLaws
import Derived.Deep.QuietTactic
import Derived.BigQuiet
import Derived.Below
import Derived.WalkSmall
import Derived.BigRegion
import Derived.Shelf.Abstract
import Derived.Laws.MathBits
namespace Go.Proofs.YtgjpcjnhggcfdaaGreatDoor.Core
open Go.ChangeShapes Go.WideShapes Go.ChangeAt Go.RowKit

theorem hide {p : Prop} (h : p) : Hid p := h
theorem unhide {p : Prop} (h : Hid p) : p := h
theorem ret_int {k : IntKind} {a b : Int} (h : a = b) : Ending.returned (.int k a) = .returned (.int k b) := by rw [h]
theorem ret_bool {a b : Bool} (h : a = b) : Ending.returned (.bool a) = .returned (.bool b) := by rw [h]

/-- Of what was there only the blocks of S may have turned. -/
structure Upd (S : Nat → Prop) (w w' : World) : Prop where
  os : w'.os = w.os
  tape : w'.tape = w.tape
  output : w'.output = w.output
  size : w.heap.size ≤ w'.heap.size
  block : ∀ k, k < w.heap.size → ¬ S k → w'.heap[k]? = w.heap[k]?
theorem Upd.refl (S : Nat → Prop) (w : World) : Upd S w w := ⟨rfl, rfl, rfl, Nat.le_refl _, fun _ _ _ => rfl⟩
theorem Upd.trans {S : Nat → Prop} {a b c : World} (h : Upd S a b) (k : Upd S b c) : Upd S a c :=
  ⟨k.os.trans h.os, k.tape.trans h.tape, k.output.trans h.output, Nat.le_trans h.size k.size, fun i hi hs => (k.block i (Nat.lt_of_lt_of_le hi h.size) hs).trans (h.block i hi hs)⟩
theorem Upd.mono {S T : Nat → Prop} {w w' : World} (h : Upd S w w') (hST : ∀ k, k < w.heap.size → S k → T k) : Upd T w w' :=
  ⟨h.os, h.tape, h.output, h.size, fun k hk ht => h.block k hk fun hs => ht (hST k hk hs)⟩
theorem Upd.below {S : Nat → Prop} {w w' : World} (h : Upd S w w') (B : Nat) (hB : B ≤ w.heap.size) (hS : ∀ k, S k → B ≤ k) : Below B w w' :=
  ⟨h.os, h.tape, h.output, h.size, fun k hk => h.block k (by omega) fun hs => by have := hS k hs; omega⟩
theorem Upd.ofBelow {S : Nat → Prop} {w w' : World} (h : Below w.heap.size w w') : Upd S w w' :=
  ⟨h.os, h.tape, h.output, h.size, fun k hk _ => h.block k hk⟩
theorem Upd.drewN {S : Nat → Prop} {a w : World} (h : Upd S a w) (n : Nat) : Upd S a (w.drewN n) := ⟨h.os, h.tape, h.output, h.size, h.block⟩
theorem Upd.setCell {S : Nat → Prop} {a w : World} (h : Upd S a w) {p : Addr} (hp : S p.block) (u : Value) : Upd S a (w.setCell p u) :=
  h.trans ⟨rfl, rfl, rfl, by simp [World.setCell], fun k _ hs => Below.heap_setCell _ _ _ _ (fun e => hs (e ▸ hp))⟩
theorem Upd.alloc {S : Nat → Prop} {a w : World} (h : Upd S a w) (o : Obj) : Upd S a (w.alloc o) :=
  h.trans ⟨rfl, rfl, rfl, by simp, fun k hk _ => Below.heap_alloc _ _ _ hk⟩
theorem Upd.cell {S : Nat → Prop} {w w' : World} (h : Upd S w w') {p : Addr} (hp : p.block < w.heap.size) (hs : ¬ S p.block) : w'.cell? p = w.cell? p := World.cell?_of_block (w := w) (h.block p.block hp hs)

/-- A block that holds just these values, none of them frozen. -/
def Box (w : World) (g : Nat) (T : TypeId) (vs : Array Value) : Prop := w.heap[g]? = some (.cells vs T (0, 0))
theorem Box.lt {w : World} {g : Nat} {T : TypeId} {vs : Array Value} (h : Box w g T vs) : g < w.heap.size := (Array.getElem?_eq_some_iff.1 h).1
theorem Box.cell {w : World} {g : Nat} {T : TypeId} {vs : Array Value} (h : Box w g T vs) (k : Nat) : w.cell? ⟨g, k, none⟩ = vs[k]? := by
  unfold Box at h; simp [World.cell?, h]
theorem Box.free {w : World} {g : Nat} {T : TypeId} {vs : Array Value} (h : Box w g T vs) (k : Nat) : w.frozen? ⟨g, k, none⟩ = false := by
  unfold Box at h; simp [World.frozen?, h]
theorem Box.set {w : World} {g : Nat} {T : TypeId} {vs : Array Value} (h : Box w g T vs) (k : Nat) (v : Value) : Box (w.setCell ⟨g, k, none⟩ v) g T (vs.setIfInBounds k v) := by
  unfold Box at *; simp [World.setCell, Array.getElem?_modify, h]
theorem Box.drewN {w : World} {g : Nat} {T : TypeId} {vs : Array Value} (h : Box w g T vs) (n : Nat) : Box (w.drewN n) g T vs := h
theorem Box.made (w : World) (T : TypeId) (vs : Array Value) : Box (w.alloc (.cells vs T)) w.heap.size T vs := by
  show (w.heap.push _)[w.heap.size]? = _
  simp
theorem Box.keep {S : Nat → Prop} {w w' : World} {g : Nat} {T : TypeId} {vs : Array Value} (h : Box w g T vs) (u : Upd S w w') (hs : ¬ S g) : Box w' g T vs :=
  (u.block g h.lt hs).trans h

theorem lt_of_cell {w : World} {p : Addr} {v : Value} (h : w.cell? p = some v) : p.block < w.heap.size := by
  unfold World.cell? at h
  split at h
  · next hh => exact (Array.getElem?_eq_some_iff.1 hh).1
  · cases h
theorem Box.below {B : Nat} {w w' : World} {g : Nat} {T : TypeId} {vs : Array Value} (h : Box w g T vs) (u : Below B w w') (hg : g < B) : Box w' g T vs :=
  (u.block g hg).trans h
theorem Box.other {w : World} {g : Nat} {T : TypeId} {vs : Array Value} (h : Box w g T vs) {p : Addr} (hp : g ≠ p.block) (v : Value) : Box (w.setCell p v) g T vs :=
  (Below.heap_setCell _ _ _ _ hp).trans h
theorem Box.alloc {w : World} {g : Nat} {T : TypeId} {vs : Array Value} (h : Box w g T vs) (o : Obj) : Box (w.alloc o) g T vs :=
  (Below.heap_alloc _ _ _ h.lt).trans h
end Go.Proofs.YtgjpcjnhggcfdaaGreatDoor.Core

namespace Go.Proofs.YtgjpcjnhggcfdaaGreatDoor.VNum
open Go.ChangeShapes Go.WideShapes Go.ChangeAt Go.RowKit

/-- How many bits stand behind a symbol. -/
def exn (s : Nat) : Nat := if s < 4 then 0 else s / 2 - 1
/-- A symbol's first number. -/
def frs (s : Nat) : Nat := if s < 4 then s + 1 else (2 + s % 2) * 2 ^ (s / 2 - 1) + 1

theorem exn_le (s : Nat) (h : s < 40) : exn s ≤ 18 := by unfold exn; split <;> omega
theorem pow_exn (s : Nat) (h : s < 40) : 1 ≤ 2 ^ exn s ∧ 2 ^ exn s ≤ 262144 :=
  ⟨Nat.pow_pos (by omega), Nat.pow_le_pow_right (j := 18) (by omega) (exn_le s h)⟩
theorem pow_exnI (s : Nat) (h : s < 40) : (1 : Int) ≤ 2 ^ exn s ∧ (2 : Int) ^ exn s ≤ 262144 := by
  have := pow_exn s h
  have e : ((2 ^ exn s : Nat) : Int) = (2 : Int) ^ exn s := by simp
  omega
theorem frs_next : ∀ s, s < 40 → frs (s + 1) = frs s + 2 ^ exn s := by decide +kernel
theorem frs_up : ∀ t, t < 41 → ∀ s, s < t → frs (s + 1) ≤ frs t := by decide +kernel
theorem frs_pos (s : Nat) : 1 ≤ frs s := by unfold frs; split <;> omega
theorem frs_last : frs 40 = 1048577 := by decide
theorem frs_le (s : Nat) (h : s < 40) : frs s + 2 ^ exn s ≤ 1048577 := by
  rw [← frs_next s h, ← frs_last]
  exact frs_up 40 (by omega) s h
theorem frs_lt (s t x y : Nat) (hs : s < 40) (ht : t < 40) (hx : x < 2 ^ exn s) (h : s < t) : frs s + x < frs t + y := by
  have h1 := frs_up t (by omega) s h
  have h2 := frs_next s hs
  omega
theorem frs_one (s t x y : Nat) (hs : s < 40) (ht : t < 40) (hx : x < 2 ^ exn s) (hy : y < 2 ^ exn t) (h : frs s + x = frs t + y) : s = t ∧ x = y := by
  rcases Nat.lt_trichotomy s t with l | l | l
  · have := frs_lt s t x y hs ht hx l; omega
  · subst l; exact ⟨rfl, by omega⟩
  · have := frs_lt t s y x ht hs hy l; omega
theorem frs_less (s t x y : Nat) (hs : s < 40) (ht : t < 40) (hy : y < 2 ^ exn t) (h : frs s + x < frs t + y) : s < t ∨ (s = t ∧ x < y) := by
  rcases Nat.lt_trichotomy s t with l | l | l
  · exact .inl l
  · subst l; exact .inr ⟨rfl, by omega⟩
  · have := frs_lt t s y x ht hs hy l; omega

/-- s and x are the symbol and the bits of n. -/
structure Is (n s x : Nat) : Prop where
  sym : s < 40
  low : x < 2 ^ exn s
  num : frs s + x = n

theorem is_small (n : Nat) (h0 : 1 ≤ n) (h1 : n ≤ 4) : Is n (n - 1) 0 ∧ exn (n - 1) = 0 := by
  have e : exn (n - 1) = 0 := if_pos (by omega)
  have f : frs (n - 1) = n - 1 + 1 := if_pos (by omega)
  exact ⟨⟨by omega, by rw [e]; decide, by omega⟩, e⟩
theorem is_big (a k : Nat) (h4 : 4 ≤ a) (ha : a < 1048576) (h1 : 2 ^ k ≤ a) (h2 : a < 2 ^ (k + 1)) :
    Is (a + 1) (2 * k + a / 2 ^ (k - 1) % 2) (a % 2 ^ (k - 1)) ∧ exn (2 * k + a / 2 ^ (k - 1) % 2) = k - 1 ∧ 2 ≤ k ∧ k ≤ 19 := by
  have k2 : 2 ≤ k := by
    rcases Nat.lt_or_ge k 2 with l | l
    · have := Nat.pow_le_pow_right (n := 2) (by omega) (show k + 1 ≤ 2 by omega); omega
    · exact l
  have k19 : k ≤ 19 := by
    rcases Nat.lt_or_ge 19 k with l | l
    · have := Nat.pow_le_pow_right (n := 2) (by omega) (show 20 ≤ k by omega); omega
    · exact l
  obtain ⟨j, rfl⟩ : ∃ j, k = j + 1 := ⟨k - 1, by omega⟩
  have e1 : 2 ^ (j + 1) = 2 ^ j * 2 := Nat.pow_succ ..
  have e2 : 2 ^ (j + 1 + 1) = 2 ^ j * 2 * 2 := by rw [Nat.pow_succ, Nat.pow_succ]
  simp only [Nat.add_sub_cancel]
  have p : 0 < 2 ^ j := Nat.pow_pos (by omega)
  have q1 : 2 ≤ a / 2 ^ j := (Nat.le_div_iff_mul_le p).2 (by omega)
  have q2 : a / 2 ^ j < 4 := (Nat.div_lt_iff_lt_mul p).2 (by omega)
  have m := Nat.mod_lt a p
  have d := Nat.div_add_mod a (2 ^ j)
  have s2 : (2 * (j + 1) + a / 2 ^ j % 2) / 2 - 1 = j := by omega
  have s3 : (2 * (j + 1) + a / 2 ^ j % 2) % 2 = a / 2 ^ j % 2 := by omega
  have ee : exn (2 * (j + 1) + a / 2 ^ j % 2) = j := by unfold exn; rw [if_neg (by omega), s2]
  refine ⟨⟨by omega, by rw [ee]; exact m, ?_⟩, ee, k2, k19⟩
  unfold frs
  rw [if_neg (by omega), s2, s3, show 2 + a / 2 ^ j % 2 = a / 2 ^ j by omega, Nat.mul_comm]
  omega

theorem bitLen_gt (v n : Nat) : n < bitLen v ↔ 2 ^ n ≤ v := by
  obtain ⟨h1, h2⟩ := bitLen_spec v
  constructor
  · intro h
    have h0 : v ≠ 0 := fun e => by subst e; simp [bitLen] at h
    exact Nat.le_trans (Nat.pow_le_pow_right (by omega) (by omega)) (h2 h0)
  · intro h
    exact (Nat.pow_lt_pow_iff_right (a := 2) (by omega)).1 (Nat.lt_of_le_of_lt h h1)
theorem bitLen_at (a : Nat) (h4 : 4 ≤ a) : ∃ k, bitLen a = k + 1 ∧ 2 ^ k ≤ a ∧ a < 2 ^ (k + 1) := by
  have g := (bitLen_gt a 2).2 (by omega)
  obtain ⟨h1, h2⟩ := bitLen_spec a
  have h3 := h2 (by omega)
  refine ⟨bitLen a - 1, by omega, h3, ?_⟩
  rw [show bitLen a - 1 + 1 = bitLen a by omega]; exact h1

/-- How many bits any number has behind it, as a symbol. -/
def exV (s : Int) : Int := if 4 ≤ s ∧ s ≤ 39 then s / 2 - 1 else 0
theorem exV_nat (s : Nat) (h : s < 40) : exV (s : Int) = (exn s : Nat) := by
  unfold exV exn
  by_cases c : s < 4
  · rw [if_neg (by omega), if_pos c]; rfl
  · rw [if_pos (by omega), if_neg c]; omega
/-- The number of any symbol and bits. -/
def joV (s x : Int) : Int := if 0 ≤ s ∧ s ≤ 39 ∧ x < ((2 ^ exn s.toNat : Nat) : Int) then ((frs s.toNat : Nat) : Int) + x else 0
theorem joV_out (s x : Int) (h : s < 0 ∨ 39 < s) : joV s x = 0 := if_neg (by omega)
theorem joV_much (s x : Nat) (h : 2 ^ exn s ≤ x) : joV s x = 0 := if_neg (by rw [Int.toNat_natCast]; omega)
theorem joV_in (s x : Nat) (hs : s < 40) (h : x < 2 ^ exn s) : joV s x = ((frs s + x : Nat) : Int) := by
  unfold joV; rw [if_pos (by rw [Int.toNat_natCast]; omega), Int.toNat_natCast]; omega
end Go.Proofs.YtgjpcjnhggcfdaaGreatDoor.VNum

namespace Go.Proofs.YtgjpcjnhggcfdaaGreatDoor.VVal
open Go.ChangeShapes Go.WideShapes Go.ChangeAt Go.RowKit Go.Proofs.YtgjpcjnhggcfdaaGreatDoor.Core Go.Proofs.YtgjpcjnhggcfdaaGreatDoor.VNum

/-- Whether a number is a symbol. -/
def syV (s : Int) : Bool := decide (0 ≤ s ∧ s ≤ 39)
theorem syV_yes (s : Int) (h0 : 0 ≤ s) (h1 : s ≤ 39) : syV s = true := decide_eq_true ⟨h0, h1⟩
theorem syV_no (s : Int) (h : s < 0 ∨ 39 < s) : syV s = false := decide_eq_false (by omega)

theorem exV_in (s : Int) (h0 : 4 ≤ s) (h1 : s ≤ 39) : exV s = s / 2 - 1 := if_pos ⟨h0, h1⟩
theorem exV_no (s : Int) (h : s < 4 ∨ 39 < s) : exV s = 0 := if_neg (by omega)

theorem ext9 (s : Int) (w : World) :
    Calls Tryz.prog 55 #[.int .i64 s] w fun e w' => e = .returned (.int .i64 (exV s)) ∧ w' = w := by
  by_cases h4 : s < 4
  · have H := hide (exV_no s (.inl h4))
    go_enter Tryz.func55, Tryz.ntmps55
    go_wp2
    go_ret
    exact ⟨ret_int (unhide H).symm, rfl⟩
  · by_cases h1 : s ≤ 39
    · have h4' : 4 ≤ s := by omega
      have H := hide (exV_in s h4' h1)
      go_enter Tryz.func55, Tryz.ntmps55
      go_wp2
      go_ret
      exact ⟨ret_int (unhide H).symm, rfl⟩
    · have H := hide (exV_no s (by omega))
      go_enter Tryz.func55, Tryz.ntmps55
      go_wp2
      go_ret
      exact ⟨ret_int (unhide H).symm, rfl⟩

set_option maxRecDepth 100000 in
set_option maxHeartbeats 1000000 in
theorem len15 (x : Int) (w : World) (h0 : 0 ≤ x) (h1 : x ≤ 4294967295) :
    Calls Tryz.prog 50 #[.int .u32 x] w fun e w' => e = .returned (.int .i64 (bitLen x.toNat)) ∧ w' = w := by
  go_enter Tryz.func50, Tryz.ntmps50
  go_wp2
  all_goals (go_ret; refine ⟨congrArg Ending.returned (congrArg (Value.int IntKind.i64) ?_), rfl⟩)
  · rw [len8tab_get, show (x / 65536 / 256).toNat = x.toNat / 2 ^ 24 by omega]
    have l := bitLen_le8 (x.toNat / 2 ^ 24) (by omega)
    rw [bitLen_shift x.toNat 24 (by omega)]
    unfold wrap64
    omega
  · rw [len8tab_get, show (x / 65536).toNat = x.toNat / 2 ^ 16 by omega]
    have l := bitLen_le8 (x.toNat / 2 ^ 16) (by omega)
    rw [bitLen_shift x.toNat 16 (by omega)]
    unfold wrap64
    omega
  · rw [len8tab_get, show (x / 256).toNat = x.toNat / 2 ^ 8 by omega]
    have l := bitLen_le8 (x.toNat / 2 ^ 8) (by omega)
    rw [bitLen_shift x.toNat 8 (by omega)]
    unfold wrap64
    omega
  · rw [len8tab_get]
    have l := bitLen_le8 x.toNat (by omega)
    unfold wrap64
    omega

theorem high14 (a k : Nat) (w : World) (ha : a < 1048576) (h : bitLen a = k + 1) :
    Calls Tryz.prog 86 #[.int .u32 a] w fun e w' => e = .returned (.int .i64 k) ∧ w' = w := by
  have L := hide (len15 (a : Int) w (by omega) (by omega))
  rw [show ((a : Int)).toNat = a from rfl, h] at L
  have hk : k ≤ 19 := by
    rcases Nat.lt_or_ge 19 k with l | l
    · have := (bitLen_gt a 20).1 (by omega); omega
    · exact l
  have H := hide h
  clear h
  go_enter Tryz.func86, Tryz.ntmps86
  go_wp2_with fail
  refine (unhide L).mono ?_
  rintro e w' ⟨rfl, rfl⟩
  go_wp2
  go_ret
  exact ⟨ret_int (by omega), rfl⟩
end Go.Proofs.YtgjpcjnhggcfdaaGreatDoor.VVal

namespace Go.Proofs.YtgjpcjnhggcfdaaGreatDoor.VJoi
open Go.ChangeShapes Go.WideShapes Go.ChangeAt Go.RowKit Go.Proofs.YtgjpcjnhggcfdaaGreatDoor.Core Go.Proofs.YtgjpcjnhggcfdaaGreatDoor.VNum Go.Proofs.YtgjpcjnhggcfdaaGreatDoor.VVal

theorem top_at : ∀ s : Nat, s < 40 → bits .or .i64 2 (bits .and .i64 (s : Int) 1) = 2 + ((s % 2 : Nat) : Int) := by decide +kernel

theorem shr_some (x k : Nat) (h : 2 ^ k ≤ x) : ((x : Int) / 2 ^ k != 0) = true := by
  have q : 0 < x / 2 ^ k := Nat.div_pos h (Nat.pow_pos (by omega))
  have e : (x : Int) / 2 ^ k = ((x / 2 ^ k : Nat) : Int) := by simp
  rw [e, bne_iff_ne]; omega
theorem shr_none (x k : Nat) (h : x < 2 ^ k) : ((x : Int) / 2 ^ k != 0) = false := by
  have e : (x : Int) / 2 ^ k = ((x / 2 ^ k : Nat) : Int) := by simp
  rw [e, Nat.div_eq_of_lt h]; rfl

theorem below_yes (x k : Nat) (h : x < 2 ^ k) : decide ((2 : Int) ^ k ≤ (x : Int)) = false := by
  have e : (2 : Int) ^ k = ((2 ^ k : Nat) : Int) := by simp
  rw [e]; exact decide_eq_false (by omega)
theorem below_no (x k : Nat) (h : 2 ^ k ≤ x) : decide ((2 : Int) ^ k ≤ (x : Int)) = true := by
  have e : (2 : Int) ^ k = ((2 ^ k : Nat) : Int) := by simp
  rw [e]; exact decide_eq_true (by omega)

set_option maxHeartbeats 1000000 in
theorem ref11_out (s x : Int) (w : World) (h : s < 0 ∨ 39 < s) :
    Calls Tryz.prog 56 #[.int .i64 s, .int .u32 x] w fun e w' => e = .returned (.int .i64 0) ∧ w' = w := by
  rcases h with h | h
  · go_enter Tryz.func56, Tryz.ntmps56
    go_wp2
    go_ret
    exact ⟨rfl, rfl⟩
  · have h' : 0 ≤ s := by omega
    go_enter Tryz.func56, Tryz.ntmps56
    go_wp2
    go_ret
    exact ⟨rfl, rfl⟩
set_option maxHeartbeats 1000000 in
theorem ref11_much (s x : Nat) (w : World) (hs : s < 40) (hx : x < 4294967296) (h : 2 ^ exn s ≤ x) :
    Calls Tryz.prog 56 #[.int .i64 s, .int .u32 x] w fun e w' => e = .returned (.int .i64 0) ∧ w' = w := by
  have E := hide (exV_nat s hs)
  have k18 := exn_le s hs
  have pI := pow_exnI s hs
  have q := below_no x (exn s) h
  have hx' : (x : Int) < 4294967296 := by omega
  have hs' : (s : Int) ≤ 39 := by omega
  generalize exn s = k at *
  clear h
  go_enter Tryz.func56, Tryz.ntmps56
  go_wp2_with fail
  refine (ext9 _ _).mono ?_
  rintro e w' ⟨rfl, rfl⟩
  rw [unhide E]
  go_wp2
  go_ret
  exact ⟨rfl, rfl⟩
set_option maxHeartbeats 1000000 in
set_option maxRecDepth 20000 in
theorem ref11_in (s x : Nat) (w : World) (hs : s < 40) (h : x < 2 ^ exn s) :
    Calls Tryz.prog 56 #[.int .i64 s, .int .u32 x] w fun e w' => e = .returned (.int .i64 ((frs s + x : Nat) : Int)) ∧ w' = w := by
  have E := hide (exV_nat s hs)
  have k18 := exn_le s hs
  have pI := pow_exnI s hs
  have L := frs_le s hs
  have q := below_yes x (exn s) h
  have hx' : (x : Int) < 4294967296 := by have := pow_exn s hs; omega
  have hs' : (s : Int) ≤ 39 := by omega
  have L2 := hide (show frs s ≤ 1048577 by omega)
  clear L
  generalize exn s = k at *
  clear h
  go_enter Tryz.func56, Tryz.ntmps56
  go_wp2_with fail
  refine (ext9 _ _).mono ?_
  rintro e w' ⟨rfl, rfl⟩
  rw [unhide E]
  have HX : True → (x : Int) < 4294967296 := fun _ => hx'
  clear hx'
  go_wp2
  go_loop [5, 6] (fun n i => ∃ j : Nat, j ≤ s ∧ i = .int .i64 j ∧ n = .int .i64 (frs j : Nat)) (fun _ i => s - (intOf i).toNat)
  case atStart => exact ⟨0, Nat.zero_le _, rfl, rfl⟩
  case round =>
    obtain ⟨j, hj, rfl, rfl⟩ := hrel
    by_cases hlt : j < s
    · have P := hide (frs_next j (by omega))
      have E2 := hide (exV_nat j (by omega))
      have b := frs_le j (by omega)
      have j18 := exn_le j (by omega)
      have pJ := pow_exnI j (by omega)
      have fb0 : frs j ≤ 1048577 := Nat.le_trans (Nat.le_add_right _ _) b
      have fb : ((frs j : Nat) : Int) ≤ 1048577 := by omega
      clear b fb0
      have hlt' : (j : Int) < (s : Int) := by omega
      generalize frs j = f at *
      generalize exn j = m at *
      go_wp2_with fail
      refine (ext9 _ _).mono ?_
      rintro e w' ⟨rfl, rfl⟩
      rw [unhide E2]
      go_wp2
      go_round
      case rel => exact ⟨j + 1, by omega, by go_num, by rw [unhide P]; simp⟩
      case measure => simp [intOf]; omega
    · have e : j = s := by omega
      subst e
      have fb : ((frs j : Nat) : Int) ≤ 1048577 := by have := unhide L2; omega
      have hx' := HX trivial
      go_wp2
      go_ret
      exact ⟨ret_int (by omega), rfl⟩
theorem ref11 (s x : Int) (w : World) (h0 : 0 ≤ x) (h1 : x ≤ 4294967295) :
    Calls Tryz.prog 56 #[.int .i64 s, .int .u32 x] w fun e w' => e = .returned (.int .i64 (joV s x)) ∧ w' = w := by
  by_cases h : s < 0 ∨ 39 < s
  · rw [joV_out s x h]; exact ref11_out s x w h
  · obtain ⟨s, rfl⟩ := Int.eq_ofNat_of_zero_le (show 0 ≤ s by omega)
    obtain ⟨x, rfl⟩ := Int.eq_ofNat_of_zero_le h0
    by_cases hx : x < 2 ^ exn s
    · rw [joV_in s x (by omega) hx]
      exact ref11_in s x w (by omega) hx
    · rw [joV_much s x (by omega)]; exact ref11_much s x w (by omega) (by omega) (by omega)
end Go.Proofs.YtgjpcjnhggcfdaaGreatDoor.VJoi
