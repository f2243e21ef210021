/- Plain facts: what a call leaves as it was, blocks of memory, slices of integers that are read. No conditions. -/
import Derived.Test.YthelcnidkehlhaaRows
import Derived.WalkKit
import Derived.ProofKit
import Derived.OpenShut
import Derived.WalkSpells
import Derived.Laws.BitsAllLaws
import Derived.Deep.QuietTactic
import Derived.BigQuiet
import Derived.Below
import Derived.WalkSmall
import Derived.BigRegion
import Derived.Shelf.Abstract
namespace Go.Proofs.Ythelcnidkehlhaa.Gnd
open Go.ChangeShapes Go.WideShapes Go.ChangeAt Go.RowKit

theorem hide {p : Prop} (h : p) : Hid p := h
theorem unhide {p : Prop} (h : Hid p) : p := h
theorem ret_int {k : IntKind} {a b : Int} (h : a = b) : Ending.returned (.int k a) = .returned (.int k b) := by rw [h]
theorem ret_bool {a b : Bool} (h : a = b) : Ending.returned (.bool a) = .returned (.bool b) := by rw [h]

/-- Of what was there only the blocks of S may have turned. -/
structure Upd (S : Nat → Prop) (w w' : World) : Prop where
  os : w'.os = w.os
  tape : w'.tape = w.tape
  output : w'.output = w.output
  size : w.heap.size ≤ w'.heap.size
  block : ∀ k, k < w.heap.size → ¬ S k → w'.heap[k]? = w.heap[k]?
theorem Upd.refl (S : Nat → Prop) (w : World) : Upd S w w := ⟨rfl, rfl, rfl, Nat.le_refl _, fun _ _ _ => rfl⟩
theorem Upd.trans {S : Nat → Prop} {a b c : World} (h : Upd S a b) (k : Upd S b c) : Upd S a c :=
  ⟨k.os.trans h.os, k.tape.trans h.tape, k.output.trans h.output, Nat.le_trans h.size k.size, fun i hi hs => (k.block i (Nat.lt_of_lt_of_le hi h.size) hs).trans (h.block i hi hs)⟩
theorem Upd.mono {S T : Nat → Prop} {w w' : World} (h : Upd S w w') (hST : ∀ k, k < w.heap.size → S k → T k) : Upd T w w' :=
  ⟨h.os, h.tape, h.output, h.size, fun k hk ht => h.block k hk fun hs => ht (hST k hk hs)⟩
theorem Upd.below {S : Nat → Prop} {w w' : World} (h : Upd S w w') (B : Nat) (hB : B ≤ w.heap.size) (hS : ∀ k, S k → B ≤ k) : Below B w w' :=
  ⟨h.os, h.tape, h.output, h.size, fun k hk => h.block k (by omega) fun hs => by have := hS k hs; omega⟩
theorem Upd.ofBelow {S : Nat → Prop} {w w' : World} (h : Below w.heap.size w w') : Upd S w w' :=
  ⟨h.os, h.tape, h.output, h.size, fun k hk _ => h.block k hk⟩
theorem Upd.drewN {S : Nat → Prop} {a w : World} (h : Upd S a w) (n : Nat) : Upd S a (w.drewN n) := ⟨h.os, h.tape, h.output, h.size, h.block⟩
theorem Upd.setCell {S : Nat → Prop} {a w : World} (h : Upd S a w) {p : Addr} (hp : S p.block) (u : Value) : Upd S a (w.setCell p u) :=
  h.trans ⟨rfl, rfl, rfl, by simp [World.setCell], fun k _ hs => Below.heap_setCell _ _ _ _ (fun e => hs (e ▸ hp))⟩
theorem Upd.alloc {S : Nat → Prop} {a w : World} (h : Upd S a w) (o : Obj) : Upd S a (w.alloc o) :=
  h.trans ⟨rfl, rfl, rfl, by simp, fun k hk _ => Below.heap_alloc _ _ _ hk⟩
theorem Upd.cell {S : Nat → Prop} {w w' : World} (h : Upd S w w') {p : Addr} (hp : p.block < w.heap.size) (hs : ¬ S p.block) : w'.cell? p = w.cell? p := World.cell?_of_block (w := w) (h.block p.block hp hs)

/-- A block that holds just these values, none of them frozen. -/
def Box (w : World) (g : Nat) (T : TypeId) (vs : Array Value) : Prop := w.heap[g]? = some (.cells vs T (0, 0))
theorem Box.lt {w : World} {g : Nat} {T : TypeId} {vs : Array Value} (h : Box w g T vs) : g < w.heap.size := (Array.getElem?_eq_some_iff.1 h).1
theorem Box.cell {w : World} {g : Nat} {T : TypeId} {vs : Array Value} (h : Box w g T vs) (k : Nat) : w.cell? ⟨g, k, none⟩ = vs[k]? := by
  unfold Box at h; simp [World.cell?, h]
theorem Box.free {w : World} {g : Nat} {T : TypeId} {vs : Array Value} (h : Box w g T vs) (k : Nat) : w.frozen? ⟨g, k, none⟩ = false := by
  unfold Box at h; simp [World.frozen?, h]
theorem Box.set {w : World} {g : Nat} {T : TypeId} {vs : Array Value} (h : Box w g T vs) (k : Nat) (v : Value) : Box (w.setCell ⟨g, k, none⟩ v) g T (vs.setIfInBounds k v) := by
  unfold Box at *; simp [World.setCell, Array.getElem?_modify, h]
theorem Box.drewN {w : World} {g : Nat} {T : TypeId} {vs : Array Value} (h : Box w g T vs) (n : Nat) : Box (w.drewN n) g T vs := h
theorem Box.made (w : World) (T : TypeId) (vs : Array Value) : Box (w.alloc (.cells vs T)) w.heap.size T vs := by
  show (w.heap.push _)[w.heap.size]? = _
  simp
theorem Box.keep {S : Nat → Prop} {w w' : World} {g : Nat} {T : TypeId} {vs : Array Value} (h : Box w g T vs) (u : Upd S w w') (hs : ¬ S g) : Box w' g T vs :=
  (u.block g h.lt hs).trans h

theorem lt_of_cell {w : World} {p : Addr} {v : Value} (h : w.cell? p = some v) : p.block < w.heap.size := by
  unfold World.cell? at h
  split at h
  · next hh => exact (Array.getElem?_eq_some_iff.1 hh).1
  · cases h
theorem Box.below {B : Nat} {w w' : World} {g : Nat} {T : TypeId} {vs : Array Value} (h : Box w g T vs) (u : Below B w w') (hg : g < B) : Box w' g T vs :=
  (u.block g hg).trans h
theorem Box.other {w : World} {g : Nat} {T : TypeId} {vs : Array Value} (h : Box w g T vs) {p : Addr} (hp : g ≠ p.block) (v : Value) : Box (w.setCell p v) g T vs :=
  (Below.heap_setCell _ _ _ _ hp).trans h
theorem Box.alloc {w : World} {g : Nat} {T : TypeId} {vs : Array Value} (h : Box w g T vs) (o : Obj) : Box (w.alloc o) g T vs :=
  (Below.heap_alloc _ _ _ h.lt).trans h

/-- A slice of integers of one kind: its numbers are told by c. -/
def Ints (k : IntKind) (w : World) (v : Value) (len : Nat) (c : Nat → Int) : Prop :=
  ∃ a cap, v = .slice a len cap ∧ ∀ i, i < len → ∃ b off, a = some ⟨b, off, none⟩ ∧ w.cell? ⟨b, off + i, none⟩ = some (.int k (c i))
theorem Ints.keep {k : IntKind} {w w' : World} {v : Value} {len : Nat} {c : Nat → Int} (h : Ints k w v len c) (u : Below w.heap.size w w') : Ints k w' v len c := by
  obtain ⟨a, cap, e, hc⟩ := h
  refine ⟨a, cap, e, fun i hi => ?_⟩
  obtain ⟨b, off, e2, h2⟩ := hc i hi
  exact ⟨b, off, e2, (u.cell (p := ⟨b, off + i, none⟩) (lt_of_cell h2)).trans h2⟩
theorem Ints.congr {k : IntKind} {w : World} {v : Value} {len : Nat} {c d : Nat → Int} (h : Ints k w v len c) (e : ∀ i, i < len → c i = d i) : Ints k w v len d := by
  obtain ⟨a, cap, e1, hc⟩ := h
  refine ⟨a, cap, e1, fun i hi => ?_⟩
  obtain ⟨b, off, e2, h2⟩ := hc i hi
  exact ⟨b, off, e2, by rw [h2, e i hi]⟩
theorem ints_of_row {w : World} {a : Option Addr} {len cap : Nat} {zs : List Int}
    (h : (a = none ∧ len = 0 ∧ cap = 0 ∧ zs = []) ∨
      ∃ x, a = some x ∧ len ≤ cap ∧ cap ≤ maxLen ∧ zs.length = cap ∧ (∀ i, i < zs.length → w.cell? (x.add i) = some (.int .i64 (zs.getD i 0))) ∧ ∀ n ∈ zs, (Lit.int .i64 n).wf = true) :
    Ints .i64 w (.slice a len cap) len (fun k => zs.getD k 0) ∧ ∀ k, -9223372036854775808 ≤ zs.getD k 0 ∧ zs.getD k 0 ≤ 9223372036854775807 := by
  rcases h with ⟨rfl, rfl, rfl, rfl⟩ | ⟨x, rfl, h1, h2, hz, hc, hwf⟩
  · exact ⟨⟨none, 0, rfl, fun i hi => by omega⟩, fun k => by simp⟩
  · refine ⟨⟨some x, cap, rfl, fun i hi => ?_⟩, fun k => ?_⟩
    · have h3 := hc i (by omega)
      obtain ⟨b, off, spot⟩ := x
      have hspot : spot = none := by
        have h0 := hc 0 (by omega)
        simpa [Addr.add] using World.cell?_spot h0
      subst hspot
      exact ⟨b, off, rfl, by rw [← Go.WideShapes.add_plain]; exact h3⟩
    · by_cases hk : k < zs.length
      · have hx : zs.getD k 0 ∈ zs := by
          rw [List.getD_eq_getElem?_getD, List.getElem?_eq_getElem hk]; exact List.getElem_mem hk
        exact bounds_i64 (hwf _ hx)
      · rw [List.getD_eq_getElem?_getD, List.getElem?_eq_none (by omega)]; simp

/-- Sixteen numbers in a block. -/
def arr (f : Nat → Nat) : Array Value := ((List.range 16).map fun k => Value.int .u32 (f k)).toArray
theorem arr_size (f : Nat → Nat) : (arr f).size = 16 := by simp [arr]
theorem arr_at (f : Nat → Nat) (k : Nat) (h : k < 16) : (arr f)[k]? = some (.int .u32 (f k)) := by
  simp [arr, h]
theorem arr_set (f : Nat → Nat) (k z : Nat) (h : k < 16) : (arr f).setIfInBounds k (.int .u32 z) = arr (fun j => if j = k then z else f j) := by
  apply Array.ext_getElem?
  intro j
  rw [Array.getElem?_setIfInBounds]
  by_cases hj : j < 16
  · rw [arr_at _ j hj, arr_at _ j hj, arr_size]
    by_cases e : k = j
    · subst e; simp [hj]
    · have : ¬ j = k := fun h => e h.symm
      simp [e, this]
  · rw [Array.getElem?_eq_none (xs := arr f) (by rw [arr_size]; omega), Array.getElem?_eq_none (xs := arr _) (by rw [arr_size]; omega), arr_size]
    split
    · omega
    · rfl
theorem arr_congr {f g : Nat → Nat} (h : ∀ k, k < 16 → f k = g k) : arr f = arr g := by
  apply Array.ext_getElem?
  intro j
  by_cases hj : j < 16
  · rw [arr_at _ j hj, arr_at _ j hj, h j hj]
  · rw [Array.getElem?_eq_none (xs := arr f) (by rw [arr_size]; omega), Array.getElem?_eq_none (xs := arr _) (by rw [arr_size]; omega)]
theorem arr_one (f : Nat → Nat) : ∀ v ∈ (arr f).toList, v.oneCell' = true := by
  intro v hv
  simp only [arr, List.mem_map] at hv
  obtain ⟨_, _, rfl⟩ := hv
  rfl
theorem arr_zero : arr (fun _ => 0) = #[.int .u32 0, .int .u32 0, .int .u32 0, .int .u32 0, .int .u32 0, .int .u32 0, .int .u32 0, .int .u32 0, .int .u32 0, .int .u32 0, .int .u32 0, .int .u32 0, .int .u32 0, .int .u32 0, .int .u32 0, .int .u32 0] := rfl
end Go.Proofs.Ythelcnidkehlhaa.Gnd
