/- Plain numbers: how many symbols each of the five codes has; what each code tells of a step. No function of the program. No conditions. -/
import Derived.Test.YtgjpcjnhggcfdaaDoorPNum
namespace Go.Proofs.YtgjpcjnhggcfdaaDoor.HNum
open Go.Proofs.YtgjpcjnhggcfdaaDoor.PNum

/-- A step: its kind, length, distance, place, colour. -/
structure Tk where
  k : Int
  n : Int
  d : Int
  i : Int
  a : Nat
/-- How many places a cache has. -/
def pl (c : Nat) : Nat := if c = 0 then 0 else 2 ^ c
/-- How many symbols each of the five codes has. -/
def sz (c i : Nat) : Nat := if i = 0 then 280 + pl c else if i = 4 then 40 else 256
theorem pl_le (c : Nat) (h : c ≤ 11) : pl c ≤ 2048 := by
  unfold pl
  split
  · omega
  · exact Nat.pow_le_pow_right (n := 2) (by omega) h
theorem sz_bd (c i : Nat) (h : c ≤ 11) : 40 ≤ sz c i ∧ sz c i ≤ 2328 := by
  have := pl_le c h
  unfold sz
  split
  · omega
  · split <;> omega
/-- What one code tells of a step: whether it is there, the symbol, the number of bits behind it, the bits. -/
structure Pa where
  th : Bool
  sy : Nat
  bi : Nat
  ex : Nat
def nop : Pa := ⟨false, 0, 0, 0⟩
def sgl (s : Nat) : Pa := ⟨true, s, 0, 0⟩
/-- Five numbers. -/
def fvn (s : Nat → Nat) : Array Value := #[.int .i64 (s 0), .int .i64 (s 1), .int .i64 (s 2), .int .i64 (s 3), .int .i64 (s 4)]
/-- Five values. -/
def fv (u : Nat → Value) : Array Value := #[u 0, u 1, u 2, u 3, u 4]
/-- One part. -/
def pc (q : Pa) : Array Value := #[.bool q.th, .int .i64 q.sy, .int .i64 q.bi, .int .u32 q.ex]
/-- Five parts. -/
def prc (q : Nat → Pa) : Array Value := #[.bool (q 0).th, .int .i64 (q 0).sy, .int .i64 (q 0).bi, .int .u32 (q 0).ex, .bool (q 1).th, .int .i64 (q 1).sy, .int .i64 (q 1).bi, .int .u32 (q 1).ex, .bool (q 2).th, .int .i64 (q 2).sy, .int .i64 (q 2).bi, .int .u32 (q 2).ex, .bool (q 3).th, .int .i64 (q 3).sy, .int .i64 (q 3).bi, .int .u32 (q 3).ex, .bool (q 4).th, .int .i64 (q 4).sy, .int .i64 (q 4).bi, .int .u32 (q 4).ex]
/-- A step's five cells. -/
def tkc (t : Tk) : Array Value := #[.int .i64 t.k, .int .i64 t.n, .int .i64 t.d, .int .i64 t.i, .int .u32 t.a]
theorem fvn_size (s : Nat → Nat) : (fvn s).size = 5 := rfl
theorem prc_size (q : Nat → Pa) : (prc q).size = 20 := rfl
/-- What the codes tell of a Literal. -/
def plit (a : Nat) (i : Nat) : Pa := if i = 0 then sgl (pt a 2) else if i = 1 then sgl (pt a 1) else if i = 2 then sgl (pt a 3) else if i = 3 then sgl (pt a 0) else nop
theorem lt5 {i : Nat} (h : i < 5) : i = 0 ∨ i = 1 ∨ i = 2 ∨ i = 3 ∨ i = 4 := by omega
end Go.Proofs.YtgjpcjnhggcfdaaDoor.HNum
