/-
  Contracts: le.isWidth, le.Blocks and le.Get as other layers call them. Conditions: the numbers are within their bounds, the slice reads as bytes.
  Contracts: package bitin: New, Bits, Left, Over, by the state that the reader is in. Conditions: the reader lies in memory, its bytes are few.
  Contracts: the document's own reading of bits (ref.Bits, ref.Look, Eye.Num). Conditions: the slice reads as bytes, and they are few.
  Numbers alone: which symbol comes next by complete lengths; where a tree keeps its symbols. Conditions: as each says.
  Contracts: bits.Reverse32 and the program's turned. Conditions: the number has at most 32 bits, and so many are asked for.
-/
import Derived.Test.YtaidboopcoaeeaaDoorC02
import Derived.Test.YtaidboopcoaeeaaDoorC01
namespace Go.Proofs.YtaidboopcoaeeaaDoor.Le
open Go.ChangeShapes Go.WideShapes Go.ChangeAt Go.RowKit Go.Proofs.YtaidboopcoaeeaaDoor.Core

/-- The number of n bytes from p on, the lowest first. -/
def leN (c : Nat → Int) : Nat → Nat → Int
  | _, 0 => 0
  | p, n + 1 => c p + 256 * leN c (p + 1) n
theorem leN_bd (c : Nat → Int) (hc : ∀ k, 0 ≤ c k ∧ c k ≤ 255) : ∀ (n p : Nat), 0 ≤ leN c p n ∧ leN c p n < 256 ^ n
  | 0, p => by simp [leN]
  | n + 1, p => by
    have := leN_bd c hc n (p + 1)
    have h := hc p
    rw [leN, Int.pow_succ]; omega
theorem leN_bd7 (c : Nat → Int) (hc : ∀ k, 0 ≤ c k ∧ c k ≤ 255) (n p : Nat) (hn : n ≤ 7) : 0 ≤ leN c p n ∧ leN c p n < 72057594037927936 := by
  have h := leN_bd c hc n p
  have h1 : (256 : Nat) ^ n ≤ 256 ^ 7 := Nat.pow_le_pow_right (by omega) hn
  have h2 : (256 : Nat) ^ 7 = 72057594037927936 := by decide
  have h3 : ((256 ^ n : Nat) : Int) = (256 : Int) ^ n := by simp
  omega
theorem or_add (a b : Int) (h1 : 0 ≤ a) (h2 : a < 72057594037927936) (h3 : 0 ≤ b) (h4 : b ≤ 255) : bits .or .u64 (a * 256) b = a * 256 + b := by
  rw [u64_or _ _ (by omega) (by omega) (by omega) (by omega), nat_join 8 _ _ (by omega) (by omega)]; omega

set_option maxHeartbeats 400000 in
theorem width_yes (n : Int) (w : World) (h0 : 1 ≤ n) (h1 : n ≤ 8) :
    Calls Tryd.prog 82 #[.int .i64 n] w fun e w' => e = .returned (.bool true) ∧ w' = w := by
  go_enter Tryd.func82, Tryd.ntmps82
  go_wp2
  go_ret
  exact ⟨rfl, rfl⟩
set_option maxHeartbeats 400000 in
theorem blk19 (n : Int) (w : World) (h0 : 0 ≤ n) (h1 : n ≤ 100) :
    Calls Tryd.prog 73 #[.int .i64 n, .int .i64 3] w fun e w' => e = .returned (.int .i64 ((n + 7) / 8)) ∧ w' = w := by
  go_enter Tryd.func73, Tryd.ntmps73
  go_wp2
  go_ret
  exact ⟨ret_int (by omega), rfl⟩
set_option maxHeartbeats 400000 in
theorem get18_yes (b off len cap : Nat) (c : Nat → Int) (at_ n : Nat) (w : World) (hl : len ≤ maxLen)
    (hc : ∀ k, k < len → w.cell? ⟨b, off + k, none⟩ = some (.int .u8 (c k))) (hb : ∀ k, 0 ≤ c k ∧ c k ≤ 255)
    (h0 : 1 ≤ n) (h1 : n ≤ 8) (h2 : at_ + n ≤ len) :
    Calls Tryd.prog 72 #[.slice (some ⟨b, off, none⟩) len cap, .int .i64 at_, .int .i64 n] w fun e w' => e = .returned (.tuple #[.int .u64 (leN c at_ n), .bool true]) ∧ w' = w := by
  unfold maxLen at hl
  go_enter Tryd.func72, Tryd.ntmps72
  go_wp2_with (go_at_call 82; refine (width_yes _ _ (by omega) (by omega)).mono ?_; rintro e w' ⟨rfl, rfl⟩)
  go_loop [8, 9] (fun v i => ∃ j : Nat, j ≤ n ∧ i = .int .i64 ((j : Int) - 1) ∧ v = .int .u64 (leN c (at_ + j) (n - j))) (fun _ i => (intOf i + 1).toNat)
  case atStart => exact ⟨n, Nat.le_refl _, rfl, by simp [leN]⟩
  case round =>
    obtain ⟨j, hj, rfl, rfl⟩ := hrel
    rcases j with _ | j
    · go_wp2
      go_ret2
      exact ⟨rfl, rfl⟩
    · have e1 : ((j + 1 : Nat) : Int) - 1 = (j : Int) := by omega
      rw [e1]
      clear e1
      have g := hc (at_ + j) (by omega)
      have gb := hb (at_ + j)
      have vb := leN_bd7 c hb (n - (j + 1)) (at_ + (j + 1)) (by omega)
      have S : Hid (leN c (at_ + j) (n - j) = c (at_ + j) + 256 * leN c (at_ + (j + 1)) (n - (j + 1))) := by
        show _ = _
        rw [show n - j = (n - (j + 1)) + 1 from by omega, leN]; rfl
      generalize leN c (at_ + (j + 1)) (n - (j + 1)) = v at *
      generalize c (at_ + j) = x at *
      have O := hide (or_add v x vb.1 vb.2 gb.1 gb.2)
      clear hc hb
      go_wp2
      go_round
      case rel => exact ⟨j, by omega, by go_num, by rw [unhide S, unhide O]; go_num⟩
      case measure => simp [intOf]
end Go.Proofs.YtaidboopcoaeeaaDoor.Le

namespace Go.Proofs.YtaidboopcoaeeaaDoor.Bitin
open Go.ChangeShapes Go.WideShapes Go.ChangeAt Go.RowKit Go.Proofs.YtaidboopcoaeeaaDoor.Core Go.Proofs.YtaidboopcoaeeaaDoor.Le

/-- The number that n bytes make from p on. -/
def num (c : Nat → Nat) : Nat → Nat → Nat
  | _, 0 => 0
  | p, n + 1 => c p + 256 * num c (p + 1) n
theorem leN_num (c : Nat → Nat) : ∀ n p, leN (fun k => (c k : Int)) p n = (num c p n : Int)
  | 0, p => rfl
  | n + 1, p => by rw [leN, num, leN_num c n (p + 1)]; simp
theorem num_lt (c : Nat → Nat) (hc : ∀ k, c k ≤ 255) : ∀ n p, num c p n < 256 ^ n
  | 0, p => by simp [num]
  | n + 1, p => by
    have := num_lt c hc n (p + 1)
    have h := hc p
    rw [num, Nat.pow_succ]; omega
theorem num_split (c : Nat → Nat) : ∀ a b p, num c p (a + b) = num c p a + 256 ^ a * num c (p + a) b
  | 0, b, p => by simp [num]
  | a + 1, b, p => by
    rw [show a + 1 + b = (a + b) + 1 from by omega, num, num, num_split c a b (p + 1), Nat.pow_succ, Nat.mul_add, show p + 1 + a = p + (a + 1) from by omega,
      Nat.mul_comm (256 ^ a) 256, Nat.mul_assoc, Nat.add_assoc]
theorem num_part (c : Nat → Nat) (hc : ∀ k, c k ≤ 255) (p m len : Nat) (h : p + m ≤ len) : num c 0 len / 256 ^ p % 256 ^ m = num c p m := by
  obtain ⟨r, rfl⟩ : ∃ r, len = p + (m + r) := ⟨len - p - m, by omega⟩
  rw [num_split c p (m + r) 0, Nat.add_mul_div_left _ _ (Nat.pow_pos (by omega)), Nat.div_eq_of_lt (num_lt c hc p 0), Nat.zero_add, Nat.zero_add,
    num_split c m r p, Nat.add_mul_mod_self_left, Nat.mod_eq_of_lt (num_lt c hc m p)]
/-- The n bits from place i on. -/
def val (c : Nat → Nat) (len i n : Nat) : Nat := num c 0 len / 2 ^ i % 2 ^ n
theorem take_eq (c : Nat → Nat) (hc : ∀ k, c k ≤ 255) (p s m n len : Nat) (h : p + m ≤ len) (h2 : s + n ≤ 8 * m) :
    num c p m / 2 ^ s % 2 ^ n = val c len (8 * p + s) n := by
  rw [← num_part c hc p m len h]
  unfold val
  generalize num c 0 len = N
  rw [show (256 : Nat) = 2 ^ 8 from rfl, ← Nat.pow_mul, ← Nat.pow_mul, Nat.pow_add, ← Nat.div_div_eq_div_mul]
  generalize N / 2 ^ (8 * p) = X
  obtain ⟨t, ht⟩ : ∃ t, 8 * m = s + t := ⟨8 * m - s, by omega⟩
  rw [ht, Nat.pow_add, Nat.mod_mul_right_div_self, Nat.mod_mod_of_dvd _ (Nat.pow_dvd_pow 2 (by omega))]
theorem val_lt (c : Nat → Nat) (len i n : Nat) : val c len i n < 2 ^ n := Nat.mod_lt _ (Nat.pow_pos (by omega))
theorem val_add (c : Nat → Nat) (len i x y : Nat) : val c len i (x + y) = val c len i x + val c len (i + x) y * 2 ^ x := by
  unfold val
  rw [Nat.pow_add, Nat.mod_mul, Nat.pow_add, ← Nat.div_div_eq_div_mul, Nat.mul_comm (2 ^ x)]

/-- A reader that lies at block g, with i bits read; it and its bytes lie from lo to hi. -/
def On (w : World) (lo hi g : Nat) (c : Nat → Nat) (len i : Nat) : Prop :=
  ∃ a cap, Box w g 67 #[.slice a len cap, .int .i64 i, .bool false] ∧ lo ≤ g ∧ g < hi ∧ hi ≤ w.heap.size ∧ i ≤ 8 * len ∧
    (len = 0 ∨ ∃ b, a = some ⟨b, 0, none⟩ ∧ lo ≤ b ∧ b < hi ∧ b ≠ g ∧ ∀ k, k < len → w.cell? ⟨b, k, none⟩ = some (.int .u8 (c k)))
/-- A reader that is over. -/
def Off (w : World) (g : Nat) : Prop := Box w g 67 #[.slice none 0 0, .int .i64 0, .bool true]
theorem On.keep {S : Nat → Prop} {w w' : World} {lo hi g len i : Nat} {c : Nat → Nat} (h : On w lo hi g c len i) (u : Upd S w w') (hs : ∀ k, lo ≤ k → k < hi → ¬ S k) : On w' lo hi g c len i := by
  obtain ⟨a, cap, h0, h1, h2, h3, h4, h5⟩ := h
  refine ⟨a, cap, h0.keep u (hs g h1 h2), h1, h2, Nat.le_trans h3 u.size, h4, ?_⟩
  rcases h5 with h5 | ⟨b, e, b1, b2, b3, b4⟩
  · exact .inl h5
  · exact .inr ⟨b, e, b1, b2, b3, fun k hk => (u.cell (p := ⟨b, k, none⟩) (Nat.lt_of_lt_of_le b2 h3) (hs b b1 b2)).trans (b4 k hk)⟩
theorem Off.keep {S : Nat → Prop} {w w' : World} {g : Nat} (h : Off w g) (u : Upd S w w') (hs : ¬ S g) : Off w' g := Box.keep h u hs

set_option maxHeartbeats 400000 in
theorem left_nil (w : World) :
    Calls Tryd.prog 59 #[.pointer none] w fun e w' => e = .returned (.int .i64 0) ∧ w' = w := by
  go_enter Tryd.func59, Tryd.ntmps59
  go_wp2
  go_ret
  exact ⟨rfl, rfl⟩
set_option maxHeartbeats 400000 in
theorem over_nil (w : World) :
    Calls Tryd.prog 53 #[.pointer none] w fun e w' => e = .returned (.bool true) ∧ w' = w := by
  go_enter Tryd.func53, Tryd.ntmps53
  go_wp2
  go_ret
  exact ⟨rfl, rfl⟩
set_option maxHeartbeats 400000 in
theorem left_at (g : Nat) (a : Option Addr) (len cap i : Nat) (b : Bool) (w : World) 
    (h : Box w g 67 #[.slice a len cap, .int .i64 i, .bool b]) (hl : len ≤ 1000000) (i1 : i ≤ 8 * len) :
    Calls Tryd.prog 59 #[.pointer (some ⟨g, 0, none⟩)] w fun e w' => e = .returned (.int .i64 ((8 * len - i : Nat) : Int)) ∧ ∃ k, w' = w.drewN k := by
  have h0 := h.cell 0
  have h1 := h.cell 1
  simp at h0 h1
  clear h
  go_enter Tryd.func59, Tryd.ntmps59
  go_wp2
  go_quiet (fail)
  go_wp2
  go_ret
  exact ⟨ret_int (by omega), _, rfl⟩
set_option maxHeartbeats 400000 in
theorem over_at (g : Nat) (v : Value) (u : Value) (b : Bool) (w : World) 
    (h : Box w g 67 #[u, v, .bool b]) :
    Calls Tryd.prog 53 #[.pointer (some ⟨g, 0, none⟩)] w fun e w' => e = .returned (.bool b) ∧ w' = w := by
  have h2 := h.cell 2
  simp at h2
  clear h
  go_enter Tryd.func53, Tryd.ntmps53
  go_wp2
  go_ret
  exact ⟨rfl, rfl⟩
set_option maxHeartbeats 400000 in
theorem end_at (g : Nat) (x y z : Value) (w : World) (h : Box w g 67 #[x, y, z]) :
    Calls Tryd.prog 60 #[.pointer (some ⟨g, 0, none⟩)] w fun e w' => e = .returned (.tuple #[]) ∧ Off w' g ∧ Upd (fun k => k = g) w w' := by
  have f0 := h.free 0
  have f1 := h.free 1
  have f2 := h.free 2
  have h0 := h.cell 0
  have h1 := h.cell 1
  have h2 := h.cell 2
  simp at h0 h1 h2
  have H := hide h
  clear h
  go_enter Tryd.func60, Tryd.ntmps60
  go_wp2
  go_end0
  refine ⟨rfl, ?_, ?_⟩
  · exact (((unhide H).set 0 _).set 1 _).set 2 _
  · exact (((Upd.refl (fun k => k = g) w).setCell (p := ⟨g, 0, none⟩) rfl _).setCell (p := ⟨g, 1, none⟩) rfl _).setCell (p := ⟨g, 2, none⟩) rfl _
theorem pow32 (n : Nat) (h : n ≤ 32) : (1 : Int) ≤ 2 ^ n ∧ (2 : Int) ^ n ≤ 4294967296 := by
  have h1 : (2 : Nat) ^ n ≤ 2 ^ 32 := Nat.pow_le_pow_right (by omega) h
  have h2 : 0 < (2 : Nat) ^ n := Nat.pow_pos (by omega)
  have h3 : ((2 ^ n : Nat) : Int) = (2 : Int) ^ n := by simp
  have h4 : (2 : Nat) ^ 32 = 4294967296 := by decide
  omega
theorem and_mask (X s n : Nat) (hX : X < 256 ^ 8) (hn : n ≤ 32) : bits .and .u64 ((X : Int) / 2 ^ s) (2 ^ n - 1) % 4294967296 = ((X / 2 ^ s % 2 ^ n : Nat) : Int) := by
  have e1 : (X : Int) / 2 ^ s = ((X / 2 ^ s : Nat) : Int) := by simp
  have e2 : (2 : Int) ^ n - 1 = ((2 ^ n - 1 : Nat) : Int) := by
    have h3 : ((2 ^ n : Nat) : Int) = (2 : Int) ^ n := by simp
    have h2 : 0 < (2 : Nat) ^ n := Nat.pow_pos (by omega)
    omega
  have h1 : (2 : Nat) ^ n ≤ 2 ^ 32 := Nat.pow_le_pow_right (by omega) hn
  have h4 : (2 : Nat) ^ 32 = 4294967296 := by decide
  have h5 : (256 : Nat) ^ 8 = 18446744073709551616 := by decide
  have h6 : X / 2 ^ s ≤ X := Nat.div_le_self _ _
  have h7 : X / 2 ^ s % 2 ^ n < 2 ^ n := Nat.mod_lt _ (Nat.pow_pos (by omega))
  rw [e1, e2, u64_and_nat _ _ (by omega) (by omega), Nat.and_two_pow_sub_one_eq_mod]
  omega
set_option maxHeartbeats 400000 in
theorem take_at (g b len cap i p s n m : Nat) (c : Nat → Nat) (hc : ∀ k, c k ≤ 255) (w : World) 
    (h : Box w g 67 #[.slice (some ⟨b, 0, none⟩) len cap, .int .i64 i, .bool false]) (hb : ∀ k, k < len → w.cell? ⟨b, k, none⟩ = some (.int .u8 (c k)))
    (hl : len ≤ 1000000) (hs : s < 8) (n0 : 1 ≤ n) (n1 : n ≤ 32) (hi : i = 8 * p + s) (hn : i + n ≤ 8 * len) (hm : m = (s + n + 7) / 8) :
    Calls Tryd.prog 61 #[.pointer (some ⟨g, 0, none⟩), .int .i64 n] w fun e w' => e = .returned (.int .u32 (val c len i n)) ∧ 
      Box w' g 67 #[.slice (some ⟨b, 0, none⟩) len cap, .int .i64 ((i + n : Nat) : Int), .bool false] ∧ Upd (fun k => k = g) w w' := by
  have f0 := h.free 1
  have h0 := h.cell 0
  have h1 := h.cell 1
  simp at h0 h1
  have H := hide h
  have m1 : 1 ≤ m := by omega
  have m2 : m ≤ 5 := by omega
  have E := hide (take_eq c hc p s m n len (by omega) (by omega))
  rw [← hi] at E
  have hmod : ((i : Int) % 8) = (s : Int) := by omega
  have hdiv : ((i : Int) / 8) = (p : Int) := by omega
  have hblk : ((s : Int) + (n : Int) + 7) / 8 = (m : Int) := by omega
  have hi1 : (i : Int) ≤ 8000000 := by omega
  have hsz : p + m ≤ len := by omega
  have HM := hide hm
  have HI := hide hi
  have X : ∀ k, Calls Tryd.prog 72 #[.slice (some ⟨b, 0, none⟩) len cap, .int .i64 p, .int .i64 m] (w.drewN k) fun e w' => e = .returned (.tuple #[.int .u64 (num c p m), .bool true]) ∧ w' = w.drewN k := fun k => by
    have := get18_yes b 0 len cap (fun k => (c k : Int)) p m (w.drewN k) (by unfold maxLen; omega) (fun k hk => by rw [Nat.zero_add]; exact hb k hk) (fun k => by have := hc k; omega) m1 (by omega) hsz
    rw [leN_num] at this
    exact this
  have GX := hide X
  clear h hb hm hi X
  go_enter Tryd.func61, Tryd.ntmps61
  go_wp2
  go_quiet ((first | (go_at_call 73; exact Calls.quiet_of_same (blk19 _ _ (by omega) (by omega))) | (go_at_call 72; exact Calls.quiet_of_same (unhide GX _))))
  obtain ⟨p1, p2⟩ := pow32 n n1
  obtain ⟨q1, q2⟩ := pow32 s (by omega)
  go_wp2
  go_quiet (fail)
  go_wp2
  go_ret
  refine ⟨ret_int ?_, ?_, ?_⟩
  · rw [and_mask _ _ _ (Nat.lt_of_lt_of_le (num_lt c hc m p) (Nat.pow_le_pow_right (j := 8) (by omega) (by omega))) n1, unhide E]
  · exact ((unhide H).drewN _).set 1 _
  · exact (((Upd.refl (fun k => k = g) w).drewN _).setCell (p := ⟨g, 1, none⟩) rfl _).drewN _

theorem ret_ue {a b : Int} {c : Int} (h : a = b) : Ending.returned (.tuple #[.int .u32 a, .int .i64 c]) = .returned (.tuple #[.int .u32 b, .int .i64 c]) := by rw [h]
set_option maxHeartbeats 400000 in
theorem bits_nil (n : Int) (w : World) :
    Calls Tryd.prog 52 #[.pointer none, .int .i64 n] w fun e w' => e = .returned (.tuple #[.int .u32 0, .int .i64 2]) ∧ w' = w := by
  go_enter Tryd.func52, Tryd.ntmps52
  go_wp2
  go_ret2
  exact ⟨rfl, rfl⟩
set_option maxHeartbeats 400000 in
theorem bits_arg (g : Nat) (n : Int) (w : World) (h : n < 0 ∨ 32 < n) :
    Calls Tryd.prog 52 #[.pointer (some ⟨g, 0, none⟩), .int .i64 n] w fun e w' => e = .returned (.tuple #[.int .u32 0, .int .i64 1]) ∧ w' = w := by
  rcases h with h | h
  · go_enter Tryd.func52, Tryd.ntmps52
    go_wp2
    go_ret2
    exact ⟨rfl, rfl⟩
  · have h' : 0 ≤ n := by omega
    go_enter Tryd.func52, Tryd.ntmps52
    go_wp2
    go_ret2
    exact ⟨rfl, rfl⟩
set_option maxHeartbeats 400000 in
theorem bits_zero (g : Nat) (w : World) :
    Calls Tryd.prog 52 #[.pointer (some ⟨g, 0, none⟩), .int .i64 0] w fun e w' => e = .returned (.tuple #[.int .u32 0, .int .i64 0]) ∧ w' = w := by
  go_enter Tryd.func52, Tryd.ntmps52
  go_wp2
  go_ret2
  exact ⟨rfl, rfl⟩
set_option maxHeartbeats 400000 in
theorem bits_short (g : Nat) (a : Option Addr) (len cap i : Nat) (b : Bool) (n : Nat) (w : World) 
    (h : Box w g 67 #[.slice a len cap, .int .i64 i, .bool b]) (hl : len ≤ 1000000) (i1 : i ≤ 8 * len) (n0 : 1 ≤ n) (n1 : n ≤ 32) (hn : 8 * len < i + n) :
    Calls Tryd.prog 52 #[.pointer (some ⟨g, 0, none⟩), .int .i64 n] w fun e w' => e = .returned (.tuple #[.int .u32 0, .int .i64 2]) ∧ Off w' g ∧ Upd (fun k => k = g) w w' := by
  have H := hide h
  have L := hide (left_at g a len cap i b w h hl i1)
  have hd : ((8 * len - i : Nat) : Int) < (n : Int) := by omega
  clear h
  generalize 8 * len - i = r at *
  clear i1 hn hl
  go_enter Tryd.func52, Tryd.ntmps52
  go_wp2_with fail
  refine (unhide L).mono ?_
  rintro e w1 ⟨rfl, kk, rfl⟩
  go_wp2_with fail
  refine (end_at g _ _ _ _ ((unhide H).drewN kk)).mono ?_
  rintro e w2 ⟨rfl, o2, u2⟩
  have O2 := hide o2
  have U2 := hide u2
  clear o2 u2
  go_wp2
  go_ret2
  exact ⟨rfl, unhide O2, ((Upd.refl _ w).drewN kk).trans (unhide U2)⟩
theorem bits_end (lo hi g len i n : Nat) (c : Nat → Nat) (w : World) (h : On w lo hi g c len i) (hl : len ≤ 1000000) (n0 : 1 ≤ n) (n1 : n ≤ 32) (hn : 8 * len < i + n) :
    Calls Tryd.prog 52 #[.pointer (some ⟨g, 0, none⟩), .int .i64 n] w fun e w' => e = .returned (.tuple #[.int .u32 0, .int .i64 2]) ∧ Off w' g ∧ Upd (fun k => k = g) w w' := by
  obtain ⟨a, cap, h0, h1, h2, h3, h4, h5⟩ := h
  exact bits_short g a len cap i false n w h0 hl h4 n0 n1 hn
theorem bits_off (g n : Nat) (w : World) (h : Off w g) (n0 : 1 ≤ n) (n1 : n ≤ 32) :
    Calls Tryd.prog 52 #[.pointer (some ⟨g, 0, none⟩), .int .i64 n] w fun e w' => e = .returned (.tuple #[.int .u32 0, .int .i64 2]) ∧ Off w' g ∧ Upd (fun k => k = g) w w' :=
  bits_short g none 0 0 0 true n w h (by omega) (by omega) n0 n1 (by omega)
set_option maxHeartbeats 400000 in
theorem bits_on (lo hi g len i n : Nat) (c : Nat → Nat) (hc : ∀ k, c k ≤ 255) (w : World) (h : On w lo hi g c len i) (hl : len ≤ 1000000) (n0 : 1 ≤ n) (n1 : n ≤ 32) (hn : i + n ≤ 8 * len) :
    Calls Tryd.prog 52 #[.pointer (some ⟨g, 0, none⟩), .int .i64 n] w fun e w' => e = .returned (.tuple #[.int .u32 (val c len i n), .int .i64 0]) ∧ On w' lo hi g c len (i + n) ∧ Upd (fun k => k = g) w w' := by
  obtain ⟨a, cap, h0, h1, h2, h3, h4, h5⟩ := h
  rcases h5 with h5 | ⟨b, rfl, b1, b2, b3, b4⟩
  · omega
  have L := hide (left_at g _ len cap i _ w h0 hl h4)
  have T := hide (fun k => take_at g b len cap i (i / 8) (i % 8) n ((i % 8 + n + 7) / 8) c hc (w.drewN k) (h0.drewN k) b4 hl (by omega) n0 n1 (by omega) hn rfl)
  have B4 := hide b4
  have HN := hide hn
  have hd : (n : Int) ≤ ((8 * len - i : Nat) : Int) := by omega
  clear h0 h4 b4 hn
  generalize 8 * len - i = r at *
  go_enter Tryd.func52, Tryd.ntmps52
  go_wp2_with fail
  refine (unhide L).mono ?_
  rintro e w1 ⟨rfl, kk, rfl⟩
  go_wp2_with fail
  refine (unhide T kk).mono ?_
  rintro e w2 ⟨rfl, o2, u2⟩
  have O2 := hide o2
  have U2 := hide (((Upd.refl _ w).drewN kk).trans u2)
  clear o2 u2 T L
  go_wp2
  go_ret2
  exact ⟨rfl, ⟨_, cap, unhide O2, h1, h2, Nat.le_trans h3 (unhide U2).size, unhide HN, .inr ⟨b, rfl, b1, b2, b3, fun k hk => ((unhide U2).cell (p := ⟨b, k, none⟩) (Nat.lt_of_lt_of_le b2 h3) b3).trans (unhide B4 k hk)⟩⟩, unhide U2⟩
theorem left_on (lo hi g len i : Nat) (c : Nat → Nat) (w : World) (h : On w lo hi g c len i) (hl : len ≤ 1000000) :
    Calls Tryd.prog 59 #[.pointer (some ⟨g, 0, none⟩)] w fun e w' => e = .returned (.int .i64 ((8 * len - i : Nat) : Int)) ∧ ∃ k, w' = w.drewN k := by
  obtain ⟨a, cap, h0, h1, h2, h3, h4, h5⟩ := h
  exact left_at g a len cap i false w h0 hl h4
theorem left_off (g : Nat) (w : World) (h : Off w g) :
    Calls Tryd.prog 59 #[.pointer (some ⟨g, 0, none⟩)] w fun e w' => e = .returned (.int .i64 0) ∧ ∃ k, w' = w.drewN k :=
  left_at g none 0 0 0 true w h (by omega) (by omega)
theorem over_on (lo hi g len i : Nat) (c : Nat → Nat) (w : World) (h : On w lo hi g c len i) :
    Calls Tryd.prog 53 #[.pointer (some ⟨g, 0, none⟩)] w fun e w' => e = .returned (.bool false) ∧ w' = w := by
  obtain ⟨a, cap, h0, h1, h2, h3, h4, h5⟩ := h
  exact over_at g _ _ _ w h0
theorem over_off (g : Nat) (w : World) (h : Off w g) :
    Calls Tryd.prog 53 #[.pointer (some ⟨g, 0, none⟩)] w fun e w' => e = .returned (.bool true) ∧ w' = w := over_at g _ _ _ w h
theorem eql_nil (w : World) : (binOp .eql 34 (.slice none 0 0) (.slice none 0 0)).run Tryd.prog w = .ok (.bool true) w := by kernel_rfl
theorem eql_some (w : World) (a : Addr) (n c : Nat) : (binOp .eql 34 (.slice (some a) n c) (.slice none 0 0)).run Tryd.prog w = .ok (.bool false) w := by kernel_rfl
set_option maxHeartbeats 400000 in
theorem clone14 (v : Value) (len : Nat) (c : Nat → Nat) (w : World) (h : Src w v len c) (hl : len ≤ 1000000) :
    Calls Tryd.prog 31 #[v] w fun e w' => ∃ u, e = .returned u ∧ Got w' w.heap.size u len c ∧ Below w.heap.size w w' := by
  rcases h with ⟨rfl, rfl⟩ | ⟨x, cap, rfl, hc⟩
  · have hq := eql_nil
    go_enter Tryd.func31, Tryd.ntmps31
    go_wp2
    go_ret
    exact ⟨_, rfl, ⟨none, 0, rfl, .inl rfl⟩, Below.refl _ _⟩
  · obtain ⟨i0, hi, hz0, hz1, hz2⟩ := info_parts Tryd.info5
    have n1 := news_of (w := w.alloc (.cells #[] 5)) (n := len) (c := c) (x := x) (fun k hk => ((Upd.refl (fun _ => False) w).alloc _).cell (lt_of_cell (hc k hk)) (fun h => h) |>.trans (hc k hk))
    have ownE : (w.alloc (.cells #[] 5)).ownsRow w.heap.size 5 1 (.slice (some ⟨w.heap.size, 0, none⟩) 0 0) 0 [] := World.ownsRow_lit w #[] 0 (Nat.le_refl _) (by decide) rfl
    have N1 := hide n1
    have OE := hide ownE
    clear n1 ownE hc
    have hq := fun w => eql_some w x len cap
    go_enter Tryd.func31, Tryd.ntmps31
    go_wp2_with (first | (at_builtin; refine wpList_append_own _ rfl (.tmp 5) (.tmp 6) 34 rfl w.heap.size 5 i0 (.int .u8 0) 1 1 Tryd.underlying34 hi hz0 hz1 hz2 rfl (by decide) _ _ _ rfl (unhide OE) x len cap (cells c len) rfl (by rw [cells_len, Nat.mul_one]) (unhide N1) (cells_one _ _) (by unfold maxLen; omega) (by omega) (by simp) ?_; intro v3 w3 own3 grow3 _; have O3 := hide own3; have G3 := hide grow3; clear own3 grow3) | fail)
    go_ret
    have o3 := unhide O3
    rw [Nat.zero_add, List.nil_append] at o3
    exact ⟨_, rfl, got_of o3, ((Below.refl _ w).alloc (Nat.le_refl _) _).grown (unhide G3) (by simp) (fun k hk => by cases hk; exact Nat.le_refl _)⟩
set_option maxHeartbeats 400000 in
theorem new8 (v : Value) (len : Nat) (c : Nat → Nat) (w : World) (h : Src w v len c) (hl : len ≤ 1000000) :
    Calls Tryd.prog 17 #[v] w fun e w' => ∃ g, e = .returned (.pointer (some ⟨g, 0, none⟩)) ∧ On w' w.heap.size w'.heap.size g c len 0 ∧ Below w.heap.size w w' := by
  have C := hide (clone14 v len c w h hl)
  clear h
  go_enter Tryd.func17, Tryd.ntmps17
  go_wp2_with fail
  refine (unhide C).mono ?_
  rintro e w1 ⟨u, rfl, ⟨a, cap, rfl, g1⟩, bel1⟩
  have G1 := hide g1
  have B1 := hide bel1
  clear g1 bel1 C
  go_wp2
  go_ret
  have hs : w.heap.size ≤ w1.heap.size := (unhide B1).size
  refine ⟨w1.heap.size, rfl, ⟨a, cap, Box.made _ _ _, hs, by simp, Nat.le_refl _, Nat.zero_le _, ?_⟩, (unhide B1).alloc hs _⟩
  rcases unhide G1 with h | ⟨b, rfl, h1, h2, h3⟩
  · exact .inl h
  · exact .inr ⟨b, rfl, h1, by simp; omega, by omega, fun k hk => by rw [World.cell?_alloc_past _ _ _ (by exact h2)]; exact h3 k hk⟩

/-- The state behind a call: how many bits are read; none: it is over. -/
def stp (len : Nat) (s : Option Nat) (n : Nat) : Option Nat :=
  if n = 0 then s else match s with | some i => if i + n ≤ 8 * len then some (i + n) else none | none => none
def resV (c : Nat → Nat) (len : Nat) (s : Option Nat) (n : Nat) : Nat :=
  match s with | some i => if i + n ≤ 8 * len then val c len i n else 0 | none => 0
def resE (len : Nat) (s : Option Nat) (n : Nat) : Nat :=
  if n = 0 then 0 else match s with | some i => if i + n ≤ 8 * len then 0 else 2 | none => 2
/-- A reader in a state. -/
def At (w : World) (lo hi g : Nat) (c : Nat → Nat) (len : Nat) (s : Option Nat) : Prop :=
  lo ≤ g ∧ g < hi ∧ hi ≤ w.heap.size ∧ match s with | some i => On w lo hi g c len i | none => Off w g
theorem On.at {w : World} {lo hi g len i : Nat} {c : Nat → Nat} (h : On w lo hi g c len i) : At w lo hi g c len (some i) := by
  refine ⟨?_, ?_, ?_, h⟩ <;> (obtain ⟨_, _, _, h1, h2, h3, _⟩ := h; assumption)
theorem At.keep {S : Nat → Prop} {w w' : World} {lo hi g len : Nat} {s : Option Nat} {c : Nat → Nat} (h : At w lo hi g c len s) (u : Upd S w w') (hs : ∀ k, lo ≤ k → k < hi → ¬ S k) : At w' lo hi g c len s := by
  obtain ⟨h1, h2, h3, h4⟩ := h
  refine ⟨h1, h2, Nat.le_trans h3 u.size, ?_⟩
  cases s with
  | some i => exact On.keep h4 u hs
  | none => exact Off.keep h4 u (hs g h1 h2)
theorem On.le {w : World} {lo hi g len i : Nat} {c : Nat → Nat} (h : On w lo hi g c len i) : i ≤ 8 * len := by
  obtain ⟨_, _, _, _, _, _, h, _⟩ := h; exact h
theorem bits_step (lo hi g len n : Nat) (s : Option Nat) (c : Nat → Nat) (hc : ∀ k, c k ≤ 255) (w : World) (h : At w lo hi g c len s) (hl : len ≤ 1000000) (n1 : n ≤ 32) :
    Calls Tryd.prog 52 #[.pointer (some ⟨g, 0, none⟩), .int .i64 n] w fun e w' => e = .returned (.tuple #[.int .u32 (resV c len s n), .int .i64 (resE len s n)]) ∧ At w' lo hi g c len (stp len s n) ∧ Upd (fun k => k = g) w w' := by
  by_cases h0 : n = 0
  · subst h0
    refine (bits_zero g w).mono ?_
    rintro e w1 ⟨rfl, rfl⟩
    refine ⟨?_, ?_, Upd.refl _ _⟩
    · cases s with
      | none => rfl
      | some i =>
        have hi := On.le h.2.2.2
        simp [resV, resE, val, Nat.mod_one]
    · exact h
  · obtain ⟨h1, h2, h3, h4⟩ := h
    cases s with
    | none =>
      refine (bits_off g n w h4 (by omega) n1).mono ?_
      rintro e w1 ⟨rfl, o, u⟩
      refine ⟨by simp [resV, resE, h0], ?_, u⟩
      simp only [stp, h0]
      exact ⟨h1, h2, Nat.le_trans h3 u.size, o⟩
    | some i =>
      by_cases hn : i + n ≤ 8 * len
      · refine (bits_on lo hi g len i n c hc w h4 hl (by omega) n1 hn).mono ?_
        rintro e w1 ⟨rfl, o, u⟩
        refine ⟨by simp [resV, resE, h0, hn], ?_, u⟩
        simp only [stp, h0, hn]
        exact ⟨h1, h2, Nat.le_trans h3 u.size, o⟩
      · refine (bits_end lo hi g len i n c w h4 hl (by omega) n1 (by omega)).mono ?_
        rintro e w1 ⟨rfl, o, u⟩
        refine ⟨by simp [resV, resE, h0, hn], ?_, u⟩
        simp only [stp, h0, hn]
        exact ⟨h1, h2, Nat.le_trans h3 u.size, o⟩
/-- How many bits are left, in a state. -/
def leftOf (len : Nat) (s : Option Nat) : Nat := match s with | some i => 8 * len - i | none => 0
theorem left_step (lo hi g len : Nat) (s : Option Nat) (c : Nat → Nat) (w : World) (h : At w lo hi g c len s) (hl : len ≤ 1000000) :
    Calls Tryd.prog 59 #[.pointer (some ⟨g, 0, none⟩)] w fun e w' => e = .returned (.int .i64 (leftOf len s)) ∧ ∃ k, w' = w.drewN k := by
  cases s with
  | some i => exact left_on lo hi g len i c w h.2.2.2 hl
  | none => exact left_off g w h.2.2.2
theorem over_step (lo hi g len : Nat) (s : Option Nat) (c : Nat → Nat) (w : World) (h : At w lo hi g c len s) :
    Calls Tryd.prog 53 #[.pointer (some ⟨g, 0, none⟩)] w fun e w' => e = .returned (.bool s.isNone) ∧ w' = w := by
  cases s with
  | some i => exact over_on lo hi g len i c w h.2.2.2
  | none => exact over_off g w h.2.2.2
end Go.Proofs.YtaidboopcoaeeaaDoor.Bitin

namespace Go.Proofs.YtaidboopcoaeeaaDoor.Eyes
open Go.ChangeShapes Go.WideShapes Go.ChangeAt Go.RowKit Go.Proofs.YtaidboopcoaeeaaDoor.Core Go.Proofs.YtaidboopcoaeeaaDoor.Le Go.Proofs.YtaidboopcoaeeaaDoor.Bitin


/-- Bit j of the bytes. -/
def bt (c : Nat → Nat) (j : Nat) : Nat := c (j / 8) / 2 ^ (j % 8) % 2
theorem bt_le (c : Nat → Nat) (j : Nat) : bt c j ≤ 1 := by unfold bt; omega
theorem bt_at (c : Nat → Nat) (k m : Nat) (h : m < 8) : bt c (8 * k + m) = c k / 2 ^ m % 2 := by
  unfold bt
  rw [show (8 * k + m) / 8 = k from by omega, show (8 * k + m) % 8 = m from by omega]
theorem bt_val (c : Nat → Nat) (hc : ∀ k, c k ≤ 255) (len j : Nat) (h : j < 8 * len) : val c len j 1 = bt c j := by
  have := take_eq c hc (j / 8) (j % 8) 1 1 len (by omega) (by omega)
  rw [show 8 * (j / 8) + j % 8 = j from by omega] at this
  rw [← this]
  simp [num, bt]
theorem cells_succ (c : Nat → Nat) (n : Nat) : cells c (n + 1) = cells c n ++ [.int .u8 (c n)] := by
  simp [cells, List.range_succ]
theorem div_bd (x : Nat) (m : Nat) (h : x ≤ 255) : x / 2 ^ m ≤ 255 := Nat.le_trans (Nat.div_le_self _ _) h
theorem div_succ (x m : Nat) : x / 2 ^ m / 2 = x / 2 ^ (m + 1) := by rw [Nat.div_div_eq_div_mul, Nat.pow_succ]

set_option maxHeartbeats 400000 in
theorem bits15 (a : Option Addr) (len cap : Nat) (c : Nat → Nat) (hc : ∀ k, c k ≤ 255) (w : World) (h : Src w (.slice a len cap) len c) (hl : len ≤ 100000) :
    Calls Tryd.prog 26 #[.slice a len cap] w fun e w' => ∃ u, e = .returned u ∧ Got w' w.heap.size u (8 * len) (bt c) ∧ Below w.heap.size w w' := by
  have SRC := hide h
  clear h
  obtain ⟨i0, hi, hz0, hz1, hz2⟩ := info_parts Tryd.info5
  go_enter Tryd.func26, Tryd.ntmps26
  go_wp2
  go_loopw [3, 4] (fun s i wr => ∃ k : Nat, k ≤ len ∧ i = .int .i64 k ∧ wr.ownsRow w.heap.size 5 1 s (8 * k) (cells (bt c) (8 * k)) ∧ Below w.heap.size w wr) (fun _ i _ => len - (intOf i).toNat)
  case atStart => exact ⟨0, Nat.zero_le _, rfl, World.ownsRow_nil _ _ _ _, Below.refl _ _⟩
  case round =>
    obtain ⟨k, hk, rfl, own, bel⟩ := hrel
    by_cases hlt : k < len
    · have hlt' : (k : Int) < (len : Int) := by omega
      have hcell : ∃ b off, a = some ⟨b, off, none⟩ ∧ wr.cell? ⟨b, off + k, none⟩ = some (.int .u8 (c k)) := by
        rcases unhide SRC with ⟨_, h0⟩ | ⟨x, cap', e, hx⟩
        · omega
        · cases e
          obtain ⟨b, off, rfl, hb⟩ := src_at hx (by omega)
          exact ⟨b, off, rfl, (bel.cell (p := ⟨b, off + k, none⟩) (lt_of_cell (hb k hlt))).trans (hb k hlt)⟩
      obtain ⟨b, off, rfl, hcell⟩ := hcell
      have OWN := hide own
      have BEL := hide bel
      have CK := hide (hc k)
      clear own bel
      go_wp2
      go_loopw [3, 5, 6] (fun t q i ws => ∃ m : Nat, m ≤ 8 ∧ i = .int .i64 m ∧ q = .int .u8 ((c k / 2 ^ m : Nat) : Int) ∧ ws.ownsRow w.heap.size 5 1 t (8 * k + m) (cells (bt c) (8 * k + m)) ∧ Below w.heap.size w ws) (fun _ _ i _ => 8 - (intOf i).toNat)
      case atStart => exact ⟨0, by omega, rfl, by simp, unhide OWN, unhide BEL⟩
      case round =>
        obtain ⟨m, hm, rfl, rfl, own, bel⟩ := hrel
        clear OWN BEL
        by_cases hlt8 : m < 8
        · have hlt8' : (m : Int) < 8 := by omega
          have d0 := div_bd (c k) m (unhide CK)
          have D := hide (div_succ (c k) m)
          have B := hide (bt_at c k m hlt8)
          have C := hide (cells_succ (bt c) (8 * k + m))
          have HB := hide bel
          have hsz := bel.size
          clear bel hcell
          generalize c k / 2 ^ m = x at *
          have d1 : (x : Int) ≤ 255 := by omega
          go_wp2_with (at_builtin; refine wpList_append_own _ rfl _ _ 34 rfl w.heap.size 5 i0 (.int .u8 0) 1 1 Tryd.underlying34 hi hz0 hz1 hz2 rfl (by decide) _ _ _ rfl (own.alloc _) ⟨wr.heap.size, 0, none⟩ 1 1 [.int .u8 ((x : Int) % 2)] rfl rfl ?c1 ?c2 ?c3 ?c4 ?c5 ?_)
          case c1 =>
            intro j u hj
            match j, hj with
            | 0, hj => simp at hj; subst hj; simp [Addr.add]
          case c2 => intro u hu; simp at hu; subst hu; rfl
          case c3 => unfold maxLen; omega
          case c4 => omega
          case c5 => simp; omega
          · intro v' w1 own' grow _
            have e1 : (x : Int) % 2 = ((bt c (8 * k + m) : Nat) : Int) := by rw [unhide B]; omega
            rw [e1, ← unhide C] at own'
            have hb' : Below w.heap.size w w1 := ((unhide HB).alloc hsz _).grown grow (by simp; omega) (fun g hg => (own.lt g hg).1)
            have HO := hide own'
            have HB' := hide hb'
            clear own' hb' grow own HB
            go_wp2
            go_roundw
            case rel => exact ⟨m + 1, by omega, by go_num, by rw [← unhide D]; go_num, unhide HO, unhide HB'⟩
            case measure => simp [intOf]; omega
        · have e : m = 8 := by omega
          subst e
          have HO := hide own
          have HB := hide bel
          clear own bel hcell
          go_wp2
          go_roundw
          case rel => exact ⟨k + 1, by omega, by go_num, by rw [show 8 * (k + 1) = 8 * k + 8 from by omega]; exact unhide HO, unhide HB⟩
          case measure => simp [intOf]; omega
    · have e : k = len := by omega
      subst e
      go_wp2
      go_ret
      exact ⟨_, rfl, got_of own, bel⟩

/-- An eye at block e, i bits gone through. -/
def Sees (w : World) (lo hi e : Nat) (c : Nat → Nat) (len i : Nat) (short : Bool) : Prop :=
  ∃ a cap, Box w e 40 #[.slice a (8 * len : Nat) cap, .int .i64 i, .bool short] ∧ lo ≤ e ∧ e < hi ∧ hi ≤ w.heap.size ∧ i ≤ 8 * len ∧
    (len = 0 ∨ ∃ b, a = some ⟨b, 0, none⟩ ∧ lo ≤ b ∧ b < hi ∧ b ≠ e ∧ ∀ k, k < 8 * len → w.cell? ⟨b, k, none⟩ = some (.int .u8 (bt c k)))
theorem Sees.keep {S : Nat → Prop} {w w' : World} {lo hi e len i : Nat} {sh : Bool} {c : Nat → Nat} (h : Sees w lo hi e c len i sh) (u : Upd S w w') (hs : ∀ k, lo ≤ k → k < hi → ¬ S k) : Sees w' lo hi e c len i sh := by
  obtain ⟨a, cap, h0, h1, h2, h3, h4, h5⟩ := h
  refine ⟨a, cap, h0.keep u (hs e h1 h2), h1, h2, Nat.le_trans h3 u.size, h4, ?_⟩
  rcases h5 with h5 | ⟨b, e, b1, b2, b3, b4⟩
  · exact .inl h5
  · exact .inr ⟨b, e, b1, b2, b3, fun k hk => (u.cell (p := ⟨b, k, none⟩) (Nat.lt_of_lt_of_le b2 h3) (hs b b1 b2)).trans (b4 k hk)⟩
set_option maxHeartbeats 400000 in
theorem look9 (a : Option Addr) (len cap : Nat) (c : Nat → Nat) (hc : ∀ k, c k ≤ 255) (w : World) (h : Src w (.slice a len cap) len c) (hl : len ≤ 100000) :
    Calls Tryd.prog 12 #[.slice a len cap] w fun e w' => ∃ g, e = .returned (.pointer (some ⟨g, 0, none⟩)) ∧ Sees w' w.heap.size w'.heap.size g c len 0 false ∧ Below w.heap.size w w' := by
  have C := hide (bits15 a len cap c hc w h hl)
  clear h
  go_enter Tryd.func12, Tryd.ntmps12
  go_wp2_with fail
  refine (unhide C).mono ?_
  rintro e w1 ⟨u, rfl, ⟨a, cap, rfl, g1⟩, bel1⟩
  have G1 := hide g1
  have B1 := hide bel1
  clear g1 bel1 C
  go_wp2
  go_ret
  have hs : w.heap.size ≤ w1.heap.size := (unhide B1).size
  refine ⟨w1.heap.size, rfl, ⟨a, cap, Box.made _ _ _, hs, by simp, Nat.le_refl _, Nat.zero_le _, ?_⟩, (unhide B1).alloc hs _⟩
  rcases unhide G1 with h | ⟨b, rfl, h1, h2, h3⟩
  · exact .inl (by omega)
  · exact .inr ⟨b, rfl, h1, by simp; omega, by omega, fun k hk => by rw [World.cell?_alloc_past _ _ _ (by exact h2)]; exact h3 k hk⟩
set_option maxHeartbeats 400000 in
theorem num_short (e : Nat) (x : Value) (y : Value) (n : Nat) (w : World) (h : Box w e 40 #[x, y, .bool true]) (n0 : 1 ≤ n) (n1 : n ≤ 32) :
    Calls Tryd.prog 27 #[.pointer (some ⟨e, 0, none⟩), .int .i64 n] w fun r w' => r = .returned (.int .i64 0) ∧ Box w' e 40 #[x, y, .bool true] ∧ Upd (fun k => k = e) w w' := by
  have f2 := h.free 2
  have h2 := h.cell 2
  simp at h2
  have H := hide h
  have n0' : 0 < n := by omega
  clear h
  go_enter Tryd.func27, Tryd.ntmps27
  go_wp2
  go_quiet (fail)
  go_wp2
  go_ret
  exact ⟨rfl, ((unhide H).drewN _).set 2 _, ((Upd.refl (fun k => k = e) w).drewN _).setCell (p := ⟨e, 2, none⟩) rfl _⟩
set_option maxHeartbeats 400000 in
theorem num_end (e : Nat) (a : Option Addr) (L cap i n : Nat) (w : World) (h : Box w e 40 #[.slice a L cap, .int .i64 i, .bool false]) (_hL : L ≤ 1000000) (hi : i ≤ L) (n0 : 1 ≤ n) (n1 : n ≤ 32) (hn : L < i + n) :
    Calls Tryd.prog 27 #[.pointer (some ⟨e, 0, none⟩), .int .i64 n] w fun r w' => r = .returned (.int .i64 0) ∧ Box w' e 40 #[.slice a L cap, .int .i64 i, .bool true] ∧ Upd (fun k => k = e) w w' := by
  have f2 := h.free 2
  have h0 := h.cell 0
  have h1 := h.cell 1
  have h2 := h.cell 2
  simp at h0 h1 h2
  have H := hide h
  have n0' : 0 < n := by omega
  have hd : (L : Int) - (i : Int) < (n : Int) := by omega
  clear h
  go_enter Tryd.func27, Tryd.ntmps27
  go_wp2
  go_quiet (fail)
  go_wp2
  go_ret
  exact ⟨rfl, ((unhide H).drewN _).set 2 _, ((Upd.refl (fun k => k = e) w).drewN _).setCell (p := ⟨e, 2, none⟩) rfl _⟩
set_option maxHeartbeats 400000 in
theorem num_zero (e : Nat) (w : World) :
    Calls Tryd.prog 27 #[.pointer (some ⟨e, 0, none⟩), .int .i64 0] w fun r w' => r = .returned (.int .i64 0) ∧ ∃ k, w' = w.drewN k := by
  go_enter Tryd.func27, Tryd.ntmps27
  go_wp2
  go_quiet (fail)
  go_wp2
  go_loop [5, 6] (fun v i => v = .int .i64 0 ∧ i = .int .i64 0) (fun _ _ => 0)
  case atStart => exact ⟨rfl, rfl⟩
  case round =>
    obtain ⟨rfl, rfl⟩ := hrel
    go_wp2
    go_ret
    exact ⟨rfl, _, rfl⟩
theorem step_bd (c : Nat → Nat) (len i j : Nat) (hj : j < 32) : (val c len i j : Int) ≤ 4294967295 ∧ (1 : Int) ≤ 2 ^ j ∧ (2 : Int) ^ j ≤ 2147483648 := by
  have h1 : (2 : Nat) ^ j ≤ 2 ^ 31 := Nat.pow_le_pow_right (by omega) (by omega)
  have h2 : 0 < (2 : Nat) ^ j := Nat.pow_pos (by omega)
  have h3 : ((2 ^ j : Nat) : Int) = (2 : Int) ^ j := by simp
  have h4 : (2 : Nat) ^ 31 = 2147483648 := by decide
  have h5 := val_lt c len i j
  omega
theorem mul1_bd (x : Nat) (p : Int) (hx : x ≤ 1) (h : 1 ≤ p) (h' : p ≤ 2147483648) : 0 ≤ (x : Int) * p ∧ (x : Int) * p ≤ 2147483648 := by
  match x, hx with
  | 0, _ => simp
  | 1, _ => simp; omega
set_option maxHeartbeats 400000 in
theorem num_on (e b len cap i n : Nat) (c : Nat → Nat) (hc : ∀ k, c k ≤ 255) (w : World) (h : Box w e 40 #[.slice (some ⟨b, 0, none⟩) (8 * len : Nat) cap, .int .i64 i, .bool false])
    (hb : ∀ k, k < 8 * len → w.cell? ⟨b, k, none⟩ = some (.int .u8 (bt c k))) (hbe : b ≠ e) (bw : b < w.heap.size) (hl : len ≤ 100000) (n0 : 1 ≤ n) (n1 : n ≤ 32) (hn : i + n ≤ 8 * len) :
    Calls Tryd.prog 27 #[.pointer (some ⟨e, 0, none⟩), .int .i64 n] w fun r w' => r = .returned (.int .i64 (val c len i n)) ∧ Box w' e 40 #[.slice (some ⟨b, 0, none⟩) (8 * len : Nat) cap, .int .i64 ((i + n : Nat) : Int), .bool false] ∧ Upd (fun k => k = e) w w' := by
  have h0 := h.cell 0
  have h1 := h.cell 1
  have h2 := h.cell 2
  simp at h0 h1 h2
  have H := hide h
  have n0' : 0 < n := by omega
  generalize hLL : 8 * len = L at *
  have hd : ¬ ((L : Int) - (i : Int) < (n : Int)) := by omega
  have hL : L ≤ 800000 := by omega
  have BT := hide (fun j (hj : j < L) => bt_val c hc len j (by omega))
  have LL := hide hLL
  clear h hLL
  go_enter Tryd.func27, Tryd.ntmps27
  go_wp2
  go_quiet (fail)
  go_wp2
  go_loopw [5, 6] (fun v k wr => ∃ j : Nat, j ≤ n ∧ k = .int .i64 j ∧ v = .int .i64 (val c len i j) ∧ Box wr e 40 #[.slice (some ⟨b, 0, none⟩) L cap, .int .i64 ((i + j : Nat) : Int), .bool false] ∧ Upd (fun k => k = e) w wr) (fun _ k _ => n - (intOf k).toNat)
  case atStart => exact ⟨0, by omega, rfl, by simp [val, Nat.mod_one], (unhide H).drewN _, (Upd.refl _ _).drewN _⟩
  case round =>
    obtain ⟨j, hj, rfl, rfl, bx, up⟩ := hrel
    clear h0 h1 h2
    have h0 := bx.cell 0
    have h1 := bx.cell 1
    have f1 := bx.free 1
    simp at h0 h1
    have BX := hide bx
    have UP := hide up
    have eij : (i : Int) + (j : Int) = ((i + j : Nat) : Int) := by omega
    rw [eij] at h1
    by_cases hlt : j < n
    · have hlt' : (j : Int) < (n : Int) := by omega
      have hcell : wr.cell? ⟨b, i + j, none⟩ = some (.int .u8 (bt c (i + j))) := (up.cell (p := ⟨b, i + j, none⟩) bw hbe).trans (hb (i + j) (by omega))
      have V := hide (val_add c len i j 1)
      rw [unhide BT (i + j) (by omega)] at V
      have tb := bt_le c (i + j)
      obtain ⟨s1, s2, s3⟩ := step_bd c len i j (by omega)
      obtain ⟨s4, s5⟩ := mul1_bd _ _ tb s2 s3
      clear bx up hb eij
      generalize bt c (i + j) = x at *
      generalize hp : i + j = p at *
      have hp1 : p < L := by omega
      have HP := hide hp
      clear hp
      go_wp2
      go_quiet (fail)
      go_wp2
      go_roundw
      case rel =>
        have e2 : ((i + (j + 1) : Nat) : Int) = (p : Int) + 1 := by have := unhide HP; omega
        refine ⟨j + 1, by omega, by go_num, by rw [unhide V]; simp, ?_, ?_⟩
        · rw [e2]; exact ((unhide BX).drewN _).set 1 _
        · exact ((unhide UP).drewN _).setCell (p := ⟨e, 1, none⟩) rfl _
      case measure => simp [intOf]; omega
    · have e1 : j = n := by omega
      subst e1
      go_wp2
      go_ret
      exact ⟨rfl, unhide BX, unhide UP⟩
/-- An eye in a state. -/
def Eyes (w : World) (lo hi e : Nat) (c : Nat → Nat) (len : Nat) (s : Option Nat) : Prop :=
  match s with | some i => Sees w lo hi e c len i false | none => ∃ i, Sees w lo hi e c len i true
theorem Eyes.keep {S : Nat → Prop} {w w' : World} {lo hi e len : Nat} {s : Option Nat} {c : Nat → Nat} (h : Eyes w lo hi e c len s) (u : Upd S w w') (hs : ∀ k, lo ≤ k → k < hi → ¬ S k) : Eyes w' lo hi e c len s := by
  cases s with
  | some i => exact Sees.keep h u hs
  | none =>
    obtain ⟨i, h⟩ := h
    exact ⟨i, Sees.keep h u hs⟩
theorem Sees.le {w : World} {lo hi g len i : Nat} {sh : Bool} {c : Nat → Nat} (h : Sees w lo hi g c len i sh) : i ≤ 8 * len := by
  obtain ⟨_, _, _, _, _, _, h, _⟩ := h; exact h
/-- A new box at the same place: the rest stands. -/
theorem Sees.turn {w w' : World} {lo hi e len i i' : Nat} {sh sh' : Bool} {c : Nat → Nat} (h : Sees w lo hi e c len i sh) (u : Upd (fun k => k = e) w w') (hi' : i' ≤ 8 * len)
    (hb : ∀ a cap, Box w e 40 #[.slice a (8 * len : Nat) cap, .int .i64 i, .bool sh] → Box w' e 40 #[.slice a (8 * len : Nat) cap, .int .i64 i', .bool sh']) : Sees w' lo hi e c len i' sh' := by
  obtain ⟨a, cap, h0, h1, h2, h3, h4, h5⟩ := h
  refine ⟨a, cap, hb a cap h0, h1, h2, Nat.le_trans h3 u.size, hi', ?_⟩
  rcases h5 with h5 | ⟨b, e, b1, b2, b3, b4⟩
  · exact .inl h5
  · exact .inr ⟨b, e, b1, b2, b3, fun k hk => (u.cell (p := ⟨b, k, none⟩) (Nat.lt_of_lt_of_le b2 h3) b3).trans (b4 k hk)⟩
theorem box_inj {w : World} {g : Nat} {T T' : TypeId} {vs vs' : Array Value} (h : Box w g T vs) (h' : Box w g T' vs') : vs = vs' := by
  unfold Box at h h'
  rw [h] at h'
  cases h'; rfl
theorem num_step (lo hi e len n : Nat) (s : Option Nat) (c : Nat → Nat) (hc : ∀ k, c k ≤ 255) (w : World) (h : Eyes w lo hi e c len s) (hl : len ≤ 100000) (n1 : n ≤ 32) :
    Calls Tryd.prog 27 #[.pointer (some ⟨e, 0, none⟩), .int .i64 n] w fun r w' => r = .returned (.int .i64 (resV c len s n)) ∧ Eyes w' lo hi e c len (stp len s n) ∧ Upd (fun k => k = e) w w' := by
  by_cases h0 : n = 0
  · subst h0
    refine (num_zero e w).mono ?_
    rintro r w1 ⟨rfl, k, rfl⟩
    refine ⟨?_, ?_, (Upd.refl _ _).drewN _⟩
    · cases s with
      | none => rfl
      | some i => simp [resV, val, Nat.mod_one]
    · exact Eyes.keep h ((Upd.refl (fun _ => False) w).drewN k) (fun _ _ _ h => h)
  · cases s with
    | none =>
      obtain ⟨i, h⟩ := h
      obtain ⟨a, cap, b0, _⟩ := id h
      refine (num_short e _ _ n w b0 (by omega) n1).mono ?_
      rintro r w1 ⟨rfl, o, u⟩
      refine ⟨by simp [resV], ?_, u⟩
      simp only [stp, h0]
      exact ⟨i, Sees.turn h u (Sees.le h) (fun a' cap' b' => by rw [box_inj b' b0]; exact o)⟩
    | some i =>
      have h' : Sees w lo hi e c len i false := h
      by_cases hn : i + n ≤ 8 * len
      · obtain ⟨a, cap, b0, l1, l2, l3, l4, l5⟩ := id h'
        rcases l5 with l5 | ⟨b, rfl, m1, m2, m3, m4⟩
        · omega
        refine (num_on e b len cap i n c hc w b0 m4 m3 (by omega) hl (by omega) n1 hn).mono ?_
        rintro r w1 ⟨rfl, o, u⟩
        refine ⟨by simp [resV, hn], ?_, u⟩
        simp only [stp, h0, hn]
        exact Sees.turn h' u hn (fun a' cap' b' => by
          have := box_inj b' b0
          simp at this
          rw [this.1, this.2]; exact o)
      · obtain ⟨a, cap, b0, _⟩ := id h'
        refine (num_end e a (8 * len) cap i n w b0 (by omega) (Sees.le h') (by omega) n1 (by omega)).mono ?_
        rintro r w1 ⟨rfl, o, u⟩
        refine ⟨by simp [resV, hn], ?_, u⟩
        simp only [stp, h0, hn]
        exact ⟨i, Sees.turn h' u (Sees.le h') (fun a' cap' b' => by
          have := box_inj b' b0
          simp at this
          rw [this.1, this.2]; exact o)⟩
end Go.Proofs.YtaidboopcoaeeaaDoor.Eyes

namespace Go.Proofs.YtaidboopcoaeeaaDoor.Dec
open Go.Proofs.YtaidboopcoaeeaaDoor.Rvm Go.Proofs.YtaidboopcoaeeaaDoor.Math Go.Proofs.YtaidboopcoaeeaaDoor.Eyes Go.Proofs.YtaidboopcoaeeaaDoor.Bitin

/-- The first m bits as a number, the first one highest. -/
def vm (b : Nat → Nat) : Nat → Nat
  | 0 => 0
  | m + 1 => 2 * vm b m + b m
theorem vm_lt {b : Nat → Nat} (hb : ∀ j, b j ≤ 1) : ∀ m, vm b m < 2 ^ m
  | 0 => by simp [vm]
  | m + 1 => by
    have := vm_lt hb m
    have := hb m
    rw [Nat.pow_succ]
    simp only [vm]
    omega
theorem vm_pre {b : Nat → Nat} (hb : ∀ j, b j ≤ 1) (m : Nat) : ∀ d, vm b (m + d) / 2 ^ d = vm b m
  | 0 => by simp
  | d + 1 => by
    have ih := vm_pre hb m d
    have := hb (m + d)
    rw [Nat.pow_succ, Nat.mul_comm, ← Nat.div_div_eq_div_mul, ← Nat.add_assoc]
    simp only [vm]
    rw [show (2 * vm b (m + d) + b (m + d)) / 2 = vm b (m + d) by omega, ih]
theorem vm_congr {b d : Nat → Nat} : ∀ m, (∀ j, j < m → b j = d j) → vm b m = vm d m
  | 0, _ => rfl
  | m + 1, h => by
    simp only [vm]
    rw [vm_congr m (fun j hj => h j (by omega)), h m (by omega)]
theorem vm_rv (c : Nat → Nat) (hc : ∀ k, c k ≤ 255) (len i : Nat) : ∀ m, i + m ≤ 8 * len → rv m (val c len i m) = vm (fun j => bt c (i + j)) m
  | 0, _ => by simp [rv, vm]
  | m + 1, h => by
    have ih := vm_rv c hc len i m (by omega)
    rw [val_add, bt_val c hc len (i + m) (by omega), rv_snoc m _ _ (val_lt _ _ _ _) (bt_le c _), ih]
    rfl

/-- The bits make a code of length L, and none that is shorter. -/
structure Stop (c : Nat → Int) (n : Nat) (b : Nat → Nat) (L : Nat) : Prop where
  pos : 1 ≤ L
  le : L ≤ 15
  lt : vm b L < fst c n L + cnt c L n
  ge : ∀ m, m < L → fst c n m + cnt c m n ≤ vm b m
theorem top15 {c : Nat → Int} {n : Nat} (hg : Rng c n) (hs : kr c n = 32768) : fst c n 15 + cnt c 15 n = 32768 := by
  have h := top_S c n 15 (by omega)
  rw [← kr_S c n hg, hs] at h
  simpa using h
theorem stop_ex {c : Nat → Int} {n : Nat} {b : Nat → Nat} (hg : Rng c n) (hs : kr c n = 32768) (hb : ∀ j, b j ≤ 1) : ∃ L, Stop c n b L := by
  have h15 : vm b 15 < fst c n 15 + cnt c 15 n := by
    rw [top15 hg hs]
    exact vm_lt hb 15
  obtain ⟨L, hL, h1, h2⟩ := least (fun m => vm b m < fst c n m + cnt c m n) 15 h15
  refine ⟨L, ?_, hL, h1, fun m hm => by have := h2 m hm; omega⟩
  rcases Nat.eq_zero_or_pos L with h | h
  · subst h
    rw [cnt_zero] at h1
    simp [vm, fst] at h1
  · exact h
theorem Stop.low {c : Nat → Int} {n : Nat} {b : Nat → Nat} {L : Nat} (h : Stop c n b L) (m : Nat) (hm : m ≤ L) : fst c n m ≤ vm b m := by
  cases m with
  | zero => exact Nat.zero_le _
  | succ m =>
    have h1 := h.ge m (by omega)
    simp only [fst, vm]
    omega
theorem cnt_hit {c : Nat → Int} {m d : Nat} : ∀ n, d < cnt c m n → ∃ k, k < n ∧ c k = (m : Int) ∧ cnt c m k = d
  | 0, h => by simp [cnt] at h
  | n + 1, h => by
    by_cases hd : d < cnt c m n
    · obtain ⟨k, h1, h2⟩ := cnt_hit n hd
      exact ⟨k, by omega, h2⟩
    · unfold cnt at h
      split at h
      · next hh => exact ⟨n, by omega, hh.1, by omega⟩
      · omega
theorem Stop.sym {c : Nat → Int} {n : Nat} {b : Nat → Nat} {L : Nat} (h : Stop c n b L) : ∃ k, k < n ∧ c k = (L : Int) ∧ cod c n k = vm b L := by
  have h1 := h.low L (Nat.le_refl _)
  have h2 := h.lt
  obtain ⟨k, hk, hc, hd⟩ := cnt_hit (c := c) (m := L) (d := vm b L - fst c n L) n (by omega)
  refine ⟨k, hk, hc, ?_⟩
  rw [cod_of L hc (by have := h.pos; omega), hd]
  omega
theorem stop_code {c : Nat → Int} {n : Nat} {b : Nat → Nat} {L s : Nat} (hg : Rng c n) (hb : ∀ j, b j ≤ 1) (hs : s < n) (hc : c s = (L : Int)) (h0 : L ≠ 0) (hv : vm b L = cod c n s) : Stop c n b L := by
  have g1 := hg s hs
  have e := cod_of (n := n) L hc h0
  refine ⟨by omega, by omega, ?_, fun m hm => ?_⟩
  · have := cnt_lt c L hs hc h0
    rw [hv, e]
    omega
  · have h1 := top_S c n m (by omega)
    have h2 := S_mono c n (show m + 1 ≤ L by omega)
    rw [← h1, ← fst_S c n L (by omega)] at h2
    have h4 : 2 ^ (15 - m) = 2 ^ (L - m) * 2 ^ (15 - L) := by rw [← Nat.pow_add]; congr 1; omega
    rw [h4, ← Nat.mul_assoc] at h2
    have h5 := Nat.le_of_mul_le_mul_right h2 (Nat.pow_pos (by omega))
    have h6 := vm_pre hb m (L - m)
    rw [show m + (L - m) = L by omega, hv] at h6
    rw [← h6, Nat.le_div_iff_mul_le (Nat.pow_pos (by omega))]
    omega
theorem Stop.only {c : Nat → Int} {n : Nat} {b : Nat → Nat} {L M : Nat} (h : Stop c n b L) (k : Stop c n b M) : L = M := by
  rcases Nat.lt_trichotomy L M with h1 | h1 | h1
  · have := k.ge L h1
    have := h.lt
    omega
  · exact h1
  · have := h.ge M h1
    have := k.lt
    omega
theorem fst_none {c : Nat → Int} {n le : Nat} (h : ∀ j, j < le → cnt c j n = 0) : ∀ m, m ≤ le → fst c n m = 0
  | 0, _ => rfl
  | m + 1, hm => by
    simp only [fst]
    rw [fst_none h m (by omega), h m (by omega)]
theorem Stop.least {c : Nat → Int} {n : Nat} {b : Nat → Nat} {L le : Nat} (h : Stop c n b L) (hl : ∀ j, j < le → cnt c j n = 0) : le ≤ L := by
  rcases Nat.lt_or_ge L le with h1 | h1
  · have h2 := h.lt
    rw [hl L h1, fst_none hl L (by omega)] at h2
    omega
  · exact h1

/-- What comes next: symbol k, by L bits. -/
def Nx (c : Nat → Int) (n : Nat) (b : Nat → Nat) (L k : Nat) : Prop :=
  (many c n = 1 ∧ L = 0 ∧ k = sel c n) ∨ (many c n ≠ 1 ∧ Stop c n b L ∧ k < n ∧ c k = (L : Int) ∧ cod c n k = vm b L)
theorem sel_one {c : Nat → Int} : ∀ n, (many c n = 0 → ∀ k, k < n → c k = 0) ∧ (many c n = 1 → sel c n < n ∧ c (sel c n) ≠ 0 ∧ ∀ k, k < n → k ≠ sel c n → c k = 0)
  | 0 => ⟨fun _ k hk => by omega, fun h => by simp [many] at h⟩
  | n + 1 => by
    obtain ⟨h0, h1⟩ := sel_one (c := c) n
    by_cases hc : c n = 0
    · simp only [many, sel, hc, if_true, Nat.add_zero]
      refine ⟨fun h k hk => ?_, fun h => ?_⟩
      · by_cases e : k = n
        · subst e; exact hc
        · exact h0 h k (by omega)
      · obtain ⟨a, b, d⟩ := h1 h
        refine ⟨by omega, b, fun k hk hne => ?_⟩
        by_cases e : k = n
        · subst e; exact hc
        · exact d k (by omega) hne
    · simp only [many, sel, hc, if_false]
      refine ⟨fun h => by omega, fun h => ⟨by omega, hc, fun k hk hne => h0 (by omega) k (by omega)⟩⟩
theorem next_ex {c : Nat → Int} {n : Nat} {b : Nat → Nat} (h : chk c n = 0) (hb : ∀ j, b j ≤ 1) : ∃ L k, Nx c n b L k := by
  obtain ⟨hg, h1, _⟩ := chk_zero h
  by_cases hm : many c n = 1
  · exact ⟨0, _, .inl ⟨hm, rfl, rfl⟩⟩
  · obtain ⟨L, hL⟩ := stop_ex hg (by omega) hb
    obtain ⟨k, hk⟩ := hL.sym
    exact ⟨L, k, .inr ⟨hm, hL, hk⟩⟩
theorem Nx.lt {c : Nat → Int} {n : Nat} {b : Nat → Nat} {L k : Nat} (h : Nx c n b L k) : k < n ∧ L ≤ 15 := by
  rcases h with ⟨h1, h2, h3⟩ | ⟨_, h2, h3, _⟩
  · have := (sel_one n).2 h1
    omega
  · exact ⟨h3, h2.le⟩
theorem next_code {c : Nat → Int} {n : Nat} {b : Nat → Nat} {L s : Nat} (h : chk c n = 0) (hb : ∀ j, b j ≤ 1) (hs : s < n) (hc : c s ≠ 0)
    (hL : L = if many c n = 1 then 0 else (c s).toNat) (hv : many c n ≠ 1 → vm b L = cod c n s) : Nx c n b L s := by
  obtain ⟨hg, h1, _⟩ := chk_zero h
  by_cases hm : many c n = 1
  · rw [if_pos hm] at hL
    refine .inl ⟨hm, hL, ?_⟩
    by_cases e : s = sel c n
    · exact e
    · exact absurd (((sel_one n).2 hm).2.2 s hs e) hc
  · rw [if_neg hm] at hL
    have g := hg s hs
    have hcs : c s = (L : Int) := by omega
    exact .inr ⟨hm, stop_code hg hb hs hcs (by omega) (hv hm), hs, hcs, (hv hm).symm⟩

/-- How many bits each symbol's code has, -1: it has none; and these bits, the first one lowest. -/
def qq (c : Nat → Int) (n k : Nat) : Int := if c k = 0 then -1 else if many c n = 1 then 0 else c k
def uu (c : Nat → Int) (n k : Nat) : Nat := if c k = 0 ∨ many c n = 1 then 0 else rv (c k).toNat (cod c n k)
/-- How many of the first are m. -/
def cq (q : Nat → Int) (m : Nat) : Nat → Nat
  | 0 => 0
  | n + 1 => cq q m n + if q n = (m : Int) then 1 else 0
/-- How many are less than m. -/
def bel (q : Nat → Int) (n : Nat) : Nat → Nat
  | 0 => 0
  | m + 1 => bel q n m + cq q m n
def ps (q : Nat → Int) (n k : Nat) : Nat := bel q n (q k).toNat + cq q (q k).toNat k
theorem cq_le (q : Nat → Int) (m : Nat) : ∀ n, cq q m n ≤ n
  | 0 => Nat.le_refl _
  | n + 1 => by
    have := cq_le q m n
    unfold cq
    split <;> omega
theorem cq_mono (q : Nat → Int) (m : Nat) {a b : Nat} (h : a ≤ b) : cq q m a ≤ cq q m b := by
  induction b with
  | zero => obtain rfl : a = 0 := by omega
            exact Nat.le_refl _
  | succ b ih =>
    by_cases e : a = b + 1
    · rw [e]; exact Nat.le_refl _
    · have h1 := ih (by omega)
      have h2 : cq q m (b + 1) = cq q m b + if q b = (m : Int) then 1 else 0 := rfl
      omega
theorem cq_here {q : Nat → Int} {m k : Nat} (h : q k = (m : Int)) : cq q m (k + 1) = cq q m k + 1 := by
  show cq q m k + (if q k = (m : Int) then 1 else 0) = _
  rw [if_pos h]
theorem cq_not {q : Nat → Int} {m k : Nat} (h : q k ≠ (m : Int)) : cq q m (k + 1) = cq q m k := by
  show cq q m k + (if q k = (m : Int) then 1 else 0) = _
  rw [if_neg h, Nat.add_zero]
theorem cq_lt {q : Nat → Int} {m k n : Nat} (hk : k < n) (h : q k = (m : Int)) : cq q m k + 1 ≤ cq q m n := by
  rw [← cq_here h]
  exact cq_mono q m hk
theorem bel_le (q : Nat → Int) (n : Nat) : ∀ m, bel q n m ≤ m * n
  | 0 => Nat.zero_le _
  | m + 1 => by
    have := bel_le q n m
    have := cq_le q m n
    simp only [bel]
    rw [Nat.add_mul]
    omega
theorem bel_mono (q : Nat → Int) (n : Nat) {a b : Nat} (h : a ≤ b) : bel q n a ≤ bel q n b := by
  induction b with
  | zero => obtain rfl : a = 0 := by omega
            exact Nat.le_refl _
  | succ b ih =>
    by_cases e : a = b + 1
    · rw [e]; exact Nat.le_refl _
    · have h1 := ih (by omega)
      have h2 : bel q n (b + 1) = bel q n b + cq q b n := rfl
      omega
theorem ps_of {q : Nat → Int} {n k m : Nat} (h : q k = (m : Int)) : ps q n k = bel q n m + cq q m k := by
  unfold ps
  rw [h]
  rfl
theorem ps_lt {q : Nat → Int} {n k m : Nat} (hk : k < n) (h : q k = (m : Int)) : ps q n k < bel q n (m + 1) := by
  rw [ps_of h]
  have := cq_lt hk h
  simp only [bel]
  omega
theorem ps_tot {q : Nat → Int} {n k : Nat} (hk : k < n) (h0 : 0 ≤ q k) (h1 : q k ≤ 15) : ps q n k < bel q n 16 := by
  have h := ps_lt (q := q) (m := (q k).toNat) hk (by omega)
  exact Nat.lt_of_lt_of_le h (bel_mono q n (by omega))
theorem ps_ne {q : Nat → Int} {n k i : Nat} (hk : k < i) (hi : i < n) (h0 : 0 ≤ q k) (h1 : 0 ≤ q i) : ps q n k ≠ ps q n i := by
  obtain ⟨a, ha⟩ : ∃ a : Nat, q k = (a : Int) := ⟨(q k).toNat, by omega⟩
  obtain ⟨b, hb⟩ : ∃ b : Nat, q i = (b : Int) := ⟨(q i).toNat, by omega⟩
  rcases Nat.lt_trichotomy a b with h | h | h
  · have h2 := ps_lt (n := n) (by omega) ha
    have h3 := bel_mono q n (show a + 1 ≤ b by omega)
    rw [ps_of hb]
    omega
  · subst h
    have h2 := cq_lt hk ha
    rw [ps_of ha, ps_of hb]
    omega
  · have h2 := ps_lt hi hb
    have h3 := bel_mono q n (show b + 1 ≤ a by omega)
    rw [ps_of ha]
    omega
theorem cq_cnt {c : Nat → Int} {n : Nat} (hm : many c n ≠ 1) (m : Nat) : ∀ i, cq (qq c n) m i = cnt c m i
  | 0 => rfl
  | i + 1 => by
    have ih := cq_cnt hm m i
    show cq (qq c n) m i + (if qq c n i = (m : Int) then 1 else 0) = cnt c m i + (if c i = (m : Int) ∧ m ≠ 0 then 1 else 0)
    rw [ih]
    have e : (qq c n i = (m : Int)) ↔ (c i = (m : Int) ∧ m ≠ 0) := by
      unfold qq
      by_cases h : c i = 0
      · rw [if_pos h, h]
        constructor
        · intro h2; omega
        · intro h2; omega
      · rw [if_neg h, if_neg hm]
        constructor
        · intro h2; exact ⟨h2, by omega⟩
        · intro h2; exact h2.1
    by_cases h : qq c n i = (m : Int)
    · rw [if_pos h, if_pos (e.1 h)]
    · rw [if_neg h, if_neg (fun h2 => h (e.2 h2))]
theorem qq_bd {c : Nat → Int} {n k : Nat} (hg : Rng c n) (hk : k < n) : -1 ≤ qq c n k ∧ qq c n k ≤ 15 := by
  have := hg k hk
  unfold qq
  split
  · omega
  · split <;> omega
theorem qq_has {c : Nat → Int} {n k : Nat} (hg : Rng c n) (hk : k < n) : 0 ≤ qq c n k ↔ c k ≠ 0 := by
  have := hg k hk
  unfold qq
  split
  · omega
  · split <;> omega
theorem qq_many {c : Nat → Int} {n k : Nat} (hm : many c n ≠ 1) (h : c k ≠ 0) : qq c n k = c k := by
  unfold qq
  rw [if_neg h, if_neg hm]
theorem qq_one {c : Nat → Int} {n k : Nat} (hm : many c n = 1) (h : c k ≠ 0) : qq c n k = 0 := by
  unfold qq
  rw [if_neg h, if_pos hm]
theorem has_one {c : Nat → Int} {n : Nat} (h : chk c n = 0) : ∃ k, k < n ∧ c k ≠ 0 := by
  obtain ⟨hg, h1, _⟩ := chk_zero h
  rcases h1 with h1 | h1
  · exact many_pos c n (by omega)
  · exact kr_pos c n (by omega)
theorem uu_lt (c : Nat → Int) (n k : Nat) : uu c n k < 2 ^ (qq c n k).toNat := by
  unfold uu qq
  by_cases h : c k = 0
  · rw [if_pos (.inl h), if_pos h]; decide
  · by_cases hm : many c n = 1
    · rw [if_pos (.inr hm), if_neg h, if_pos hm]; decide
    · rw [if_neg (by simp [h, hm]), if_neg h, if_neg hm]
      exact rv_lt _ _
theorem uu_many {c : Nat → Int} {n k : Nat} (hm : many c n ≠ 1) (h : c k ≠ 0) : uu c n k = rv (c k).toNat (cod c n k) := by
  unfold uu
  rw [if_neg (by simp [h, hm])]
end Go.Proofs.YtaidboopcoaeeaaDoor.Dec

namespace Go.Proofs.YtaidboopcoaeeaaDoor.Rev
open Go.ChangeShapes Go.WideShapes Go.ChangeAt Go.RowKit Go.Proofs.YtaidboopcoaeeaaDoor.Core Go.Proofs.YtaidboopcoaeeaaDoor.Rvm

theorem swp_int (s M x : Nat) (hx : x < 4294967296) (hM : M < 4294967296) (h2 : M * 2 ^ s < 4294967296) :
    bits .or .u32 (bits .and .u32 ((x : Int) / 2 ^ s) (M : Int)) (bits .and .u32 (x : Int) (M : Int) * 2 ^ s) = ((swp s M x : Nat) : Int) := by
  have e1 : (x : Int) / 2 ^ s = ((x / 2 ^ s : Nat) : Int) := by simp
  have l1 : x / 2 ^ s < 4294967296 := Nat.lt_of_le_of_lt (Nat.div_le_self _ _) hx
  rw [e1, u32_and_nat _ _ l1 hM, u32_and_nat _ _ hx hM]
  have e2 : (((x &&& M : Nat) : Int) * 2 ^ s) = (((x &&& M) * 2 ^ s : Nat) : Int) := by simp
  have l2 : (x / 2 ^ s &&& M) < 4294967296 := Nat.lt_of_le_of_lt Nat.and_le_right hM
  have l3 : (x &&& M) * 2 ^ s < 4294967296 := Nat.lt_of_le_of_lt (Nat.mul_le_mul_right _ Nat.and_le_right) h2
  rw [e2, u32_or_nat _ _ l2 l3]
  rfl
theorem and_bd (x M : Nat) (hx : x < 4294967296) (hM : M < 4294967296) : 0 ≤ bits .and .u32 (x : Int) (M : Int) ∧ bits .and .u32 (x : Int) (M : Int) ≤ (M : Int) := by
  rw [u32_and_nat _ _ hx hM]
  have := Nat.and_le_right (n := x) (m := M)
  omega
theorem swp_bd (s M x : Nat) (h : M < 2 ^ 32) (h2 : M * 2 ^ s < 2 ^ 32) : (0 : Int) ≤ ((swp s M x : Nat) : Int) ∧ ((swp s M x : Nat) : Int) ≤ 4294967295 := by
  have := swp_lt s M x 32 h h2
  omega
set_option maxHeartbeats 400000 in
theorem rb52 (x : Nat) (w : World) (hx : x < 4294967296) :
    Calls Tryd.prog 89 #[.int .u32 x] w fun e w' => e = .returned (.int .u32 ((swp 8 16711935 x / 65536 ||| swp 8 16711935 x * 65536 % 4294967296 : Nat) : Int)) ∧ w' = w := by
  have h1 := swp_int 8 16711935 x hx (by decide) (by decide)
  have h2 := and_bd x 16711935 hx (by decide)
  have h3 := swp_bd 8 16711935 x (by decide) (by decide)
  simp at h1 h2
  generalize hy : swp 8 16711935 x = y at *
  go_enter Tryd.func89, Tryd.ntmps89
  go_wp2
  go_ret
  refine ⟨ret_int ?_, rfl⟩
  have e1 : (y : Int) / 65536 = ((y / 65536 : Nat) : Int) := by simp
  have e2 : (y : Int) * 65536 % 4294967296 = ((y * 65536 % 4294967296 : Nat) : Int) := by simp
  rw [e1, e2, u32_or_nat _ _ (by omega) (by omega)]
set_option maxHeartbeats 400000 in
theorem rev43 (x : Nat) (w : World) (hx : x < 4294967296) :
    Calls Tryd.prog 85 #[.int .u32 x] w fun e w' => e = .returned (.int .u32 ((rv 32 x : Nat) : Int)) ∧ w' = w := by
  have a1 := swp_int 1 1431655765 x hx (by decide) (by decide)
  have a2 := and_bd x 1431655765 hx (by decide)
  have a3 := swp_bd 1 1431655765 x (by decide) (by decide)
  have E := hide (rev_eq x hx)
  unfold rev rev32 at E
  generalize hy : swp 1 1431655765 x = y at *
  have b1 := swp_int 2 858993459 y (by omega) (by decide) (by decide)
  have b2 := and_bd y 858993459 (by omega) (by decide)
  have b3 := swp_bd 2 858993459 y (by decide) (by decide)
  generalize hz : swp 2 858993459 y = z at *
  have c1 := swp_int 4 252645135 z (by omega) (by decide) (by decide)
  have c2 := and_bd z 252645135 (by omega) (by decide)
  have c3 := swp_bd 4 252645135 z (by decide) (by decide)
  generalize hq : swp 4 252645135 z = q at *
  have RB := hide (rb52 q w (by omega))
  simp at a1 a2 b1 b2 c1 c2
  clear hy hz hq
  go_enter Tryd.func85, Tryd.ntmps85
  go_wp2_with fail
  refine (unhide RB).mono ?_
  rintro e w1 ⟨rfl, rfl⟩
  rw [unhide E]
  go_wp2
  go_ret
  exact ⟨rfl, rfl⟩
theorem turned31 (x n : Nat) (w : World) (hx : x < 4294967296) (hn : n ≤ 32) :
    Calls Tryd.prog 75 #[.int .u32 x, .int .i64 n] w fun e w' => e = .returned (.int .u32 ((rv n x : Nat) : Int)) ∧ w' = w := by
  have E := hide (rv_top n x hn)
  have hlt := rv_lt 32 x
  have R := hide (rev43 x w hx)
  generalize rv 32 x = y at *
  go_enter Tryd.func75, Tryd.ntmps75
  go_wp2_with fail
  refine (unhide R).mono ?_
  rintro e w1 ⟨rfl, rfl⟩
  go_wp2
  go_ret
  refine ⟨ret_int ?_, rfl⟩
  rw [← unhide E]
  simp
end Go.Proofs.YtaidboopcoaeeaaDoor.Rev
