/- Contracts: package bitin: New, Bits, Left, Over, by the state that the reader is in. Conditions: the reader lies in memory, its bytes are few. -/
import Derived.Test.YtgjpcjnhggcfdaaDoorLe
namespace Go.Proofs.YtgjpcjnhggcfdaaDoor.Bitin
open Go.ChangeShapes Go.WideShapes Go.ChangeAt Go.RowKit Go.Proofs.YtgjpcjnhggcfdaaDoor.Core Go.Proofs.YtgjpcjnhggcfdaaDoor.Le

/-- The number that n bytes make from p on. -/
def num (c : Nat → Nat) : Nat → Nat → Nat
  | _, 0 => 0
  | p, n + 1 => c p + 256 * num c (p + 1) n
theorem leN_num (c : Nat → Nat) : ∀ n p, leN (fun k => (c k : Int)) p n = (num c p n : Int)
  | 0, p => rfl
  | n + 1, p => by rw [leN, num, leN_num c n (p + 1)]; simp
theorem num_lt (c : Nat → Nat) (hc : ∀ k, c k ≤ 255) : ∀ n p, num c p n < 256 ^ n
  | 0, p => by simp [num]
  | n + 1, p => by
    have := num_lt c hc n (p + 1)
    have h := hc p
    rw [num, Nat.pow_succ]; omega
theorem num_split (c : Nat → Nat) : ∀ a b p, num c p (a + b) = num c p a + 256 ^ a * num c (p + a) b
  | 0, b, p => by simp [num]
  | a + 1, b, p => by
    rw [show a + 1 + b = (a + b) + 1 from by omega, num, num, num_split c a b (p + 1), Nat.pow_succ, Nat.mul_add, show p + 1 + a = p + (a + 1) from by omega,
      Nat.mul_comm (256 ^ a) 256, Nat.mul_assoc, Nat.add_assoc]
theorem num_part (c : Nat → Nat) (hc : ∀ k, c k ≤ 255) (p m len : Nat) (h : p + m ≤ len) : num c 0 len / 256 ^ p % 256 ^ m = num c p m := by
  obtain ⟨r, rfl⟩ : ∃ r, len = p + (m + r) := ⟨len - p - m, by omega⟩
  rw [num_split c p (m + r) 0, Nat.add_mul_div_left _ _ (Nat.pow_pos (by omega)), Nat.div_eq_of_lt (num_lt c hc p 0), Nat.zero_add, Nat.zero_add,
    num_split c m r p, Nat.add_mul_mod_self_left, Nat.mod_eq_of_lt (num_lt c hc m p)]
/-- The n bits from place i on. -/
def val (c : Nat → Nat) (len i n : Nat) : Nat := num c 0 len / 2 ^ i % 2 ^ n
theorem take_eq (c : Nat → Nat) (hc : ∀ k, c k ≤ 255) (p s m n len : Nat) (h : p + m ≤ len) (h2 : s + n ≤ 8 * m) :
    num c p m / 2 ^ s % 2 ^ n = val c len (8 * p + s) n := by
  rw [← num_part c hc p m len h]
  unfold val
  generalize num c 0 len = N
  rw [show (256 : Nat) = 2 ^ 8 from rfl, ← Nat.pow_mul, ← Nat.pow_mul, Nat.pow_add, ← Nat.div_div_eq_div_mul]
  generalize N / 2 ^ (8 * p) = X
  obtain ⟨t, ht⟩ : ∃ t, 8 * m = s + t := ⟨8 * m - s, by omega⟩
  rw [ht, Nat.pow_add, Nat.mod_mul_right_div_self, Nat.mod_mod_of_dvd _ (Nat.pow_dvd_pow 2 (by omega))]
theorem val_lt (c : Nat → Nat) (len i n : Nat) : val c len i n < 2 ^ n := Nat.mod_lt _ (Nat.pow_pos (by omega))
theorem val_add (c : Nat → Nat) (len i x y : Nat) : val c len i (x + y) = val c len i x + val c len (i + x) y * 2 ^ x := by
  unfold val
  rw [Nat.pow_add, Nat.mod_mul, Nat.pow_add, ← Nat.div_div_eq_div_mul, Nat.mul_comm (2 ^ x)]

/-- A reader that lies at block g, with i bits read; it and its bytes lie from lo to hi. -/
def On (w : World) (lo hi g : Nat) (c : Nat → Nat) (len i : Nat) : Prop :=
  ∃ a cap, Box w g 62 #[.slice a len cap, .int .i64 i, .bool false] ∧ lo ≤ g ∧ g < hi ∧ hi ≤ w.heap.size ∧ i ≤ 8 * len ∧
    (len = 0 ∨ ∃ b, a = some ⟨b, 0, none⟩ ∧ lo ≤ b ∧ b < hi ∧ b ≠ g ∧ ∀ k, k < len → w.cell? ⟨b, k, none⟩ = some (.int .u8 (c k)))
/-- A reader that is over. -/
def Off (w : World) (g : Nat) : Prop := Box w g 62 #[.slice none 0 0, .int .i64 0, .bool true]
theorem On.keep {S : Nat → Prop} {w w' : World} {lo hi g len i : Nat} {c : Nat → Nat} (h : On w lo hi g c len i) (u : Upd S w w') (hs : ∀ k, lo ≤ k → k < hi → ¬ S k) : On w' lo hi g c len i := by
  obtain ⟨a, cap, h0, h1, h2, h3, h4, h5⟩ := h
  refine ⟨a, cap, h0.keep u (hs g h1 h2), h1, h2, Nat.le_trans h3 u.size, h4, ?_⟩
  rcases h5 with h5 | ⟨b, e, b1, b2, b3, b4⟩
  · exact .inl h5
  · exact .inr ⟨b, e, b1, b2, b3, fun k hk => (u.cell (p := ⟨b, k, none⟩) (Nat.lt_of_lt_of_le b2 h3) (hs b b1 b2)).trans (b4 k hk)⟩
theorem Off.keep {S : Nat → Prop} {w w' : World} {g : Nat} (h : Off w g) (u : Upd S w w') (hs : ¬ S g) : Off w' g := Box.keep h u hs

set_option maxHeartbeats 400000 in
theorem left_nil (w : World) :
    Calls Tryd.prog 9 #[.pointer none] w fun e w' => e = .returned (.int .i64 0) ∧ w' = w := by
  go_enter Tryd.func9, Tryd.ntmps9
  go_wp2
  go_ret
  exact ⟨rfl, rfl⟩
set_option maxHeartbeats 400000 in
theorem over_nil (w : World) :
    Calls Tryd.prog 33 #[.pointer none] w fun e w' => e = .returned (.bool true) ∧ w' = w := by
  go_enter Tryd.func33, Tryd.ntmps33
  go_wp2
  go_ret
  exact ⟨rfl, rfl⟩
set_option maxHeartbeats 400000 in
theorem left_at (g : Nat) (a : Option Addr) (len cap i : Nat) (b : Bool) (w : World) 
    (h : Box w g 62 #[.slice a len cap, .int .i64 i, .bool b]) (hl : len ≤ 1000000) (i1 : i ≤ 8 * len) :
    Calls Tryd.prog 9 #[.pointer (some ⟨g, 0, none⟩)] w fun e w' => e = .returned (.int .i64 ((8 * len - i : Nat) : Int)) ∧ ∃ k, w' = w.drewN k := by
  have h0 := h.cell 0
  have h1 := h.cell 1
  simp at h0 h1
  clear h
  go_enter Tryd.func9, Tryd.ntmps9
  go_wp2
  go_quiet (fail)
  go_wp2
  go_ret
  exact ⟨ret_int (by omega), _, rfl⟩
set_option maxHeartbeats 400000 in
theorem over_at (g : Nat) (v : Value) (u : Value) (b : Bool) (w : World) 
    (h : Box w g 62 #[u, v, .bool b]) :
    Calls Tryd.prog 33 #[.pointer (some ⟨g, 0, none⟩)] w fun e w' => e = .returned (.bool b) ∧ w' = w := by
  have h2 := h.cell 2
  simp at h2
  clear h
  go_enter Tryd.func33, Tryd.ntmps33
  go_wp2
  go_ret
  exact ⟨rfl, rfl⟩
set_option maxHeartbeats 400000 in
theorem end_at (g : Nat) (x y z : Value) (w : World) (h : Box w g 62 #[x, y, z]) :
    Calls Tryd.prog 53 #[.pointer (some ⟨g, 0, none⟩)] w fun e w' => e = .returned (.tuple #[]) ∧ Off w' g ∧ Upd (fun k => k = g) w w' := by
  have f0 := h.free 0
  have f1 := h.free 1
  have f2 := h.free 2
  have h0 := h.cell 0
  have h1 := h.cell 1
  have h2 := h.cell 2
  simp at h0 h1 h2
  have H := hide h
  clear h
  go_enter Tryd.func53, Tryd.ntmps53
  go_wp2
  go_end0
  refine ⟨rfl, ?_, ?_⟩
  · exact (((unhide H).set 0 _).set 1 _).set 2 _
  · exact (((Upd.refl (fun k => k = g) w).setCell (p := ⟨g, 0, none⟩) rfl _).setCell (p := ⟨g, 1, none⟩) rfl _).setCell (p := ⟨g, 2, none⟩) rfl _
theorem pow32 (n : Nat) (h : n ≤ 32) : (1 : Int) ≤ 2 ^ n ∧ (2 : Int) ^ n ≤ 4294967296 := by
  have h1 : (2 : Nat) ^ n ≤ 2 ^ 32 := Nat.pow_le_pow_right (by omega) h
  have h2 : 0 < (2 : Nat) ^ n := Nat.pow_pos (by omega)
  have h3 : ((2 ^ n : Nat) : Int) = (2 : Int) ^ n := by simp
  have h4 : (2 : Nat) ^ 32 = 4294967296 := by decide
  omega
theorem and_mask (X s n : Nat) (hX : X < 256 ^ 8) (hn : n ≤ 32) : bits .and .u64 ((X : Int) / 2 ^ s) (2 ^ n - 1) % 4294967296 = ((X / 2 ^ s % 2 ^ n : Nat) : Int) := by
  have e1 : (X : Int) / 2 ^ s = ((X / 2 ^ s : Nat) : Int) := by simp
  have e2 : (2 : Int) ^ n - 1 = ((2 ^ n - 1 : Nat) : Int) := by
    have h3 : ((2 ^ n : Nat) : Int) = (2 : Int) ^ n := by simp
    have h2 : 0 < (2 : Nat) ^ n := Nat.pow_pos (by omega)
    omega
  have h1 : (2 : Nat) ^ n ≤ 2 ^ 32 := Nat.pow_le_pow_right (by omega) hn
  have h4 : (2 : Nat) ^ 32 = 4294967296 := by decide
  have h5 : (256 : Nat) ^ 8 = 18446744073709551616 := by decide
  have h6 : X / 2 ^ s ≤ X := Nat.div_le_self _ _
  have h7 : X / 2 ^ s % 2 ^ n < 2 ^ n := Nat.mod_lt _ (Nat.pow_pos (by omega))
  rw [e1, e2, u64_and_nat _ _ (by omega) (by omega), Nat.and_two_pow_sub_one_eq_mod]
  omega
set_option maxHeartbeats 400000 in
theorem take_at (g b len cap i p s n m : Nat) (c : Nat → Nat) (hc : ∀ k, c k ≤ 255) (w : World) 
    (h : Box w g 62 #[.slice (some ⟨b, 0, none⟩) len cap, .int .i64 i, .bool false]) (hb : ∀ k, k < len → w.cell? ⟨b, k, none⟩ = some (.int .u8 (c k)))
    (hl : len ≤ 1000000) (hs : s < 8) (n0 : 1 ≤ n) (n1 : n ≤ 32) (hi : i = 8 * p + s) (hn : i + n ≤ 8 * len) (hm : m = (s + n + 7) / 8) :
    Calls Tryd.prog 54 #[.pointer (some ⟨g, 0, none⟩), .int .i64 n] w fun e w' => e = .returned (.int .u32 (val c len i n)) ∧ 
      Box w' g 62 #[.slice (some ⟨b, 0, none⟩) len cap, .int .i64 ((i + n : Nat) : Int), .bool false] ∧ Upd (fun k => k = g) w w' := by
  have f0 := h.free 1
  have h0 := h.cell 0
  have h1 := h.cell 1
  simp at h0 h1
  have H := hide h
  have m1 : 1 ≤ m := by omega
  have m2 : m ≤ 5 := by omega
  have E := hide (take_eq c hc p s m n len (by omega) (by omega))
  rw [← hi] at E
  have hmod : ((i : Int) % 8) = (s : Int) := by omega
  have hdiv : ((i : Int) / 8) = (p : Int) := by omega
  have hblk : ((s : Int) + (n : Int) + 7) / 8 = (m : Int) := by omega
  have hi1 : (i : Int) ≤ 8000000 := by omega
  have hsz : p + m ≤ len := by omega
  have HM := hide hm
  have HI := hide hi
  have X : ∀ k, Calls Tryd.prog 67 #[.slice (some ⟨b, 0, none⟩) len cap, .int .i64 p, .int .i64 m] (w.drewN k) fun e w' => e = .returned (.tuple #[.int .u64 (num c p m), .bool true]) ∧ w' = w.drewN k := fun k => by
    have := get18_yes b 0 len cap (fun k => (c k : Int)) p m (w.drewN k) (by unfold maxLen; omega) (fun k hk => by rw [Nat.zero_add]; exact hb k hk) (fun k => by have := hc k; omega) m1 (by omega) hsz
    rw [leN_num] at this
    exact this
  have GX := hide X
  clear h hb hm hi X
  go_enter Tryd.func54, Tryd.ntmps54
  go_wp2
  go_quiet ((first | (go_at_call 68; exact Calls.quiet_of_same (blk19 _ _ (by omega) (by omega))) | (go_at_call 67; exact Calls.quiet_of_same (unhide GX _))))
  obtain ⟨p1, p2⟩ := pow32 n n1
  obtain ⟨q1, q2⟩ := pow32 s (by omega)
  go_wp2
  go_quiet (fail)
  go_wp2
  go_ret
  refine ⟨ret_int ?_, ?_, ?_⟩
  · rw [and_mask _ _ _ (Nat.lt_of_lt_of_le (num_lt c hc m p) (Nat.pow_le_pow_right (j := 8) (by omega) (by omega))) n1, unhide E]
  · exact ((unhide H).drewN _).set 1 _
  · exact (((Upd.refl (fun k => k = g) w).drewN _).setCell (p := ⟨g, 1, none⟩) rfl _).drewN _

theorem ret_ue {a b : Int} {c : Int} (h : a = b) : Ending.returned (.tuple #[.int .u32 a, .int .i64 c]) = .returned (.tuple #[.int .u32 b, .int .i64 c]) := by rw [h]
set_option maxHeartbeats 400000 in
theorem bits_nil (n : Int) (w : World) :
    Calls Tryd.prog 34 #[.pointer none, .int .i64 n] w fun e w' => e = .returned (.tuple #[.int .u32 0, .int .i64 2]) ∧ w' = w := by
  go_enter Tryd.func34, Tryd.ntmps34
  go_wp2
  go_ret2
  exact ⟨rfl, rfl⟩
set_option maxHeartbeats 400000 in
theorem bits_arg (g : Nat) (n : Int) (w : World) (h : n < 0 ∨ 32 < n) :
    Calls Tryd.prog 34 #[.pointer (some ⟨g, 0, none⟩), .int .i64 n] w fun e w' => e = .returned (.tuple #[.int .u32 0, .int .i64 1]) ∧ w' = w := by
  rcases h with h | h
  · go_enter Tryd.func34, Tryd.ntmps34
    go_wp2
    go_ret2
    exact ⟨rfl, rfl⟩
  · have h' : 0 ≤ n := by omega
    go_enter Tryd.func34, Tryd.ntmps34
    go_wp2
    go_ret2
    exact ⟨rfl, rfl⟩
set_option maxHeartbeats 400000 in
theorem bits_zero (g : Nat) (w : World) :
    Calls Tryd.prog 34 #[.pointer (some ⟨g, 0, none⟩), .int .i64 0] w fun e w' => e = .returned (.tuple #[.int .u32 0, .int .i64 0]) ∧ w' = w := by
  go_enter Tryd.func34, Tryd.ntmps34
  go_wp2
  go_ret2
  exact ⟨rfl, rfl⟩
set_option maxHeartbeats 400000 in
theorem bits_short (g : Nat) (a : Option Addr) (len cap i : Nat) (b : Bool) (n : Nat) (w : World) 
    (h : Box w g 62 #[.slice a len cap, .int .i64 i, .bool b]) (hl : len ≤ 1000000) (i1 : i ≤ 8 * len) (n0 : 1 ≤ n) (n1 : n ≤ 32) (hn : 8 * len < i + n) :
    Calls Tryd.prog 34 #[.pointer (some ⟨g, 0, none⟩), .int .i64 n] w fun e w' => e = .returned (.tuple #[.int .u32 0, .int .i64 2]) ∧ Off w' g ∧ Upd (fun k => k = g) w w' := by
  have H := hide h
  have L := hide (left_at g a len cap i b w h hl i1)
  have hd : ((8 * len - i : Nat) : Int) < (n : Int) := by omega
  clear h
  generalize 8 * len - i = r at *
  clear i1 hn hl
  go_enter Tryd.func34, Tryd.ntmps34
  go_wp2_with fail
  refine (unhide L).mono ?_
  rintro e w1 ⟨rfl, kk, rfl⟩
  go_wp2_with fail
  refine (end_at g _ _ _ _ ((unhide H).drewN kk)).mono ?_
  rintro e w2 ⟨rfl, o2, u2⟩
  have O2 := hide o2
  have U2 := hide u2
  clear o2 u2
  go_wp2
  go_ret2
  exact ⟨rfl, unhide O2, ((Upd.refl _ w).drewN kk).trans (unhide U2)⟩
theorem bits_end (lo hi g len i n : Nat) (c : Nat → Nat) (w : World) (h : On w lo hi g c len i) (hl : len ≤ 1000000) (n0 : 1 ≤ n) (n1 : n ≤ 32) (hn : 8 * len < i + n) :
    Calls Tryd.prog 34 #[.pointer (some ⟨g, 0, none⟩), .int .i64 n] w fun e w' => e = .returned (.tuple #[.int .u32 0, .int .i64 2]) ∧ Off w' g ∧ Upd (fun k => k = g) w w' := by
  obtain ⟨a, cap, h0, h1, h2, h3, h4, h5⟩ := h
  exact bits_short g a len cap i false n w h0 hl h4 n0 n1 hn
theorem bits_off (g n : Nat) (w : World) (h : Off w g) (n0 : 1 ≤ n) (n1 : n ≤ 32) :
    Calls Tryd.prog 34 #[.pointer (some ⟨g, 0, none⟩), .int .i64 n] w fun e w' => e = .returned (.tuple #[.int .u32 0, .int .i64 2]) ∧ Off w' g ∧ Upd (fun k => k = g) w w' :=
  bits_short g none 0 0 0 true n w h (by omega) (by omega) n0 n1 (by omega)
set_option maxHeartbeats 400000 in
theorem bits_on (lo hi g len i n : Nat) (c : Nat → Nat) (hc : ∀ k, c k ≤ 255) (w : World) (h : On w lo hi g c len i) (hl : len ≤ 1000000) (n0 : 1 ≤ n) (n1 : n ≤ 32) (hn : i + n ≤ 8 * len) :
    Calls Tryd.prog 34 #[.pointer (some ⟨g, 0, none⟩), .int .i64 n] w fun e w' => e = .returned (.tuple #[.int .u32 (val c len i n), .int .i64 0]) ∧ On w' lo hi g c len (i + n) ∧ Upd (fun k => k = g) w w' := by
  obtain ⟨a, cap, h0, h1, h2, h3, h4, h5⟩ := h
  rcases h5 with h5 | ⟨b, rfl, b1, b2, b3, b4⟩
  · omega
  have L := hide (left_at g _ len cap i _ w h0 hl h4)
  have T := hide (fun k => take_at g b len cap i (i / 8) (i % 8) n ((i % 8 + n + 7) / 8) c hc (w.drewN k) (h0.drewN k) b4 hl (by omega) n0 n1 (by omega) hn rfl)
  have B4 := hide b4
  have HN := hide hn
  have hd : (n : Int) ≤ ((8 * len - i : Nat) : Int) := by omega
  clear h0 h4 b4 hn
  generalize 8 * len - i = r at *
  go_enter Tryd.func34, Tryd.ntmps34
  go_wp2_with fail
  refine (unhide L).mono ?_
  rintro e w1 ⟨rfl, kk, rfl⟩
  go_wp2_with fail
  refine (unhide T kk).mono ?_
  rintro e w2 ⟨rfl, o2, u2⟩
  have O2 := hide o2
  have U2 := hide (((Upd.refl _ w).drewN kk).trans u2)
  clear o2 u2 T L
  go_wp2
  go_ret2
  exact ⟨rfl, ⟨_, cap, unhide O2, h1, h2, Nat.le_trans h3 (unhide U2).size, unhide HN, .inr ⟨b, rfl, b1, b2, b3, fun k hk => ((unhide U2).cell (p := ⟨b, k, none⟩) (Nat.lt_of_lt_of_le b2 h3) b3).trans (unhide B4 k hk)⟩⟩, unhide U2⟩
theorem left_on (lo hi g len i : Nat) (c : Nat → Nat) (w : World) (h : On w lo hi g c len i) (hl : len ≤ 1000000) :
    Calls Tryd.prog 9 #[.pointer (some ⟨g, 0, none⟩)] w fun e w' => e = .returned (.int .i64 ((8 * len - i : Nat) : Int)) ∧ ∃ k, w' = w.drewN k := by
  obtain ⟨a, cap, h0, h1, h2, h3, h4, h5⟩ := h
  exact left_at g a len cap i false w h0 hl h4
theorem left_off (g : Nat) (w : World) (h : Off w g) :
    Calls Tryd.prog 9 #[.pointer (some ⟨g, 0, none⟩)] w fun e w' => e = .returned (.int .i64 0) ∧ ∃ k, w' = w.drewN k :=
  left_at g none 0 0 0 true w h (by omega) (by omega)
theorem over_on (lo hi g len i : Nat) (c : Nat → Nat) (w : World) (h : On w lo hi g c len i) :
    Calls Tryd.prog 33 #[.pointer (some ⟨g, 0, none⟩)] w fun e w' => e = .returned (.bool false) ∧ w' = w := by
  obtain ⟨a, cap, h0, h1, h2, h3, h4, h5⟩ := h
  exact over_at g _ _ _ w h0
theorem over_off (g : Nat) (w : World) (h : Off w g) :
    Calls Tryd.prog 33 #[.pointer (some ⟨g, 0, none⟩)] w fun e w' => e = .returned (.bool true) ∧ w' = w := over_at g _ _ _ w h
theorem eql_nil (w : World) : (binOp .eql 23 (.slice none 0 0) (.slice none 0 0)).run Tryd.prog w = .ok (.bool true) w := by kernel_rfl
theorem eql_some (w : World) (a : Addr) (n c : Nat) : (binOp .eql 23 (.slice (some a) n c) (.slice none 0 0)).run Tryd.prog w = .ok (.bool false) w := by kernel_rfl
set_option maxHeartbeats 400000 in
theorem clone14 (v : Value) (len : Nat) (c : Nat → Nat) (w : World) (h : Src w v len c) (hl : len ≤ 1000000) :
    Calls Tryd.prog 19 #[v] w fun e w' => ∃ u, e = .returned u ∧ Got w' w.heap.size u len c ∧ Below w.heap.size w w' := by
  rcases h with ⟨rfl, rfl⟩ | ⟨x, cap, rfl, hc⟩
  · have hq := eql_nil
    go_enter Tryd.func19, Tryd.ntmps19
    go_wp2
    go_ret
    exact ⟨_, rfl, ⟨none, 0, rfl, .inl rfl⟩, Below.refl _ _⟩
  · obtain ⟨i0, hi, hz0, hz1, hz2⟩ := info_parts Tryd.info5
    have n1 := news_of (w := w.alloc (.cells #[] 5)) (n := len) (c := c) (x := x) (fun k hk => ((Upd.refl (fun _ => False) w).alloc _).cell (lt_of_cell (hc k hk)) (fun h => h) |>.trans (hc k hk))
    have ownE : (w.alloc (.cells #[] 5)).ownsRow w.heap.size 5 1 (.slice (some ⟨w.heap.size, 0, none⟩) 0 0) 0 [] := World.ownsRow_lit w #[] 0 (Nat.le_refl _) (by decide) rfl
    have N1 := hide n1
    have OE := hide ownE
    clear n1 ownE hc
    have hq := fun w => eql_some w x len cap
    go_enter Tryd.func19, Tryd.ntmps19
    go_wp2_with (first | (at_builtin; refine wpList_append_own _ rfl (.tmp 5) (.tmp 6) 23 rfl w.heap.size 5 i0 (.int .u8 0) 1 1 Tryd.underlying23 hi hz0 hz1 hz2 rfl (by decide) _ _ _ rfl (unhide OE) x len cap (cells c len) rfl (by rw [cells_len, Nat.mul_one]) (unhide N1) (cells_one _ _) (by unfold maxLen; omega) (by omega) (by simp) ?_; intro v3 w3 own3 grow3 _; have O3 := hide own3; have G3 := hide grow3; clear own3 grow3) | fail)
    go_ret
    have o3 := unhide O3
    rw [Nat.zero_add, List.nil_append] at o3
    exact ⟨_, rfl, got_of o3, ((Below.refl _ w).alloc (Nat.le_refl _) _).grown (unhide G3) (by simp) (fun k hk => by cases hk; exact Nat.le_refl _)⟩
set_option maxHeartbeats 400000 in
theorem new8 (v : Value) (len : Nat) (c : Nat → Nat) (w : World) (h : Src w v len c) (hl : len ≤ 1000000) :
    Calls Tryd.prog 7 #[v] w fun e w' => ∃ g, e = .returned (.pointer (some ⟨g, 0, none⟩)) ∧ On w' w.heap.size w'.heap.size g c len 0 ∧ Below w.heap.size w w' := by
  have C := hide (clone14 v len c w h hl)
  clear h
  go_enter Tryd.func7, Tryd.ntmps7
  go_wp2_with fail
  refine (unhide C).mono ?_
  rintro e w1 ⟨u, rfl, ⟨a, cap, rfl, g1⟩, bel1⟩
  have G1 := hide g1
  have B1 := hide bel1
  clear g1 bel1 C
  go_wp2
  go_ret
  have hs : w.heap.size ≤ w1.heap.size := (unhide B1).size
  refine ⟨w1.heap.size, rfl, ⟨a, cap, Box.made _ _ _, hs, by simp, Nat.le_refl _, Nat.zero_le _, ?_⟩, (unhide B1).alloc hs _⟩
  rcases unhide G1 with h | ⟨b, rfl, h1, h2, h3⟩
  · exact .inl h
  · exact .inr ⟨b, rfl, h1, by simp; omega, by omega, fun k hk => by rw [World.cell?_alloc_past _ _ _ (by exact h2)]; exact h3 k hk⟩

/-- The state behind a call: how many bits are read; none: it is over. -/
def stp (len : Nat) (s : Option Nat) (n : Nat) : Option Nat :=
  if n = 0 then s else match s with | some i => if i + n ≤ 8 * len then some (i + n) else none | none => none
def resV (c : Nat → Nat) (len : Nat) (s : Option Nat) (n : Nat) : Nat :=
  match s with | some i => if i + n ≤ 8 * len then val c len i n else 0 | none => 0
def resE (len : Nat) (s : Option Nat) (n : Nat) : Nat :=
  if n = 0 then 0 else match s with | some i => if i + n ≤ 8 * len then 0 else 2 | none => 2
/-- A reader in a state. -/
def At (w : World) (lo hi g : Nat) (c : Nat → Nat) (len : Nat) (s : Option Nat) : Prop :=
  lo ≤ g ∧ g < hi ∧ hi ≤ w.heap.size ∧ match s with | some i => On w lo hi g c len i | none => Off w g
theorem On.at {w : World} {lo hi g len i : Nat} {c : Nat → Nat} (h : On w lo hi g c len i) : At w lo hi g c len (some i) := by
  refine ⟨?_, ?_, ?_, h⟩ <;> (obtain ⟨_, _, _, h1, h2, h3, _⟩ := h; assumption)
theorem At.keep {S : Nat → Prop} {w w' : World} {lo hi g len : Nat} {s : Option Nat} {c : Nat → Nat} (h : At w lo hi g c len s) (u : Upd S w w') (hs : ∀ k, lo ≤ k → k < hi → ¬ S k) : At w' lo hi g c len s := by
  obtain ⟨h1, h2, h3, h4⟩ := h
  refine ⟨h1, h2, Nat.le_trans h3 u.size, ?_⟩
  cases s with
  | some i => exact On.keep h4 u hs
  | none => exact Off.keep h4 u (hs g h1 h2)
theorem On.le {w : World} {lo hi g len i : Nat} {c : Nat → Nat} (h : On w lo hi g c len i) : i ≤ 8 * len := by
  obtain ⟨_, _, _, _, _, _, h, _⟩ := h; exact h
theorem bits_step (lo hi g len n : Nat) (s : Option Nat) (c : Nat → Nat) (hc : ∀ k, c k ≤ 255) (w : World) (h : At w lo hi g c len s) (hl : len ≤ 1000000) (n1 : n ≤ 32) :
    Calls Tryd.prog 34 #[.pointer (some ⟨g, 0, none⟩), .int .i64 n] w fun e w' => e = .returned (.tuple #[.int .u32 (resV c len s n), .int .i64 (resE len s n)]) ∧ At w' lo hi g c len (stp len s n) ∧ Upd (fun k => k = g) w w' := by
  by_cases h0 : n = 0
  · subst h0
    refine (bits_zero g w).mono ?_
    rintro e w1 ⟨rfl, rfl⟩
    refine ⟨?_, ?_, Upd.refl _ _⟩
    · cases s with
      | none => rfl
      | some i =>
        have hi := On.le h.2.2.2
        simp [resV, resE, val, Nat.mod_one]
    · exact h
  · obtain ⟨h1, h2, h3, h4⟩ := h
    cases s with
    | none =>
      refine (bits_off g n w h4 (by omega) n1).mono ?_
      rintro e w1 ⟨rfl, o, u⟩
      refine ⟨by simp [resV, resE, h0], ?_, u⟩
      simp only [stp, h0]
      exact ⟨h1, h2, Nat.le_trans h3 u.size, o⟩
    | some i =>
      by_cases hn : i + n ≤ 8 * len
      · refine (bits_on lo hi g len i n c hc w h4 hl (by omega) n1 hn).mono ?_
        rintro e w1 ⟨rfl, o, u⟩
        refine ⟨by simp [resV, resE, h0, hn], ?_, u⟩
        simp only [stp, h0, hn]
        exact ⟨h1, h2, Nat.le_trans h3 u.size, o⟩
      · refine (bits_end lo hi g len i n c w h4 hl (by omega) n1 (by omega)).mono ?_
        rintro e w1 ⟨rfl, o, u⟩
        refine ⟨by simp [resV, resE, h0, hn], ?_, u⟩
        simp only [stp, h0, hn]
        exact ⟨h1, h2, Nat.le_trans h3 u.size, o⟩
/-- How many bits are left, in a state. -/
def leftOf (len : Nat) (s : Option Nat) : Nat := match s with | some i => 8 * len - i | none => 0
theorem left_step (lo hi g len : Nat) (s : Option Nat) (c : Nat → Nat) (w : World) (h : At w lo hi g c len s) (hl : len ≤ 1000000) :
    Calls Tryd.prog 9 #[.pointer (some ⟨g, 0, none⟩)] w fun e w' => e = .returned (.int .i64 (leftOf len s)) ∧ ∃ k, w' = w.drewN k := by
  cases s with
  | some i => exact left_on lo hi g len i c w h.2.2.2 hl
  | none => exact left_off g w h.2.2.2
theorem over_step (lo hi g len : Nat) (s : Option Nat) (c : Nat → Nat) (w : World) (h : At w lo hi g c len s) :
    Calls Tryd.prog 33 #[.pointer (some ⟨g, 0, none⟩)] w fun e w' => e = .returned (.bool s.isNone) ∧ w' = w := by
  cases s with
  | some i => exact over_on lo hi g len i c w h.2.2.2
  | none => exact over_off g w h.2.2.2
end Go.Proofs.YtgjpcjnhggcfdaaDoor.Bitin
