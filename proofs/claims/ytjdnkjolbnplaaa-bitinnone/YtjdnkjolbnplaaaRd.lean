/- Contracts: the reader's Left, Over, end. Conditions: the pointer is nil, or leads to a reader's three fields. -/
import Derived.Test.YtjdnkjolbnplaaaMem
namespace Go.Proofs.Ytjdnkjolbnplaaa.Rd
open Go.ChangeShapes Go.WideShapes Go.ChangeAt Go.RowKit Go.Proofs.Ytjdnkjolbnplaaa.Base Go.Proofs.Ytjdnkjolbnplaaa.Mem

set_option maxHeartbeats 400000 in
theorem left_nil (w : World) :
    Calls Try.prog 12 #[.pointer none] w fun e w' => e = .returned (.int .i64 0) ∧ w' = w := by
  go_enter Try.func12, Try.ntmps12
  go_wp2
  go_ret
  exact ⟨rfl, rfl⟩
set_option maxHeartbeats 400000 in
theorem over_nil (w : World) :
    Calls Try.prog 13 #[.pointer none] w fun e w' => e = .returned (.bool true) ∧ w' = w := by
  go_enter Try.func13, Try.ntmps13
  go_wp2
  go_ret
  exact ⟨rfl, rfl⟩
set_option maxHeartbeats 400000 in
theorem left_at (g : Nat) (a : Option Addr) (len cap i : Nat) (b : Bool) (w : World) 
    (h : Box w g 45 #[.slice a len cap, .int .i64 i, .bool b]) (hl : len ≤ 1000000) (i1 : i ≤ 8 * len) :
    Calls Try.prog 12 #[.pointer (some ⟨g, 0, none⟩)] w fun e w' => e = .returned (.int .i64 ((8 * len - i : Nat) : Int)) ∧ ∃ k, w' = w.drewN k := by
  have h0 := h.cell 0
  have h1 := h.cell 1
  simp at h0 h1
  clear h
  go_enter Try.func12, Try.ntmps12
  go_wp2
  go_quiet (fail)
  go_wp2
  go_ret
  exact ⟨ret_int (by omega), _, rfl⟩
set_option maxHeartbeats 400000 in
theorem over_at (g : Nat) (v : Value) (u : Value) (b : Bool) (w : World) 
    (h : Box w g 45 #[u, v, .bool b]) :
    Calls Try.prog 13 #[.pointer (some ⟨g, 0, none⟩)] w fun e w' => e = .returned (.bool b) ∧ w' = w := by
  have h2 := h.cell 2
  simp at h2
  clear h
  go_enter Try.func13, Try.ntmps13
  go_wp2
  go_ret
  exact ⟨rfl, rfl⟩
set_option maxHeartbeats 400000 in
theorem end_at (g : Nat) (x y z : Value) (w : World) (h : Box w g 45 #[x, y, z]) :
    Calls Try.prog 16 #[.pointer (some ⟨g, 0, none⟩)] w fun e w' => e = .returned (.tuple #[]) ∧ Off w' g ∧ Upd (fun k => k = g) w w' := by
  have f0 := h.free 0
  have f1 := h.free 1
  have f2 := h.free 2
  have h0 := h.cell 0
  have h1 := h.cell 1
  have h2 := h.cell 2
  simp at h0 h1 h2
  have H := hide h
  clear h
  go_enter Try.func16, Try.ntmps16
  go_wp2
  go_end0
  refine ⟨rfl, ?_, ?_⟩
  · exact (((unhide H).set 0 _).set 1 _).set 2 _
  · exact (((Upd.refl (fun k => k = g) w).setCell (p := ⟨g, 0, none⟩) rfl _).setCell (p := ⟨g, 1, none⟩) rfl _).setCell (p := ⟨g, 2, none⟩) rfl _
theorem pow32 (n : Nat) (h : n ≤ 32) : (1 : Int) ≤ 2 ^ n ∧ (2 : Int) ^ n ≤ 4294967296 := by
  have h1 : (2 : Nat) ^ n ≤ 2 ^ 32 := Nat.pow_le_pow_right (by omega) h
  have h2 : 0 < (2 : Nat) ^ n := Nat.pow_pos (by omega)
  have h3 : ((2 ^ n : Nat) : Int) = (2 : Int) ^ n := by simp
  have h4 : (2 : Nat) ^ 32 = 4294967296 := by decide
  omega
theorem and_mask (X s n : Nat) (hX : X < 256 ^ 8) (hn : n ≤ 32) : bits .and .u64 ((X : Int) / 2 ^ s) (2 ^ n - 1) % 4294967296 = ((X / 2 ^ s % 2 ^ n : Nat) : Int) := by
  have e1 : (X : Int) / 2 ^ s = ((X / 2 ^ s : Nat) : Int) := by simp
  have e2 : (2 : Int) ^ n - 1 = ((2 ^ n - 1 : Nat) : Int) := by
    have h3 : ((2 ^ n : Nat) : Int) = (2 : Int) ^ n := by simp
    have h2 : 0 < (2 : Nat) ^ n := Nat.pow_pos (by omega)
    omega
  have h1 : (2 : Nat) ^ n ≤ 2 ^ 32 := Nat.pow_le_pow_right (by omega) hn
  have h4 : (2 : Nat) ^ 32 = 4294967296 := by decide
  have h5 : (256 : Nat) ^ 8 = 18446744073709551616 := by decide
  have h6 : X / 2 ^ s ≤ X := Nat.div_le_self _ _
  have h7 : X / 2 ^ s % 2 ^ n < 2 ^ n := Nat.mod_lt _ (Nat.pow_pos (by omega))
  rw [e1, e2, u64_and_nat _ _ (by omega) (by omega), Nat.and_two_pow_sub_one_eq_mod]
  omega
set_option maxHeartbeats 400000 in
theorem take_at (g b len cap i p s n m : Nat) (c : Nat → Nat) (hc : ∀ k, c k ≤ 255) (w : World) 
    (h : Box w g 45 #[.slice (some ⟨b, 0, none⟩) len cap, .int .i64 i, .bool false]) (hb : ∀ k, k < len → w.cell? ⟨b, k, none⟩ = some (.int .u8 (c k)))
    (hl : len ≤ 1000000) (hs : s < 8) (n0 : 1 ≤ n) (n1 : n ≤ 32) (hi : i = 8 * p + s) (hn : i + n ≤ 8 * len) (hm : m = (s + n + 7) / 8) :
    Calls Try.prog 17 #[.pointer (some ⟨g, 0, none⟩), .int .i64 n] w fun e w' => e = .returned (.int .u32 (val c len i n)) ∧ 
      Box w' g 45 #[.slice (some ⟨b, 0, none⟩) len cap, .int .i64 ((i + n : Nat) : Int), .bool false] ∧ Upd (fun k => k = g) w w' := by
  have f0 := h.free 1
  have h0 := h.cell 0
  have h1 := h.cell 1
  simp at h0 h1
  have H := hide h
  have m1 : 1 ≤ m := by omega
  have m2 : m ≤ 5 := by omega
  have E := hide (take_eq c hc p s m n len (by omega) (by omega))
  rw [← hi] at E
  have hmod : ((i : Int) % 8) = (s : Int) := by omega
  have hdiv : ((i : Int) / 8) = (p : Int) := by omega
  have hblk : ((s : Int) + (n : Int) + 7) / 8 = (m : Int) := by omega
  have hi1 : (i : Int) ≤ 8000000 := by omega
  have hsz : p + m ≤ len := by omega
  have HM := hide hm
  have HI := hide hi
  have X : ∀ k, Calls Try.prog 18 #[.slice (some ⟨b, 0, none⟩) len cap, .int .i64 p, .int .i64 m] (w.drewN k) fun e w' => e = .returned (.tuple #[.int .u64 (num c p m), .bool true]) ∧ w' = w.drewN k := fun k => by
    have := get18_yes b 0 len cap (fun k => (c k : Int)) p m (w.drewN k) (by unfold maxLen; omega) (fun k hk => by rw [Nat.zero_add]; exact hb k hk) (fun k => by have := hc k; omega) m1 (by omega) hsz
    rw [leN_num] at this
    exact this
  have GX := hide X
  clear h hb hm hi X
  go_enter Try.func17, Try.ntmps17
  go_wp2
  go_quiet ((first | (go_at_call 19; exact Calls.quiet_of_same (blk19 _ _ (by omega) (by omega))) | (go_at_call 18; exact Calls.quiet_of_same (unhide GX _))))
  obtain ⟨p1, p2⟩ := pow32 n n1
  obtain ⟨q1, q2⟩ := pow32 s (by omega)
  go_wp2
  go_quiet (fail)
  go_wp2
  go_ret
  refine ⟨ret_int ?_, ?_, ?_⟩
  · rw [and_mask _ _ _ (Nat.lt_of_lt_of_le (num_lt c hc m p) (Nat.pow_le_pow_right (j := 8) (by omega) (by omega))) n1, unhide E]
  · exact ((unhide H).drewN _).set 1 _
  · exact (((Upd.refl (fun k => k = g) w).drewN _).setCell (p := ⟨g, 1, none⟩) rfl _).drewN _

theorem ret_ue {a b : Int} {c : Int} (h : a = b) : Ending.returned (.tuple #[.int .u32 a, .int .i64 c]) = .returned (.tuple #[.int .u32 b, .int .i64 c]) := by rw [h]
set_option maxHeartbeats 400000 in
theorem bits_nil (n : Int) (w : World) :
    Calls Try.prog 10 #[.pointer none, .int .i64 n] w fun e w' => e = .returned (.tuple #[.int .u32 0, .int .i64 2]) ∧ w' = w := by
  go_enter Try.func10, Try.ntmps10
  go_wp2
  go_ret2
  exact ⟨rfl, rfl⟩
set_option maxHeartbeats 400000 in
theorem bits_arg (g : Nat) (n : Int) (w : World) (h : n < 0 ∨ 32 < n) :
    Calls Try.prog 10 #[.pointer (some ⟨g, 0, none⟩), .int .i64 n] w fun e w' => e = .returned (.tuple #[.int .u32 0, .int .i64 1]) ∧ w' = w := by
  rcases h with h | h
  · go_enter Try.func10, Try.ntmps10
    go_wp2
    go_ret2
    exact ⟨rfl, rfl⟩
  · have h' : 0 ≤ n := by omega
    go_enter Try.func10, Try.ntmps10
    go_wp2
    go_ret2
    exact ⟨rfl, rfl⟩
set_option maxHeartbeats 400000 in
theorem bits_zero (g : Nat) (w : World) :
    Calls Try.prog 10 #[.pointer (some ⟨g, 0, none⟩), .int .i64 0] w fun e w' => e = .returned (.tuple #[.int .u32 0, .int .i64 0]) ∧ w' = w := by
  go_enter Try.func10, Try.ntmps10
  go_wp2
  go_ret2
  exact ⟨rfl, rfl⟩
set_option maxHeartbeats 400000 in
theorem bits_short (g : Nat) (a : Option Addr) (len cap i : Nat) (b : Bool) (n : Nat) (w : World) 
    (h : Box w g 45 #[.slice a len cap, .int .i64 i, .bool b]) (hl : len ≤ 1000000) (i1 : i ≤ 8 * len) (n0 : 1 ≤ n) (n1 : n ≤ 32) (hn : 8 * len < i + n) :
    Calls Try.prog 10 #[.pointer (some ⟨g, 0, none⟩), .int .i64 n] w fun e w' => e = .returned (.tuple #[.int .u32 0, .int .i64 2]) ∧ Off w' g ∧ Upd (fun k => k = g) w w' := by
  have H := hide h
  have L := hide (left_at g a len cap i b w h hl i1)
  have hd : ((8 * len - i : Nat) : Int) < (n : Int) := by omega
  clear h
  generalize 8 * len - i = r at *
  clear i1 hn hl
  go_enter Try.func10, Try.ntmps10
  go_wp2_with fail
  refine (unhide L).mono ?_
  rintro e w1 ⟨rfl, kk, rfl⟩
  go_wp2_with fail
  refine (end_at g _ _ _ _ ((unhide H).drewN kk)).mono ?_
  rintro e w2 ⟨rfl, o2, u2⟩
  have O2 := hide o2
  have U2 := hide u2
  clear o2 u2
  go_wp2
  go_ret2
  exact ⟨rfl, unhide O2, ((Upd.refl _ w).drewN kk).trans (unhide U2)⟩
theorem bits_end (lo hi g len i n : Nat) (c : Nat → Nat) (w : World) (h : On w lo hi g c len i) (hl : len ≤ 1000000) (n0 : 1 ≤ n) (n1 : n ≤ 32) (hn : 8 * len < i + n) :
    Calls Try.prog 10 #[.pointer (some ⟨g, 0, none⟩), .int .i64 n] w fun e w' => e = .returned (.tuple #[.int .u32 0, .int .i64 2]) ∧ Off w' g ∧ Upd (fun k => k = g) w w' := by
  obtain ⟨a, cap, h0, h1, h2, h3, h4, h5⟩ := h
  exact bits_short g a len cap i false n w h0 hl h4 n0 n1 hn
theorem bits_off (g n : Nat) (w : World) (h : Off w g) (n0 : 1 ≤ n) (n1 : n ≤ 32) :
    Calls Try.prog 10 #[.pointer (some ⟨g, 0, none⟩), .int .i64 n] w fun e w' => e = .returned (.tuple #[.int .u32 0, .int .i64 2]) ∧ Off w' g ∧ Upd (fun k => k = g) w w' :=
  bits_short g none 0 0 0 true n w h (by omega) (by omega) n0 n1 (by omega)
set_option maxHeartbeats 400000 in
theorem bits_on (lo hi g len i n : Nat) (c : Nat → Nat) (hc : ∀ k, c k ≤ 255) (w : World) (h : On w lo hi g c len i) (hl : len ≤ 1000000) (n0 : 1 ≤ n) (n1 : n ≤ 32) (hn : i + n ≤ 8 * len) :
    Calls Try.prog 10 #[.pointer (some ⟨g, 0, none⟩), .int .i64 n] w fun e w' => e = .returned (.tuple #[.int .u32 (val c len i n), .int .i64 0]) ∧ On w' lo hi g c len (i + n) ∧ Upd (fun k => k = g) w w' := by
  obtain ⟨a, cap, h0, h1, h2, h3, h4, h5⟩ := h
  rcases h5 with h5 | ⟨b, rfl, b1, b2, b3, b4⟩
  · omega
  have L := hide (left_at g _ len cap i _ w h0 hl h4)
  have T := hide (fun k => take_at g b len cap i (i / 8) (i % 8) n ((i % 8 + n + 7) / 8) c hc (w.drewN k) (h0.drewN k) b4 hl (by omega) n0 n1 (by omega) hn rfl)
  have B4 := hide b4
  have HN := hide hn
  have hd : (n : Int) ≤ ((8 * len - i : Nat) : Int) := by omega
  clear h0 h4 b4 hn
  generalize 8 * len - i = r at *
  go_enter Try.func10, Try.ntmps10
  go_wp2_with fail
  refine (unhide L).mono ?_
  rintro e w1 ⟨rfl, kk, rfl⟩
  go_wp2_with fail
  refine (unhide T kk).mono ?_
  rintro e w2 ⟨rfl, o2, u2⟩
  have O2 := hide o2
  have U2 := hide (((Upd.refl _ w).drewN kk).trans u2)
  clear o2 u2 T L
  go_wp2
  go_ret2
  exact ⟨rfl, ⟨_, cap, unhide O2, h1, h2, Nat.le_trans h3 (unhide U2).size, unhide HN, .inr ⟨b, rfl, b1, b2, b3, fun k hk => ((unhide U2).cell (p := ⟨b, k, none⟩) (Nat.lt_of_lt_of_le b2 h3) b3).trans (unhide B4 k hk)⟩⟩, unhide U2⟩
theorem left_on (lo hi g len i : Nat) (c : Nat → Nat) (w : World) (h : On w lo hi g c len i) (hl : len ≤ 1000000) :
    Calls Try.prog 12 #[.pointer (some ⟨g, 0, none⟩)] w fun e w' => e = .returned (.int .i64 ((8 * len - i : Nat) : Int)) ∧ ∃ k, w' = w.drewN k := by
  obtain ⟨a, cap, h0, h1, h2, h3, h4, h5⟩ := h
  exact left_at g a len cap i false w h0 hl h4
theorem left_off (g : Nat) (w : World) (h : Off w g) :
    Calls Try.prog 12 #[.pointer (some ⟨g, 0, none⟩)] w fun e w' => e = .returned (.int .i64 0) ∧ ∃ k, w' = w.drewN k :=
  left_at g none 0 0 0 true w h (by omega) (by omega)
theorem over_on (lo hi g len i : Nat) (c : Nat → Nat) (w : World) (h : On w lo hi g c len i) :
    Calls Try.prog 13 #[.pointer (some ⟨g, 0, none⟩)] w fun e w' => e = .returned (.bool false) ∧ w' = w := by
  obtain ⟨a, cap, h0, h1, h2, h3, h4, h5⟩ := h
  exact over_at g _ _ _ w h0
theorem over_off (g : Nat) (w : World) (h : Off w g) :
    Calls Try.prog 13 #[.pointer (some ⟨g, 0, none⟩)] w fun e w' => e = .returned (.bool true) ∧ w' = w := over_at g _ _ _ w h
end Go.Proofs.Ytjdnkjolbnplaaa.Rd
