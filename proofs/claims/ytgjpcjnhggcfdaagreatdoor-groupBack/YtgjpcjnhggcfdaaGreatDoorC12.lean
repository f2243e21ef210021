/-
  Numbers alone: lengths told by steps, as bits of a number. Conditions: as each says.
  Contracts: package lens, reading: a source's numbers, how often a step tells its length, telling lengths. Conditions: the source lies in memory.
  Contract: the document's own next symbol (ref.Symbol). Conditions: the slices read as complete lengths and their codes and do not lie in the eye; the bytes are few.
  Contract: the document's own codes (ref.Codes). Conditions: the slice reads as lengths from 0 to 15 whose sum is not beyond 1.
-/
import Derived.Test.YtgjpcjnhggcfdaaGreatDoorC06
import Derived.Test.YtgjpcjnhggcfdaaGreatDoorC07
import Derived.Test.YtgjpcjnhggcfdaaGreatDoorC10
import Derived.Test.YtgjpcjnhggcfdaaGreatDoorC11
namespace Go.Proofs.YtgjpcjnhggcfdaaGreatDoor.Lsp
open Go.Proofs.YtgjpcjnhggcfdaaGreatDoor.Math Go.Proofs.YtgjpcjnhggcfdaaGreatDoor.Dec Go.Proofs.YtgjpcjnhggcfdaaGreatDoor.Eyes Go.Proofs.YtgjpcjnhggcfdaaGreatDoor.Bitin

/-- n bits of V from place i on, as a number. -/
def nb (V i n : Nat) : Nat := V / 2 ^ i % 2 ^ n
theorem nb_lt (V i n : Nat) : nb V i n < 2 ^ n := Nat.mod_lt _ (Nat.pow_pos (by omega))
theorem nb_val (c : Nat → Nat) (len i n : Nat) : val c len i n = nb (num c 0 len) i n := rfl
theorem nb_bt (c : Nat → Nat) (hc : ∀ k, c k ≤ 255) (len j : Nat) (h : j < 8 * len) : nb (num c 0 len) j 1 = bt c j := bt_val c hc len j h
/-- What lies below place M hangs on what lies there alone. -/
theorem nb_mod (V M i n : Nat) (h : i + n ≤ M) : nb (V % 2 ^ M) i n = nb V i n := by
  unfold nb
  obtain ⟨d, rfl⟩ : ∃ d, M = i + d := ⟨M - i, by omega⟩
  rw [Nat.pow_add, Nat.mod_mul_right_div_self]
  exact Nat.mod_mod_of_dvd _ (Nat.pow_dvd_pow 2 (by omega))
theorem nb_same {V V' M : Nat} (h : V % 2 ^ M = V' % 2 ^ M) {i n : Nat} (hi : i + n ≤ M) : nb V i n = nb V' i n := by
  rw [← nb_mod V M i n hi, h, nb_mod V' M i n hi]
/-- What is written behind N bits. -/
theorem nb_new (V N v n : Nat) (hV : V < 2 ^ N) (hv : v < 2 ^ n) : nb (V + v * 2 ^ N) N n = v := by
  unfold nb
  rw [Nat.add_mul_div_right _ _ (Nat.pow_pos (by omega)), Nat.div_eq_of_lt hV, Nat.zero_add, Nat.mod_eq_of_lt hv]
theorem nb_old (V N v : Nat) : (V + v * 2 ^ N) % 2 ^ N = V % 2 ^ N := by
  rw [Nat.add_mul_mod_self_right]
theorem nb_one (V i : Nat) : nb V i 1 = V / 2 ^ i % 2 := by unfold nb; rw [Nat.pow_one]

/-- The bits of what comes next, only as far as they are looked at. -/
theorem nx_congr {c : Nat → Int} {n : Nat} {b d : Nat → Nat} {L k : Nat} (h : Nx c n b L k) (e : ∀ j, j < L → b j = d j) : Nx c n d L k := by
  rcases h with h | ⟨h1, st, h2, h3, h4⟩
  · exact .inl h
  · refine .inr ⟨h1, ⟨st.pos, st.le, ?_, fun m hm => ?_⟩, h2, h3, ?_⟩
    · rw [← vm_congr L e]; exact st.lt
    · rw [← vm_congr m (fun j hj => e j (by omega))]; exact st.ge m hm
    · rw [← vm_congr L e]; exact h4

/-- The order in which the lengths of the code of lengths are told. -/
def ordL : List Nat := [17, 18, 0, 1, 2, 3, 4, 5, 16, 6, 7, 8, 9, 10, 11, 12, 13, 14, 15]
def idxL : List Nat := [2, 3, 4, 5, 6, 7, 9, 10, 11, 12, 13, 14, 15, 16, 17, 18, 8, 0, 1]
def ord (j : Nat) : Nat := ordL.getD j 0
def idx (s : Nat) : Nat := idxL.getD s 19
theorem idx_ord : ∀ j, j < 19 → idx (ord j) = j := by decide
theorem ord_lt : ∀ j, j < 19 → ord j < 19 := by decide
theorem ord_idx : ∀ s, s < 19 → ord (idx s) = s := by decide
theorem idx_lt : ∀ s, s < 19 → idx s < 19 := by decide
/-- The code of lengths, K of them told from place i on. -/
def cl (V i K s : Nat) : Nat := if idx s < K then nb V (i + 3 * idx s) 3 else 0
theorem cl_le (V i K s : Nat) : cl V i K s ≤ 7 := by
  unfold cl
  split
  · have := nb_lt V (i + 3 * idx s) 3; omega
  · omega
theorem cl_zero (V i s : Nat) : cl V i 0 s = 0 := by
  unfold cl
  rw [if_neg (by omega)]
theorem cl_next (V i K s : Nat) (hK : K < 19) (hs : s < 19) : cl V i (K + 1) s = if s = ord K then nb V (i + 3 * K) 3 else cl V i K s := by
  unfold cl
  by_cases h : s = ord K
  · subst h
    rw [if_pos rfl, idx_ord K hK, if_pos (by omega)]
  · rw [if_neg h]
    have hne : idx s ≠ K := fun e => h (by rw [← e, ord_idx s hs])
    by_cases h2 : idx s < K
    · rw [if_pos h2, if_pos (by omega)]
    · rw [if_neg h2, if_neg (by omega)]
theorem cl_same {V V' M i K : Nat} (h : V % 2 ^ M = V' % 2 ^ M) (hM : i + 3 * K ≤ M) (s : Nat) : cl V i K s = cl V' i K s := by
  unfold cl
  split
  · exact nb_same h (by omega)
  · rfl

/-- Of a step: how many bits more, how many lengths at least, which length, which one is the last behind it. -/
def wid (s : Nat) : Nat := if s = 16 then 2 else if s = 17 then 3 else if s = 18 then 7 else 0
def bas (s : Nat) : Nat := if s = 16 then 3 else if s = 17 then 3 else if s = 18 then 11 else 1
def vv (s last : Nat) : Nat := if s < 16 then s else if s = 16 then last else 0
def nl (s last : Nat) : Nat := if 0 < s ∧ s < 16 then s else last
theorem wid_le (s : Nat) : wid s ≤ 7 := by unfold wid; split <;> (try split) <;> (try split) <;> omega
theorem bas_pos (s : Nat) : 1 ≤ bas s := by unfold bas; split <;> (try split) <;> (try split) <;> omega
theorem bas_le (s : Nat) : bas s ≤ 11 := by unfold bas; split <;> (try split) <;> (try split) <;> omega
/-- Steps that bits tell, from place i to place q. -/
def Tells (c : Nat → Int) (V : Nat) : Nat → List (Nat × Nat) → Nat → Prop
  | i, [], q => q = i
  | i, (s, x) :: r, q => ∃ L, Nx c 19 (fun j => nb V (i + j) 1) L s ∧ x = nb V (i + L) (wid s) ∧ Tells c V (i + L + wid s) r q
theorem Tells.nil {c : Nat → Int} {V : Nat} (i : Nat) : Tells c V i [] i := rfl
theorem Tells.cons {c : Nat → Int} {V i L s x q : Nat} {r : List (Nat × Nat)} (nx : Nx c 19 (fun j => nb V (i + j) 1) L s) (hx : x = nb V (i + L) (wid s)) (h : Tells c V (i + L + wid s) r q) : Tells c V i ((s, x) :: r) q := ⟨L, nx, hx, h⟩
theorem Tells.le {c : Nat → Int} {V : Nat} : ∀ {l : List (Nat × Nat)} {i q : Nat}, Tells c V i l q → i ≤ q
  | [], i, q, h => Nat.le_of_eq (show q = i from h).symm
  | (s, x) :: r, i, q, h => by
    obtain ⟨L, _, _, h3⟩ := h
    have := Tells.le h3
    omega
theorem Tells.same {c : Nat → Int} {V V' M : Nat} : ∀ {l : List (Nat × Nat)} {i q : Nat}, Tells c V i l q → V % 2 ^ M = V' % 2 ^ M → q ≤ M → Tells c V' i l q
  | [], _, _, h, _, _ => h
  | (s, x) :: r, i, q, h, e, hq => by
    obtain ⟨L, nx, hx, st⟩ := h
    have hle := st.le
    refine .cons (nx_congr nx (fun j hj => nb_same e (by omega))) ?_ (Tells.same st e hq)
    rw [hx]
    exact nb_same e (by omega)
theorem Tells.snoc {c : Nat → Int} {V L s x : Nat} : ∀ {l : List (Nat × Nat)} {i q : Nat}, Tells c V i l q → Nx c 19 (fun j => nb V (q + j) 1) L s → x = nb V (q + L) (wid s) → Tells c V i (l ++ [(s, x)]) (q + L + wid s)
  | [], i, q, h, nx, hx => by
    obtain rfl : q = i := h
    exact .cons nx hx (.nil _)
  | (_, _) :: r, i, q, h, nx, hx => by
    obtain ⟨L', nx', hx', st⟩ := h
    exact .cons nx' hx' (Tells.snoc st nx hx)
theorem Tells.congr {c d : Nat → Int} {V : Nat} (e : ∀ b L k, Nx c 19 b L k → Nx d 19 b L k) : ∀ {l : List (Nat × Nat)} {i q : Nat}, Tells c V i l q → Tells d V i l q
  | [], _, _, h => h
  | (_, _) :: r, i, q, h => by
    obtain ⟨L', nx', hx', st⟩ := h
    exact .cons (e _ _ _ nx') hx' (Tells.congr e st)
/-- The lengths that steps tell; the last one that was not 0 behind them. -/
def told : List (Nat × Nat) → Nat → List Nat
  | [], _ => []
  | (s, x) :: r, last => List.replicate (bas s + x) (vv s last) ++ told r (nl s last)
def lastOf : List (Nat × Nat) → Nat → Nat
  | [], last => last
  | (s, _) :: r, last => lastOf r (nl s last)
theorem told_app (l m : List (Nat × Nat)) : ∀ last, told (l ++ m) last = told l last ++ told m (lastOf l last) := by
  induction l with
  | nil => intro last; rfl
  | cons h t ih => intro last; obtain ⟨s, x⟩ := h; simp [told, lastOf, ih]
theorem last_app (l m : List (Nat × Nat)) : ∀ last, lastOf (l ++ m) last = lastOf m (lastOf l last) := by
  induction l with
  | nil => intro last; rfl
  | cons h t ih => intro last; obtain ⟨s, x⟩ := h; simp [lastOf, ih]
theorem told_len (l : List (Nat × Nat)) : ∀ last, l.length ≤ (told l last).length := by
  induction l with
  | nil => intro last; exact Nat.le_refl _
  | cons h t ih =>
    intro last
    obtain ⟨s, x⟩ := h
    have h1 := ih (nl s last)
    have h2 := bas_pos s
    simp only [told, List.length_cons, List.length_append, List.length_replicate]
    omega
/-- The lengths that a told list is, as far as n. -/
def got (T : List Nat) (j : Nat) : Nat := T.getD j 0
theorem got_here (T : List Nat) (m v : Nat) (r : List Nat) (j : Nat) (h1 : T.length ≤ j) (h2 : j < T.length + m) : got (T ++ (List.replicate m v ++ r)) j = v := by
  unfold got
  rw [List.getD_eq_getElem?_getD, List.getElem?_append_right h1, List.getElem?_append_left (by rw [List.length_replicate]; omega), List.getElem?_replicate, if_pos (by omega)]
  rfl
theorem got_old (T r : List Nat) (j : Nat) (h : j < T.length) : got (T ++ r) j = got T j := by
  unfold got
  rw [List.getD_eq_getElem?_getD, List.getD_eq_getElem?_getD, List.getElem?_append_left h]
theorem got_past (T : List Nat) (j : Nat) (h : T.length ≤ j) : got T j = 0 := by
  unfold got
  rw [List.getD_eq_getElem?_getD, List.getElem?_eq_none h]
  rfl
/-- Lengths told by steps, from place i to place q, of n. -/
structure Norm (V i n K most p : Nat) (l : List (Nat × Nat)) (q : Nat) : Prop where
  bit : nb V i 1 = 0
  cnt : nb V (i + 1) 4 + 4 = K
  lim : K ≤ 19
  chk : chk (fun s => (cl V (i + 5) K s : Int)) 19 = 0
  head : (nb V (i + 5 + 3 * K) 1 = 0 ∧ most = n ∧ p = i + 5 + 3 * K + 1) ∨
    (nb V (i + 5 + 3 * K) 1 = 1 ∧ most = nb V (i + 5 + 3 * K + 4) (2 + 2 * nb V (i + 5 + 3 * K + 1) 3) + 2 ∧ p = i + 5 + 3 * K + 4 + (2 + 2 * nb V (i + 5 + 3 * K + 1) 3))
  le : most ≤ n
  steps : Tells (fun s => (cl V (i + 5) K s : Int)) V p l q
  many : l.length ≤ most
  fit : (told l 8).length ≤ n
  stop : (told l 8).length = n ∨ l.length = most
/-- One symbol, or two, told by hand. -/
structure Hand (V i n s t q : Nat) (two : Bool) : Prop where
  bit : nb V i 1 = 1
  cnt : nb V (i + 1) 1 = if two then 1 else 0
  fst : nb V (i + 3) (1 + 7 * nb V (i + 2) 1) = s
  snd : two = true → nb V (i + 4 + 7 * nb V (i + 2) 1) 8 = t ∧ t < n ∧ s ≠ t
  lt : s < n
  fin : q = i + 4 + 7 * nb V (i + 2) 1 + (if two then 8 else 0)
end Go.Proofs.YtgjpcjnhggcfdaaGreatDoor.Lsp

namespace Go.Proofs.YtgjpcjnhggcfdaaGreatDoor.Rsa
open Go.ChangeShapes Go.WideShapes Go.ChangeAt Go.RowKit Go.Proofs.YtgjpcjnhggcfdaaGreatDoor.Core Go.Proofs.YtgjpcjnhggcfdaaGreatDoor.Gnd Go.Proofs.YtgjpcjnhggcfdaaGreatDoor.Math Go.Proofs.YtgjpcjnhggcfdaaGreatDoor.Bitin Go.Proofs.YtgjpcjnhggcfdaaGreatDoor.Eyes Go.Proofs.YtgjpcjnhggcfdaaGreatDoor.Dec Go.Proofs.YtgjpcjnhggcfdaaGreatDoor.Ord Go.Proofs.YtgjpcjnhggcfdaaGreatDoor.Lsp

theorem resV_le (c : Nat → Nat) (len : Nat) (s : Option Nat) (n : Nat) (hn : n ≤ 32) : resV c len s n ≤ 4294967295 := by
  have h1 : ∀ i, val c len i n ≤ 4294967295 := fun i => by
    have h1 := val_lt c len i n
    have h2 : 2 ^ n ≤ 2 ^ 32 := Nat.pow_le_pow_right (by omega) hn
    omega
  unfold resV
  split
  · split
    · exact h1 _
    · exact Nat.zero_le _
  · exact Nat.zero_le _
set_option maxHeartbeats 400000 in
theorem times49 (x : Nat) (w : World) : Calls Tryz.prog 83 #[.int .i64 x] w fun e w' => e = .returned (.tuple #[.int .i64 (bas x), .int .i64 (wid x)]) ∧ w' = w := by
  by_cases h16 : x = 16
  · subst h16
    go_enter Tryz.func83, Tryz.ntmps83
    go_wp2
    go_ret2
    exact ⟨rfl, rfl⟩
  by_cases h17 : x = 17
  · subst h17
    go_enter Tryz.func83, Tryz.ntmps83
    go_wp2
    go_ret2
    exact ⟨rfl, rfl⟩
  by_cases h18 : x = 18
  · subst h18
    go_enter Tryz.func83, Tryz.ntmps83
    go_wp2
    go_ret2
    exact ⟨rfl, rfl⟩
  have e1 : bas x = 1 := by simp [bas, h16, h17, h18]
  have e2 : wid x = 0 := by simp [wid, h16, h17, h18]
  rw [e1, e2]
  have t1 : ((x : Int) == 16) = false := by simp; omega
  have t2 : ((x : Int) == 17) = false := by simp; omega
  have t3 : ((x : Int) == 18) = false := by simp; omega
  clear e1 e2 h16 h17 h18
  go_enter Tryz.func83, Tryz.ntmps83
  go_wp2
  go_ret2
  exact ⟨rfl, rfl⟩
end Go.Proofs.YtgjpcjnhggcfdaaGreatDoor.Rsa

namespace Go.Proofs.YtgjpcjnhggcfdaaGreatDoor.Sym
open Go.ChangeShapes Go.WideShapes Go.ChangeAt Go.RowKit Go.Proofs.YtgjpcjnhggcfdaaGreatDoor.Core Go.Proofs.YtgjpcjnhggcfdaaGreatDoor.Gnd Go.Proofs.YtgjpcjnhggcfdaaGreatDoor.Math Go.Proofs.YtgjpcjnhggcfdaaGreatDoor.Dec Go.Proofs.YtgjpcjnhggcfdaaGreatDoor.Ord Go.Proofs.YtgjpcjnhggcfdaaGreatDoor.Cou Go.Proofs.YtgjpcjnhggcfdaaGreatDoor.Trr Go.Proofs.YtgjpcjnhggcfdaaGreatDoor.Rck Go.Proofs.YtgjpcjnhggcfdaaGreatDoor.Bitin Go.Proofs.YtgjpcjnhggcfdaaGreatDoor.Eyes

theorem cq_raw {c : Nat → Int} {m : Nat} (hm : m ≠ 0) : ∀ i, cq c m i = cnt c m i
  | 0 => rfl
  | i + 1 => by
    have ih := cq_raw (c := c) hm i
    show cq c m i + (if c i = (m : Int) then 1 else 0) = cnt c m i + (if c i = (m : Int) ∧ m ≠ 0 then 1 else 0)
    rw [ih]
    by_cases h : c i = (m : Int)
    · rw [if_pos h, if_pos ⟨h, hm⟩]
    · rw [if_neg h, if_neg (fun h2 => h h2.1)]
theorem cod_inj {c : Nat → Int} {n L j k : Nat} (h0 : L ≠ 0) (hjk : j < k) (hj : c j = (L : Int)) (hk : c k = (L : Int)) : cod c n j ≠ cod c n k := by
  rw [cod_of L hj h0, cod_of L hk h0]
  have := cnt_lt c L hjk hj h0
  omega
def symV (bl i L k : Nat) : Int := if i + L ≤ 8 * bl then (k : Int) else -1
theorem eye_short {w : World} {lo hi e len : Nat} {s : Option Nat} {bc : Nat → Nat} (h : Eyes w lo hi e bc len s) : w.cell? ⟨e, 2, none⟩ = some (.bool s.isNone) := by
  cases s with
  | some i =>
    obtain ⟨a, cap, h0, _⟩ := h
    exact h0.cell 2
  | none =>
    obtain ⟨i, a, cap, h0, _⟩ := h
    exact h0.cell 2
set_option maxHeartbeats 400000 in
theorem sym_one (v cv : Value) (n : Nat) (c : Nat → Int) (hn : n ≤ 100000) (el eh e bl i : Nat) (bc : Nat → Nat) (w : World) (hv : Ints .i64 w v n c) (he : Eyes w el eh e bc bl (some i)) (hm : many c n = 1) :
    Calls Tryz.prog 54 #[v, cv, .pointer (some ⟨e, 0, none⟩)] w fun r w' => r = .returned (.int .i64 (sel c n)) ∧ w' = w := by
  have O := rone9 v n c hn w hv
  rw [if_pos hm, decide_eq_true hm] at O
  have OO := hide O
  have hs : w.cell? ⟨e, 2, none⟩ = some (.bool false) := eye_short he
  clear O hv he
  generalize sel c n = t at *
  go_enter Tryz.func54, Tryz.ntmps54
  go_wp2_with fail
  refine (unhide OO).mono ?_
  rintro r w1 ⟨rfl, rfl⟩
  go_wp2
  go_ret
  exact ⟨rfl, rfl⟩
/-- Cells of the two slices. -/
def Both (w : World) (v cv : Value) (n : Nat) (c : Nat → Int) : Prop := Ints .i64 w v n c ∧ Ints .u32 w cv n (fun k => (cod c n k : Int))
set_option maxRecDepth 20000 in
set_option maxHeartbeats 4000000 in
theorem sym_many (v cv : Value) (n : Nat) (c : Nat → Int) (hn : n ≤ 100000) (hg : Rng c n) (hk : kr c n ≤ 32768) (el eh e bl i L k : Nat) (bc : Nat → Nat) (hc : ∀ k, bc k ≤ 255) (hbl : bl ≤ 100000) (w : World) (hv : ∀ w', Upd (fun k => k = e) w w' → Both w' v cv n c) (he : Eyes w el eh e bc bl (some i))
    (hm : many c n ≠ 1) (st : Stop c n (fun j => bt bc (i + j)) L) (hkn : k < n) (hck : c k = (L : Int)) (hcod : cod c n k = vm (fun j => bt bc (i + j)) L) :
    Calls Tryz.prog 54 #[v, cv, .pointer (some ⟨e, 0, none⟩)] w fun r w' => r = .returned (.int .i64 (symV bl i L k)) ∧ Eyes w' el eh e bc bl (outS bl i L) ∧ Upd (fun k => k = e) w w' := by
  have O := rone9 v n c hn w (hv w (Upd.refl _ _)).1
  rw [if_neg hm, decide_eq_false hm] at O
  have OO := hide O
  obtain ⟨⟨a, cap, rfl, _⟩, a2, cap2, rfl, _⟩ := hv w (Upd.refl _ _)
  have HV := hide hv
  have HG := hide hg
  have HK := hide hk
  have ST := hide st
  have HE := hide he
  have HCK := hide hck
  have HCD := hide hcod
  have hL1 := st.pos
  have hL15 := st.le
  have hel : e < w.heap.size := by
    obtain ⟨a, cap, h0, h1, h2, h3, _⟩ := he
    omega
  clear O hv hg hk st he hck hcod
  go_enter Tryz.func54, Tryz.ntmps54
  go_wp2_with fail
  refine (unhide OO).mono ?_
  rintro r w1 ⟨rfl, rfl⟩
  go_wp2
  go_loopw [10, 11] (fun l j wr => ∃ q M : Nat, q ≤ n ∧ j = .int .i64 q ∧ l = .int .i64 M ∧ M ≤ 15 ∧ (∀ t, t < q → c t ≤ (M : Int)) ∧ w1 = wr) (fun _ j _ => n - (intOf j).toNat)
  case atStart => exact ⟨0, 0, Nat.zero_le _, rfl, rfl, by omega, fun t ht => by omega, rfl⟩
  case round =>
    obtain ⟨q, M, hq, rfl, rfl, hM, hall, rfl⟩ := hrel
    have ALL := hide hall
    clear hall OO
    by_cases hlt : q < n
    · have hlt' : (q : Int) < (n : Int) := by omega
      obtain ⟨⟨a1, cap1, e1, hc0⟩, _⟩ := unhide HV w1 (Upd.refl _ _)
      cases e1
      obtain ⟨b, off, rfl, hcell⟩ := hc0 q hlt
      obtain ⟨g1, g2⟩ := unhide HG q hlt
      obtain ⟨m, hcm⟩ : ∃ m : Nat, c q = (m : Int) := ⟨(c q).toNat, by omega⟩
      have HCM := hide hcm
      rw [hcm] at hcell g1 g2
      clear hc0 hcm
      by_cases hgt : M < m
      · have hgt' : (M : Int) < (m : Int) := by omega
        go_wp2
        go_roundw
        case rel =>
          refine ⟨q + 1, m, by omega, by go_num, rfl, by omega, fun t ht => ?_, (by first | rfl | trivial)⟩
          by_cases e1 : t = q
          · subst e1; rw [unhide HCM]; omega
          · have := unhide ALL t (by omega); omega
        case measure => simp [intOf]; omega
      · have hgt' : ¬ (M : Int) < (m : Int) := by omega
        go_wp2
        go_roundw
        case rel =>
          refine ⟨q + 1, M, by omega, by go_num, rfl, hM, fun t ht => ?_, (by first | rfl | trivial)⟩
          by_cases e1 : t = q
          · subst e1; rw [unhide HCM]; omega
          · exact unhide ALL t (by omega)
        case measure => simp [intOf]; omega
    · obtain rfl : q = n := by omega
      have hnl : ¬ (q : Int) < (q : Int) := by omega
      have hLM : L ≤ M := by
        have h1 := unhide ALL k hkn
        rw [unhide HCK] at h1
        omega
      clear ALL hlt
      go_wp2
      go_loopw [13] (fun j wx => ∃ t : Nat, t ≤ q ∧ j = .int .i64 t ∧ Box wx w1.heap.size 96 (nr (fun m => cq c m t) 16).toArray ∧ Upd (fun _ => False) w1 wx) (fun j _ => q - (intOf j).toNat)
      case atStart =>
        exact ⟨0, Nat.zero_le _, rfl, Box.made w1 96 _, (Upd.refl _ w1).alloc _⟩
      case round =>
        obtain ⟨t, ht, rfl, bx, up⟩ := hrel
        have BX := hide bx
        have UP := hide up
        by_cases hlt : t < q
        · have hlt' : (t : Int) < (q : Int) := by omega
          obtain ⟨⟨a1, cap1, e1, hc0⟩, _⟩ := unhide HV wr (up.mono (fun _ _ h => h.elim))
          cases e1
          obtain ⟨b, off, rfl, hcell⟩ := hc0 t hlt
          obtain ⟨g1, g2⟩ := unhide HG t hlt
          obtain ⟨m, hcm⟩ : ∃ m : Nat, c t = (m : Int) := ⟨(c t).toNat, by omega⟩
          have HCM := hide hcm
          rw [hcm] at hcell g1 g2
          have cN := (bx.cell m).trans (na_at _ _ m (by omega))
          have fN := bx.free m
          have hle := cq_le c m t
          have hm16 : (m : Int) < 16 := by omega
          clear hc0 hcm bx up
          generalize hy : cq c m t = y at *
          have HY := hide hy
          clear hy
          go_wp2
          go_roundw
          case rel =>
            refine ⟨t + 1, by omega, by go_num, ?_, upd_new (unhide UP) (by exact Nat.le_refl _) _⟩
            have := (unhide BX).set m (.int .i64 ((y + 1 : Nat) : Int))
            rw [na_set, na_congr (g := fun m => cq c m (t + 1)) (fun j _ => ?_)] at this
            · exact this
            · by_cases e1 : j = m
              · subst e1
                rw [if_pos rfl, cq_here (unhide HCM), unhide HY]
              · rw [if_neg e1, cq_not (by rw [unhide HCM]; omega)]
          case measure => simp [intOf]; omega
        · obtain rfl : t = q := by omega
          have hnl2 : ¬ (t : Int) < (t : Int) := by omega
          have HE2 := hide ((unhide HE).keep up (fun _ _ _ h => h))
          have hNe : w1.heap.size ≠ e := by omega
          clear bx up hlt
          go_wp2
          go_loopw [9, 14, 15] (fun x f p wx => ∃ m : Nat, p = .int .i64 ((m : Int) + 1) ∧ x = .int .u32 (vm (fun j => bt bc (i + j)) m) ∧ f = .int .u32 ((fst c t m + cnt c m t : Nat) : Int) ∧ m < L ∧ i + m ≤ 8 * bl ∧ Eyes wx el eh e bc bl (some (i + m)) ∧ Box wx w1.heap.size 96 (nr (fun m => cq c m t) 16).toArray ∧ Upd (fun k => k = e) w1 wx) (fun _ _ p _ => 20 - (intOf p).toNat)
          case atStart =>
            refine ⟨0, by go_num, rfl, ?_, by omega, ?_, unhide HE2, unhide BX, (unhide UP).mono (fun _ _ h => h.elim)⟩
            · rw [cnt_zero]
              rfl
            · exact Sees.le (unhide HE)
          case round =>
            obtain ⟨m, rfl, rfl, rfl, hmL, him, eye, bx, up⟩ := hrel
            have NS := hide (num_step el eh e bl 1 (some (i + m)) bc hc wr eye hbl (by omega))
            have UP3 := hide up
            have BX3 := hide bx
            have hMm : (m : Int) + 1 ≤ (M : Int) := by omega
            have hm16 : (m : Int) + 1 < 16 := by omega
            have vb := vm_lt (b := fun j => bt bc (i + j)) (fun j => bt_le bc _) m
            have vb2 : 2 ^ m ≤ 2 ^ 15 := Nat.pow_le_pow_right (by omega) (by omega)
            have tb := top_cap (unhide HG) (unhide HK) m (by omega)
            have tb2 := top_cap (unhide HG) (unhide HK) (m + 1) (by omega)
            have HF := hide (show fst c t (m + 1) = (fst c t m + cnt c m t) * 2 from rfl)
            rw [unhide HF] at tb2
            have HVM := hide (show vm (fun j => bt bc (i + j)) (m + 1) = 2 * vm (fun j => bt bc (i + j)) m + bt bc (i + m) from rfl)
            have HCQ := hide (cq_raw (c := c) (m := m + 1) (by omega) t)
            have hb1 := bt_le bc (i + m)
            by_cases hh : i + (m + 1) ≤ 8 * bl
            · have e1 : resV bc bl (some (i + m)) 1 = bt bc (i + m) := by
                unfold resV
                simp only
                rw [if_pos (by omega), bt_val bc hc bl (i + m) (by omega)]
              have e2 : stp bl (some (i + m)) 1 = some (i + (m + 1)) := by
                unfold stp
                rw [if_neg (by omega)]
                simp only
                rw [if_pos (by omega)]
                rfl
              rw [e1, e2] at NS
              have HLT := hide (fun (h : m + 1 = L) => (unhide ST).lt)
              have TST := hide (show m + 1 = L ↔ 2 * vm (fun j => bt bc (i + j)) m + bt bc (i + m) < (fst c t m + cnt c m t) * 2 + cnt c (m + 1) t from by
                rw [← unhide HVM, ← unhide HF]
                refine ⟨fun h => by rw [h]; exact (unhide ST).lt, fun h => ?_⟩
                rcases Nat.lt_or_ge (m + 1) L with h1 | h1
                · have := (unhide ST).ge (m + 1) h1
                  omega
                · omega)
              have CDK := hide (show m + 1 = L → cod c t k = 2 * vm (fun j => bt bc (i + j)) m + bt bc (i + m) from fun h => by rw [unhide HCD, ← h]; rfl)
              clear eye bx up e1 e2 HE2 BX UP HE
              generalize hX : vm (fun j => bt bc (i + j)) m = X at *
              have HX := hide hX
              generalize hF : fst c t m + cnt c m t = F at *
              generalize hC : cnt c (m + 1) t = C at *
              have HC := hide hC
              generalize hB : bt bc (i + m) = B at *
              clear hX hF hC hB
              go_wp2_with fail
              refine (unhide NS).mono ?_
              rintro r w4 ⟨rfl, eye4, u4⟩
              have hs4 : w4.cell? ⟨e, 2, none⟩ = some (.bool false) := eye_short eye4
              have UP4 := hide ((unhide UP3).trans u4)
              have bx4 := (unhide BX3).keep u4 hNe
              have cN := (bx4.cell (m + 1)).trans (na_at _ _ (m + 1) (by omega))
              simp only [unhide HCQ] at cN
              have BX4 := hide bx4
              have EYE4 := hide eye4
              clear eye4 u4 bx4 NS UP3 BX3
              by_cases hL : m + 1 = L
              · have htst := (unhide TST).1 hL
                have htst' : (X : Int) * 2 + (B : Int) < (F : Int) * 2 + (C : Int) := by omega
                have HL := hide hL
                clear hL
                go_wp2
                go_loopw [16] (fun p wx => ∃ j : Nat, p = .int .i64 j ∧ j ≤ k ∧ w4 = wx) (fun p _ => t - (intOf p).toNat)
                case atStart => exact ⟨0, rfl, Nat.zero_le _, rfl⟩
                case round =>
                  obtain ⟨j, rfl, hjk, rfl⟩ := hrel
                  have hL := unhide HL
                  have hjt : j < t := by omega
                  have hjt' : (j : Int) < (t : Int) := by omega
                  obtain ⟨⟨a1, cap1, q1, hc0⟩, a3, cap3, q3, hd0⟩ := unhide HV w4 (unhide UP4)
                  cases q1
                  cases q3
                  obtain ⟨b, off, rfl, hcell⟩ := hc0 j hjt
                  obtain ⟨b', off', rfl, hdell0⟩ := hd0 j hjt
                  have hdell : w4.cell? ⟨b', off' + j, none⟩ = some (.int .u32 ((cod c t j : Nat) : Int)) := hdell0
                  clear hdell0
                  clear hc0 hd0
                  have hcdl := cod_lt (unhide HG) (unhide HK) j hjt
                  by_cases hcj : c j = (m : Int) + 1
                  · rw [hcj] at hcell
                    have hcdb : cod c t j ≤ 32768 := by
                      have h1 := cod_lt (unhide HG) (unhide HK) j hjt (m + 1) (by omega) (by omega)
                      have h2 : 2 ^ (m + 1) ≤ 2 ^ 15 := Nat.pow_le_pow_right (by omega) (by omega)
                      omega
                    by_cases hj : j = k
                    · subst hj
                      have hce := unhide CDK hL
                      rw [hce] at hdell
                      have hce' : (((2 * X + B : Nat)) : Int) = (X : Int) * 2 + (B : Int) := by omega
                      rw [hce'] at hdell
                      clear hcdl hcdb hce hce' hL
                      go_wp2
                      go_ret
                      have hL := unhide HL
                      refine ⟨ret_int ?_, ?_, unhide UP4⟩
                      · unfold symV
                        rw [if_pos (by omega)]
                      · unfold outS
                        rw [if_pos (by omega), ← hL]
                        exact unhide EYE4
                    · have hne : cod c t j ≠ cod c t k := cod_inj (n := t) (L := m + 1) (by omega) (by omega) (by omega) (by rw [unhide HCK]; omega)
                      rw [unhide CDK hL] at hne
                      have hne' : ¬ ((cod c t j : Nat) : Int) = (X : Int) * 2 + (B : Int) := by omega
                      clear hcdl hne hL
                      generalize cod c t j = D at *
                      go_wp2
                      go_roundw
                      case rel => exact ⟨j + 1, by go_num, by omega, (by first | rfl | trivial)⟩
                      case measure => simp [intOf]; omega
                  · have hj : j ≠ k := by
                      rintro rfl
                      rw [unhide HCK] at hcj
                      omega
                    clear hcdl hdell hL
                    generalize c j = z at *
                    go_wp2
                    go_roundw
                    case rel => exact ⟨j + 1, by go_num, by omega, (by first | rfl | trivial)⟩
                    case measure => simp [intOf]; omega
              · have htst : ¬ 2 * X + B < F * 2 + C := fun h => hL ((unhide TST).2 h)
                have htst' : ¬ (X : Int) * 2 + (B : Int) < (F : Int) * 2 + (C : Int) := by omega
                go_wp2
                go_roundw
                case rel =>
                  refine ⟨m + 1, by go_num, ?_, ?_, by omega, hh, unhide EYE4, unhide BX4, unhide UP4⟩
                  · rw [unhide HVM]; go_num
                  · rw [unhide HF, unhide HC]; go_num
                case measure => simp [intOf]; omega
            · have e2 : stp bl (some (i + m)) 1 = none := by
                unfold stp
                rw [if_neg (by omega)]
                simp only
                rw [if_neg (by omega)]
              have e1 : resV bc bl (some (i + m)) 1 = 0 := by
                unfold resV
                simp only
                rw [if_neg (by omega)]
              rw [e1, e2] at NS
              clear eye bx up e1 e2 HE2 BX UP HE
              generalize vm (fun j => bt bc (i + j)) m = X at *
              generalize fst c t m + cnt c m t = F at *
              go_wp2_with fail
              refine (unhide NS).mono ?_
              rintro r w4 ⟨rfl, eye4, u4⟩
              have hs4 : w4.cell? ⟨e, 2, none⟩ = some (.bool true) := eye_short eye4
              have UP4 := hide ((unhide UP3).trans u4)
              have EYE4 := hide eye4
              clear eye4 u4 NS UP3 BX3
              go_wp2
              go_ret
              refine ⟨ret_int ?_, ?_, unhide UP4⟩
              · unfold symV
                rw [if_neg (by omega)]
              · unfold outS
                rw [if_neg (by omega)]
                exact unhide EYE4
theorem sym14 (v cv : Value) (n : Nat) (c : Nat → Int) (hn : n ≤ 100000) (hch : chk c n = 0) (el eh e bl i L k : Nat) (bc : Nat → Nat) (hc : ∀ k, bc k ≤ 255) (hbl : bl ≤ 100000) (w : World) (hv : ∀ w', Upd (fun k => k = e) w w' → Both w' v cv n c) (he : Eyes w el eh e bc bl (some i))
    (nx : Nx c n (fun j => bt bc (i + j)) L k) :
    Calls Tryz.prog 54 #[v, cv, .pointer (some ⟨e, 0, none⟩)] w fun r w' => r = .returned (.int .i64 (symV bl i L k)) ∧ Eyes w' el eh e bc bl (outS bl i L) ∧ Upd (fun k => k = e) w w' := by
  obtain ⟨hg, _, hk⟩ := chk_zero hch
  rcases nx with ⟨hm, rfl, rfl⟩ | ⟨hm, st, hkn, hck, hcod⟩
  · have hile := Sees.le he
    refine (sym_one v cv n c hn el eh e bl i bc w (hv w (Upd.refl _ _)).1 he hm).mono ?_
    rintro r w' ⟨rfl, rfl⟩
    refine ⟨?_, ?_, Upd.refl _ _⟩
    · simp [symV, hile]
    · unfold outS
      rw [if_pos (by omega)]
      exact he
  · exact sym_many v cv n c hn hg hk el eh e bl i L k bc hc hbl w hv he hm st hkn hck hcod
end Go.Proofs.YtgjpcjnhggcfdaaGreatDoor.Sym

namespace Go.Proofs.YtgjpcjnhggcfdaaGreatDoor.Rcd
open Go.ChangeShapes Go.WideShapes Go.ChangeAt Go.RowKit Go.Proofs.YtgjpcjnhggcfdaaGreatDoor.Core Go.Proofs.YtgjpcjnhggcfdaaGreatDoor.Gnd Go.Proofs.YtgjpcjnhggcfdaaGreatDoor.Math Go.Proofs.YtgjpcjnhggcfdaaGreatDoor.Each Go.Proofs.YtgjpcjnhggcfdaaGreatDoor.One Go.Proofs.YtgjpcjnhggcfdaaGreatDoor.Chk Go.Proofs.YtgjpcjnhggcfdaaGreatDoor.Fst Go.Proofs.YtgjpcjnhggcfdaaGreatDoor.Cod Go.Proofs.YtgjpcjnhggcfdaaGreatDoor.Cnt

/-- What lies in the row behind the lengths up to q, and of length q + 1 the first i symbols. -/
def at13 (c : Nat → Int) (len q i k : Nat) : Nat := if c k ≤ (q : Int) ∨ (c k = (q : Int) + 1 ∧ k < i) then cod c len k else 0
def Row13 (w : World) (c : Nat → Int) (len q i : Nat) (wr : World) : Prop := Box wr w.heap.size 42 (row (at13 c len q i) len) ∧ Below w.heap.size w wr
theorem Row13.congr {w wr : World} {c : Nat → Int} {len q i q' i' : Nat} (h : Row13 w c len q i wr) (e : ∀ k, k < len → at13 c len q i k = at13 c len q' i' k) : Row13 w c len q' i' wr := by
  unfold Row13
  rw [← row_congr e]
  exact h
theorem Row13.put {w wr : World} {c : Nat → Int} {len q i : Nat} (h : Row13 w c len q i wr) (hi : i < len) (hc : c i = (q : Int) + 1) :
    Row13 w c len q (i + 1) (wr.setCell ⟨w.heap.size, i, none⟩ (.int .u32 ((fst c len (q + 1) + cnt c (q + 1) i : Nat) : Int))) := by
  obtain ⟨h1, h2⟩ := h
  refine ⟨?_, h2.setCell (p := ⟨w.heap.size, i, none⟩) (Nat.le_refl _) _⟩
  have h3 := h1.set i (.int .u32 ((fst c len (q + 1) + cnt c (q + 1) i : Nat) : Int))
  rw [row_set] at h3
  rw [row_congr (g := fun j => if j = i then fst c len (q + 1) + cnt c (q + 1) i else at13 c len q i j) (fun k _ => ?_)]
  · exact h3
  · by_cases e : k = i
    · subst e
      rw [if_pos rfl]
      unfold at13
      rw [if_pos (Or.inr ⟨hc, by omega⟩), cod_of (q + 1) (by rw [hc]; omega) (by omega)]
    · rw [if_neg e]
      unfold at13
      by_cases h4 : c k ≤ (q : Int) ∨ (c k = (q : Int) + 1 ∧ k < i)
      · rw [if_pos h4, if_pos (by omega)]
      · rw [if_neg h4, if_neg (by omega)]
theorem cnt_here {c : Nat → Int} {m i : Nat} (h : c i = (m : Int)) (h0 : m ≠ 0) : cnt c m (i + 1) = cnt c m i + 1 := by
  show cnt c m i + (if c i = (m : Int) ∧ m ≠ 0 then 1 else 0) = _
  rw [if_pos ⟨h, h0⟩]
theorem cnt_not {c : Nat → Int} {m i : Nat} (h : c i ≠ (m : Int)) : cnt c m (i + 1) = cnt c m i := by
  show cnt c m i + (if c i = (m : Int) ∧ m ≠ 0 then 1 else 0) = _
  rw [if_neg (fun h2 => h h2.1), Nat.add_zero]
set_option maxHeartbeats 2000000 in
theorem rcodes_new (v : Value) (len : Nat) (c : Nat → Int) (hl : len ≤ 100000) (hg : Rng c len) (hk : kr c len ≤ 32768) (w : World) (src : Ints .i64 w v len c) :
    Calls Tryz.prog 53 #[v] w fun e w' => e = .returned (.slice (some ⟨w.heap.size, 0, none⟩) len len) ∧ Ints .u32 w' (.slice (some ⟨w.heap.size, 0, none⟩) len len) len (fun k => (cod c len k : Int)) ∧ Below w.heap.size w w' := by
  obtain ⟨a, cap, rfl, hs⟩ := src
  have SRC := hide hs
  have HG := hide hg
  have HK := hide hk
  have hmk := fun w => make_row w len (by omega)
  clear hs hg hk
  go_enter Tryz.func53, Tryz.ntmps53
  go_wp2
  go_loopw [4, 5, 6] (fun x f n wr => ∃ (q : Nat) (b : Bool), q ≤ 15 ∧ n = .int .i64 (q + 1) ∧ x = .int .u32 ((fst c len q + cnt c q len : Nat) : Int) ∧ f = .bool b ∧ (b = true → fst c len q + cnt c q len = 0) ∧ Row13 w c len q 0 wr) (fun _ _ n _ => 16 - (intOf n).toNat)
  case atStart =>
    refine ⟨0, true, by omega, rfl, ?_, rfl, fun _ => ?_, ?_⟩
    · rw [cnt_zero]
      rfl
    · rw [cnt_zero]
      rfl
    · refine ⟨?_, (Below.refl _ w).alloc (Nat.le_refl _) _⟩
      rw [row_congr (f := at13 c len 0 0) (g := fun _ => 0) (fun k hk => ?_)]
      · exact Box.made w 42 _
      · unfold at13
        by_cases h : c k ≤ ((0 : Nat) : Int) ∨ (c k = ((0 : Nat) : Int) + 1 ∧ k < 0)
        · rw [if_pos h]
          unfold cod
          rw [if_pos (by have := unhide HG k hk; omega)]
        · rw [if_neg h]
  case round =>
    obtain ⟨q, b, hq, rfl, rfl, rfl, hb, h1⟩ := hrel
    have R1 := hide h1
    clear h1
    by_cases hlt : q < 15
    · have t0 := top_cap (unhide HG) (unhide HK) q (by omega)
      have FS : Hid (fst c len (q + 1) = (fst c len q + cnt c q len) * 2) := rfl
      have HB := hide hb
      clear hb
      generalize hx : fst c len q + cnt c q len = x at *
      clear hx
      go_wp2
      go_loopw [4, 5, 7] (fun y f i wi => ∃ (k : Nat) (b : Bool), k ≤ len ∧ i = .int .i64 k ∧ y = .int .u32 ((fst c len (q + 1) + cnt c (q + 1) k : Nat) : Int) ∧ f = .bool b ∧ (b = true → fst c len (q + 1) + cnt c (q + 1) k = 0) ∧ Row13 w c len q k wi) (fun _ _ i _ => len - (intOf i).toNat)
      case atStart =>
        refine ⟨0, b, Nat.zero_le _, rfl, ?_, rfl, fun h => ?_, unhide R1⟩
        · rw [unhide FS]
          simp [cnt]
        · rw [unhide FS, unhide HB h]
          rfl
      case round =>
        obtain ⟨k, b', hk, rfl, rfl, rfl, hb, h1⟩ := hrel
        have R2 := hide h1
        by_cases hkl : k < len
        · have hkl' : (k : Int) < (len : Int) := by omega
          have t1 := top_cap (unhide HG) (unhide HK) (q + 1) (by omega)
          have t2 := cnt_mono c (q + 1) hk
          obtain ⟨bb, off, rfl, hc0⟩ := unhide SRC k hkl
          have hcell := (h1.2.cell (p := ⟨bb, off + k, none⟩) (lt_of_cell hc0)).trans hc0
          have hout : wr.cell? ⟨w.heap.size, k, none⟩ = some (.int .u32 (at13 c len q k k)) := (h1.1.cell k).trans (row_at _ _ _ hkl)
          have hfr := h1.1.free k
          clear hc0 h1 R1
          by_cases hc : c k = (q : Int) + 1
          · have CN := hide (cnt_here (c := c) (m := q + 1) (i := k) (by rw [hc]; omega) (by omega))
            have PUT := hide ((unhide R2).put hkl hc)
            rw [hc] at hcell
            have HB2 := hide hb
            clear hc hb R2
            cases b' with
            | true =>
              have z := unhide HB2 rfl
              have Z := hide z
              rw [z]
              clear z
              go_wp2
              go_roundw
              case rel =>
                refine ⟨k + 1, false, by omega, by go_num, ?_, rfl, (fun h => by cases h), ?_⟩
                · rw [unhide CN, ← Nat.add_assoc, unhide Z] <;> rfl
                · have := unhide PUT
                  rw [unhide Z] at this
                  exact this
              case measure => simp [intOf]; omega
            | false =>
              have ty : fst c len (q + 1) + cnt c (q + 1) k ≤ 32768 := by omega
              generalize hy : fst c len (q + 1) + cnt c (q + 1) k = y at *
              have HY := hide hy
              clear hy
              go_wp2
              go_roundw
              case rel =>
                refine ⟨k + 1, false, by omega, by go_num, ?_, rfl, (fun h => by cases h), unhide PUT⟩
                rw [unhide CN, ← Nat.add_assoc, unhide HY]
                go_num
              case measure => simp [intOf]; omega
          · have CN := hide (cnt_not (c := c) (m := q + 1) (i := k) (fun h => hc (by rw [h]; omega)))
            have dc : (c k == (q : Int) + 1) = false := beq_eq_false_iff_ne.2 hc
            have NEX : Hid (Row13 w c len q (k + 1) wr) := (unhide R2).congr (fun j _ => by
              unfold at13
              by_cases e : j = k
              · subst e
                by_cases h4 : c j ≤ (q : Int)
                · rw [if_pos (Or.inl h4), if_pos (Or.inl h4)]
                · rw [if_neg (by omega), if_neg (by omega)]
              · by_cases h4 : c j ≤ (q : Int) ∨ (c j = (q : Int) + 1 ∧ j < k)
                · rw [if_pos h4, if_pos (by omega)]
                · rw [if_neg h4, if_neg (by omega)])
            have HB2 := hide hb
            clear hc hb R2
            go_wp2
            go_roundw
            case rel => exact ⟨k + 1, b', by omega, by go_num, by rw [unhide CN], rfl, by rw [unhide CN]; exact unhide HB2, unhide NEX⟩
            case measure => simp [intOf]; omega
        · obtain rfl : k = len := by omega
          have HB2 := hide hb
          have NEX : Hid (Row13 w c k (q + 1) 0 wr) := h1.congr (fun j hj => by
            unfold at13
            by_cases h4 : c j ≤ (q : Int) ∨ (c j = (q : Int) + 1 ∧ j < k)
            · rw [if_pos h4, if_pos (by omega)]
            · rw [if_neg h4, if_neg (by omega)])
          clear hb h1 R2 R1
          go_wp2
          go_roundw
          case rel => exact ⟨q + 1, b', by omega, by go_num, rfl, rfl, unhide HB2, unhide NEX⟩
          case measure => simp [intOf]; omega
    · obtain rfl : q = 15 := by omega
      clear hb
      go_wp2
      go_ret
      refine ⟨rfl, ⟨_, _, rfl, fun i hi => ⟨w.heap.size, 0, rfl, ?_⟩⟩, (unhide R1).2⟩
      rw [(unhide R1).1.cell, Nat.zero_add, row_at _ _ _ hi]
      unfold at13
      rw [if_pos (Or.inl (by have := unhide HG i hi; omega))]
theorem rcodes13 (v : Value) (len : Nat) (c : Nat → Int) (hl : len ≤ 100000) (hg : Rng c len) (hk : kr c len ≤ 32768) (w : World) (src : Ints .i64 w v len c) :
    Calls Tryz.prog 53 #[v] w fun e w' => ∃ v', e = .returned v' ∧ Ints .u32 w' v' len (fun k => (cod c len k : Int)) ∧ Below w.heap.size w w' :=
  (rcodes_new v len c hl hg hk w src).mono fun _ _ ⟨e, h2, h3⟩ => ⟨_, e, h2, h3⟩
end Go.Proofs.YtgjpcjnhggcfdaaGreatDoor.Rcd
