/-
  Numbers alone: lengths told by steps, as bits of a number. Conditions: as each says.
  Contracts: package lens, reading: a source's numbers, how often a step tells its length, telling lengths. Conditions: the source lies in memory.
  Plain facts: append onto a row of the call's own, and in which blocks it may lie behind it; bits and bytes of a number. No conditions.
  Contract: package bitout's own add: so many bits of a number come behind. Conditions: the writer lies in memory, its bits are few.
  Contracts: package bitout: New, Bits, Len, Bytes, by the number that the writer has written. Conditions: the writer lies in memory, its bits are few.
-/
import Derived.Test.YtaidboopcoaeeaaDoorC03
import Derived.Test.YtaidboopcoaeeaaDoorC04
import Derived.Test.YtaidboopcoaeeaaDoorC02
import Derived.Deep.RegionLaw
import Derived.Laws.MathBits
import Derived.BigRegion
namespace Go.Proofs.YtaidboopcoaeeaaDoor.Lsp
open Go.Proofs.YtaidboopcoaeeaaDoor.Math Go.Proofs.YtaidboopcoaeeaaDoor.Dec Go.Proofs.YtaidboopcoaeeaaDoor.Eyes Go.Proofs.YtaidboopcoaeeaaDoor.Bitin

/-- n bits of V from place i on, as a number. -/
def nb (V i n : Nat) : Nat := V / 2 ^ i % 2 ^ n
theorem nb_lt (V i n : Nat) : nb V i n < 2 ^ n := Nat.mod_lt _ (Nat.pow_pos (by omega))
theorem nb_val (c : Nat → Nat) (len i n : Nat) : val c len i n = nb (num c 0 len) i n := rfl
theorem nb_bt (c : Nat → Nat) (hc : ∀ k, c k ≤ 255) (len j : Nat) (h : j < 8 * len) : nb (num c 0 len) j 1 = bt c j := bt_val c hc len j h
/-- What lies below place M hangs on what lies there alone. -/
theorem nb_mod (V M i n : Nat) (h : i + n ≤ M) : nb (V % 2 ^ M) i n = nb V i n := by
  unfold nb
  obtain ⟨d, rfl⟩ : ∃ d, M = i + d := ⟨M - i, by omega⟩
  rw [Nat.pow_add, Nat.mod_mul_right_div_self]
  exact Nat.mod_mod_of_dvd _ (Nat.pow_dvd_pow 2 (by omega))
theorem nb_same {V V' M : Nat} (h : V % 2 ^ M = V' % 2 ^ M) {i n : Nat} (hi : i + n ≤ M) : nb V i n = nb V' i n := by
  rw [← nb_mod V M i n hi, h, nb_mod V' M i n hi]
/-- What is written behind N bits. -/
theorem nb_new (V N v n : Nat) (hV : V < 2 ^ N) (hv : v < 2 ^ n) : nb (V + v * 2 ^ N) N n = v := by
  unfold nb
  rw [Nat.add_mul_div_right _ _ (Nat.pow_pos (by omega)), Nat.div_eq_of_lt hV, Nat.zero_add, Nat.mod_eq_of_lt hv]
theorem nb_old (V N v : Nat) : (V + v * 2 ^ N) % 2 ^ N = V % 2 ^ N := by
  rw [Nat.add_mul_mod_self_right]
theorem nb_one (V i : Nat) : nb V i 1 = V / 2 ^ i % 2 := by unfold nb; rw [Nat.pow_one]

/-- The bits of what comes next, only as far as they are looked at. -/
theorem nx_congr {c : Nat → Int} {n : Nat} {b d : Nat → Nat} {L k : Nat} (h : Nx c n b L k) (e : ∀ j, j < L → b j = d j) : Nx c n d L k := by
  rcases h with h | ⟨h1, st, h2, h3, h4⟩
  · exact .inl h
  · refine .inr ⟨h1, ⟨st.pos, st.le, ?_, fun m hm => ?_⟩, h2, h3, ?_⟩
    · rw [← vm_congr L e]; exact st.lt
    · rw [← vm_congr m (fun j hj => e j (by omega))]; exact st.ge m hm
    · rw [← vm_congr L e]; exact h4

/-- The order in which the lengths of the code of lengths are told. -/
def ordL : List Nat := [17, 18, 0, 1, 2, 3, 4, 5, 16, 6, 7, 8, 9, 10, 11, 12, 13, 14, 15]
def idxL : List Nat := [2, 3, 4, 5, 6, 7, 9, 10, 11, 12, 13, 14, 15, 16, 17, 18, 8, 0, 1]
def ord (j : Nat) : Nat := ordL.getD j 0
def idx (s : Nat) : Nat := idxL.getD s 19
theorem idx_ord : ∀ j, j < 19 → idx (ord j) = j := by decide
theorem ord_lt : ∀ j, j < 19 → ord j < 19 := by decide
theorem ord_idx : ∀ s, s < 19 → ord (idx s) = s := by decide
theorem idx_lt : ∀ s, s < 19 → idx s < 19 := by decide
/-- The code of lengths, K of them told from place i on. -/
def cl (V i K s : Nat) : Nat := if idx s < K then nb V (i + 3 * idx s) 3 else 0
theorem cl_le (V i K s : Nat) : cl V i K s ≤ 7 := by
  unfold cl
  split
  · have := nb_lt V (i + 3 * idx s) 3; omega
  · omega
theorem cl_zero (V i s : Nat) : cl V i 0 s = 0 := by
  unfold cl
  rw [if_neg (by omega)]
theorem cl_next (V i K s : Nat) (hK : K < 19) (hs : s < 19) : cl V i (K + 1) s = if s = ord K then nb V (i + 3 * K) 3 else cl V i K s := by
  unfold cl
  by_cases h : s = ord K
  · subst h
    rw [if_pos rfl, idx_ord K hK, if_pos (by omega)]
  · rw [if_neg h]
    have hne : idx s ≠ K := fun e => h (by rw [← e, ord_idx s hs])
    by_cases h2 : idx s < K
    · rw [if_pos h2, if_pos (by omega)]
    · rw [if_neg h2, if_neg (by omega)]
theorem cl_same {V V' M i K : Nat} (h : V % 2 ^ M = V' % 2 ^ M) (hM : i + 3 * K ≤ M) (s : Nat) : cl V i K s = cl V' i K s := by
  unfold cl
  split
  · exact nb_same h (by omega)
  · rfl

/-- Of a step: how many bits more, how many lengths at least, which length, which one is the last behind it. -/
def wid (s : Nat) : Nat := if s = 16 then 2 else if s = 17 then 3 else if s = 18 then 7 else 0
def bas (s : Nat) : Nat := if s = 16 then 3 else if s = 17 then 3 else if s = 18 then 11 else 1
def vv (s last : Nat) : Nat := if s < 16 then s else if s = 16 then last else 0
def nl (s last : Nat) : Nat := if 0 < s ∧ s < 16 then s else last
theorem wid_le (s : Nat) : wid s ≤ 7 := by unfold wid; split <;> (try split) <;> (try split) <;> omega
theorem bas_pos (s : Nat) : 1 ≤ bas s := by unfold bas; split <;> (try split) <;> (try split) <;> omega
theorem bas_le (s : Nat) : bas s ≤ 11 := by unfold bas; split <;> (try split) <;> (try split) <;> omega
/-- Steps that bits tell, from place i to place q. -/
def Tells (c : Nat → Int) (V : Nat) : Nat → List (Nat × Nat) → Nat → Prop
  | i, [], q => q = i
  | i, (s, x) :: r, q => ∃ L, Nx c 19 (fun j => nb V (i + j) 1) L s ∧ x = nb V (i + L) (wid s) ∧ Tells c V (i + L + wid s) r q
theorem Tells.nil {c : Nat → Int} {V : Nat} (i : Nat) : Tells c V i [] i := rfl
theorem Tells.cons {c : Nat → Int} {V i L s x q : Nat} {r : List (Nat × Nat)} (nx : Nx c 19 (fun j => nb V (i + j) 1) L s) (hx : x = nb V (i + L) (wid s)) (h : Tells c V (i + L + wid s) r q) : Tells c V i ((s, x) :: r) q := ⟨L, nx, hx, h⟩
theorem Tells.le {c : Nat → Int} {V : Nat} : ∀ {l : List (Nat × Nat)} {i q : Nat}, Tells c V i l q → i ≤ q
  | [], i, q, h => Nat.le_of_eq (show q = i from h).symm
  | (s, x) :: r, i, q, h => by
    obtain ⟨L, _, _, h3⟩ := h
    have := Tells.le h3
    omega
theorem Tells.same {c : Nat → Int} {V V' M : Nat} : ∀ {l : List (Nat × Nat)} {i q : Nat}, Tells c V i l q → V % 2 ^ M = V' % 2 ^ M → q ≤ M → Tells c V' i l q
  | [], _, _, h, _, _ => h
  | (s, x) :: r, i, q, h, e, hq => by
    obtain ⟨L, nx, hx, st⟩ := h
    have hle := st.le
    refine .cons (nx_congr nx (fun j hj => nb_same e (by omega))) ?_ (Tells.same st e hq)
    rw [hx]
    exact nb_same e (by omega)
theorem Tells.snoc {c : Nat → Int} {V L s x : Nat} : ∀ {l : List (Nat × Nat)} {i q : Nat}, Tells c V i l q → Nx c 19 (fun j => nb V (q + j) 1) L s → x = nb V (q + L) (wid s) → Tells c V i (l ++ [(s, x)]) (q + L + wid s)
  | [], i, q, h, nx, hx => by
    obtain rfl : q = i := h
    exact .cons nx hx (.nil _)
  | (_, _) :: r, i, q, h, nx, hx => by
    obtain ⟨L', nx', hx', st⟩ := h
    exact .cons nx' hx' (Tells.snoc st nx hx)
theorem Tells.congr {c d : Nat → Int} {V : Nat} (e : ∀ b L k, Nx c 19 b L k → Nx d 19 b L k) : ∀ {l : List (Nat × Nat)} {i q : Nat}, Tells c V i l q → Tells d V i l q
  | [], _, _, h => h
  | (_, _) :: r, i, q, h => by
    obtain ⟨L', nx', hx', st⟩ := h
    exact .cons (e _ _ _ nx') hx' (Tells.congr e st)
/-- The lengths that steps tell; the last one that was not 0 behind them. -/
def told : List (Nat × Nat) → Nat → List Nat
  | [], _ => []
  | (s, x) :: r, last => List.replicate (bas s + x) (vv s last) ++ told r (nl s last)
def lastOf : List (Nat × Nat) → Nat → Nat
  | [], last => last
  | (s, _) :: r, last => lastOf r (nl s last)
theorem told_app (l m : List (Nat × Nat)) : ∀ last, told (l ++ m) last = told l last ++ told m (lastOf l last) := by
  induction l with
  | nil => intro last; rfl
  | cons h t ih => intro last; obtain ⟨s, x⟩ := h; simp [told, lastOf, ih]
theorem last_app (l m : List (Nat × Nat)) : ∀ last, lastOf (l ++ m) last = lastOf m (lastOf l last) := by
  induction l with
  | nil => intro last; rfl
  | cons h t ih => intro last; obtain ⟨s, x⟩ := h; simp [lastOf, ih]
theorem told_len (l : List (Nat × Nat)) : ∀ last, l.length ≤ (told l last).length := by
  induction l with
  | nil => intro last; exact Nat.le_refl _
  | cons h t ih =>
    intro last
    obtain ⟨s, x⟩ := h
    have h1 := ih (nl s last)
    have h2 := bas_pos s
    simp only [told, List.length_cons, List.length_append, List.length_replicate]
    omega
/-- The lengths that a told list is, as far as n. -/
def got (T : List Nat) (j : Nat) : Nat := T.getD j 0
theorem got_here (T : List Nat) (m v : Nat) (r : List Nat) (j : Nat) (h1 : T.length ≤ j) (h2 : j < T.length + m) : got (T ++ (List.replicate m v ++ r)) j = v := by
  unfold got
  rw [List.getD_eq_getElem?_getD, List.getElem?_append_right h1, List.getElem?_append_left (by rw [List.length_replicate]; omega), List.getElem?_replicate, if_pos (by omega)]
  rfl
theorem got_old (T r : List Nat) (j : Nat) (h : j < T.length) : got (T ++ r) j = got T j := by
  unfold got
  rw [List.getD_eq_getElem?_getD, List.getD_eq_getElem?_getD, List.getElem?_append_left h]
theorem got_past (T : List Nat) (j : Nat) (h : T.length ≤ j) : got T j = 0 := by
  unfold got
  rw [List.getD_eq_getElem?_getD, List.getElem?_eq_none h]
  rfl
/-- Lengths told by steps, from place i to place q, of n. -/
structure Norm (V i n K most p : Nat) (l : List (Nat × Nat)) (q : Nat) : Prop where
  bit : nb V i 1 = 0
  cnt : nb V (i + 1) 4 + 4 = K
  lim : K ≤ 19
  chk : chk (fun s => (cl V (i + 5) K s : Int)) 19 = 0
  head : (nb V (i + 5 + 3 * K) 1 = 0 ∧ most = n ∧ p = i + 5 + 3 * K + 1) ∨
    (nb V (i + 5 + 3 * K) 1 = 1 ∧ most = nb V (i + 5 + 3 * K + 4) (2 + 2 * nb V (i + 5 + 3 * K + 1) 3) + 2 ∧ p = i + 5 + 3 * K + 4 + (2 + 2 * nb V (i + 5 + 3 * K + 1) 3))
  le : most ≤ n
  steps : Tells (fun s => (cl V (i + 5) K s : Int)) V p l q
  many : l.length ≤ most
  fit : (told l 8).length ≤ n
  stop : (told l 8).length = n ∨ l.length = most
/-- One symbol, or two, told by hand. -/
structure Hand (V i n s t q : Nat) (two : Bool) : Prop where
  bit : nb V i 1 = 1
  cnt : nb V (i + 1) 1 = if two then 1 else 0
  fst : nb V (i + 3) (1 + 7 * nb V (i + 2) 1) = s
  snd : two = true → nb V (i + 4 + 7 * nb V (i + 2) 1) 8 = t ∧ t < n ∧ s ≠ t
  lt : s < n
  fin : q = i + 4 + 7 * nb V (i + 2) 1 + (if two then 8 else 0)
end Go.Proofs.YtaidboopcoaeeaaDoor.Lsp

namespace Go.Proofs.YtaidboopcoaeeaaDoor.Rsa
open Go.ChangeShapes Go.WideShapes Go.ChangeAt Go.RowKit Go.Proofs.YtaidboopcoaeeaaDoor.Core Go.Proofs.YtaidboopcoaeeaaDoor.Gnd Go.Proofs.YtaidboopcoaeeaaDoor.Math Go.Proofs.YtaidboopcoaeeaaDoor.Bitin Go.Proofs.YtaidboopcoaeeaaDoor.Eyes Go.Proofs.YtaidboopcoaeeaaDoor.Dec Go.Proofs.YtaidboopcoaeeaaDoor.Ord Go.Proofs.YtaidboopcoaeeaaDoor.Lsp

/-- A source at block s: its reader at r, its lengths at b, tl of n told. -/
structure So (w : World) (rl rh r bl : Nat) (bc : Nat → Nat) (st : Option Nat) (s b n tl last : Nat) (f : Nat → Nat) : Prop where
  box : Box w s 64 #[.pointer (some ⟨r, 0, none⟩), .slice (some ⟨b, 0, none⟩) n n, .int .i64 tl, .int .i64 last]
  lens : Box w b 3 (nr f n).toArray
  rd : At w rl rh r bc bl st
  ne : rl ≤ r ∧ r < rh ∧ rh ≤ s ∧ rh ≤ b ∧ s ≠ b
theorem So.keep {S : Nat → Prop} {w w' : World} {rl rh r bl s b n tl last : Nat} {bc f : Nat → Nat} {st : Option Nat} (h : So w rl rh r bl bc st s b n tl last f) (u : Upd S w w') (hs : ∀ k, S k → k < rl ∨ (rh ≤ k ∧ k ≠ s ∧ k ≠ b)) : So w' rl rh r bl bc st s b n tl last f :=
  ⟨h.box.keep u (fun e => by have := hs s e; have := h.ne; omega), h.lens.keep u (fun e => by have := hs b e; have := h.ne; omega), h.rd.keep u (fun k h1 h2 e => by have := hs k e; omega), h.ne⟩
theorem So.drewN {w : World} {rl rh r bl s b n tl last : Nat} {bc f : Nat → Nat} {st : Option Nat} (h : So w rl rh r bl bc st s b n tl last f) (k : Nat) : So (w.drewN k) rl rh r bl bc st s b n tl last f :=
  h.keep ((Upd.refl (fun _ => False) w).drewN k) (fun _ h => h.elim)
theorem So.below {w w' : World} {rl rh r bl s b n tl last : Nat} {bc f : Nat → Nat} {st : Option Nat} (h : So w rl rh r bl bc st s b n tl last f) (u : Below w.heap.size w w') : So w' rl rh r bl bc st s b n tl last f :=
  h.keep (Upd.ofBelow (S := fun _ => False) u) (fun _ h => h.elim)
theorem So.rdr {w w' : World} {rl rh r bl s b n tl last : Nat} {bc f : Nat → Nat} {st st' : Option Nat} (h : So w rl rh r bl bc st s b n tl last f) (a : At w' rl rh r bc bl st') (u : Upd (fun k => k = r) w w') : So w' rl rh r bl bc st' s b n tl last f :=
  ⟨h.box.keep u (by have := h.ne; omega), h.lens.keep u (by have := h.ne; omega), a, h.ne⟩
theorem So.congr {w : World} {rl rh r bl s b n tl last : Nat} {bc f f' : Nat → Nat} {st : Option Nat} (h : So w rl rh r bl bc st s b n tl last f) (e : ∀ k, k < n → f k = f' k) : So w rl rh r bl bc st s b n tl last f' :=
  ⟨h.box, by rw [← na_congr e]; exact h.lens, h.rd, h.ne⟩
theorem resV_le (c : Nat → Nat) (len : Nat) (s : Option Nat) (n : Nat) (hn : n ≤ 32) : resV c len s n ≤ 4294967295 := by
  have h1 : ∀ i, val c len i n ≤ 4294967295 := fun i => by
    have h1 := val_lt c len i n
    have h2 : 2 ^ n ≤ 2 ^ 32 := Nat.pow_le_pow_right (by omega) hn
    omega
  unfold resV
  split
  · split
    · exact h1 _
    · exact Nat.zero_le _
  · exact Nat.zero_le _
set_option maxHeartbeats 400000 in
theorem number40 (rl rh r bl s b n tl last m : Nat) (bc f : Nat → Nat) (hc : ∀ k, bc k ≤ 255) (hbl : bl ≤ 1000000) (st : Option Nat) (w : World) (h : So w rl rh r bl bc st s b n tl last f) (hm : m ≤ 32) :
    Calls Tryd.prog 40 #[.pointer (some ⟨s, 0, none⟩), .int .i64 m] w fun e w' => e = .returned (.int .i64 (resV bc bl st m)) ∧ So w' rl rh r bl bc (stp bl st m) s b n tl last f ∧ Upd (fun k => k = r) w w' := by
  have c0 := h.box.cell 0
  have BS := hide (bits_step rl rh r bl m st bc hc w h.rd hbl hm)
  have hz := resV_le bc bl st m hm
  have H := hide h
  clear h
  generalize resV bc bl st m = z at *
  go_enter Tryd.func40, Tryd.ntmps40
  go_wp2_with fail
  refine (unhide BS).mono ?_
  rintro e w1 ⟨rfl, a1, u1⟩
  have H1 := hide ((unhide H).rdr a1 u1)
  have U1 := hide u1
  clear a1 u1 BS c0
  go_wp2
  go_ret
  exact ⟨rfl, unhide H1, unhide U1⟩
/-- Where there are as many bits. -/
theorem number_at (rl rh r bl s b n tl last m i z : Nat) (bc f : Nat → Nat) (hc : ∀ k, bc k ≤ 255) (hbl : bl ≤ 1000000) (w : World) (h : So w rl rh r bl bc (some i) s b n tl last f) (hm : m ≤ 32) (him : i + m ≤ 8 * bl) (hz : nb (num bc 0 bl) i m = z) :
    Calls Tryd.prog 40 #[.pointer (some ⟨s, 0, none⟩), .int .i64 m] w fun e w' => e = .returned (.int .i64 z) ∧ So w' rl rh r bl bc (some (i + m)) s b n tl last f ∧ Upd (fun k => k = r) w w' := by
  refine (number40 rl rh r bl s b n tl last m bc f hc hbl (some i) w h hm).mono ?_
  rintro e w1 ⟨rfl, a1, u1⟩
  by_cases h0 : m = 0
  · subst h0
    have e1 : nb (num bc 0 bl) i 0 = 0 := by have := nb_lt (num bc 0 bl) i 0; omega
    have e2 : resV bc bl (some i) 0 = 0 := by simp [resV, val, Nat.mod_one]
    have e3 : stp bl (some i) 0 = some (i + 0) := by simp [stp]
    rw [e3] at a1
    rw [e2, ← hz, e1]
    exact ⟨rfl, a1, u1⟩
  · have e2 : resV bc bl (some i) m = z := by rw [← hz]; simp [resV, him, nb, val]
    have e3 : stp bl (some i) m = some (i + m) := by simp [stp, him]
    rw [e3] at a1
    rw [e2]
    exact ⟨rfl, a1, u1⟩
set_option maxHeartbeats 400000 in
theorem times49 (x : Nat) (w : World) : Calls Tryd.prog 49 #[.int .i64 x] w fun e w' => e = .returned (.tuple #[.int .i64 (bas x), .int .i64 (wid x)]) ∧ w' = w := by
  by_cases h16 : x = 16
  · subst h16
    go_enter Tryd.func49, Tryd.ntmps49
    go_wp2
    go_ret2
    exact ⟨rfl, rfl⟩
  by_cases h17 : x = 17
  · subst h17
    go_enter Tryd.func49, Tryd.ntmps49
    go_wp2
    go_ret2
    exact ⟨rfl, rfl⟩
  by_cases h18 : x = 18
  · subst h18
    go_enter Tryd.func49, Tryd.ntmps49
    go_wp2
    go_ret2
    exact ⟨rfl, rfl⟩
  have e1 : bas x = 1 := by simp [bas, h16, h17, h18]
  have e2 : wid x = 0 := by simp [wid, h16, h17, h18]
  rw [e1, e2]
  have t1 : ((x : Int) == 16) = false := by simp; omega
  have t2 : ((x : Int) == 17) = false := by simp; omega
  have t3 : ((x : Int) == 18) = false := by simp; omega
  clear e1 e2 h16 h17 h18
  go_enter Tryd.func49, Tryd.ntmps49
  go_wp2
  go_ret2
  exact ⟨rfl, rfl⟩
set_option maxHeartbeats 400000 in
theorem length67 (s x last : Nat) (p q t : Value) (w : World) (h : Box w s 64 #[p, q, t, .int .i64 last]) (hx : x < 19) : Calls Tryd.prog 67 #[.pointer (some ⟨s, 0, none⟩), .int .i64 x] w fun e w' => e = .returned (.int .i64 (vv x last)) ∧ w' = w := by
  have c3 := h.cell 3
  clear h
  by_cases h16 : x = 16
  · subst h16
    have e1 : vv 16 last = last := by simp [vv]
    rw [e1]
    go_enter Tryd.func67, Tryd.ntmps67
    go_wp2
    go_ret
    exact ⟨rfl, rfl⟩
  by_cases h17 : x = 17
  · subst h17
    go_enter Tryd.func67, Tryd.ntmps67
    go_wp2
    go_ret
    exact ⟨rfl, rfl⟩
  by_cases h18 : x = 18
  · subst h18
    go_enter Tryd.func67, Tryd.ntmps67
    go_wp2
    go_ret
    exact ⟨rfl, rfl⟩
  have e1 : vv x last = x := by unfold vv; rw [if_pos (by omega)]
  rw [e1]
  have t1 : ((x : Int) == 16) = false := by simp; omega
  have t2 : ((x : Int) == 17) = false := by simp; omega
  have t3 : ((x : Int) == 18) = false := by simp; omega
  clear e1 h16 h17 h18
  go_enter Tryd.func67, Tryd.ntmps67
  go_wp2
  go_ret
  exact ⟨rfl, rfl⟩
/-- One length more. -/
theorem So.put {w : World} {rl rh r bl s b n tl last : Nat} {bc f : Nat → Nat} {st : Option Nat} (h : So w rl rh r bl bc st s b n tl last f) (v : Nat) (f' : Nat → Nat) (hf : ∀ j, j < n → f' j = if j = tl then v else f j) :
    So ((w.setCell ⟨b, tl, none⟩ (.int .i64 v)).setCell ⟨s, 2, none⟩ (.int .i64 ((tl + 1 : Nat) : Int))) rl rh r bl bc st s b n (tl + 1) last f' := by
  have hne := h.ne
  have b1 := (h.box.other (p := ⟨b, tl, none⟩) (by show s ≠ b; omega) (.int .i64 v)).set 2 (.int .i64 ((tl + 1 : Nat) : Int))
  have l1 := (h.lens.set tl (.int .i64 v)).other (p := ⟨s, 2, none⟩) (by show b ≠ s; omega) (.int .i64 ((tl + 1 : Nat) : Int))
  refine ⟨b1, ?_, ?_, hne⟩
  · rw [na_set, ← na_congr (f := f') (fun k hk => hf k hk)] at l1
    exact l1
  · exact h.rd.keep (S := fun k => k = b ∨ k = s) (((Upd.refl _ w).setCell (p := ⟨b, tl, none⟩) (.inl rfl) _).setCell (p := ⟨s, 2, none⟩) (.inr rfl) _) (fun k h1 h2 h3 => by omega)
set_option maxRecDepth 20000 in
set_option maxHeartbeats 1000000 in
theorem tell66 (rl rh r bl s b n tl last v m : Nat) (bc f : Nat → Nat) (st : Option Nat) (w : World) (h : So w rl rh r bl bc st s b n tl last f) (hn : n ≤ 100000) (hm : tl + m ≤ n) :
    Calls Tryd.prog 66 #[.pointer (some ⟨s, 0, none⟩), .int .i64 v, .int .i64 m] w fun e w' => e = .returned (.tuple #[]) ∧ So w' rl rh r bl bc st s b n (tl + m) (if v = 0 then last else v) (fun j => if tl ≤ j ∧ j < tl + m then v else f j) ∧ Upd (fun k => k = s ∨ k = b) w w' := by
  have H := hide h
  have hsb : s ≠ b := h.ne.2.2.2.2
  obtain ⟨la, hla⟩ : ∃ la, (if v = 0 then last else v) = la := ⟨_, rfl⟩
  rw [hla]
  have LA := hide hla
  clear h hla
  go_enter Tryd.func66, Tryd.ntmps66
  go_wp2
  go_loopw [7] (fun x wr => ∃ j : Nat, j ≤ m ∧ x = .int .i64 j ∧ So wr rl rh r bl bc st s b n (tl + j) last (fun i => if tl ≤ i ∧ i < tl + j then v else f i) ∧ Upd (fun k => k = s ∨ k = b) w wr) (fun x _ => m - (intOf x).toNat)
  case atStart => exact ⟨0, Nat.zero_le _, rfl, (unhide H).congr (fun k hk => by rw [if_neg (by omega)]), Upd.refl _ _⟩
  case round =>
    obtain ⟨j, hj, rfl, so, up⟩ := hrel
    clear H
    by_cases hlt : j < m
    · have hlt' : (j : Int) < (m : Int) := by omega
      obtain ⟨t, ht⟩ : ∃ t, tl + j = t := ⟨_, rfl⟩
      have htn : (t : Int) < (n : Int) := by omega
      have hsp := hide (so.put v (fun i => if tl ≤ i ∧ i < tl + (j + 1) then v else f i) (fun i hi => by
        by_cases e : i = tl + j
        · rw [if_pos e, if_pos (by omega)]
        · rw [if_neg e]
          by_cases e2 : tl ≤ i ∧ i < tl + j
          · rw [if_pos e2, if_pos (by omega)]
          · rw [if_neg e2, if_neg (by omega)]))
      rw [ht] at so hsp
      have c1 := so.box.cell 1
      have c2 := so.box.cell 2
      have z2 := so.box.free 2
      have d1 := (so.lens.cell t).trans (na_at _ _ _ (by omega))
      have d2 := so.lens.free t
      have UP := hide up
      have HT := hide ht
      clear so up ht
      go_wp2
      go_region
      all_goals go_wp2
      all_goals go_roundw
      case measure => simp [intOf]; omega
      case rel =>
        refine ⟨j + 1, by omega, by go_num, ?_, ?_⟩
        · have h1 := (unhide hsp).drewN 1
          have h2 := unhide HT
          rw [show tl + (j + 1) = t + 1 by omega] at h1 ⊢
          exact h1
        · exact (((unhide UP).setCell (p := ⟨b, t, none⟩) (.inr rfl) _).setCell (p := ⟨s, 2, none⟩) (.inl rfl) _).drewN 1
    · obtain rfl : j = m := by omega
      have hnl : ¬ (j : Int) < (j : Int) := by omega
      have SO := hide so
      have UP := hide up
      have c3 := so.box.cell 3
      have z3 := so.box.free 3
      clear so up
      by_cases hv : v = 0
      · subst hv
        go_wp2
        go_end0
        have e := unhide LA
        simp only [if_true] at e
        subst e
        exact ⟨rfl, unhide SO, unhide UP⟩
      · have hv' : ((v : Int) != 0) = true := by simp; omega
        have e := unhide LA
        rw [if_neg hv] at e
        subst e
        clear hv LA
        go_wp2
        go_end0
        exact ⟨rfl, ⟨(unhide SO).box.set 3 _, (unhide SO).lens.other (p := ⟨s, 3, none⟩) (fun e => hsb e.symm) _, (unhide SO).rd.keep (S := fun k => k = s) ((Upd.refl (fun k => k = s) wr).setCell (p := ⟨s, 3, none⟩) rfl _) (fun k h1 h2 h3 => by have := (unhide SO).ne; omega), (unhide SO).ne⟩, (unhide UP).setCell (p := ⟨s, 3, none⟩) (.inl rfl) _⟩
end Go.Proofs.YtaidboopcoaeeaaDoor.Rsa

namespace Go.Proofs.YtaidboopcoaeeaaDoor.Foot
open Go.ChangeShapes Go.WideShapes Go.ChangeAt Go.RowKit Go.Proofs.YtaidboopcoaeeaaDoor.Core

theorem own_weak {w : World} {base n : Nat} {v : Value} {xs : List Value} (h : w.ownsRow base 5 1 v n xs) : w.ownsRow 0 5 1 v n xs := by
  refine ⟨h.1, ?_⟩
  rcases h.2 with h | ⟨g, cap, cur, e, _, r⟩
  · exact .inl h
  · exact .inr ⟨g, cap, cur, e, Nat.zero_le _, r⟩
theorem grown_weak {w w' : World} (h : w.grownBy w' none) (row : Option Nat) : w.grownBy w' row :=
  ⟨h.os, h.tape, h.output, h.size, fun k hk _ => h.block k hk (by simp)⟩
/-- In which blocks a slice may lie behind an append, and what of it stays. -/
structure Stays (w w' : World) (v v' : Value) (n : Nat) : Prop where
  foot : ∀ k, v'.ownBlock = some k → v.ownBlock = some k ∨ w.heap.size ≤ k
  kept : ∀ b k, v.ownBlock = some b → k < n → w'.cell? ⟨b, k, none⟩ = w.cell? ⟨b, k, none⟩
theorem run_app (w : World) (ty : TypeId) (v : Value) (n : Nat) (xs : List Value) (hown : w.ownsRow 0 5 1 v n xs) (ad : Addr) (m c : Nat) (news : List Value)
    (hl : news.length = m) (hnews : ∀ j u, news[j]? = some u → w.cell? (ad.add j) = some u) (h1 : ∀ u ∈ news, u.oneCell' = true) (hn : n + m ≤ 1000000) :
    ∃ v' w', (Builtin.append_ #[34, 34] ty #[v, .slice (some ad) m c]).run Tryd.prog w = .ok v' w' ∧ w'.ownsRow 0 5 1 v' (n + m) (xs ++ news) ∧ w.grownBy w' v.ownBlock ∧ Stays w w' v v' n := by
  obtain ⟨i0, hi, hz0, hz1, hz2⟩ := info_parts Tryd.info5
  have hl' : news.length = m * 1 := by omega
  have b1 : n + m ≤ maxLen := by unfold maxLen; omega
  have b2 : (n + m) * 1 ≤ 140737488355328 := by omega
  rcases hown.2 with ⟨rfl, rfl⟩ | ⟨g, cap, cur, rfl, _⟩
  · have hx : xs = [] := List.eq_nil_of_length_eq_zero (by simpa using hown.1)
    subst hx
    obtain ⟨v', w', hr, r1, r2, _⟩ := run_append_own (P := Tryd.prog) w w.heap.size 34 ty 5 i0 (.int .u8 0) 1 1 Tryd.underlying34 hi hz0 hz1 hz2 rfl (by decide) (.slice none 0 0) 0 [] (World.ownsRow_nil w _ 5 1) ad m c news hl' hnews h1 b1 b2 (Nat.le_refl _)
    exact ⟨v', w', hr, own_weak r1, r2, fun k hk => .inr (r1.lt k hk).1, fun b k hb _ => by simp [Value.ownBlock] at hb⟩
  · by_cases hroom : n + m ≤ cap
    · obtain ⟨w', hr, r1, r2⟩ := run_append_fits (P := Tryd.prog) w 0 34 ty 5 i0 1 Tryd.underlying34 hi hz1 g n cap xs hown ad m c news hl' hnews h1 hroom
      refine ⟨_, w', hr, r1, r2, fun k hk => .inl hk, fun b k hb hk => ?_⟩
      have hb' : g = b := by simpa [Value.ownBlock] using hb
      subst hb'
      rw [r1.cellAt k (by omega), hown.cellAt k (by omega), List.getElem?_append_left (by rw [hown.1]; omega)]
    · obtain ⟨v', w', hr, r1, r2⟩ := run_append_arg_grows (P := Tryd.prog) w 34 ty 5 i0 (.int .u8 0) 1 1 Tryd.underlying34 hi hz0 hz1 hz2 rfl (by decide) ⟨g, 0, none⟩ n cap xs hown.1 (hown.cells (g := g) rfl) ad m c news hl' hnews (by omega) b1 b2
      refine ⟨v', w', hr, own_weak r1, grown_weak r2 _, fun k hk => .inr (r1.lt k hk).1, fun b k hb hk => ?_⟩
      have hb' : g = b := by simpa [Value.ownBlock] using hb
      subst hb'
      exact World.cell?_of_block (r2.block g (hown.lt g rfl).2 (by simp))
theorem step_app {ops : Array Oper} {o : Oper} {a : Act} {w : World} {K : Act → World → Prop} {Q : Exit → Act → World → Prop} {E : Prop}
    (hg : o.guard = none) (s x : Operand) (hop : o.op = Op.call { callee := Callee.builtin Builtin.append, args := #[s, x], argTypes := #[34, 34] })
    (v : Value) (n : Nat) (xs : List Value) (hs : a.eval s = v) (hown : w.ownsRow 0 5 1 v n xs) (ad : Addr) (m c : Nat) (news : List Value) (hx : a.eval x = .slice (some ad) m c)
    (hl : news.length = m) (hnews : ∀ j u, news[j]? = some u → w.cell? (ad.add j) = some u) (h1 : ∀ u ∈ news, u.oneCell' = true) (hn : n + m ≤ 1000000)
    (hK : ∀ v' w', w'.ownsRow 0 5 1 v' (n + m) (xs ++ news) → w.grownBy w' v.ownBlock → Stays w w' v v' n → K (a.put o.dst v') w') :
    if Region.wanted o (yielded ops a.tmps) = true then Oper.wp Tryd.prog o a w K Q else E := by
  have hw : Region.wanted o (yielded ops a.tmps) = true := by simp [Region.wanted, hg]
  rw [if_pos hw]
  obtain ⟨v', w', hr, r1, r2, r3⟩ := run_app w o.type v n xs hown ad m c news hl hnews h1 hn
  unfold Oper.wp
  simp [execOp, hop, resolve, invoke, builtin, hs, hx, hr, Result.andThen]
  exact hK v' w' r1 r2 r3
theorem list_app {w : World} {ops : Array Oper} {rest : List Oper} {o : Oper} {a : Act} {Q : Exit → Act → World → Prop} (hg : o.guard = none) (s x : Operand)
    (hop : o.op = .call { callee := .builtin .append, args := #[s, x], argTypes := #[34, 34] })
    (v : Value) (n : Nat) (xs : List Value) (hs : a.eval s = v) (hown : w.ownsRow 0 5 1 v n xs) (ad : Addr) (m c : Nat) (news : List Value) (hx : a.eval x = .slice (some ad) m c)
    (hl : news.length = m) (hnews : ∀ j u, news[j]? = some u → w.cell? (ad.add j) = some u) (h1 : ∀ u ∈ news, u.oneCell' = true) (hn : n + m ≤ 1000000)
    (hK : ∀ v' w', w'.ownsRow 0 5 1 v' (n + m) (xs ++ news) → w.grownBy w' v.ownBlock → Stays w w' v v' n → wpList Tryd.prog ops Q rest (a.put o.dst v') w') : wpList Tryd.prog ops Q (o :: rest) a w := by
  refine wpList_plain hg fun K hK' => ?_
  obtain ⟨v', w', hr, r1, r2, r3⟩ := run_app w o.type v n xs hown ad m c news hl hnews h1 hn
  unfold Oper.wp
  simp [execOp, hop, resolve, invoke, builtin, hs, hx, hr, Result.andThen]
  exact hK' _ _ (hK v' w' r1 r2 r3)
theorem one_src (w : World) (x : Value) : ∀ j u, ([x] : List Value)[j]? = some u → (w.alloc (.cells #[x] 5)).cell? ((⟨w.heap.size, 0, none⟩ : Addr).add j) = some u := by
  intro j u hj
  match j, hj with
  | 0, hj => simp at hj; subst hj; simp [Addr.add]
theorem one_one (k : IntKind) (x : Int) : ∀ u ∈ [Value.int k x], u.oneCell' = true := by
  intro u hu; simp at hu; subst hu; rfl

/-- Byte k of a number. -/
def byt (V k : Nat) : Nat := V / 2 ^ (8 * k) % 256
theorem byt_le (V k : Nat) : byt V k ≤ 255 := by unfold byt; omega
theorem pow_pos2 (n : Nat) : 0 < 2 ^ n := Nat.pow_pos (by omega)
theorem cells_succ (c : Nat → Nat) (n : Nat) : cells c (n + 1) = cells c n ++ [.int .u8 (c n)] := by
  simp [cells, List.range_succ]
theorem cells_congr (c d : Nat → Nat) (n : Nat) (h : ∀ k, k < n → c k = d k) : cells c n = cells d n := by
  unfold cells
  apply List.map_congr_left
  intro k hk
  rw [h k (List.mem_range.1 hk)]
theorem byt_keep (V v N k : Nat) (h : 8 * k + 8 ≤ N) : byt (V + v * 2 ^ N) k = byt V k := by
  unfold byt
  obtain ⟨t, rfl⟩ : ∃ t, N = 8 * k + (8 + t) := ⟨N - 8 * k - 8, by omega⟩
  rw [show v * 2 ^ (8 * k + (8 + t)) = 2 ^ (8 * k) * (256 * (v * 2 ^ t)) by rw [Nat.pow_add, Nat.pow_add, show (2 : Nat) ^ 8 = 256 from rfl]; simp only [Nat.mul_comm, Nat.mul_left_comm, Nat.mul_assoc],
    Nat.add_mul_div_left _ _ (pow_pos2 _), Nat.add_mul_mod_self_left]
theorem rest_add (V v N : Nat) : (V + v * 2 ^ N) / 2 ^ (8 * (N / 8)) = V / 2 ^ (8 * (N / 8)) + v * 2 ^ (N % 8) := by
  have e : v * 2 ^ N = 2 ^ (8 * (N / 8)) * (v * 2 ^ (N % 8)) := by
    rw [Nat.mul_left_comm, ← Nat.pow_add, show 8 * (N / 8) + N % 8 = N by omega]
  rw [e, Nat.add_mul_div_left _ _ (pow_pos2 _)]
theorem rest_lt (V N : Nat) (h : V < 2 ^ N) : V / 2 ^ (8 * (N / 8)) < 2 ^ (N % 8) := by
  rw [Nat.div_lt_iff_lt_mul (pow_pos2 _), ← Nat.pow_add, show N % 8 + 8 * (N / 8) = N by omega]
  exact h
theorem sum_lt (V v N n : Nat) (h : V < 2 ^ N) (hv : v < 2 ^ n) : V + v * 2 ^ N < 2 ^ (N + n) := by
  rw [Nat.pow_add, Nat.mul_comm (2 ^ N)]
  have h1 : (v + 1) * 2 ^ N ≤ 2 ^ n * 2 ^ N := Nat.mul_le_mul_right _ hv
  rw [Nat.add_mul, Nat.one_mul] at h1
  omega
theorem half (V K : Nat) : V / 2 ^ (8 * K) / 256 = V / 2 ^ (8 * (K + 1)) := by
  rw [Nat.div_div_eq_div_mul, show 8 * (K + 1) = 8 * K + 8 by omega, Nat.pow_add]
end Go.Proofs.YtaidboopcoaeeaaDoor.Foot

namespace Go.Proofs.YtaidboopcoaeeaaDoor.Add
open Go.ChangeShapes Go.WideShapes Go.ChangeAt Go.RowKit Go.Proofs.YtaidboopcoaeeaaDoor.Core Go.Proofs.YtaidboopcoaeeaaDoor.Foot

/-- The blocks of a writer at g with full bytes v. -/
def Ft (g : Nat) (v : Value) (k : Nat) : Prop := k = g ∨ v.ownBlock = some k
/-- A writer's three fields: K whole bytes of V, what is behind them, how many bits. -/
structure Raw (w : World) (g : Nat) (v : Value) (V K r c : Nat) : Prop where
  box : Box w g 51 #[v, .int .u64 r, .int .i64 c]
  own : w.ownsRow 0 5 1 v K (cells (byt V) K)
  ne : v.ownBlock ≠ some g
/-- A writer at g, N bits written: those of V. -/
structure Wr (w : World) (g : Nat) (v : Value) (V N : Nat) : Prop where
  raw : Raw w g v V (N / 8) (V / 2 ^ (8 * (N / 8))) (N % 8)
  lt : V < 2 ^ N
/-- What a method that writes may turn. -/
structure Turn (g : Nat) (v v' : Value) (n : Nat) (w w' : World) : Prop where
  upd : Upd (Ft g v) w w'
  stays : Stays w w' v v' n
theorem Raw.lt {w : World} {g : Nat} {v : Value} {V K r c : Nat} (h : Raw w g v V K r c) : ∀ k, Ft g v k → k < w.heap.size := by
  rintro k (rfl | hk)
  · exact h.box.lt
  · exact (h.own.lt k hk).2
theorem Turn.refl (g : Nat) (v : Value) (n : Nat) (w : World) : Turn g v v n w w := ⟨Upd.refl _ _, fun _ h => .inl h, fun _ _ _ _ => rfl⟩
theorem Turn.trans {g : Nat} {v v1 v2 : Value} {n n1 : Nat} {w w1 w2 : World} (h : Turn g v v1 n w w1) (k : Turn g v1 v2 n1 w1 w2) (hn : n ≤ n1) (hne : v.ownBlock ≠ some g) (hlt : ∀ b, v.ownBlock = some b → b < w.heap.size) : Turn g v v2 n w w2 := by
  refine ⟨⟨k.upd.os.trans h.upd.os, k.upd.tape.trans h.upd.tape, k.upd.output.trans h.upd.output, Nat.le_trans h.upd.size k.upd.size, fun i hi hs => ?_⟩, ?_, ?_⟩
  · refine (k.upd.block i (Nat.lt_of_lt_of_le hi h.upd.size) ?_).trans (h.upd.block i hi hs)
    rintro (rfl | h1)
    · exact hs (.inl rfl)
    · rcases h.stays.foot i h1 with h2 | h2
      · exact hs (.inr h2)
      · omega
  · intro i hi
    rcases k.stays.foot i hi with h1 | h1
    · exact h.stays.foot i h1
    · exact .inr (Nat.le_trans h.upd.size h1)
  · intro b i hb hi
    rw [← h.stays.kept b i hb hi]
    by_cases hb1 : v1.ownBlock = some b
    · exact k.stays.kept b i hb1 (by omega)
    · refine k.upd.cell (p := ⟨b, i, none⟩) (Nat.lt_of_lt_of_le (hlt b hb) h.upd.size) ?_
      rintro (h2 | h2)
      · exact hne (h2 ▸ hb)
      · exact hb1 h2
theorem Raw.keep {S : Nat → Prop} {w w' : World} {g : Nat} {v : Value} {V K r c : Nat} (h : Raw w g v V K r c) (u : Upd S w w') (hs : ∀ k, Ft g v k → ¬ S k) : Raw w' g v V K r c := by
  refine ⟨h.box.keep u (hs g (.inl rfl)), ?_, h.ne⟩
  obtain ⟨h1, h2⟩ := h.own
  refine ⟨h1, ?_⟩
  rcases h2 with h2 | ⟨b, cap, cur, rfl, l0, hb, r⟩
  · exact .inl h2
  · exact .inr ⟨b, cap, cur, rfl, l0, (u.block b (Array.getElem?_eq_some_iff.1 hb).1 (hs b (.inr rfl))).trans hb, r⟩
theorem Wr.keep {S : Nat → Prop} {w w' : World} {g : Nat} {v : Value} {V N : Nat} (h : Wr w g v V N) (u : Upd S w w') (hs : ∀ k, Ft g v k → ¬ S k) : Wr w' g v V N := ⟨h.raw.keep u hs, h.lt⟩

def cnt (g : Nat) (w : World) : Nat := (intOf ((w.cell? ⟨g, 2, none⟩).getD (.bool false))).toNat
theorem or_rest (r v c : Nat) (hr : r < 2 ^ c) (h1 : r < 18446744073709551616) (h2 : v * 2 ^ c < 18446744073709551616) : bits .or .u64 (r : Int) ((v : Int) * 2 ^ c) = ((r + v * 2 ^ c : Nat) : Int) := by
  have e1 : (v : Int) * 2 ^ c = ((v * 2 ^ c : Nat) : Int) := by simp
  rw [e1, u64_or_nat _ _ h1 h2, Nat.or_comm, nat_join c _ _ (by simp) hr, Nat.add_comm]
theorem shl_bd (v n c : Nat) (hv : v < 2 ^ n) (hn : n ≤ 32) (hc : c ≤ 7) : v * 2 ^ c < 549755813888 ∧ 2 ^ c ≤ 128 := by
  have h1 : (2 : Nat) ^ n ≤ 2 ^ 32 := Nat.pow_le_pow_right (by omega) hn
  have h2 : (2 : Nat) ^ c ≤ 2 ^ 7 := Nat.pow_le_pow_right (by omega) hc
  have h3 : (2 : Nat) ^ 32 = 4294967296 := by decide
  have h4 : (2 : Nat) ^ 7 = 128 := by decide
  have h5 : v * 2 ^ c ≤ 4294967295 * 128 := Nat.mul_le_mul (by omega) (by omega)
  omega

theorem Raw.drew {w : World} {g : Nat} {v : Value} {V K r c : Nat} (h : Raw w g v V K r c) : Raw w.drew g v V K r c := ⟨h.box, h.own, h.ne⟩
theorem own_setCell {w : World} {v : Value} {n : Nat} {xs : List Value} (h : w.ownsRow 0 5 1 v n xs) (g k : Nat) (x : Value) (hne : v.ownBlock ≠ some g) : (w.setCell ⟨g, k, none⟩ x).ownsRow 0 5 1 v n xs := by
  refine ⟨h.1, ?_⟩
  rcases h.2 with h2 | ⟨b, cap, cur, rfl, l0, hb, r⟩
  · exact .inl h2
  · exact .inr ⟨b, cap, cur, rfl, l0, (Below.heap_setCell _ _ _ _ (fun e => hne (by simp [Value.ownBlock]; exact e))).trans hb, r⟩
theorem stays_setCell {w : World} (v : Value) (n : Nat) (g k : Nat) (x : Value) (hne : v.ownBlock ≠ some g) : Stays w (w.setCell ⟨g, k, none⟩ x) v v n :=
  ⟨fun _ h => .inl h, fun b i hb _ => World.cell?_of_block (Below.heap_setCell _ _ _ _ (fun e => hne (by have e' : b = g := e; rw [← e']; exact hb)))⟩
theorem turn_setCell {w : World} (v : Value) (n : Nat) (g k : Nat) (x : Value) (hne : v.ownBlock ≠ some g) : Turn g v v n w (w.setCell ⟨g, k, none⟩ x) :=
  ⟨(Upd.refl _ _).setCell (p := ⟨g, k, none⟩) (.inl rfl) _, stays_setCell v n g k x hne⟩
theorem turn_drew {w : World} (g : Nat) (v : Value) (n : Nat) : Turn g v v n w w.drew := ⟨⟨rfl, rfl, rfl, Nat.le_refl _, fun _ _ _ => rfl⟩, fun _ h => .inl h, fun _ _ _ _ => rfl⟩

theorem box_grown {w w' : World} {g : Nat} {T : TypeId} {vs : Array Value} {row : Option Nat} (h : Box w g T vs) (hg : w.grownBy w' row) (hne : row ≠ some g) : Box w' g T vs := (hg.block g h.lt (fun e => hne e.symm)).trans h
theorem box_alloc {w : World} {g : Nat} {T : TypeId} {vs : Array Value} (h : Box w g T vs) (o : Obj) : Box (w.alloc o) g T vs := (Below.heap_alloc _ _ _ h.lt).trans h
theorem box_drew {w : World} {g : Nat} {T : TypeId} {vs : Array Value} (h : Box w g T vs) : Box w.drew g T vs := h
theorem stays_of_alloc {w w' : World} {v v' : Value} {n : Nat} {o : Obj} (h : Stays (w.drew.alloc o) w' v v' n) (hlt : ∀ b, v.ownBlock = some b → b < w.heap.size) : Stays w w' v v' n :=
  ⟨fun k hk => (h.foot k hk).elim .inl (fun h => .inr (by simp at h; omega)), fun b k hb hk => (h.kept b k hb hk).trans (World.cell?_of_block (Below.heap_alloc w.drew o b (hlt b hb)))⟩
theorem upd_of_grown {w w' : World} {row : Option Nat} {o : Obj} {S : Nat → Prop} (h : (w.drew.alloc o).grownBy w' row) (hS : ∀ k, row = some k → S k) : Upd S w w' :=
  ⟨h.os, h.tape, h.output, Nat.le_trans (by simp) h.size, fun k hk hs => (h.block k (by simp; omega) (fun e => hs (hS k e.symm))).trans (Below.heap_alloc w.drew o k hk)⟩
theorem cnt_raw {w : World} {g : Nat} {v : Value} {V K r c : Nat} (h : Raw w g v V K r c) : cnt g w = c := by
  have := h.box.cell 2
  simp at this
  simp [cnt, this, intOf]
theorem round_step {wr w' : World} {g : Nat} {u v : Value} {V K R C : Nat} {o : Obj} (raw : Raw wr g u V K R C) (hR : R = V / 2 ^ (8 * K))
    (own : w'.ownsRow 0 5 1 v (K + 1) (cells (byt V) K ++ [.int .u8 ((R : Int) % 256)])) (grow : (wr.drew.alloc o).grownBy w' u.ownBlock) (stay : Stays (wr.drew.alloc o) w' u v K) (x y : Int) (R1 C1 : Nat) (hx : x = (R1 : Int)) (hy : y = (C1 : Int)) :
    Raw (((w'.setCell ⟨g, 0, none⟩ v).setCell ⟨g, 1, none⟩ (.int .u64 x)).setCell ⟨g, 2, none⟩ (.int .i64 y)) g v V (K + 1) R1 C1 ∧
      Turn g u v K wr (((w'.setCell ⟨g, 0, none⟩ v).setCell ⟨g, 1, none⟩ (.int .u64 x)).setCell ⟨g, 2, none⟩ (.int .i64 y)) := by
  subst hx hy
  have hlt : ∀ b, u.ownBlock = some b → b < wr.heap.size := fun b hb => (raw.own.lt b hb).2
  have stay' := stays_of_alloc stay hlt
  have ne : v.ownBlock ≠ some g := fun e => by
    rcases stay'.foot g e with h | h
    · exact raw.ne h
    · have := raw.box.lt; omega
  have bx := box_grown (box_alloc (box_drew raw.box) o) grow raw.ne
  have e : ((R : Int) % 256) = ((byt V K : Nat) : Int) := by unfold byt; rw [← hR]; omega
  rw [e, ← cells_succ] at own
  have T1 : Turn g u v K wr w' := ⟨upd_of_grown grow (fun k hk => .inr hk), stay'⟩
  have hlt' : ∀ b, v.ownBlock = some b → b < w'.heap.size := fun b hb => (own.lt b hb).2
  refine ⟨⟨((bx.set 0 v).set 1 (.int .u64 R1)).set 2 (.int .i64 C1), own_setCell (own_setCell (own_setCell own g 0 _ ne) g 1 _ ne) g 2 _ ne, ne⟩, ?_⟩
  exact T1.trans (((turn_setCell v (K + 1) g 0 _ ne).trans (turn_setCell v (K + 1) g 1 _ ne) (Nat.le_refl _) ne hlt').trans (turn_setCell v (K + 1) g 2 _ ne) (Nat.le_refl _) ne hlt') (by omega) raw.ne hlt
set_option maxRecDepth 20000 in
set_option maxHeartbeats 1000000 in
theorem add_raw (g : Nat) (u : Value) (V K r c v n M R : Nat) (w : World) (h : Raw w g u V K r c) (hr : r < 2 ^ c) (hc : c ≤ 7) (hn : n ≤ 32) (hv : v < 2 ^ n) (hR : R = V / 2 ^ (8 * K)) (hE : r + v * 2 ^ c = R) (hK : K ≤ 900000) (hM : M = 8 * K + c + n) :
    Calls Tryd.prog 25 #[.pointer (some ⟨g, 0, none⟩), .int .u64 v, .int .i64 n] w fun e w' => e = .returned (.tuple #[]) ∧ ∃ u', Raw w' g u' V (M / 8) (V / 2 ^ (8 * (M / 8))) (M % 8) ∧ Turn g u u' K w w' := by
  have H := hide h
  have f1 := h.box.free 1
  have f2 := h.box.free 2
  have h1 := h.box.cell 1
  have h2 := h.box.cell 2
  simp at h1 h2
  obtain ⟨s1, s2⟩ := shl_bd v n c hv hn hc
  have hv32 : v < 4294967296 := Nat.lt_of_lt_of_le hv (Nat.pow_le_pow_right (j := 32) (by omega) hn)
  have hor := or_rest r v c hr (by omega) (by omega)
  rw [hE] at hor
  have b1 : (0 : Int) ≤ (v : Int) * 2 ^ c := by
    have e1 : (v : Int) * 2 ^ c = ((v * 2 ^ c : Nat) : Int) := by simp
    omega
  have b2 : (v : Int) * 2 ^ c ≤ 18446744073709551615 := by
    have e1 : (v : Int) * 2 ^ c = ((v * 2 ^ c : Nat) : Int) := by simp
    omega
  have b3 : (c : Int) + (n : Int) ≤ 39 := by omega
  have NE := hide h.ne
  have LT := hide (fun b (hb : u.ownBlock = some b) => (h.own.lt b hb).2)
  have HR := hide hR
  have RB := hide (show R ≤ 18446744073709551615 by omega)
  clear h hE hR
  go_enter Tryd.func25, Tryd.ntmps25
  go_wp2
  go_region
  go_wp2
  go_loopw [27] (fun _ wr => ∃ (K' C R' : Nat) (u' : Value), Raw wr g u' V K' R' C ∧ R' = V / 2 ^ (8 * K') ∧ R' ≤ 18446744073709551615 ∧ 8 * K' + C = M ∧ K ≤ K' ∧ C ≤ 39 ∧ Turn g u u' K w wr) (fun _ wr => cnt g wr)
  case atStart =>
    have h' := unhide H
    refine ⟨K, c + n, R, u, ⟨?_, (own_setCell (own_setCell h'.own g 1 _ h'.ne) g 2 _ h'.ne).drew, h'.ne⟩, unhide HR, unhide RB, by omega, Nat.le_refl _, by omega, ?_⟩
    · exact (h'.box.set 1 (.int .u64 R)).set 2 (.int .i64 ((c + n : Nat) : Int))
    · exact ((turn_setCell u K g 1 _ h'.ne).trans (turn_setCell u K g 2 _ h'.ne) (Nat.le_refl _) h'.ne (unhide LT)).trans (turn_drew g u K) (Nat.le_refl _) h'.ne (unhide LT)
  case round =>
    obtain ⟨K', C, R', u', raw, hR, hRb, hM', hKK, hC, turn⟩ := hrel
    have g0 := raw.box.free 0
    have g1 := raw.box.free 1
    have g2 := raw.box.free 2
    have c0 := raw.box.cell 0
    have c1 := raw.box.cell 1
    have c2 := raw.box.cell 2
    simp at c0 c1 c2
    have RAW := hide raw
    have TURN := hide turn
    have HR' := hide hR
    have hKb : K' ≤ 900010 := by omega
    clear f1 f2 h1 h2 hor b1 b2 b3 raw turn hR HR RB H hM
    by_cases h8 : 8 ≤ C
    · have h8' : (8 : Int) ≤ (C : Int) := by omega
      have d1 : (R' : Int) ≤ 18446744073709551615 := by omega
      have OWN := hide (unhide RAW).own
      have p0 : ∀ o, (wr.alloc o).cell? ⟨g, 0, none⟩ = some u' := fun o => (box_alloc (unhide RAW).box o).cell 0
      go_wp2
      go_region_law (refine step_app rfl (.tmp 36) (.tmp 42) rfl u' K' (cells (byt V) K') (by simp [Act.eval]) ((unhide OWN).drew.alloc _) ⟨wr.heap.size, 0, none⟩ 1 1 [.int .u8 ((R' : Int) % 256)] (by simp [Act.eval]) rfl (one_src _ _) (one_one _ _) (by omega) ?_; intro v' w' hown hgrow hstay; have BX := hide (box_grown (box_alloc (box_drew (unhide RAW).box) _) hgrow (unhide RAW).ne); have k0 := (unhide BX).free 0; have k1 := (unhide BX).free 1; have k2 := (unhide BX).free 2; have m0 := (unhide BX).cell 0; have m1 := (unhide BX).cell 1; have m2 := (unhide BX).cell 2; simp at m0 m1 m2; have OWN' := hide hown; have GROW := hide hgrow; have STAY := hide hstay; obtain ⟨a', cap', rfl⟩ := own_slice hown; clear hown hgrow hstay)
      all_goals
        go_wp2
        go_roundw
        case rel =>
          obtain ⟨rw1, tn1⟩ := round_step (unhide RAW) (unhide HR') (unhide OWN') (unhide GROW) (unhide STAY) ((R' : Int) / 256) ((C : Int) - 8) (R' / 256) (C - 8) (by omega) (by omega)
          exact ⟨K' + 1, C - 8, R' / 256, _, rw1, by rw [unhide HR', half], by omega, by omega, by omega, by omega, (unhide TURN).trans tn1 hKK (unhide NE) (unhide LT)⟩
        case measure =>
          obtain ⟨rw1, tn1⟩ := round_step (unhide RAW) (unhide HR') (unhide OWN') (unhide GROW) (unhide STAY) ((R' : Int) / 256) ((C : Int) - 8) (R' / 256) (C - 8) (by omega) (by omega)
          rw [cnt_raw rw1, cnt_raw (unhide RAW)]
          omega
    · have h8' : (C : Int) < 8 := by omega
      go_wp2
      go_end0
      obtain rfl : K' = M / 8 := by omega
      obtain rfl : C = M % 8 := by omega
      refine ⟨rfl, u', ?_, unhide TURN⟩
      rw [← unhide HR']
      exact unhide RAW
theorem add16 (g : Nat) (u : Value) (V N v n : Nat) (w : World) (h : Wr w g u V N) (hn : n ≤ 32) (hv : v < 2 ^ n) (hN : N ≤ 1000000) :
    Calls Tryd.prog 25 #[.pointer (some ⟨g, 0, none⟩), .int .u64 v, .int .i64 n] w fun e w' => e = .returned (.tuple #[]) ∧ ∃ u', Wr w' g u' (V + v * 2 ^ N) (N + n) ∧ Turn g u u' (N / 8) w w' := by
  have raw : Raw w g u (V + v * 2 ^ N) (N / 8) (V / 2 ^ (8 * (N / 8))) (N % 8) := by
    refine ⟨h.raw.box, ?_, h.raw.ne⟩
    rw [cells_congr (byt (V + v * 2 ^ N)) (byt V) (N / 8) (fun k hk => byt_keep V v N k (by omega))]
    exact h.raw.own
  refine (add_raw g u (V + v * 2 ^ N) (N / 8) _ (N % 8) v n (N + n) _ w raw (rest_lt V N h.lt) (by omega) hn hv rfl (rest_add V v N).symm (by omega) (by omega)).mono ?_
  rintro e w' ⟨rfl, u', r', t'⟩
  exact ⟨rfl, u', ⟨r', sum_lt V v N n h.lt hv⟩, t'⟩
end Go.Proofs.YtaidboopcoaeeaaDoor.Add

namespace Go.Proofs.YtaidboopcoaeeaaDoor.Wri
open Go.ChangeShapes Go.WideShapes Go.ChangeAt Go.RowKit Go.Proofs.YtaidboopcoaeeaaDoor.Core Go.Proofs.YtaidboopcoaeeaaDoor.Foot Go.Proofs.YtaidboopcoaeeaaDoor.Add

set_option maxRecDepth 100000 in
set_option maxHeartbeats 1000000 in
theorem len32 (x : Int) (w : World) (h0 : 0 ≤ x) (h1 : x ≤ 4294967295) :
    Calls Tryd.prog 24 #[.int .u32 x] w fun e w' => e = .returned (.int .i64 (bitLen x.toNat)) ∧ w' = w := by
  go_enter Tryd.func24, Tryd.ntmps24
  go_wp2
  all_goals (go_ret; refine ⟨congrArg Ending.returned (congrArg (Value.int IntKind.i64) ?_), rfl⟩)
  · rw [len8tab_get, show (x / 65536 / 256).toNat = x.toNat / 2 ^ 24 by omega]
    have l := bitLen_le8 (x.toNat / 2 ^ 24) (by omega)
    rw [bitLen_shift x.toNat 24 (by omega)]
    unfold wrap64
    omega
  · rw [len8tab_get, show (x / 65536).toNat = x.toNat / 2 ^ 16 by omega]
    have l := bitLen_le8 (x.toNat / 2 ^ 16) (by omega)
    rw [bitLen_shift x.toNat 16 (by omega)]
    unfold wrap64
    omega
  · rw [len8tab_get, show (x / 256).toNat = x.toNat / 2 ^ 8 by omega]
    have l := bitLen_le8 (x.toNat / 2 ^ 8) (by omega)
    rw [bitLen_shift x.toNat 8 (by omega)]
    unfold wrap64
    omega
  · rw [len8tab_get]
    have l := bitLen_le8 x.toNat (by omega)
    unfold wrap64
    omega
theorem bitLen_gt (v n : Nat) : n < bitLen v ↔ 2 ^ n ≤ v := by
  obtain ⟨h1, h2⟩ := bitLen_spec v
  constructor
  · intro h
    have h0 : v ≠ 0 := fun e => by subst e; simp [bitLen] at h
    exact Nat.le_trans (Nat.pow_le_pow_right (by omega) (by omega)) (h2 h0)
  · intro h
    exact (Nat.pow_lt_pow_iff_right (a := 2) (by omega)).1 (Nat.lt_of_le_of_lt h h1)
set_option maxHeartbeats 400000 in
theorem new8 (w : World) :
    Calls Tryd.prog 7 #[] w fun e w' => ∃ g, e = .returned (.pointer (some ⟨g, 0, none⟩)) ∧ w.heap.size ≤ g ∧ Wr w' g (.slice none 0 0) 0 0 ∧ Below w.heap.size w w' := by
  go_enter Tryd.func7, Tryd.ntmps7
  go_wp2
  go_ret
  refine ⟨w.heap.size, rfl, Nat.le_refl _, ⟨⟨Box.made _ _ _, World.ownsRow_nil _ _ _ _, by simp [Value.ownBlock]⟩, by decide⟩, (Below.refl _ w).alloc (Nat.le_refl _) _⟩
set_option maxHeartbeats 400000 in
theorem bits_nil (v n : Int) (w : World) :
    Calls Tryd.prog 11 #[.pointer none, .int .u32 v, .int .i64 n] w fun e w' => e = .returned (.bool false) ∧ w' = w := by
  go_enter Tryd.func11, Tryd.ntmps11
  go_wp2
  go_ret
  exact ⟨rfl, rfl⟩
set_option maxHeartbeats 400000 in
theorem bits_arg (g : Nat) (v n : Int) (w : World) (h : n < 0 ∨ 32 < n) :
    Calls Tryd.prog 11 #[.pointer (some ⟨g, 0, none⟩), .int .u32 v, .int .i64 n] w fun e w' => e = .returned (.bool false) ∧ w' = w := by
  rcases h with h | h
  · go_enter Tryd.func11, Tryd.ntmps11
    go_wp2
    go_ret
    exact ⟨rfl, rfl⟩
  · have h' : 0 ≤ n := by omega
    go_enter Tryd.func11, Tryd.ntmps11
    go_wp2
    go_ret
    exact ⟨rfl, rfl⟩
set_option maxHeartbeats 400000 in
theorem bits_much (g : Nat) (v n : Nat) (w : World) (hv : v ≤ 4294967295) (n1 : n ≤ 32) (h : 2 ^ n ≤ v) :
    Calls Tryd.prog 11 #[.pointer (some ⟨g, 0, none⟩), .int .u32 v, .int .i64 n] w fun e w' => e = .returned (.bool false) ∧ w' = w := by
  have L := hide (len32 (v : Int) w (by omega) (by omega))
  have hb := (bitLen_gt v n).2 h
  have n1' : (n : Int) ≤ 32 := by omega
  rw [show ((v : Int)).toNat = v from rfl] at L
  generalize bitLen v = b at *
  have hb' : (n : Int) < (b : Int) := by omega
  go_enter Tryd.func11, Tryd.ntmps11
  go_wp2_with (first | (go_at_call 24; refine (unhide L).mono ?_; rintro e w1 ⟨rfl, rfl⟩) | fail)
  go_ret
  exact ⟨rfl, rfl⟩
set_option maxHeartbeats 400000 in
theorem bits_yes (g : Nat) (u : Value) (V N v n : Nat) (w : World) (h : Wr w g u V N) (hn : n ≤ 32) (hv : v < 2 ^ n) (hN : N ≤ 1000000) :
    Calls Tryd.prog 11 #[.pointer (some ⟨g, 0, none⟩), .int .u32 v, .int .i64 n] w fun e w' => e = .returned (.bool true) ∧ ∃ u', Wr w' g u' (V + v * 2 ^ N) (N + n) ∧ Turn g u u' (N / 8) w w' := by
  have hv32 : v < 4294967296 := Nat.lt_of_lt_of_le hv (Nat.pow_le_pow_right (j := 32) (by omega) hn)
  have L := hide (len32 (v : Int) w (by omega) (by omega))
  have A := hide (add16 g u V N v n w h hn hv hN)
  have hb : ¬ n < bitLen v := fun h => by have := (bitLen_gt v n).1 h; omega
  have n1' : (n : Int) ≤ 32 := by omega
  rw [show ((v : Int)).toNat = v from rfl] at L
  generalize bitLen v = b at *
  have hb' : (b : Int) ≤ (n : Int) := by omega
  have hv' : (v : Int) ≤ 4294967295 := by omega
  clear h
  go_enter Tryd.func11, Tryd.ntmps11
  go_wp2_with (first | (go_at_call 24; refine (unhide L).mono ?_; rintro e w1 ⟨rfl, rfl⟩) | fail)
  refine (unhide A).mono ?_
  rintro e w1 ⟨rfl, R⟩
  have RR := hide R
  clear R A L
  go_wp2
  go_ret
  exact ⟨rfl, unhide RR⟩
set_option maxHeartbeats 400000 in
theorem len_nil (w : World) :
    Calls Tryd.prog 10 #[.pointer none] w fun e w' => e = .returned (.int .i64 0) ∧ w' = w := by
  go_enter Tryd.func10, Tryd.ntmps10
  go_wp2
  go_ret
  exact ⟨rfl, rfl⟩
set_option maxHeartbeats 400000 in
theorem len_at (g : Nat) (u : Value) (V N : Nat) (w : World) (h : Wr w g u V N) (hN : N ≤ 1000000) :
    Calls Tryd.prog 10 #[.pointer (some ⟨g, 0, none⟩)] w fun e w' => e = .returned (.int .i64 N) ∧ ∃ k, w' = w.drewN k := by
  obtain ⟨a, cap, rfl⟩ := own_slice h.raw.own
  have bx := h.raw.box
  clear h
  have e : (N / 8 : Nat) * 8 + N % 8 = N := by omega
  generalize N % 8 = c at *
  generalize V / 2 ^ (8 * (N / 8)) = r at *
  generalize N / 8 = K at *
  have h0 := bx.cell 0
  have h2 := bx.cell 2
  simp at h0 h2
  have k1 : (K : Int) ≤ 200000 := by omega
  have k2 : (c : Int) ≤ 1000000 := by omega
  have E := hide e
  clear bx e
  go_enter Tryd.func10, Tryd.ntmps10
  go_wp2
  go_quiet (fail)
  go_wp2
  go_ret
  exact ⟨ret_int (by have := unhide E; omega), _, rfl⟩
end Go.Proofs.YtaidboopcoaeeaaDoor.Wri
