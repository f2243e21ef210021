/-
  Contracts: package lens, writing: how many steps there are. Conditions: a writer lies in memory, its bits are few.
  Contracts: package lens, reading: the code of lengths. Conditions: the bits are there, and the code is complete.
  Contracts: package lens, reading: the code of lengths. Conditions: the bits are there, and the code is complete.
  Contract: size.weights; rows of items. Conditions: the slices read as integers, and they are few.
-/
import Derived.Test.YtgjpcjnhggcfdaaGreatDoorC14
import Derived.Test.YtgjpcjnhggcfdaaGreatDoorC15
import Derived.ChangeKeysEq
import Derived.Laws.Rows
import Derived.Test.YtgjpcjnhggcfdaaGreatDoorC03
import Derived.Maps.AppendAt
import Derived.Laws.AppendOwnNone
import Derived.Deep.RegionLaw
namespace Go.Proofs.YtgjpcjnhggcfdaaGreatDoor.Wsg
open Go.ChangeShapes Go.WideShapes Go.ChangeAt Go.RowKit Go.Proofs.YtgjpcjnhggcfdaaGreatDoor.Core Go.Proofs.YtgjpcjnhggcfdaaGreatDoor.Gnd Go.Proofs.YtgjpcjnhggcfdaaGreatDoor.Math Go.Proofs.YtgjpcjnhggcfdaaGreatDoor.Dec Go.Proofs.YtgjpcjnhggcfdaaGreatDoor.Ord Go.Proofs.YtgjpcjnhggcfdaaGreatDoor.Lsp Go.Proofs.YtgjpcjnhggcfdaaGreatDoor.Foot Go.Proofs.YtgjpcjnhggcfdaaGreatDoor.Add Go.Proofs.YtgjpcjnhggcfdaaGreatDoor.Wri Go.Proofs.YtgjpcjnhggcfdaaGreatDoor.Wra

/-- A writer, as it was in w and as it is now. -/
structure Tw (w : World) (gw : Nat) (u : Value) (V0 N0 : Nat) (wr : World) (u' : Value) (V N : Nat) : Prop where
  base : Wr w gw u V0 N0
  wri : Wr wr gw u' V N
  turn : Turn gw u u' (N0 / 8) w wr
  le : N0 ≤ N
theorem Tw.refl {w : World} {gw : Nat} {u : Value} {V N : Nat} (h : Wr w gw u V N) : Tw w gw u V N w u V N := ⟨h, h, Turn.refl _ _ _ _, Nat.le_refl _⟩
theorem Tw.put {w wr w' : World} {gw : Nat} {u u1 u2 : Value} {V0 N0 V N V' N' : Nat} (h : Tw w gw u V0 N0 wr u1 V N) (hw : Wr w' gw u2 V' N') (t : Turn gw u1 u2 (N / 8) wr w') (hN : N ≤ N') : Tw w gw u V0 N0 w' u2 V' N' :=
  ⟨h.base, hw, h.turn.trans t (by have := h.le; omega) h.base.raw.ne (fun b hb => (h.base.raw.own.lt b hb).2), by have := h.le; omega⟩
theorem turn_below {w w' : World} (g : Nat) (v : Value) (n : Nat) (b : Below w.heap.size w w') (hlt : ∀ b, v.ownBlock = some b → b < w.heap.size) : Turn g v v n w w' :=
  ⟨Upd.ofBelow b, fun _ h => .inl h, fun c k hb _ => b.cell (p := ⟨c, k, none⟩) (hlt c hb)⟩
theorem Tw.below {w wr w' : World} {gw : Nat} {u u1 : Value} {V0 N0 V N : Nat} (h : Tw w gw u V0 N0 wr u1 V N) (b : Below wr.heap.size wr w') : Tw w gw u V0 N0 w' u1 V N :=
  h.put (h.wri.keep (Upd.ofBelow (S := fun _ => False) b) (fun _ _ h => h)) (turn_below _ _ _ b (fun c hc => (h.wri.raw.own.lt c hc).2)) (Nat.le_refl _)
theorem Tw.ft {w wr : World} {gw : Nat} {u u1 : Value} {V0 N0 V N : Nat} (h : Tw w gw u V0 N0 wr u1 V N) (b : Nat) (hb : Ft gw u1 b) : Ft gw u b ∨ w.heap.size ≤ b := by
  rcases hb with rfl | hb
  · exact .inl (.inl rfl)
  · rcases h.turn.stays.foot b hb with h1 | h1
    · exact .inl (.inr h1)
    · exact .inr h1
theorem Tw.trans {w w1 w2 : World} {gw : Nat} {u u1 u2 : Value} {V0 N0 V1 N1 V2 N2 : Nat} (h : Tw w gw u V0 N0 w1 u1 V1 N1) (k : Tw w1 gw u1 V1 N1 w2 u2 V2 N2) : Tw w gw u V0 N0 w2 u2 V2 N2 :=
  h.put k.wri k.turn k.le
theorem Tw.nw {H : Nat} {w0 w wr : World} {gw : Nat} {u u1 : Value} {V0 N0 V N : Nat} (h : Nw H w0 w gw u V0 N0) (k : Tw w gw u V0 N0 wr u1 V N) : Nw H w0 wr gw u1 V N := h.put k.wri k.turn
theorem tw_bits {w wr : World} {gw : Nat} {u u1 : Value} {V0 N0 V N : Nat} (h : Tw w gw u V0 N0 wr u1 V N) (v n : Nat) (hn : n ≤ 32) (hv : v < 2 ^ n) (hN : N ≤ 1000000) :
    Calls Tryz.prog 26 #[.pointer (some ⟨gw, 0, none⟩), .int .u32 v, .int .i64 n] wr fun e w' => e = .returned (.bool true) ∧ ∃ u2, Tw w gw u V0 N0 w' u2 (V + v * 2 ^ N) (N + n) := by
  refine (bits_yes gw u1 V N v n wr h.wri hn hv hN).mono ?_
  rintro e w' ⟨rfl, u2, hw, t⟩
  exact ⟨rfl, u2, h.put hw t (by omega)⟩
/-- What putCount writes. -/
structure Pc (w : World) (gw : Nat) (u : Value) (V N n : Nat) (e : Ending) (w' : World) : Prop where
  ex : ∃ k u', e = .returned (.tuple #[]) ∧ Tw w gw u V N w' u' (V + 1 * 2 ^ N + k * 2 ^ (N + 1) + (n - 2) * 2 ^ (N + 1 + 3)) (N + 1 + 3 + (2 + 2 * k)) ∧ k < 8 ∧ n - 2 < 2 ^ (2 + 2 * k)
set_option maxHeartbeats 1000000 in
theorem count47 (gw : Nat) (u : Value) (V N n : Nat) (w : World) (h : Wr w gw u V N) (hN : N ≤ 900000) (h2 : 2 ≤ n) (hn : n ≤ 4098) :
    Calls Tryz.prog 82 #[.pointer (some ⟨gw, 0, none⟩), .int .i64 n] w fun e w' => Pc w gw u V N n e w' := by
  have T0 := hide (Tw.refl h)
  obtain ⟨m, hm⟩ : ∃ m, n - 2 = m := ⟨_, rfl⟩
  have en2 : (n : Int) - 2 = (m : Int) := by omega
  have HM := hide hm
  have hm4 : m ≤ 4096 := by omega
  clear h hm
  go_enter Tryz.func82, Tryz.ntmps82
  go_wp2
  go_loopw [4] (fun x wr => ∃ k : Nat, x = .int .i64 k ∧ k ≤ 6 ∧ wr = w) (fun x _ => 7 - (intOf x).toNat)
  case atStart => exact ⟨0, rfl, by omega, rfl⟩
  case round =>
    obtain ⟨k, rfl, hk, rfl⟩ := hrel
    obtain ⟨kk, hkk⟩ : ∃ kk, 2 + 2 * k = kk := ⟨_, rfl⟩
    have ekk : (2 : Int) + 2 * (k : Int) = (kk : Int) := by omega
    obtain ⟨P, hP, hP2⟩ : ∃ P : Nat, wrap64 ((2 : Int) ^ kk) = (P : Int) ∧ P = 2 ^ kk := ⟨2 ^ kk, by
      have h1 : 2 ^ kk ≤ 2 ^ 15 := Nat.pow_le_pow_right (by omega) (by omega)
      have e : ((2 ^ kk : Nat) : Int) = (2 : Int) ^ kk := by simp
      rw [← e]
      generalize 2 ^ kk = z at *
      simp [wrap64]
      omega, rfl⟩
    have HP := hide hP2
    have HKK := hide hkk
    by_cases hge : P ≤ m
    · have hge' : decide (P ≤ m) = true := decide_eq_true hge
      have hge2 : (P : Int) ≤ (m : Int) := by omega
      have hk6 : k < 6 := by
        rcases Nat.lt_or_ge k 6 with h | h
        · exact h
        · have : 2 ^ 14 ≤ 2 ^ kk := Nat.pow_le_pow_right (by omega) (by omega)
          omega
      clear hP2 hkk
      go_wp2
      go_roundw
      case rel => exact ⟨k + 1, by go_num, by omega, by first | rfl | trivial⟩
      case measure => simp [intOf]; omega
    · have hge' : decide (P ≤ m) = false := decide_eq_false hge
      have hge2 : ¬ (P : Int) ≤ (m : Int) := by omega
      have hk' : (k : Int) ≤ 6 := by omega
      have hm' : (m : Int) ≤ 4096 := by omega
      clear hP2 hkk
      go_wp2_with fail
      refine (tw_bits (unhide T0) 1 1 (by omega) (by omega) (by omega)).mono ?_
      rintro e w1 ⟨rfl, u1, t1⟩
      have T1 := hide t1
      clear t1 T0
      go_wp2_with fail
      refine (tw_bits (unhide T1) k 3 (by omega) (by omega) (by omega)).mono ?_
      rintro e w2 ⟨rfl, u2, t2⟩
      have T2 := hide t2
      clear t2 T1
      go_wp2_with fail
      refine (tw_bits (unhide T2) m kk (by have := unhide HKK; omega) (by have := unhide HP; omega) (by omega)).mono ?_
      rintro e w3 ⟨rfl, u3, t3⟩
      have T3 := hide t3
      clear t3 T2
      go_wp2
      go_end0
      have h1 := unhide HM
      have h2 := unhide HKK
      have h3 := unhide HP
      refine ⟨k, u3, rfl, ?_, by omega, ?_⟩
      · rw [h1, h2]; exact unhide T3
      · rw [h1, h2]; omega
end Go.Proofs.YtgjpcjnhggcfdaaGreatDoor.Wsg

namespace Go.Proofs.YtgjpcjnhggcfdaaGreatDoor.Rse
open Go.ChangeShapes Go.WideShapes Go.ChangeAt Go.RowKit Go.Proofs.YtgjpcjnhggcfdaaGreatDoor.Core Go.Proofs.YtgjpcjnhggcfdaaGreatDoor.Gnd Go.Proofs.YtgjpcjnhggcfdaaGreatDoor.Math Go.Proofs.YtgjpcjnhggcfdaaGreatDoor.Bitin Go.Proofs.YtgjpcjnhggcfdaaGreatDoor.Eyes Go.Proofs.YtgjpcjnhggcfdaaGreatDoor.Dec Go.Proofs.YtgjpcjnhggcfdaaGreatDoor.Ord Go.Proofs.YtgjpcjnhggcfdaaGreatDoor.Lsp Go.Proofs.YtgjpcjnhggcfdaaGreatDoor.Tre Go.Proofs.YtgjpcjnhggcfdaaGreatDoor.Trr Go.Proofs.YtgjpcjnhggcfdaaGreatDoor.Rsa Go.Proofs.YtgjpcjnhggcfdaaGreatDoor.Rsb

/-- The order, where the program's variable lies. -/
def Ordr (w : World) : Prop := ∀ j, j < 19 → w.cell? ⟨1, j, none⟩ = some (.int .i64 (ord j))
theorem Ordr.keep {S : Nat → Prop} {w w' : World} (h : Ordr w) (u : Upd S w w') (hs : ¬ S 1) : Ordr w' := fun j hj => (u.cell (p := ⟨1, j, none⟩) (lt_of_cell (h j hj)) hs).trans (h j hj)
theorem Ordr.below {w w' : World} (h : Ordr w) (u : Below w.heap.size w w') : Ordr w' := h.keep (Upd.ofBelow (S := fun _ => False) u) (fun h => h)
theorem items (h : Nat → Nat) (d : Nat) (w : World) : ∀ is : List Nat, (∀ i ∈ is, i < 19) → (Op.eqItems (d + 1) 3 1 (nr h 19).toArray (nr (fun _ => 0) 19).toArray is).run Tryz.prog w = .ok (is.all fun i => (h i : Int) == 0) w
  | [], _ => by simp [Op.eqItems]
  | i :: is, hi => by
    have h1 := run_part_plain w (P := Tryz.prog) (e := 3) (by kernel_rfl) (xs := (nr h 19).toArray) (off := i * 1) (v := .int .i64 (h i)) (by rw [Nat.mul_one]; exact na_at _ _ _ (hi i (by simp)))
    have h2 := run_part_plain w (P := Tryz.prog) (e := 3) (by kernel_rfl) (xs := (nr (fun _ => 0) 19).toArray) (off := i * 1) (v := .int .i64 ((0 : Nat) : Int)) (by rw [Nat.mul_one]; exact na_at _ _ _ (hi i (by simp)))
    have ih := items h d w is (fun j hj => hi j (by simp [hj]))
    have h3 : (Op.equalIn (d + 1) 3 (.int .i64 (h i)) (.int .i64 ((0 : Nat) : Int))).run Tryz.prog w = .ok ((h i : Int) == ((0 : Nat) : Int)) w := run_equalIn_int w d 3 .i64 .i64 _ _ Tryz.underlying3
    simp only [Op.eqItems, Sem.run_bind, h1, h2, h3, Result.andThen_ok, List.all_cons]
    by_cases hz : (h i : Int) == ((0 : Nat) : Int)
    · have hz' : ((h i : Int) == 0) = true := hz
      rw [hz, hz', Bool.true_and]
      simpa using ih
    · have hz' : ((h i : Int) == 0) = false := by simpa using hz
      rw [hz', Bool.false_and, show ((h i : Int) == ((0 : Nat) : Int)) = false from hz']
      simp
theorem eql19 (h : Nat → Nat) (s : Nat) (hs : s < 19) (h0 : h s ≠ 0) (w : World) : (Op.equalIn 10000 152 (.agg (nr h 19).toArray) (.agg #[.int .i64 0, .int .i64 0, .int .i64 0, .int .i64 0, .int .i64 0, .int .i64 0, .int .i64 0, .int .i64 0, .int .i64 0, .int .i64 0, .int .i64 0, .int .i64 0, .int .i64 0, .int .i64 0, .int .i64 0, .int .i64 0, .int .i64 0, .int .i64 0, .int .i64 0])).run Tryz.prog w = .ok false w := by
  show (Op.equalIn 10000 152 (.agg (nr h 19).toArray) (.agg (nr (fun _ => 0) 19).toArray)).run Tryz.prog w = .ok false w
  obtain ⟨i0, hi0, _⟩ := info_parts Ord.info3
  rw [run_equalIn_array w 9999 _ _ Tryz.underlying152 hi0, show Tryz.prog.cellsOf 3 = 1 by kernel_rfl, items h 9998 w (List.range 19) (fun i hi => by simpa using hi)]
  have : ((List.range 19).all fun i => (h i : Int) == 0) = false := by
    rw [List.all_eq_false]
    exact ⟨s, by simpa using hs, by simp; omega⟩
  rw [this]
theorem zero19 : (#[.int .i64 0, .int .i64 0, .int .i64 0, .int .i64 0, .int .i64 0, .int .i64 0, .int .i64 0, .int .i64 0, .int .i64 0, .int .i64 0, .int .i64 0, .int .i64 0, .int .i64 0, .int .i64 0, .int .i64 0, .int .i64 0, .int .i64 0, .int .i64 0, .int .i64 0] : Array Value) = (nr (fun _ => 0) 19).toArray := rfl
end Go.Proofs.YtgjpcjnhggcfdaaGreatDoor.Rse

namespace Go.Proofs.YtgjpcjnhggcfdaaGreatDoor.Rsf
open Go.ChangeShapes Go.WideShapes Go.ChangeAt Go.RowKit Go.Proofs.YtgjpcjnhggcfdaaGreatDoor.Core Go.Proofs.YtgjpcjnhggcfdaaGreatDoor.Gnd Go.Proofs.YtgjpcjnhggcfdaaGreatDoor.Math Go.Proofs.YtgjpcjnhggcfdaaGreatDoor.Bitin Go.Proofs.YtgjpcjnhggcfdaaGreatDoor.Eyes Go.Proofs.YtgjpcjnhggcfdaaGreatDoor.Dec Go.Proofs.YtgjpcjnhggcfdaaGreatDoor.Ord Go.Proofs.YtgjpcjnhggcfdaaGreatDoor.Lsp Go.Proofs.YtgjpcjnhggcfdaaGreatDoor.Tre Go.Proofs.YtgjpcjnhggcfdaaGreatDoor.Trr Go.Proofs.YtgjpcjnhggcfdaaGreatDoor.Rsa Go.Proofs.YtgjpcjnhggcfdaaGreatDoor.Rsb Go.Proofs.YtgjpcjnhggcfdaaGreatDoor.Rse

theorem chk_some {c : Nat → Int} {n : Nat} (h : chk c n = 0) : ∃ k, k < n ∧ c k ≠ 0 := by
  obtain ⟨_, h1 | h1, _⟩ := chk_zero h
  · exact many_pos c n (by omega)
  · exact kr_pos c n (by omega)
theorem info96 (f : Nat → Nat) : (Tryz.prog.info? 152).map (·.size) = some (nr f 19).toArray.size := by
  rw [na_size]
  kernel_rfl
theorem ints_row {w : World} {g n cap T : Nat} {f : Nat → Nat} (h : Box w g T (nr f n).toArray) : Ints .i64 w (.slice (some ⟨g, 0, none⟩) n cap) n (fun k => (f k : Int)) :=
  ⟨_, _, rfl, fun i hi => ⟨g, 0, rfl, by rw [Nat.zero_add]; exact (h.cell i).trans (na_at _ _ _ hi)⟩⟩
end Go.Proofs.YtgjpcjnhggcfdaaGreatDoor.Rsf

namespace Go.Proofs.YtgjpcjnhggcfdaaGreatDoor.ZItm
open Go.ChangeShapes Go.WideShapes Go.ChangeAt Go.RowKit Go.Proofs.YtgjpcjnhggcfdaaGreatDoor.Core Go.Proofs.YtgjpcjnhggcfdaaGreatDoor.Gnd

/-- Items: a weight, and whether it is a symbol's. -/
abbrev It := Int × Bool
def nul : It := (0, false)
def at_ (xs : List It) (i : Nat) : It := xs.getD i nul
/-- A slice of items that is read. -/
def Its (w : World) (v : Value) (xs : List It) : Prop :=
  (v = .slice none 0 0 ∧ xs = []) ∨ ∃ b off cap, v = .slice (some ⟨b, off, none⟩) xs.length cap ∧ xs.length ≤ cap ∧ ∀ i, i < xs.length → w.cell? ⟨b, off + i * 2, none⟩ = some (.int .i64 (at_ xs i).1) ∧ w.cell? ⟨b, off + (i * 2 + 1), none⟩ = some (.bool (at_ xs i).2)
theorem Its.keep {w w' : World} {v : Value} {xs : List It} (h : Its w v xs) (u : Below w.heap.size w w') : Its w' v xs := by
  rcases h with h | ⟨b, off, cap, e, hl, hc⟩
  · exact .inl h
  · refine .inr ⟨b, off, cap, e, hl, fun i hi => ?_⟩
    obtain ⟨h2, h3⟩ := hc i hi
    exact ⟨(u.cell (lt_of_cell h2)).trans h2, (u.cell (lt_of_cell h3)).trans h3⟩
theorem Its.nil (w : World) : Its w (.slice none 0 0) [] := .inl ⟨rfl, rfl⟩
/-- Items in a block. -/
def irow (u : Nat → Int) (q : Nat → Bool) (n : Nat) : Array Value := ((List.range (n * 2)).map fun j => if j % 2 = 0 then Value.int .i64 (u (j / 2)) else Value.bool (q (j / 2))).toArray
theorem irow_size (u : Nat → Int) (q : Nat → Bool) (n : Nat) : (irow u q n).size = n * 2 := by simp [irow]
theorem irow_at (u : Nat → Int) (q : Nat → Bool) (n j : Nat) (h : j < n * 2) : (irow u q n)[j]? = some (if j % 2 = 0 then Value.int .i64 (u (j / 2)) else Value.bool (q (j / 2))) := by
  simp [irow, h]
theorem irow_int (u : Nat → Int) (q : Nat → Bool) (n k : Nat) (h : k < n) : (irow u q n)[k * 2]? = some (Value.int .i64 (u k)) := by
  rw [irow_at _ _ _ _ (by omega), if_pos (by omega), show k * 2 / 2 = k by omega]
theorem irow_bool (u : Nat → Int) (q : Nat → Bool) (n k : Nat) (h : k < n) : (irow u q n)[k * 2 + 1]? = some (Value.bool (q k)) := by
  rw [irow_at _ _ _ _ (by omega), if_neg (by omega), show (k * 2 + 1) / 2 = k by omega]
theorem irow_ext {xs : Array Value} {u : Nat → Int} {q : Nat → Bool} {n : Nat} (hs : xs.size = n * 2) (h : ∀ k, k < n → xs[k * 2]? = some (.int .i64 (u k)) ∧ xs[k * 2 + 1]? = some (.bool (q k))) : xs = irow u q n := by
  apply Array.ext_getElem?
  intro j
  by_cases hj : j < n * 2
  · obtain ⟨h1, h2⟩ := h (j / 2) (by omega)
    rcases Nat.mod_two_eq_zero_or_one j with e | e
    · have e2 : j / 2 * 2 = j := by omega
      have h3 := irow_int u q n (j / 2) (by omega)
      rw [e2] at h1 h3
      rw [h1, h3]
    · have e2 : j / 2 * 2 + 1 = j := by omega
      have h3 := irow_bool u q n (j / 2) (by omega)
      rw [e2] at h2 h3
      rw [h2, h3]
  · rw [Array.getElem?_eq_none (by omega), Array.getElem?_eq_none (by rw [irow_size]; omega)]
theorem irow_congr {u u' : Nat → Int} {q q' : Nat → Bool} {n : Nat} (h : ∀ k, k < n → u k = u' k ∧ q k = q' k) : irow u q n = irow u' q' n :=
  irow_ext (irow_size _ _ _) fun k hk => by rw [irow_int _ _ _ _ hk, irow_bool _ _ _ _ hk, (h k hk).1, (h k hk).2]; exact ⟨rfl, rfl⟩
theorem irow_set_int (u : Nat → Int) (q : Nat → Bool) (n i : Nat) (z : Int) : (irow u q n).setIfInBounds (i * 2) (.int .i64 z) = irow (fun k => if k = i then z else u k) q n := by
  refine irow_ext (by simp [irow_size]) fun k hk => ?_
  rw [Array.getElem?_setIfInBounds, Array.getElem?_setIfInBounds, irow_int _ _ _ _ hk, irow_bool _ _ _ _ hk, irow_size, if_neg (show ¬ i * 2 = k * 2 + 1 by omega)]
  by_cases e : k = i
  · subst e
    simp; omega
  · simp [e, show ¬ i * 2 = k * 2 by omega]
theorem irow_set_bool (u : Nat → Int) (q : Nat → Bool) (n i : Nat) (z : Bool) : (irow u q n).setIfInBounds (i * 2 + 1) (.bool z) = irow u (fun k => if k = i then z else q k) n := by
  refine irow_ext (by simp [irow_size]) fun k hk => ?_
  rw [Array.getElem?_setIfInBounds, Array.getElem?_setIfInBounds, irow_int _ _ _ _ hk, irow_bool _ _ _ _ hk, irow_size, if_neg (show ¬ i * 2 + 1 = k * 2 by omega)]
  by_cases e : k = i
  · subst e
    simp; omega
  · have e2 : ¬ i * 2 = k * 2 := by omega
    simp [e, e2]
theorem iput {w : World} {g n : Nat} {u : Nat → Int} {q : Nat → Bool} (h : Box w g 163 (irow u q n)) (k : Nat) (X : Int) (z : Bool) :
    Box ((w.setCell ⟨g, k * 2, none⟩ (.int .i64 X)).setCell ⟨g, k * 2 + 1, none⟩ (.bool z)) g 163 (irow (fun j => if j = k then X else u j) (fun j => if j = k then z else q j) n) := by
  have := (h.set (k * 2) (.int .i64 X)).set (k * 2 + 1) (.bool z)
  rw [irow_set_int, irow_set_bool] at this
  exact this
theorem info56 : (Tryz.prog.info? 163).map (fun i => (i.zero, i.size, i.bytes)) = some (some (.agg #[.int .i64 0, .bool false]), 2, 16) := by kernel_rfl
theorem irow_made (n : Nat) : madeCells #[.int .i64 0, .bool false] (n * 2) = irow (fun _ => 0) (fun _ => false) n := by
  refine irow_ext (by simp [size_madeCells]) fun k hk => ?_
  simp [madeCells, show k * 2 < n * 2 by omega, show k * 2 + 1 < n * 2 by omega, show (k * 2 + 1) % 2 = 1 by omega]
theorem make_items (w : World) (n : Nat) (hn : n ≤ 1000000) : (Instr.makeSlice 156 (.int .i64 n) (.int .i64 n)).run Tryz.prog w = .ok (.slice (some ⟨w.heap.size, 0, none⟩) n n) (w.alloc (.cells (irow (fun _ => 0) (fun _ => false) n) 163)) := by
  obtain ⟨i0, hi, hz0, hz1, hz2⟩ := info_parts info56
  have := run_make (P := Tryz.prog) w 156 163 i0 _ Tryz.underlying156 hi hz0 .i64 .i64 n n (by omega) (by omega) (by rw [hz2]; omega) (by omega)
  rw [hz1] at this
  rw [this]
  simp [Value.cells, irow_made]
theorem make_room (w : World) (n : Nat) (hn : n ≤ 1000000) : (Instr.makeSlice 156 (.int .i64 0) (.int .i64 n)).run Tryz.prog w = .ok (.slice (some ⟨w.heap.size, 0, none⟩) 0 n) (w.alloc (.cells (irow (fun _ => 0) (fun _ => false) n) 163)) := by
  obtain ⟨i0, hi, hz0, hz1, hz2⟩ := info_parts info56
  have := run_make (P := Tryz.prog) w 156 163 i0 _ Tryz.underlying156 hi hz0 .i64 .i64 0 n (by omega) (by omega) (by rw [hz2]; omega) (by omega)
  rw [hz1] at this
  rw [this]
  simp [Value.cells, irow_made]
/-- The symbols' items. -/
def wts (c s : Nat → Int) (n : Nat) : List It := (List.range n).map fun i => (c (s i).toNat, true)
theorem wts_len (c s : Nat → Int) (n : Nat) : (wts c s n).length = n := by simp [wts]
theorem wts_at (c s : Nat → Int) (n i : Nat) (h : i < n) : at_ (wts c s n) i = (c (s i).toNat, true) := by
  simp [at_, wts, h]
structure Wei (w wr : World) (n k : Nat) (c s : Nat → Int) : Prop where
  box : Box wr w.heap.size 163 (irow (fun i => if i < k then c (s i).toNat else 0) (fun i => decide (i < k)) n)
  bel : Below w.heap.size w wr
theorem Wei.put {w wr : World} {n k : Nat} {c s : Nat → Int} (h : Wei w wr n k c s) : Wei w ((wr.setCell ⟨w.heap.size, k * 2, none⟩ (.int .i64 (c (s k).toNat))).setCell ⟨w.heap.size, k * 2 + 1, none⟩ (.bool true)) n (k + 1) c s := by
  refine ⟨?_, (h.bel.setCell (p := ⟨w.heap.size, k * 2, none⟩) (Nat.le_refl _) _).setCell (p := ⟨w.heap.size, k * 2 + 1, none⟩) (Nat.le_refl _) _⟩
  have := iput h.box k (c (s k).toNat) true
  rw [irow_congr (u' := fun i => if i < k + 1 then c (s i).toNat else 0) (q' := fun i => decide (i < k + 1)) (fun j _ => ?_)] at this
  · exact this
  · by_cases e : j = k
    · subst e; simp
    · by_cases h2 : j < k
      · simp [e, h2, show j < k + 1 by omega]
      · simp [e, h2, show ¬ j < k + 1 by omega]
set_option maxHeartbeats 1000000 in
theorem wei16 (v u : Value) (len n : Nat) (c s : Nat → Int) (w : World) (sc : Ints .i64 w v len c) (su : Ints .i64 w u n s) (hs : ∀ i, i < n → 0 ≤ s i ∧ s i < len) (hn : n ≤ 100000) :
    Calls Tryz.prog 94 #[v, u] w fun e w' => ∃ r, e = .returned r ∧ Its w' r (wts c s n) ∧ Below w.heap.size w w' := by
  have SC := hide sc
  have SU := hide su
  have HS := hide hs
  obtain ⟨a1, cap1, rfl, _⟩ := sc
  obtain ⟨a2, cap2, rfl, _⟩ := su
  have hmk := fun w => make_items w n (by omega)
  clear hs
  go_enter Tryz.func94, Tryz.ntmps94
  go_wp2
  go_loopw [13] (fun i wr => ∃ k : Nat, k ≤ n ∧ i = .int .i64 k ∧ Wei w wr n k c s) (fun i _ => n - (intOf i).toNat)
  case atStart =>
    refine ⟨0, Nat.zero_le _, rfl, ⟨?_, (Below.refl _ w).alloc (Nat.le_refl _) _⟩⟩
    rw [irow_congr (u' := fun _ => 0) (q' := fun _ => false) (fun k _ => ⟨by simp, by simp⟩)]
    exact Box.made w 163 _
  case round =>
    obtain ⟨k, hk, rfl, wei⟩ := hrel
    have WEI := hide wei
    by_cases hlt : k < n
    · have hlt' : (k : Int) < (n : Int) := by omega
      obtain ⟨a, cap, e, h2⟩ := (unhide SU).keep wei.bel
      cases e
      obtain ⟨b, off, rfl, hcell⟩ := h2 k hlt
      obtain ⟨s1, s2⟩ := unhide HS k hlt
      obtain ⟨m, hm⟩ : ∃ m : Nat, s k = (m : Int) := ⟨(s k).toNat, by omega⟩
      obtain ⟨a', cap', e', h3⟩ := (unhide SC).keep wei.bel
      cases e'
      obtain ⟨b', off', rfl, hcell'⟩ := h3 m (by omega)
      have f0 := wei.box.free (k * 2)
      have f1 := wei.box.free (k * 2 + 1)
      have c0 := (wei.box.cell (k * 2)).trans (irow_int _ _ n k hlt)
      have c1 := (wei.box.cell (k * 2 + 1)).trans (irow_bool _ _ n k hlt)
      have hml : (m : Int) < (len : Int) := by omega
      rw [hm] at hcell
      have NX := hide (show Wei w ((wr.setCell ⟨w.heap.size, k * 2, none⟩ (.int .i64 (c m))).setCell ⟨w.heap.size, k * 2 + 1, none⟩ (.bool true)) n (k + 1) c s from by
        have := (unhide WEI).put
        rw [hm] at this
        exact this)
      clear wei h2 h3 s1 s2 hm WEI
      go_wp2
      go_roundw
      case rel => exact ⟨k + 1, by omega, by go_num, unhide NX⟩
      case measure => simp [intOf]; omega
    · obtain rfl : k = n := by omega
      have hnl : ¬ (k : Int) < (k : Int) := by omega
      clear hlt
      go_wp2
      go_ret
      refine ⟨_, rfl, .inr ⟨w.heap.size, 0, k, by rw [wts_len]; rfl, by rw [wts_len]; exact Nat.le_refl _, fun i hi => ?_⟩, wei.bel⟩
      rw [wts_len] at hi
      constructor
      · rw [Nat.zero_add, wts_at _ _ _ _ hi, wei.box.cell, irow_int _ _ _ _ hi, if_pos hi]
      · rw [Nat.zero_add, wts_at _ _ _ _ hi, wei.box.cell, irow_bool _ _ _ _ hi, decide_eq_true hi]
end Go.Proofs.YtgjpcjnhggcfdaaGreatDoor.ZItm
