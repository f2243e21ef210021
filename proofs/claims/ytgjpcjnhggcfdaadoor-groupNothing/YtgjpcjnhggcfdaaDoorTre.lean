/- Contracts: tree.New, Cost, and a tree in memory. Conditions: the slice reads as integers, and they are few. -/
import Derived.Test.YtgjpcjnhggcfdaaDoorOrd
namespace Go.Proofs.YtgjpcjnhggcfdaaDoor.Tre
open Go.ChangeShapes Go.WideShapes Go.ChangeAt Go.RowKit Go.Proofs.YtgjpcjnhggcfdaaDoor.Core Go.Proofs.YtgjpcjnhggcfdaaDoor.Gnd Go.Proofs.YtgjpcjnhggcfdaaDoor.Math Go.Proofs.YtgjpcjnhggcfdaaDoor.Chk Go.Proofs.YtgjpcjnhggcfdaaDoor.Dec Go.Proofs.YtgjpcjnhggcfdaaDoor.Wrd Go.Proofs.YtgjpcjnhggcfdaaDoor.Cou Go.Proofs.YtgjpcjnhggcfdaaDoor.Ord

/-- A tree of the lengths c at block g; all of it lies from lo to hi. -/
def Tr (w : World) (lo hi g : Nat) (c : Nat → Int) (n : Nat) : Prop :=
  lo ≤ g ∧ g < hi ∧ hi ≤ w.heap.size ∧ ∃ tb sb le, lo ≤ tb ∧ tb < hi ∧ lo ≤ sb ∧ sb < hi ∧ le ≤ 15 ∧ 0 < cq (qq c n) le n ∧ (∀ j, j < le → cq (qq c n) j n = 0) ∧
    Box w g 83 (tc (.slice (some ⟨tb, 0, none⟩) n n) (.slice (some ⟨sb, 0, none⟩) (bel (qq c n) n 16) (bel (qq c n) n 16)) (fun m => cq (qq c n) m n) le) ∧
    Box w tb 99 (wrow (uu c n) (qq c n) n) ∧ ∀ k, k < n → 0 ≤ qq c n k → w.cell? ⟨sb, ps (qq c n) n k, none⟩ = some (.int .i64 k)
theorem Tr.keep {S : Nat → Prop} {w w' : World} {lo hi g n : Nat} {c : Nat → Int} (h : Tr w lo hi g c n) (u : Upd S w w') (hs : ∀ k, lo ≤ k → k < hi → ¬ S k) : Tr w' lo hi g c n := by
  obtain ⟨h1, h2, h3, tb, sb, le, a1, a2, a3, a4, a5, a6, a7, a8, a9, a10⟩ := h
  exact ⟨h1, h2, Nat.le_trans h3 u.size, tb, sb, le, a1, a2, a3, a4, a5, a6, a7, a8.keep u (hs g h1 h2), a9.keep u (hs tb a1 a2), fun k hk h0 => (u.cell (p := ⟨sb, _, none⟩) (Nat.lt_of_lt_of_le a4 h3) (hs sb a3 a4)).trans (a10 k hk h0)⟩
theorem Tr.below {w w' : World} {lo hi g n : Nat} {c : Nat → Int} (h : Tr w lo hi g c n) (u : Below w.heap.size w w') : Tr w' lo hi g c n :=
  h.keep (Upd.ofBelow (S := fun _ => False) u) (fun _ _ _ h => h)
theorem tnew_no (v : Value) (n : Nat) (c : Nat → Int) (hl : n ≤ 100000) (h : chk c n ≠ 0) (w : World) (src : Ints .i64 w v n c) :
    Calls Tryd.prog 18 #[v] w fun e w' => e = .returned (.tuple #[.pointer none, .int .i64 (chk c n)]) ∧ Below w.heap.size w w' := by
  have C := hide (check11 v n c hl w src)
  have hb : (chk c n != 0) = true := by simpa using h
  clear src
  generalize chk c n = x at *
  go_enter Tryd.func18, Tryd.ntmps18
  go_wp2_with fail
  refine (unhide C).mono ?_
  rintro e w1 ⟨rfl, bel⟩
  have BEL := hide bel
  clear bel
  go_wp2
  go_ret2
  exact ⟨rfl, unhide BEL⟩
set_option maxHeartbeats 400000 in
theorem tnew (v : Value) (n : Nat) (c : Nat → Int) (hl : n ≤ 100000) (h : chk c n = 0) (w : World) (src : Ints .i64 w v n c) :
    Calls Tryd.prog 18 #[v] w fun e w' => ∃ g, e = .returned (.tuple #[.pointer (some ⟨g, 0, none⟩), .int .i64 0]) ∧ Tr w' w.heap.size w'.heap.size g c n ∧ Below w.heap.size w w' := by
  have C := check11 v n c hl w src
  rw [h] at C
  obtain ⟨hg, _, _⟩ := chk_zero h
  have hq : ∀ k, k < n → -1 ≤ qq c n k ∧ qq c n k ≤ 15 := fun k hk => qq_bd hg hk
  have hex : ∃ k, k < n ∧ 0 ≤ qq c n k := by
    obtain ⟨k, hk, h0⟩ := has_one h
    exact ⟨k, hk, (qq_has hg hk).2 h0⟩
  have CH := hide C
  have HC := hide h
  have HQ := hide hq
  have HEX := hide hex
  have SRC := hide src
  obtain ⟨a, cap, rfl, _⟩ := src
  clear C h hq hex hg
  go_enter Tryd.func18, Tryd.ntmps18
  go_wp2_with fail
  refine (unhide CH).mono ?_
  rintro e w1 ⟨rfl, b1⟩
  have B1 := hide b1
  clear b1
  go_wp2_with fail
  refine (words23 _ n c hl (unhide HC) _ ((unhide SRC).keep (unhide B1))).mono ?_
  rintro e w2 ⟨tb, rfl, ht, bx2, b2⟩
  have hsz := (unhide B1).size
  have B2 := hide (show Below w.heap.size w w2 from (unhide B1).trans (b2.mono hsz))
  have htl := bx2.lt
  have hsz2 := b2.size
  have BX2 := hide bx2
  have ht' : w.heap.size ≤ tb := by omega
  clear b2 bx2 CH SRC
  go_wp2_with fail
  refine (count24 w2.heap.size tb n (uu c n) (qq c n) (.slice none 0 0) _ (Box.made w2 83 _) ((unhide BX2).alloc _) (by omega) hl (unhide HQ) (unhide HEX)).mono ?_
  rintro e w3 ⟨rfl, le, l1, l2, l3, bx3, u3⟩
  have BX3 := hide bx3
  have L2 := hide l2
  have L3 := hide l3
  have W3 := hide (((unhide BX2).alloc _).keep u3 (by omega))
  have s3 : w2.heap.size + 1 ≤ w3.heap.size := by simpa using u3.size
  have B3 := hide (show Below w.heap.size w w3 from ((unhide B2).alloc (by omega) _).trans (u3.below _ (by simp; omega) (fun k hk => by omega)))
  clear bx3 l2 l3 u3
  go_wp2_with fail
  refine (order25 w2.heap.size tb n le (uu c n) (qq c n) (.slice none 0 0) _ (unhide BX3) (unhide W3) (by omega) hl (unhide HQ)).mono ?_
  rintro e w4 ⟨rfl, sb, p1, p2, bx4, sy, u4⟩
  have BX4 := hide bx4
  have SY := hide sy
  have s4 := u4.size
  have W4 := hide ((unhide W3).keep u4 (by omega))
  have B4 := hide (show Below w.heap.size w w4 from (unhide B3).trans (u4.below _ (by omega) (fun k hk => by omega)))
  clear bx4 sy u4
  go_wp2
  go_ret2
  exact ⟨_, rfl, ⟨by omega, by omega, Nat.le_refl _, tb, sb, le, ht', by omega, by omega, by omega, l1, unhide L2, unhide L3, unhide BX4, unhide W4, unhide SY⟩, unhide B4⟩
theorem has_nil (k : Int) (w : World) : Calls Tryd.prog 44 #[.pointer none, .int .i64 k] w fun e w' => e = .returned (.bool false) ∧ w' = w := by
  go_enter Tryd.func44, Tryd.ntmps44
  go_wp2
  go_ret
  exact ⟨rfl, rfl⟩
/-- Has the symbol a code? -/
def hasB (c : Nat → Int) (n : Nat) (k : Int) : Bool := decide (0 ≤ k ∧ k < (n : Int) ∧ c k.toNat ≠ 0)
theorem has33 (lo hi g n : Nat) (c : Nat → Int) (hg : Rng c n) (k : Int) (w : World) (h : Tr w lo hi g c n) : Calls Tryd.prog 44 #[.pointer (some ⟨g, 0, none⟩), .int .i64 k] w fun e w' => e = .returned (.bool (hasB c n k)) ∧ w' = w := by
  obtain ⟨h1, h2, h3, tb, sb, le, a1, a2, a3, a4, a5, a6, a7, a8, a9, a10⟩ := h
  have c0 := (a8.cell 0).trans (tc_0 _ _ _ _)
  unfold hasB
  by_cases hk0 : 0 ≤ k
  · by_cases hk1 : k < (n : Int)
    · obtain ⟨m, rfl⟩ : ∃ m : Nat, k = (m : Int) := ⟨k.toNat, by omega⟩
      have c1 := (a9.cell (m * 2 + 1)).trans (wrow_cnt _ _ n m (by omega))
      have hq := qq_has hg (show m < n by omega)
      have hb := qq_bd hg (show m < n by omega)
      have e : (decide ((0 : Int) ≤ (m : Int) ∧ (m : Int) < (n : Int) ∧ c ((m : Int).toNat) ≠ 0)) = (qq c n m != -1) := by
        have hi : (qq c n m != -1) = true ↔ c m ≠ 0 := by
          rw [← hq]
          simp
          omega
        rw [Bool.eq_iff_iff, hi]
        simp
        intro _
        omega
      rw [e]
      clear a8 a9 a10 a6 a7 hq e
      generalize qq c n m = z at *
      go_enter Tryd.func44, Tryd.ntmps44
      go_wp2
      go_ret
      exact ⟨rfl, rfl⟩
    · clear a8 a9 a10 a6 a7
      go_enter Tryd.func44, Tryd.ntmps44
      go_wp2
      go_ret
      refine ⟨ret_bool ?_, rfl⟩
      simp
      omega
  · clear a8 a9 a10 a6 a7
    go_enter Tryd.func44, Tryd.ntmps44
    go_wp2
    go_ret
    refine ⟨ret_bool ?_, rfl⟩
    simp
    omega
end Go.Proofs.YtgjpcjnhggcfdaaDoor.Tre
