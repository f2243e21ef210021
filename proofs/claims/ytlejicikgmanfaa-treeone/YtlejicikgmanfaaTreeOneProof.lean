/-
  What is proved: whatever the numbers and the bytes are, a code of one symbol takes no bits however often it is read, and of two codes each costs one bit; the bytes read behind the call as before (Rows.TreeOneSaid).
  Conditions: none.
-/
import Derived.Test.YtlejicikgmanfaaRows
import Derived.Test.YtlejicikgmanfaaSml
import Derived.WalkKit
import Derived.ProofKit
import Derived.OpenShut
import Derived.ShutString
import Derived.ChangeOld
import Derived.Below
namespace Go.Proofs.Ytlejicikgmanfaa.treeOne
open Go.ChangeShapes Go.WideShapes Go.ChangeAt Go.RowKit
open Go.Proofs.Ytlejicikgmanfaa.Core Go.Proofs.Ytlejicikgmanfaa.Gnd Go.Proofs.Ytlejicikgmanfaa.Math Go.Proofs.Ytlejicikgmanfaa.Dec Go.Proofs.Ytlejicikgmanfaa.Ord Go.Proofs.Ytlejicikgmanfaa.Tre Go.Proofs.Ytlejicikgmanfaa.Trr Go.Proofs.Ytlejicikgmanfaa.Ans Go.Proofs.Ytlejicikgmanfaa.Sml Go.Proofs.Ytlejicikgmanfaa.Bitin Go.Proofs.Ytlejicikgmanfaa.Eyes
open Go.ChangeMaps (open_string shut_string)
set_option linter.unusedVariables false

theorem own : ownKnob Try.prog.godebug = none := by kernel_rfl
theorem laidOut : laidOutB Try.prog = true := by kernel_rfl

/-- WHAT THE WALK IS TOLD OF A SLICE OF INTEGERS THAT CAME IN: it is nil; or it leads to a row of 'cap' cells, the numbers 'zs' (the first 'len' are its elements, the rest its spare room), each fitting its kind. -/
def IsRow (k : IntKind) (w : World) (a : Option Addr) (len cap : Nat) (zs : List Int) : Prop :=
  (a = none ∧ len = 0 ∧ cap = 0 ∧ zs = []) ∨
  ∃ x, a = some x ∧ len ≤ cap ∧ cap ≤ maxLen ∧ zs.length = cap ∧ (∀ i, i < zs.length → w.cell? (x.add i) = some (.int k (zs.getD i 0))) ∧ ∀ n ∈ zs, (Lit.int k n).wf = true


set_option maxRecDepth 20000 in
set_option maxHeartbeats 1000000 in
theorem walk (a0 : Int) (a1 : Int) (a2 : Int) (a3 : Option Addr) (len3 cap3 : Nat) (z3 : List Int) (w : World) (w0 : (Lit.int .u8 a0).wf = true) (w1 : (Lit.int .u8 a1).wf = true) (w2 : (Lit.int .u8 a2).wf = true) (w3 : IsRow .u8 w a3 len3 cap3 z3) :
    Calls Try.prog 6 #[.int .u8 a0, .int .u8 a1, .int .u8 a2, .slice a3 len3 cap3] w fun e w' => e = .returned (.bool true) ∧ Below w.heap.size w w' := by
  obtain ⟨bc, hc, src⟩ := src_of_row w3
  have SRC := hide src
  obtain ⟨x0, x1⟩ := bounds_u8 w0
  obtain ⟨y0, y1⟩ := bounds_u8 w1
  obtain ⟨v0, v1⟩ := bounds_u8 w2
  clear w3 src w0 w1 w2
  by_cases hlen : 50 < len3
  · have hlen' : (50 : Int) < (len3 : Int) := by omega
    go_enter Try.func6, Try.ntmps6
    go_wp2_with fail
    refine (ans7 w).mono ?_
    rintro e w4 ⟨rfl, bel4⟩
    have B4 := hide bel4
    clear bel4
    go_wp2
    go_ret
    exact ⟨rfl, unhide B4⟩
  obtain ⟨p, rfl⟩ : ∃ p : Nat, a0 = (p : Int) := ⟨a0.toNat, by omega⟩
  obtain ⟨q, rfl⟩ : ∃ q : Nat, a1 = (q : Int) := ⟨a1.toNat, by omega⟩
  obtain ⟨s, rfl⟩ : ∃ s : Nat, a2 = (s : Int) := ⟨a2.toNat, by omega⟩
  have hlen' : (len3 : Int) ≤ 50 := by omega
  obtain ⟨K, hK⟩ : ∃ K : Nat, K = p % 60 + 2 := ⟨_, rfl⟩
  obtain ⟨i, hi⟩ : ∃ i : Nat, i = q % K := ⟨_, rfl⟩
  obtain ⟨m, hm⟩ : ∃ m : Nat, m = 1 + s % 15 := ⟨_, rfl⟩
  have hmk := fun w => make_ints w K (by omega)
  have hK' : (p : Int) % 60 + 2 = (K : Int) := by omega
  have hiK : i < K := by rw [hi]; exact Nat.mod_lt _ (by omega)
  have hi' : (q : Int) % (K : Int) = (i : Int) := by rw [hi]; simp
  have hm' : 1 + (s : Int) % 15 = (m : Int) := by omega
  have hm1 : 1 ≤ m ∧ m ≤ 15 := by omega
  have hK1 : 2 ≤ K ∧ K ≤ 61 := by omega
  obtain ⟨xs, hxs⟩ : ∃ xs, xs = (nr (fun _ => 0) K).toArray := ⟨_, rfl⟩
  rw [← hxs] at hmk
  have hxi : xs[i]? = some (.int .i64 0) := by rw [hxs]; exact na_at _ _ _ hiK
  have HXS := hide hxs
  clear hK hi hm hxs
  go_enter Try.func6, Try.ntmps6
  go_wp2_with fail
  have bx0 : Box (w.alloc (.cells (xs.setIfInBounds i (.int .i64 (m : Int))) 3)) w.heap.size 3 (nr (f1 i m) K).toArray := by
    rw [unhide HXS, na_set]
    exact Box.made w 3 _
  have bl0 : Below w.heap.size w (w.alloc (.cells (xs.setIfInBounds i (.int .i64 (m : Int))) 3)) := (Below.refl _ w).alloc (Nat.le_refl _) _
  refine (tnew _ K (c1 i m) (by omega) (chk1 i m K (by omega) (by omega) hiK) _ (ints_row bx0)).mono ?_
  rintro e w4 ⟨g, rfl, tr4, bel4⟩
  have BX4 := hide (bx0.below bel4 bx0.lt)
  have B4 := hide (show Below w.heap.size w w4 from bl0.trans (bel4.mono (by simp)))
  have TR4 := hide tr4
  have hg1 : w.heap.size + 1 ≤ w4.heap.size := by simpa using bel4.size
  clear bx0 bl0 tr4 bel4 hxi
  rw [hi']
  go_wp2_with fail
  refine (new8 _ len3 bc _ ((unhide SRC).keep (Upd.ofBelow (S := fun _ => False) (unhide B4)) (fun _ h => h.elim)) (by omega)).mono ?_
  rintro e w5 ⟨r, rfl, on5, bel5⟩
  have AT5 := hide on5.at
  have hr5 := on5.at.1
  have TR5 := hide ((unhide TR4).below bel5)
  have BX5 := hide ((unhide BX4).below bel5 (unhide BX4).lt)
  have B5 := hide (show Below w.heap.size w w5 from (unhide B4).trans (bel5.mono (unhide B4).size))
  have s5 := bel5.size
  clear on5 bel5 TR4 BX4 B4
  go_wp2
  go_loopw [15] (fun j wr => ∃ k : Nat, k ≤ 10 ∧ j = .int .i64 k ∧ Tr wr (w.alloc (.cells (xs.setIfInBounds i (.int .i64 (m : Int))) 3)).heap.size w4.heap.size g (c1 i m) K ∧ At wr w4.heap.size w5.heap.size r bc len3 (some 0) ∧ Box wr w.heap.size 3 (nr (f1 i m) K).toArray ∧ Below w.heap.size w wr) (fun j _ => 10 - (intOf j).toNat)
  case atStart => exact ⟨0, by omega, rfl, unhide TR5, unhide AT5, unhide BX5, unhide B5⟩
  case round =>
    obtain ⟨k, hk, rfl, tr, at', bx, bel⟩ := hrel
    by_cases hlt : k < 10
    · have hlt' : (k : Int) < 10 := by omega
      have nx : Nx (c1 i m) K (fun j => bt bc (0 + j)) 0 i := .inl ⟨by rw [many1 i m (by omega) K, if_pos hiK], rfl, (sel1' i m (by omega) K hiK).symm⟩
      have RD := hide (read13 _ _ g K (c1 i m) _ _ r len3 0 0 i bc hc (by omega) wr tr at' (.inr hr5) (by omega) nx)
      have TR := hide tr
      have BX := hide bx
      have BEL := hide bel
      clear tr at' bx bel nx TR5 AT5 BX5 B5
      go_wp2_with fail
      refine (unhide RD).mono ?_
      rintro e w6 ⟨rfl, at6, u6⟩
      have e1 : outV len3 0 0 i = (i : Int) := by simp [outV]
      have e2 : outE len3 0 0 = 0 := by simp [outE]
      have e3 : outS len3 0 0 = some 0 := by simp [outS]
      rw [e1, e2]
      rw [e3] at at6
      have TR6 := hide ((unhide TR).keep u6 (fun k _ h2 h3 => by omega))
      have BX6 := hide ((unhide BX).keep u6 (by omega))
      have B6 := hide (show Below w.heap.size w w6 from (unhide BEL).trans (u6.below _ (unhide BEL).size (fun k hk => by omega)))
      have AT6 := hide at6
      have LF := hide (left_step _ _ r len3 (some 0) bc w6 at6 (by omega))
      clear at6 u6 e1 e2 e3 RD TR BX BEL
      go_wp2_with fail
      refine (unhide LF).mono ?_
      have e4 : ((Go.Proofs.Ytlejicikgmanfaa.Bitin.leftOf len3 (some 0) : Nat) : Int) = 8 * (len3 : Int) := by simp [Go.Proofs.Ytlejicikgmanfaa.Bitin.leftOf]
      rw [e4]
      rintro e w7 ⟨rfl, kk, rfl⟩
      clear LF e4
      go_wp2
      go_roundw
      case rel => exact ⟨k + 1, by omega, by go_num, (unhide TR6).keep ((Upd.refl (fun _ => False) w6).drewN kk) (fun _ _ _ h => h), (unhide AT6).keep ((Upd.refl (fun _ => False) w6).drewN kk) (fun _ _ _ h => h), (unhide BX6).drewN kk, (unhide B6).trans (((Upd.refl (fun _ => False) w6).drewN kk).below _ (unhide B6).size (fun _ h => h.elim))⟩
      case measure => simp [intOf]; omega
    · obtain rfl : k = 10 := by omega
      obtain ⟨j, hj⟩ : ∃ j : Nat, j = (i + 1) % K := ⟨_, rfl⟩
      have hjK : j < K := by rw [hj]; exact Nat.mod_lt _ (by omega)
      have hj' : ((i : Int) + 1) % (K : Int) = (j : Int) := by rw [hj]; simp
      have hij : i ≠ j := by
        rw [hj]
        by_cases e : i + 1 = K
        · rw [e, Nat.mod_self]; omega
        · rw [Nat.mod_eq_of_lt (by omega)]; omega
      have hji : j ≠ i := fun h => hij h.symm
      have ci := (bx.cell i).trans (na_at _ _ i hiK)
      have cj := (bx.cell j).trans (na_at _ _ j hjK)
      have fi := bx.free i
      have fj := bx.free j
      have hnl : ¬ (10 : Int) < 10 := by omega
      have BX := hide bx
      have BEL := hide bel
      have hKi : (2 : Int) ≤ (K : Int) := by omega
      have hiK' : (i : Int) < (K : Int) := by omega
      have hjK' : (j : Int) < (K : Int) := by omega
      clear tr at' bx bel TR5 AT5 BX5 B5 hj
      go_wp2_with fail
      have bx6 : Box ((wr.setCell ⟨w.heap.size, i, none⟩ (.int .i64 1)).setCell ⟨w.heap.size, j, none⟩ (.int .i64 1)) w.heap.size 3 (nr (f2 i j) K).toArray := by
        refine row_put (row_put (unhide BX) i 1 1 rfl (fun k => if k = i then 1 else f1 i m k) (fun k _ => rfl)) j 1 1 rfl (f2 i j) (fun k _ => ?_)
        unfold f2 f1
        by_cases e1 : k = j
        · rw [if_pos e1, if_pos (.inr e1)]
        · rw [if_neg e1]
          by_cases e2 : k = i
          · rw [if_pos e2, if_pos (.inl e2)]
          · rw [if_neg e2, if_neg e2, if_neg (by simp [e1, e2])]
      have b6 : Below w.heap.size w ((wr.setCell ⟨w.heap.size, i, none⟩ (.int .i64 1)).setCell ⟨w.heap.size, j, none⟩ (.int .i64 1)) := ((unhide BEL).setCell (p := ⟨w.heap.size, i, none⟩) (Nat.le_refl _) _).setCell (p := ⟨w.heap.size, j, none⟩) (Nat.le_refl _) _
      obtain ⟨k2, m2⟩ := chk2 i j K hij hiK hjK
      refine (tnew _ K (c2 i j) (by omega) k2 _ (ints_row bx6)).mono ?_
      rintro e w6 ⟨g6, rfl, tr6, bel6⟩
      have TR6 := hide tr6
      have B6 := hide (show Below w.heap.size w w6 from b6.trans (bel6.mono b6.size))
      have M2 := hide m2
      clear tr6 bel6 bx6 b6 k2 m2 BX BEL ci cj fi fj
      go_wp2_with fail
      refine (cost18 _ _ g6 K (c2 i j) (rng2 i j K) i w6 (unhide TR6)).mono ?_
      have h1 : hasB (c2 i j) K (i : Int) = true := by
        unfold hasB
        rw [decide_eq_true_eq]
        exact ⟨by omega, by omega, by rw [show ((i : Int)).toNat = i from rfl, c2_at i j (.inl rfl)]; decide⟩
      have h2 : costI (c2 i j) K (i : Int) = 1 := by
        unfold costI
        rw [if_pos ⟨h1, unhide M2⟩]
        exact c2_at i j (.inl rfl)
      rw [h1, h2]
      rintro e w7 ⟨rfl, rfl⟩
      clear h1 h2
      go_wp2_with fail
      refine (ans7 w7).mono ?_
      rintro e w8 ⟨rfl, bel8⟩
      have B8 := hide (show Below w.heap.size w w8 from (unhide B6).trans (bel8.mono (unhide B6).size))
      clear bel8
      go_wp2
      go_ret
      exact ⟨rfl, unhide B8⟩

/-! ### THE ROW's STEP: WRITTEN OUT: LEAVE IT -/
set_option maxRecDepth 100000 in
theorem lifted (os : Os) (started : os.Started) (H : Type) (enc : TypeId × Value → H) :
    ReturnsInHanded {} Try.checked os 6 .any (Rows.treeOneSpec.pre6 enc Try.prog Try.f6 Rows.treeOneRow.domain false) (Rows.treeOneSpec.post enc Try.prog Try.f6 false true false false) := by
  refine returnsInHanded_of_change (C := Try.checked) own started (by kernel_rfl) Try.func6
    (ChangeSpec.witness6 (enc := enc) (C := Try.checked) false ⟨#[], #[.int .u8 0, .int .u8 0, .int .u8 0, .slice none 0 0], []⟩ 8 (by kernel_rfl) (by kernel_rfl) (by kernel_rfl) (by kernel_rfl)) ?_
  intro W base args ds gs before hval0 hW hcnd _
  have hval : ∀ (j : Nat) t v, Try.f6.params[j]? = some t → args[j]? = some v → Value.okWide Try.prog W .any base t v := hval0
  have hW' := hW
  obtain ⟨p, q, hA0, hV, rfl, hfz, hnd⟩ := hW
  have hA : DataW.TrodAll enc Try.prog W 0 (fun _ => true) true Try.f6.params.toList args.toList ds p := hA0
  rw [Try.params6] at hA hval
  obtain ⟨v0, vs0, d0, ds0, p0, q0, hargs, rfl, rfl, h0, r0⟩ := trodAll_cons hA
  obtain ⟨v1, vs1, d1, ds1, p1, q1, rfl, rfl, rfl, h1, r1⟩ := trodAll_cons r0
  obtain ⟨v2, vs2, d2, ds2, p2, q2, rfl, rfl, rfl, h2, r2⟩ := trodAll_cons r1
  obtain ⟨v3, vs3, d3, ds3, p3, q3, rfl, rfl, rfl, h3, r3⟩ := trodAll_cons r2
  obtain ⟨rfl, rfl, rfl⟩ := trodAll_nil r3
  obtain rfl : args = #[v0, v1, v2, v3] := by cases args; simp_all
  obtain ⟨rfl, rfl⟩ := trodVars_none hV
  obtain ⟨a0, rfl, rfl, rfl, w0⟩ := open_int Try.underlying5 (hval 0 5 v0 rfl rfl) h0
  obtain ⟨a1, rfl, rfl, rfl, w1⟩ := open_int Try.underlying5 (hval 1 5 v1 rfl rfl) h1
  obtain ⟨a2, rfl, rfl, rfl, w2⟩ := open_int Try.underlying5 (hval 2 5 v2 rfl rfl) h2
  obtain ⟨a3, len3, cap3, rfl⟩ := okWide_slice Try.underlying23 (hval 3 23 v3 rfl rfl)
  have k3 := h3
  have lt3 : ∀ x ∈ p3, x.block < W.heap.size := by obtain ⟨m, hm⟩ := k3; exact DataW.trod_lt m _ _ _ hm
  obtain ⟨z3, w3⟩ : ∃ zs, IsRow .u8 W a3 len3 cap3 zs := by
    obtain ⟨fuel, hf⟩ := h3
    rcases open_ints Try.underlying23 Try.underlying5 (by kernel_rfl) hf with ⟨hcs, _⟩ | ⟨x, l, c, zs, hcs, _, hl, hm, hz, _, hcell, hwz⟩
    · simp [Value.cells] at hcs
      obtain ⟨rfl, rfl, rfl⟩ := hcs
      exact ⟨[], .inl ⟨rfl, rfl, rfl, rfl⟩⟩
    · simp [Value.cells] at hcs
      obtain ⟨rfl, rfl, rfl⟩ := hcs
      exact ⟨zs, .inr ⟨_, rfl, hl, hm, by simpa using hz, hcell, hwz⟩⟩
  clear hA0 hval0
  refine (walk a0 a1 a2 a3 len3 cap3 z3 W w0 w1 w2 w3).mono fun e W' ⟨he, bel⟩ => ?_
  subst he
  exact ⟨_, rfl, _, _, _, [], _, [], hW', trodAll_mk1 (shut_bool Try.underlying4 _), (trodAll_cons_mk (shut_int Try.underlying5 w0) (trodAll_cons_mk (shut_int Try.underlying5 w1) (trodAll_cons_mk (shut_int Try.underlying5 w2) (trodAll_cons_mk (Below.trod laidOut (by kernel_rfl) (of_decide_eq_true (by kernel_rfl)) k3 bel lt3) trodAll_mk0)))), rfl, bel.frame _, fun h => by cases h⟩

theorem over : Rows.treeOneRow.holds Try.pinned (OpenSpec.ofChange Rows.treeOneSpec) :=
  OpenClaim.holds_of_wide 6 Try.f6 rfl rfl rfl rfl rfl rfl rfl ⟨rfl, rfl, rfl, rfl, rfl⟩ rfl rfl rfl rfl rfl (by kernel_rfl) Try.func6 (by kernel_rfl)
    (of_decide_eq_true (by kernel_rfl)) (by unfold Func.isWrapper; first | (rw [if_pos (by decide +kernel)]; kernel_rfl) | (rw [if_neg (by decide +kernel)]; exact ⟨rfl, rfl⟩))
    (fun os started H enc _ => lifted os started H enc)

/-- ████ THE STATEMENT ████ -/
theorem proved : Rows.TreeOneSaid := over
#print axioms proved
end Go.Proofs.Ytlejicikgmanfaa.treeOne
