/-
  What is proved: for every input the Go function LeJoins of the statements of layer 1 returns true, and its arguments read as before (two numbers, one behind the other, are read each at its place, and as one).
  Conditions: none.
-/
import Derived.Test.YtenhoipnenmeaaaRows
import Derived.Test.YtenhoipnenmeaaaAns
import Derived.Test.YtenhoipnenmeaaaSame
import Derived.WalkKit
import Derived.ProofKit
import Derived.OpenShut
import Derived.ShutString
import Derived.ChangeOld
import Derived.Below
namespace Go.Proofs.Ytenhoipnenmeaaa.leJoins
open Go.ChangeShapes Go.WideShapes Go.ChangeAt Go.RowKit
open Go.Proofs.Ytenhoipnenmeaaa.Prod Go.Proofs.Ytenhoipnenmeaaa.Blk Go.Proofs.Ytenhoipnenmeaaa.Get Go.Proofs.Ytenhoipnenmeaaa.Ans Go.Proofs.Ytenhoipnenmeaaa.Put Go.Proofs.Ytenhoipnenmeaaa.Same
open Go.ChangeMaps (open_string shut_string)
set_option linter.unusedVariables false      -- a walk need not use every 'w<i>' (that an integer argument fits its kind)

theorem own : ownKnob Try.prog.godebug = none := by kernel_rfl

theorem news_of {w : World} {n B : Nat} {v : Int} (h : ∀ k, k < n → w.cell? ⟨B, k, none⟩ = some (.int .u8 (dig v k))) :
    ∀ j u, (cells v n)[j]? = some u → w.cell? ((⟨B, 0, none⟩ : Addr).add j) = some u := by
  intro j u hu
  have hj : j < n := by
    have := (List.getElem?_eq_some_iff.1 hu).1
    rwa [cells_len] at this
  rw [cells_at v n j hj] at hu
  rw [add_plain, Nat.zero_add, h j hj]
  exact hu
theorem cells_one (v : Int) (n : Nat) : ∀ u ∈ cells v n, u.oneCell' = true := by
  intro u hu
  obtain ⟨_, _, rfl⟩ := List.mem_map.1 hu
  rfl

theorem own_shape {w : World} {base : Nat} {v : Value} {xs : List Value} (n : Nat) (hn : 0 < n) (h : w.ownsRow base 5 1 v n xs) :
    ∃ g cap, v = .slice (some ⟨g, 0, none⟩) n cap ∧ ∀ k, k < n → w.cell? ⟨g, k, none⟩ = xs[k]? := by
  rcases h.2 with ⟨_, h0⟩ | ⟨g, cap, cur, rfl, _⟩
  · omega
  · exact ⟨g, cap, rfl, fun k hk => h.cellAt k (by omega)⟩
/-- The bytes of two numbers, one behind the other. -/
def two (a b : Int) (k : Nat) : Int := if k < 4 then dig a k else dig b (k - 4)
theorem two_at (a b : Int) (k : Nat) (hk : k < 8) : (cells a 4 ++ cells b 4)[k]? = some (.int .u8 (two a b k)) := by
  unfold two
  by_cases h : k < 4
  · rw [List.getElem?_append_left (by rw [cells_len]; exact h), if_pos h, cells_at a 4 k h]
  · rw [List.getElem?_append_right (by rw [cells_len]; omega), if_neg h, cells_len, cells_at b 4 (k - 4) (by omega)]
theorem two_bd (a b : Int) (k : Nat) : 0 ≤ two a b k ∧ two a b k ≤ 255 := by
  unfold two; split <;> exact dig_bd _ _
theorem two_lo (a b : Int) (h0 : 0 ≤ a) (h1 : a ≤ 4294967295) : leN (two a b) 0 4 = a := by
  simp [leN, two, dig]; omega
theorem two_hi (a b : Int) (h0 : 0 ≤ b) (h1 : b ≤ 4294967295) : leN (two a b) 4 4 = b := by
  simp [leN, two, dig]; omega
theorem two_all (a b : Int) (h0 : 0 ≤ a) (h1 : a ≤ 4294967295) (h2 : 0 ≤ b) (h3 : b ≤ 4294967295) : leN (two a b) 0 8 = a + b * 4294967296 := by
  have e1 := two_lo a b h0 h1
  have e2 := two_hi a b h2 h3
  simp only [leN, Nat.reduceAdd] at *
  omega

/-! ### STEP 1: THE WALK: the Go text returns true. 'Below': nothing that was there has turned. Part the cases AHEAD of 'go_enter' where a test parts the walk; take each callee by a contract of your own. -/
theorem walk (a0 : Int) (a1 : Int) (w0 : (Lit.int .u32 a0).wf = true) (w1 : (Lit.int .u32 a1).wf = true) (w : World) :
    Calls Try.prog 7 #[.int .u32 a0, .int .u32 a1] w fun e w' => e = .returned (.bool true) ∧ Below w.heap.size w w' := by
  have b0 := bounds_u32 w0
  have b1 := bounds_u32 w1
  clear w0 w1
  obtain ⟨x1, x2⟩ := b0
  obtain ⟨y1, y2⟩ := b1
  obtain ⟨i0, hi, hz0, hz1, hz2⟩ := info_parts Try.info5
  go_enter Try.func7, Try.ntmps7
  go_wp2_with fail
  refine (put11_yes a0 4 _ (by omega) (by omega) x1 (by omega)).mono ?_
  rintro e w1 ⟨h, own1, bel1⟩
  obtain ⟨_, rfl⟩ | ⟨h, _⟩ := h
  rotate_left
  · exact absurd h (by omega)
  go_wp2_with fail
  refine (put11_yes a1 4 _ (by omega) (by omega) y1 (by omega)).mono ?_
  rintro e w2 ⟨h, own2, bel2⟩
  obtain ⟨_, rfl⟩ | ⟨h, _⟩ := h
  rotate_left
  · exact absurd h (by omega)
  have l1 := (own1.lt w.heap.size rfl).2
  have l2 := (own2.lt w1.heap.size rfl).2
  have cx : ∀ k, k < 4 → w2.cell? ⟨w.heap.size, k, none⟩ = some (.int .u8 (dig a0 k)) := fun k hk => (bel2.cell (p := ⟨w.heap.size, k, none⟩) l1).trans ((own1.cellAt k (by omega)).trans (cells_at a0 4 k hk))
  have cy : ∀ k, k < 4 → w2.cell? ⟨w1.heap.size, k, none⟩ = some (.int .u8 (dig a1 k)) := fun k hk => (own2.cellAt k (by omega)).trans (cells_at a1 4 k hk)
  have bel : Below w.heap.size w w2 := bel1.trans (bel2.mono bel1.size)
  have n1 := news_of (w := w2.alloc (.cells #[] 5)) (n := 4) (v := a0) (B := w.heap.size) (fun k hk => by rw [World.cell?_alloc_past _ _ _ (by omega)]; exact cx k hk)
  have n2 : ∀ w3, (w2.alloc (.cells #[] 5)).grownBy w3 (some w2.heap.size) → ∀ j u, (cells a1 4)[j]? = some u → w3.cell? ((⟨w1.heap.size, 0, none⟩ : Addr).add j) = some u := fun w3 hg =>
    news_of (w := w3) (n := 4) (v := a1) (B := w1.heap.size) (fun k hk => hg.cell (by rw [World.cell?_alloc_past _ _ _ (by omega)]; exact cy k hk) (by simp; omega))
  have ownE : (w2.alloc (.cells #[] 5)).ownsRow w.heap.size 5 1 (.slice (some ⟨w2.heap.size, 0, none⟩) 0 0) 0 [] := World.ownsRow_lit w2 #[] 0 (by have := bel.size; omega) (by decide) rfl
  have hsz := bel.size
  have N1 := hide n1
  have N2 := hide n2
  have OE := hide ownE
  have BEL := hide bel
  clear cx cy bel bel1 bel2 own1 own2 n1 n2 ownE
  go_wp2_with (first | (at_builtin; refine wpList_append_own _ rfl (.tmp 28) (.tmp 29) 22 rfl w.heap.size 5 i0 (.int .u8 0) 1 1 Try.underlying22 hi hz0 hz1 hz2 rfl (by decide) _ _ _ rfl (unhide OE) ⟨w.heap.size, 0, none⟩ 4 4 (cells a0 4) rfl (cells_len _ _) (unhide N1) (cells_one _ _) (by decide) (by decide) (by simp; omega) ?_; intro v3 w3 own3 grow3 _; have O3 := hide own3; have G3 := hide grow3; clear own3 grow3) | (at_builtin; refine wpList_append_own _ rfl (.tmp 30) (.tmp 31) 22 rfl w.heap.size 5 i0 (.int .u8 0) 1 1 Try.underlying22 hi hz0 hz1 hz2 rfl (by decide) _ _ _ rfl (unhide O3) ⟨w1.heap.size, 0, none⟩ 4 4 (cells a1 4) rfl (cells_len _ _) (unhide N2 _ (unhide G3)) (cells_one _ _) (by decide) (by decide) (by have := (unhide G3).size; simp at this; omega) ?_; intro v4 w4 own4 grow4 _; have O4 := hide own4; have G4 := hide grow4; clear own4 grow4) | fail)
  have own4 : w4.ownsRow w.heap.size 5 1 v4 8 (cells a0 4 ++ cells a1 4) := unhide O4
  have bel4 : Below w.heap.size w w4 := (((unhide BEL).alloc hsz _).grown (unhide G3) (by simp; omega) (fun k hk => by cases hk; exact hsz)).grown (unhide G4) (by have := (unhide G3).size; simp at this; omega) (fun k hk => ((unhide O3).lt k hk).1)
  obtain ⟨g, cap, rfl, hc⟩ := own_shape 8 (by omega) own4
  have hcc : ∀ k, k < 8 → w4.cell? ⟨g, 0 + k, none⟩ = some (.int .u8 (two a0 a1 k)) := fun k hk => by rw [Nat.zero_add, hc k hk]; exact two_at a0 a1 k hk
  have hbb := two_bd a0 a1
  have e1 := hide (two_lo a0 a1 x1 x2)
  have e2 := hide (two_hi a0 a1 y1 y2)
  have e3 := hide (two_all a0 a1 x1 x2 y1 y2)
  have HC := hide hcc
  have HB := hide hbb
  have BE := hide bel4
  clear hcc hbb own4 bel4 hc O4 O3 G3 G4 OE N1 N2 BEL hi hz0 hz1 hz2
  refine (get9_yes g 0 8 cap (two a0 a1) 0 4 w4 (by decide) (unhide HC) (unhide HB) (by omega) (by omega) (by omega)).mono ?_
  rintro e w5 ⟨rfl, rfl⟩
  rw [unhide e1]
  go_wp2_with fail
  refine (get9_yes g 0 8 cap (two a0 a1) 4 4 _ (by decide) (unhide HC) (unhide HB) (by omega) (by omega) (by omega)).mono ?_
  rintro e w6 ⟨rfl, rfl⟩
  rw [unhide e2]
  go_wp2_with fail
  refine (get9_yes g 0 8 cap (two a0 a1) 0 8 _ (by decide) (unhide HC) (unhide HB) (by omega) (by omega) (by omega)).mono ?_
  rintro e w7 ⟨rfl, rfl⟩
  rw [unhide e3]
  go_wp2_with fail
  refine (ans8 _).mono ?_
  rintro e w8 ⟨rfl, rfl⟩
  have q1 : a0 + a1 * 4294967296 ≤ 18446744073709551615 := by omega
  go_wp2
  all_goals go_ret
  all_goals exact ⟨rfl, (unhide BE).alloc (unhide BE).size _⟩

/-! ### THE ROW's STEP: WRITTEN OUT: LEAVE IT -/
set_option maxRecDepth 100000 in
theorem lifted (os : Os) (started : os.Started) (H : Type) (enc : TypeId × Value → H) :
    ReturnsInHanded {} Try.checked os 7 .any (Rows.leJoinsSpec.pre6 enc Try.prog Try.f7 Rows.leJoinsRow.domain false) (Rows.leJoinsSpec.post enc Try.prog Try.f7 false true false false) := by
  refine returnsInHanded_of_change (C := Try.checked) own started (by kernel_rfl) Try.func7
    (ChangeSpec.witness6 (enc := enc) (C := Try.checked) false ⟨#[], #[.int .u32 0, .int .u32 0], []⟩ 8 (by kernel_rfl) (by kernel_rfl) (by kernel_rfl) (by kernel_rfl)) ?_
  intro W base args ds gs before hval0 hW hcnd _
  have hval : ∀ (j : Nat) t v, Try.f7.params[j]? = some t → args[j]? = some v → Value.okWide Try.prog W .any base t v := hval0
  have hW' := hW
  obtain ⟨p, q, hA0, hV, rfl, hfz, hnd⟩ := hW
  have hA : DataW.TrodAll enc Try.prog W 0 (fun _ => true) true Try.f7.params.toList args.toList ds p := hA0
  rw [Try.params7] at hA hval
  obtain ⟨v0, vs0, d0, ds0, p0, q0, hargs, rfl, rfl, h0, r0⟩ := trodAll_cons hA
  obtain ⟨v1, vs1, d1, ds1, p1, q1, rfl, rfl, rfl, h1, r1⟩ := trodAll_cons r0
  obtain ⟨rfl, rfl, rfl⟩ := trodAll_nil r1
  obtain rfl : args = #[v0, v1] := by cases args; simp_all
  obtain ⟨rfl, rfl⟩ := trodVars_none hV
  obtain ⟨a0, rfl, rfl, rfl, w0⟩ := open_int Try.underlying35 (hval 0 35 v0 rfl rfl) h0
  obtain ⟨a1, rfl, rfl, rfl, w1⟩ := open_int Try.underlying35 (hval 1 35 v1 rfl rfl) h1
  clear hA0 hval0
  refine (walk a0 a1 w0 w1 W).mono fun e W' ⟨he, bel⟩ => ?_
  subst he
  exact ⟨_, rfl, _, _, _, [], _, [], hW', trodAll_mk1 (shut_bool Try.underlying4 _), (trodAll_cons_mk (shut_int Try.underlying35 w0) (trodAll_cons_mk (shut_int Try.underlying35 w1) trodAll_mk0)), rfl, bel.frame _, fun h => by cases h⟩

theorem over : Rows.leJoinsRow.holds Try.pinned (OpenSpec.ofChange Rows.leJoinsSpec) :=
  OpenClaim.holds_of_wide 7 Try.f7 rfl rfl rfl rfl rfl rfl rfl ⟨rfl, rfl, rfl, rfl, rfl⟩ rfl rfl rfl rfl rfl (by kernel_rfl) Try.func7 (by kernel_rfl)
    (of_decide_eq_true (by kernel_rfl)) (by unfold Func.isWrapper; first | (rw [if_pos (by decide +kernel)]; kernel_rfl) | (rw [if_neg (by decide +kernel)]; exact ⟨rfl, rfl⟩))
    (fun os started H enc _ => lifted os started H enc)

/-- ████ THE STATEMENT ████ -/
theorem proved : Rows.LeJoinsSaid :=
  over
#print axioms proved
end Go.Proofs.Ytenhoipnenmeaaa.leJoins
