/-
  What is proved: complete lengths of which one code is split in two are complete, and of which one is left out they are not (marquetrylaw04.CodeSplits answers true for every input).
  Conditions: none.
-/
import Derived.Test.YthelcnidkehlhaaRows
import Derived.Test.YthelcnidkehlhaaSpl
import Derived.WalkKit
import Derived.ProofKit
import Derived.OpenShut
import Derived.ShutString
import Derived.ChangeOld
import Derived.Below
namespace Go.Proofs.Ythelcnidkehlhaa.codeSplits
open Go.ChangeShapes Go.WideShapes Go.ChangeAt Go.RowKit
open Go.Proofs.Ythelcnidkehlhaa.Gnd Go.Proofs.Ythelcnidkehlhaa.Math Go.Proofs.Ythelcnidkehlhaa.Each Go.Proofs.Ythelcnidkehlhaa.One Go.Proofs.Ythelcnidkehlhaa.Chk Go.Proofs.Ythelcnidkehlhaa.Fst Go.Proofs.Ythelcnidkehlhaa.Cod Go.Proofs.Ythelcnidkehlhaa.Ref Go.Proofs.Ythelcnidkehlhaa.Ans Go.Proofs.Ythelcnidkehlhaa.Cnt Go.Proofs.Ythelcnidkehlhaa.Spl
open Go.ChangeMaps (open_string shut_string)
set_option linter.unusedVariables false

theorem own : ownKnob Try.prog.godebug = none := by kernel_rfl
theorem laidOut : laidOutB Try.prog = true := by kernel_rfl

/-- WHAT THE WALK IS TOLD OF A SLICE OF INTEGERS THAT CAME IN: it is nil; or it leads to a row of 'cap' cells, the numbers 'zs' (the first 'len' are its elements, the rest its spare room), each fitting its kind. -/
def IsRow (k : IntKind) (w : World) (a : Option Addr) (len cap : Nat) (zs : List Int) : Prop :=
  (a = none ∧ len = 0 ∧ cap = 0 ∧ zs = []) ∨
  ∃ x, a = some x ∧ len ≤ cap ∧ cap ≤ maxLen ∧ zs.length = cap ∧ (∀ i, i < zs.length → w.cell? (x.add i) = some (.int k (zs.getD i 0))) ∧ ∀ n ∈ zs, (Lit.int k n).wf = true


set_option maxRecDepth 20000 in
set_option maxHeartbeats 1000000 in
theorem walk (a0 : Option Addr) (len0 cap0 : Nat) (z0 : List Int) (a1 : Int) (a2 : Int) (w : World) (w0 : IsRow .i64 w a0 len0 cap0 z0) (w1 : (Lit.int .u16 a1).wf = true) (w2 : (Lit.int .u16 a2).wf = true) :
    Calls Try.prog 5 #[.slice a0 len0 cap0, .int .u16 a1, .int .u16 a2] w fun e w' => e = .returned (.bool true) ∧ Below w.heap.size w w' := by
---
  obtain ⟨src, _⟩ := ints_of_row w0
  generalize (fun k => z0.getD k 0) = c at src
  have SRC := hide src
  obtain ⟨a, cap, e0, _⟩ := src
  cases e0
  clear w0
  have ba := bounds_u16 w1
  have bb := bounds_u16 w2
  obtain ⟨n1, rfl⟩ : ∃ n1 : Nat, a1 = n1 := ⟨a1.toNat, by omega⟩
  obtain ⟨n2, rfl⟩ : ∃ n2 : Nat, a2 = n2 := ⟨a2.toNat, by omega⟩
  clear w1 w2
  by_cases hl0 : len0 = 0
  · go_enter Try.func5, Try.ntmps5
    go_wp2_with (go_at_call 7; refine (answers7 _).mono ?_; rintro e w1 ⟨rfl, bel⟩; have BEL := hide bel; clear bel)
    go_ret
    exact ⟨rfl, unhide BEL⟩
  · have hp0 : (((len0 : Nat) : Int) == 0) = false := beq_eq_false_iff_ne.2 (by omega)
    by_cases hl : 300 < len0
    · have hl' : (300 : Int) < (len0 : Int) := by omega
      go_enter Try.func5, Try.ntmps5
      go_wp2_with (go_at_call 7; refine (answers7 _).mono ?_; rintro e w1 ⟨rfl, bel⟩; have BEL := hide bel; clear bel)
      go_ret
      exact ⟨rfl, unhide BEL⟩
    · have hl' : decide ((300 : Int) < (len0 : Int)) = false := decide_eq_false (by omega)
      by_cases hz : chk c len0 = 0
      · obtain ⟨hg, _, hkr⟩ := chk_zero hz
        have HG := hide hg
        have HZ := hide hz
        clear hg hkr
        go_enter Try.func5, Try.ntmps5
        go_wp2_with fail
        refine (rcheck12 _ len0 c (by omega) _ (unhide SRC)).mono ?_
        rw [hz]
        rintro e w1 ⟨rfl, rfl⟩
        clear hz
        go_wp2_with fail
        refine (one8 _ len0 c (by omega) _ (unhide SRC)).mono ?_
        rintro e w2 ⟨rfl, b2⟩
        generalize (if many c len0 = 1 then (sel c len0 : Int) else 0) = s1
        generalize hone : decide (many c len0 = 1) = one
        have ONE := hide hone
        clear hone
        have B2 := hide b2
        clear b2
        go_wp2_with fail
        go_quiet (fail)
        have B3 := hide (show Below w1.heap.size w1 (w2.drewN nq) from below_drewN (unhide B2) nq)
        clear B2
        generalize w2.drewN nq = w3 at *
        obtain ⟨i, hi⟩ : ∃ i, i = n1 % len0 := ⟨_, rfl⟩
        obtain ⟨k, hk⟩ : ∃ k, k = n2 % len0 := ⟨_, rfl⟩
        have ei : (n1 : Int) % (len0 : Int) = (i : Int) := by rw [hi]; omega
        have ek : (n2 : Int) % (len0 : Int) = (k : Int) := by rw [hk]; omega
        rw [ei, ek]
        have li : i < len0 := by rw [hi]; exact Nat.mod_lt _ (by omega)
        have lk : k < len0 := by rw [hk]; exact Nat.mod_lt _ (by omega)
        clear ei ek hi hk ba bb
        obtain ⟨_, _, e1, hc1⟩ := (unhide SRC).keep (unhide B3)
        cases e1
        obtain ⟨b, off, rfl, cell1⟩ := hc1 i li
        obtain ⟨_, _, e1, cell2⟩ := hc1 k lk
        cases e1
        have gi := unhide HG i li
        obtain ⟨m, hcm⟩ : ∃ m : Nat, c i = (m : Int) := ⟨(c i).toNat, by omega⟩
        have HCM := hide hcm
        rw [hcm] at cell1 gi
        have li' : (i : Int) < (len0 : Int) := by omega
        have lk' : (k : Int) < (len0 : Int) := by omega
        clear hc1 hcm
        cases one with
        | true =>
          go_wp2_with (go_at_call 7; refine (answers7 _).mono ?_; rintro e w5 ⟨rfl, b6⟩; have B6 := hide b6; clear b6)
          go_ret
          exact ⟨rfl, (unhide B3).trans ((unhide B6).mono (unhide B3).size)⟩
        | false =>
          by_cases hm0 : m = 0
          · subst hm0
            go_wp2_with (go_at_call 7; refine (answers7 _).mono ?_; rintro e w5 ⟨rfl, b6⟩; have B6 := hide b6; clear b6)
            go_ret
            exact ⟨rfl, (unhide B3).trans ((unhide B6).mono (unhide B3).size)⟩
          · have d0 : ((m : Int) == 0) = false := beq_eq_false_iff_ne.2 (by omega)
            by_cases hm14 : 14 < m
            · have d1 : decide ((14 : Int) < (m : Int)) = true := decide_eq_true (by omega)
              go_wp2_with (go_at_call 7; refine (answers7 _).mono ?_; rintro e w5 ⟨rfl, b6⟩; have B6 := hide b6; clear b6)
              go_ret
              exact ⟨rfl, (unhide B3).trans ((unhide B6).mono (unhide B3).size)⟩
            · have d1 : decide ((14 : Int) < (m : Int)) = false := decide_eq_false (by omega)
              by_cases hck : c k = 0
              · have hik : ¬ i = k := fun e => by
                  have := unhide HCM
                  rw [e, hck] at this
                  omega
                have hki : ¬ k = i := fun e => hik e.symm
                rw [hck] at cell2
                have d2 : ((0 : Int) != 0) = false := by decide
                have SPL := hide (chk_split (unhide HZ) (of_decide_eq_false (unhide ONE)) li lk m (unhide HCM) hm0 (by omega) hck)
                have LES := hide (chk_less (i := i) (unhide HZ) (of_decide_eq_false (unhide ONE)) li (by rw [unhide HCM]; omega))
                have HCK := hide hck
                have SF : Hid (∀ w', Below w1.heap.size w1 w' → ∀ q, q < len0 → w'.cell? ((⟨b, off, none⟩ : Addr).add q) = some (.int .i64 (c q))) := fun w' h q hq => by
                  obtain ⟨_, _, e1, hc⟩ := (unhide SRC).keep h
                  cases e1
                  obtain ⟨_, _, e1, h2⟩ := hc q hq
                  cases e1
                  rw [add_plain]
                  exact h2
                have sz3 := (unhide B3).size
                clear hck SRC
                go_wp2_with (first | (at_builtin; refine app_copy rfl (.tmp 67) (.tmp 68) rfl w1.heap.size _ rfl (empty_own _ _ sz3) ⟨b, off, none⟩ len0 cap0 c rfl (unhide SF _ ((unhide B3).alloc sz3 _)) (by omega) (by simp; omega) ?_; intro v4 w4 own4 grow4; have bel4 : Below w1.heap.size w1 w4 := ((unhide B3).alloc sz3 _).grown grow4 (by simp; omega) (fun j hj => by cases hj; exact sz3); obtain ⟨g, cap4, rfl, hcg, hgb, hgl⟩ := own_pos own4 (by omega); have x1 := (hcg i li).1; have x2 := (hcg i li).2; have x3 := (hcg k lk).1; have x4 := (hcg k lk).2; rw [unhide HCM] at x1; rw [unhide HCK] at x3; have OWN5 := hide (own_set (k := k) (own_set (k := i) own4 ((m : Int) + 1)) ((m : Int) + 1)); have B5 := hide ((bel4.setCell (p := ⟨g, i, none⟩) hgb (.int .i64 ((m : Int) + 1))).setCell (p := ⟨g, k, none⟩) hgb (.int .i64 ((m : Int) + 1))); have sz4 := bel4.size; clear hcg own4 bel4 grow4) | (at_builtin; refine app_copy rfl (.tmp 83) (.tmp 84) rfl w4.heap.size _ rfl (empty_at _ _ w4.heap.size (by simp) (Nat.le_refl _)) ⟨b, off, none⟩ len0 cap0 c rfl (unhide SF _ ((unhide B5).alloc (by simp; omega) _)) (by omega) (by simp) ?_; intro v6 w6 own6 grow6; have bel6 : Below w1.heap.size w1 w6 := ((unhide B5).alloc (by simp; omega) _).grown grow6 (by simp; omega) (fun j hj => by cases hj; exact sz4); have own5 := ((unhide OWN5).alloc (.cells #[] 3)).kept grow6 (Or.inr (fun e => Nat.ne_of_lt hgl (Option.some.inj e))); obtain ⟨g2, cap6, rfl, hcg2, hgb2, hgl2⟩ := own_pos own6 (by omega); have y1 := (hcg2 i li).1; have y2 := (hcg2 i li).2; rw [unhide HCM] at y1; have IM := hide (own_ints (ownsRow_setCell_other own5 (a := ⟨g2, i, none⟩) (fun e => Nat.ne_of_lt (Nat.lt_of_lt_of_le hgl hgb2) (Option.some.inj e)) (.int .i64 0))); have IN := hide (own_ints (own_set (k := i) own6 0)); have B7 := hide (bel6.setCell (p := ⟨g2, i, none⟩) (Nat.le_trans sz4 hgb2) (.int .i64 0)); clear hcg2 own5 own6 bel6 grow6 x1 x2 x3 x4) | fail)
                refine (one8 _ len0 (upd c i 0) (by omega) _ (unhide IN)).mono ?_
                rintro e w8 ⟨rfl, b8⟩
                generalize (if many (upd c i 0) len0 = 1 then (sel (upd c i 0) len0 : Int) else 0) = s2
                generalize hleft : decide (many (upd c i 0) len0 = 1) = left
                have LEFT := hide hleft
                have B8 := hide ((unhide B7).trans (b8.mono (unhide B7).size))
                have IM8 := hide ((unhide IM).keep b8)
                have IN8 := hide ((unhide IN).keep b8)
                clear hleft b8 IM IN B7 y1 y2
                go_wp2_with fail
                refine (answers7 _).mono ?_
                rintro e w9 ⟨rfl, b9⟩
                have B9 := hide ((unhide B8).trans (b9.mono (unhide B8).size))
                have IM9 := hide ((unhide IM8).keep b9)
                have IN9 := hide ((unhide IN8).keep b9)
                clear b9 IM8 IN8 B8
                go_wp2_with fail
                refine (check11 _ len0 _ (by omega) _ (unhide IM9)).mono ?_
                rw [unhide SPL]
                rintro e w10 ⟨rfl, b10⟩
                have B10 := hide ((unhide B9).trans (b10.mono (unhide B9).size))
                have IN10 := hide ((unhide IN9).keep b10)
                clear b10 IM9 IN9 B9
                cases left with
                | true =>
                  go_wp2
                  go_ret
                  exact ⟨rfl, unhide B10⟩
                | false =>
                  go_wp2_with fail
                  refine (check11 _ len0 _ (by omega) _ (unhide IN10)).mono ?_
                  rw [unhide LES (of_decide_eq_false (unhide LEFT))]
                  rintro e w11 ⟨rfl, b11⟩
                  have B11 := hide ((unhide B10).trans (b11.mono (unhide B10).size))
                  clear b11
                  go_wp2
                  go_ret
                  exact ⟨rfl, unhide B11⟩
              · have d2 : (c k != 0) = true := bne_iff_ne.2 hck
                go_wp2_with (go_at_call 7; refine (answers7 _).mono ?_; rintro e w5 ⟨rfl, b6⟩; have B6 := hide b6; clear b6)
                go_ret
                exact ⟨rfl, (unhide B3).trans ((unhide B6).mono (unhide B3).size)⟩
      · have hz' : (chk c len0 != 0) = true := bne_iff_ne.2 hz
        go_enter Try.func5, Try.ntmps5
        go_wp2_with (first | (go_at_call 12; refine (rcheck12 _ len0 c (by omega) _ (unhide SRC)).mono ?_; rintro e w1 ⟨rfl, rfl⟩) | (go_at_call 7; refine (answers7 _).mono ?_; rintro e w2 ⟨rfl, bel⟩; have BEL := hide bel; clear bel))
        go_ret
        exact ⟨rfl, unhide BEL⟩

/-! ### THE ROW's STEP: WRITTEN OUT: LEAVE IT -/
set_option maxRecDepth 100000 in
theorem lifted (os : Os) (started : os.Started) (H : Type) (enc : TypeId × Value → H) :
    ReturnsInHanded {} Try.checked os 5 .any (Rows.codeSplitsSpec.pre6 enc Try.prog Try.f5 Rows.codeSplitsRow.domain false) (Rows.codeSplitsSpec.post enc Try.prog Try.f5 false true false false) := by
  refine returnsInHanded_of_change (C := Try.checked) own started (by kernel_rfl) Try.func5
    (ChangeSpec.witness6 (enc := enc) (C := Try.checked) false ⟨#[], #[.slice none 0 0, .int .u16 0, .int .u16 0], []⟩ 8 (by kernel_rfl) (by kernel_rfl) (by kernel_rfl) (by kernel_rfl)) ?_
  intro W base args ds gs before hval0 hW hcnd _
  have hval : ∀ (j : Nat) t v, Try.f5.params[j]? = some t → args[j]? = some v → Value.okWide Try.prog W .any base t v := hval0
  have hW' := hW
  obtain ⟨p, q, hA0, hV, rfl, hfz, hnd⟩ := hW
  have hA : DataW.TrodAll enc Try.prog W 0 (fun _ => true) true Try.f5.params.toList args.toList ds p := hA0
  rw [Try.params5] at hA hval
  obtain ⟨v0, vs0, d0, ds0, p0, q0, hargs, rfl, rfl, h0, r0⟩ := trodAll_cons hA
  obtain ⟨v1, vs1, d1, ds1, p1, q1, rfl, rfl, rfl, h1, r1⟩ := trodAll_cons r0
  obtain ⟨v2, vs2, d2, ds2, p2, q2, rfl, rfl, rfl, h2, r2⟩ := trodAll_cons r1
  obtain ⟨rfl, rfl, rfl⟩ := trodAll_nil r2
  obtain rfl : args = #[v0, v1, v2] := by cases args; simp_all
  obtain ⟨rfl, rfl⟩ := trodVars_none hV
  obtain ⟨a0, len0, cap0, rfl⟩ := okWide_slice Try.underlying22 (hval 0 22 v0 rfl rfl)
  have k0 := h0
  have lt0 : ∀ x ∈ p0, x.block < W.heap.size := by obtain ⟨m, hm⟩ := k0; exact DataW.trod_lt m _ _ _ hm
  obtain ⟨z0, w0⟩ : ∃ zs, IsRow .i64 W a0 len0 cap0 zs := by
    obtain ⟨fuel, hf⟩ := h0
    rcases open_ints Try.underlying22 Try.underlying3 (by kernel_rfl) hf with ⟨hcs, _⟩ | ⟨x, l, c, zs, hcs, _, hl, hm, hz, _, hcell, hwz⟩
    · simp [Value.cells] at hcs
      obtain ⟨rfl, rfl, rfl⟩ := hcs
      exact ⟨[], .inl ⟨rfl, rfl, rfl, rfl⟩⟩
    · simp [Value.cells] at hcs
      obtain ⟨rfl, rfl, rfl⟩ := hcs
      exact ⟨zs, .inr ⟨_, rfl, hl, hm, by simpa using hz, hcell, hwz⟩⟩
  obtain ⟨a1, rfl, rfl, rfl, w1⟩ := open_int Try.underlying33 (hval 1 33 v1 rfl rfl) h1
  obtain ⟨a2, rfl, rfl, rfl, w2⟩ := open_int Try.underlying33 (hval 2 33 v2 rfl rfl) h2
  clear hA0 hval0
  refine (walk a0 len0 cap0 z0 a1 a2 W w0 w1 w2).mono fun e W' ⟨he, bel⟩ => ?_
  subst he
  exact ⟨_, rfl, _, _, _, [], _, [], hW', trodAll_mk1 (shut_bool Try.underlying4 _), (trodAll_cons_mk (Below.trod laidOut (by kernel_rfl) (of_decide_eq_true (by kernel_rfl)) k0 bel lt0) (trodAll_cons_mk (shut_int Try.underlying33 w1) (trodAll_cons_mk (shut_int Try.underlying33 w2) trodAll_mk0))), rfl, bel.frame _, fun h => by cases h⟩

theorem over : Rows.codeSplitsRow.holds Try.pinned (OpenSpec.ofChange Rows.codeSplitsSpec) :=
  OpenClaim.holds_of_wide 5 Try.f5 rfl rfl rfl rfl rfl rfl rfl ⟨rfl, rfl, rfl, rfl, rfl⟩ rfl rfl rfl rfl rfl (by kernel_rfl) Try.func5 (by kernel_rfl)
    (of_decide_eq_true (by kernel_rfl)) (by unfold Func.isWrapper; first | (rw [if_pos (by decide +kernel)]; kernel_rfl) | (rw [if_neg (by decide +kernel)]; exact ⟨rfl, rfl⟩))
    (fun os started H enc _ => lifted os started H enc)

/-- ████ THE STATEMENT ████ -/
theorem proved : Rows.CodeSplitsSaid := over
#print axioms proved
end Go.Proofs.Ythelcnidkehlhaa.codeSplits
