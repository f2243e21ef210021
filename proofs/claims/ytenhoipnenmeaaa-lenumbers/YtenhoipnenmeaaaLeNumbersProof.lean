/-
  What is proved: for every input the Go function LeNumbers of the statements of layer 1 returns true, and its arguments read as before (the number of any bytes at any place, and the bytes of any number).
  Conditions: none.
-/
import Derived.Test.YtenhoipnenmeaaaRows
import Derived.Test.YtenhoipnenmeaaaAns
import Derived.Test.YtenhoipnenmeaaaSame
import Derived.WalkKit
import Derived.ProofKit
import Derived.OpenShut
import Derived.ShutString
import Derived.ChangeOld
import Derived.Below
namespace Go.Proofs.Ytenhoipnenmeaaa.leNumbers
open Go.ChangeShapes Go.WideShapes Go.ChangeAt Go.RowKit
open Go.Proofs.Ytenhoipnenmeaaa.Prod Go.Proofs.Ytenhoipnenmeaaa.Blk Go.Proofs.Ytenhoipnenmeaaa.Get Go.Proofs.Ytenhoipnenmeaaa.Ans Go.Proofs.Ytenhoipnenmeaaa.Put Go.Proofs.Ytenhoipnenmeaaa.Same
open Go.ChangeMaps (open_string shut_string)
set_option linter.unusedVariables false

theorem own : ownKnob Try.prog.godebug = none := by kernel_rfl
theorem laidOut : laidOutB Try.prog = true := by kernel_rfl

/-- WHAT THE WALK IS TOLD OF A SLICE OF INTEGERS THAT CAME IN: it is nil; or it leads to a row of 'cap' cells, the numbers 'zs' (the first 'len' are its elements, the rest its spare room), each fitting its kind. -/
def IsRow (k : IntKind) (w : World) (a : Option Addr) (len cap : Nat) (zs : List Int) : Prop :=
  (a = none ∧ len = 0 ∧ cap = 0 ∧ zs = []) ∨
  ∃ x, a = some x ∧ len ≤ cap ∧ cap ≤ maxLen ∧ zs.length = cap ∧ (∀ i, i < zs.length → w.cell? (x.add i) = some (.int k (zs.getD i 0))) ∧ ∀ n ∈ zs, (Lit.int k n).wf = true

theorem own_shape {w : World} {base : Nat} {v : Value} {xs : List Value} (n : Nat) (hn : 0 < n) (h : w.ownsRow base 5 1 v n xs) :
    ∃ g cap, v = .slice (some ⟨g, 0, none⟩) n cap ∧ g < w.heap.size ∧ ∀ k, k < n → w.cell? ⟨g, k, none⟩ = xs[k]? := by
  have hlt := h.lt
  rcases h.2 with ⟨_, h0⟩ | ⟨g, cap, cur, rfl, _⟩
  · omega
  · exact ⟨g, cap, rfl, (hlt g rfl).2, fun k hk => h.cellAt k (by omega)⟩
theorem get_both (a : Option Addr) (len cap : Nat) (z : List Int) (p n : Int) (w : World) (h : IsRow .u8 w a len cap z)
    (p0 : -9223372036854775808 ≤ p) (p1 : p ≤ 9223372036854775807) (n0 : -9223372036854775808 ≤ n) (n1 : n ≤ 9223372036854775807) :
    ∃ (X : Int) (K : Bool), (Calls Try.prog 9 #[.slice a len cap, .int .i64 p, .int .i64 n] w fun e w' => e = .returned (.tuple #[.int .u64 X, .bool K]) ∧ w' = w) ∧
      (Calls Try.prog 10 #[.slice a len cap, .int .i64 p, .int .i64 n] w fun e w' => e = .returned (.tuple #[.int .u64 X, .bool K]) ∧ w' = w) := by
  have hm : len ≤ maxLen := by
    rcases h with ⟨_, rfl, _⟩ | ⟨x, _, h1, h2, _⟩
    · exact Nat.zero_le _
    · omega
  by_cases hb : n < 1 ∨ 8 < n ∨ p < 0 ∨ len < p + n
  · exact ⟨0, false, get9_no a len cap p n w hm p1 ⟨n0, n1⟩ hb, get10_no a len cap p n w hm p1 ⟨n0, n1⟩ hb⟩
  · obtain ⟨n, rfl⟩ := Int.eq_ofNat_of_zero_le (show 0 ≤ n by omega)
    obtain ⟨p, rfl⟩ := Int.eq_ofNat_of_zero_le (show 0 ≤ p by omega)
    rcases h with ⟨_, rfl, _⟩ | ⟨x, rfl, h1, _, hz, hc, hwf⟩
    · omega
    · obtain ⟨b, off, rfl, hc'⟩ := ints_at hc (by omega)
      have hbd : ∀ k, 0 ≤ z.getD k 0 ∧ z.getD k 0 ≤ 255 := fun k => by
        by_cases hk : k < z.length
        · have hx : z.getD k 0 ∈ z := by
            rw [List.getD_eq_getElem?_getD, List.getElem?_eq_getElem hk]; exact List.getElem_mem hk
          exact bounds_u8 (hwf _ hx)
        · rw [List.getD_eq_getElem?_getD, List.getElem?_eq_none (by omega)]; simp
      exact ⟨_, true, get9_yes b off len cap (fun k => z.getD k 0) p n w hm (fun k hk => hc' k (by omega)) hbd (by omega) (by omega) (by omega),
        get10_yes b off len cap (fun k => z.getD k 0) p n w hm (fun k hk => hc' k (by omega)) hbd (by omega) (by omega) (by omega)⟩

set_option maxHeartbeats 1000000 in
/-! ### STEP 1: THE WALK: the Go text returns true, AND WRITES NOTHING THAT WAS THERE: 'Below w.heap.size w w'' (Derived/Below.lean: '.refl', '.alloc', '.drew', '.setCell' at a new block, '.trans'). Open each 'IsRow' by 'rcases' AHEAD of 'go_enter'; part every test ahead of the walk. -/
theorem walk (a0 : Option Addr) (len0 cap0 : Nat) (z0 : List Int) (a1 : Int) (a2 : Int) (a3 : Int) (w : World) (w0 : IsRow .u8 w a0 len0 cap0 z0) (w1 : (Lit.int .i64 a1).wf = true) (w2 : (Lit.int .i64 a2).wf = true) (w3 : (Lit.int .u64 a3).wf = true) :
    Calls Try.prog 3 #[.slice a0 len0 cap0, .int .i64 a1, .int .i64 a2, .int .u64 a3] w fun e w' => e = .returned (.bool true) ∧ Below w.heap.size w w' := by
  have b1 := bounds_i64 w1
  have b2 := bounds_i64 w2
  have b3 := bounds_u64 w3
  clear w1 w2 w3
  by_cases hbig : 3000 < len0
  · have hbig' : (3000 : Int) < (len0 : Int) := by omega
    clear w0
    go_enter Try.func3, Try.ntmps3
    go_wp2_with (go_at_call 8; refine (ans8 _).mono ?_; rintro e w1 ⟨rfl, rfl⟩)
    go_ret
    exact ⟨rfl, (Below.refl _ _).alloc (Nat.le_refl _) _⟩
  · have hlen : (len0 : Int) ≤ 3000 := by omega
    obtain ⟨X, K, G9, G10⟩ := get_both a0 len0 cap0 z0 a1 a2 w w0 b1.1 b1.2 b2.1 b2.2
    have H9 := hide G9
    have H10 := hide G10
    clear G9 G10 w0 hbig
    by_cases hn : 1 ≤ a2 ∧ a2 ≤ 8
    · obtain ⟨n, rfl⟩ := Int.eq_ofNat_of_zero_le (show 0 ≤ a2 by omega)
      have n1 : 1 ≤ n := by omega
      have n2 : n ≤ 8 := by omega
      clear hn
      go_enter Try.func3, Try.ntmps3
      go_wp2_with fail
      refine (unhide H9).mono ?_
      rintro e w1 ⟨rfl, rfl⟩
      go_wp2_with fail
      refine (unhide H10).mono ?_
      rintro e w2 ⟨rfl, rfl⟩
      clear H9 H10
      go_wp2_with fail
      refine (put11_yes a3 n _ n1 n2 b3.1 b3.2).mono ?_
      rintro e w3 ⟨h, own3, bel3⟩
      rcases h with ⟨hv, rfl⟩ | ⟨hv, rfl⟩
      · have O3 := hide own3
        have B3 := hide bel3
        have HV := hide hv
        clear own3 bel3 hv
        go_wp2_with fail
        refine (put12_yes a3 n _ n1 n2 b3.1 b3.2).mono ?_
        rintro e w4 ⟨h, bel4⟩
        rcases h with ⟨_, s, rfl, own4⟩ | ⟨h, _⟩
        rotate_left
        · exact absurd h (by have := unhide HV; omega)
        obtain ⟨g, cap, rfl, hl, hc⟩ := own_shape n n1 own4
        have l3 := ((unhide O3).lt w2.heap.size rfl).2
        have c3 : ∀ k, k < n → w4.cell? ⟨w2.heap.size, k, none⟩ = some (.int .u8 (dig a3 k)) := fun k hk => (bel4.cell (p := ⟨w2.heap.size, k, none⟩) l3).trans (((unhide O3).cellAt k (by omega)).trans (cells_at a3 n k hk))
        have c4 : ∀ k, k < n → w4.cell? ⟨g, k, none⟩ = some (.int .u8 (dig a3 k)) := fun k hk => (hc k hk).trans (cells_at a3 n k hk)
        have bel : Below w2.heap.size w2 w4 := (unhide B3).trans (bel4.mono (unhide B3).size)
        have l4 : w2.heap.size < w4.heap.size := Nat.lt_of_lt_of_le l3 bel4.size
        have C3 := hide c3
        have C4 := hide c4
        have BEL := hide bel
        clear c3 c4 bel bel4 own4 hc O3 B3
        go_wp2_with fail
        refine (ans8 _).mono ?_
        rintro e w5 ⟨rfl, rfl⟩
        go_wp2_with fail
        refine (same13_yes w2.heap.size g n n cap (dig a3) (w4.alloc (.cells #[.int .u8 52, .int .u8 18] 5)) n2 (fun k hk => by rw [World.cell?_alloc_past _ _ _ l4]; exact unhide C3 k hk) (fun k hk => by rw [World.cell?_alloc_past _ _ _ hl]; exact unhide C4 k hk) (by simp; omega) (by simp; omega)).mono ?_
        rintro e w6 ⟨rfl, bel6⟩
        have l6 : w2.heap.size < (w4.alloc (.cells #[.int .u8 52, .int .u8 18] 5)).heap.size := by simp; omega
        have c6 : ∀ k, k < n → w6.cell? ⟨w2.heap.size, 0 + k, none⟩ = some (.int .u8 (dig a3 k)) := fun k hk => by
          rw [Nat.zero_add, bel6.cell (p := ⟨w2.heap.size, k, none⟩) l6, World.cell?_alloc_past _ _ _ l4]; exact unhide C3 k hk
        have bel7 : Below w2.heap.size w2 w6 := ((unhide BEL).alloc (by omega) _).trans (bel6.mono (by omega))
        have C6 := hide c6
        have B7 := hide bel7
        clear c6 bel7 bel6 C3 C4 BEL
        have E := hide (leN_back a3 n b3.1 (unhide HV))
        go_wp2_with fail
        refine (get9_yes w2.heap.size 0 n n (dig a3) 0 n _ (by unfold maxLen; omega) (unhide C6) (dig_bd a3) n1 n2 (by omega)).mono ?_
        rintro e w8 ⟨rfl, rfl⟩
        rw [unhide E]
        go_wp2
        go_ret
        exact ⟨rfl, unhide B7⟩
      · have B3 := hide bel3
        have HV := hide hv
        clear own3 bel3 hv
        go_wp2_with fail
        refine (put12_yes a3 n _ n1 n2 b3.1 b3.2).mono ?_
        rintro e w4 ⟨h, bel4⟩
        rcases h with ⟨h, _⟩ | ⟨_, rfl⟩
        · exact absurd h (by have := unhide HV; omega)
        have bel : Below w2.heap.size w2 w4 := (unhide B3).trans (bel4.mono (unhide B3).size)
        have BEL := hide bel
        clear bel bel4 B3 HV
        go_wp2_with fail
        refine (ans8 _).mono ?_
        rintro e w5 ⟨rfl, rfl⟩
        go_wp2_with fail
        refine (same13_nil _).mono ?_
        rintro e w6 ⟨rfl, rfl⟩
        go_wp2_with fail
        refine (get9_no none 0 0 0 n _ (by decide) (by omega) (by omega) (by omega)).mono ?_
        rintro e w8 ⟨rfl, rfl⟩
        go_wp2
        go_ret
        exact ⟨rfl, (unhide BEL).alloc (unhide BEL).size _⟩
    · have hn' : a2 < 1 ∨ 8 < a2 := by omega
      clear hn
      go_enter Try.func3, Try.ntmps3
      go_wp2_with fail
      refine (unhide H9).mono ?_
      rintro e w1 ⟨rfl, rfl⟩
      go_wp2_with fail
      refine (unhide H10).mono ?_
      rintro e w2 ⟨rfl, rfl⟩
      clear H9 H10
      go_wp2_with fail
      refine (put11_no _ _ _ hn').mono ?_
      rintro e w3 ⟨rfl, rfl⟩
      go_wp2_with fail
      refine (put12_no _ _ _ hn').mono ?_
      rintro e w4 ⟨rfl, rfl⟩
      go_wp2_with fail
      refine (ans8 _).mono ?_
      rintro e w5 ⟨rfl, rfl⟩
      go_wp2_with fail
      refine (same13_nil _).mono ?_
      rintro e w6 ⟨rfl, rfl⟩
      go_wp2_with fail
      refine (get9_no none 0 0 0 _ _ (by decide) (by omega) (by omega) (by omega)).mono ?_
      rintro e w8 ⟨rfl, rfl⟩
      go_wp2
      go_ret
      exact ⟨rfl, (Below.refl _ _).alloc (Nat.le_refl _) _⟩

/-! ### THE ROW's STEP: WRITTEN OUT: LEAVE IT -/
set_option maxRecDepth 100000 in
theorem lifted (os : Os) (started : os.Started) (H : Type) (enc : TypeId × Value → H) :
    ReturnsInHanded {} Try.checked os 3 .any (Rows.leNumbersSpec.pre6 enc Try.prog Try.f3 Rows.leNumbersRow.domain false) (Rows.leNumbersSpec.post enc Try.prog Try.f3 false true false false) := by
  refine returnsInHanded_of_change (C := Try.checked) own started (by kernel_rfl) Try.func3
    (ChangeSpec.witness6 (enc := enc) (C := Try.checked) false ⟨#[], #[.slice none 0 0, .int .i64 0, .int .i64 0, .int .u64 0], []⟩ 8 (by kernel_rfl) (by kernel_rfl) (by kernel_rfl) (by kernel_rfl)) ?_
  intro W base args ds gs before hval0 hW hcnd _
  have hval : ∀ (j : Nat) t v, Try.f3.params[j]? = some t → args[j]? = some v → Value.okWide Try.prog W .any base t v := hval0
  have hW' := hW
  obtain ⟨p, q, hA0, hV, rfl, hfz, hnd⟩ := hW
  have hA : DataW.TrodAll enc Try.prog W 0 (fun _ => true) true Try.f3.params.toList args.toList ds p := hA0
  rw [Try.params3] at hA hval
  obtain ⟨v0, vs0, d0, ds0, p0, q0, hargs, rfl, rfl, h0, r0⟩ := trodAll_cons hA
  obtain ⟨v1, vs1, d1, ds1, p1, q1, rfl, rfl, rfl, h1, r1⟩ := trodAll_cons r0
  obtain ⟨v2, vs2, d2, ds2, p2, q2, rfl, rfl, rfl, h2, r2⟩ := trodAll_cons r1
  obtain ⟨v3, vs3, d3, ds3, p3, q3, rfl, rfl, rfl, h3, r3⟩ := trodAll_cons r2
  obtain ⟨rfl, rfl, rfl⟩ := trodAll_nil r3
  obtain rfl : args = #[v0, v1, v2, v3] := by cases args; simp_all
  obtain ⟨rfl, rfl⟩ := trodVars_none hV
  obtain ⟨a0, len0, cap0, rfl⟩ := okWide_slice Try.underlying22 (hval 0 22 v0 rfl rfl)
  have k0 := h0
  have lt0 : ∀ x ∈ p0, x.block < W.heap.size := by obtain ⟨m, hm⟩ := k0; exact DataW.trod_lt m _ _ _ hm
  obtain ⟨z0, w0⟩ : ∃ zs, IsRow .u8 W a0 len0 cap0 zs := by
    obtain ⟨fuel, hf⟩ := h0
    rcases open_ints Try.underlying22 Try.underlying5 (by kernel_rfl) hf with ⟨hcs, _⟩ | ⟨x, l, c, zs, hcs, _, hl, hm, hz, _, hcell, hwz⟩
    · simp [Value.cells] at hcs
      obtain ⟨rfl, rfl, rfl⟩ := hcs
      exact ⟨[], .inl ⟨rfl, rfl, rfl, rfl⟩⟩
    · simp [Value.cells] at hcs
      obtain ⟨rfl, rfl, rfl⟩ := hcs
      exact ⟨zs, .inr ⟨_, rfl, hl, hm, by simpa using hz, hcell, hwz⟩⟩
  obtain ⟨a1, rfl, rfl, rfl, w1⟩ := open_int Try.underlying3 (hval 1 3 v1 rfl rfl) h1
  obtain ⟨a2, rfl, rfl, rfl, w2⟩ := open_int Try.underlying3 (hval 2 3 v2 rfl rfl) h2
  obtain ⟨a3, rfl, rfl, rfl, w3⟩ := open_int Try.underlying23 (hval 3 23 v3 rfl rfl) h3
  clear hA0 hval0
  refine (walk a0 len0 cap0 z0 a1 a2 a3 W w0 w1 w2 w3).mono fun e W' ⟨he, bel⟩ => ?_
  subst he
  exact ⟨_, rfl, _, _, _, [], _, [], hW', trodAll_mk1 (shut_bool Try.underlying4 _), (trodAll_cons_mk (Below.trod laidOut (by kernel_rfl) (of_decide_eq_true (by kernel_rfl)) k0 bel lt0) (trodAll_cons_mk (shut_int Try.underlying3 w1) (trodAll_cons_mk (shut_int Try.underlying3 w2) (trodAll_cons_mk (shut_int Try.underlying23 w3) trodAll_mk0)))), rfl, bel.frame _, fun h => by cases h⟩

theorem over : Rows.leNumbersRow.holds Try.pinned (OpenSpec.ofChange Rows.leNumbersSpec) :=
  OpenClaim.holds_of_wide 3 Try.f3 rfl rfl rfl rfl rfl rfl rfl ⟨rfl, rfl, rfl, rfl, rfl⟩ rfl rfl rfl rfl rfl (by kernel_rfl) Try.func3 (by kernel_rfl)
    (of_decide_eq_true (by kernel_rfl)) (by unfold Func.isWrapper; first | (rw [if_pos (by decide +kernel)]; kernel_rfl) | (rw [if_neg (by decide +kernel)]; exact ⟨rfl, rfl⟩))
    (fun os started H enc _ => lifted os started H enc)

/-- ████ THE STATEMENT ████ -/
theorem proved : Rows.LeNumbersSaid := over
#print axioms proved
end Go.Proofs.Ytenhoipnenmeaaa.leNumbers
