/-
  What is proved: for every number of bits, slice of colours and slice of integers the Go function CachePlays of the statements of layer 10 returns true, and its arguments read as before.
  Conditions: none.
-/
import Derived.Test.YtadikcjafjkhnaaRows
import Derived.Test.YtadikcjafjkhnaaCac
import Derived.Test.YtadikcjafjkhnaaIns
import Derived.WalkKit
import Derived.ProofKit
import Derived.OpenShut
import Derived.ShutString
import Derived.ChangeOld
import Derived.Below
namespace Go.Proofs.Ytadikcjafjkhnaa.cachePlays
open Go.ChangeShapes Go.WideShapes Go.ChangeAt Go.RowKit
open Go.Proofs.Ytadikcjafjkhnaa.Core Go.Proofs.Ytadikcjafjkhnaa.Num Go.Proofs.Ytadikcjafjkhnaa.Slo Go.Proofs.Ytadikcjafjkhnaa.Cac Go.Proofs.Ytadikcjafjkhnaa.Ins
open Go.ChangeMaps (open_string shut_string)
set_option linter.unusedVariables false

theorem own : ownKnob Try.prog.godebug = none := by kernel_rfl
theorem laidOut : laidOutB Try.prog = true := by kernel_rfl

/-- WHAT THE WALK IS TOLD OF A SLICE OF INTEGERS THAT CAME IN: it is nil; or it leads to a row of 'cap' cells, the numbers 'zs' (the first 'len' are its elements, the rest its spare room), each fitting its kind. -/
def IsRow (k : IntKind) (w : World) (a : Option Addr) (len cap : Nat) (zs : List Int) : Prop :=
  (a = none ∧ len = 0 ∧ cap = 0 ∧ zs = []) ∨
  ∃ x, a = some x ∧ len ≤ cap ∧ cap ≤ maxLen ∧ zs.length = cap ∧ (∀ i, i < zs.length → w.cell? (x.add i) = some (.int k (zs.getD i 0))) ∧ ∀ n ∈ zs, (Lit.int k n).wf = true

/-- The cache, and beside it the row of what is wanted of it. -/
structure Ply (w wr : World) (b n gw : Nat) (f : Nat → Nat) : Prop where
  ca : Ca wr (w.heap.size + 1) w.heap.size b n f
  box : Box wr gw 32 (row f n)
  off : w.heap.size + 1 < gw
  bel : Below w.heap.size w wr
theorem Ply.next {w wr : World} {b n gw : Nat} {f : Nat → Nat} (h : Ply w wr b n gw f) (k z : Nat) :
    Ply w ((wr.setCell ⟨w.heap.size, k, none⟩ (.int .u32 z)).setCell ⟨gw, k, none⟩ (.int .u32 z)) b n gw (upd f k z) := by
  obtain ⟨h1, h2, h3, h4⟩ := h
  have b2 := ((h2.other (p := ⟨w.heap.size, k, none⟩) (by show gw ≠ w.heap.size; omega) (.int .u32 z)).set k (.int .u32 z))
  rw [row_set] at b2
  exact ⟨(h1.set k z).other ⟨gw, k, none⟩ (by show w.heap.size + 1 ≠ gw; omega) (by show w.heap.size ≠ gw; omega) _, b2, h3,
    (h4.setCell (p := ⟨w.heap.size, k, none⟩) (Nat.le_refl _) _).setCell (p := ⟨gw, k, none⟩) (by show w.heap.size ≤ gw; omega) _⟩
theorem Ply.drewN {w wr : World} {b n gw : Nat} {f : Nat → Nat} (h : Ply w wr b n gw f) (m : Nat) : Ply w (wr.drewN m) b n gw f :=
  ⟨h.ca.drewN m, h.box.drewN m, h.off, ⟨h.bel.os, h.bel.tape, h.bel.output, h.bel.size, h.bel.block⟩⟩
theorem Ply.start {w w1 w2 : World} {b n : Nat} (C : Ca w1 (w.heap.size + 1) w.heap.size b n (fun _ => 0)) (sz : w1.heap.size = w.heap.size + 2) (bel : Below w.heap.size w w1) (bel2 : Below w1.heap.size w1 w2) :
    Ply w (w2.alloc (.cells (row (fun _ => 0) n) 32)) b n w2.heap.size (fun _ => 0) := by
  have s2 := bel2.size
  exact ⟨(C.keep bel2 (by omega) (by omega)).alloc _, Box.made _ _ _, by omega, (bel.trans (bel2.mono (by omega))).alloc (by omega) _⟩
/-- What lies where behind Add, ahead of the store into the wanted row. -/
theorem Ply.mid {w wr w3 : World} {b n gw B off len j k z m : Nat} {f : Nat → Nat} {c : Nat → Int} (h0 : Ply w wr b n gw f) (I : Ints .u32 w B off len c) (hj : j < len) (hk : k < n) (hw : w3 = (wr.drewN m).setCell ⟨w.heap.size, k, none⟩ (.int .u32 z)) :
    w3.cell? ⟨gw, k, none⟩ = some (.int .u32 (f k)) ∧ w3.frozen? ⟨gw, k, none⟩ = false ∧ w3.cell? ⟨B, off + j, none⟩ = some (.int .u32 (c j)) ∧ Ply w (w3.setCell ⟨gw, k, none⟩ (.int .u32 z)) b n gw (upd f k z) := by
  have h := h0.drewN m
  have hoff := h.off
  have bw := h.box.other (p := ⟨w.heap.size, k, none⟩) (by show gw ≠ w.heap.size; omega) (.int .u32 z)
  rw [hw]
  exact ⟨(bw.cell k).trans (row_at f n k hk), bw.free k, I.at (h.bel.setCell (p := ⟨w.heap.size, k, none⟩) (Nat.le_refl _) _) j hj, h.next k z⟩
set_option maxRecDepth 20000 in
set_option maxHeartbeats 1000000 in
theorem plays_no (a0 : Int) (v1 v2 : Value) (w : World) (h : a0 < 1 ∨ 11 < a0) :
    Calls Try.prog 3 #[.int .i64 a0, v1, v2] w fun e w' => e = .returned (.bool true) ∧ Below w.heap.size w w' := by
  have HH := hide h
  rcases h with h | h
  · go_enter Try.func3, Try.ntmps3
    go_wp2_with fail
    refine (new7_no _ _ (unhide HH)).mono ?_
    rintro e w' ⟨rfl, rfl⟩
    go_wp2_with fail
    refine (ans8 _).mono ?_
    rintro e w' ⟨rfl, bel⟩
    have BB := hide bel
    clear bel
    go_wp2
    go_ret
    exact ⟨rfl, unhide BB⟩
  · have h' : 1 ≤ a0 := by omega
    go_enter Try.func3, Try.ntmps3
    go_wp2_with fail
    refine (new7_no _ _ (unhide HH)).mono ?_
    rintro e w' ⟨rfl, rfl⟩
    go_wp2_with fail
    refine (ans8 _).mono ?_
    rintro e w' ⟨rfl, bel⟩
    have BB := hide bel
    clear bel
    go_wp2
    go_ret
    exact ⟨rfl, unhide BB⟩
set_option maxRecDepth 20000 in
set_option maxHeartbeats 1000000 in
theorem plays_much (b : Nat) (a : Option Addr) (len cap : Nat) (v2 : Value) (w : World) (h0 : 1 ≤ b) (h1 : b ≤ 11) (hl : 300 < len) :
    Calls Try.prog 3 #[.int .i64 b, .slice a len cap, v2] w fun e w' => e = .returned (.bool true) ∧ Below w.heap.size w w' := by
  have N := hide (new7 b w h0 h1)
  have h0' : 1 ≤ (b : Int) := by omega
  have h1' : (b : Int) ≤ 11 := by omega
  have hl' : (300 : Int) < len := by omega
  go_enter Try.func3, Try.ntmps3
  go_wp2_with fail
  refine (unhide N).mono ?_
  rintro e w1 ⟨rfl, sz, C, bel⟩
  have BB := hide bel
  clear bel C sz
  go_wp2_with fail
  refine (ans8 _).mono ?_
  rintro e w2 ⟨rfl, bel⟩
  have B2 := hide ((unhide BB).trans (bel.mono (unhide BB).size))
  clear bel
  go_wp2
  go_ret
  exact ⟨rfl, unhide B2⟩
theorem eq_no (x y : Nat) (h : x ≠ y) : ((x : Int) == (y : Int)) = false := by rw [beq_eq_false_iff_ne]; omega
set_option maxRecDepth 20000 in
set_option maxHeartbeats 1000000 in
theorem walk (a0 : Int) (a1 : Option Addr) (len1 cap1 : Nat) (z1 : List Int) (a2 : Option Addr) (len2 cap2 : Nat) (z2 : List Int) (w : World) (w0 : (Lit.int .i64 a0).wf = true) (w1 : IsRow .u32 w a1 len1 cap1 z1) (w2 : IsRow .i64 w a2 len2 cap2 z2) :
    Calls Try.prog 3 #[.int .i64 a0, .slice a1 len1 cap1, .slice a2 len2 cap2] w fun e w' => e = .returned (.bool true) ∧ Below w.heap.size w w' := by
  obtain ⟨S1, hz1⟩ := slc_of_row w1
  obtain ⟨S2, hz2⟩ := slc_of_row w2
  clear w1 w2
  by_cases hb : a0 < 1 ∨ 11 < a0
  · exact plays_no a0 _ _ w hb
  obtain ⟨b, rfl⟩ := Int.eq_ofNat_of_zero_le (show 0 ≤ a0 by omega)
  by_cases hl1 : 300 < len1
  · exact plays_much b a1 len1 cap1 _ w (by omega) (by omega) hl1
  obtain ⟨c, hc, hcb⟩ := nat_of_u32 z1 hz1
  have T1 := hide (show Slc .u32 w a1 len1 (fun i => (c i : Int)) from S1.elim .inl fun ⟨B, off, e, I⟩ => .inr ⟨B, off, e, fun i hi => (I i hi).trans (congrArg (fun z => some (Value.int .u32 z)) (hc i))⟩)
  have T2 := hide S2
  have HCB := hide hcb
  have HB := hide (show 1 ≤ b ∧ b ≤ 11 by omega)
  have N := hide (new7 b w (unhide HB).1 (unhide HB).2)
  have h0' : 1 ≤ (b : Int) := by omega
  have h1' : (b : Int) ≤ 11 := by omega
  have hl' : ¬ (300 : Int) < len1 := by omega
  have hp := (pow_cast b).symm
  have hl := pow_le b (by omega)
  generalize hn : 2 ^ b = n at hp hl N
  have HN := hide hn
  have hmk := fun w => make_row w n (by omega)
  have hnl : (n : Int) ≤ 2048 := by omega
  have HL1 := hide hl1
  clear hn w0 S1 S2 hz1 hz2 hc hcb hb hl1 hl
  go_enter Try.func3, Try.ntmps3
  go_wp2_with fail
  refine (unhide N).mono ?_
  rintro e w1 ⟨rfl, sz, C, bel⟩
  have BB := hide (And.intro sz (And.intro C bel))
  clear bel C sz N
  go_wp2_with fail
  refine (ans8 _).mono ?_
  rintro e w2 ⟨rfl, bel⟩
  have P0 := hide (Ply.start (unhide BB).2.1 (unhide BB).1 (unhide BB).2.2 bel)
  clear bel BB
  go_wp2
  generalize w2.heap.size = gw at *
  go_loopw [10] (fun i wr => ∃ (k : Nat) (f : Nat → Nat), k ≤ len1 ∧ i = .int .i64 k ∧ Ply w wr b n gw f) (fun i _ => len1 - (intOf i).toNat)
  case atStart => exact ⟨0, _, Nat.zero_le _, rfl, unhide P0⟩
  case round =>
    obtain ⟨k, f, hk, rfl, ply⟩ := hrel
    have PL := hide ply
    clear P0 hmk
    by_cases hlt : k < len1
    · rcases unhide T1 with hh | ⟨B, off, rfl, I⟩
      · omega
      have hlt' : (k : Int) < (len1 : Int) := by omega
      have c0 := I.at ply.bel k hlt
      have hin := ply.ca.in (c k)
      have CK := hide (unhide HCB k)
      have cw := (ply.box.cell (sl (c k) b)).trans (row_at f n _ hin)
      have hin' : ((sl (c k) b : Nat) : Int) < n := by omega
      have II := hide I
      have HIN := hide hin
      clear ply I
      by_cases hf : f (sl (c k) b) = c k
      · have HF := hide hf
        rw [hf] at cw
        clear hf
        go_wp2_with fail
        refine (find9_yes _ _ _ _ _ _ _ (unhide PL).ca (unhide HF)).mono ?_
        rintro e w3 ⟨rfl, rfl⟩
        go_wp2_with fail
        refine (rslot10_in _ _ _ (unhide CK) (unhide HB).1 (unhide HB).2).mono ?_
        rintro e w3 ⟨rfl, rfl⟩
        go_wp2
        go_quiet (fail)
        go_wp2_with fail
        refine (add11 _ _ _ _ _ _ _ ((unhide PL).ca.drewN _)).mono ?_
        rintro e w3 ⟨rfl, hw⟩
        obtain ⟨c3, f3, d3, p3⟩ := (unhide PL).mid (unhide II) hlt (unhide HIN) hw
        have P3 := hide p3
        clear p3 hw
        go_wp2
        go_roundw
        case rel => exact ⟨k + 1, _, by omega, by go_num, unhide P3⟩
        case measure => simp [intOf]; omega
      · have hf2 := eq_no _ _ hf
        go_wp2_with fail
        refine (find9_no _ _ _ _ _ _ _ (unhide PL).ca hf).mono ?_
        rintro e w3 ⟨rfl, rfl⟩
        clear hf
        go_wp2_with fail
        refine (rslot10_in _ _ _ (unhide CK) (unhide HB).1 (unhide HB).2).mono ?_
        rintro e w3 ⟨rfl, rfl⟩
        go_wp2
        go_quiet (fail)
        go_wp2_with fail
        refine (add11 _ _ _ _ _ _ _ ((unhide PL).ca.drewN _)).mono ?_
        rintro e w3 ⟨rfl, hw⟩
        obtain ⟨c3, f3, d3, p3⟩ := (unhide PL).mid (unhide II) hlt (unhide HIN) hw
        have P3 := hide p3
        clear p3 hw
        go_wp2
        go_roundw
        case rel => exact ⟨k + 1, _, by omega, by go_num, unhide P3⟩
        case measure => simp [intOf]; omega
    · have e : k = len1 := by omega
      subst e
      clear ply hlt hk T1
      go_wp2
      go_loop [14] (fun i => ∃ m : Nat, m ≤ len2 ∧ m ≤ 300 ∧ i = .int .i64 m) (fun i => 300 - (intOf i).toNat)
      case atStart => exact ⟨0, Nat.zero_le _, Nat.zero_le _, rfl⟩
      case round =>
        obtain ⟨m, hm, hm3, rfl⟩ := hrel
        by_cases h2 : m < len2
        · have h2' : (m : Int) < (len2 : Int) := by omega
          by_cases h3 : m < 300
          · have h3' : (m : Int) < 300 := by omega
            rcases unhide T2 with hh | ⟨B, off, rfl, I⟩
            · omega
            have c0 := I.at (unhide PL).bel m h2
            clear I
            generalize z2.getD m 0 = z at c0
            by_cases hz : z < 0 ∨ n ≤ z
            · have HZ := hide hz
              rcases hz with hz | hz
              · go_wp2_with fail
                refine (get12_no _ _ _ _ _ _ _ (unhide PL).ca (unhide HZ)).mono ?_
                rintro e w3 ⟨rfl, rfl⟩
                go_wp2
                go_round
                case rel => exact ⟨m + 1, by omega, by omega, by go_num⟩
                case measure => simp [intOf]; omega
              · have hz0 : 0 ≤ z := by omega
                go_wp2_with fail
                refine (get12_no _ _ _ _ _ _ _ (unhide PL).ca (unhide HZ)).mono ?_
                rintro e w3 ⟨rfl, rfl⟩
                go_wp2
                go_round
                case rel => exact ⟨m + 1, by omega, by omega, by go_num⟩
                case measure => simp [intOf]; omega
            · obtain ⟨p, rfl⟩ := Int.eq_ofNat_of_zero_le (show 0 ≤ z by omega)
              have hpn : p < n := by omega
              have hpn' : (p : Int) < n := by omega
              have cw := ((unhide PL).box.cell p).trans (row_at f n p hpn)
              have HP := hide hpn
              clear hz
              go_wp2_with fail
              refine (get12 _ _ _ _ _ _ _ (unhide PL).ca (unhide HP)).mono ?_
              rintro e w3 ⟨rfl, rfl⟩
              go_wp2
              go_round
              case rel => exact ⟨m + 1, by omega, by omega, by go_num⟩
              case measure => simp [intOf]; omega
          · have h3' : ¬ (m : Int) < 300 := by omega
            go_wp2
            go_ret
            exact ⟨rfl, (unhide PL).bel⟩
        · have h2' : ¬ (m : Int) < (len2 : Int) := by omega
          go_wp2
          go_ret
          exact ⟨rfl, (unhide PL).bel⟩

/-! ### THE ROW's STEP: WRITTEN OUT: LEAVE IT -/
set_option maxRecDepth 100000 in
theorem lifted (os : Os) (started : os.Started) (H : Type) (enc : TypeId × Value → H) :
    ReturnsInHanded {} Try.checked os 3 .any (Rows.cachePlaysSpec.pre6 enc Try.prog Try.f3 Rows.cachePlaysRow.domain false) (Rows.cachePlaysSpec.post enc Try.prog Try.f3 false true false false) := by
  refine returnsInHanded_of_change (C := Try.checked) own started (by kernel_rfl) Try.func3
    (ChangeSpec.witness6 (enc := enc) (C := Try.checked) false ⟨#[], #[.int .i64 0, .slice none 0 0, .slice none 0 0], []⟩ 8 (by kernel_rfl) (by kernel_rfl) (by kernel_rfl) (by kernel_rfl)) ?_
  intro W base args ds gs before hval0 hW hcnd _
  have hval : ∀ (j : Nat) t v, Try.f3.params[j]? = some t → args[j]? = some v → Value.okWide Try.prog W .any base t v := hval0
  have hW' := hW
  obtain ⟨p, q, hA0, hV, rfl, hfz, hnd⟩ := hW
  have hA : DataW.TrodAll enc Try.prog W 0 (fun _ => true) true Try.f3.params.toList args.toList ds p := hA0
  rw [Try.params3] at hA hval
  obtain ⟨v0, vs0, d0, ds0, p0, q0, hargs, rfl, rfl, h0, r0⟩ := trodAll_cons hA
  obtain ⟨v1, vs1, d1, ds1, p1, q1, rfl, rfl, rfl, h1, r1⟩ := trodAll_cons r0
  obtain ⟨v2, vs2, d2, ds2, p2, q2, rfl, rfl, rfl, h2, r2⟩ := trodAll_cons r1
  obtain ⟨rfl, rfl, rfl⟩ := trodAll_nil r2
  obtain rfl : args = #[v0, v1, v2] := by cases args; simp_all
  obtain ⟨rfl, rfl⟩ := trodVars_none hV
  obtain ⟨a0, rfl, rfl, rfl, w0⟩ := open_int Try.underlying3 (hval 0 3 v0 rfl rfl) h0
  obtain ⟨a1, len1, cap1, rfl⟩ := okWide_slice Try.underlying22 (hval 1 22 v1 rfl rfl)
  have k1 := h1
  have lt1 : ∀ x ∈ p1, x.block < W.heap.size := by obtain ⟨m, hm⟩ := k1; exact DataW.trod_lt m _ _ _ hm
  obtain ⟨z1, w1⟩ : ∃ zs, IsRow .u32 W a1 len1 cap1 zs := by
    obtain ⟨fuel, hf⟩ := h1
    rcases open_ints Try.underlying22 Try.underlying32 (by kernel_rfl) hf with ⟨hcs, _⟩ | ⟨x, l, c, zs, hcs, _, hl, hm, hz, _, hcell, hwz⟩
    · simp [Value.cells] at hcs
      obtain ⟨rfl, rfl, rfl⟩ := hcs
      exact ⟨[], .inl ⟨rfl, rfl, rfl, rfl⟩⟩
    · simp [Value.cells] at hcs
      obtain ⟨rfl, rfl, rfl⟩ := hcs
      exact ⟨zs, .inr ⟨_, rfl, hl, hm, by simpa using hz, hcell, hwz⟩⟩
  obtain ⟨a2, len2, cap2, rfl⟩ := okWide_slice Try.underlying23 (hval 2 23 v2 rfl rfl)
  have k2 := h2
  have lt2 : ∀ x ∈ p2, x.block < W.heap.size := by obtain ⟨m, hm⟩ := k2; exact DataW.trod_lt m _ _ _ hm
  obtain ⟨z2, w2⟩ : ∃ zs, IsRow .i64 W a2 len2 cap2 zs := by
    obtain ⟨fuel, hf⟩ := h2
    rcases open_ints Try.underlying23 Try.underlying3 (by kernel_rfl) hf with ⟨hcs, _⟩ | ⟨x, l, c, zs, hcs, _, hl, hm, hz, _, hcell, hwz⟩
    · simp [Value.cells] at hcs
      obtain ⟨rfl, rfl, rfl⟩ := hcs
      exact ⟨[], .inl ⟨rfl, rfl, rfl, rfl⟩⟩
    · simp [Value.cells] at hcs
      obtain ⟨rfl, rfl, rfl⟩ := hcs
      exact ⟨zs, .inr ⟨_, rfl, hl, hm, by simpa using hz, hcell, hwz⟩⟩
  clear hA0 hval0
  refine (walk a0 a1 len1 cap1 z1 a2 len2 cap2 z2 W w0 w1 w2).mono fun e W' ⟨he, bel⟩ => ?_
  subst he
  exact ⟨_, rfl, _, _, _, [], _, [], hW', trodAll_mk1 (shut_bool Try.underlying4 _), (trodAll_cons_mk (shut_int Try.underlying3 w0) (trodAll_cons_mk (Below.trod laidOut (by kernel_rfl) (of_decide_eq_true (by kernel_rfl)) k1 bel lt1) (trodAll_cons_mk (Below.trod laidOut (by kernel_rfl) (of_decide_eq_true (by kernel_rfl)) k2 bel lt2) trodAll_mk0))), rfl, bel.frame _, fun h => by cases h⟩

theorem over : Rows.cachePlaysRow.holds Try.pinned (OpenSpec.ofChange Rows.cachePlaysSpec) :=
  OpenClaim.holds_of_wide 3 Try.f3 rfl rfl rfl rfl rfl rfl rfl ⟨rfl, rfl, rfl, rfl, rfl⟩ rfl rfl rfl rfl rfl (by kernel_rfl) Try.func3 (by kernel_rfl)
    (of_decide_eq_true (by kernel_rfl)) (by unfold Func.isWrapper; first | (rw [if_pos (by decide +kernel)]; kernel_rfl) | (rw [if_neg (by decide +kernel)]; exact ⟨rfl, rfl⟩))
    (fun os started H enc _ => lifted os started H enc)

/-- ████ THE STATEMENT ████ -/
theorem proved : Rows.CachePlaysSaid := over
#print axioms proved
end Go.Proofs.Ytadikcjafjkhnaa.cachePlays
