/-
  What is proved: for every input the Go function BitoutWrites of the statements of layer 3 returns true, and its arguments read as before (whatever is written: the bits, one by one, and which numbers do not fit).
  Conditions: none.
-/
import Derived.Test.YtieaglncimfelaaRows
import Derived.Test.YtieaglncimfelaaPai
import Derived.WalkKit
import Derived.ProofKit
import Derived.OpenShut
import Derived.ShutString
import Derived.ChangeOld
import Derived.Below
namespace Go.Proofs.Ytieaglncimfelaa.bitoutWrites
open Go.ChangeShapes Go.WideShapes Go.ChangeAt Go.RowKit
open Go.Proofs.Ytieaglncimfelaa.Core Go.Proofs.Ytieaglncimfelaa.Foot Go.Proofs.Ytieaglncimfelaa.Add Go.Proofs.Ytieaglncimfelaa.Wri Go.Proofs.Ytieaglncimfelaa.Byt Go.Proofs.Ytieaglncimfelaa.Sam Go.Proofs.Ytieaglncimfelaa.Joi Go.Proofs.Ytieaglncimfelaa.Sep Go.Proofs.Ytieaglncimfelaa.Ref Go.Proofs.Ytieaglncimfelaa.Two Go.Proofs.Ytieaglncimfelaa.Pai
open Go.ChangeMaps (open_string shut_string)
set_option linter.unusedVariables false

theorem own : ownKnob Try.prog.godebug = none := by kernel_rfl
theorem laidOut : laidOutB Try.prog = true := by kernel_rfl

/-- WHAT THE WALK IS TOLD OF A SLICE OF INTEGERS THAT CAME IN: it is nil; or it leads to a row of 'cap' cells, the numbers 'zs' (the first 'len' are its elements, the rest its spare room), each fitting its kind. -/
def IsRow (k : IntKind) (w : World) (a : Option Addr) (len cap : Nat) (zs : List Int) : Prop :=
  (a = none ∧ len = 0 ∧ cap = 0 ∧ zs = []) ∨
  ∃ x, a = some x ∧ len ≤ cap ∧ cap ≤ maxLen ∧ zs.length = cap ∧ (∀ i, i < zs.length → w.cell? (x.add i) = some (.int k (zs.getD i 0))) ∧ ∀ n ∈ zs, (Lit.int k n).wf = true

theorem pow32 (n : Nat) (h : n ≤ 32) : (1 : Int) ≤ 2 ^ n ∧ (2 : Int) ^ n ≤ 4294967296 := by
  have h1 : (2 : Nat) ^ n ≤ 2 ^ 32 := Nat.pow_le_pow_right (by omega) h
  have h2 : 0 < (2 : Nat) ^ n := Nat.pow_pos (by omega)
  have h3 : ((2 ^ n : Nat) : Int) = (2 : Int) ^ n := by simp
  have h4 : (2 : Nat) ^ 32 = 4294967296 := by decide
  omega
theorem i64_and63 (n : Int) : bits .and .i64 n 63 = n % 64 := by
  have h63 : (BitVec.ofInt 64 63).toNat = 2 ^ 6 - 1 := by decide
  have key : (BitVec.ofInt 64 n &&& BitVec.ofInt 64 63).toNat = (n % ((2 ^ 64 : Nat) : Int)).toNat % 2 ^ 6 := by
    rw [BitVec.toNat_and, BitVec.toNat_ofInt, h63, Nat.and_two_pow_sub_one_eq_mod]
  show IntKind.i64.wrap ((BitVec.ofInt 64 n &&& BitVec.ofInt 64 63).toNat : Nat) = n % 64
  rw [key, IntKind.wrap_i64]
  omega
theorem row_at {k : IntKind} {w wr : World} {a : Option Addr} {len cap : Nat} {zs : List Int} (h : IsRow k w a len cap zs) (bel : Below w.heap.size w wr) (i : Nat) (hi : i < len) :
    ∃ b off n, a = some ⟨b, off, none⟩ ∧ wr.cell? ⟨b, off + i, none⟩ = some (.int k n) ∧ (Lit.int k n).wf = true := by
  rcases h with ⟨_, h0, _⟩ | ⟨x, rfl, h1, h2, hz, hx, hwf⟩
  · omega
  · obtain ⟨b, off, rfl, hb⟩ := ints_at hx (by omega)
    have hm : zs.getD i 0 ∈ zs := by
      rw [List.getD_eq_getElem?_getD, List.getElem?_eq_getElem (by omega)]; exact List.getElem_mem (by omega)
    exact ⟨b, off, _, rfl, (bel.cell (p := ⟨b, off + i, none⟩) (lt_of_cell (hb i (by omega)))).trans (hb i (by omega)), hwf _ hm⟩
set_option maxRecDepth 20000 in
set_option maxHeartbeats 1000000 in
theorem walk (a0 : Option Addr) (len0 cap0 : Nat) (z0 : List Int) (a1 : Option Addr) (len1 cap1 : Nat) (z1 : List Int) (w : World) (w0 : IsRow .u32 w a0 len0 cap0 z0) (w1 : IsRow .i64 w a1 len1 cap1 z1) :
    Calls Try.prog 3 #[.slice a0 len0 cap0, .slice a1 len1 cap1] w fun e w' => e = .returned (.bool true) ∧ Below w.heap.size w w' := by
  by_cases hbig : 200 < len0
  · have hbig' : (200 : Int) < (len0 : Int) := by omega
    clear w0 w1
    go_enter Try.func3, Try.ntmps3
    go_wp2_with (go_at_call 7; refine (ans7 _).mono ?_; rintro e w1 ⟨rfl, bel⟩)
    go_ret
    exact ⟨rfl, bel⟩
  have hlen : (len0 : Int) ≤ 200 := by omega
  have R0 := hide w0
  have R1 := hide w1
  have NW := hide (pair_new w)
  clear w0 w1
  go_enter Try.func3, Try.ntmps3
  go_wp2_with fail
  refine (unhide NW).mono ?_
  rintro e w2 ⟨g, rfl, bel2, pair2⟩
  have P2 := hide pair2
  have B2 := hide bel2
  clear pair2 bel2 NW
  go_wp2
  go_loopw [6, 7] (fun l i wr => ∃ (k N : Nat) (b : Nat → Nat), k ≤ len0 ∧ N ≤ 32 * k ∧ (∀ j, b j ≤ 1) ∧ i = .int .i64 k ∧ Pair wr w.heap.size g l (sm b N) N N b ∧ Below w.heap.size w wr) (fun _ i _ => len0 - (intOf i).toNat)
  case atStart => exact ⟨0, 0, fun _ => 0, Nat.zero_le _, by omega, fun _ => Nat.zero_le _, rfl, unhide P2, unhide B2⟩
  case round =>
    obtain ⟨k, N, b, hk, hN, hb, rfl, pair, bel⟩ := hrel
    have P3 := hide pair
    have B3 := hide bel
    have HB := hide hb
    clear P2 B2 pair bel hb
    by_cases hlt : k < len0 ∧ k < len1
    · obtain ⟨l1, l2⟩ := hlt
      have l1' : (k : Int) < (len0 : Int) := by omega
      have l2' : (k : Int) < (len1 : Int) := by omega
      obtain ⟨b0, off0, v, rfl, cell0, wf0⟩ := row_at (unhide R0) (unhide B3) k l1
      obtain ⟨b1, off1, n, rfl, cell1, wf1⟩ := row_at (unhide R1) (unhide B3) k l2
      have bv := bounds_u32 wf0
      have bn := bounds_i64 wf1
      obtain ⟨x, rfl⟩ := Int.eq_ofNat_of_zero_le bv.1
      have xb : (x : Int) ≤ 4294967295 := by omega
      clear wf0 wf1
      go_wp2
      go_quiet (fail)
      have P4 := hide ((unhide P3).drewN nq)
      have B4 := hide (below_drewN (unhide B3) nq)
      have c0 : (wr.drewN nq).cell? ⟨b0, off0 + k, none⟩ = some (.int .u32 x) := cell0
      have c1 : (wr.drewN nq).cell? ⟨b1, off1 + k, none⟩ = some (.int .i64 n) := cell1
      clear P3 B3 cell0 cell1
      generalize wr.drewN nq = w4 at *
      by_cases hn : n < 0 ∨ 32 < n
      · rcases hn with hn | hn
        · go_wp2_with (first | (go_at_call 9; refine (bits_arg g _ n _ (by omega)).mono ?_; rintro e w5 ⟨rfl, rfl⟩) | fail)
          refine wp_loop_rounds 1 ?_
          rw [rounds_succ]
          go_wp2
          go_roundw
          case rel => exact ⟨k + 1, N, b, by omega, by omega, unhide HB, by go_num, unhide P4, unhide B4⟩
          case measure => simp [intOf]; omega
        · have hn' : 0 ≤ n := by omega
          have hn0 : 0 < n := by omega
          go_wp2_with (first | (go_at_call 9; refine (bits_arg g _ n _ (by omega)).mono ?_; rintro e w5 ⟨rfl, rfl⟩) | fail)
          refine wp_loop_rounds 1 ?_
          rw [rounds_succ]
          go_wp2
          go_roundw
          case rel => exact ⟨k + 1, N, b, by omega, by omega, unhide HB, by go_num, unhide P4, unhide B4⟩
          case measure => simp [intOf]; omega
      · obtain ⟨m, rfl⟩ := Int.eq_ofNat_of_zero_le (show 0 ≤ n by omega)
        have m1 : m ≤ 32 := by omega
        have m1' : (m : Int) ≤ 32 := by omega
        have hand : bits .and .i64 (m : Int) 63 = (m : Int) := by rw [i64_and63]; omega
        obtain ⟨p1, p2⟩ := pow32 m m1
        have hpp : ((2 ^ m : Nat) : Int) = (2 : Int) ^ m := by simp
        clear hn
        by_cases hv : x < 2 ^ m
        · have hv' : (x : Int) < 2 ^ m := by omega
          clear hpp
          go_wp2_with fail
          refine (pair_bits w4 w.heap.size g (sm b N) N N x m u6 b (unhide P4) m1 hv (by omega)).mono ?_
          rintro e w5 ⟨rfl, pair5, bel5⟩
          have P5 := hide (pair_ext pair5 (ext b N x) (fun i hi => by simp [ext, hi]))
          have B5 := hide ((unhide B4).trans bel5)
          have SE := hide (sm_ext b N x m)
          rw [Nat.mod_eq_of_lt hv] at SE
          clear pair5 bel5 P4 B4 hv hv'
          go_wp2
          go_loopw [6, 9, 11] (fun t q i ws => ∃ j : Nat, j ≤ m ∧ i = .int .i64 j ∧ q = .int .u64 ((x / 2 ^ j : Nat) : Int) ∧ Pair ws w.heap.size g t (sm b N + x * 2 ^ N) (N + m) (N + j) (ext b N x) ∧ Below w.heap.size w ws) (fun _ _ i _ => m - (intOf i).toNat)
          case atStart => exact ⟨0, by omega, rfl, by simp, unhide P5, unhide B5⟩
          case round =>
            obtain ⟨j, hj, rfl, rfl, pair6, bel6⟩ := hrel
            have P6 := hide pair6
            have B6 := hide bel6
            clear P5 B5 pair6 bel6
            by_cases hjm : j < m
            · have hjm' : (j : Int) < (m : Int) := by omega
              have D := hide (show x / 2 ^ j / 2 = x / 2 ^ (j + 1) by rw [Nat.div_div_eq_div_mul, Nat.pow_succ])
              have XB := hide (Nat.div_le_self x (2 ^ j))
              have EX := hide (show ext b N x (N + j) = x / 2 ^ j % 2 by unfold ext; rw [if_neg (by omega), show N + j - N = j by omega])
              generalize x / 2 ^ j = y at *
              have yb : (y : Int) ≤ 4294967295 := by have := unhide XB; omega
              go_wp2_with (first | (at_builtin; refine list_app rfl (.tmp 71) (.tmp 75) rfl _ (N + j) (cells (ext b N x) (N + j)) rfl ((pair_own (unhide P6)).alloc _) ⟨wr.heap.size, 0, none⟩ 1 1 [.int .u8 ((y : Int) % 2)] rfl rfl (one_src _ _) (one_one _ _) (by omega) ?_; intro v7 w7 own7 grow7 stay7; obtain ⟨pair7, bel7⟩ := pair_one ((y : Int) % 2) (unhide P6) (by rw [unhide EX]; omega) own7 grow7 stay7; have P7 := hide pair7; have B7 := hide ((unhide B6).trans bel7); clear own7 grow7 stay7 pair7 bel7) | fail)
              go_roundw
              case rel => exact ⟨j + 1, by omega, by go_num, by rw [← unhide D]; go_num, unhide P7, unhide B7⟩
              case measure => simp [intOf]; omega
            · obtain rfl : j = m := by omega
              go_wp2
              go_roundw
              case rel => exact ⟨k + 1, N + j, ext b N x, by omega, by omega, ext_le b (unhide HB) N x, by go_num, by rw [unhide SE]; exact unhide P6, unhide B6⟩
              case measure => simp [intOf]; omega
        · have hv' : ¬ (x : Int) < 2 ^ m := by omega
          clear hpp
          by_cases hm0 : 0 < m
          · go_wp2_with (first | (go_at_call 9; refine (bits_much g x m _ (by omega) m1 (by omega)).mono ?_; rintro e w5 ⟨rfl, rfl⟩) | fail)
            refine wp_loop_rounds 1 ?_
            rw [rounds_succ]
            go_wp2
            go_roundw
            case rel => exact ⟨k + 1, N, b, by omega, by omega, unhide HB, by go_num, unhide P4, unhide B4⟩
            case measure => simp [intOf]; omega
          · go_wp2_with (first | (go_at_call 9; refine (bits_much g x m _ (by omega) m1 (by omega)).mono ?_; rintro e w5 ⟨rfl, rfl⟩) | fail)
            refine wp_loop_rounds 1 ?_
            rw [rounds_succ]
            go_wp2
            go_roundw
            case rel => exact ⟨k + 1, N, b, by omega, by omega, unhide HB, by go_num, unhide P4, unhide B4⟩
            case measure => simp [intOf]; omega
    · have ways : (¬ k < len0) ∨ (k < len0 ∧ ¬ k < len1) := by omega
      have L := hide (pair_slice (unhide P3))
      obtain ⟨al, capl, rfl⟩ := unhide L
      obtain ⟨wc, rfl⟩ : ∃ wc : World, wc = wr := ⟨wr, rfl⟩
      obtain ⟨L, hL⟩ : ∃ L, L = (N + 7) / 8 := ⟨_, rfl⟩
      have hL1 : L ≤ 1000 := by omega
      have HL := hide hL
      clear hL
      rcases ways with l1 | ⟨l1, l2⟩
      all_goals
        clear hlt
        go_wp2_with fail
        refine (pair_bytes wc w.heap.size g (sm b N) N N _ b (unhide P3) (by omega)).mono ?_
        rintro e w5 ⟨vb, rfl, own5, bel5⟩
        rw [← unhide HL] at own5
        obtain ⟨ab, capb, rfl⟩ := own_slice own5
        have O5 := hide own5
        have B5 := hide bel5
        clear own5 bel5
        go_wp2
        go_loopw [13] (fun i ws => ∃ (j : Nat) (c : Nat → Nat), j ≤ L ∧ (∀ i, c i ≤ 255) ∧ i = .int .i64 j ∧ ws.ownsRow wc.heap.size 5 1 (.slice ab L capb) L (cells c L) ∧ Below wc.heap.size wc ws) (fun i _ => L - (intOf i).toNat)
        case atStart => exact ⟨0, byt (sm b N), Nat.zero_le _, byt_le _, rfl, unhide O5, unhide B5⟩
        case round =>
          obtain ⟨j, c, hj, hc, rfl, own, bel⟩ := hrel
          clear O5 B5
          by_cases hjL : j < L
          · have hjL' : (j : Int) < (L : Int) := by omega
            obtain ⟨gi, rfl⟩ : ∃ gi, ab = some ⟨gi, 0, none⟩ := by
              rcases own.2 with ⟨_, h0⟩ | ⟨gi, cap, cur, e, _⟩
              · omega
              · cases e; exact ⟨gi, rfl⟩
            have hcl := (own.cellAt j (by omega)).trans (cells_at c L j hjL)
            have hfz := own.frozenAt j
            have hst := own.stored j (.int .u8 (((c j + 1) % 256 : Nat) : Int))
            rw [cells_set] at hst
            have lgi := own.lt gi rfl
            have HST := hide hst.1
            have B6 := hide (bel.setCell (p := ⟨gi, j, none⟩) lgi.1 (.int .u8 (((c j + 1) % 256 : Nat) : Int)))
            have CK := hc j
            have E := hide (show ((c j : Int) + 1) % 256 = (((c j + 1) % 256 : Nat) : Int) by omega)
            have HC : Hid (∀ i, (fun i => if i = j then (c j + 1) % 256 else c i) i ≤ 255) := fun i => by
              show (if i = j then (c j + 1) % 256 else c i) ≤ 255
              split
              · omega
              · exact hc i
            clear own hst bel
            generalize c j = y at *
            go_wp2
            go_roundw
            case rel =>
              rw [unhide E]
              exact ⟨j + 1, _, by omega, unhide HC, by go_num, unhide HST, unhide B6⟩
            case measure => simp [intOf]; omega
          · have hjL' : (L : Int) ≤ (j : Int) := by omega
            have P6 := hide ((unhide P3).below bel)
            have B6 := hide ((unhide B3).trans (bel.mono (unhide B3).size))
            clear own bel
            go_wp2_with fail
            refine (ans7 _).mono ?_
            rintro e w7 ⟨rfl, bel7⟩
            have P7 := hide ((unhide P6).below bel7)
            have B7 := hide ((unhide B6).trans (bel7.mono (unhide B6).size))
            clear bel7 P6 B6
            go_wp2_with fail
            refine (pair_len w7 w.heap.size g _ _ _ _ _ (unhide P7) (by omega)).mono ?_
            rintro e w8 ⟨rfl, n8, rfl⟩
            have P8 := hide ((unhide P7).drewN n8)
            have B8 := hide (below_drewN (unhide B7) n8)
            clear P7 B7
            generalize w7.drewN n8 = w8 at *
            go_wp2_with fail
            refine (pair_bytes w8 w.heap.size g _ _ _ _ _ (unhide P8) (by omega)).mono ?_
            rintro e w9 ⟨v9, rfl, own9, bel9⟩
            have S9 := hide (src_of_own own9)
            have P9 := hide ((unhide P8).below bel9)
            have B9 := hide ((unhide B8).trans (bel9.mono (unhide B8).size))
            clear own9 bel9 P8 B8
            go_wp2_with fail
            refine (rbytes13 _ N b (unhide HB) w9 (pair_src (unhide P9)) (by omega)).mono ?_
            rintro e w10 ⟨v10, rfl, own10, bel10⟩
            have S10 := hide (src_of_own own10)
            have R10 := hide ((unhide S9).keep (Upd.ofBelow (S := fun _ => False) bel10) (fun _ h => h.elim))
            have B10 := hide ((unhide B9).trans (bel10.mono (unhide B9).size))
            clear own10 bel10 P9 B9 S9
            go_wp2_with fail
            refine (same12 v9 v10 _ _ w10 (unhide R10) (unhide S10) (by omega)).mono ?_
            rintro e w11 ⟨rfl, n11, rfl⟩
            go_wp2
            go_ret
            exact ⟨rfl, below_drewN (unhide B10) n11⟩

/-! ### THE ROW's STEP: WRITTEN OUT: LEAVE IT -/
set_option maxRecDepth 100000 in
theorem lifted (os : Os) (started : os.Started) (H : Type) (enc : TypeId × Value → H) :
    ReturnsInHanded {} Try.checked os 3 .any (Rows.bitoutWritesSpec.pre6 enc Try.prog Try.f3 Rows.bitoutWritesRow.domain false) (Rows.bitoutWritesSpec.post enc Try.prog Try.f3 false true false false) := by
  refine returnsInHanded_of_change (C := Try.checked) own started (by kernel_rfl) Try.func3
    (ChangeSpec.witness6 (enc := enc) (C := Try.checked) false ⟨#[], #[.slice none 0 0, .slice none 0 0], []⟩ 8 (by kernel_rfl) (by kernel_rfl) (by kernel_rfl) (by kernel_rfl)) ?_
  intro W base args ds gs before hval0 hW hcnd _
  have hval : ∀ (j : Nat) t v, Try.f3.params[j]? = some t → args[j]? = some v → Value.okWide Try.prog W .any base t v := hval0
  have hW' := hW
  obtain ⟨p, q, hA0, hV, rfl, hfz, hnd⟩ := hW
  have hA : DataW.TrodAll enc Try.prog W 0 (fun _ => true) true Try.f3.params.toList args.toList ds p := hA0
  rw [Try.params3] at hA hval
  obtain ⟨v0, vs0, d0, ds0, p0, q0, hargs, rfl, rfl, h0, r0⟩ := trodAll_cons hA
  obtain ⟨v1, vs1, d1, ds1, p1, q1, rfl, rfl, rfl, h1, r1⟩ := trodAll_cons r0
  obtain ⟨rfl, rfl, rfl⟩ := trodAll_nil r1
  obtain rfl : args = #[v0, v1] := by cases args; simp_all
  obtain ⟨rfl, rfl⟩ := trodVars_none hV
  obtain ⟨a0, len0, cap0, rfl⟩ := okWide_slice Try.underlying22 (hval 0 22 v0 rfl rfl)
  have k0 := h0
  have lt0 : ∀ x ∈ p0, x.block < W.heap.size := by obtain ⟨m, hm⟩ := k0; exact DataW.trod_lt m _ _ _ hm
  obtain ⟨z0, w0⟩ : ∃ zs, IsRow .u32 W a0 len0 cap0 zs := by
    obtain ⟨fuel, hf⟩ := h0
    rcases open_ints Try.underlying22 Try.underlying29 (by kernel_rfl) hf with ⟨hcs, _⟩ | ⟨x, l, c, zs, hcs, _, hl, hm, hz, _, hcell, hwz⟩
    · simp [Value.cells] at hcs
      obtain ⟨rfl, rfl, rfl⟩ := hcs
      exact ⟨[], .inl ⟨rfl, rfl, rfl, rfl⟩⟩
    · simp [Value.cells] at hcs
      obtain ⟨rfl, rfl, rfl⟩ := hcs
      exact ⟨zs, .inr ⟨_, rfl, hl, hm, by simpa using hz, hcell, hwz⟩⟩
  obtain ⟨a1, len1, cap1, rfl⟩ := okWide_slice Try.underlying23 (hval 1 23 v1 rfl rfl)
  have k1 := h1
  have lt1 : ∀ x ∈ p1, x.block < W.heap.size := by obtain ⟨m, hm⟩ := k1; exact DataW.trod_lt m _ _ _ hm
  obtain ⟨z1, w1⟩ : ∃ zs, IsRow .i64 W a1 len1 cap1 zs := by
    obtain ⟨fuel, hf⟩ := h1
    rcases open_ints Try.underlying23 Try.underlying3 (by kernel_rfl) hf with ⟨hcs, _⟩ | ⟨x, l, c, zs, hcs, _, hl, hm, hz, _, hcell, hwz⟩
    · simp [Value.cells] at hcs
      obtain ⟨rfl, rfl, rfl⟩ := hcs
      exact ⟨[], .inl ⟨rfl, rfl, rfl, rfl⟩⟩
    · simp [Value.cells] at hcs
      obtain ⟨rfl, rfl, rfl⟩ := hcs
      exact ⟨zs, .inr ⟨_, rfl, hl, hm, by simpa using hz, hcell, hwz⟩⟩
  clear hA0 hval0
  refine (walk a0 len0 cap0 z0 a1 len1 cap1 z1 W w0 w1).mono fun e W' ⟨he, bel⟩ => ?_
  subst he
  exact ⟨_, rfl, _, _, _, [], _, [], hW', trodAll_mk1 (shut_bool Try.underlying4 _), (trodAll_cons_mk (Below.trod laidOut (by kernel_rfl) (of_decide_eq_true (by kernel_rfl)) k0 bel lt0) (trodAll_cons_mk (Below.trod laidOut (by kernel_rfl) (of_decide_eq_true (by kernel_rfl)) k1 bel lt1) trodAll_mk0)), rfl, bel.frame _, fun h => by cases h⟩

theorem over : Rows.bitoutWritesRow.holds Try.pinned (OpenSpec.ofChange Rows.bitoutWritesSpec) :=
  OpenClaim.holds_of_wide 3 Try.f3 rfl rfl rfl rfl rfl rfl rfl ⟨rfl, rfl, rfl, rfl, rfl⟩ rfl rfl rfl rfl rfl (by kernel_rfl) Try.func3 (by kernel_rfl)
    (of_decide_eq_true (by kernel_rfl)) (by unfold Func.isWrapper; first | (rw [if_pos (by decide +kernel)]; kernel_rfl) | (rw [if_neg (by decide +kernel)]; exact ⟨rfl, rfl⟩))
    (fun os started H enc _ => lifted os started H enc)

/-- ████ THE STATEMENT ████ -/
theorem proved : Rows.BitoutWritesSaid := over
#print axioms proved
end Go.Proofs.Ytieaglncimfelaa.bitoutWrites
