/- Contracts: bits.Len64, bits.Len, slices.nextPowerOfTwo, xorshift's Next, slices.breakPatternsOrdered of uint32. Conditions: the part lies in the row and is of more than 12 and at most 60000 numbers. -/
import Derived.Test.YtflmlbdcjjldgaaQPiv
import Derived.Laws.MathBits
namespace Go.Proofs.Ytflmlbdcjjldgaa.QBrk
set_option linter.unusedVariables false
open Go.ChangeShapes Go.WideShapes Go.ChangeAt Go.RowKit Go.Sort Go.Proofs.Ytflmlbdcjjldgaa.Core Go.Proofs.Ytflmlbdcjjldgaa.QNum Go.Proofs.Ytflmlbdcjjldgaa.QLes Go.Proofs.Ytflmlbdcjjldgaa.QPiv

set_option maxRecDepth 100000 in
set_option maxHeartbeats 1000000 in
theorem len59I (x : Int) (w : World) (h0 : 0 ≤ x) (h1 : x ≤ 65535) :
    Calls Try.prog 59 #[.int .u64 x] w fun e w' => e = .returned (.int .i64 (bitLen x.toNat)) ∧ w' = w := by
  go_enter Try.func59, Try.ntmps59
  go_wp2
  all_goals (go_ret; refine ⟨congrArg Ending.returned (congrArg (Value.int IntKind.i64) ?_), rfl⟩)
  · rw [len8tab_get, show (x / 256).toNat = x.toNat / 2 ^ 8 by omega]
    have l := bitLen_le8 (x.toNat / 2 ^ 8) (by omega)
    rw [bitLen_shift x.toNat 8 (by omega)]
    unfold wrap64
    omega
  · rw [len8tab_get]
    have l := bitLen_le8 x.toNat (by omega)
    unfold wrap64
    omega
theorem len59 (x : Nat) (w : World) (h1 : x ≤ 65535) :
    Calls Try.prog 59 #[.int .u64 x] w fun e w' => e = .returned (.int .i64 (bitLen x)) ∧ w' = w := len59I (x : Int) w (by omega) (by omega)
theorem len48 (x : Nat) (w : World) (h1 : x ≤ 65535) :
    Calls Try.prog 48 #[.int .u64 x] w fun e w' => e = .returned (.int .i64 (bitLen x)) ∧ w' = w := by
  go_enter Try.func48, Try.ntmps48
  go_wp2_with (go_at_call 59; refine (len59 _ _ h1).mono ?_; rintro e w' ⟨rfl, rfl⟩)
  go_ret
  exact ⟨rfl, rfl⟩
theorem bl_le17 (x : Nat) (h : x ≤ 65535) : bitLen x ≤ 16 := by
  unfold bitLen
  split
  · omega
  · rename_i h0
    have := (Nat.log2_lt h0).2 (show x < 2 ^ 16 by omega)
    omega
/-- The next power of two. -/
def np (x : Nat) : Nat := 2 ^ bitLen x
theorem np_gt (x : Nat) : x < np x := (bitLen_spec x).1
theorem np_le (x : Nat) (h : x ≠ 0) : np x ≤ 2 * x := by
  have h1 := (bitLen_spec x).2 h
  unfold np
  have : bitLen x ≠ 0 := by unfold bitLen; rw [if_neg h]; omega
  obtain ⟨k, hk⟩ : ∃ k, bitLen x = k + 1 := ⟨bitLen x - 1, by omega⟩
  rw [hk] at h1 ⊢
  rw [Nat.pow_succ]
  simp at h1
  omega
theorem next61 (x : Nat) (w : World) (h1 : x ≤ 65535) :
    Calls Try.prog 61 #[.int .i64 x] w fun e w' => e = .returned (.int .u64 (np x)) ∧ w' = w := by
  have L := hide (len48 x w h1)
  have b16 := bl_le17 x h1
  obtain ⟨m, hm⟩ : ∃ m : Nat, m = np x := ⟨_, rfl⟩
  have e2 : (2 : Int) ^ bitLen x = (m : Int) := by rw [hm]; unfold np; simp
  have m16 : m ≤ 65536 := by rw [hm]; exact Nat.pow_le_pow_right (by omega) b16
  rw [← hm]
  generalize bitLen x = k at *
  clear hm
  go_enter Try.func61, Try.ntmps61
  go_wp2_with (go_at_call 48; refine (unhide L).mono ?_; rintro e w' ⟨rfl, rfl⟩)
  go_ret
  exact ⟨rfl, rfl⟩
theorem and_low (z : Int) (m : Nat) (hm : m < 18446744073709551616) : ∃ r : Nat, bits .and .u64 z (m : Int) = (r : Int) ∧ r ≤ m := by
  have h1 : (BitVec.ofInt 64 z &&& BitVec.ofInt 64 (m : Int)).toNat ≤ m := by
    rw [BitVec.toNat_and, BitVec.ofInt_natCast, BitVec.toNat_ofNat, Nat.mod_eq_of_lt (by omega)]
    exact Nat.and_le_right
  refine ⟨_, ?_, h1⟩
  show IntKind.u64.wrap ((BitVec.ofInt 64 z &&& BitVec.ofInt 64 (m : Int)).toNat : Int) = _
  generalize (BitVec.ofInt 64 z &&& BitVec.ofInt 64 (m : Int)).toNat = r at *
  simp only [IntKind.wrap, IntKind.bits, IntKind.signed]
  simp
  omega
/-- A number in a block of its own, whatever it is. -/
def Nx (w : World) (rb : Nat) (wx : World) : Prop := ∃ v : Int, Box wx rb 86 #[.int .u64 v] ∧ Upd (fun k => k = rb) w wx
theorem Nx.step {w w1 : World} {rb : Nat} {v : Int} (h : Box w1 rb 86 #[.int .u64 v]) (u : Upd (fun k => k = rb) w w1) (x : Int) : Nx w rb (w1.setCell ⟨rb, 0, none⟩ (.int .u64 x)).drew :=
  ⟨x, Box.set h 0 _, (Upd.setCell (S := fun k => k = rb) u (p := ⟨rb, 0, none⟩) rfl _).drewN 1⟩
set_option maxHeartbeats 800000 in
theorem next62 {rb : Nat} {v : Int} {w : World} (C : Box w rb 86 #[.int .u64 v]) :
    Calls Try.prog 62 #[.pointer (some ⟨rb, 0, none⟩)] w fun e w' => ∃ v' : Int, e = .returned (.int .u64 v') ∧ Box w' rb 86 #[.int .u64 v'] ∧ Upd (fun k => k = rb) w w' := by
  have c0 : w.cell? ⟨rb, 0, none⟩ = some (.int .u64 v) := (Box.cell C 0).trans rfl
  have f0 : w.frozen? ⟨rb, 0, none⟩ = false := Box.free C 0
  have CC := hide C
  clear C
  go_enter Try.func62, Try.ntmps62
  go_upto_region 1 with fail
  go_cut [] from 3 to 11 (fun wx => Nx w rb wx)
  case first =>
    go_region
    all_goals (go_wp2_with fail; go_meet; exact Nx.step (unhide CC) (Upd.refl _ w) _)
  case rest =>
    obtain ⟨v1, C1, U1⟩ := hcut
    have d1 : wc.cell? ⟨rb, 0, none⟩ = some (.int .u64 v1) := (Box.cell C1 0).trans rfl
    have g1 : wc.frozen? ⟨rb, 0, none⟩ = false := Box.free C1 0
    have CD := hide C1
    have UD := hide U1
    clear C1 U1 c0 f0 CC
    generalize wc = wd at *
    go_upto_region 2 with fail
    go_cut [] from 12 to 20 (fun wx => Nx w rb wx)
    case first =>
      go_region
      all_goals (go_wp2_with fail; go_meet; exact Nx.step (unhide CD) (unhide UD) _)
    case rest =>
      obtain ⟨v2, C2, U2⟩ := hcut
      have d2 : wc.cell? ⟨rb, 0, none⟩ = some (.int .u64 v2) := (Box.cell C2 0).trans rfl
      have g2 : wc.frozen? ⟨rb, 0, none⟩ = false := Box.free C2 0
      have CE := hide C2
      have UE := hide U2
      clear C2 U2 d1 g1 CD UD
      generalize wc = we at *
      go_upto_region 3 with fail
      go_cut [] from 21 to 29 (fun wx => Nx w rb wx)
      case first =>
        go_region
        all_goals (go_wp2_with fail; go_meet; exact Nx.step (unhide CE) (unhide UE) _)
      case rest =>
        obtain ⟨v3, C3, U3⟩ := hcut
        have d3 : wc.cell? ⟨rb, 0, none⟩ = some (.int .u64 v3) := (Box.cell C3 0).trans rfl
        have CF := hide C3
        have UF := hide U3
        clear C3 U3 d2 g2 CE UE
        go_wp2
        go_ret
        exact ⟨v3, rfl, unhide CF, unhide UF⟩
theorem row_upd {w wr w1 : World} {g o rb : Nat} {d : Array Nat} (h : Row w g o d wr) (u : Upd (fun k => k = rb) wr w1) (hrb : w.heap.size ≤ rb) : Row w g o d w1 := by
  have hg := h.lt
  have hl := h.glt
  have e : w1.heap[g]? = wr.heap[g]? := u.block g hl (by omega)
  refine ⟨fun t ht => (World.cell?_of_block (w := wr) (a := ⟨g, o + t, none⟩) e).trans (h.cell t ht), fun t ht => (World.frozen?_of_block (w := wr) (a := ⟨g, o + t, none⟩) e).trans (h.free t ht), h.lt, ?_⟩
  exact ⟨u.os.trans h.upd.os, u.tape.trans h.upd.tape, u.output.trans h.upd.output, Nat.le_trans h.upd.size u.size, fun k hk hs => (u.block k (Nat.lt_of_lt_of_le hk h.upd.size) (by omega)).trans (h.upd.block k hk hs)⟩
theorem box_swap {w : World} {g o i j rb : Nat} {v : Int} {x y : Value} (h : Box w rb 86 #[.int .u64 v]) (ne : rb ≠ g) : Box ((w.setCell ⟨g, o + i, none⟩ x).setCell ⟨g, o + j, none⟩ y).drew rb 86 #[.int .u64 v] :=
  ((h.other (p := ⟨g, o + i, none⟩) ne x).other (p := ⟨g, o + j, none⟩) ne y)
set_option maxRecDepth 100000 in
set_option maxHeartbeats 3200000 in
theorem brk51 {g o n a b : Nat} (c : Nat) {d : Array Nat} {w : World} (R : Row w g o d w) (hd : d.size = n) (hab : a + 12 < b) (hb : b ≤ n) (hn : n ≤ 60000) :
    Calls Try.prog 51 #[.slice (some ⟨g, o, none⟩) n c, .int .i64 a, .int .i64 b] w fun e w' => e = .returned (.tuple #[]) ∧ ∃ d', d'.size = n ∧ PermIn a b d d' ∧ Row w g o d' w' := by
  obtain ⟨l, hl⟩ : ∃ l : Nat, b = a + l := ⟨b - a, by omega⟩
  have hl' : (b : Int) - (a : Int) = (l : Int) := by omega
  have l8 : (8 : Int) ≤ (l : Int) := by omega
  obtain ⟨q, hq⟩ : ∃ q : Nat, q = l / 4 := ⟨_, rfl⟩
  have q1 : 3 ≤ q ∧ 4 * q ≤ l := by omega
  have hq1 : (l : Int).tdiv 4 = (q : Int) := by rw [hq]; rfl
  have hq2 : (l : Int) / 4 = (q : Int) := by rw [hq]; rfl
  have l3 : l ≤ 65535 := by omega
  have N1 := hide (fun w => next61 l w l3)
  have np1 : l < np l := np_gt l
  have np2 : np l ≤ 2 * l := np_le l (by omega)
  generalize np l = m at *
  obtain ⟨m1, hm1⟩ : ∃ m1 : Nat, (m : Int) - 1 = (m1 : Int) := ⟨m - 1, by omega⟩
  obtain ⟨k, hk⟩ : ∃ k : Nat, (a : Int) + (q : Int) * 2 = (k : Int) := ⟨a + q * 2, by omega⟩
  have hka : k = a + q * 2 := by omega
  have HKA := hide hka
  have HL := hide hl
  have HQ := hide hq
  have RR := hide R
  have NP := hide (show m1 < 2 * l by omega)
  clear hl hq R hka np1 np2
  go_enter Try.func51, Try.ntmps51
  go_wp2_with fail
  refine (unhide N1 _).mono ?_
  rintro e w1 ⟨rfl, rfl⟩
  have R1 := hide ((unhide RR).alloc (.cells #[.int .u64 (l : Nat)] 86))
  have X1 := hide (Box.made w 86 #[.int .u64 (l : Nat)])
  have ne : w.heap.size ≠ g := by have := (unhide RR).lt; omega
  have BD := hide (show a + 1 ≤ k ∧ k + 2 < b by have := unhide HKA; have := unhide HL; omega)
  go_wp2
  go_loopw [9] (fun vi wr => ∃ (i : Nat) (dk : Array Nat), vi = .int .i64 i ∧ k ≤ i + 1 ∧ i ≤ k + 2 ∧ dk.size = n ∧ PermIn a b d dk ∧ Row w g o dk wr ∧ ∃ v : Int, Box wr w.heap.size 86 #[.int .u64 v]) (fun vi _ => k + 2 - (intOf vi).toNat)
  case atStart => exact ⟨k - 1, d, by congr 1; have := unhide BD; omega, by omega, by omega, hd, permIn_refl d a b, unhide R1, _, unhide X1⟩
  case round =>
    obtain ⟨i, dk, rfl, hi1, hi2, hsk, hP, hR, v, hB⟩ := hrel
    have bd := unhide BD
    have hll := unhide HL
    by_cases hik : i ≤ k + 1
    · have hik' : (i : Int) ≤ (k : Int) + 1 := by omega
      have N2 := hide (next62 hB)
      have PK := hide hP
      have RK := hide hR
      clear hP hR hB
      have HLL := hide hll
      clear hll
      go_wp2_with fail
      refine (unhide N2).mono ?_
      rintro e w1 ⟨v1, rfl, B1, U1⟩
      have RJ := hide (row_upd (unhide RK) U1 (Nat.le_refl _))
      have BJ := hide B1
      obtain ⟨r, hr, hrm⟩ := and_low v1 m1 (by have := unhide NP; omega)
      have hr2 : r < 2 * l := by have := unhide NP; omega
      have hr3 : (r : Int) ≤ 131070 := by omega
      have hm3 : (m1 : Int) ≤ 131070 := by have := unhide NP; omega
      clear U1 B1 RK N2
      go_upto_if 43 with fail
      go_cut [10] from 26 to 64 (fun s10 wx => ∃ t : Nat, s10 = .int .i64 t ∧ t < l ∧ wx = w1)
      case first =>
        by_cases hrl : l ≤ r
        · have hrl' : (l : Int) ≤ (r : Int) := by omega
          go_wp2_with fail
          go_meet
          exact ⟨r - l, by congr 1; omega, by omega, rfl⟩
        · have hrl' : ¬ (l : Int) ≤ (r : Int) := by omega
          go_wp2_with fail
          go_meet
          exact ⟨r, rfl, by omega, rfl⟩
      case rest =>
        obtain ⟨t, rfl, ht, hwc⟩ := hcut
        subst hwc
        have hll := unhide HLL
        obtain ⟨G, hG⟩ : ∃ G : Nat → Nat, ∀ t, G t = dk[t]! := ⟨fun t => dk[t]!, fun _ => rfl⟩
        have hcw : ∀ t, t < n → wc.cell? ⟨g, o + t, none⟩ = some (.int .u32 (G t : Nat)) := fun t ht => by rw [hG]; exact (unhide RJ).cell t (by omega)
        have hfw : ∀ t, t < n → wc.frozen? ⟨g, o + t, none⟩ = false := fun t ht => (unhide RJ).free t (by omega)
        have HG := hide hG
        clear hG
        rcases Nat.lt_trichotomy i (a + t) with e | e | e
        · have e' : (i : Int) < (a : Int) + (t : Int) := by omega
          have hat : a + t < n := by omega
          have hin : i < n := by omega
          clear hll
          go_wp2_with fail
          go_region
          all_goals go_wp2
          go_roundw
          case rel =>
            refine ⟨i + 1, swp dk i (a + t), by go_num, by omega, by omega, by rw [size_swp]; exact hsk, permIn_trans _ _ _ _ _ (unhide PK) (swp_permIn dk a b i (a + t) (by omega) (by omega) (by omega) (by omega) (by omega)), ?_, ?_⟩
            · have := ((unhide RJ).drewN 1).swp i (a + t) (by omega) (by omega)
              rw [← unhide HG i, ← unhide HG (a + t)] at this
              exact this
            · exact ⟨v1, box_swap (unhide BJ) ne⟩
          case measure => simp [intOf]; omega
        · subst e
          have hin : a + t < n := by omega
          clear hll
          go_wp2_with fail
          go_region
          all_goals go_wp2
          go_roundw
          case rel =>
            refine ⟨a + t + 1, swp dk (a + t) (a + t), by go_num, by omega, by omega, by rw [size_swp]; exact hsk, permIn_trans _ _ _ _ _ (unhide PK) (swp_permIn dk a b (a + t) (a + t) (by omega) (by omega) (by omega) (by omega) (by omega)), ?_, ?_⟩
            · have := ((unhide RJ).drewN 1).swp (a + t) (a + t) (by omega) (by omega)
              rw [← unhide HG (a + t)] at this
              exact this
            · exact ⟨v1, box_swap (unhide BJ) ne⟩
          case measure => simp [intOf]; omega
        · have e' : (a : Int) + (t : Int) < (i : Int) := by omega
          have hat : a + t < n := by omega
          have hin : i < n := by omega
          clear hll
          go_wp2_with fail
          go_region
          all_goals go_wp2
          go_roundw
          case rel =>
            refine ⟨i + 1, swp dk i (a + t), by go_num, by omega, by omega, by rw [size_swp]; exact hsk, permIn_trans _ _ _ _ _ (unhide PK) (swp_permIn dk a b i (a + t) (by omega) (by omega) (by omega) (by omega) (by omega)), ?_, ?_⟩
            · have := ((unhide RJ).drewN 1).swp i (a + t) (by omega) (by omega)
              rw [← unhide HG i, ← unhide HG (a + t)] at this
              exact this
            · exact ⟨v1, box_swap (unhide BJ) ne⟩
          case measure => simp [intOf]; omega
    · have hik' : ¬ (i : Int) ≤ (k : Int) + 1 := by omega
      have PK := hide hP
      have RK := hide hR
      clear hP hR hB hll
      go_wp2
      go_end0
      exact ⟨rfl, dk, hsk, unhide PK, unhide RK⟩
end Go.Proofs.Ytflmlbdcjjldgaa.QBrk
