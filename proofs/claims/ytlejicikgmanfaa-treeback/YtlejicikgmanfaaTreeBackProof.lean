/-
  What is proved: whatever the lengths and the symbols are, symbols that are written are read again, what has no code is not written, and each costs as many bits as its code has; both slices read behind the call as before (Rows.TreeBackSaid).
  Conditions: none.
-/
import Derived.Test.YtlejicikgmanfaaRows
import Derived.Test.YtlejicikgmanfaaBak
import Derived.Test.YtlejicikgmanfaaRck
import Derived.WalkKit
import Derived.ProofKit
import Derived.OpenShut
import Derived.ShutString
import Derived.ChangeOld
import Derived.Below
namespace Go.Proofs.Ytlejicikgmanfaa.treeBack
open Go.ChangeShapes Go.WideShapes Go.ChangeAt Go.RowKit
open Go.Proofs.Ytlejicikgmanfaa.Core Go.Proofs.Ytlejicikgmanfaa.Gnd Go.Proofs.Ytlejicikgmanfaa.Math Go.Proofs.Ytlejicikgmanfaa.Dec Go.Proofs.Ytlejicikgmanfaa.Tre Go.Proofs.Ytlejicikgmanfaa.Trr Go.Proofs.Ytlejicikgmanfaa.Ans Go.Proofs.Ytlejicikgmanfaa.Rck Go.Proofs.Ytlejicikgmanfaa.Bitin Go.Proofs.Ytlejicikgmanfaa.Eyes Go.Proofs.Ytlejicikgmanfaa.Foot Go.Proofs.Ytlejicikgmanfaa.Add Go.Proofs.Ytlejicikgmanfaa.Byt Go.Proofs.Ytlejicikgmanfaa.Bak
open Go.ChangeMaps (open_string shut_string)
set_option linter.unusedVariables false

theorem own : ownKnob Try.prog.godebug = none := by kernel_rfl
theorem laidOut : laidOutB Try.prog = true := by kernel_rfl

/-- WHAT THE WALK IS TOLD OF A SLICE OF INTEGERS THAT CAME IN: it is nil; or it leads to a row of 'cap' cells, the numbers 'zs' (the first 'len' are its elements, the rest its spare room), each fitting its kind. -/
def IsRow (k : IntKind) (w : World) (a : Option Addr) (len cap : Nat) (zs : List Int) : Prop :=
  (a = none ∧ len = 0 ∧ cap = 0 ∧ zs = []) ∨
  ∃ x, a = some x ∧ len ≤ cap ∧ cap ≤ maxLen ∧ zs.length = cap ∧ (∀ i, i < zs.length → w.cell? (x.add i) = some (.int k (zs.getD i 0))) ∧ ∀ n ∈ zs, (Lit.int k n).wf = true

theorem tv_shape {w : World} {v : Value} {n : Nat} {xs : List Value} (h : w.ownsRow 0 3 1 v n xs) : ∃ a cap, v = .slice a n cap := by
  rcases h.2 with ⟨rfl, h0⟩ | ⟨g, cap, cur, rfl, _⟩
  · exact ⟨none, 0, by rw [h0]⟩
  · exact ⟨_, _, rfl⟩
theorem has_yes {c : Nat → Int} {n m : Nat} (hm : m < n) (hc : c m ≠ 0) : hasB c n (m : Int) = true := by
  unfold hasB
  rw [decide_eq_true_eq]
  exact ⟨by omega, by omega, hc⟩
theorem has_no {c : Nat → Int} {n : Nat} {s : Int} (h : s < 0 ∨ (n : Int) ≤ s ∨ c s.toNat = 0) : hasB c n s = false := by
  unfold hasB
  rw [decide_eq_false_iff_not]
  rintro ⟨h1, h2, h3⟩
  rcases h with h | h | h
  · omega
  · omega
  · exact h3 h
theorem cost_no {c : Nat → Int} {n : Nat} {s : Int} (h : hasB c n s = false) : costI c n s = 0 := by
  unfold costI
  rw [h, if_neg (by simp)]
theorem cost_yes {c : Nat → Int} {n m : Nat} (h : hasB c n (m : Int) = true) (hc : c m ≠ 0) : costI c n (m : Int) = qq c n m := by
  unfold costI
  rw [h]
  by_cases hm : many c n = 1
  · rw [if_neg (by simp [hm]), qq_one hm hc]
  · rw [if_pos ⟨rfl, hm⟩, qq_many hm hc]
    rfl
set_option maxRecDepth 20000 in
set_option maxHeartbeats 1000000 in
theorem walk (a0 : Option Addr) (len0 cap0 : Nat) (z0 : List Int) (a1 : Option Addr) (len1 cap1 : Nat) (z1 : List Int) (w : World) (w0 : IsRow .i64 w a0 len0 cap0 z0) (w1 : IsRow .i64 w a1 len1 cap1 z1) :
    Calls Try.prog 4 #[.slice a0 len0 cap0, .slice a1 len1 cap1] w fun e w' => e = .returned (.bool true) ∧ Below w.heap.size w w' := by
  obtain ⟨src, _⟩ := ints_of_row w0
  generalize (fun k => z0.getD k 0) = c at src
  obtain ⟨src1, bd1⟩ := ints_of_row w1
  have bd1' : ∀ k, -9223372036854775808 ≤ (fun k => z1.getD k 0) k ∧ (fun k => z1.getD k 0) k ≤ 9223372036854775807 := bd1
  generalize (fun k => z1.getD k 0) = d at src1 bd1'
  have SRC := hide src
  have SRC1 := hide src1
  have BD1 := hide bd1'
  obtain ⟨a, cap, e0, _⟩ := src
  cases e0
  obtain ⟨a', cap', e1, _⟩ := src1
  cases e1
  clear w0 w1 bd1 bd1'
  by_cases hl : 300 < len0
  · have hl' : decide ((300 : Int) < (len0 : Int)) = true := decide_eq_true (by omega)
    go_enter Try.func4, Try.ntmps4
    go_wp2_with fail
    refine (ans7 w).mono ?_
    rintro e w4 ⟨rfl, bel4⟩
    have B4 := hide bel4
    clear bel4
    go_wp2
    go_ret
    exact ⟨rfl, unhide B4⟩
  have hl' : decide ((300 : Int) < (len0 : Int)) = false := decide_eq_false (by omega)
  by_cases hb : 100 < len1
  · have hb' : decide ((100 : Int) < (len1 : Int)) = true := decide_eq_true (by omega)
    go_enter Try.func4, Try.ntmps4
    go_wp2_with fail
    refine (ans7 w).mono ?_
    rintro e w4 ⟨rfl, bel4⟩
    have B4 := hide bel4
    clear bel4
    go_wp2
    go_ret
    exact ⟨rfl, unhide B4⟩
  have hb' : decide ((100 : Int) < (len1 : Int)) = false := decide_eq_false (by omega)
  by_cases hz : chk c len0 = 0
  · obtain ⟨hg, _, hkr⟩ := chk_zero hz
    have HG := hide hg
    have HZ := hide hz
    clear hg hkr hz
    go_enter Try.func4, Try.ntmps4
    go_wp2_with fail
    refine (tnew _ len0 c (by omega) (unhide HZ) _ (unhide SRC)).mono ?_
    rintro e w5 ⟨g, rfl, tr5, b5⟩
    have TR5 := hide tr5
    have B5 := hide b5
    have s5 := b5.size
    clear b5 tr5
    go_wp2_with fail
    refine (ans7 w5).mono ?_
    rintro e w6 ⟨rfl, b6⟩
    have s6 := b6.size
    have TR6 := hide ((unhide TR5).below b6)
    have B6 := hide (show Below w.heap.size w w6 from (unhide B5).trans (b6.mono (unhide B5).size))
    clear b6 B5 TR5
    go_wp2_with fail
    refine (rone9 _ len0 c (by omega) _ ((unhide SRC).keep (unhide B6))).mono ?_
    generalize (if many c len0 = 1 then (sel c len0 : Int) else 0) = s1
    generalize hok : decide (many c len0 = 1) = ok
    have OK := hide hok
    clear hok
    rintro e w7 ⟨rfl, rfl⟩
    go_wp2_with fail
    refine (Wri.new8 w7).mono ?_
    rintro e w8 ⟨gw, rfl, hgw, wr8, b8⟩
    have s8 := b8.size
    have IN8 : Hid (Inv w7 w8 w7.heap.size gw c len0 0 0 0 (.slice none 0 0) (.slice none 0 0) (fun _ => 0) (fun _ => 0)) :=
      ⟨wr8, World.ownsRow_nil _ _ _ _, fun b hb => by rcases hb with rfl | hb; exact hgw; simp [Value.ownBlock] at hb, fun b hb => by simp [Value.ownBlock] at hb, b8, told_nil c len0 _ 0⟩
    clear wr8 b8
    obtain ⟨i0, hi0, hz0, hz1, hz2⟩ := info_parts Spl.info3
    have s6' : w.heap.size ≤ w7.heap.size := (unhide B6).size
    have BDD := hide (fun k => unhide BD1 k)
    go_wp2
    go_loopw [10, 11] (fun tv p wr => ∃ (j T V N : Nat) (u : Value) (ts : Nat → Int) (o : Nat → Nat), j ≤ len1 ∧ p = .int .i64 j ∧ T ≤ j ∧ N ≤ 15 * j ∧ Inv w7 wr w7.heap.size gw c len0 T V N u tv ts o) (fun _ p _ => len1 - (intOf p).toNat)
    case atStart => exact ⟨0, 0, 0, 0, _, _, _, Nat.zero_le _, rfl, Nat.le_refl _, Nat.le_refl _, unhide IN8⟩
    case round =>
      obtain ⟨j, T, V, N, u, ts, o, hj, rfl, hT, hN, inv⟩ := hrel
      obtain ⟨ta, tcap, rfl⟩ := tv_shape inv.row
      have INV := hide inv
      have sH := inv.bel.size
      have BW := hide (show Below w.heap.size w wr from (unhide B6).trans (inv.bel.mono s6'))
      have TRW := hide ((unhide TR6).below inv.bel)
      by_cases hlt : j < len1
      · have hlt' : (j : Int) < (len1 : Int) := by omega
        obtain ⟨x1, x2, x3, hc0⟩ := (unhide SRC1).keep (unhide BW)
        cases x3
        obtain ⟨sb, soff, rfl, hcell⟩ := hc0 j hlt
        have LN := hide (Wri.len_at gw u V N wr inv.wri (by omega))
        have hNb : N ≤ 1500 := by omega
        clear hc0 inv IN8
        generalize hs : d j = s at *
        obtain ⟨sd1, sd2⟩ := unhide BDD j
        rw [hs] at sd1 sd2
        clear hs
        by_cases hyes : 0 ≤ s ∧ s < (len0 : Int) ∧ c s.toNat ≠ 0
        · obtain ⟨y1, y2, y3⟩ := hyes
          obtain ⟨m, rfl⟩ : ∃ m : Nat, s = (m : Int) := ⟨s.toNat, by omega⟩
          have y3' : c m ≠ 0 := y3
          have hmn : m < len0 := by omega
          obtain ⟨q1, q2, q3, hq0⟩ := (unhide SRC).keep (unhide BW)
          cases q3
          obtain ⟨lb, loff, rfl, hlell⟩ := hq0 m hmn
          obtain ⟨g1, g2⟩ := unhide HG m hmn
          obtain ⟨e, he⟩ : ∃ e : Nat, c m = (e : Int) := ⟨(c m).toNat, by omega⟩
          have he0 : (0 : Int) < (e : Int) := by omega
          have he15 : e ≤ 15 := by omega
          have CM := hide y3'
          have CO := hide (fun w' h => cost18 w.heap.size w5.heap.size g len0 c (unhide HG) m w' h)
          rw [has_yes hmn y3', cost_yes (has_yes hmn y3') y3'] at CO
          rw [he] at hlell
          by_cases hone : many c len0 = 1
          · have hok : ok = true := by rw [← unhide OK]; exact decide_eq_true hone
            have hqq : qq c len0 m = 0 := qq_one hone y3'
            have QQ := hide hqq
            rw [hqq] at CO
            subst hok
            clear y1 y2 y3 y3' hq0 g1 g2 hone hqq he15
            go_wp2_with fail
            refine (unhide LN).mono ?_
            rintro e1 w9 ⟨rfl, kk, rfl⟩
            have INV9 := hide ((unhide INV).drewN kk)
            have TR9 := hide ((unhide TRW).keep ((Upd.refl (fun _ => False) wr).drewN kk) (fun _ _ _ h => h))
            have hl9 : (wr.drewN kk).cell? ⟨lb, loff + m, none⟩ = some (.int .i64 (e : Int)) := hlell
            clear INV TRW LN BW hlell hcell
            generalize wr.drewN kk = w9 at *
            go_wp2_with fail
            refine (unhide CO w9 (unhide TR9)).mono ?_
            rintro e1 w10 ⟨rfl, rfl⟩
            go_wp2_with fail
            refine (write_yes _ _ g len0 c (unhide HG) m hmn (unhide CM) gw u V N w10 (unhide TR9) (unhide INV9).wri (by omega)).mono ?_
            rintro e1 w11 ⟨rfl, u', wr11, t11⟩
            have MID := hide ((unhide INV9).write (unhide INV9).bel.size wr11 t11)
            have sz11 := t11.upd.size
            rw [unhide QQ] at wr11
            have LN2 := hide (Wri.len_at gw u' _ _ w11 wr11 (by have : ((0 : Int)).toNat = 0 := rfl; omega))
            clear wr11 t11 INV9 TR9
            go_wp2_with fail
            refine (unhide LN2).mono ?_
            have e5 : ((N + ((0 : Int)).toNat : Nat) : Int) = (N : Int) := by simp
            rw [e5]
            rintro e1 w12 ⟨rfl, k2, rfl⟩
            have MID2 := hide ((unhide MID).drewN k2)
            clear MID LN2 e5
            generalize w11.drewN k2 = w12 at *
            go_wp2_with (first | (at_builtin; refine wpList_append_own_at _ rfl (.tmp 116) (.tmp 118) 22 rfl 0 3 i0 (.int .i64 0) 1 8 Try.underlying22 hi0 hz0 hz1 hz2 rfl (by decide) _ T _ rfl ((unhide MID2).row.alloc _) ⟨w12.heap.size, 0, none⟩ 1 1 [.int .i64 (m : Int)] rfl rfl (cell_one_new _ _ _) (one_one _ _) (by unfold maxLen; omega) (by omega) (Nat.zero_le _) ?_; intro v13 w13 own13 gr13 _ ho13; have INV13 := hide ((unhide MID2).app (unhide MID2).bel.size hmn (unhide CM) own13 gr13 ho13); clear own13 gr13 ho13) | fail)
            go_roundw
            case rel => 
              refine ⟨j + 1, T + 1, _, _, _, _, _, by omega, by go_num, by omega, ?_, unhide INV13⟩
              rw [unhide QQ]
              have : ((0 : Int)).toNat = 0 := rfl
              omega
            case measure => simp [intOf]; omega
          · have hok : ok = false := by rw [← unhide OK]; exact decide_eq_false hone
            have hqq : qq c len0 m = (e : Int) := by rw [qq_many hone y3', he]
            have QQ := hide hqq
            rw [hqq] at CO
            subst hok
            clear y1 y2 y3 y3' hq0 g1 g2 he hone hqq
            go_wp2_with fail
            refine (unhide LN).mono ?_
            rintro e1 w9 ⟨rfl, kk, rfl⟩
            have INV9 := hide ((unhide INV).drewN kk)
            have TR9 := hide ((unhide TRW).keep ((Upd.refl (fun _ => False) wr).drewN kk) (fun _ _ _ h => h))
            have hl9 : (wr.drewN kk).cell? ⟨lb, loff + m, none⟩ = some (.int .i64 (e : Int)) := hlell
            clear INV TRW LN BW hlell hcell
            generalize wr.drewN kk = w9 at *
            go_wp2_with fail
            refine (unhide CO w9 (unhide TR9)).mono ?_
            rintro e1 w10 ⟨rfl, rfl⟩
            go_wp2_with fail
            refine (write_yes _ _ g len0 c (unhide HG) m hmn (unhide CM) gw u V N w10 (unhide TR9) (unhide INV9).wri (by omega)).mono ?_
            rintro e1 w11 ⟨rfl, u', wr11, t11⟩
            have MID := hide ((unhide INV9).write (unhide INV9).bel.size wr11 t11)
            have sz11 := t11.upd.size
            rw [unhide QQ] at wr11
            have LN2 := hide (Wri.len_at gw u' _ _ w11 wr11 (by have : ((e : Int)).toNat = e := rfl; omega))
            clear wr11 t11 INV9 TR9
            go_wp2_with fail
            refine (unhide LN2).mono ?_
            have e5 : ((N + ((e : Int)).toNat : Nat) : Int) = (N : Int) + (e : Int) := by simp
            rw [e5]
            rintro e1 w12 ⟨rfl, k2, rfl⟩
            have MID2 := hide ((unhide MID).drewN k2)
            clear MID LN2 e5
            generalize w11.drewN k2 = w12 at *
            go_wp2_with (first | (at_builtin; refine wpList_append_own_at _ rfl (.tmp 116) (.tmp 118) 22 rfl 0 3 i0 (.int .i64 0) 1 8 Try.underlying22 hi0 hz0 hz1 hz2 rfl (by decide) _ T _ rfl ((unhide MID2).row.alloc _) ⟨w12.heap.size, 0, none⟩ 1 1 [.int .i64 (m : Int)] rfl rfl (cell_one_new _ _ _) (one_one _ _) (by unfold maxLen; omega) (by omega) (Nat.zero_le _) ?_; intro v13 w13 own13 gr13 _ ho13; have INV13 := hide ((unhide MID2).app (unhide MID2).bel.size hmn (unhide CM) own13 gr13 ho13); clear own13 gr13 ho13) | fail)
            go_roundw
            case rel => 
              refine ⟨j + 1, T + 1, _, _, _, _, _, by omega, by go_num, by omega, ?_, unhide INV13⟩
              rw [unhide QQ]
              have : ((e : Int)).toNat = e := rfl
              omega
            case measure => simp [intOf]; omega
        · have CO := hide (fun w' h => cost18 w.heap.size w5.heap.size g len0 c (unhide HG) s w' h)
          have hnb : hasB c len0 s = false := by
            unfold hasB
            rw [decide_eq_false_iff_not]
            exact hyes
          rw [hnb, cost_no hnb] at CO
          have HNB := hide hnb
          clear hnb
          rcases (show s < 0 ∨ (len0 : Int) ≤ s ∨ ∃ m : Nat, s = (m : Int) ∧ m < len0 ∧ c m = 0 from by
            by_cases t1 : s < 0
            · exact .inl t1
            · by_cases t2 : (len0 : Int) ≤ s
              · exact .inr (.inl t2)
              · refine .inr (.inr ⟨s.toNat, by omega, by omega, ?_⟩)
                by_cases t3 : c s.toNat = 0
                · exact t3
                · exact absurd ⟨by omega, by omega, t3⟩ hyes) with hsn | hsn | ⟨m, rfl, hmn, hcm⟩
          · have t1 : decide ((0 : Int) ≤ s) = false := decide_eq_false (by omega)
            clear hyes
            go_wp2_with fail
            refine (unhide LN).mono ?_
            rintro e1 w9 ⟨rfl, kk, rfl⟩
            have INV9 := hide ((unhide INV).drewN kk)
            have TR9 := hide ((unhide TRW).keep ((Upd.refl (fun _ => False) wr).drewN kk) (fun _ _ _ h => h))
            clear INV TRW LN BW hcell
            generalize wr.drewN kk = w9 at *
            go_wp2_with fail
            refine (unhide CO w9 (unhide TR9)).mono ?_
            rintro e1 w10 ⟨rfl, rfl⟩
            go_wp2_with fail
            refine (write_no _ _ g len0 c (unhide HG) _ _ w10 (unhide TR9) (unhide HNB)).mono ?_
            rintro e1 w11 ⟨rfl, rfl⟩
            go_wp2_with fail
            refine (Wri.len_at gw u V N w11 (unhide INV9).wri (by omega)).mono ?_
            rintro e1 w12 ⟨rfl, k2, rfl⟩
            have INV12 := hide ((unhide INV9).drewN k2)
            clear INV9 TR9
            generalize w11.drewN k2 = w12 at *
            go_wp2
            go_roundw
            case rel => exact ⟨j + 1, T, V, N, u, ts, o, by omega, by go_num, by omega, by omega, unhide INV12⟩
            case measure => simp [intOf]; omega
          · have t1 : decide ((0 : Int) ≤ s) = true := decide_eq_true (by omega)
            have t2 : decide (s < (len0 : Int)) = false := decide_eq_false (by omega)
            clear hyes
            go_wp2_with fail
            refine (unhide LN).mono ?_
            rintro e1 w9 ⟨rfl, kk, rfl⟩
            have INV9 := hide ((unhide INV).drewN kk)
            have TR9 := hide ((unhide TRW).keep ((Upd.refl (fun _ => False) wr).drewN kk) (fun _ _ _ h => h))
            clear INV TRW LN BW hcell
            generalize wr.drewN kk = w9 at *
            go_wp2_with fail
            refine (unhide CO w9 (unhide TR9)).mono ?_
            rintro e1 w10 ⟨rfl, rfl⟩
            go_wp2_with fail
            refine (write_no _ _ g len0 c (unhide HG) _ _ w10 (unhide TR9) (unhide HNB)).mono ?_
            rintro e1 w11 ⟨rfl, rfl⟩
            go_wp2_with fail
            refine (Wri.len_at gw u V N w11 (unhide INV9).wri (by omega)).mono ?_
            rintro e1 w12 ⟨rfl, k2, rfl⟩
            have INV12 := hide ((unhide INV9).drewN k2)
            clear INV9 TR9
            generalize w11.drewN k2 = w12 at *
            go_wp2
            go_roundw
            case rel => exact ⟨j + 1, T, V, N, u, ts, o, by omega, by go_num, by omega, by omega, unhide INV12⟩
            case measure => simp [intOf]; omega
          · obtain ⟨q1, q2, q3, hq0⟩ := (unhide SRC).keep (unhide BW)
            cases q3
            obtain ⟨lb, loff, rfl, hlell⟩ := hq0 m hmn
            rw [hcm] at hlell
            have t2 : (m : Int) < (len0 : Int) := by omega
            clear hyes hq0 hcm
            go_wp2_with fail
            refine (unhide LN).mono ?_
            rintro e1 w9 ⟨rfl, kk, rfl⟩
            have INV9 := hide ((unhide INV).drewN kk)
            have TR9 := hide ((unhide TRW).keep ((Upd.refl (fun _ => False) wr).drewN kk) (fun _ _ _ h => h))
            clear INV TRW LN BW hcell
            generalize wr.drewN kk = w9 at *
            go_wp2_with fail
            refine (unhide CO w9 (unhide TR9)).mono ?_
            rintro e1 w10 ⟨rfl, rfl⟩
            go_wp2_with fail
            refine (write_no _ _ g len0 c (unhide HG) _ _ w10 (unhide TR9) (unhide HNB)).mono ?_
            rintro e1 w11 ⟨rfl, rfl⟩
            go_wp2_with fail
            refine (Wri.len_at gw u V N w11 (unhide INV9).wri (by omega)).mono ?_
            rintro e1 w12 ⟨rfl, k2, rfl⟩
            have INV12 := hide ((unhide INV9).drewN k2)
            clear INV9 TR9
            generalize w11.drewN k2 = w12 at *
            go_wp2
            go_roundw
            case rel => exact ⟨j + 1, T, V, N, u, ts, o, by omega, by go_num, by omega, by omega, unhide INV12⟩
            case measure => simp [intOf]; omega
      · obtain rfl : j = len1 := by omega
        have hnl : ¬ (j : Int) < (j : Int) := by omega
        have hNb : N ≤ 1500 := by omega
        have BY := hide (bytes_at gw u V N wr inv.wri (by omega))
        have hT100 : T ≤ 100 := by omega
        clear inv hlt IN8
        go_wp2_with fail
        refine (unhide BY).mono ?_
        rintro e1 w9 ⟨bv, rfl, own9, b9⟩
        have s9 := b9.size
        have SR9 := hide (src_of_own own9)
        have TR9 := hide ((unhide TRW).below b9)
        have IN9 := hide ((Spl.own_ints (unhide INV).row).keep b9)
        have B9 := hide (show Below w.heap.size w w9 from (unhide BW).trans (b9.mono (unhide BW).size))
        clear own9 b9 BY TRW BW
        go_wp2_with fail
        refine (new8 _ _ (byt V) _ (unhide SR9) (by omega)).mono ?_
        rintro e1 w10 ⟨r, rfl, on10, b10⟩
        have AT10 := hide on10.at
        obtain ⟨hr1, hr2, _⟩ := on10.at
        have TR10 := hide (unhide TR9)
        have BB10 := hide b10
        have TO := hide (unhide INV).told
        have VL := hide (unhide INV).wri.lt
        clear on10 b10 SR9
        go_wp2
        go_loopw [19] (fun p wr => ∃ t : Nat, t ≤ T ∧ p = .int .i64 t ∧ At wr w9.heap.size w10.heap.size r (byt V) ((N + 7) / 8) (some (o t)) ∧ Below w9.heap.size w9 wr) (fun p _ => T - (intOf p).toNat)
        case atStart =>
          refine ⟨0, Nat.zero_le _, rfl, ?_, unhide BB10⟩
          rw [(unhide TO).zero]
          exact unhide AT10
        case round =>
          obtain ⟨t, ht, rfl, at', bel⟩ := hrel
          clear AT10 BB10
          by_cases hlt : t < T
          · have hlt' : (t : Int) < (T : Int) := by omega
            obtain ⟨m, m1, m2, m3, m4, m5, m6⟩ := (unhide TO).each t hlt
            have nx := told_nx (o := o) (t := t) (unhide HZ) (unhide VL) m2 m3 (by omega) m6
            obtain ⟨x1, x2, x3, hc0⟩ := (unhide IN9).keep bel
            cases x3
            obtain ⟨tb, toff, rfl, hcell⟩ := hc0 t hlt
            obtain ⟨x1', x2', x3', hc9⟩ := unhide IN9
            cases x3'
            obtain ⟨tb', toff', x4, hcell9⟩ := hc9 t hlt
            cases x4
            rw [m1] at hcell
            have htb : tb < w9.heap.size := lt_of_cell hcell9
            have RD := hide (read13 _ _ g len0 c _ _ r ((N + 7) / 8) (o t) _ m (byt V) (byt_le V) (by omega) wr ((unhide TR10).below bel) at' (.inr (by omega)) (by omega) nx)
            have hin : o t + (qq c len0 m).toNat ≤ 8 * ((N + 7) / 8) := by omega
            have e2 : outV ((N + 7) / 8) (o t) (qq c len0 m).toNat m = (m : Int) := by simp [outV, hin]
            have e3 : outE ((N + 7) / 8) (o t) (qq c len0 m).toNat = 0 := by simp [outE, hin]
            have e4 : outS ((N + 7) / 8) (o t) (qq c len0 m).toNat = some (o (t + 1)) := by rw [m4]; simp [outS, hin]
            rw [e2, e3, e4] at RD
            have BEL := hide bel
            clear hc0 hc9 hcell9 at' bel nx m1 m4 m5 m6 e2 e3 e4 hin
            go_wp2_with fail
            refine (unhide RD).mono ?_
            rintro e1 w11 ⟨rfl, at11, u11⟩
            have AT11 := hide at11
            have c11 := (u11.cell (p := ⟨tb, toff + t, none⟩) (lt_of_cell hcell) (fun h => by simp at h; omega)).trans hcell
            have BEL11 := hide (show Below w9.heap.size w9 w11 from (unhide BEL).trans (u11.below _ (unhide BEL).size (fun k hk => by omega)))
            clear at11 u11 BEL RD
            go_wp2
            go_roundw
            case rel => exact ⟨t + 1, by omega, by go_num, unhide AT11, unhide BEL11⟩
            case measure => simp [intOf]; omega
          · obtain rfl : t = T := by omega
            have hnl2 : ¬ (t : Int) < (t : Int) := by omega
            have BEL := hide bel
            clear at' bel hlt
            go_wp2
            go_ret
            exact ⟨rfl, (unhide B9).trans ((unhide BEL).mono (unhide B9).size)⟩
  · have HZ := hide hz
    have hzb : (chk c len0 != 0) = true := by simpa using hz
    have TN := hide (tnew_no _ len0 c (by omega) (unhide HZ) w (unhide SRC))
    clear hz
    generalize chk c len0 = y at *
    go_enter Try.func4, Try.ntmps4
    go_wp2_with fail
    refine (unhide TN).mono ?_
    rintro e w5 ⟨rfl, b5⟩
    have B5 := hide b5
    clear b5 TN
    go_wp2_with fail
    refine (ans7 w5).mono ?_
    rintro e w7 ⟨rfl, b7⟩
    have B7 := hide ((unhide B5).trans (b7.mono (unhide B5).size))
    clear b7 B5
    go_wp2
    go_ret
    exact ⟨rfl, unhide B7⟩

/-! ### THE ROW's STEP: WRITTEN OUT: LEAVE IT -/
set_option maxRecDepth 100000 in
theorem lifted (os : Os) (started : os.Started) (H : Type) (enc : TypeId × Value → H) :
    ReturnsInHanded {} Try.checked os 4 .any (Rows.treeBackSpec.pre6 enc Try.prog Try.f4 Rows.treeBackRow.domain false) (Rows.treeBackSpec.post enc Try.prog Try.f4 false true false false) := by
  refine returnsInHanded_of_change (C := Try.checked) own started (by kernel_rfl) Try.func4
    (ChangeSpec.witness6 (enc := enc) (C := Try.checked) false ⟨#[], #[.slice none 0 0, .slice none 0 0], []⟩ 8 (by kernel_rfl) (by kernel_rfl) (by kernel_rfl) (by kernel_rfl)) ?_
  intro W base args ds gs before hval0 hW hcnd _
  have hval : ∀ (j : Nat) t v, Try.f4.params[j]? = some t → args[j]? = some v → Value.okWide Try.prog W .any base t v := hval0
  have hW' := hW
  obtain ⟨p, q, hA0, hV, rfl, hfz, hnd⟩ := hW
  have hA : DataW.TrodAll enc Try.prog W 0 (fun _ => true) true Try.f4.params.toList args.toList ds p := hA0
  rw [Try.params4] at hA hval
  obtain ⟨v0, vs0, d0, ds0, p0, q0, hargs, rfl, rfl, h0, r0⟩ := trodAll_cons hA
  obtain ⟨v1, vs1, d1, ds1, p1, q1, rfl, rfl, rfl, h1, r1⟩ := trodAll_cons r0
  obtain ⟨rfl, rfl, rfl⟩ := trodAll_nil r1
  obtain rfl : args = #[v0, v1] := by cases args; simp_all
  obtain ⟨rfl, rfl⟩ := trodVars_none hV
  obtain ⟨a0, len0, cap0, rfl⟩ := okWide_slice Try.underlying22 (hval 0 22 v0 rfl rfl)
  have k0 := h0
  have lt0 : ∀ x ∈ p0, x.block < W.heap.size := by obtain ⟨m, hm⟩ := k0; exact DataW.trod_lt m _ _ _ hm
  obtain ⟨z0, w0⟩ : ∃ zs, IsRow .i64 W a0 len0 cap0 zs := by
    obtain ⟨fuel, hf⟩ := h0
    rcases open_ints Try.underlying22 Try.underlying3 (by kernel_rfl) hf with ⟨hcs, _⟩ | ⟨x, l, c, zs, hcs, _, hl, hm, hz, _, hcell, hwz⟩
    · simp [Value.cells] at hcs
      obtain ⟨rfl, rfl, rfl⟩ := hcs
      exact ⟨[], .inl ⟨rfl, rfl, rfl, rfl⟩⟩
    · simp [Value.cells] at hcs
      obtain ⟨rfl, rfl, rfl⟩ := hcs
      exact ⟨zs, .inr ⟨_, rfl, hl, hm, by simpa using hz, hcell, hwz⟩⟩
  obtain ⟨a1, len1, cap1, rfl⟩ := okWide_slice Try.underlying22 (hval 1 22 v1 rfl rfl)
  have k1 := h1
  have lt1 : ∀ x ∈ p1, x.block < W.heap.size := by obtain ⟨m, hm⟩ := k1; exact DataW.trod_lt m _ _ _ hm
  obtain ⟨z1, w1⟩ : ∃ zs, IsRow .i64 W a1 len1 cap1 zs := by
    obtain ⟨fuel, hf⟩ := h1
    rcases open_ints Try.underlying22 Try.underlying3 (by kernel_rfl) hf with ⟨hcs, _⟩ | ⟨x, l, c, zs, hcs, _, hl, hm, hz, _, hcell, hwz⟩
    · simp [Value.cells] at hcs
      obtain ⟨rfl, rfl, rfl⟩ := hcs
      exact ⟨[], .inl ⟨rfl, rfl, rfl, rfl⟩⟩
    · simp [Value.cells] at hcs
      obtain ⟨rfl, rfl, rfl⟩ := hcs
      exact ⟨zs, .inr ⟨_, rfl, hl, hm, by simpa using hz, hcell, hwz⟩⟩
  clear hA0 hval0
  refine (walk a0 len0 cap0 z0 a1 len1 cap1 z1 W w0 w1).mono fun e W' ⟨he, bel⟩ => ?_
  subst he
  exact ⟨_, rfl, _, _, _, [], _, [], hW', trodAll_mk1 (shut_bool Try.underlying4 _), (trodAll_cons_mk (Below.trod laidOut (by kernel_rfl) (of_decide_eq_true (by kernel_rfl)) k0 bel lt0) (trodAll_cons_mk (Below.trod laidOut (by kernel_rfl) (of_decide_eq_true (by kernel_rfl)) k1 bel lt1) trodAll_mk0)), rfl, bel.frame _, fun h => by cases h⟩

theorem over : Rows.treeBackRow.holds Try.pinned (OpenSpec.ofChange Rows.treeBackSpec) :=
  OpenClaim.holds_of_wide 4 Try.f4 rfl rfl rfl rfl rfl rfl rfl ⟨rfl, rfl, rfl, rfl, rfl⟩ rfl rfl rfl rfl rfl (by kernel_rfl) Try.func4 (by kernel_rfl)
    (of_decide_eq_true (by kernel_rfl)) (by unfold Func.isWrapper; first | (rw [if_pos (by decide +kernel)]; kernel_rfl) | (rw [if_neg (by decide +kernel)]; exact ⟨rfl, rfl⟩))
    (fun os started H enc _ => lifted os started H enc)

/-- ████ THE STATEMENT ████ -/
theorem proved : Rows.TreeBackSaid := over
#print axioms proved
end Go.Proofs.Ytlejicikgmanfaa.treeBack
