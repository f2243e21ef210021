/- Contract: size.Total. Conditions: the slices read as integers, and they are few. -/
import Derived.RangeFuncNested
import Derived.RangeFuncBound
import Derived.RangeFuncCalls
import Derived.RangeFuncLeaves
import Derived.RangeFuncFrom
import Derived.Shelf.Abstract
import Derived.Shelf.RegionOpen
import Derived.WalkKit
import Derived.OwnWalkIn
import Derived.TacticsInMore
import Derived.LoopNIn
import Derived.LoopIn
import Derived.Test.YtcfnbbelbadmkaaGnd
namespace Go.Proofs.Ytcfnbbelbadmkaa.Tot
open Go.ChangeShapes Go.WideShapes Go.ChangeAt Go.RowKit Go.Shelf Go.Proofs.Ytcfnbbelbadmkaa.Core Go.Proofs.Ytcfnbbelbadmkaa.Gnd
attribute [local go_sem] Oper.semAt_some

abbrev encs (p : Int × Int) : Array Value := #[.int .i64 p.1, .int .i64 p.2]
def zipF (ca cb : Nat → Int) (m : Nat) : List (Int × Int) := (List.range m).map fun i => (ca i, cb i)
theorem zipF_succ (ca cb : Nat → Int) (m : Nat) : zipF ca cb (m + 1) = zipF ca cb m ++ [(ca m, cb m)] := by simp [zipF, List.range_succ]
theorem zipF_len (ca cb : Nat → Int) (m : Nat) : (zipF ca cb m).length = m := by simp [zipF]
/-- All blocks below n but T stay. -/
def But (n T : Nat) (W W' : World) : Prop := ∀ k, k < n → k ≠ T → W'.heap[k]? = W.heap[k]?
theorem But.cell {n T : Nat} {W W' : World} (h : But n T W W') {p : Addr} (hp : p.block < n) (hT : p.block ≠ T) : W'.cell? p = W.cell? p := World.cell?_of_block (h p.block hp hT)
theorem But.trans {n T : Nat} {A B C : World} (h : But n T A B) (k : But n T B C) : But n T A C := fun i hi ht => (k i hi ht).trans (h i hi ht)

set_option maxRecDepth 100000 in
set_option maxHeartbeats 2000000 in
theorem bes25 (n : Nat) (hn : 1 ≤ n) (l B1 B2 n0 T l1 c1 l2 c2 : Nat) (a1 a2 : Option Addr) (ca cb : Nat → Int) (hB1 : B1 < n0 ∧ B1 ≠ T) (hB2 : B2 < n0 ∧ B2 ≠ T) (hl1 : l1 ≤ 100000) (hl2 : l2 ≤ 100000) (J Jx : List (Int × Int) → World → Prop)
    (hJ : ∀ pre W, J pre W → J pre W.drew)
    (hY : ∀ pre x W, J pre W → pre.length < min l1 l2 → YieldAt Fence.wide (n - 1) Try.prog l (encs x) W fun e W' =>
      (e = .returned (.bool true) ∧ J (pre ++ [x]) W' ∧ But n0 T W W') ∨ (e = .returned (.bool false) ∧ Jx (pre ++ [x]) W'))
    (W : World) (hc1 : W.cell? ⟨B1, 0, none⟩ = some (.slice a1 l1 c1)) (hc2 : W.cell? ⟨B2, 0, none⟩ = some (.slice a2 l2 c2))
    (d1 : ∀ i, i < l1 → ∃ b o, a1 = some ⟨b, o, none⟩ ∧ (b < n0 ∧ b ≠ T) ∧ W.cell? ⟨b, o + i, none⟩ = some (.int .i64 (ca i))) (d2 : ∀ i, i < l2 → ∃ b o, a2 = some ⟨b, o, none⟩ ∧ (b < n0 ∧ b ≠ T) ∧ W.cell? ⟨b, o + i, none⟩ = some (.int .i64 (cb i))) (h0 : J [] W) :
    CallsIn Fence.wide n Try.prog 25 #[.func (.yield l) #[] #[], .pointer (some ⟨B1, 0, none⟩), .pointer (some ⟨B2, 0, none⟩)] W fun e W' => (∃ v, e = .returned v) ∧
      ((∃ ys, ys = zipF ca cb (min l1 l2) ∧ J ys W') ∨ (∃ pre, True ∧ Jx pre W')) := by
  have hmx : Try.prog.follows .mixedOrders = true := by kernel_rfl
  have YY := hide hY
  have JW := hide hJ
  clear hY hJ
  have D1 := hide d1
  have D2 := hide d2
  clear d1 d2
  refine callsIn_of_wp Try.func25 rfl trivial ?_ rfl
  simp only [Try.ntmps25, List.size_toArray, List.length_cons, List.length_nil, Nat.reduceAdd, Nat.reduceSub, Array.replicate_succ, Array.replicate_zero, List.push_toArray, List.append_toArray, List.nil_append, List.cons_append]
  by_cases hlt0 : l2 < l1
  · skip
    gi_wp2
    gi_loopw [10] (fun i wr => ∃ k : Nat, k ≤ l2 ∧ i = .int .i64 k ∧ J (zipF ca cb k) wr ∧ But n0 T W wr) (fun i _ => l2 - (intOf i).toNat)
    case atStart => exact ⟨0, Nat.zero_le _, rfl, h0, fun _ _ _ => rfl⟩
    case round =>
      obtain ⟨k, hk, rfl, hJs, hnx⟩ := hrel
      have JJ := hide hJs
      have NX := hide hnx
      by_cases hlt : k < l2
      · have hlt' : (k : Int) < (l2 : Int) := by omega
        have k1 : (k : Int) < (l1 : Int) := by omega
        have k2 : (k : Int) < (l2 : Int) := by omega
        obtain ⟨b1, o1, rfl, q1, e1⟩ := unhide D1 k (by omega)
        obtain ⟨b2, o2, rfl, q2, e2⟩ := unhide D2 k (by omega)
        have x1 := (hnx.cell (p := ⟨b1, o1 + k, none⟩) q1.1 q1.2).trans e1
        have x2 := (hnx.cell (p := ⟨b2, o2 + k, none⟩) q2.1 q2.2).trans e2
        have y1 := (hnx.cell (p := ⟨B1, 0, none⟩) hB1.1 hB1.2).trans hc1
        have y2 := (hnx.cell (p := ⟨B2, 0, none⟩) hB2.1 hB2.2).trans hc2
        obtain ⟨fn, tmps, assign, body, hy, hR⟩ := unhide YY _ (ca k, cb k) wr.drew (unhide JW _ _ (unhide JJ)) (by rw [zipF_len]; omega)
        dsimp only [encs] at hy
        have HR := hide (hR.mono (R' := fun e W' => ∃ b : Bool, e = .returned (.bool b) ∧ ((b = true ∧ J (zipF ca cb k ++ [(ca k, cb k)]) W' ∧ But n0 T wr.drew W') ∨ (b = false ∧ Jx (zipF ca cb k ++ [(ca k, cb k)]) W')) ) (fun e W' h => by
          rcases h with ⟨e1, e2, e3⟩ | ⟨e1, e2⟩
          · exact ⟨true, e1, .inl ⟨rfl, e2, e3⟩⟩
          · exact ⟨false, e1, .inr ⟨rfl, e2⟩⟩))
        clear hJs hnx e1 e2 hc1 hc2 q1 q2 hR
        gi_wp2
        rename_i Q1 Q2 K1 h1K K hK
        have HK : ∀ (b : Bool) (W3 : World), ((b = true ∧ J (zipF ca cb k ++ [(ca k, cb k)]) W3 ∧ But n0 T wr.drew W3) ∨ (b = false ∧ Jx (zipF ca cb k ++ [(ca k, cb k)]) W3)) →
            K { tmps := #[.func (.yield l) #[] #[], .pointer (some ⟨B1, 0, none⟩), .pointer (some ⟨B2, 0, none⟩), undef, .int .i64 k, .slice (some ⟨b1, o1, none⟩) l1 c1, .int .i64 l1, .slice (some ⟨b2, o2, none⟩) l2 c2, .int .i64 l2, .int .i64 l2, .int .i64 k, .bool true, .int .i64 k, .func (.yield l) #[] #[], .slice (some ⟨b1, o1, none⟩) l1 c1, .int .i64 k, .pointer (some ⟨b1, o1 + k, none⟩), .int .i64 (ca k), .slice (some ⟨b2, o2, none⟩) l2 c2, .int .i64 k, .pointer (some ⟨b2, o2 + k, none⟩), .int .i64 (cb k), .bool b, .bool (!b), u24], defers := [] } W3 := by
          intro b W3 h3
          have H3 := hide h3
          clear h3
          refine hK _ _ ?_
          cases b
          · gi_wp2
            refine bodyPost_ret (results_none rfl _ _ _) rfl ?_
            rcases unhide H3 with ⟨e1, _⟩ | ⟨_, e2⟩
            · cases e1
            · exact ⟨⟨_, rfl⟩, .inr ⟨_, e2⟩⟩
          · gi_wp2
            go_roundw
            case rel =>
              rcases unhide H3 with ⟨_, e2, e3⟩ | ⟨e1, _⟩
              · exact ⟨k + 1, by omega, by go_num, by rw [zipF_succ]; exact e2, (unhide NX).trans (fun i h1 h2 => (e3 i h1 h2))⟩
              · cases e1
            case measure => simp [intOf]; omega
        have hkl : k ≤ 100000 := by omega
        refine (fun key : ∀ QQ : Act → World → Prop, (∀ (b : Bool) (W3 : World), ((b = true ∧ J (zipF ca cb k ++ [(ca k, cb k)]) W3 ∧ But n0 T wr.drew W3) ∨ (b = false ∧ Jx (zipF ca cb k ++ [(ca k, cb k)]) W3)) →
            QQ { tmps := #[.func (.yield l) #[] #[], .pointer (some ⟨B1, 0, none⟩), .pointer (some ⟨B2, 0, none⟩), undef, .int .i64 k, .slice (some ⟨b1, o1, none⟩) l1 c1, .int .i64 l1, .slice (some ⟨b2, o2, none⟩) l2 c2, .int .i64 l2, .int .i64 l2, .int .i64 k, .bool true, .int .i64 k, .func (.yield l) #[] #[], .slice (some ⟨b1, o1, none⟩) l1 c1, .int .i64 k, .pointer (some ⟨b1, o1 + k, none⟩), .int .i64 (ca k), .slice (some ⟨b2, o2, none⟩) l2 c2, .int .i64 k, .pointer (some ⟨b2, o2 + k, none⟩), .int .i64 (cb k), .bool b, .bool (!b), u24], defers := [] } W3) → Code.wpIn Fence.wide n Try.prog _ (Exit.then QQ (fun _ _ _ => False)) _ wr => Code.wpIn_mono (fun e a w h => by cases e <;> first | exact h | exact False.elim h) (key _ (fun b W3 h => HK b W3 h))) ?_
        clear hK h1K HK K K1 Q2 Q1 YY JW D1 D2 JJ NX h0 hB1 hB2 hk hlt hlt0 hlt'
        intro QQ hq
        have HQ := hide hq
        clear hq
        gi_region_with_o (refine (unhide HR).mono ?_; rintro e W3 ⟨b, rfl, h3⟩; have H3 := hide h3; clear h3)
        all_goals exact unhide HQ _ _ (unhide H3)
      · obtain rfl : k = l2 := by omega
        have hnl : ¬ (k : Int) < (k : Int) := by omega
        clear hJs hnx
        gi_wp2
        go_end0
        refine ⟨⟨_, rfl⟩, .inl ?_⟩
        rw [show min l1 k = k by omega]
        exact unhide JJ
  · skip
    gi_wp2
    gi_loopw [10] (fun i wr => ∃ k : Nat, k ≤ l1 ∧ i = .int .i64 k ∧ J (zipF ca cb k) wr ∧ But n0 T W wr) (fun i _ => l1 - (intOf i).toNat)
    case atStart => exact ⟨0, Nat.zero_le _, rfl, h0, fun _ _ _ => rfl⟩
    case round =>
      obtain ⟨k, hk, rfl, hJs, hnx⟩ := hrel
      have JJ := hide hJs
      have NX := hide hnx
      by_cases hlt : k < l1
      · have hlt' : (k : Int) < (l1 : Int) := by omega
        have k1 : (k : Int) < (l1 : Int) := by omega
        have k2 : (k : Int) < (l2 : Int) := by omega
        obtain ⟨b1, o1, rfl, q1, e1⟩ := unhide D1 k (by omega)
        obtain ⟨b2, o2, rfl, q2, e2⟩ := unhide D2 k (by omega)
        have x1 := (hnx.cell (p := ⟨b1, o1 + k, none⟩) q1.1 q1.2).trans e1
        have x2 := (hnx.cell (p := ⟨b2, o2 + k, none⟩) q2.1 q2.2).trans e2
        have y1 := (hnx.cell (p := ⟨B1, 0, none⟩) hB1.1 hB1.2).trans hc1
        have y2 := (hnx.cell (p := ⟨B2, 0, none⟩) hB2.1 hB2.2).trans hc2
        obtain ⟨fn, tmps, assign, body, hy, hR⟩ := unhide YY _ (ca k, cb k) wr.drew (unhide JW _ _ (unhide JJ)) (by rw [zipF_len]; omega)
        dsimp only [encs] at hy
        have HR := hide (hR.mono (R' := fun e W' => ∃ b : Bool, e = .returned (.bool b) ∧ ((b = true ∧ J (zipF ca cb k ++ [(ca k, cb k)]) W' ∧ But n0 T wr.drew W') ∨ (b = false ∧ Jx (zipF ca cb k ++ [(ca k, cb k)]) W')) ) (fun e W' h => by
          rcases h with ⟨e1, e2, e3⟩ | ⟨e1, e2⟩
          · exact ⟨true, e1, .inl ⟨rfl, e2, e3⟩⟩
          · exact ⟨false, e1, .inr ⟨rfl, e2⟩⟩))
        clear hJs hnx e1 e2 hc1 hc2 q1 q2 hR
        gi_wp2
        rename_i Q1 Q2 K1 h1K K hK
        have HK : ∀ (b : Bool) (W3 : World), ((b = true ∧ J (zipF ca cb k ++ [(ca k, cb k)]) W3 ∧ But n0 T wr.drew W3) ∨ (b = false ∧ Jx (zipF ca cb k ++ [(ca k, cb k)]) W3)) →
            K { tmps := #[.func (.yield l) #[] #[], .pointer (some ⟨B1, 0, none⟩), .pointer (some ⟨B2, 0, none⟩), undef, .int .i64 k, .slice (some ⟨b1, o1, none⟩) l1 c1, .int .i64 l1, .slice (some ⟨b2, o2, none⟩) l2 c2, .int .i64 l2, .int .i64 l1, .int .i64 k, .bool true, .int .i64 k, .func (.yield l) #[] #[], .slice (some ⟨b1, o1, none⟩) l1 c1, .int .i64 k, .pointer (some ⟨b1, o1 + k, none⟩), .int .i64 (ca k), .slice (some ⟨b2, o2, none⟩) l2 c2, .int .i64 k, .pointer (some ⟨b2, o2 + k, none⟩), .int .i64 (cb k), .bool b, .bool (!b), u24], defers := [] } W3 := by
          intro b W3 h3
          have H3 := hide h3
          clear h3
          refine hK _ _ ?_
          cases b
          · gi_wp2
            refine bodyPost_ret (results_none rfl _ _ _) rfl ?_
            rcases unhide H3 with ⟨e1, _⟩ | ⟨_, e2⟩
            · cases e1
            · exact ⟨⟨_, rfl⟩, .inr ⟨_, e2⟩⟩
          · gi_wp2
            go_roundw
            case rel =>
              rcases unhide H3 with ⟨_, e2, e3⟩ | ⟨e1, _⟩
              · exact ⟨k + 1, by omega, by go_num, by rw [zipF_succ]; exact e2, (unhide NX).trans (fun i h1 h2 => (e3 i h1 h2))⟩
              · cases e1
            case measure => simp [intOf]; omega
        have hkl : k ≤ 100000 := by omega
        refine (fun key : ∀ QQ : Act → World → Prop, (∀ (b : Bool) (W3 : World), ((b = true ∧ J (zipF ca cb k ++ [(ca k, cb k)]) W3 ∧ But n0 T wr.drew W3) ∨ (b = false ∧ Jx (zipF ca cb k ++ [(ca k, cb k)]) W3)) →
            QQ { tmps := #[.func (.yield l) #[] #[], .pointer (some ⟨B1, 0, none⟩), .pointer (some ⟨B2, 0, none⟩), undef, .int .i64 k, .slice (some ⟨b1, o1, none⟩) l1 c1, .int .i64 l1, .slice (some ⟨b2, o2, none⟩) l2 c2, .int .i64 l2, .int .i64 l1, .int .i64 k, .bool true, .int .i64 k, .func (.yield l) #[] #[], .slice (some ⟨b1, o1, none⟩) l1 c1, .int .i64 k, .pointer (some ⟨b1, o1 + k, none⟩), .int .i64 (ca k), .slice (some ⟨b2, o2, none⟩) l2 c2, .int .i64 k, .pointer (some ⟨b2, o2 + k, none⟩), .int .i64 (cb k), .bool b, .bool (!b), u24], defers := [] } W3) → Code.wpIn Fence.wide n Try.prog _ (Exit.then QQ (fun _ _ _ => False)) _ wr => Code.wpIn_mono (fun e a w h => by cases e <;> first | exact h | exact False.elim h) (key _ (fun b W3 h => HK b W3 h))) ?_
        clear hK h1K HK K K1 Q2 Q1 YY JW D1 D2 JJ NX h0 hB1 hB2 hk hlt hlt0 hlt'
        intro QQ hq
        have HQ := hide hq
        clear hq
        gi_region_with_o (refine (unhide HR).mono ?_; rintro e W3 ⟨b, rfl, h3⟩; have H3 := hide h3; clear h3)
        all_goals exact unhide HQ _ _ (unhide H3)
      · obtain rfl : k = l1 := by omega
        have hnl : ¬ (k : Int) < (k : Int) := by omega
        clear hJs hnx
        gi_wp2
        go_end0
        refine ⟨⟨_, rfl⟩, .inl ?_⟩
        rw [show min k l2 = k by omega]
        exact unhide JJ
end Go.Proofs.Ytcfnbbelbadmkaa.Tot
