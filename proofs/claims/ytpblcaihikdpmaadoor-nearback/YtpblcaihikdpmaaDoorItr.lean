/- Contract: the iterator of near.points. Conditions: the package's list holds what the program's text lays. -/
import Derived.RangeFuncNested
import Derived.RangeFuncBound
import Derived.RangeFuncCalls
import Derived.RangeFuncLeaves
import Derived.RangeFuncFrom
import Derived.Shelf.Abstract
import Derived.Shelf.RegionOpen
import Derived.WalkKit
import Derived.OwnWalkIn
import Derived.TacticsInMore
import Derived.LoopNIn
import Derived.LoopIn
import Derived.Test.YtpblcaihikdpmaaDoorPts
namespace Go.Proofs.YtpblcaihikdpmaaDoor.Itr
open Go.ChangeShapes Go.WideShapes Go.ChangeAt Go.RowKit Go.Shelf Go.Proofs.YtpblcaihikdpmaaDoor.Core Go.Proofs.YtpblcaihikdpmaaDoor.Num Go.Proofs.YtpblcaihikdpmaaDoor.Pts
attribute [local go_sem] Oper.semAt_some

/-- The list's block stays. -/
def Bz (W W' : World) : Prop := W'.heap[0]? = W.heap[0]?
theorem Bz.tab {W W' : World} (h : Bz W W') (t : Tab W) : Tab W' := fun j hj => (World.cell?_of_block (w := W) (show W'.heap[(⟨0, j, none⟩ : Addr).block]? = _ from h)).trans (t j hj)
theorem Bz.trans {A B C : World} (h : Bz A B) (k : Bz B C) : Bz A C := Eq.trans k h
def allOf : List Nat := List.range 120
abbrev ag (m : Nat) : Value := .agg #[.int .i64 (px m), .int .i64 (py m)]
abbrev en (m : Nat) : Array Value := #[.int .i64 ((m : Int) + 1), ag m]

set_option maxRecDepth 100000 in
set_option maxHeartbeats 2000000 in
theorem pts19 (n : Nat) (hn : 1 ≤ n) (l : Nat) (J Jx : List Nat → World → Prop)
    (hJ : ∀ pre W W', J pre W → Below W.heap.size W W' → J pre W')
    (hY : ∀ pre x W, J pre W → pre.length < 120 → YieldAt Fence.wide (n - 1) Tryd.prog l (en x) W fun e W' =>
      (e = .returned (.bool true) ∧ J (pre ++ [x]) W' ∧ Bz W W') ∨ (e = .returned (.bool false) ∧ Jx (pre ++ [x]) W'))
    (W : World) (t : Tab W) (h0 : J [] W) :
    CallsIn Fence.wide n Tryd.prog 19 #[.func (.yield l) #[] #[]] W fun e W' => (∃ v, e = .returned v) ∧
      ((∃ ys, ys = allOf ∧ J ys W') ∨ (∃ pre, (∃ k, k < 120 ∧ pre = List.range (k + 1)) ∧ Jx pre W')) := by
  have YY := hide hY
  have JW := hide hJ
  have TT := hide t
  have ht14 : Fence.wide.fn 14 := trivial
  clear hY hJ t
  refine callsIn_of_wp Tryd.func19 rfl trivial ?_ rfl
  simp only [Tryd.ntmps19, List.size_toArray, List.length_cons, List.length_nil, Nat.reduceAdd, Nat.reduceSub, Array.replicate_succ, Array.replicate_zero, List.push_toArray, List.append_toArray, List.nil_append, List.cons_append]
  gi_wp2
  gi_loopw [2] (fun i wr => ∃ k : Nat, k ≤ 120 ∧ i = .int .i64 ((k : Int) + 1) ∧ J (List.range k) wr ∧ Tab wr) (fun i _ => 121 - (intOf i).toNat)
  case atStart => exact ⟨0, Nat.zero_le _, rfl, h0, unhide TT⟩
  case round =>
    obtain ⟨k, hk, rfl, hJs, htr⟩ := hrel
    have JJ := hide hJs
    have TR := hide htr
    clear hJs htr
    by_cases hlt : k < 120
    · have hle : (k : Int) + 1 ≤ 120 := by omega
      gi_wp2_with (first | (gi_at_call 14; refine (callsIn_wide.2 (pt14 k wr hlt (unhide TR))).mono ?_; rintro e w1 ⟨rfl, hb⟩; have HT := hide ((unhide TR).on hb); obtain ⟨fn, tmps, assign, body, hy, hR⟩ := unhide YY _ k w1 (unhide JW _ _ _ (unhide JJ) hb) (by rw [List.length_range]; omega); dsimp only [en, ag] at hy; have HR := hide (hR.mono (R' := fun e W' => ∃ b : Bool, e = .returned (.bool b) ∧ ((b = true ∧ J (List.range k ++ [k]) W' ∧ Bz w1 W') ∨ (b = false ∧ Jx (List.range k ++ [k]) W'))) (fun e W' h => h.elim (fun h => ⟨true, h.1, .inl ⟨rfl, h.2⟩⟩) (fun h => ⟨false, h.1, .inr ⟨rfl, h.2⟩⟩))); clear hR hb) | (refine (unhide HR).mono ?_; rintro e W3 ⟨b, rfl, h3⟩; have H3 := hide h3; clear h3))
      · refine bodyPost_ret (results_none rfl _ _ _) rfl ⟨⟨_, rfl⟩, .inr ⟨_, ⟨k, hlt, rfl⟩, ?_⟩⟩
        rename_i hb
        rcases unhide H3 with ⟨e1, _⟩ | ⟨_, e2⟩
        · rw [e1] at hb
          cases hb
        · rw [List.range_succ]
          exact e2
      · refine ⟨⟨k + 1, by omega, by go_num, ?_⟩, by simp [intOf]; omega⟩
        rename_i hb
        rcases unhide H3 with ⟨_, e2, e3⟩ | ⟨e1, _⟩
        · rw [List.range_succ]
          exact ⟨e2, e3.tab (unhide HT)⟩
        · rw [e1] at hb
          cases hb
    · have hke : k = 120 := by omega
      have hnl : ¬ (k : Int) + 1 ≤ 120 := by omega
      gi_wp2
      go_end0
      have h9 : J allOf wr := by
        unfold allOf
        rw [← hke]
        exact unhide JJ
      exact ⟨⟨_, rfl⟩, .inl (by first | exact h9 | exact ⟨_, rfl, h9⟩)⟩
theorem pts18 (n : Nat) (w : World) : CallsIn Fence.wide n Tryd.prog 18 #[] w fun e w' => e = .returned (.func (.func 19) #[] #[]) ∧ w' = w := by
  refine callsIn_of_wp Tryd.func18 rfl trivial ?_ rfl
  simp only [Tryd.ntmps18, List.size_toArray, List.length_nil, Nat.reduceSub, Array.replicate_succ, Array.replicate_zero, List.push_toArray, List.append_toArray, List.nil_append]
  gi_wp2
  go_ret
  exact ⟨rfl, rfl⟩
theorem pts_stops (n : Nat) (hn : 1 ≤ n) (w : World) (t : Tab w) :
    SeqStopsK Fence.wide n Tryd.prog 19 #[] en Bz (fun ys => ys = allOf) (fun pre => ∃ k, k < 120 ∧ pre = List.range (k + 1)) 120 w := fun l J Jx W hW hJ _ hY h0 => by
  refine pts19 n hn l J Jx (fun pre A B h b => hJ pre A B none h ⟨b.os, b.tape, b.output, b.size, fun k hk _ => b.block k hk⟩ (fun r e => by cases e)) hY W (t.on hW) h0
end Go.Proofs.YtpblcaihikdpmaaDoor.Itr
