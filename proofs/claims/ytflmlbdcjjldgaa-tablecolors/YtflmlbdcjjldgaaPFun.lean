/- Contracts: pixel.Add, Sub, Avg, Half, Full, Pick. Conditions: none on the numbers. -/
import Derived.Test.YtflmlbdcjjldgaaPClo
namespace Go.Proofs.Ytflmlbdcjjldgaa.PFun
open Go.ChangeShapes Go.WideShapes Go.ChangeAt Go.RowKit Go.Proofs.Ytflmlbdcjjldgaa.Core Go.Proofs.Ytflmlbdcjjldgaa.PNum Go.Proofs.Ytflmlbdcjjldgaa.PPrt Go.Proofs.Ytflmlbdcjjldgaa.PClo

theorem below_drew {b : Nat} {a w : World} (h : Below b a w) (n : Nat) : Below b a (w.drewN n) := ⟨h.os, h.tape, h.output, h.size, h.block⟩
/-- Two pixels' four in memory, one behind the other; what was there before is as it was. -/
structure TwoB (w : World) (g p q : Nat) (wr : World) : Prop where
  a : Box wr g 66 (four (pf p))
  b : Box wr (g + 1) 66 (four (pf q))
  on : Below w.heap.size w wr
theorem TwoB.drew {w wr : World} {g p q : Nat} (h : TwoB w g p q wr) (n : Nat) : TwoB w g p q (wr.drewN n) := ⟨h.a.drewN n, h.b.drewN n, below_drew h.on n⟩
theorem TwoB.start {w wr : World} (p q : Nat) (u : Below w.heap.size w wr) : TwoB w wr.heap.size p q ((wr.alloc (.cells (four (pf p)) 66)).alloc (.cells (four (pf q)) 66)) := by
  refine ⟨(Box.made wr 66 _).alloc _, ?_, (u.alloc u.size _).alloc ?_ _⟩
  · have := Box.made (wr.alloc (.cells (four (pf p)) 66)) 66 (four (pf q))
    simpa using this
  · have := u.size
    simp; omega
structure ThreeB (w : World) (g p q u : Nat) (wr : World) : Prop where
  a : Box wr g 66 (four (pf p))
  b : Box wr (g + 1) 66 (four (pf q))
  c : Box wr (g + 1 + 1) 66 (four (pf u))
  on : Below w.heap.size w wr
theorem ThreeB.drew {w wr : World} {g p q u : Nat} (h : ThreeB w g p q u wr) (n : Nat) : ThreeB w g p q u (wr.drewN n) := ⟨h.a.drewN n, h.b.drewN n, h.c.drewN n, below_drew h.on n⟩
theorem ThreeB.start {w wr : World} (p q u : Nat) (b : Below w.heap.size w wr) : ThreeB w wr.heap.size p q u (((wr.alloc (.cells (four (pf p)) 66)).alloc (.cells (four (pf q)) 66)).alloc (.cells (four (pf u)) 66)) := by
  have t := TwoB.start p q b
  refine ⟨t.a.alloc _, t.b.alloc _, ?_, t.on.alloc ?_ _⟩
  · have := Box.made ((wr.alloc (.cells (four (pf p)) 66)).alloc (.cells (four (pf q)) 66)) 66 (four (pf u))
    simpa using this
  · have := b.size
    simp; omega
set_option maxHeartbeats 400000 in
theorem add12 (p q : Nat) (w : World) :
    Calls Try.prog 29 #[.int .u32 p, .int .u32 q] w fun e w' => e = .returned (.int .u32 (addV p q)) ∧ Below w.heap.size w w' := by
  have eg : ∀ args w, (callFunc 43 args).run Try.prog w = .ok (.enter 43 args) w := enters_of Try.func43 (by kernel_rfl) rfl
  go_enter Try.func29, Try.ntmps29
  go_wp2_with fail
  refine (four26 p _).mono ?_
  rintro e w1 ⟨rfl, b1⟩
  have B1 := hide b1
  clear b1
  go_wp2_with fail
  refine (four26 q _).mono ?_
  rintro e w2 ⟨rfl, b2⟩
  have B2 := hide b2
  clear b2
  unfold four
  go_wp2_with fail
  refine (each27 43 eg _ (addF p q) (addF_lt p q) (TwoB w w2.heap.size p q) _ (TwoB.start p q ((unhide B1).trans ((unhide B2).mono (unhide B1).size))) ?_).mono ?_
  · intro k wr hk h
    exact (add28 k _ _ hk p q wr h.a h.b).mono fun e w' ⟨he, n, hn⟩ => ⟨he, hn ▸ h.drew n⟩
  · rintro e w3 ⟨rfl, h⟩
    have BB := hide h.on
    clear h
    go_wp2
    go_ret
    exact ⟨rfl, unhide BB⟩
set_option maxHeartbeats 400000 in
theorem sub14 (p q : Nat) (w : World) :
    Calls Try.prog 26 #[.int .u32 p, .int .u32 q] w fun e w' => e = .returned (.int .u32 (subV p q)) ∧ Below w.heap.size w w' := by
  have eg : ∀ args w, (callFunc 42 args).run Try.prog w = .ok (.enter 42 args) w := enters_of Try.func42 (by kernel_rfl) rfl
  go_enter Try.func26, Try.ntmps26
  go_wp2_with fail
  refine (four26 p _).mono ?_
  rintro e w1 ⟨rfl, b1⟩
  have B1 := hide b1
  clear b1
  go_wp2_with fail
  refine (four26 q _).mono ?_
  rintro e w2 ⟨rfl, b2⟩
  have B2 := hide b2
  clear b2
  unfold four
  go_wp2_with fail
  refine (each27 42 eg _ (subF p q) (subF_lt p q) (TwoB w w2.heap.size p q) _ (TwoB.start p q ((unhide B1).trans ((unhide B2).mono (unhide B1).size))) ?_).mono ?_
  · intro k wr hk h
    exact (sub30 k _ _ hk p q wr h.a h.b).mono fun e w' ⟨he, n, hn⟩ => ⟨he, hn ▸ h.drew n⟩
  · rintro e w3 ⟨rfl, h⟩
    have BB := hide h.on
    clear h
    go_wp2
    go_ret
    exact ⟨rfl, unhide BB⟩
end Go.Proofs.Ytflmlbdcjjldgaa.PFun
