/- Contracts: pixel.Add, Sub, Avg, Half, Full, Pick. Conditions: none on the numbers. -/
import Derived.Test.YtnfokdcoelignaaPClo
namespace Go.Proofs.Ytnfokdcoelignaa.PFun
open Go.ChangeShapes Go.WideShapes Go.ChangeAt Go.RowKit Go.Proofs.Ytnfokdcoelignaa.Core Go.Proofs.Ytnfokdcoelignaa.PNum Go.Proofs.Ytnfokdcoelignaa.PPrt Go.Proofs.Ytnfokdcoelignaa.PClo

theorem below_drew {b : Nat} {a w : World} (h : Below b a w) (n : Nat) : Below b a (w.drewN n) := ⟨h.os, h.tape, h.output, h.size, h.block⟩
/-- Two pixels' four in memory, one behind the other; what was there before is as it was. -/
structure TwoB (w : World) (g p q : Nat) (wr : World) : Prop where
  a : Box wr g 56 (four (pf p))
  b : Box wr (g + 1) 56 (four (pf q))
  on : Below w.heap.size w wr
theorem TwoB.drew {w wr : World} {g p q : Nat} (h : TwoB w g p q wr) (n : Nat) : TwoB w g p q (wr.drewN n) := ⟨h.a.drewN n, h.b.drewN n, below_drew h.on n⟩
theorem TwoB.start {w wr : World} (p q : Nat) (u : Below w.heap.size w wr) : TwoB w wr.heap.size p q ((wr.alloc (.cells (four (pf p)) 56)).alloc (.cells (four (pf q)) 56)) := by
  refine ⟨(Box.made wr 56 _).alloc _, ?_, (u.alloc u.size _).alloc ?_ _⟩
  · have := Box.made (wr.alloc (.cells (four (pf p)) 56)) 56 (four (pf q))
    simpa using this
  · have := u.size
    simp; omega
structure ThreeB (w : World) (g p q u : Nat) (wr : World) : Prop where
  a : Box wr g 56 (four (pf p))
  b : Box wr (g + 1) 56 (four (pf q))
  c : Box wr (g + 1 + 1) 56 (four (pf u))
  on : Below w.heap.size w wr
theorem ThreeB.drew {w wr : World} {g p q u : Nat} (h : ThreeB w g p q u wr) (n : Nat) : ThreeB w g p q u (wr.drewN n) := ⟨h.a.drewN n, h.b.drewN n, h.c.drewN n, below_drew h.on n⟩
theorem ThreeB.start {w wr : World} (p q u : Nat) (b : Below w.heap.size w wr) : ThreeB w wr.heap.size p q u (((wr.alloc (.cells (four (pf p)) 56)).alloc (.cells (four (pf q)) 56)).alloc (.cells (four (pf u)) 56)) := by
  have t := TwoB.start p q b
  refine ⟨t.a.alloc _, t.b.alloc _, ?_, t.on.alloc ?_ _⟩
  · have := Box.made ((wr.alloc (.cells (four (pf p)) 56)).alloc (.cells (four (pf q)) 56)) 56 (four (pf u))
    simpa using this
  · have := b.size
    simp; omega
set_option maxHeartbeats 400000 in
theorem add12 (p q : Nat) (w : World) :
    Calls Try.prog 25 #[.int .u32 p, .int .u32 q] w fun e w' => e = .returned (.int .u32 (addV p q)) ∧ Below w.heap.size w w' := by
  have eg : ∀ args w, (callFunc 44 args).run Try.prog w = .ok (.enter 44 args) w := enters_of Try.func44 (by kernel_rfl) rfl
  go_enter Try.func25, Try.ntmps25
  go_wp2_with fail
  refine (four26 p _).mono ?_
  rintro e w1 ⟨rfl, b1⟩
  have B1 := hide b1
  clear b1
  go_wp2_with fail
  refine (four26 q _).mono ?_
  rintro e w2 ⟨rfl, b2⟩
  have B2 := hide b2
  clear b2
  unfold four
  go_wp2_with fail
  refine (each27 44 eg _ (addF p q) (addF_lt p q) (TwoB w w2.heap.size p q) _ (TwoB.start p q ((unhide B1).trans ((unhide B2).mono (unhide B1).size))) ?_).mono ?_
  · intro k wr hk h
    exact (add28 k _ _ hk p q wr h.a h.b).mono fun e w' ⟨he, n, hn⟩ => ⟨he, hn ▸ h.drew n⟩
  · rintro e w3 ⟨rfl, h⟩
    have BB := hide h.on
    clear h
    go_wp2
    go_ret
    exact ⟨rfl, unhide BB⟩
set_option maxHeartbeats 400000 in
theorem sub14 (p q : Nat) (w : World) :
    Calls Try.prog 22 #[.int .u32 p, .int .u32 q] w fun e w' => e = .returned (.int .u32 (subV p q)) ∧ Below w.heap.size w w' := by
  have eg : ∀ args w, (callFunc 40 args).run Try.prog w = .ok (.enter 40 args) w := enters_of Try.func40 (by kernel_rfl) rfl
  go_enter Try.func22, Try.ntmps22
  go_wp2_with fail
  refine (four26 p _).mono ?_
  rintro e w1 ⟨rfl, b1⟩
  have B1 := hide b1
  clear b1
  go_wp2_with fail
  refine (four26 q _).mono ?_
  rintro e w2 ⟨rfl, b2⟩
  have B2 := hide b2
  clear b2
  unfold four
  go_wp2_with fail
  refine (each27 40 eg _ (subF p q) (subF_lt p q) (TwoB w w2.heap.size p q) _ (TwoB.start p q ((unhide B1).trans ((unhide B2).mono (unhide B1).size))) ?_).mono ?_
  · intro k wr hk h
    exact (sub30 k _ _ hk p q wr h.a h.b).mono fun e w' ⟨he, n, hn⟩ => ⟨he, hn ▸ h.drew n⟩
  · rintro e w3 ⟨rfl, h⟩
    have BB := hide h.on
    clear h
    go_wp2
    go_ret
    exact ⟨rfl, unhide BB⟩
set_option maxHeartbeats 400000 in
theorem avg16 (p q : Nat) (w : World) :
    Calls Try.prog 53 #[.int .u32 p, .int .u32 q] w fun e w' => e = .returned (.int .u32 (avgV p q)) ∧ Below w.heap.size w w' := by
  have eg : ∀ args w, (callFunc 61 args).run Try.prog w = .ok (.enter 61 args) w := enters_of Try.func61 (by kernel_rfl) rfl
  go_enter Try.func53, Try.ntmps53
  go_wp2_with fail
  refine (four26 p _).mono ?_
  rintro e w1 ⟨rfl, b1⟩
  have B1 := hide b1
  clear b1
  go_wp2_with fail
  refine (four26 q _).mono ?_
  rintro e w2 ⟨rfl, b2⟩
  have B2 := hide b2
  clear b2
  unfold four
  go_wp2_with fail
  refine (each27 61 eg _ (avgF p q) (avgF_lt p q) (TwoB w w2.heap.size p q) _ (TwoB.start p q ((unhide B1).trans ((unhide B2).mono (unhide B1).size))) ?_).mono ?_
  · intro k wr hk h
    exact (avg31 k _ _ hk p q wr h.a h.b).mono fun e w' ⟨he, n, hn⟩ => ⟨he, hn ▸ h.drew n⟩
  · rintro e w3 ⟨rfl, h⟩
    have BB := hide h.on
    clear h
    go_wp2
    go_ret
    exact ⟨rfl, unhide BB⟩
set_option maxHeartbeats 400000 in
theorem half18 (p q : Nat) (w : World) :
    Calls Try.prog 56 #[.int .u32 p, .int .u32 q] w fun e w' => e = .returned (.int .u32 (halfV p q)) ∧ Below w.heap.size w w' := by
  have eg : ∀ args w, (callFunc 68 args).run Try.prog w = .ok (.enter 68 args) w := enters_of Try.func68 (by kernel_rfl) rfl
  go_enter Try.func56, Try.ntmps56
  go_wp2_with fail
  refine (four26 p _).mono ?_
  rintro e w1 ⟨rfl, b1⟩
  have B1 := hide b1
  clear b1
  go_wp2_with fail
  refine (four26 q _).mono ?_
  rintro e w2 ⟨rfl, b2⟩
  have B2 := hide b2
  clear b2
  unfold four
  go_wp2_with fail
  refine (each27 68 eg _ (halfF p q) (halfF_lt p q) (TwoB w w2.heap.size p q) _ (TwoB.start p q ((unhide B1).trans ((unhide B2).mono (unhide B1).size))) ?_).mono ?_
  · intro k wr hk h
    exact (half32 k _ _ hk p q wr h.a h.b).mono fun e w' ⟨he, n, hn⟩ => ⟨he, hn ▸ h.drew n⟩
  · rintro e w3 ⟨rfl, h⟩
    have BB := hide h.on
    clear h
    go_wp2
    go_ret
    exact ⟨rfl, unhide BB⟩
set_option maxHeartbeats 400000 in
theorem full22 (p q u : Nat) (w : World) :
    Calls Try.prog 55 #[.int .u32 p, .int .u32 q, .int .u32 u] w fun e w' => e = .returned (.int .u32 (fullV p q u)) ∧ Below w.heap.size w w' := by
  have eg : ∀ args w, (callFunc 66 args).run Try.prog w = .ok (.enter 66 args) w := enters_of Try.func66 (by kernel_rfl) rfl
  go_enter Try.func55, Try.ntmps55
  go_wp2_with fail
  refine (four26 p _).mono ?_
  rintro e w1 ⟨rfl, b1⟩
  have B1 := hide b1
  clear b1
  go_wp2_with fail
  refine (four26 q _).mono ?_
  rintro e w2 ⟨rfl, b2⟩
  have B2 := hide b2
  clear b2
  go_wp2_with fail
  refine (four26 u _).mono ?_
  rintro e w3 ⟨rfl, b3⟩
  have B3 := hide ((unhide B1).trans ((((unhide B2).trans (b3.mono (unhide B2).size))).mono (unhide B1).size))
  clear b3
  unfold four
  go_wp2_with fail
  refine (each27 66 eg _ (fullF p q u) (fullF_lt p q u) (ThreeB w w3.heap.size p q u) _ (ThreeB.start p q u (unhide B3)) ?_).mono ?_
  · intro k wr hk h
    exact (full39 k _ _ _ hk p q u wr h.a h.b h.c).mono fun e w' ⟨he, n, hn⟩ => ⟨he, hn ▸ h.drew n⟩
  · rintro e w4 ⟨rfl, h⟩
    have BB := hide h.on
    clear h
    go_wp2
    go_ret
    exact ⟨rfl, unhide BB⟩
set_option maxHeartbeats 400000 in
theorem pick20 (p q u : Nat) (w : World) :
    Calls Try.prog 54 #[.int .u32 p, .int .u32 q, .int .u32 u] w fun e w' => e = .returned (.int .u32 (pickV p q u)) ∧ Below w.heap.size w w' := by
  have eg : ∀ args w, (callFunc 63 args).run Try.prog w = .ok (.enter 63 args) w := enters_of Try.func63 (by kernel_rfl) rfl
  have eh : ∀ args w, (callFunc 65 args).run Try.prog w = .ok (.enter 65 args) w := enters_of Try.func65 (by kernel_rfl) rfl
  go_enter Try.func54, Try.ntmps54
  go_wp2_with fail
  refine (four26 p _).mono ?_
  rintro e w1 ⟨rfl, b1⟩
  have B1 := hide b1
  clear b1
  go_wp2_with fail
  refine (four26 q _).mono ?_
  rintro e w2 ⟨rfl, b2⟩
  have B2 := hide b2
  clear b2
  go_wp2_with fail
  refine (four26 u _).mono ?_
  rintro e w3 ⟨rfl, b3⟩
  have B3 := hide ((unhide B1).trans ((((unhide B2).trans (b3.mono (unhide B2).size))).mono (unhide B1).size))
  clear b3
  unfold four
  go_wp2_with fail
  refine (sum35 63 eg _ (fun k => dif (pt q k) (pt u k)) (fun k => Nat.lt_of_le_of_lt (dif_le q u k) (by omega)) (ThreeB w w3.heap.size p q u) _ (ThreeB.start p q u (unhide B3)) ?_).mono ?_
  · intro k wr hk h
    exact (pick36 k _ _ _ hk p q u wr h.a h.b h.c).mono fun e w' ⟨he, n, hn⟩ => ⟨he, hn ▸ h.drew n⟩
  · rintro e w4 ⟨rfl, h⟩
    have H4 := hide h
    clear h
    rw [tot_far]
    go_wp2_with fail
    refine (sum35 65 eh _ (fun k => dif (pt p k) (pt u k)) (fun k => Nat.lt_of_le_of_lt (dif_le p u k) (by omega)) (ThreeB w w3.heap.size p q u) _ (unhide H4) ?_).mono ?_
    · intro k wr hk h
      exact (pick38 k _ _ _ hk p q u wr h.a h.b h.c).mono fun e w' ⟨he, n, hn⟩ => ⟨he, hn ▸ h.drew n⟩
    · rintro e w5 ⟨rfl, h⟩
      have BB := hide h.on
      clear h
      rw [tot_far]
      by_cases hlt : far q u 4 < far p u 4
      · have E : Hid (pickV p q u = p) := if_pos hlt
        go_wp2
        go_ret
        exact ⟨ret_int (by rw [unhide E]), unhide BB⟩
      · have E : Hid (pickV p q u = q) := if_neg hlt
        go_wp2
        go_ret
        exact ⟨ret_int (by rw [unhide E]), unhide BB⟩
end Go.Proofs.Ytnfokdcoelignaa.PFun
