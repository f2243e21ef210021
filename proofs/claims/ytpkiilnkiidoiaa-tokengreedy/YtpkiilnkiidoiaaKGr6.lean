/- Contracts: token.Greedy. Conditions: at most a hundred thousand pixels. -/
import Derived.Test.YtpkiilnkiidoiaaKGr4
import Derived.Test.YtpkiilnkiidoiaaKGr5
namespace Go.Proofs.Ytpkiilnkiidoiaa.KGr6
set_option linter.unusedVariables false
open Go.ChangeShapes Go.WideShapes Go.ChangeAt Go.RowKit Go.Maps Go.Proofs.Ytpkiilnkiidoiaa.Core Go.Proofs.Ytpkiilnkiidoiaa.CNum Go.Proofs.Ytpkiilnkiidoiaa.KNum Go.Proofs.Ytpkiilnkiidoiaa.KMem Go.Proofs.Ytpkiilnkiidoiaa.KFit Go.Proofs.Ytpkiilnkiidoiaa.KGr0 Go.Proofs.Ytpkiilnkiidoiaa.KGr1 Go.Proofs.Ytpkiilnkiidoiaa.KGr2 Go.Proofs.Ytpkiilnkiidoiaa.KGr3 Go.Proofs.Ytpkiilnkiidoiaa.KGr4 Go.Proofs.Ytpkiilnkiidoiaa.KGr5

/-- What Greedy's search answers at a place: no copy, or one that fits. -/
def KAns (w : World) (px : List Nat) (k : Nat) (e : Ending) (w' : World) : Prop := (∃ L D : Nat, e = .returned (.agg #[.int .i64 k, .int .i64 L, .int .i64 D]) ∧ (L = 0 ∨ fit1 px ⟨k, L, D⟩ = true) ∧ k + L ≤ px.length) ∧ Below w.heap.size w w'
theorem cop_fit {px : List Nat} {k hi L D : Nat} (h : Cop px k hi L D) (h1 : hi ≤ px.length) (h2 : hi ≤ k + 4096) (hk : k ≤ px.length) : (L = 0 ∨ fit1 px ⟨k, L, D⟩ = true) ∧ k + L ≤ px.length := by
  rcases h with h | ⟨a1, a2, a3, a4, a5, a6⟩
  · exact ⟨.inl h, by omega⟩
  · refine ⟨.inr ?_, by omega⟩
    have o : okV px.length ⟨k, L, D⟩ = true := decide_eq_true (show 0 ≤ (k : Int) ∧ 1 ≤ (L : Int) ∧ (L : Int) ≤ 4096 ∧ 1 ≤ (D : Int) ∧ (D : Int) ≤ (k : Int) ∧ (D : Int) ≤ 1048456 ∧ (k : Int) + (L : Int) ≤ ((px.length : Nat) : Int) by omega)
    unfold fit1
    rw [o, Bool.true_and]
    exact decide_eq_true a6
theorem longest26 {B g mb ab b off n c k : Nat} {w : World} {px : List Nat} (h : Gr B w g mb ab n k (some ⟨b, off, none⟩) c) (hp : Lst B w (some ⟨b, off, none⟩) px) (hpn : n = px.length) (hs : ∀ x ∈ px, x < 4294967296) (hk : k + 3 ≤ n) (hn : n ≤ 100000) (hnc : n ≤ c) (tr : Int) (htr : tr ≤ 1024) :
    Calls Try.prog 26 #[.pointer (some ⟨g, 0, none⟩), .int .i64 k, .int .i64 tr] w fun e w' => KAns w px k e w' := by
  by_cases hm : k + 4096 < n
  · refine (longB h hp hpn hs hk hn hnc tr htr hm).mono fun e w' ⟨⟨L, D, h1, h2⟩, h3⟩ => ⟨⟨L, D, h1, cop_fit h2 (by omega) (Nat.le_refl _) (by omega)⟩, h3⟩
  · refine (longA (M1 := n - k) h hp hpn hs hk hn hnc tr htr (by omega) (by omega)).mono fun e w' ⟨⟨L, D, h1, h2⟩, h3⟩ => ⟨⟨L, D, h1, cop_fit h2 (by omega) (by omega) (by omega)⟩, h3⟩
theorem greedy16_none (a : Option Addr) (n c : Nat) (m : Int) (w : World) (hm : m < 1) : Calls Try.prog 16 #[.slice a n c, .int .i64 m] w fun e w' => e = .returned (.slice none 0 0) ∧ w' = w := by
  go_enter Try.func16, Try.ntmps16
  go_wp2
  go_ret
  exact ⟨rfl, rfl⟩
/-- The spans so far, and the places. -/
structure Sof (B base : Nat) (w0 wr : World) (g mb ab n c : Nat) (a : Option Addr) (k' : Nat) (v : Value) (ss : List Sp) : Prop where
  gr : Gr B wr g mb ab n k' a c
  own : wr.ownsRow base 45 3 v ss.length (scs ss)
  bel : Below B w0 wr
  h1 : g < base
  h2 : mb < base
  h3 : ab < base
theorem Sof.keep {B base g mb ab n c k' : Nat} {w0 wr w' : World} {a : Option Addr} {v : Value} {ss : List Sp} (h : Sof B base w0 wr g mb ab n c a k' v ss) (u : Below wr.heap.size wr w') : Sof B base w0 w' g mb ab n c a k' v ss :=
  ⟨h.gr.keep u, own_same h.own (fun k _ hk => u.block k hk), h.bel.trans (u.mono h.gr.lt), h.h1, h.h2, h.h3⟩
theorem Sof.enter {B base g mb ab n c k' k2 : Nat} {w0 wr w' : World} {a : Option Addr} {v : Value} {ss : List Sp} (h : Sof B base w0 wr g mb ab n c a k' v ss) (gr : Gr B w' g mb ab n k2 a c) (u : Below B wr w') (t : Two ab mb wr w') : Sof B base w0 w' g mb ab n c a k2 v ss :=
  ⟨gr, own_same h.own (fun k hk1 hk => t.blk k hk (by have := h.h3; omega) (by have := h.h2; omega)), h.bel.trans u, h.h1, h.h2, h.h3⟩
theorem Sof.app {B base g mb ab n c k' : Nat} {w0 wr w' : World} {a : Option Addr} {v v' : Value} {ss : List Sp} {s : Sp} {o : Obj} (h : Sof B base w0 wr g mb ab n c a k' v ss) (own : w'.ownsRow base 45 3 v' (ss.length + 1) (scs ss ++ sc s)) (gr : (wr.alloc o).grownBy w' v.ownBlock) :
    Sof B base w0 w' g mb ab n c a k' v' (ss ++ [s]) := by
  have hs : ∀ k, k < wr.heap.size → k < base → w'.heap[k]? = wr.heap[k]? := fun k hk hb => by
    rw [gr.block k (by simp; omega) (fun e => by have := (h.own.lt k e.symm).1; omega)]
    exact Below.heap_alloc _ _ _ hk
  obtain ⟨cnt, D, m1, m2, m3⟩ := h.gr.map
  obtain ⟨F, f1, f2⟩ := h.gr.row
  have hlt := h.gr.lt
  refine ⟨⟨(hs g h.gr.box.lt h.h1).trans h.gr.box, ⟨cnt, D, m1, ?_, m3⟩, ⟨F, (hs ab f1.lt h.h3).trans f1, f2⟩, h.gr.ne, h.gr.ne2, h.gr.g0, h.gr.a0, h.gr.m0⟩, by rw [scs_snoc, List.length_append]; exact own, h.bel.trans ⟨gr.os, gr.tape, gr.output, by have := gr.size; simp at this; omega, fun k hk => hs k (by omega) (by have := h.gr.g0; have := h.h1; omega)⟩, h.h1, h.h2, h.h3⟩
  exact (m2.alloc o).kept gr (fun e => by have := (h.own.lt mb e.symm).1; have := h.h2; omega)
/-- What Greedy answers. -/
def GAns (w : World) (px : List Nat) (e : Ending) (w' : World) : Prop := (∃ (ss : List Sp) (a3 : Option Addr) (c3 : Nat), e = .returned (.slice a3 ss.length c3) ∧ Sps w'.heap.size w' a3 ss ∧ fitV px 0 ss = true ∧ ss.length ≤ px.length) ∧ Below w.heap.size w w'
theorem gr_start (w : World) (a : Option Addr) (n c : Nat) : Sof w.heap.size (w.heap.size + 3) w (((w.alloc (.map #[] 0)).alloc (.cells (irow (fun _ => 0) n) 3)).alloc (.cells #[.slice a n c, .map (some w.heap.size), .slice (some ⟨w.heap.size + 1, 0, none⟩) n n] 65)) (w.heap.size + 2) w.heap.size (w.heap.size + 1) n c a 0 (.slice none 0 0) [] := by
  have m := ((World.ownsMap_made w Try.prog 83 (plainElem (H := Unit) Try.prog 3)).alloc (.cells (irow (fun _ => 0) n) 3)).alloc (.cells #[.slice a n c, .map (some w.heap.size), .slice (some ⟨w.heap.size + 1, 0, none⟩) n n] 65)
  have s1 : (w.alloc (.map #[] 0)).heap.size = w.heap.size + 1 := by simp
  have s2 : ((w.alloc (.map #[] 0)).alloc (.cells (irow (fun _ => 0) n) 3)).heap.size = w.heap.size + 2 := by simp
  have r := Box.made (w.alloc (.map #[] 0)) 3 (irow (fun _ => 0) n)
  rw [s1] at r
  have b := Box.made ((w.alloc (.map #[] 0)).alloc (.cells (irow (fun _ => 0) n) 3)) 65 #[.slice a n c, .map (some w.heap.size), .slice (some ⟨w.heap.size + 1, 0, none⟩) n n]
  rw [s2] at b
  exact ⟨⟨b, ⟨0, _, Nat.le_refl _, m, Lo.start⟩, ⟨_, r.alloc _, fun i hi => by omega⟩, by omega, by omega, by omega, by omega, Nat.le_refl _⟩, World.ownsRow_nil _ _ _ _, (((bel_a1 w _).alloc (by simp) _).alloc (by simp; omega) _), by omega, by omega, by omega⟩
end Go.Proofs.Ytpkiilnkiidoiaa.KGr6
