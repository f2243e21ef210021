/- Contracts: the document's Cover. Conditions: few pixels and spans; the spans fit. -/
import Derived.Test.YtpkiilnkiidoiaaKRex
import Derived.Test.YtpkiilnkiidoiaaKCv2
namespace Go.Proofs.Ytpkiilnkiidoiaa.KRcv
set_option linter.unusedVariables false
open Go.ChangeShapes Go.WideShapes Go.ChangeAt Go.RowKit Go.Sort Go.Proofs.Ytpkiilnkiidoiaa.Core Go.Proofs.Ytpkiilnkiidoiaa.CNum Go.Proofs.Ytpkiilnkiidoiaa.CSlo Go.Proofs.Ytpkiilnkiidoiaa.KNum Go.Proofs.Ytpkiilnkiidoiaa.KMem Go.Proofs.Ytpkiilnkiidoiaa.KCch Go.Proofs.Ytpkiilnkiidoiaa.KAdd Go.Proofs.Ytpkiilnkiidoiaa.KRad Go.Proofs.Ytpkiilnkiidoiaa.KRst Go.Proofs.Ytpkiilnkiidoiaa.KExp Go.Proofs.Ytpkiilnkiidoiaa.KRex Go.Proofs.Ytpkiilnkiidoiaa.KCv2

/-- How many pixels are told. -/
def plen (w : World) (g : Nat) : Nat := match w.cell? ⟨g, 0, none⟩ with
  | some (.slice _ k _) => k
  | _ => 0
theorem plen_pt {B base g b : Nat} {w : World} {cs v : Value} {l : List Nat} {f : Nat → Nat} (h : Pt B base w g b cs v l f) : plen w g = l.length := by
  obtain ⟨av, cv, rfl, _⟩ := own_shape h.own
  have e0 : w.cell? ⟨g, 0, none⟩ = some (.slice av l.length cv) := (h.box.cell 0).trans rfl
  simp [plen, e0]
/-- The painting and the steps so far, in blocks that they do not share. -/
structure Rv (B base : Nat) (w0 wr : World) (g b : Nat) (cs v vo : Value) (l : List Nat) (ts : List Tk) : Prop where
  pt : Pt B base wr g b cs v l (cf b l)
  own : wr.ownsRow base 37 5 vo ts.length (tcs ts)
  ne : vo.ownBlock = none ∨ vo.ownBlock ≠ v.ownBlock
  bel : Below B w0 wr
theorem Rv.keep {B base : Nat} {w0 wr w' : World} {g b : Nat} {cs v vo : Value} {l : List Nat} {ts : List Tk} (h : Rv B base w0 wr g b cs v vo l ts) (u : Below wr.heap.size wr w') : Rv B base w0 w' g b cs v vo l ts :=
  ⟨h.pt.keep u, own_same h.own (fun k _ hk => u.block k hk), h.ne, h.bel.trans (u.mono (by have := h.pt.g0; have := h.pt.box.lt; omega))⟩
/-- Behind a step of the painting. -/
theorem Rv.step {B base : Nat} {w0 wr w' : World} {g b : Nat} {cs v vo : Value} {l l' : List Nat} {ts : List Tk} (h : Rv B base w0 wr g b cs v vo l ts) (p : PtF B base wr g b cs v l' w') :
    ∃ v', Rv B base w0 w' g b cs v' vo l' ts ∧ ∀ gt T vs, Box wr gt T vs → base ≤ gt → v.ownBlock ≠ some gt → Box w' gt T vs := by
  obtain ⟨⟨v', P, F⟩, b⟩ := p
  refine ⟨v', ⟨P, ?_, ?_, h.bel.trans b⟩, fun gt T vs bx hb hv => (F.box bx hb hv).1⟩
  · refine ⟨h.own.1, ?_⟩
    have hl := h.own.lt
    have hne := h.ne
    rcases h.own.2 with h0 | ⟨q, cap, cur, rfl, h2, h3, h4⟩
    · exact .inl h0
    · refine .inr ⟨q, cap, cur, rfl, h2, (F.blk q h2 (hl q rfl).2 (fun e => ?_)).trans h3, h4⟩
      rcases hne with c | c
      · cases c
      · exact c e.symm
  · by_cases hv : vo.ownBlock = none
    · exact .inl hv
    · refine .inr fun e => ?_
      obtain ⟨q, hq⟩ : ∃ q, vo.ownBlock = some q := by
        cases hh : vo.ownBlock with
        | none => exact absurd hh hv
        | some q => exact ⟨q, rfl⟩
      rcases F.own q (e.symm.trans hq) with c | c
      · rcases h.ne with d | d
        · exact hv d
        · exact d (hq.trans c.symm)
      · have := (h.own.lt q hq).2
        omega
/-- One step more behind the row of steps. -/
theorem Rv.app {B base : Nat} {w0 wr w' : World} {g b : Nat} {cs v vo vo' : Value} {l : List Nat} {ts : List Tk} {t : Tk} {o : Obj} (h : Rv B base w0 wr g b cs v vo l ts) (own : w'.ownsRow base 37 5 vo' (ts.length + 1) (tcs ts ++ tc t)) (gr : (wr.alloc o).grownBy w' vo.ownBlock) (at1 : vo'.ownBlock = vo.ownBlock ∨ vo'.ownBlock = some (wr.alloc o).heap.size) :
    Rv B base w0 w' g b cs v vo' l (ts ++ [t]) := by
  have hs : ∀ k, k < wr.heap.size → vo.ownBlock ≠ some k → w'.heap[k]? = wr.heap[k]? := fun k hk hn => by
    rw [gr.block k (by simp; omega) (fun e => hn e.symm)]
    exact Below.heap_alloc _ _ _ hk
  have hlo : ∀ k, k < base → vo.ownBlock ≠ some k := fun k hk e => by have := (h.own.lt k e).1; omega
  have hb := h.pt.hb
  have hsz : wr.heap.size ≤ w'.heap.size := by have := gr.size; simp at this; omega
  refine ⟨⟨(hs g h.pt.box.lt (hlo g h.pt.g1)).trans h.pt.box, ?_, h.pt.ca.same (fun k _ hk _ => hs k (by omega) (hlo k hk)), h.pt.g0, h.pt.g1, Nat.le_trans hb hsz⟩, by rw [tcs_snoc, List.length_append]; exact own, ?_, ?_⟩
  · refine ⟨h.pt.own.1, ?_⟩
    have hl := h.pt.own.lt
    have hne := h.ne
    rcases h.pt.own.2 with h0 | ⟨q, cap, cur, rfl, h2, h3, h4⟩
    · exact .inl h0
    · refine .inr ⟨q, cap, cur, rfl, h2, (hs q (hl q rfl).2 (fun e => ?_)).trans h3, h4⟩
      rcases hne with c | c
      · rw [c] at e; cases e
      · exact c e
  · refine .inr fun e => ?_
    rcases at1 with c | c
    · rcases h.ne with d | d
      · have hq := h.own.2
        rw [c, d] at e
        have hv : v.ownBlock = none := e.symm
        have : vo'.ownBlock = none := c.trans d
        rcases own.2 with ⟨_, h0⟩ | ⟨q, cap, cur, rfl, _⟩
        · omega
        · cases this
      · exact d (c.symm.trans e)
    · rw [c] at e
      have := (h.pt.own.lt _ e.symm).2
      simp at this
      omega
  · refine h.bel.trans ⟨gr.os, gr.tape, gr.output, hsz, fun k hk => hs k ?_ (hlo k ?_)⟩
    · have := h.pt.g0; have := h.pt.box.lt; omega
    · have := h.pt.g0; have := h.pt.g1; omega
def tca (t : Tk) : Array Value := #[.int .i64 t.k, .int .i64 t.n, .int .i64 t.d, .int .i64 t.i, .int .u32 (t.a : Int)]
theorem drop_step {α : Type} {ss : List α} {k : Nat} {s : α} (h : ss[k]? = some s) : ss.drop k = s :: ss.drop (k + 1) := by
  obtain ⟨hk, rfl⟩ := List.getElem?_eq_some_iff.1 h
  exact List.drop_eq_getElem_cons hk
/-- The step at a place, and where it leads. -/
structure Nex (b : Nat) (px : List Nat) (ss : List Sp) (nx j : Nat) (T0 tf : Tk) (nx' j' : Nat) : Prop where
  hit : ∀ s : Sp, ss[j]? = some s → s.p = (nx : Int) → tf = ⟨2, s.n, s.d, 0, 0⟩
  miss : (∀ s : Sp, ss[j]? = some s → s.p ≠ (nx : Int)) → tf = T0
  far : ∀ (i : Nat) (s : Sp), ss[i]? = some s → s.p = (nx : Int) → i = j
  up : nx < nx'
  le : nx' ≤ px.length
  step : stepP b px.length (px.take nx) tf = some (px.take nx')
  old : ∀ (i : Nat) (s : Sp), i < j' → ss[i]? = some s → s.p + s.n ≤ nx'
  fit : fitV px nx' (ss.drop j') = true
  cov : covP b px nx (ss.drop j) = tf :: covP b px nx' (ss.drop j')
  small : tf.a < 4294967296
theorem nex {b nx j : Nat} {px : List Nat} {ss : List Sp} (hb : b ≤ 11) (hn : nx < px.length) (hs : ∀ x ∈ px, x < 4294967296) (hold : ∀ (i : Nat) (s : Sp), i < j → ss[i]? = some s → s.p + s.n ≤ nx) (hold0 : ∀ (i : Nat) (s : Sp), i < j → ss[i]? = some s → 1 ≤ s.n) (hf : fitV px nx (ss.drop j) = true) :
    ∃ tf nx' j', Nex b px ss nx j (sgl b (px.take nx) (px.getD nx 0)) tf nx' j' ∧ (∀ (i : Nat) (s : Sp), i < j' → ss[i]? = some s → 1 ≤ s.n) := by
  have hX : px.getD nx 0 < 4294967296 := by
    rw [List.getD_eq_getElem?_getD, List.getElem?_eq_getElem hn]; exact hs _ (List.getElem_mem hn)
  have hl : (px.take nx).length = nx := by simp; omega
  have far : ∀ (i : Nat) (s : Sp), ss[i]? = some s → s.p = (nx : Int) → i = j := by
    intro i s hi hp
    by_cases c : i < j
    · have := hold i s c hi
      have := hold0 i s c hi
      omega
    · by_cases d : i = j
      · exact d
      · obtain ⟨hil, rfl⟩ := List.getElem?_eq_some_iff.1 hi
        have hjl : j < ss.length := by omega
        have hd := drop_step (List.getElem?_eq_getElem hjl)
        rw [hd] at hf
        obtain ⟨f1, f2, f3⟩ := fit_cons hf
        obtain ⟨p, n, dd, es, g1, g2, g3, g4, g5, g6, g7⟩ := fit_nat f2
        have hm : ss[i] ∈ ss.drop (j + 1) := by
          rw [List.mem_iff_getElem?]
          exact ⟨i - (j + 1), by rw [List.getElem?_drop, show j + 1 + (i - (j + 1)) = i by omega]; exact List.getElem?_eq_getElem hil⟩
        have h4 := (fit_all f3 _ hm).1
        rw [es] at f1 h4
        simp only at f1 h4
        omega
  have sm : (sgl b (px.take nx) (px.getD nx 0)).a < 4294967296 := by
    unfold sgl
    split
    · simp
    · exact hX
  by_cases hh : ∃ s : Sp, ss[j]? = some s ∧ s.p = (nx : Int)
  · obtain ⟨s, h1, h2⟩ := hh
    have hd := drop_step h1
    have hf' := hf
    rw [hd] at hf'
    obtain ⟨f1, f2, f3⟩ := fit_cons hf'
    have st := span_step (b := b) f2 (Nat.le_refl px.length)
    have cv := cov_span (b := b) (px := px) (ss := ss.drop (j + 1)) h2
    obtain ⟨p, n, d, es, g1, g2, g3, g4, g5, g6, g7⟩ := fit_nat f2
    subst es
    simp only at h2 st f3 cv
    have hp : p = nx := by omega
    subst hp
    rw [show ((p : Int) + (n : Int)).toNat = p + n by omega] at st f3 cv
    rw [Int.toNat_natCast] at st
    refine ⟨⟨2, n, d, 0, 0⟩, p + n, j + 1, ⟨fun s hs hp => ?_, fun hm => absurd rfl (hm _ h1), far, by omega, by omega, st, fun i s hi hs => ?_, f3, by rw [hd]; exact cv, by simp⟩, fun i s hi hs => ?_⟩
    · rw [h1] at hs; cases hs; rfl
    · by_cases c : i < j
      · have := hold i s c hs; omega
      · have : i = j := by omega
        subst this
        rw [h1] at hs; cases hs; simp only; omega
    · by_cases c : i < j
      · exact hold0 i s c hs
      · have : i = j := by omega
        subst this
        rw [h1] at hs; cases hs; simp only; omega
  · have hm : ∀ s : Sp, ss[j]? = some s → s.p ≠ (nx : Int) := fun s h1 h2 => hh ⟨s, h1, h2⟩
    have hhd : ∀ s : Sp, (ss.drop j).head? = some s → (nx : Int) < s.p := by
      intro s hs
      rw [List.head?_drop] at hs
      have h1 := hm s hs
      have hd := drop_step hs
      rw [hd] at hf
      have := (fit_cons hf).1
      omega
    refine ⟨_, nx + 1, j, ⟨fun s h1 h2 => absurd h2 (hm s h1), fun _ => rfl, far, by omega, by omega, ?_, fun i s hi hs => by have := hold i s hi hs; omega, ?_, cov_one hn hhd, sm⟩, hold0⟩
    · rw [sgl_step hb (by rw [hl]; exact hn), take_snoc hn]
    · rcases hq : ss.drop j with _ | ⟨s, ss'⟩
      · rfl
      · rw [hq] at hf hhd
        obtain ⟨f1, f2, f3⟩ := fit_cons hf
        rw [fit_mk (by have := hhd s rfl; omega) f2]; exact f3
end Go.Proofs.Ytpkiilnkiidoiaa.KRcv
