/- Plain facts: steps, spans and pixels that came in. Conditions: as each says. -/
import Derived.Test.YtpkiilnkiidoiaaKMem
import Derived.Deep.Slices
import Derived.OpenShut
namespace Go.Proofs.Ytpkiilnkiidoiaa.KInp
set_option linter.unusedVariables false
open Go.ChangeShapes Go.WideShapes Go.ChangeAt Go.RowKit Go.Proofs.Ytpkiilnkiidoiaa.Core Go.Proofs.Ytpkiilnkiidoiaa.CNum Go.Proofs.Ytpkiilnkiidoiaa.KNum Go.Proofs.Ytpkiilnkiidoiaa.KMem

/-- A slice of steps that came in. -/
def IsTks (w : World) (a : Option Addr) (len cap : Nat) : Prop :=
  (a = none ∧ len = 0 ∧ cap = 0) ∨ ∃ x, a = some x ∧ ∀ i, i < len → ∃ t : Tk, t.a < 4294967296 ∧ w.cell? (x.add (i * 5)) = some (.int .i64 t.k) ∧ w.cell? (x.add (i * 5 + 1)) = some (.int .i64 t.n) ∧ w.cell? (x.add (i * 5 + 2)) = some (.int .i64 t.d) ∧ w.cell? (x.add (i * 5 + 3)) = some (.int .i64 t.i) ∧ w.cell? (x.add (i * 5 + 4)) = some (.int .u32 (t.a : Int))
theorem range_at {α : Type} (E : Nat → α) {n i : Nat} {x : α} (h : ((List.range n).map E)[i]? = some x) : i < n ∧ x = E i := by
  simp only [List.getElem?_map, Option.map_eq_some_iff] at h
  obtain ⟨j, h1, h2⟩ := h
  obtain ⟨h3, h4⟩ := List.getElem?_eq_some_iff.1 h1
  simp at h3 h4
  subst h4
  exact ⟨h3, h2.symm⟩
theorem tks_of {w : World} {a : Option Addr} {len cap : Nat} (h : IsTks w a len cap) : ∃ ts : List Tk, ts.length = len ∧ Tks w.heap.size w a ts ∧ ∀ t ∈ ts, t.a < 4294967296 := by
  rcases Nat.eq_zero_or_pos len with h0 | h0
  · exact ⟨[], h0.symm, fun i t h => by simp at h, fun t h => by simp at h⟩
  · rcases h with ⟨rfl, h1, _⟩ | ⟨x, rfl, h⟩
    · omega
    · have inh : Inhabited Tk := ⟨⟨0, 0, 0, 0, 0⟩⟩
      obtain ⟨E, hE⟩ := Go.Deep.choose_lt h
      obtain ⟨b, off, spot⟩ := x
      have hspot : spot = none := by
        have h1 := (hE 0 h0).2.1
        simpa [Addr.add] using World.cell?_spot h1
      subst hspot
      refine ⟨(List.range len).map E, by simp, fun i t ht => ?_, fun t ht => ?_⟩
      · obtain ⟨hi, rfl⟩ := range_at E ht
        obtain ⟨_, h0, h1, h2, h3, h4⟩ := hE i hi
        rw [Go.WideShapes.add_plain] at h0 h1 h2 h3 h4
        exact ⟨b, off, rfl, lt_of_cell h0, h0, h1, h2, h3, h4⟩
      · obtain ⟨i, hi, rfl⟩ := List.mem_map.1 ht
        exact (hE i (by simpa using hi)).1
theorem tks_in {H : Type} {enc : TypeId × Value → H} {w : World} {base : Nat} {spare : Nat → Bool} {held : Bool} {a : Option Addr} {len cap fuel : Nat} {x : DataW H × List MemPlace}
    (h : DataW.trod enc Try.prog w base spare held fuel 22 [.slice a len cap] = some x) : IsTks w a len cap := by
  rcases Go.Deep.open_slice Try.underlying22 h with ⟨h0, _⟩ | ⟨y, l, c, m, n, D, Pl, hcs, hb, hl, hm, hmm, rfl, hx⟩
  · simp only [List.cons.injEq, and_true, Value.slice.injEq] at h0
    exact .inl h0
  · simp only [List.cons.injEq, and_true, Value.slice.injEq] at hcs
    obtain ⟨rfl, rfl, rfl⟩ := hcs
    refine .inr ⟨y, rfl, fun i hi => ?_⟩
    have him : i < m := by rw [hmm]; split <;> omega
    obtain ⟨cs', h1, h2⟩ := hx i him
    have ce : Try.prog.cellsOf 37 = 5 := by kernel_rfl
    rw [ce] at h1
    obtain ⟨_, hlen, hcell⟩ := World.cells?_some h1
    obtain ⟨xs, k, hk, hxy, _, hxl, hf⟩ := DataW.trod_struct Try.underlying37 h2
    have c0 : Try.prog.cellsOf 3 = 1 := by kernel_rfl
    have c1 : Try.prog.cellsOf 35 = 1 := by kernel_rfl
    match xs, hxl, cs', hlen with
    | [y0, y1, y2, y3, y4], _, [v0, v1, v2, v3, v4], _ =>
      have g0 := hf 0 _ rfl
      have g1 := hf 1 _ rfl
      have g2 := hf 2 _ rfl
      have g3 := hf 3 _ rfl
      have g4 := hf 4 _ rfl
      simp [c0, c1] at g0 g1 g2 g3 g4
      obtain ⟨p, e0, _, w0⟩ := DataW.trod_int Try.underlying3 g0
      obtain ⟨q, e1, _, w1⟩ := DataW.trod_int Try.underlying3 g1
      obtain ⟨r, e2, _, w2⟩ := DataW.trod_int Try.underlying3 g2
      obtain ⟨s, e3, _, w3⟩ := DataW.trod_int Try.underlying3 g3
      obtain ⟨u, e4, _, w4⟩ := DataW.trod_int Try.underlying35 g4
      simp only [List.cons.injEq, and_true] at e0 e1 e2 e3 e4
      subst e0 e1 e2 e3 e4
      obtain ⟨u0, u1⟩ := bounds_u32 w4
      have k0 := hcell 0 (by omega)
      have k1 := hcell 1 (by omega)
      have k2 := hcell 2 (by omega)
      have k3 := hcell 3 (by omega)
      have k4 := hcell 4 (by omega)
      rw [Go.Deep.add_add] at k0 k1 k2 k3 k4
      refine ⟨⟨p, q, r, s, u.toNat⟩, by show u.toNat < 4294967296; omega, by simpa using k0, by simpa using k1, by simpa using k2, by simpa using k3, ?_⟩
      show _ = some (Value.int .u32 (u.toNat : Int))
      rw [Int.toNat_of_nonneg u0]
      simpa using k4
/-- A slice of spans that came in. -/
def IsSps (w : World) (a : Option Addr) (len cap : Nat) : Prop :=
  (a = none ∧ len = 0 ∧ cap = 0) ∨ ∃ x, a = some x ∧ ∀ i, i < len → ∃ t : Sp, w.cell? (x.add (i * 3)) = some (.int .i64 t.p) ∧ w.cell? (x.add (i * 3 + 1)) = some (.int .i64 t.n) ∧ w.cell? (x.add (i * 3 + 2)) = some (.int .i64 t.d)
theorem sps_of {w : World} {a : Option Addr} {len cap : Nat} (h : IsSps w a len cap) : ∃ ss : List Sp, ss.length = len ∧ Sps w.heap.size w a ss := by
  rcases Nat.eq_zero_or_pos len with h0 | h0
  · exact ⟨[], h0.symm, fun i t h => by simp at h⟩
  · rcases h with ⟨rfl, h1, _⟩ | ⟨x, rfl, h⟩
    · omega
    · have inh : Inhabited Sp := ⟨⟨0, 0, 0⟩⟩
      obtain ⟨E, hE⟩ := Go.Deep.choose_lt h
      obtain ⟨b, off, spot⟩ := x
      have hspot : spot = none := by
        have h1 := (hE 0 h0).1
        simpa [Addr.add] using World.cell?_spot h1
      subst hspot
      refine ⟨(List.range len).map E, by simp, fun i t ht => ?_⟩
      obtain ⟨hi, rfl⟩ := range_at E ht
      obtain ⟨h0, h1, h2⟩ := hE i hi
      rw [Go.WideShapes.add_plain] at h0 h1 h2
      exact ⟨b, off, rfl, lt_of_cell h0, h0, h1, h2⟩
theorem sps_in {H : Type} {enc : TypeId × Value → H} {w : World} {base : Nat} {spare : Nat → Bool} {held : Bool} {a : Option Addr} {len cap fuel : Nat} {x : DataW H × List MemPlace}
    (h : DataW.trod enc Try.prog w base spare held fuel 30 [.slice a len cap] = some x) : IsSps w a len cap := by
  rcases Go.Deep.open_slice Try.underlying30 h with ⟨h0, _⟩ | ⟨y, l, c, m, n, D, Pl, hcs, hb, hl, hm, hmm, rfl, hx⟩
  · simp only [List.cons.injEq, and_true, Value.slice.injEq] at h0
    exact .inl h0
  · simp only [List.cons.injEq, and_true, Value.slice.injEq] at hcs
    obtain ⟨rfl, rfl, rfl⟩ := hcs
    refine .inr ⟨y, rfl, fun i hi => ?_⟩
    have him : i < m := by rw [hmm]; split <;> omega
    obtain ⟨cs', h1, h2⟩ := hx i him
    have ce : Try.prog.cellsOf 45 = 3 := by kernel_rfl
    rw [ce] at h1
    obtain ⟨_, hlen, hcell⟩ := World.cells?_some h1
    obtain ⟨xs, k, hk, hxy, _, hxl, hf⟩ := DataW.trod_struct Try.underlying45 h2
    have c0 : Try.prog.cellsOf 3 = 1 := by kernel_rfl
    match xs, hxl, cs', hlen with
    | [y0, y1, y2], _, [v0, v1, v2], _ =>
      have g0 := hf 0 _ rfl
      have g1 := hf 1 _ rfl
      have g2 := hf 2 _ rfl
      simp [c0] at g0 g1 g2
      obtain ⟨p, e0, _, w0⟩ := DataW.trod_int Try.underlying3 g0
      obtain ⟨q, e1, _, w1⟩ := DataW.trod_int Try.underlying3 g1
      obtain ⟨r, e2, _, w2⟩ := DataW.trod_int Try.underlying3 g2
      simp only [List.cons.injEq, and_true] at e0 e1 e2
      subst e0 e1 e2
      have k0 := hcell 0 (by omega)
      have k1 := hcell 1 (by omega)
      have k2 := hcell 2 (by omega)
      rw [Go.Deep.add_add] at k0 k1 k2
      exact ⟨⟨p, q, r⟩, by simpa using k0, by simpa using k1, by simpa using k2⟩
/-- Pixels that came in. -/
theorem lst_in {w : World} {a : Option Addr} {len cap : Nat} {zs : List Int} (h : (a = none ∧ len = 0 ∧ cap = 0 ∧ zs = []) ∨ ∃ x, a = some x ∧ len ≤ cap ∧ cap ≤ maxLen ∧ zs.length = cap ∧ (∀ i, i < zs.length → w.cell? (x.add i) = some (.int .u32 (zs.getD i 0))) ∧ ∀ n ∈ zs, (Lit.int .u32 n).wf = true) :
    ∃ px : List Nat, px.length = len ∧ len ≤ cap ∧ Lst w.heap.size w a px ∧ ∀ x ∈ px, x < 4294967296 := by
  rcases h with ⟨rfl, rfl, rfl, rfl⟩ | ⟨x, rfl, h1, h2, hz, hc, hwf⟩
  · exact ⟨[], rfl, Nat.le_refl _, lst_nil, fun x hx => by simp at hx⟩
  · rcases Nat.eq_zero_or_pos len with h0 | h0
    · subst h0
      exact ⟨[], rfl, h1, lst_nil, fun x hx => by simp at hx⟩
    · obtain ⟨b, off, spot⟩ := x
      have hspot : spot = none := by
        have h3 := hc 0 (by omega)
        simpa [Addr.add] using World.cell?_spot h3
      subst hspot
      have hb : ∀ i, i < len → 0 ≤ zs.getD i 0 ∧ zs.getD i 0 ≤ 4294967295 := fun i hi => bounds_u32 (hwf (zs.getD i 0) (by rw [List.getD_eq_getElem?_getD, List.getElem?_eq_getElem (by omega)]; exact List.getElem_mem _))
      refine ⟨(List.range len).map fun i => (zs.getD i 0).toNat, by simp, h1, fun i x hx => ?_, fun x hx => ?_⟩
      · obtain ⟨hi, rfl⟩ := range_at (fun i => (zs.getD i 0).toNat) hx
        have hh := hc i (by omega)
        rw [Go.WideShapes.add_plain] at hh
        refine ⟨b, off, rfl, lt_of_cell hh, ?_⟩
        show w.cell? _ = some (Value.int .u32 ((zs.getD i 0).toNat : Int))
        rw [Int.toNat_of_nonneg (hb i hi).1]
        exact hh
      · obtain ⟨i, hi, rfl⟩ := List.mem_map.1 hx
        have := hb i (by simpa using hi)
        show (zs.getD i 0).toNat < 4294967296
        omega
/-- What is copied reads as before. -/
theorem news_lst {B : Nat} {w : World} {x : Addr} {l : List Nat} (h : Lst B w (some x) l) : ∀ j u, (cl l)[j]? = some u → w.cell? (x.add j) = some u := by
  intro j u hu
  obtain ⟨y, h1, rfl⟩ := cl_inv hu
  obtain ⟨b, off, e, _, hc⟩ := h j y h1
  cases e
  rw [Go.WideShapes.add_plain]; exact hc
theorem tcs_len (ts : List Tk) : (tcs ts).length = ts.length * 5 := by
  induction ts with
  | nil => rfl
  | cons t ts ih => simp [tcs, tc] at ih ⊢; omega
theorem news_tks {B : Nat} {w : World} {x : Addr} {ts : List Tk} (h : Tks B w (some x) ts) : ∀ j u, (tcs ts)[j]? = some u → w.cell? (x.add j) = some u := by
  intro j u hu
  have hj : j < ts.length * 5 := by
    have := (List.getElem?_eq_some_iff.1 hu).1
    rwa [tcs_len] at this
  have hi : j / 5 < ts.length := by omega
  have ht : ts[j / 5]? = some ts[j / 5] := List.getElem?_eq_getElem hi
  have f := flat_at (f := tc) (k := 5) (fun _ => rfl) ts (j / 5) _ (j % 5) ht (by omega)
  rw [show j / 5 * 5 + j % 5 = j by omega] at f
  have hu' : (tc ts[j / 5])[j % 5]? = some u := f.symm.trans hu
  obtain ⟨b, off, e, _, h0, h1, h2, h3, h4⟩ := h _ _ ht
  cases e
  rw [Go.WideShapes.add_plain]
  have hr : j % 5 = 0 ∨ j % 5 = 1 ∨ j % 5 = 2 ∨ j % 5 = 3 ∨ j % 5 = 4 := by omega
  rcases hr with r | r | r | r | r
  all_goals rw [r] at hu'
  all_goals simp only [tc, List.getElem?_cons_zero, List.getElem?_cons_succ, Option.some.injEq] at hu'
  all_goals subst hu'
  · rw [show off + j = off + j / 5 * 5 by omega]; exact h0
  · rw [show off + j = off + j / 5 * 5 + 1 by omega]; exact h1
  · rw [show off + j = off + j / 5 * 5 + 2 by omega]; exact h2
  · rw [show off + j = off + j / 5 * 5 + 3 by omega]; exact h3
  · rw [show off + j = off + j / 5 * 5 + 4 by omega]; exact h4
theorem tcs_one (ts : List Tk) : ∀ u ∈ tcs ts, u.oneCell' = true := by
  intro u hu
  obtain ⟨t, _, h⟩ := List.mem_flatMap.1 hu
  exact tc_one t u h
theorem own_empty (w : World) (e : TypeId) (k : Nat) : (w.alloc (.cells #[] e)).ownsRow w.heap.size e k (.slice (some ⟨w.heap.size, 0, none⟩) 0 0) 0 [] :=
  ⟨by simp, .inr ⟨w.heap.size, 0, #[], rfl, Nat.le_refl _, Box.made w e #[], Nat.le_refl _, by unfold maxLen; omega, by simp, by simp⟩⟩
end Go.Proofs.Ytpkiilnkiidoiaa.KInp
