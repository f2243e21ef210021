/- Plain facts: elements that came in. Conditions: as each says. -/
import Derived.Test.YtejfjocoadfahaaXFor
import Derived.Deep.Slices
import Derived.OpenShut
namespace Go.Proofs.Ytejfjocoadfahaa.XInp
set_option linter.unusedVariables false
open Go.ChangeShapes Go.WideShapes Go.ChangeAt Go.RowKit Go.Proofs.Ytejfjocoadfahaa.Core Go.Proofs.Ytejfjocoadfahaa.XNum Go.Proofs.Ytejfjocoadfahaa.Ims Go.Proofs.Ytejfjocoadfahaa.XFit

/-- A slice of elements that came in. -/
def IsEls (w : World) (a : Option Addr) (len : Nat) : Prop :=
  (a = none ∧ len = 0) ∨ ∃ x, a = some x ∧ ∀ i, i < len → ∃ e : El, e.ok ∧ w.cell? (x.add (i * 3)) = some (.int .i8 e.a) ∧ w.cell? (x.add (i * 3 + 1)) = some (.int .i8 e.b) ∧ w.cell? (x.add (i * 3 + 2)) = some (.int .i8 e.c)
instance : Inhabited El := ⟨El.zero⟩
theorem els_some {w : World} {a : Option Addr} {len : Nat} (h : IsEls w a len) (h0 : 0 < len) : ∃ b off, ∃ E : Nat → El, a = some ⟨b, off, none⟩ ∧ Els w b off len E := by
  rcases h with ⟨rfl, rfl⟩ | ⟨x, rfl, h⟩
  · omega
  · obtain ⟨b, off, spot⟩ := x
    obtain ⟨E, hE⟩ := Go.Deep.choose_lt h
    have hspot : spot = none := by
      have h1 := (hE 0 h0).2.1
      simpa [Addr.add] using World.cell?_spot h1
    subst hspot
    refine ⟨b, off, E, rfl, fun i hi => ?_⟩
    obtain ⟨ok, h1, h2, h3⟩ := hE i hi
    rw [Go.WideShapes.add_plain] at h1 h2 h3
    exact ⟨h1, h2, h3, ok⟩
theorem els_in {H : Type} {enc : TypeId × Value → H} {w : World} {base : Nat} {spare : Nat → Bool} {held : Bool} {a : Option Addr} {len cap fuel : Nat} {x : DataW H × List MemPlace}
    (h : DataW.trod enc Try.prog w base spare held fuel 25 [.slice a len cap] = some x) : IsEls w a len := by
  rcases Go.Deep.open_slice Try.underlying25 h with ⟨h0, _⟩ | ⟨y, l, c, m, n, D, Pl, hcs, hb, hl, hm, hmm, rfl, hx⟩
  · simp only [List.cons.injEq, and_true, Value.slice.injEq] at h0
    exact .inl ⟨h0.1, h0.2.1⟩
  · simp only [List.cons.injEq, and_true, Value.slice.injEq] at hcs
    obtain ⟨rfl, rfl, rfl⟩ := hcs
    refine .inr ⟨y, rfl, fun i hi => ?_⟩
    have him : i < m := by rw [hmm]; split <;> omega
    obtain ⟨cs', h1, h2⟩ := hx i him
    have ce : Try.prog.cellsOf 37 = 3 := by kernel_rfl
    rw [ce] at h1
    obtain ⟨_, hlen, hcell⟩ := World.cells?_some h1
    obtain ⟨xs, k, hk, hxy, _, hxl, hf⟩ := DataW.trod_struct Try.underlying37 h2
    have c0 : Try.prog.cellsOf 35 = 1 := by kernel_rfl
    match xs, hxl, cs', hlen with
    | [y0, y1, y2], _, [v0, v1, v2], _ =>
      have g0 := hf 0 _ rfl
      have g1 := hf 1 _ rfl
      have g2 := hf 2 _ rfl
      simp [c0] at g0 g1 g2
      obtain ⟨p, e0, _, w0⟩ := DataW.trod_int Try.underlying35 g0
      obtain ⟨q, e1, _, w1⟩ := DataW.trod_int Try.underlying35 g1
      obtain ⟨r, e2, _, w2⟩ := DataW.trod_int Try.underlying35 g2
      simp only [List.cons.injEq, and_true] at e0 e1 e2
      subst e0 e1 e2
      obtain ⟨p0, p1⟩ := bounds_i8 w0
      obtain ⟨q0, q1⟩ := bounds_i8 w1
      obtain ⟨r0, r1⟩ := bounds_i8 w2
      have k0 := hcell 0 (by omega)
      have k1 := hcell 1 (by omega)
      have k2 := hcell 2 (by omega)
      rw [Go.Deep.add_add] at k0 k1 k2
      exact ⟨⟨p, q, r⟩, ⟨p0, p1, q0, q1, r0, r1⟩, by simpa using k0, by simpa using k1, by simpa using k2⟩
end Go.Proofs.Ytejfjocoadfahaa.XInp
