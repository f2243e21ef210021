/- Plain facts: how often symbols are told by steps; steps in memory. No function of the program. No conditions. -/
import Derived.Test.YtgjpcjnhggcfdaaDoorHPar
namespace Go.Proofs.YtgjpcjnhggcfdaaDoor.HCnt
set_option linter.unusedVariables false
open Go.ChangeShapes Go.WideShapes Go.ChangeAt Go.RowKit Go.Proofs.YtgjpcjnhggcfdaaDoor.Core Go.Proofs.YtgjpcjnhggcfdaaDoor.Ord Go.Proofs.YtgjpcjnhggcfdaaDoor.HNum Go.Proofs.YtgjpcjnhggcfdaaDoor.HSiz Go.Proofs.YtgjpcjnhggcfdaaDoor.HFit Go.Proofs.YtgjpcjnhggcfdaaDoor.HFiv Go.Proofs.YtgjpcjnhggcfdaaDoor.HNew Go.Proofs.YtgjpcjnhggcfdaaDoor.HHas Go.Proofs.YtgjpcjnhggcfdaaDoor.HTel Go.Proofs.YtgjpcjnhggcfdaaDoor.HPar

/-- Does the part tell this symbol? -/
def hit (q : Pa) (k : Nat) : Nat := if q.th = true ∧ q.sy = k then 1 else 0
/-- How often these steps tell a symbol of code i. -/
def cn (qf : Tk → Nat → Pa) (i : Nat) : List Tk → Nat → Nat
  | [], _ => 0
  | t :: ts, k => hit (qf t i) k + cn qf i ts k
theorem cn_snoc (qf : Tk → Nat → Pa) (i : Nat) (t : Tk) (k : Nat) : ∀ ts, cn qf i (ts ++ [t]) k = cn qf i ts k + hit (qf t i) k
  | [] => by simp [cn]
  | u :: ts => by simp only [List.cons_append, cn, cn_snoc qf i t k ts]; omega
theorem cn_le (qf : Tk → Nat → Pa) (i k : Nat) : ∀ ts, cn qf i ts k ≤ ts.length
  | [] => by simp [cn]
  | t :: ts => by
    have := cn_le qf i k ts
    have h : hit (qf t i) k ≤ 1 := by unfold hit; split <;> omega
    simp only [cn, List.length_cons]; omega
theorem take_next {ts : List Tk} {j : Nat} {t : Tk} (h : ts[j]? = some t) : ts.take (j + 1) = ts.take j ++ [t] := by
  rw [List.take_add_one, h]; rfl
/-- Steps in memory, below block B. -/
def Tks (B : Nat) (w : World) (a : Option Addr) (ts : List Tk) : Prop := ∀ (i : Nat) (t : Tk), ts[i]? = some t → ∃ b off, a = some ⟨b, off, none⟩ ∧ b < B ∧
  w.cell? ⟨b, off + i * 5, none⟩ = some (.int .i64 t.k) ∧ w.cell? ⟨b, off + i * 5 + 1, none⟩ = some (.int .i64 t.n) ∧ w.cell? ⟨b, off + i * 5 + 2, none⟩ = some (.int .i64 t.d) ∧ w.cell? ⟨b, off + i * 5 + 3, none⟩ = some (.int .i64 t.i) ∧ w.cell? ⟨b, off + i * 5 + 4, none⟩ = some (.int .u32 t.a)
theorem Tks.below {B : Nat} {w w' : World} {a : Option Addr} {ts : List Tk} (h : Tks B w a ts) (u : Below B w w') : Tks B w' a ts := fun i t ht => by
  obtain ⟨b, off, e, hb, h0, h1, h2, h3, h4⟩ := h i t ht
  exact ⟨b, off, e, hb, (u.cell (p := ⟨b, off + i * 5, none⟩) hb).trans h0, (u.cell (p := ⟨b, off + i * 5 + 1, none⟩) hb).trans h1, (u.cell (p := ⟨b, off + i * 5 + 2, none⟩) hb).trans h2, (u.cell (p := ⟨b, off + i * 5 + 3, none⟩) hb).trans h3, (u.cell (p := ⟨b, off + i * 5 + 4, none⟩) hb).trans h4⟩
/-- A step's cells. -/
def Tc (w : World) (b : Nat) (t : Tk) : Prop := w.cell? ⟨b, 0, none⟩ = some (.int .i64 t.k) ∧ w.cell? ⟨b, 1, none⟩ = some (.int .i64 t.n) ∧ w.cell? ⟨b, 2, none⟩ = some (.int .i64 t.d) ∧ w.cell? ⟨b, 3, none⟩ = some (.int .i64 t.i) ∧ w.cell? ⟨b, 4, none⟩ = some (.int .u32 t.a)
/-- The sizes' cells. -/
def Sc (w : World) (b c : Nat) : Prop := w.cell? ⟨b, 0, none⟩ = some (.int .i64 (sz c 0 : Nat)) ∧ w.cell? ⟨b, 1, none⟩ = some (.int .i64 (sz c 1 : Nat)) ∧ w.cell? ⟨b, 2, none⟩ = some (.int .i64 (sz c 2 : Nat)) ∧ w.cell? ⟨b, 3, none⟩ = some (.int .i64 (sz c 3 : Nat)) ∧ w.cell? ⟨b, 4, none⟩ = some (.int .i64 (sz c 4 : Nat))
theorem Tc.same {w w' : World} {b : Nat} {t : Tk} (h : Tc w b t) (e : ∀ k, w'.cell? ⟨b, k, none⟩ = w.cell? ⟨b, k, none⟩) : Tc w' b t :=
  ⟨(e 0).trans h.1, (e 1).trans h.2.1, (e 2).trans h.2.2.1, (e 3).trans h.2.2.2.1, (e 4).trans h.2.2.2.2⟩
theorem Sc.same {w w' : World} {b c : Nat} (h : Sc w b c) (e : ∀ k, w'.cell? ⟨b, k, none⟩ = w.cell? ⟨b, k, none⟩) : Sc w' b c :=
  ⟨(e 0).trans h.1, (e 1).trans h.2.1, (e 2).trans h.2.2.1, (e 3).trans h.2.2.2.1, (e 4).trans h.2.2.2.2⟩
theorem Tc.lt {w : World} {b : Nat} {t : Tk} (h : Tc w b t) : b < w.heap.size := lt_of_cell h.1
theorem Sc.lt {w : World} {b c : Nat} (h : Sc w b c) : b < w.heap.size := lt_of_cell h.1
/-- Both. -/
def TS (w : World) (b Z c : Nat) (t : Tk) : Prop := Tc w b t ∧ Sc w Z c
theorem TS.below {w w' : World} {b Z c : Nat} {t : Tk} (h : TS w b Z c t) (u : Below w.heap.size w w') : TS w' b Z c t :=
  ⟨h.1.same fun k => u.cell (p := ⟨b, k, none⟩) h.1.lt, h.2.same fun k => u.cell (p := ⟨Z, k, none⟩) h.2.lt⟩
theorem TS.row {w : World} {b Z c : Nat} {t : Tk} (h : TS w b Z c t) {g : Nat} (h1 : b ≠ g) (h2 : Z ≠ g) (cs : Array Value) : TS (w.setRow g cs) b Z c t :=
  ⟨h.1.same fun k => cell_setRow_other w g cs ⟨b, k, none⟩ h1, h.2.same fun k => cell_setRow_other w g cs ⟨Z, k, none⟩ h2⟩
/-- Rows of counts, and what Count keeps beside them. -/
structure CtI (w0 wr : World) (F Z R : Nat) (G : Nat → Nat) (c i : Nat) (f : Nat → Nat → Nat) : Prop where
  rws : Rws (Z + 1) wr G c i f
  box : Box wr F 26 (fv (fu G c i))
  siz : Box wr Z 50 (fvn (sz c))
  res : Box wr R 26 (fv (fun _ => .slice none 0 0))
  bel : Below w0.heap.size w0 wr
theorem CtI.next {w0 wr w' : World} {F Z R : Nat} {G : Nat → Nat} {c i g : Nat} {f : Nat → Nat → Nat} (h : CtI w0 wr F Z R G c i f) (hi : i < 5) (hF : w0.heap.size ≤ F) (hFZ : Z < F) (hR : R < F) (hlo : ∀ k, k < i → F < G k) (u : Upd (fun k => k = F) wr w') (hg : wr.heap.size ≤ g)
    (b : Box w' g 3 (nr (f i) (sz c i)).toArray) (bF : Box w' F 26 ((fv (fu G c i)).setIfInBounds i (.slice (some ⟨g, 0, none⟩) (sz c i) (sz c i)))) : CtI w0 w' F Z R (fun k => if k = i then g else G k) c (i + 1) f := by
  have hz := h.siz.lt
  refine ⟨⟨fun k hk => ?_, fun k j hkj hj => ?_, fun k hk => ?_⟩, by rw [← fu_next _ _ _ _ hi]; exact bF, h.siz.keep u (by omega), h.res.keep u (by omega), h.bel.trans (u.below _ h.bel.size (fun k hk => by omega))⟩
  · by_cases e : k = i
    · simp only [if_pos e]; omega
    · simp only [if_neg e]; exact h.rws.low k (by omega)
  · by_cases e : j = i
    · have e2 : k ≠ i := by omega
      simp only [if_pos e, if_neg e2]
      have := (h.rws.row k (by omega)).lt
      omega
    · have e2 : k ≠ i := by omega
      simp only [if_neg e, if_neg e2]; exact h.rws.rise k j hkj (by omega)
  · by_cases e : k = i
    · subst e
      simp only [if_true]; exact b
    · simp only [if_neg e]
      have := hlo k (by omega)
      exact (h.rws.row k (by omega)).keep u (by omega)
theorem CtI.below {w0 wr w' : World} {F Z R : Nat} {G : Nat → Nat} {c i : Nat} {f : Nat → Nat → Nat} (h : CtI w0 wr F Z R G c i f) (u : Below wr.heap.size wr w') : CtI w0 w' F Z R G c i f :=
  ⟨⟨h.rws.low, h.rws.rise, fun k hk => (h.rws.row k hk).below u (h.rws.row k hk).lt⟩, h.box.below u h.box.lt, h.siz.below u h.siz.lt, h.res.below u h.res.lt, h.bel.trans (u.mono h.bel.size)⟩
theorem rws_inj {lo : Nat} {w : World} {G : Nat → Nat} {c i : Nat} {f : Nat → Nat → Nat} (h : Rws lo w G c i f) {k j : Nat} (hk : k < i) (hj : j < i) (hne : k ≠ j) : G k ≠ G j := by
  rcases Nat.lt_or_gt_of_ne hne with e | e
  · have := h.rise k j e hj; omega
  · have := h.rise j k e hk; omega
theorem rws_congr {lo : Nat} {w : World} {G : Nat → Nat} {c i : Nat} {f f' : Nat → Nat → Nat} (h : Rws lo w G c i f) (e : ∀ k, k < i → ∀ s, s < sz c k → f k s = f' k s) : Rws lo w G c i f' :=
  ⟨h.low, h.rise, fun k hk => by rw [← na_congr (e k hk)]; exact h.row k hk⟩
theorem CtI.congr {w0 wr : World} {F Z R : Nat} {G : Nat → Nat} {c i : Nat} {f f' : Nat → Nat → Nat} (h : CtI w0 wr F Z R G c i f) (e : ∀ k, k < i → ∀ s, s < sz c k → f k s = f' k s) : CtI w0 wr F Z R G c i f' :=
  ⟨rws_congr h.rws e, h.box, h.siz, h.res, h.bel⟩
/-- One more of a symbol. -/
theorem CtI.count {w0 wr : World} {F Z R : Nat} {G : Nat → Nat} {c i s z : Nat} {f f' : Nat → Nat → Nat} (h : CtI w0 wr F Z R G c 5 f) (hi : i < 5) (hlo : w0.heap.size ≤ G i) (hF : F ≠ G i) (hZ : Z ≠ G i) (hR : R ≠ G i)
    (e : ∀ k, k < sz c i → (if k = s then z else f i k) = f' i k) (e2 : ∀ j, j ≠ i → f' j = f j) : CtI w0 (wr.setCell ⟨G i, s, none⟩ (.int .i64 z)) F Z R G c 5 f' := by
  refine ⟨⟨h.rws.low, h.rws.rise, fun k hk => ?_⟩, h.box.other (p := ⟨G i, s, none⟩) hF _, h.siz.other (p := ⟨G i, s, none⟩) hZ _, h.res.other (p := ⟨G i, s, none⟩) hR _, h.bel.setCell (p := ⟨G i, s, none⟩) hlo _⟩
  by_cases ek : k = i
  · subst ek
    have b := (h.rws.row k hk).set s (.int .i64 z)
    rw [na_set, na_congr e] at b
    exact b
  · rw [e2 k ek]
    exact (h.rws.row k hk).other (p := ⟨G i, s, none⟩) (rws_inj h.rws hk hi ek) _
end Go.Proofs.YtgjpcjnhggcfdaaDoor.HCnt
