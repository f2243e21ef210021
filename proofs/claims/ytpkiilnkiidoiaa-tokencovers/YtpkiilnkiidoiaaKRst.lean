/- Contracts: the document's Step. Conditions: at most nine hundred thousand pixels. -/
import Derived.Test.YtpkiilnkiidoiaaKRad
namespace Go.Proofs.Ytpkiilnkiidoiaa.KRst
set_option linter.unusedVariables false
open Go.ChangeShapes Go.WideShapes Go.ChangeAt Go.RowKit Go.Sort Go.Proofs.Ytpkiilnkiidoiaa.Core Go.Proofs.Ytpkiilnkiidoiaa.CNum Go.Proofs.Ytpkiilnkiidoiaa.KNum Go.Proofs.Ytpkiilnkiidoiaa.KMem Go.Proofs.Ytpkiilnkiidoiaa.KCch Go.Proofs.Ytpkiilnkiidoiaa.KAdd Go.Proofs.Ytpkiilnkiidoiaa.KRad

/-- All colours have 32 bits. -/
def Sm (l : List Nat) : Prop := ∀ x ∈ l, x < 4294967296
theorem Sm.snoc {l : List Nat} {a : Nat} (h : Sm l) (ha : a < 4294967296) : Sm (l ++ [a]) := fun x hx => by
  rcases List.mem_append.1 hx with hx | hx
  · exact h x hx
  · simp at hx; omega
theorem Sm.at {l : List Nat} (h : Sm l) (i : Nat) : l.getD i 0 < 4294967296 := by
  by_cases hi : i < l.length
  · rw [List.getD_eq_getElem?_getD, List.getElem?_eq_getElem hi]; exact h _ (List.getElem_mem hi)
  · rw [List.getD_eq_getElem?_getD, List.getElem?_eq_none (by omega)]; simp
theorem Sm.cpy {l : List Nat} (h : Sm l) (d k : Nat) : Sm (cpy l d k) := by
  induction k with
  | zero => exact h
  | succ k ih => exact ih.snoc (ih.at _)
theorem cf_sm (b : Nat) : ∀ (l f), (∀ j, f j < 4294967296) → Sm l → ∀ j, l.foldl (fun f a => upd f (sl a b) a) f j < 4294967296
  | [], f, hf, _, j => hf j
  | a :: l, f, hf, hs, j => cf_sm b l _ (fun i => by
    show (if i = sl a b then a else f i) < 4294967296
    split
    · exact hs a (by simp)
    · exact hf i) (fun x hx => hs x (by simp [hx])) j
theorem Sm.cf {l : List Nat} (h : Sm l) (b j : Nat) : cf b l j < 4294967296 := cf_sm b l _ (fun _ => by omega) h j
theorem Sm.step {b m : Nat} {l l' : List Nat} {t : Tk} (h : Sm l) (ht : t.a < 4294967296) (hs : stepP b m l t = some l') : Sm l' := by
  unfold stepP at hs
  split at hs
  · cases hs; exact h.snoc ht
  · split at hs
    · cases hs; exact h.cpy _ _
    · split at hs
      · cases hs; exact h.snoc (h.cf _ _)
      · cases hs
theorem Frm.pre {base : Nat} {v v' : Value} {a b c : World} (u : Below a.heap.size a b) (f : Frm base v v' b c) : Frm base v v' a c :=
  ⟨fun k h1 h2 h3 => (f.blk k h1 (Nat.lt_of_lt_of_le h2 u.size) h3).trans (u.block k h2), fun k e => (f.own k e).elim .inl (fun h => .inr (Nat.le_trans u.size h))⟩
theorem Frm.next {base : Nat} {v v' v'' : Value} {a b c : World} (h : Frm base v v' a b) (hs : a.heap.size ≤ b.heap.size) (f : Frm base v' v'' b c) : Frm base v v'' a c := by
  refine ⟨fun i h1 h2 h3 => (f.blk i h1 (Nat.lt_of_lt_of_le h2 hs) fun e => ?_).trans (h.blk i h1 h2 h3), fun i e => ?_⟩
  · rcases h.own i e with c | c
    · exact h3 c
    · omega
  · rcases f.own i e with c | c
    · exact h.own i c
    · exact .inr (Nat.le_trans hs c)
theorem Frm.refl (base : Nat) (v : Value) (w : World) : Frm base v v w w := ⟨fun _ _ _ _ => rfl, fun _ h => .inl h⟩
theorem Frm.und {base : Nat} {v v' : Value} {a c : World} (f : Frm base v v' a.drew c) : Frm base v v' a c := ⟨f.blk, f.own⟩
theorem PtF.pre {B base g b : Nat} {w w1 w' : World} {cs v : Value} {l : List Nat} (hB : B ≤ w.heap.size) (u : Below w.heap.size w w1) (h : PtF B base w1 g b cs v l w') : PtF B base w g b cs v l w' := by
  obtain ⟨⟨v', P, F⟩, b⟩ := h
  exact ⟨⟨v', P, Frm.pre u F⟩, (u.mono hB).trans b⟩
/-- A step is told, or it is none, by the document. -/
def PtS (B base : Nat) (w : World) (g b : Nat) (cs v : Value) (r : Option (List Nat)) (e : Ending) (w' : World) : Prop :=
  match r with
  | some l => e = .returned (.bool true) ∧ PtF B base w g b cs v l w'
  | none => e = .returned (.bool false) ∧ Below B w w'
theorem bel_fit {B : Nat} {w w1 w' : World} (hB : B ≤ w.heap.size) (h : Below w.heap.size w w1) (k : Below B w1 w') : Below B w w' := (h.mono hB).trans k
theorem cs_shape {B base g b : Nat} {w : World} {cs : Value} {f : Nat → Nat} (h : Cs B base g w b cs f) : ∃ a, cs = .slice a (pl b) (pl b) := by
  rcases h with ⟨rfl, rfl⟩ | ⟨rc, rfl, _, _, _, _, h, _⟩
  · exact ⟨none, rfl⟩
  · rw [pl_pos h]; exact ⟨_, rfl⟩
set_option maxHeartbeats 1000000 in
theorem rstep21_lit {B base g b m : Nat} {w : World} {cs v : Value} {l : List Nat} {t : Tk} (h : Pt B base w g b cs v l (cf b l)) (hm : m ≤ 900000) (hl : l.length ≤ m) (ha : t.a < 4294967296) (hs : isLit m l t = true) :
    Calls Try.prog 21 #[.pointer (some ⟨g, 0, none⟩), .agg #[.int .i64 t.k, .int .i64 t.n, .int .i64 t.d, .int .i64 t.i, .int .u32 (t.a : Int)], .int .i64 m] w fun e w' => PtS B base w g b cs v (some (l ++ [t.a])) e w' := by
  obtain ⟨h1, h2⟩ := of_decide_eq_true hs
  obtain ⟨k, n, d, i, a⟩ := t
  simp only at h1
  subst h1
  have hB : B ≤ w.heap.size := by have := h.g0; have := h.g1; have := h.hb; omega
  have A := hide (fun (wz : World) (u : Below w.heap.size w wz) => raddf32 (h.keep u) (by omega) a ha)
  have HB := hide hB
  obtain ⟨av, cv, rfl, _⟩ := own_shape h.own
  have c0 : w.cell? ⟨g, 0, none⟩ = some (.slice av l.length cv) := (h.box.cell 0).trans rfl
  have gl := h.box.lt
  have h2' : (l.length : Int) < (m : Int) := by omega
  clear h hs hB
  go_enter Try.func21, Try.ntmps21
  go_wp2_with fail
  refine (unhide A _ (bel_a1 _ _)).mono ?_
  rintro e w2 ⟨rfl, TN⟩
  have TT := hide TN
  clear TN
  go_wp2
  go_ret
  exact ⟨rfl, PtF.pre (unhide HB) (bel_a1 _ _) (unhide TT)⟩
set_option maxHeartbeats 2000000 in
theorem rstep21_kno {B base g b m : Nat} {w : World} {cs v : Value} {l : List Nat} {t : Tk} (h : Pt B base w g b cs v l (cf b l)) (hm : m ≤ 900000) (hl : l.length ≤ m) (hsm : Sm l) (hs : isKno b m l t = true) :
    Calls Try.prog 21 #[.pointer (some ⟨g, 0, none⟩), .agg #[.int .i64 t.k, .int .i64 t.n, .int .i64 t.d, .int .i64 t.i, .int .u32 (t.a : Int)], .int .i64 m] w fun e w' => PtS B base w g b cs v (some (l ++ [cf b l t.i.toNat])) e w' := by
  obtain ⟨h1, h2, h3, h4⟩ := of_decide_eq_true hs
  obtain ⟨k, n, d, i, a⟩ := t
  simp only at h1 h2 h3
  subst h1
  obtain ⟨i, rfl⟩ := Int.eq_ofNat_of_zero_le h2
  have hB : B ≤ w.heap.size := by have := h.g0; have := h.g1; have := h.hb; omega
  have A := hide (fun (wz : World) (u : Below w.heap.size w wz) => raddf32 (h.keep u) (by omega) (cf b l i) (hsm.cf b i))
  have HB := hide hB
  obtain ⟨av, cv, rfl, _⟩ := own_shape h.own
  have c0 : w.cell? ⟨g, 0, none⟩ = some (.slice av l.length cv) := (h.box.cell 0).trans rfl
  have gl := h.box.lt
  have h4' : (l.length : Int) < (m : Int) := by omega
  obtain ⟨rc, rfl, bx⟩ : ∃ rc, cs = .slice (some ⟨rc, 0, none⟩) (2 ^ b) (2 ^ b) ∧ Box w rc 35 (row (cf b l) (2 ^ b)) := by
    rcases h.ca with ⟨h0, _⟩ | ⟨rc, hc, bx, _⟩
    · subst h0; rw [pl_zero] at h3; omega
    · exact ⟨rc, hc, bx⟩
  have hpl : pl b = 2 ^ b := by
    by_cases hb0 : b = 0
    · subst hb0; rw [pl_zero] at h3; omega
    · exact pl_pos (by omega)
  have c1 : w.cell? ⟨g, 1, none⟩ = some (.slice (some ⟨rc, 0, none⟩) (2 ^ b) (2 ^ b)) := (h.box.cell 1).trans rfl
  have c2 : w.cell? ⟨rc, i, none⟩ = some (.int .u32 (cf b l i : Nat)) := (bx.cell i).trans (row_at _ _ _ (by rw [hpl] at h3; omega))
  have rl := bx.lt
  rw [hpl] at h3
  have h3' : (i : Int) < ((2 ^ b : Nat) : Int) := h3
  clear h hs hB bx hpl h3
  generalize hn : 2 ^ b = n2 at *
  have HN := hide hn
  simp only [Int.toNat_natCast]
  generalize cf b l i = x at *
  clear hn
  go_enter Try.func21, Try.ntmps21
  go_wp2
  go_quiet (fail)
  go_wp2
  go_quiet (fail)
  go_wp2
  go_region_with (go_at_call 32; with_reducible refine Calls.mono (unhide A _ (by first | exact bel_dr (bel_drN (bel_a1 _ _) _) | exact bel_drN (bel_a1 _ _) _)) ?_; rintro e w' ⟨rfl, TN⟩)
  all_goals go_wp2
  all_goals go_ret
  all_goals (have hn := unhide HN; subst hn)
  all_goals exact ⟨rfl, PtF.pre (unhide HB) (by first | exact bel_dr (bel_drN (bel_a1 _ _) _) | exact bel_drN (bel_a1 _ _) _) TN⟩
theorem cpy_next (l : List Nat) (d k : Nat) (hd : 1 ≤ d) (hl : d ≤ l.length) : cpy l d (k + 1) = cpy l d k ++ [(cpy l d k).getD (l.length + k - d) 0] := by
  rw [cpy, cpy_len]
theorem wrap_sub {x y q : Nat} (h : x = q + y) (hq : q ≤ 1000000) : IntKind.i64.wrap ((x : Int) - (y : Int)) = (q : Int) := by
  simp [IntKind.wrap, IntKind.bits, IntKind.signed]; omega
theorem bel_un {B : Nat} {w w' : World} (h : Below B w.drew w') : Below B w w' := ⟨h.os, h.tape, h.output, h.size, h.block⟩
end Go.Proofs.Ytpkiilnkiidoiaa.KRst
