/- Contracts: the document's Add, and which blocks it may turn. Conditions: at most a million pixels. -/
import Derived.Test.YtpkiilnkiidoiaaKAdd
namespace Go.Proofs.Ytpkiilnkiidoiaa.KRad
set_option linter.unusedVariables false
open Go.ChangeShapes Go.WideShapes Go.ChangeAt Go.RowKit Go.Sort Go.Proofs.Ytpkiilnkiidoiaa.Core Go.Proofs.Ytpkiilnkiidoiaa.CNum Go.Proofs.Ytpkiilnkiidoiaa.CSlo Go.Proofs.Ytpkiilnkiidoiaa.CCac Go.Proofs.Ytpkiilnkiidoiaa.KNum Go.Proofs.Ytpkiilnkiidoiaa.KMem Go.Proofs.Ytpkiilnkiidoiaa.KCch Go.Proofs.Ytpkiilnkiidoiaa.KAdd

/-- From base on only the row's block may turn, and the row may move to a new block. -/
structure Frm (base : Nat) (v v' : Value) (w w' : World) : Prop where
  blk : ∀ k, base ≤ k → k < w.heap.size → v.ownBlock ≠ some k → w'.heap[k]? = w.heap[k]?
  own : ∀ k, v'.ownBlock = some k → v.ownBlock = some k ∨ w.heap.size ≤ k
theorem Frm.box {base g : Nat} {v v' : Value} {w w' : World} {T : TypeId} {vs : Array Value} (h : Frm base v v' w w') (bx : Box w g T vs) (hb : base ≤ g) (hv : v.ownBlock ≠ some g) : Box w' g T vs ∧ v'.ownBlock ≠ some g := by
  refine ⟨(h.blk g hb bx.lt hv).trans bx, fun e => ?_⟩
  rcases h.own g e with c | c
  · exact hv c
  · have := bx.lt; omega
theorem Frm.set {base p k : Nat} {v v' : Value} {w w' : World} (h : Frm base v v' w w') (hp : p < base) (u : Value) : Frm base v v' w ((w'.setCell ⟨p, k, none⟩ u).drew) :=
  ⟨fun i h1 h2 h3 => (Below.heap_setCell w' ⟨p, k, none⟩ u i (by show i ≠ p; omega)).trans (h.blk i h1 h2 h3), h.own⟩
theorem Pt.frm {B base g b : Nat} {w w2 : World} {cs v v' : Value} {l : List Nat} {f : Nat → Nat} {o : Obj} (h : Pt B base w g b cs v l f) (gr : (w.alloc o).grownBy w2 v.ownBlock) (at1 : v'.ownBlock = v.ownBlock ∨ v'.ownBlock = some (w.alloc o).heap.size) :
    Frm base v v' w (w2.setCell ⟨g, 0, none⟩ v') := by
  refine ⟨fun k h1 h2 h3 => ?_, fun k e => ?_⟩
  · rw [Below.heap_setCell _ _ _ _ (by show k ≠ g; have := h.g1; omega), gr.block k (by simp; omega) (fun e => h3 e.symm)]
    exact Below.heap_alloc _ _ _ h2
  · rcases at1 with c | c
    · exact .inl (c.symm.trans e)
    · rw [c] at e
      cases e
      exact .inr (by simp)
/-- More is told, by the document. -/
def PtF (B base : Nat) (w : World) (g b : Nat) (cs v : Value) (l : List Nat) (w' : World) : Prop := (∃ v', Pt B base w' g b cs v' l (cf b l) ∧ Frm base v v' w w') ∧ Below B w w'
set_option maxHeartbeats 1000000 in
theorem raddf_zero {B base g : Nat} {w : World} {cs v : Value} {l : List Nat} (h : Pt B base w g 0 cs v l (cf 0 l)) (hl : l.length < 1000000) (a : Nat) :
    Calls Try.prog 32 #[.pointer (some ⟨g, 0, none⟩), .int .u32 a] w fun e w' => e = .returned (.tuple #[]) ∧ PtF B base w g 0 cs v (l ++ [a]) w' := by
  have T0 := hide h
  have c0 : w.cell? ⟨g, 0, none⟩ = some v := (h.box.cell 0).trans rfl
  have gl := h.box.lt
  obtain ⟨i0, hi0, hz0, hz1, hz2⟩ := info_parts info35
  obtain ⟨av, cv, rfl, _⟩ := own_shape h.own
  have HB := h.hb
  clear h
  go_enter Try.func32, Try.ntmps32
  go_wp2_with (first | (at_builtin; refine wpList_append_own_at _ rfl (.tmp 8) (.tmp 10) 24 rfl base 35 i0 (.int .u32 0) 1 4 Try.underlying24 hi0 hz0 hz1 hz2 rfl (by decide) _ l.length (cl l) rfl ((unhide T0).own.alloc _) ⟨w.heap.size, 0, none⟩ 1 1 [.int .u32 a] rfl rfl (cell_one_new _ _ _) (one_one _ _) (by unfold maxLen; omega) (by omega) (by simp; omega) ?_; intro v1 w1 own1 gr1 _ at1; obtain ⟨a1, k1, rfl, _⟩ := own_shape own1; have FR := hide (Pt.frm (unhide T0) gr1 at1); have A1 := hide ((unhide T0).app own1 gr1); have d0 : w1.cell? ⟨g, 0, none⟩ = some (.slice av l.length cv) := ((unhide A1).2.2.cell 0).trans rfl; have f0 := (unhide A1).2.2.free 0; have d2 : (w1.setCell ⟨g, 0, none⟩ (.slice a1 (l.length + 1) k1)).cell? ⟨g, 2, none⟩ = some (.int .i64 0) := ((unhide A1).1.box.cell 2).trans rfl; clear own1 gr1 at1) | (go_at_call 34; fail))
  go_end0
  obtain ⟨T1, B1, _⟩ := unhide A1
  refine ⟨rfl, ⟨_, ⟨T1.box, T1.own, ?_, T1.g0, T1.g1, T1.hb⟩, unhide FR⟩, B1⟩
  rcases T1.ca with h | ⟨rc, _, _, _, _, _, h, _⟩
  · exact .inl h
  · omega
set_option maxHeartbeats 2000000 in
theorem raddf_pos {B base g b : Nat} {w : World} {cs v : Value} {l : List Nat} (h : Pt B base w g b cs v l (cf b l)) (hb : 1 ≤ b) (hl : l.length < 1000000) (a : Nat) (ha : a < 4294967296) :
    Calls Try.prog 32 #[.pointer (some ⟨g, 0, none⟩), .int .u32 a] w fun e w' => e = .returned (.tuple #[]) ∧ PtF B base w g b cs v (l ++ [a]) w' := by
  have T0 := hide h
  have c0 : w.cell? ⟨g, 0, none⟩ = some v := (h.box.cell 0).trans rfl
  have gl := h.box.lt
  obtain ⟨i0, hi0, hz0, hz1, hz2⟩ := info_parts info35
  obtain ⟨av, cv, rfl, _⟩ := own_shape h.own
  have HB := h.hb
  obtain ⟨rc, rfl, b11, rcb⟩ : ∃ rc, cs = .slice (some ⟨rc, 0, none⟩) (2 ^ b) (2 ^ b) ∧ b ≤ 11 ∧ rc < base := by
    rcases h.ca with ⟨h0, _⟩ | ⟨rc, hc, _, _, h6, _, _, h5⟩
    · omega
    · exact ⟨rc, hc, h5, h6⟩
  have RCB := hide rcb
  clear rcb
  have SL := hide (sl_lt a b (by omega))
  have QS := hide (fun w => rslot10_in a b w ha hb b11)
  have hbi : 0 < (b : Int) := by omega
  have HBB := hide hb
  clear h hb b11 ha
  go_enter Try.func32, Try.ntmps32
  go_wp2_with (first | (at_builtin; refine wpList_append_own_at _ rfl (.tmp 8) (.tmp 10) 24 rfl base 35 i0 (.int .u32 0) 1 4 Try.underlying24 hi0 hz0 hz1 hz2 rfl (by decide) _ l.length (cl l) rfl ((unhide T0).own.alloc _) ⟨w.heap.size, 0, none⟩ 1 1 [.int .u32 a] rfl rfl (cell_one_new _ _ _) (one_one _ _) (by unfold maxLen; omega) (by omega) (by simp; omega) ?_; intro v1 w1 own1 gr1 _ at1; obtain ⟨a1, k1, rfl, _⟩ := own_shape own1; have FR := hide (Pt.frm (unhide T0) gr1 at1); have A1 := hide ((unhide T0).app own1 gr1); have d0 : w1.cell? ⟨g, 0, none⟩ = some (.slice av l.length cv) := ((unhide A1).2.2.cell 0).trans rfl; have f0 := (unhide A1).2.2.free 0; have d2 : (w1.setCell ⟨g, 0, none⟩ (.slice a1 (l.length + 1) k1)).cell? ⟨g, 2, none⟩ = some (.int .i64 b) := ((unhide A1).1.box.cell 2).trans rfl; clear own1 gr1 at1) | (go_at_call 34; fail))
  obtain ⟨T1, B1, _⟩ := unhide A1
  clear A1 d0 f0 d2 c0
  generalize w1.setCell ⟨g, 0, none⟩ (.slice a1 (l.length + 1) k1) = w2 at *
  have e1 : w2.cell? ⟨g, 1, none⟩ = some (.slice (some ⟨rc, 0, none⟩) (2 ^ b) (2 ^ b)) := (T1.box.cell 1).trans rfl
  have e2 : w2.cell? ⟨g, 2, none⟩ = some (.int .i64 b) := (T1.box.cell 2).trans rfl
  have e3 : w2.cell? ⟨rc, sl a b, none⟩ = some (.int .u32 (cf b l (sl a b) : Nat)) ∧ w2.frozen? ⟨rc, sl a b, none⟩ = false := by
    rcases T1.ca with ⟨h0, _⟩ | ⟨rc', hc', bx, _⟩
    · have := unhide HBB; omega
    · cases hc'
      exact ⟨(bx.cell _).trans (row_at _ _ _ (unhide SL)), bx.free _⟩
  obtain ⟨e3, e4⟩ := e3
  have TT := hide (And.intro T1 B1)
  have TS := hide (Pt.set T1 rfl (unhide HBB) (sl a b) a)
  rw [← cf_snoc] at TS
  have sn : ((sl a b : Nat) : Int) < ((2 ^ b : Nat) : Int) := by have := unhide SL; omega
  clear T1 B1 SL
  generalize hn : 2 ^ b = n at *
  have HN := hide hn
  clear hn
  generalize sl a b = q at *
  go_region_with (go_at_call 25; with_reducible refine Calls.mono (unhide QS _) ?_; rintro e w' ⟨rfl, rfl⟩)
  all_goals go_end0
  all_goals (have hn := unhide HN; subst hn)
  all_goals exact ⟨rfl, ⟨_, Pt.dr (unhide TS).1, Frm.set (unhide FR) (unhide RCB) _⟩, bel_dr ((unhide TT).2.trans (unhide TS).2)⟩
theorem raddf32 {B base g b : Nat} {w : World} {cs v : Value} {l : List Nat} (h : Pt B base w g b cs v l (cf b l)) (hl : l.length < 1000000) (a : Nat) (ha : a < 4294967296) :
    Calls Try.prog 32 #[.pointer (some ⟨g, 0, none⟩), .int .u32 a] w fun e w' => e = .returned (.tuple #[]) ∧ PtF B base w g b cs v (l ++ [a]) w' := by
  rcases Nat.eq_zero_or_pos b with h0 | h0
  · subst h0; exact raddf_zero h hl a
  · exact raddf_pos h h0 hl a ha
end Go.Proofs.Ytpkiilnkiidoiaa.KRad
