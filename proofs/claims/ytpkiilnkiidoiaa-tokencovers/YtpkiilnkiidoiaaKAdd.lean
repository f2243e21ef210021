/- Contracts: told.add, the document's NewPaint and Add. Conditions: at most a million pixels. -/
import Derived.Test.YtpkiilnkiidoiaaKCch
import Derived.Deep.RegionWith
namespace Go.Proofs.Ytpkiilnkiidoiaa.KAdd
set_option linter.unusedVariables false
open Go.ChangeShapes Go.WideShapes Go.ChangeAt Go.RowKit Go.Sort Go.Proofs.Ytpkiilnkiidoiaa.Core Go.Proofs.Ytpkiilnkiidoiaa.CNum Go.Proofs.Ytpkiilnkiidoiaa.CSlo Go.Proofs.Ytpkiilnkiidoiaa.CCac Go.Proofs.Ytpkiilnkiidoiaa.KNum Go.Proofs.Ytpkiilnkiidoiaa.KMem Go.Proofs.Ytpkiilnkiidoiaa.KCch

/-- More is told. -/
def TdN (B base : Nat) (w : World) (g b : Nat) (cp : Value) (l : List Nat) (w' : World) : Prop := (∃ v, Td B base w' g b cp v l (cf b l)) ∧ Below B w w'
set_option maxHeartbeats 1000000 in
theorem add29 {B base g b : Nat} {w : World} {cp v : Value} {l : List Nat} (h : Td B base w g b cp v l (cf b l)) (hl : l.length < 1000000) (a : Nat) :
    Calls Try.prog 29 #[.pointer (some ⟨g, 0, none⟩), .int .u32 a] w fun e w' => e = .returned (.tuple #[]) ∧ TdN B base w g b cp (l ++ [a]) w' := by
  have T0 := hide h
  have c0 : w.cell? ⟨g, 0, none⟩ = some v := (h.box.cell 0).trans rfl
  have c1 : w.cell? ⟨g, 1, none⟩ = some cp := (h.box.cell 1).trans rfl
  have gl := h.box.lt
  obtain ⟨i0, hi0, hz0, hz1, hz2⟩ := info_parts info35
  obtain ⟨av, cv, rfl, _⟩ := own_shape h.own
  have HB := h.hb
  clear h
  go_enter Try.func29, Try.ntmps29
  go_wp2_with (first | (at_builtin; refine wpList_append_own_at _ rfl (.tmp 8) (.tmp 10) 24 rfl base 35 i0 (.int .u32 0) 1 4 Try.underlying24 hi0 hz0 hz1 hz2 rfl (by decide) _ l.length (cl l) rfl ((unhide T0).own.alloc _) ⟨w.heap.size, 0, none⟩ 1 1 [.int .u32 a] rfl rfl (cell_one_new _ _ _) (one_one _ _) (by unfold maxLen; omega) (by omega) (by simp; omega) ?_; intro v1 w1 own1 gr1 _ _; obtain ⟨a1, k1, rfl, _⟩ := own_shape own1; have A1 := hide ((unhide T0).app own1 gr1); have d0 : w1.cell? ⟨g, 0, none⟩ = some (.slice av l.length cv) := ((unhide A1).2.2.cell 0).trans rfl; have f0 := (unhide A1).2.2.free 0; have d1 : (w1.setCell ⟨g, 0, none⟩ (.slice a1 (l.length + 1) k1)).cell? ⟨g, 1, none⟩ = some cp := ((unhide A1).1.box.cell 1).trans rfl; clear own1 gr1) | (go_at_call 34; fail))
  refine (cadd34 (unhide A1).1.ca a).mono ?_
  rintro e w3 ⟨rfl, u⟩
  have U := hide u
  clear u
  go_wp2
  go_end0
  obtain ⟨T1, B1, _⟩ := unhide A1
  obtain ⟨T3, B3⟩ := Td.cadd T1 (unhide U)
  exact ⟨rfl, ⟨_, by rw [cf_snoc]; exact T3⟩, B1.trans B3⟩
/-- More is told, by the document. -/
def PtN (B base : Nat) (w : World) (g b : Nat) (cs : Value) (l : List Nat) (w' : World) : Prop := (∃ v, Pt B base w' g b cs v l (cf b l)) ∧ Below B w w'
set_option maxHeartbeats 1000000 in
theorem radd32_zero {B base g : Nat} {w : World} {cs v : Value} {l : List Nat} (h : Pt B base w g 0 cs v l (cf 0 l)) (hl : l.length < 1000000) (a : Nat) :
    Calls Try.prog 32 #[.pointer (some ⟨g, 0, none⟩), .int .u32 a] w fun e w' => e = .returned (.tuple #[]) ∧ PtN B base w g 0 cs (l ++ [a]) w' := by
  have T0 := hide h
  have c0 : w.cell? ⟨g, 0, none⟩ = some v := (h.box.cell 0).trans rfl
  have gl := h.box.lt
  obtain ⟨i0, hi0, hz0, hz1, hz2⟩ := info_parts info35
  obtain ⟨av, cv, rfl, _⟩ := own_shape h.own
  have HB := h.hb
  clear h
  go_enter Try.func32, Try.ntmps32
  go_wp2_with (first | (at_builtin; refine wpList_append_own_at _ rfl (.tmp 8) (.tmp 10) 24 rfl base 35 i0 (.int .u32 0) 1 4 Try.underlying24 hi0 hz0 hz1 hz2 rfl (by decide) _ l.length (cl l) rfl ((unhide T0).own.alloc _) ⟨w.heap.size, 0, none⟩ 1 1 [.int .u32 a] rfl rfl (cell_one_new _ _ _) (one_one _ _) (by unfold maxLen; omega) (by omega) (by simp; omega) ?_; intro v1 w1 own1 gr1 _ _; obtain ⟨a1, k1, rfl, _⟩ := own_shape own1; have A1 := hide ((unhide T0).app own1 gr1); have d0 : w1.cell? ⟨g, 0, none⟩ = some (.slice av l.length cv) := ((unhide A1).2.2.cell 0).trans rfl; have f0 := (unhide A1).2.2.free 0; have d2 : (w1.setCell ⟨g, 0, none⟩ (.slice a1 (l.length + 1) k1)).cell? ⟨g, 2, none⟩ = some (.int .i64 0) := ((unhide A1).1.box.cell 2).trans rfl; clear own1 gr1) | (go_at_call 34; fail))
  go_end0
  obtain ⟨T1, B1, _⟩ := unhide A1
  refine ⟨rfl, ⟨_, ⟨T1.box, T1.own, ?_, T1.g0, T1.g1, T1.hb⟩⟩, B1⟩
  rcases T1.ca with h | ⟨rc, _, _, _, _, _, h, _⟩
  · exact .inl h
  · omega
theorem Pt.dr {B base g b : Nat} {w : World} {cs v : Value} {l : List Nat} {f : Nat → Nat} (h : Pt B base w g b cs v l f) : Pt B base w.drew g b cs v l f :=
  ⟨h.box, ⟨h.own.1, h.own.2⟩, h.ca.same (fun _ _ _ _ => rfl), h.g0, h.g1, h.hb⟩
theorem Pt.set {B base g b rc : Nat} {w : World} {cs v : Value} {l : List Nat} {f : Nat → Nat} (h : Pt B base w g b cs v l f) (hc : cs = .slice (some ⟨rc, 0, none⟩) (2 ^ b) (2 ^ b)) (hb : 1 ≤ b) (k z : Nat) :
    Pt B base (w.setCell ⟨rc, k, none⟩ (.int .u32 (z : Int))) g b cs v l (upd f k z) ∧ Below B w (w.setCell ⟨rc, k, none⟩ (.int .u32 (z : Int))) := by
  rcases h.ca with ⟨h0, _⟩ | ⟨rc', hc', bx, h1, h2, h3, h4, h5⟩
  · omega
  · rw [hc] at hc'
    cases hc'
    have hB : B ≤ w.heap.size := by have := h.g0; have := h.g1; have := h.hb; omega
    refine ⟨⟨h.box.other (p := ⟨rc, k, none⟩) (fun e => h3 e.symm) _, own_other h.own (p := ⟨rc, k, none⟩) h2 _, .inr ⟨rc, hc, ?_, h1, h2, h3, h4, h5⟩, h.g0, h.g1, by simp [World.setCell]; exact h.hb⟩, (Below.refl B w).setCell (p := ⟨rc, k, none⟩) h1 _⟩
    have := bx.set k (.int .u32 (z : Int))
    rwa [row_set] at this
set_option maxHeartbeats 2000000 in
theorem radd32_pos {B base g b : Nat} {w : World} {cs v : Value} {l : List Nat} (h : Pt B base w g b cs v l (cf b l)) (hb : 1 ≤ b) (hl : l.length < 1000000) (a : Nat) (ha : a < 4294967296) :
    Calls Try.prog 32 #[.pointer (some ⟨g, 0, none⟩), .int .u32 a] w fun e w' => e = .returned (.tuple #[]) ∧ PtN B base w g b cs (l ++ [a]) w' := by
  have T0 := hide h
  have c0 : w.cell? ⟨g, 0, none⟩ = some v := (h.box.cell 0).trans rfl
  have gl := h.box.lt
  obtain ⟨i0, hi0, hz0, hz1, hz2⟩ := info_parts info35
  obtain ⟨av, cv, rfl, _⟩ := own_shape h.own
  have HB := h.hb
  obtain ⟨rc, rfl, b11⟩ : ∃ rc, cs = .slice (some ⟨rc, 0, none⟩) (2 ^ b) (2 ^ b) ∧ b ≤ 11 := by
    rcases h.ca with ⟨h0, _⟩ | ⟨rc, hc, _, _, _, _, _, h5⟩
    · omega
    · exact ⟨rc, hc, h5⟩
  have SL := hide (sl_lt a b (by omega))
  have QS := hide (fun w => rslot10_in a b w ha hb b11)
  have hbi : 0 < (b : Int) := by omega
  have HBB := hide hb
  clear h hb b11 ha
  go_enter Try.func32, Try.ntmps32
  go_wp2_with (first | (at_builtin; refine wpList_append_own_at _ rfl (.tmp 8) (.tmp 10) 24 rfl base 35 i0 (.int .u32 0) 1 4 Try.underlying24 hi0 hz0 hz1 hz2 rfl (by decide) _ l.length (cl l) rfl ((unhide T0).own.alloc _) ⟨w.heap.size, 0, none⟩ 1 1 [.int .u32 a] rfl rfl (cell_one_new _ _ _) (one_one _ _) (by unfold maxLen; omega) (by omega) (by simp; omega) ?_; intro v1 w1 own1 gr1 _ _; obtain ⟨a1, k1, rfl, _⟩ := own_shape own1; have A1 := hide ((unhide T0).app own1 gr1); have d0 : w1.cell? ⟨g, 0, none⟩ = some (.slice av l.length cv) := ((unhide A1).2.2.cell 0).trans rfl; have f0 := (unhide A1).2.2.free 0; have d2 : (w1.setCell ⟨g, 0, none⟩ (.slice a1 (l.length + 1) k1)).cell? ⟨g, 2, none⟩ = some (.int .i64 b) := ((unhide A1).1.box.cell 2).trans rfl; clear own1 gr1) | (go_at_call 34; fail))
  obtain ⟨T1, B1, _⟩ := unhide A1
  clear A1 d0 f0 d2 c0
  generalize w1.setCell ⟨g, 0, none⟩ (.slice a1 (l.length + 1) k1) = w2 at *
  have e1 : w2.cell? ⟨g, 1, none⟩ = some (.slice (some ⟨rc, 0, none⟩) (2 ^ b) (2 ^ b)) := (T1.box.cell 1).trans rfl
  have e2 : w2.cell? ⟨g, 2, none⟩ = some (.int .i64 b) := (T1.box.cell 2).trans rfl
  have e3 : w2.cell? ⟨rc, sl a b, none⟩ = some (.int .u32 (cf b l (sl a b) : Nat)) ∧ w2.frozen? ⟨rc, sl a b, none⟩ = false := by
    rcases T1.ca with ⟨h0, _⟩ | ⟨rc', hc', bx, _⟩
    · have := unhide HBB; omega
    · cases hc'
      exact ⟨(bx.cell _).trans (row_at _ _ _ (unhide SL)), bx.free _⟩
  obtain ⟨e3, e4⟩ := e3
  have TT := hide (And.intro T1 B1)
  have TS := hide (Pt.set T1 rfl (unhide HBB) (sl a b) a)
  rw [← cf_snoc] at TS
  have sn : ((sl a b : Nat) : Int) < ((2 ^ b : Nat) : Int) := by have := unhide SL; omega
  clear T1 B1 SL
  generalize hn : 2 ^ b = n at *
  have HN := hide hn
  clear hn
  generalize sl a b = q at *
  go_region_with (go_at_call 25; with_reducible refine Calls.mono (unhide QS _) ?_; rintro e w' ⟨rfl, rfl⟩)
  all_goals go_end0
  all_goals (have hn := unhide HN; subst hn)
  all_goals exact ⟨rfl, ⟨_, Pt.dr (unhide TS).1⟩, bel_dr ((unhide TT).2.trans (unhide TS).2)⟩
theorem radd32 {B base g b : Nat} {w : World} {cs v : Value} {l : List Nat} (h : Pt B base w g b cs v l (cf b l)) (hl : l.length < 1000000) (a : Nat) (ha : a < 4294967296) :
    Calls Try.prog 32 #[.pointer (some ⟨g, 0, none⟩), .int .u32 a] w fun e w' => e = .returned (.tuple #[]) ∧ PtN B base w g b cs (l ++ [a]) w' := by
  rcases Nat.eq_zero_or_pos b with h0 | h0
  · subst h0; exact radd32_zero h hl a
  · exact radd32_pos h h0 hl a ha
/-- The document's new painting. -/
structure NewP (w : World) (b : Nat) (e : Ending) (g : Nat) (w' : World) : Prop where
  ret : e = .returned (.pointer (some ⟨g, 0, none⟩))
  pt : ∃ cs, Pt w.heap.size w'.heap.size w' g b cs (.slice none 0 0) [] (cf b [])
  bel : Below w.heap.size w w'
theorem rnew20_zero (w : World) : Calls Try.prog 20 #[.int .i64 0] w fun e w' => NewP w 0 e w.heap.size w' := by
  go_enter Try.func20, Try.ntmps20
  go_wp2
  go_ret
  exact ⟨rfl, ⟨_, Box.made w 55 _, World.ownsRow_nil _ _ _ _, .inl ⟨rfl, rfl⟩, Nat.le_refl _, by simp, Nat.le_refl _⟩, bel_a1 _ _⟩
set_option maxHeartbeats 1000000 in
theorem rnew20_pos (b : Nat) (w : World) (h0 : 1 ≤ b) (h1 : b ≤ 11) : Calls Try.prog 20 #[.int .i64 b] w fun e w' => NewP w b e w.heap.size w' := by
  have hp := (pow_cast b).symm
  have hl := pow_le b h1
  have HH := hide (And.intro h0 h1)
  have hbi : 0 < (b : Int) := by omega
  have hbj : (b : Int) ≤ 11 := by omega
  generalize hn : 2 ^ b = n at hp hl
  have HN := hide hn
  have hmk := fun w => make_row w n (by omega)
  have hl' : (n : Int) ≤ 2048 := by omega
  clear hn h0 h1
  go_enter Try.func20, Try.ntmps20
  go_wp2
  go_ret
  obtain ⟨h0, h1⟩ := unhide HH
  have en := unhide HN
  subst en
  have b2 := (Box.made w 55 #[.slice none 0 0, .slice (some ⟨w.heap.size + 1, 0, none⟩) (2 ^ b) (2 ^ b), .int .i64 b]).alloc (.cells (row (fun _ => 0) (2 ^ b)) 35)
  have b3 := Box.made (w.alloc (.cells #[.slice none 0 0, .slice (some ⟨w.heap.size + 1, 0, none⟩) (2 ^ b) (2 ^ b), .int .i64 b] 55)) 35 (row (fun _ => 0) (2 ^ b))
  rw [show (w.alloc (.cells #[.slice none 0 0, .slice (some ⟨w.heap.size + 1, 0, none⟩) (2 ^ b) (2 ^ b), .int .i64 b] 55)).heap.size = w.heap.size + 1 by simp] at b3
  exact ⟨rfl, ⟨_, b2, World.ownsRow_nil _ _ _ _, .inr ⟨_, rfl, b3, by omega, by simp, by omega, h0, h1⟩, Nat.le_refl _, by simp; omega, Nat.le_refl _⟩, (bel_a1 _ _).alloc (by simp) _⟩
theorem rnew20 (b : Nat) (w : World) (h : b ≤ 11) : Calls Try.prog 20 #[.int .i64 b] w fun e w' => NewP w b e w.heap.size w' := by
  rcases Nat.eq_zero_or_pos b with h0 | h0
  · subst h0; exact rnew20_zero w
  · exact rnew20_pos b w h0 h
end Go.Proofs.Ytpkiilnkiidoiaa.KAdd
