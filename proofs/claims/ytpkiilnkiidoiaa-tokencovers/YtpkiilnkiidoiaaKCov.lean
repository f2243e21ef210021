/- Contracts: cover.single, cover.copy. Conditions: few pixels. -/
import Derived.Test.YtpkiilnkiidoiaaKCch
import Derived.Deep.RegionWith
namespace Go.Proofs.Ytpkiilnkiidoiaa.KCov
set_option linter.unusedVariables false
open Go.ChangeShapes Go.WideShapes Go.ChangeAt Go.RowKit Go.Sort Go.Proofs.Ytpkiilnkiidoiaa.Core Go.Proofs.Ytpkiilnkiidoiaa.CNum Go.Proofs.Ytpkiilnkiidoiaa.KNum Go.Proofs.Ytpkiilnkiidoiaa.KMem Go.Proofs.Ytpkiilnkiidoiaa.KCch

/-- From base on only the row's block may turn, and the row may move to a new block. -/
structure Fr2 (base : Nat) (v v' : Value) (w w' : World) : Prop where
  size : w.heap.size ≤ w'.heap.size
  blk : ∀ k, base ≤ k → k < w.heap.size → v.ownBlock ≠ some k → w'.heap[k]? = w.heap[k]?
  own : ∀ k, v'.ownBlock = some k → v.ownBlock = some k ∨ w.heap.size ≤ k
theorem Fr2.refl (base : Nat) (v : Value) (w : World) : Fr2 base v v w w := ⟨Nat.le_refl _, fun _ _ _ _ => rfl, fun _ h => .inl h⟩
theorem Fr2.trans {base : Nat} {v v' v'' : Value} {a b c : World} (h : Fr2 base v v' a b) (k : Fr2 base v' v'' b c) : Fr2 base v v'' a c := by
  refine ⟨Nat.le_trans h.size k.size, fun i h1 h2 h3 => (k.blk i h1 (Nat.lt_of_lt_of_le h2 h.size) fun e => ?_).trans (h.blk i h1 h2 h3), fun i e => ?_⟩
  · rcases h.own i e with c | c
    · exact h3 c
    · omega
  · rcases k.own i e with c | c
    · exact h.own i c
    · exact .inr (Nat.le_trans h.size c)
theorem Fr2.box {base g : Nat} {v v' : Value} {w w' : World} {T : TypeId} {vs : Array Value} (h : Fr2 base v v' w w') (bx : Box w g T vs) (hb : base ≤ g) (hv : v.ownBlock ≠ some g) : Box w' g T vs ∧ v'.ownBlock ≠ some g := by
  refine ⟨(h.blk g hb bx.lt hv).trans bx, fun e => ?_⟩
  rcases h.own g e with c | c
  · exact hv c
  · have := bx.lt; omega
theorem Fr2.alloc (base : Nat) (v : Value) (w : World) (o : Obj) : Fr2 base v v w (w.alloc o) := ⟨by simp, fun k _ h _ => Below.heap_alloc _ _ _ h, fun _ h => .inl h⟩
theorem Fr2.drewN (base : Nat) (v : Value) (w : World) (n : Nat) : Fr2 base v v w (w.drewN n) := ⟨Nat.le_refl _, fun _ _ _ _ => rfl, fun _ h => .inl h⟩
theorem Fr2.app {base g : Nat} {w w2 : World} {v v' : Value} {o : Obj} (gr : (w.alloc o).grownBy w2 v.ownBlock) (at1 : v'.ownBlock = v.ownBlock ∨ v'.ownBlock = some (w.alloc o).heap.size) (hg : g < base) : Fr2 base v v' w (w2.setCell ⟨g, 0, none⟩ v') := by
  refine ⟨?_, fun k h1 h2 h3 => ?_, fun k e => ?_⟩
  · have := gr.size
    simp [World.setCell] at this ⊢
    omega
  · rw [Below.heap_setCell _ _ _ _ (by show k ≠ g; omega), gr.block k (by simp; omega) (fun e => h3 e.symm)]
    exact Below.heap_alloc _ _ _ h2
  · rcases at1 with c | c
    · exact .inl (c.symm.trans e)
    · rw [c] at e
      cases e
      exact .inr (by simp)
theorem Fr2.cadd {B base g b : Nat} {w w' : World} {cp : Value} {f : Nat → Nat} {a : Nat} (v : Value) (u : CAdd B g w b cp f a w') (hg : g < base) : Fr2 base v v w w' :=
  ⟨by rw [u.size]; exact Nat.le_refl _, fun k h1 h2 _ => u.upd.block k h2 (fun c => by omega), fun _ h => .inl h⟩
/-- More is covered. -/
def CvN (B base : Nat) (w : World) (g b : Nat) (cp v0 : Value) (ts : List Tk) (l : List Nat) (w' : World) : Prop := (∃ v, Cv B base w' g b cp v ts (cf b l) ∧ Fr2 base v0 v w w') ∧ Below B w w'
theorem Cv.dr {B base g b : Nat} {w : World} {cp v : Value} {ts : List Tk} {f : Nat → Nat} (h : Cv B base w g b cp v ts f) : Cv B base w.drew g b cp v ts f :=
  ⟨h.box, ⟨h.own.1, h.own.2⟩, h.ca.same (fun _ _ _ => rfl), h.g0, h.g1, h.hb⟩
theorem step_tok {ops : Array Oper} {o : Oper} {a : Act} {w : World} {K : Act → World → Prop} {Q : Exit → Act → World → Prop} {E : Prop}
    (hg : o.guard = none) (s x : Operand) (hop : o.op = Op.call { callee := Callee.builtin Builtin.append, args := #[s, x], argTypes := #[22, 22] })
    (base : Nat) (v : Value) (n : Nat) (xs : List Value) (hs : a.eval s = v) (hown : w.ownsRow base 37 5 v n xs) (ad : Addr) (c : Nat) (t : Tk) (hx : a.eval x = .slice (some ad) 1 c)
    (hnews : ∀ j u, (tc t)[j]? = some u → w.cell? (ad.add j) = some u) (hn : n ≤ 1000000) (hb : base ≤ w.heap.size)
    (hK : ∀ a1 k1 w', w'.ownsRow base 37 5 (.slice a1 (n + 1) k1) (n + 1) (xs ++ tc t) → w.grownBy w' v.ownBlock → ((Value.slice a1 (n + 1) k1).ownBlock = v.ownBlock ∨ (Value.slice a1 (n + 1) k1).ownBlock = some w.heap.size) → K (a.put o.dst (.slice a1 (n + 1) k1)) w') :
    if Region.wanted o (yielded ops a.tmps) = true then Oper.wp Try.prog o a w K Q else E := by
  have hw : Region.wanted o (yielded ops a.tmps) = true := by simp [Region.wanted, hg]
  rw [if_pos hw]
  obtain ⟨i0, hi, hz0, hz1, hz2⟩ := info_parts info37
  obtain ⟨v', w', hr, r1, r2, _, r3⟩ := run_append_own_at (P := Try.prog) w base 22 o.type 37 i0 _ 5 40 Try.underlying22 hi hz0 hz1 hz2 rfl (by decide) v n xs hown ad 1 c (tc t) rfl hnews (tc_one t) (by unfold maxLen; omega) (by omega) hb
  obtain ⟨a1, k1, rfl, _⟩ := own_shape r1
  unfold Oper.wp
  simp [execOp, hop, resolve, invoke, builtin, hs, hx, hr, Result.andThen]
  exact hK a1 k1 w' r1 r2 r3
theorem gr_dr1 {w w' : World} {r : Option Nat} {o : Obj} (h : ((w.alloc o).drew).grownBy w' r) : (w.alloc o).grownBy w' r := ⟨h.os, h.tape, h.output, h.size, h.block⟩
set_option maxHeartbeats 2000000 in
theorem copy23 {B base g b n c : Nat} {w : World} {cp v : Value} {ts : List Tk} {l : List Nat} {a : Option Addr} {r : List Nat} (d : Int) (h : Cv B base w g b cp v ts (cf b l)) (hr : Lst B w a r) (hn : n = r.length) (hl : n ≤ 1000000) (ht : ts.length ≤ 900000) :
    Calls Try.prog 23 #[.pointer (some ⟨g, 0, none⟩), .slice a n c, .int .i64 d] w fun e w' => e = .returned (.tuple #[]) ∧ CvN B base w g b cp v (ts ++ [⟨2, n, d, 0, 0⟩]) (l ++ r) w' := by
  have T0 := hide h
  have R0 := hide hr
  have HN := hide hn
  have c0 : w.cell? ⟨g, 0, none⟩ = some v := (h.box.cell 0).trans rfl
  have gl := h.box.lt
  obtain ⟨i0, hi0, hz0, hz1, hz2⟩ := info_parts info37
  obtain ⟨av, cv, rfl, _⟩ := own_shape h.own
  have HB := h.hb
  clear h hr hn
  go_enter Try.func23, Try.ntmps23
  go_wp2_with (first | (at_builtin; refine wpList_append_own_at _ rfl (.tmp 12) (.tmp 17) 22 rfl base 37 i0 (.agg #[.int .i64 0, .int .i64 0, .int .i64 0, .int .i64 0, .int .u32 0]) 5 40 Try.underlying22 hi0 hz0 hz1 hz2 rfl (by decide) _ ts.length (tcs ts) rfl ((unhide T0).own.alloc _) ⟨w.heap.size, 0, none⟩ 1 1 (tc ⟨2, n, d, 0, 0⟩) rfl rfl (tc_new _ _ _) (tc_one _) (by unfold maxLen; omega) (by omega) (by simp; omega) ?_; intro v1 w1 own1 gr1 _ at1; obtain ⟨a1, k1, rfl, _⟩ := own_shape own1; have A1 := hide ((unhide T0).app own1 gr1); have FR := hide (Fr2.app (g := g) gr1 at1 (unhide T0).g1); have d0 : w1.cell? ⟨g, 0, none⟩ = some (.slice av ts.length cv) := ((unhide A1).2.2.cell 0).trans rfl; have f0 := (unhide A1).2.2.free 0; clear own1 gr1 at1) | go_in)
  obtain ⟨T1, B1, _⟩ := unhide A1
  have T2 := hide T1
  have B2 := hide B1
  clear A1 T1 B1 d0 f0 c0
  generalize w1.setCell ⟨g, 0, none⟩ (.slice a1 (ts.length + 1) k1) = w2 at *
  go_loopw [23] (fun x wr => ∃ (k : Nat) (v : Value), x = .int .i64 k ∧ k ≤ n ∧ Cv B base wr g b cp v (ts ++ [⟨2, n, d, 0, 0⟩]) (cf b (l ++ r.take k)) ∧ Below B w wr ∧ Fr2 base (.slice av ts.length cv) v w wr) (fun x _ => n - (intOf x).toNat)
  case atStart => exact ⟨0, _, rfl, by omega, by rw [List.take_zero, List.append_nil]; exact unhide T2, unhide B2, unhide FR⟩
  case round =>
    obtain ⟨k, v, rfl, hk, td, bel, fr⟩ := hrel
    have F2 := hide fr
    have TD := hide td
    have BB := hide bel
    have e1 : wr.cell? ⟨g, 1, none⟩ = some cp := (td.box.cell 1).trans rfl
    clear T2 B2 td bel FR fr
    by_cases hlt : k < n
    · have hlt' : (k : Int) < (n : Int) := by omega
      have hkr : k < r.length := by have := unhide HN; omega
      obtain ⟨b1, off, rfl, hb1, q0⟩ := (unhide R0) k _ (some_getD hkr)
      have q1 := ((unhide BB).cell (p := ⟨b1, off + k, none⟩) hb1).trans q0
      have HX := hide (show r.take (k + 1) = r.take k ++ [r.getD k 0] from (take_snoc hkr).symm)
      clear q0
      generalize r.getD k 0 = x at *
      have A := hide (cadd34 (unhide TD).ca x)
      go_wp2_with fail
      refine (unhide A).mono ?_
      rintro e w3 ⟨rfl, u⟩
      have T3 := hide (Cv.cadd (unhide TD) u)
      have F3 := hide ((unhide F2).trans (Fr2.cadd v u (unhide TD).g1))
      clear u
      go_wp2
      go_roundw
      case rel => exact ⟨k + 1, v, by go_num, by omega, by rw [unhide HX, ← List.append_assoc, cf_snoc]; exact (unhide T3).1, (unhide BB).trans (unhide T3).2, unhide F3⟩
      case measure => simp [intOf]; omega
    · have e : k = n := by omega
      have hlt' : ¬ (k : Int) < (n : Int) := by omega
      go_wp2
      go_end0
      have td := unhide TD
      rw [List.take_of_length_le (by have := unhide HN; omega)] at td
      exact ⟨rfl, ⟨v, td, unhide F2⟩, unhide BB⟩
set_option maxHeartbeats 4000000 in
theorem single22 {B base g b n c : Nat} {w : World} {cp v : Value} {ts : List Tk} {l : List Nat} {a : Option Addr} {r : List Nat} (h : Cv B base w g b cp v ts (cf b l)) (hr : Lst B w a r) (hn : n = r.length) (hl : n ≤ 100000) (ht : ts.length ≤ 100000) :
    Calls Try.prog 22 #[.pointer (some ⟨g, 0, none⟩), .slice a n c] w fun e w' => e = .returned (.tuple #[]) ∧ CvN B base w g b cp v (ts ++ sngs b l r) (l ++ r) w' := by
  have T0 := hide h
  have R0 := hide hr
  have HN := hide hn
  have hb11 := h.ca.le
  clear h hr hn
  go_enter Try.func22, Try.ntmps22
  go_wp2
  go_loopw [11] (fun x wr => ∃ (k : Nat) (u : Value), x = .int .i64 k ∧ k ≤ n ∧ Cv B base wr g b cp u (ts ++ sngs b l (r.take k)) (cf b (l ++ r.take k)) ∧ Below B w wr ∧ Fr2 base v u w wr) (fun x _ => n - (intOf x).toNat)
  case atStart => exact ⟨0, _, rfl, by omega, by rw [List.take_zero, List.append_nil]; simpa [sngs] using unhide T0, Below.refl _ _, Fr2.refl _ _ _⟩
  case round =>
    obtain ⟨k, u, rfl, hk, td, bel, fr⟩ := hrel
    have F2 := hide fr
    clear fr
    have TD := hide td
    have BB := hide bel
    obtain ⟨av, cv, rfl, _⟩ := own_shape td.own
    have e0 : wr.cell? ⟨g, 0, none⟩ = some (.slice av (ts ++ sngs b l (r.take k)).length cv) := (td.box.cell 0).trans rfl
    have e1 : wr.cell? ⟨g, 1, none⟩ = some cp := (td.box.cell 1).trans rfl
    have f0 := td.box.free 0
    have gl := td.box.lt
    have hlen : (ts ++ sngs b l (r.take k)).length ≤ 200000 := by
      rw [List.length_append, sngs_len, List.length_take]; omega
    clear T0 td bel
    by_cases hlt : k < n
    · have hlt' : (k : Int) < (n : Int) := by omega
      have hkr : k < r.length := by have := unhide HN; omega
      obtain ⟨b1, off, rfl, hb1, q0⟩ := (unhide R0) k _ (some_getD hkr)
      have q1 := ((unhide BB).cell (p := ⟨b1, off + k, none⟩) hb1).trans q0
      have hb1w : b1 < wr.heap.size := lt_of_cell q1
      have HX := hide (show r.take (k + 1) = r.take k ++ [r.getD k 0] from (take_snoc hkr).symm)
      clear q0
      generalize r.getD k 0 = x at *
      generalize hT : ts ++ sngs b l (r.take k) = tz at *
      generalize hL : l ++ r.take k = lz at *
      have HT := hide (And.intro hT hL)
      clear hT hL
      by_cases hf : b ≠ 0 ∧ cf b lz (sl x b) = x
      · have F := hide (fun (wz : World) (u : Below wr.heap.size wr wz) => cfind33_yes ((unhide TD).keep u).ca x hf.1 hf.2)
        have E1 := hide (show ts ++ sngs b l (r.take (k + 1)) = tz ++ [(⟨3, 0, 0, (sl x b : Nat), 0⟩ : Tk)] by rw [unhide HX, sngs_snoc, ← List.append_assoc, (unhide HT).1, (unhide HT).2, sgl_yes hf.1 hf.2])
        have E2 := hide (show l ++ r.take (k + 1) = lz ++ [x] by rw [unhide HX, ← List.append_assoc, (unhide HT).2])
        have HF := hide hf
        clear hf
        go_wp2_with fail
        refine (unhide F _ (bel_a1 _ _)).mono ?_
        rintro e w3 ⟨rfl, rfl⟩
        go_wp2
        generalize hw4 : wr.alloc (.cells #[Value.int .i64 3, .int .i64 0, .int .i64 0, .int .i64 (sl x b : Nat), .int .u32 0] 37) = w4
        have TD4 := hide (show Cv B base w4 g b cp (.slice av tz.length cv) tz (cf b lz) from hw4 ▸ (unhide TD).keep (bel_a1 wr _))
        have BX4 : Box w4 wr.heap.size 37 #[Value.int .i64 3, .int .i64 0, .int .i64 0, .int .i64 (sl x b : Nat), .int .u32 0] := hw4 ▸ Box.made wr 37 _
        have FA := hide (show Fr2 base (.slice av tz.length cv) (.slice av tz.length cv) wr w4 from hw4 ▸ Fr2.alloc _ _ _ _)
        have B4 := hide (show Below B w w4 from hw4 ▸ (unhide BB).alloc (by have := (unhide TD).g0; omega) _)
        have g0 : w4.cell? ⟨g, 0, none⟩ = some (.slice av tz.length cv) := ((unhide TD4).box.cell 0).trans rfl
        have gl4 := (unhide TD4).box.lt
        have t0 := BX4.cell 0
        have t1 := BX4.cell 1
        have t2 := BX4.cell 2
        have t3 := BX4.cell 3
        have t4 := BX4.cell 4
        have tl4 := BX4.lt
        simp at t0 t1 t2 t3 t4
        generalize wr.heap.size = gt at *
        have HB4 := (unhide TD4).hb
        clear hw4 BX4 e0 e1 f0 q1
        go_region_law (refine step_tok rfl (.tmp 33) (.tmp 35) rfl base (.slice av tz.length cv) tz.length (tcs tz) (by simp [Act.eval]) (by first | exact ((unhide TD4).own.alloc _).drew | exact (unhide TD4).own.drew.alloc _ | exact (unhide TD4).own.alloc _) ⟨w4.heap.size, 0, none⟩ 1 (⟨3, 0, 0, (sl x b : Nat), 0⟩ : Tk) (by simp [Act.eval]) (by first | exact tc_new w4 (⟨3, 0, 0, (sl x b : Nat), 0⟩ : Tk) 37 | exact tc_new w4.drew (⟨3, 0, 0, (sl x b : Nat), 0⟩ : Tk) 37) (by omega) (by first | (simp; omega) | omega) ?_; intro a1 k1 w5 own1 gr1 at1; have FR := hide (Fr2.app (g := g) (v' := .slice a1 (tz.length + 1) k1) (by first | exact gr1 | exact gr_dr1 gr1) at1 (unhide TD4).g1); have A1 := hide ((unhide TD4).app (t := (⟨3, 0, 0, (sl x b : Nat), 0⟩ : Tk)) own1 (by first | exact gr1 | exact gr_dr1 gr1)); have d0 : w5.cell? ⟨g, 0, none⟩ = some (.slice av tz.length cv) := ((unhide A1).2.2.cell 0).trans rfl; have f0 := (unhide A1).2.2.free 0; have dl := (unhide A1).2.2.lt; clear own1 gr1 at1)
        all_goals
          obtain ⟨T5, B5, _⟩ := unhide A1
          have e5 : (w5.setCell ⟨g, 0, none⟩ (.slice a1 (tz.length + 1) k1)).cell? ⟨g, 1, none⟩ = some cp := (T5.box.cell 1).trans rfl
          have T6 := hide T5
          have B6 := hide B5
          clear A1 T5 B5 d0 f0 dl g0 t0 t1 t2 t3 t4
          generalize w5.setCell ⟨g, 0, none⟩ (.slice a1 (tz.length + 1) k1) = w7 at *
          go_wp2_with fail
          refine (cadd34 (unhide T6).ca x).mono ?_
          rintro e w6 ⟨rfl, u⟩
          have T7 := hide (Cv.cadd (unhide T6) u)
          have F7 := hide ((((unhide F2).trans (unhide FA)).trans (unhide FR)).trans (Fr2.cadd _ u (unhide T6).g1))
          clear u
          go_wp2
          go_roundw
        all_goals first
          | (simp [intOf]; done)
          | (simp [intOf]; omega)
          | exact ⟨k + 1, _, by go_num, by omega, by rw [unhide E1, unhide E2, cf_snoc]; exact (unhide T7).1, ((unhide B4).trans (unhide B6)).trans (unhide T7).2, unhide F7⟩
      · have hf' : b = 0 ∨ cf b lz (sl x b) ≠ x := by
          by_cases hb0 : b = 0
          · exact .inl hb0
          · exact .inr fun c => hf ⟨hb0, c⟩
        have F := hide (fun (wz : World) (u : Below wr.heap.size wr wz) => cfind33_no ((unhide TD).keep u).ca x hf')
        have E1 := hide (show ts ++ sngs b l (r.take (k + 1)) = tz ++ [(⟨1, 0, 0, 0, x⟩ : Tk)] by rw [unhide HX, sngs_snoc, ← List.append_assoc, (unhide HT).1, (unhide HT).2, sgl_no hf'])
        have E2 := hide (show l ++ r.take (k + 1) = lz ++ [x] by rw [unhide HX, ← List.append_assoc, (unhide HT).2])
        clear hf hf'
        go_wp2_with fail
        refine (unhide F _ (bel_a1 _ _)).mono ?_
        rintro e w3 ⟨rfl, rfl⟩
        go_wp2
        generalize hw4 : wr.alloc (.cells #[Value.int .i64 1, .int .i64 0, .int .i64 0, .int .i64 0, .int .u32 x] 37) = w4
        have TD4 := hide (show Cv B base w4 g b cp (.slice av tz.length cv) tz (cf b lz) from hw4 ▸ (unhide TD).keep (bel_a1 wr _))
        have BX4 : Box w4 wr.heap.size 37 #[Value.int .i64 1, .int .i64 0, .int .i64 0, .int .i64 0, .int .u32 x] := hw4 ▸ Box.made wr 37 _
        have FA := hide (show Fr2 base (.slice av tz.length cv) (.slice av tz.length cv) wr w4 from hw4 ▸ Fr2.alloc _ _ _ _)
        have B4 := hide (show Below B w w4 from hw4 ▸ (unhide BB).alloc (by have := (unhide TD).g0; omega) _)
        have g0 : w4.cell? ⟨g, 0, none⟩ = some (.slice av tz.length cv) := ((unhide TD4).box.cell 0).trans rfl
        have gl4 := (unhide TD4).box.lt
        have t0 := BX4.cell 0
        have t1 := BX4.cell 1
        have t2 := BX4.cell 2
        have t3 := BX4.cell 3
        have t4 := BX4.cell 4
        have tl4 := BX4.lt
        simp at t0 t1 t2 t3 t4
        generalize wr.heap.size = gt at *
        have HB4 := (unhide TD4).hb
        clear hw4 BX4 e0 e1 f0 q1
        go_region_law (refine step_tok rfl (.tmp 33) (.tmp 35) rfl base (.slice av tz.length cv) tz.length (tcs tz) (by simp [Act.eval]) (by first | exact ((unhide TD4).own.alloc _).drew | exact (unhide TD4).own.drew.alloc _ | exact (unhide TD4).own.alloc _) ⟨w4.heap.size, 0, none⟩ 1 (⟨1, 0, 0, 0, x⟩ : Tk) (by simp [Act.eval]) (by first | exact tc_new w4 (⟨1, 0, 0, 0, x⟩ : Tk) 37 | exact tc_new w4.drew (⟨1, 0, 0, 0, x⟩ : Tk) 37) (by omega) (by first | (simp; omega) | omega) ?_; intro a1 k1 w5 own1 gr1 at1; have FR := hide (Fr2.app (g := g) (v' := .slice a1 (tz.length + 1) k1) (by first | exact gr1 | exact gr_dr1 gr1) at1 (unhide TD4).g1); have A1 := hide ((unhide TD4).app (t := (⟨1, 0, 0, 0, x⟩ : Tk)) own1 (by first | exact gr1 | exact gr_dr1 gr1)); have d0 : w5.cell? ⟨g, 0, none⟩ = some (.slice av tz.length cv) := ((unhide A1).2.2.cell 0).trans rfl; have f0 := (unhide A1).2.2.free 0; have dl := (unhide A1).2.2.lt; clear own1 gr1 at1)
        all_goals
          obtain ⟨T5, B5, _⟩ := unhide A1
          have e5 : (w5.setCell ⟨g, 0, none⟩ (.slice a1 (tz.length + 1) k1)).cell? ⟨g, 1, none⟩ = some cp := (T5.box.cell 1).trans rfl
          have T6 := hide T5
          have B6 := hide B5
          clear A1 T5 B5 d0 f0 dl g0 t0 t1 t2 t3 t4
          generalize w5.setCell ⟨g, 0, none⟩ (.slice a1 (tz.length + 1) k1) = w7 at *
          go_wp2_with fail
          refine (cadd34 (unhide T6).ca x).mono ?_
          rintro e w6 ⟨rfl, u⟩
          have T7 := hide (Cv.cadd (unhide T6) u)
          have F7 := hide ((((unhide F2).trans (unhide FA)).trans (unhide FR)).trans (Fr2.cadd _ u (unhide T6).g1))
          clear u
          go_wp2
          go_roundw
        all_goals first
          | (simp [intOf]; done)
          | (simp [intOf]; omega)
          | exact ⟨k + 1, _, by go_num, by omega, by rw [unhide E1, unhide E2, cf_snoc]; exact (unhide T7).1, ((unhide B4).trans (unhide B6)).trans (unhide T7).2, unhide F7⟩
    · have e : k = n := by omega
      have hlt' : ¬ (k : Int) < (n : Int) := by omega
      go_wp2
      go_end0
      have td := unhide TD
      have fr := unhide F2
      rw [List.take_of_length_le (by have := unhide HN; omega)] at td fr
      exact ⟨rfl, ⟨_, td, fr⟩, unhide BB⟩
end Go.Proofs.Ytpkiilnkiidoiaa.KCov
