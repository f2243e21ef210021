/- Contracts: the document's Cover, walked. Conditions: few pixels and spans; the spans fit. -/
import Derived.Test.YtpkiilnkiidoiaaKRcv
namespace Go.Proofs.Ytpkiilnkiidoiaa.KRc2
set_option linter.unusedVariables false
open Go.ChangeShapes Go.WideShapes Go.ChangeAt Go.RowKit Go.Sort Go.Proofs.Ytpkiilnkiidoiaa.Core Go.Proofs.Ytpkiilnkiidoiaa.CNum Go.Proofs.Ytpkiilnkiidoiaa.CSlo Go.Proofs.Ytpkiilnkiidoiaa.KNum Go.Proofs.Ytpkiilnkiidoiaa.KMem Go.Proofs.Ytpkiilnkiidoiaa.KCch Go.Proofs.Ytpkiilnkiidoiaa.KAdd Go.Proofs.Ytpkiilnkiidoiaa.KRad Go.Proofs.Ytpkiilnkiidoiaa.KRst Go.Proofs.Ytpkiilnkiidoiaa.KExp Go.Proofs.Ytpkiilnkiidoiaa.KRex Go.Proofs.Ytpkiilnkiidoiaa.KCv2 Go.Proofs.Ytpkiilnkiidoiaa.KRcv

theorem cov_end {b : Nat} {px : List Nat} {ss : List Sp} (h : fitV px px.length ss = true) : covP b px px.length ss = [] := by
  rcases ss with _ | ⟨s, ss⟩
  · simp [covP, sngs]
  · obtain ⟨f1, f2, _⟩ := fit_cons h
    obtain ⟨p, n, d, rfl, g1, g2, g3, g4, g5, g6, g7⟩ := fit_nat f2
    simp only at f1
    omega
theorem Sm.take {l : List Nat} (h : ∀ x ∈ l, x < 4294967296) (n : Nat) : Sm (l.take n) := fun x hx => h x (List.mem_of_mem_take hx)
/-- The token in its box while the spans are gone through. -/
structure Sea (wo : World) (T0 tf : Tk) (j i : Nat) (t : Tk) (wi : World) : Prop where
  box : Box wi wo.heap.size 37 (tca t)
  bel : Below wo.heap.size wo wi
  lo : i ≤ j → t = T0
  hi : j < i → t = tf
/-- Steps that cover, by the document. -/
def RAns (w : World) (ts : List Tk) (e : Ending) (w' : World) : Prop := (∃ a c, e = .returned (.slice a ts.length c) ∧ Tks w'.heap.size w' a ts) ∧ Below w.heap.size w w'
theorem box_tca {w : World} {g : Nat} {t : Tk} (h : Box w g 37 (tca t)) (u : Tk) : Box (((((w.setCell ⟨g, 0, none⟩ (.int .i64 u.k)).setCell ⟨g, 1, none⟩ (.int .i64 u.n)).setCell ⟨g, 2, none⟩ (.int .i64 u.d)).setCell ⟨g, 3, none⟩ (.int .i64 u.i)).setCell ⟨g, 4, none⟩ (.int .u32 (u.a : Int))) g 37 (tca u) := by
  have h1 := ((((h.set 0 (.int .i64 u.k)).set 1 (.int .i64 u.n)).set 2 (.int .i64 u.d)).set 3 (.int .i64 u.i)).set 4 (.int .u32 (u.a : Int))
  simpa [tca] using h1
theorem bel_five {B g : Nat} {w0 w : World} (h : Below B w0 w) (hg : B ≤ g) (a b c d e : Value) : Below B w0 (((((w.setCell ⟨g, 0, none⟩ a).setCell ⟨g, 1, none⟩ b).setCell ⟨g, 2, none⟩ c).setCell ⟨g, 3, none⟩ d).setCell ⟨g, 4, none⟩ e) :=
  ((((h.setCell (p := ⟨g, 0, none⟩) hg _).setCell (p := ⟨g, 1, none⟩) hg _).setCell (p := ⟨g, 2, none⟩) hg _).setCell (p := ⟨g, 3, none⟩) hg _).setCell (p := ⟨g, 4, none⟩) hg _
set_option maxRecDepth 20000 in
set_option maxHeartbeats 20000000 in
theorem rcover15 {B : Nat} {w : World} {a a' : Option Addr} {n c k c' : Nat} {px : List Nat} {ss : List Sp} (b : Nat) (h : Lst B w a px) (hs : Sps B w a' ss) (hn : n = px.length) (hl : n ≤ 50000) (hk : k = ss.length) (hkl : k ≤ 1000000) (hB : B ≤ w.heap.size)
    (hb : b ≤ 11) (hf : fitV px 0 ss = true) (hsm : ∀ x ∈ px, x < 4294967296) :
    Calls Try.prog 15 #[.slice a n c, .int .i64 b, .slice a' k c'] w fun e w' => RAns w (covP b px 0 ss) e w' := by
  have L := hide h
  have SS := hide hs
  have HN := hide (And.intro hn hl)
  have HK := hide hk
  have HB := hide (And.intro hB hb)
  have HF := hide hf
  have HSM := hide hsm
  clear h hs hn hl hk hB hb hf hsm
  go_enter Try.func15, Try.ntmps15
  go_wp2_with fail
  refine (rnew20 b _ (unhide HB).2).mono ?_
  rintro e w2 ⟨rfl, ⟨cs, P0⟩, B0⟩
  have T0 := hide P0
  have BZ := hide B0
  clear P0 B0
  go_wp2
  generalize hg : w.heap.size = g at *
  have HG := hide hg
  clear hg
  go_loopw [7] (fun x wr => ∃ (nx j : Nat) (v vo : Value) (ts : List Tk), x = vo ∧ nx ≤ n ∧ ts.length ≤ nx ∧ Rv g w2.heap.size w wr g b cs v vo (px.take nx) ts ∧ fitV px nx (ss.drop j) = true ∧ (∀ (i : Nat) (s : Sp), i < j → ss[i]? = some s → s.p + s.n ≤ nx) ∧ (∀ (i : Nat) (s : Sp), i < j → ss[i]? = some s → 1 ≤ s.n) ∧ ts ++ covP b px nx (ss.drop j) = covP b px 0 ss) (fun _ wr => n - plen wr g)
  case atStart => exact ⟨0, 0, _, _, [], rfl, by omega, by simp, ⟨unhide T0, World.ownsRow_nil _ _ _ _, .inl rfl, unhide BZ⟩, unhide HF, fun i s hi => by omega, fun i s hi => by omega, rfl⟩
  case round =>
    obtain ⟨nx, j, v, vo, ts, hx, hnx, htl, rv, hfit, hold, hold0, eq⟩ := hrel
    have hlen : (px.take nx).length = nx := by rw [List.length_take]; have := (unhide HN).1; omega
    obtain ⟨av, cv, rfl, hcv⟩ := own_shape rv.pt.own
    obtain ⟨ao, co, rfl, hco⟩ := own_shape rv.own
    subst hx
    have e0 : wr.cell? ⟨g, 0, none⟩ = some (.slice av nx cv) := by
      have := (rv.pt.box.cell 0)
      rw [hlen] at this
      exact this.trans rfl
    have gl := rv.pt.box.lt
    have RV := hide rv
    have EE := hide eq
    have HT := hide (And.intro hnx htl)
    have PL := hide (show plen wr g = nx from (plen_pt rv.pt).trans hlen)
    by_cases hlt : nx < n
    · have hlt' : (nx : Int) < (n : Int) := by omega
      have hnp : nx < px.length := by have := (unhide HN).1; omega
      obtain ⟨tf, nx', j', NX0, h0'⟩ := nex (unhide HB).2 hnp (unhide HSM) hold hold0 hfit
      have NX := hide NX0
      have H0' := hide h0'
      have BW := hide (show Below B w wr from rv.bel.mono (unhide HB).1)
      obtain ⟨bp, op, rfl, hbp, q0⟩ := ((unhide L).below (unhide BW)) nx _ (some_getD hnp)
      have hbpw : bp < wr.heap.size := lt_of_cell q0
      have SX := hide (show (px.getD nx 0) < 4294967296 by
        rw [List.getD_eq_getElem?_getD, List.getElem?_eq_getElem hnp]; exact (unhide HSM) _ (List.getElem_mem hnp))
      have e1 : wr.cell? ⟨g, 1, none⟩ = some cs := (rv.pt.box.cell 1).trans rfl
      have CA := hide rv.pt.ca
      generalize hX : px.getD nx 0 = X at *
      have HX := hide hX
      clear hX eq rv hfit hold hold0 NX0 h0' hnp T0 hcv hco htl
      rcases Nat.eq_zero_or_pos b with hb0 | hb0
      · subst hb0
        have HTT := hide (show sgl 0 (px.take nx) X = ⟨1, 0, 0, 0, X⟩ from sgl_no (.inl rfl))
        rw [unhide HTT] at NX
        go_wp2
        go_quiet (fail)
        go_wp2
        have BSZ := hide (show B ≤ wr.heap.size by have := (unhide HB).1; have := gl; omega)
        have SEA0 := hide (show Sea wr (⟨1, 0, 0, 0, X⟩ : Tk) tf j 0 (⟨1, 0, 0, 0, X⟩ : Tk) ((wr.alloc (.cells (tca (⟨1, 0, 0, 0, X⟩ : Tk)) 37)).drewN nq) from ⟨(Box.made wr 37 _).drewN _, bel_drN (bel_a1 wr _) _, fun _ => rfl, fun h => by omega⟩)
        clear e0 e1 q0 hbpw 
        generalize hwo : wr = wo at *
        have HWO := hide hwo
        clear hwo
        go_loopw [11] (fun y wi => ∃ (i : Nat) (t : Tk), y = .int .i64 i ∧ i ≤ k ∧ Sea wo (⟨1, 0, 0, 0, X⟩ : Tk) tf j i t wi) (fun y _ => k - (intOf y).toNat)
        case atStart => exact ⟨0, _, rfl, by omega, unhide SEA0⟩
        case round =>
          obtain ⟨i, t, rfl, hi, sea⟩ := hrel
          have SE := hide sea
          have BWI := hide ((unhide BW).trans (sea.bel.mono (unhide BSZ)))
          have hgt := sea.box.lt
          clear SEA0
          by_cases hik : i < k
          · have hik' : (i : Int) < (k : Int) := by omega
            obtain ⟨s, hsi⟩ : ∃ s, ss[i]? = some s := ⟨_, List.getElem?_eq_getElem (by have := unhide HK; omega)⟩
            obtain ⟨bs, off, rfl, hbs, s0, s1, s2⟩ := ((unhide SS).below (unhide BWI)) i s hsi
            have hbsw : bs < wr.heap.size := lt_of_cell s0
            have HSI := hide hsi
            by_cases hp : s.p = (nx : Int)
            · have hij := (unhide NX).far i s hsi hp
              have htf := (unhide NX).hit s (hij ▸ hsi) hp
              rw [hp] at s0
              have hpe : ((nx : Int) == (nx : Int)) = true := by simp
              have x0 := sea.box.cell 0
              have x1 := sea.box.cell 1
              have x2 := sea.box.cell 2
              have x3 := sea.box.cell 3
              have x4 := sea.box.cell 4
              have y0 := sea.box.free 0
              have y1 := sea.box.free 1
              have y2 := sea.box.free 2
              have y3 := sea.box.free 3
              have y4 := sea.box.free 4
              simp [tca] at x0 x1 x2 x3 x4
              have HIJ := hide (And.intro hij htf)
              clear sea hsi hp hij htf
              have BXS := hide (box_tca (unhide SE).box ⟨2, s.n, s.d, 0, 0⟩)
              have BLS := hide (bel_five (unhide SE).bel (Nat.le_refl _) (.int .i64 2) (.int .i64 s.n) (.int .i64 s.d) (.int .i64 0) (.int .u32 0))
              go_wp2
              go_region
              all_goals go_wp2
              all_goals go_roundw
              all_goals first
                | (simp [intOf]; done)
                | (simp [intOf]; omega)
                | exact ⟨i + 1, ⟨2, s.n, s.d, 0, 0⟩, by go_num, by omega, unhide BXS, bel_dr (unhide BLS), fun h => by (have := (unhide HIJ).1; omega), fun _ => (unhide HIJ).2.symm⟩
                | exact ⟨_, _, _, _, _, _, _, _, _, _, _, _, _, _, _, _, _, _, _, _, _, _, _, _, _, ⟨i + 1, ⟨2, s.n, s.d, 0, 0⟩, by go_num, by omega, unhide BXS, bel_dr (unhide BLS), fun h => by (have := (unhide HIJ).1; omega), fun _ => (unhide HIJ).2.symm⟩, rfl⟩
            · have hpe : (s.p == (nx : Int)) = false := beq_eq_false_iff_ne.2 hp
              have LO := hide (fun (h : i + 1 ≤ j) => sea.lo (by omega))
              have HI := hide (show j < i + 1 → t = tf from fun h => by
                by_cases c : j < i
                · exact sea.hi c
                · have e : i = j := by omega
                  rw [sea.lo (by omega), (unhide NX).miss (fun s' h1 h2 => by rw [← e, unhide HSI] at h1; cases h1; exact hp h2)])
              clear sea hsi hp
              go_wp2
              go_roundw
              case rel => exact ⟨i + 1, t, by go_num, by omega, (unhide SE).box, (unhide SE).bel, unhide LO, unhide HI⟩
              case measure => simp [intOf]; omega
          · have hik' : ¬ (i : Int) < (k : Int) := by omega
            have htf : t = tf := by
              by_cases c : j < i
              · exact sea.hi c
              · rw [sea.lo (by omega), (unhide NX).miss (fun s' h1 _ => by
                  have := (List.getElem?_eq_some_iff.1 h1).1
                  have := unhide HK
                  omega)]
            subst htf
            have RVI := hide ((unhide RV).keep sea.bel)
            have ST := hide (rstep21 (m := px.length) t (unhide RVI).pt (by have := (unhide HN).1; have := (unhide HN).2; omega) (by rw [hlen]; have := (unhide HN).1; omega) (Sm.take (unhide HSM) nx) (unhide NX).small)
            rw [(unhide NX).step, ← (unhide HN).1] at ST
            have x0 := sea.box.cell 0
            have x1 := sea.box.cell 1
            have x2 := sea.box.cell 2
            have x3 := sea.box.cell 3
            have x4 := sea.box.cell 4
            simp [tca] at x0 x1 x2 x3 x4
            have VB := hide (show (Value.slice av (px.take nx).length cv).ownBlock ≠ some wo.heap.size from fun e => by have := ((unhide RV).pt.own.lt _ e).2; omega)
            have HBS := hide (show w2.heap.size ≤ wo.heap.size from (unhide RV).pt.hb)
            obtain ⟨i0, hi0, hz0, hz1, hz2⟩ := info_parts info37
            have hts := hide (show ts.length ≤ 50000 by have := (unhide HT).2; have := (unhide HN).2; omega)
            clear sea hkl hik hi hnx
            go_wp2_with fail
            refine (unhide ST).mono ?_
            rintro e w5 ⟨rfl, PF⟩
            obtain ⟨v5, RV5, bxk⟩ := (unhide RVI).step PF
            have BX5 := bxk wo.heap.size 37 (tca t) (unhide SE).box (unhide HBS) (unhide VB)
            have z0 := BX5.cell 0
            have z1 := BX5.cell 1
            have z2 := BX5.cell 2
            have z3 := BX5.cell 3
            have z4 := BX5.cell 4
            have zl := BX5.lt
            simp [tca] at z0 z1 z2 z3 z4
            have R5 := hide RV5
            have hb5 := RV5.pt.hb
            clear PF RV5 bxk BX5 x0 x1 x2 x3 x4 ST
            go_wp2_with (first | (at_builtin; refine wpList_append_own_at _ rfl (.tmp 89) (.tmp 91) 22 rfl w2.heap.size 37 i0 (.agg #[.int .i64 0, .int .i64 0, .int .i64 0, .int .i64 0, .int .u32 0]) 5 40 Try.underlying22 hi0 hz0 hz1 hz2 rfl (by decide) _ ts.length (tcs ts) rfl ((unhide R5).own.alloc _) ⟨w5.heap.size, 0, none⟩ 1 1 (tc t) rfl rfl (tc_new _ _ _) (tc_one _) (by have := unhide hts; unfold maxLen; omega) (by have := unhide hts; omega) (by simp; omega) ?_; intro v9 w9 own9 gr9 _ at9; obtain ⟨a9, k9, rfl, _⟩ := own_shape own9; have R9 := hide ((unhide R5).app own9 gr9 at9); clear own9 gr9 at9) | go_in)
            have PL9 := hide (show plen w9 g = nx' by
              rw [plen_pt (unhide R9).pt, List.length_take]
              have := (unhide NX).le
              omega)
            go_roundw
            case rel => first
              | exact ⟨nx', j', v5, _, ts ++ [t], rfl, by rw [(unhide HN).1]; exact (unhide NX).le, by rw [List.length_append]; have := (unhide NX).up; have := (unhide HT).2; simp; omega, unhide R9, (unhide NX).fit, (unhide NX).old, unhide H0', by rw [← unhide EE, (unhide NX).cov]; simp [List.append_assoc]⟩
              | ((repeat apply Exists.intro); exact ⟨⟨nx', j', v5, _, ts ++ [t], rfl, by rw [(unhide HN).1]; exact (unhide NX).le, by rw [List.length_append]; have := (unhide NX).up; have := (unhide HT).2; simp; omega, unhide R9, (unhide NX).fit, (unhide NX).old, unhide H0', by rw [← unhide EE, (unhide NX).cov]; simp [List.append_assoc]⟩, rfl⟩)
            case measure => rw [unhide PL9, unhide HWO, unhide PL]; have := (unhide NX).up; omega
      · skip
        have b11 := (unhide HB).2
        obtain ⟨rc, rfl, bx⟩ : ∃ rc, cs = .slice (some ⟨rc, 0, none⟩) (2 ^ b) (2 ^ b) ∧ Box wr rc 35 (row (cf b (px.take nx)) (2 ^ b)) := by
          rcases unhide CA with ⟨h0, _⟩ | ⟨rc, hc, bx, _⟩
          · omega
          · exact ⟨rc, hc, bx⟩
        have hsl := sl_lt X b (by omega)
        have c2 : wr.cell? ⟨rc, sl X b, none⟩ = some (.int .u32 (cf b (px.take nx) (sl X b) : Nat)) := (bx.cell _).trans (row_at _ _ _ hsl)
        have rl := bx.lt
        have QS := hide (fun w => rslot10_in X b w (unhide SX) hb0 b11)
        have hbi : 0 < (b : Int) := by omega
        have hbd : decide (0 < (b : Int)) = true := decide_eq_true hbi
        have hbz : b ≠ 0 := by omega
        have hsi : ((sl X b : Nat) : Int) < ((2 ^ b : Nat) : Int) := by omega
        have HBZ := hide hbz
        clear CA bx hsl b11 hbz
        generalize hn2 : 2 ^ b = n2 at *
        by_cases hh : cf b (px.take nx) (sl X b) = X
        · have HTT := hide (show sgl b (px.take nx) X = ⟨3, 0, 0, (sl X b : Nat), 0⟩ from sgl_yes (unhide HBZ) hh)
          rw [unhide HTT] at NX
          rw [hh] at c2
          clear hh hn2
          generalize sl X b = Q at *
          have heq : ((X : Int) == (X : Int)) = true := by simp
          go_wp2
          go_quiet ((go_at_call 25; with_reducible exact Calls.quiet_of_same (unhide QS _)))
          go_wp2_with fail
          refine (unhide QS _).mono ?_
          rintro e w3 ⟨rfl, rfl⟩
          go_wp2
          have BSZ := hide (show B ≤ wr.heap.size by have := (unhide HB).1; have := gl; omega)
          have SEA0 := hide (show Sea wr (⟨3, 0, 0, (Q : Nat), 0⟩ : Tk) tf j 0 (⟨3, 0, 0, (Q : Nat), 0⟩ : Tk) (((((((wr.alloc (.cells (tca (⟨1, 0, 0, 0, X⟩ : Tk)) 37)).drewN nq).setCell ⟨wr.heap.size, 0, none⟩ (.int .i64 3)).setCell ⟨wr.heap.size, 1, none⟩ (.int .i64 0)).setCell ⟨wr.heap.size, 2, none⟩ (.int .i64 0)).setCell ⟨wr.heap.size, 3, none⟩ (.int .i64 (Q : Nat))).setCell ⟨wr.heap.size, 4, none⟩ (.int .u32 0)) from ⟨box_tca (t := (⟨1, 0, 0, 0, X⟩ : Tk)) ((Box.made wr 37 _).drewN _) (⟨3, 0, 0, (Q : Nat), 0⟩ : Tk), bel_five (bel_drN (bel_a1 wr _) _) (Nat.le_refl _) _ _ _ _ _, fun _ => rfl, fun h => by omega⟩)
          clear e0 e1 q0 hbpw heq hbi hbd hsi c2 rl QS HBZ HTT
          generalize hwo : wr = wo at *
          have HWO := hide hwo
          clear hwo
          go_loopw [11] (fun y wi => ∃ (i : Nat) (t : Tk), y = .int .i64 i ∧ i ≤ k ∧ Sea wo (⟨3, 0, 0, (Q : Nat), 0⟩ : Tk) tf j i t wi) (fun y _ => k - (intOf y).toNat)
          case atStart => exact ⟨0, _, rfl, by omega, unhide SEA0⟩
          case round =>
            obtain ⟨i, t, rfl, hi, sea⟩ := hrel
            have SE := hide sea
            have BWI := hide ((unhide BW).trans (sea.bel.mono (unhide BSZ)))
            have hgt := sea.box.lt
            clear SEA0
            by_cases hik : i < k
            · have hik' : (i : Int) < (k : Int) := by omega
              obtain ⟨s, hsi⟩ : ∃ s, ss[i]? = some s := ⟨_, List.getElem?_eq_getElem (by have := unhide HK; omega)⟩
              obtain ⟨bs, off, rfl, hbs, s0, s1, s2⟩ := ((unhide SS).below (unhide BWI)) i s hsi
              have hbsw : bs < wr.heap.size := lt_of_cell s0
              have HSI := hide hsi
              by_cases hp : s.p = (nx : Int)
              · have hij := (unhide NX).far i s hsi hp
                have htf := (unhide NX).hit s (hij ▸ hsi) hp
                rw [hp] at s0
                have hpe : ((nx : Int) == (nx : Int)) = true := by simp
                have x0 := sea.box.cell 0
                have x1 := sea.box.cell 1
                have x2 := sea.box.cell 2
                have x3 := sea.box.cell 3
                have x4 := sea.box.cell 4
                have y0 := sea.box.free 0
                have y1 := sea.box.free 1
                have y2 := sea.box.free 2
                have y3 := sea.box.free 3
                have y4 := sea.box.free 4
                simp [tca] at x0 x1 x2 x3 x4
                have HIJ := hide (And.intro hij htf)
                clear sea hsi hp hij htf
                have BXS := hide (box_tca (unhide SE).box ⟨2, s.n, s.d, 0, 0⟩)
                have BLS := hide (bel_five (unhide SE).bel (Nat.le_refl _) (.int .i64 2) (.int .i64 s.n) (.int .i64 s.d) (.int .i64 0) (.int .u32 0))
                go_wp2
                go_region
                all_goals go_wp2
                all_goals go_roundw
                all_goals first
                  | (simp [intOf]; done)
                  | (simp [intOf]; omega)
                  | exact ⟨i + 1, ⟨2, s.n, s.d, 0, 0⟩, by go_num, by omega, unhide BXS, bel_dr (unhide BLS), fun h => by (have := (unhide HIJ).1; omega), fun _ => (unhide HIJ).2.symm⟩
                  | exact ⟨_, _, _, _, _, _, _, _, _, _, _, _, _, _, _, _, _, _, _, _, _, _, _, _, _, ⟨i + 1, ⟨2, s.n, s.d, 0, 0⟩, by go_num, by omega, unhide BXS, bel_dr (unhide BLS), fun h => by (have := (unhide HIJ).1; omega), fun _ => (unhide HIJ).2.symm⟩, rfl⟩
              · have hpe : (s.p == (nx : Int)) = false := beq_eq_false_iff_ne.2 hp
                have LO := hide (fun (h : i + 1 ≤ j) => sea.lo (by omega))
                have HI := hide (show j < i + 1 → t = tf from fun h => by
                  by_cases c : j < i
                  · exact sea.hi c
                  · have e : i = j := by omega
                    rw [sea.lo (by omega), (unhide NX).miss (fun s' h1 h2 => by rw [← e, unhide HSI] at h1; cases h1; exact hp h2)])
                clear sea hsi hp
                go_wp2
                go_roundw
                case rel => exact ⟨i + 1, t, by go_num, by omega, (unhide SE).box, (unhide SE).bel, unhide LO, unhide HI⟩
                case measure => simp [intOf]; omega
            · have hik' : ¬ (i : Int) < (k : Int) := by omega
              have htf : t = tf := by
                by_cases c : j < i
                · exact sea.hi c
                · rw [sea.lo (by omega), (unhide NX).miss (fun s' h1 _ => by
                    have := (List.getElem?_eq_some_iff.1 h1).1
                    have := unhide HK
                    omega)]
              subst htf
              have RVI := hide ((unhide RV).keep sea.bel)
              have ST := hide (rstep21 (m := px.length) t (unhide RVI).pt (by have := (unhide HN).1; have := (unhide HN).2; omega) (by rw [hlen]; have := (unhide HN).1; omega) (Sm.take (unhide HSM) nx) (unhide NX).small)
              rw [(unhide NX).step, ← (unhide HN).1] at ST
              have x0 := sea.box.cell 0
              have x1 := sea.box.cell 1
              have x2 := sea.box.cell 2
              have x3 := sea.box.cell 3
              have x4 := sea.box.cell 4
              simp [tca] at x0 x1 x2 x3 x4
              have VB := hide (show (Value.slice av (px.take nx).length cv).ownBlock ≠ some wo.heap.size from fun e => by have := ((unhide RV).pt.own.lt _ e).2; omega)
              have HBS := hide (show w2.heap.size ≤ wo.heap.size from (unhide RV).pt.hb)
              obtain ⟨i0, hi0, hz0, hz1, hz2⟩ := info_parts info37
              have hts := hide (show ts.length ≤ 50000 by have := (unhide HT).2; have := (unhide HN).2; omega)
              clear sea hkl hik hi hnx
              go_wp2_with fail
              refine (unhide ST).mono ?_
              rintro e w5 ⟨rfl, PF⟩
              obtain ⟨v5, RV5, bxk⟩ := (unhide RVI).step PF
              have BX5 := bxk wo.heap.size 37 (tca t) (unhide SE).box (unhide HBS) (unhide VB)
              have z0 := BX5.cell 0
              have z1 := BX5.cell 1
              have z2 := BX5.cell 2
              have z3 := BX5.cell 3
              have z4 := BX5.cell 4
              have zl := BX5.lt
              simp [tca] at z0 z1 z2 z3 z4
              have R5 := hide RV5
              have hb5 := RV5.pt.hb
              clear PF RV5 bxk BX5 x0 x1 x2 x3 x4 ST
              go_wp2_with (first | (at_builtin; refine wpList_append_own_at _ rfl (.tmp 89) (.tmp 91) 22 rfl w2.heap.size 37 i0 (.agg #[.int .i64 0, .int .i64 0, .int .i64 0, .int .i64 0, .int .u32 0]) 5 40 Try.underlying22 hi0 hz0 hz1 hz2 rfl (by decide) _ ts.length (tcs ts) rfl ((unhide R5).own.alloc _) ⟨w5.heap.size, 0, none⟩ 1 1 (tc t) rfl rfl (tc_new _ _ _) (tc_one _) (by have := unhide hts; unfold maxLen; omega) (by have := unhide hts; omega) (by simp; omega) ?_; intro v9 w9 own9 gr9 _ at9; obtain ⟨a9, k9, rfl, _⟩ := own_shape own9; have R9 := hide ((unhide R5).app own9 gr9 at9); clear own9 gr9 at9) | go_in)
              have PL9 := hide (show plen w9 g = nx' by
                rw [plen_pt (unhide R9).pt, List.length_take]
                have := (unhide NX).le
                omega)
              go_roundw
              case rel => first
                | exact ⟨nx', j', v5, _, ts ++ [t], rfl, by rw [(unhide HN).1]; exact (unhide NX).le, by rw [List.length_append]; have := (unhide NX).up; have := (unhide HT).2; simp; omega, unhide R9, (unhide NX).fit, (unhide NX).old, unhide H0', by rw [← unhide EE, (unhide NX).cov]; simp [List.append_assoc]⟩
                | ((repeat apply Exists.intro); exact ⟨⟨nx', j', v5, _, ts ++ [t], rfl, by rw [(unhide HN).1]; exact (unhide NX).le, by rw [List.length_append]; have := (unhide NX).up; have := (unhide HT).2; simp; omega, unhide R9, (unhide NX).fit, (unhide NX).old, unhide H0', by rw [← unhide EE, (unhide NX).cov]; simp [List.append_assoc]⟩, rfl⟩)
              case measure => rw [unhide PL9, unhide HWO, unhide PL]; have := (unhide NX).up; omega
        · have HTT := hide (show sgl b (px.take nx) X = ⟨1, 0, 0, 0, X⟩ from sgl_no (.inr hh))
          rw [unhide HTT] at NX
          have heq : (((cf b (px.take nx) (sl X b) : Nat) : Int) == (X : Int)) = false := by rw [beq_eq_false_iff_ne]; omega
          clear hh hn2
          generalize cf b (px.take nx) (sl X b) = Y at *
          generalize sl X b = Q at *
          go_wp2
          go_quiet ((go_at_call 25; with_reducible exact Calls.quiet_of_same (unhide QS _)))
          go_wp2
          have BSZ := hide (show B ≤ wr.heap.size by have := (unhide HB).1; have := gl; omega)
          have SEA0 := hide (show Sea wr (⟨1, 0, 0, 0, X⟩ : Tk) tf j 0 (⟨1, 0, 0, 0, X⟩ : Tk) ((wr.alloc (.cells (tca (⟨1, 0, 0, 0, X⟩ : Tk)) 37)).drewN nq) from ⟨(Box.made wr 37 _).drewN _, bel_drN (bel_a1 wr _) _, fun _ => rfl, fun h => by omega⟩)
          clear e0 e1 q0 hbpw heq hbi hbd hsi c2 rl QS HBZ HTT
          generalize hwo : wr = wo at *
          have HWO := hide hwo
          clear hwo
          go_loopw [11] (fun y wi => ∃ (i : Nat) (t : Tk), y = .int .i64 i ∧ i ≤ k ∧ Sea wo (⟨1, 0, 0, 0, X⟩ : Tk) tf j i t wi) (fun y _ => k - (intOf y).toNat)
          case atStart => exact ⟨0, _, rfl, by omega, unhide SEA0⟩
          case round =>
            obtain ⟨i, t, rfl, hi, sea⟩ := hrel
            have SE := hide sea
            have BWI := hide ((unhide BW).trans (sea.bel.mono (unhide BSZ)))
            have hgt := sea.box.lt
            clear SEA0
            by_cases hik : i < k
            · have hik' : (i : Int) < (k : Int) := by omega
              obtain ⟨s, hsi⟩ : ∃ s, ss[i]? = some s := ⟨_, List.getElem?_eq_getElem (by have := unhide HK; omega)⟩
              obtain ⟨bs, off, rfl, hbs, s0, s1, s2⟩ := ((unhide SS).below (unhide BWI)) i s hsi
              have hbsw : bs < wr.heap.size := lt_of_cell s0
              have HSI := hide hsi
              by_cases hp : s.p = (nx : Int)
              · have hij := (unhide NX).far i s hsi hp
                have htf := (unhide NX).hit s (hij ▸ hsi) hp
                rw [hp] at s0
                have hpe : ((nx : Int) == (nx : Int)) = true := by simp
                have x0 := sea.box.cell 0
                have x1 := sea.box.cell 1
                have x2 := sea.box.cell 2
                have x3 := sea.box.cell 3
                have x4 := sea.box.cell 4
                have y0 := sea.box.free 0
                have y1 := sea.box.free 1
                have y2 := sea.box.free 2
                have y3 := sea.box.free 3
                have y4 := sea.box.free 4
                simp [tca] at x0 x1 x2 x3 x4
                have HIJ := hide (And.intro hij htf)
                clear sea hsi hp hij htf
                have BXS := hide (box_tca (unhide SE).box ⟨2, s.n, s.d, 0, 0⟩)
                have BLS := hide (bel_five (unhide SE).bel (Nat.le_refl _) (.int .i64 2) (.int .i64 s.n) (.int .i64 s.d) (.int .i64 0) (.int .u32 0))
                go_wp2
                go_region
                all_goals go_wp2
                all_goals go_roundw
                all_goals first
                  | (simp [intOf]; done)
                  | (simp [intOf]; omega)
                  | exact ⟨i + 1, ⟨2, s.n, s.d, 0, 0⟩, by go_num, by omega, unhide BXS, bel_dr (unhide BLS), fun h => by (have := (unhide HIJ).1; omega), fun _ => (unhide HIJ).2.symm⟩
                  | exact ⟨_, _, _, _, _, _, _, _, _, _, _, _, _, _, _, _, _, _, _, _, _, _, _, _, _, ⟨i + 1, ⟨2, s.n, s.d, 0, 0⟩, by go_num, by omega, unhide BXS, bel_dr (unhide BLS), fun h => by (have := (unhide HIJ).1; omega), fun _ => (unhide HIJ).2.symm⟩, rfl⟩
              · have hpe : (s.p == (nx : Int)) = false := beq_eq_false_iff_ne.2 hp
                have LO := hide (fun (h : i + 1 ≤ j) => sea.lo (by omega))
                have HI := hide (show j < i + 1 → t = tf from fun h => by
                  by_cases c : j < i
                  · exact sea.hi c
                  · have e : i = j := by omega
                    rw [sea.lo (by omega), (unhide NX).miss (fun s' h1 h2 => by rw [← e, unhide HSI] at h1; cases h1; exact hp h2)])
                clear sea hsi hp
                go_wp2
                go_roundw
                case rel => exact ⟨i + 1, t, by go_num, by omega, (unhide SE).box, (unhide SE).bel, unhide LO, unhide HI⟩
                case measure => simp [intOf]; omega
            · have hik' : ¬ (i : Int) < (k : Int) := by omega
              have htf : t = tf := by
                by_cases c : j < i
                · exact sea.hi c
                · rw [sea.lo (by omega), (unhide NX).miss (fun s' h1 _ => by
                    have := (List.getElem?_eq_some_iff.1 h1).1
                    have := unhide HK
                    omega)]
              subst htf
              have RVI := hide ((unhide RV).keep sea.bel)
              have ST := hide (rstep21 (m := px.length) t (unhide RVI).pt (by have := (unhide HN).1; have := (unhide HN).2; omega) (by rw [hlen]; have := (unhide HN).1; omega) (Sm.take (unhide HSM) nx) (unhide NX).small)
              rw [(unhide NX).step, ← (unhide HN).1] at ST
              have x0 := sea.box.cell 0
              have x1 := sea.box.cell 1
              have x2 := sea.box.cell 2
              have x3 := sea.box.cell 3
              have x4 := sea.box.cell 4
              simp [tca] at x0 x1 x2 x3 x4
              have VB := hide (show (Value.slice av (px.take nx).length cv).ownBlock ≠ some wo.heap.size from fun e => by have := ((unhide RV).pt.own.lt _ e).2; omega)
              have HBS := hide (show w2.heap.size ≤ wo.heap.size from (unhide RV).pt.hb)
              obtain ⟨i0, hi0, hz0, hz1, hz2⟩ := info_parts info37
              have hts := hide (show ts.length ≤ 50000 by have := (unhide HT).2; have := (unhide HN).2; omega)
              clear sea hkl hik hi hnx
              go_wp2_with fail
              refine (unhide ST).mono ?_
              rintro e w5 ⟨rfl, PF⟩
              obtain ⟨v5, RV5, bxk⟩ := (unhide RVI).step PF
              have BX5 := bxk wo.heap.size 37 (tca t) (unhide SE).box (unhide HBS) (unhide VB)
              have z0 := BX5.cell 0
              have z1 := BX5.cell 1
              have z2 := BX5.cell 2
              have z3 := BX5.cell 3
              have z4 := BX5.cell 4
              have zl := BX5.lt
              simp [tca] at z0 z1 z2 z3 z4
              have R5 := hide RV5
              have hb5 := RV5.pt.hb
              clear PF RV5 bxk BX5 x0 x1 x2 x3 x4 ST
              go_wp2_with (first | (at_builtin; refine wpList_append_own_at _ rfl (.tmp 89) (.tmp 91) 22 rfl w2.heap.size 37 i0 (.agg #[.int .i64 0, .int .i64 0, .int .i64 0, .int .i64 0, .int .u32 0]) 5 40 Try.underlying22 hi0 hz0 hz1 hz2 rfl (by decide) _ ts.length (tcs ts) rfl ((unhide R5).own.alloc _) ⟨w5.heap.size, 0, none⟩ 1 1 (tc t) rfl rfl (tc_new _ _ _) (tc_one _) (by have := unhide hts; unfold maxLen; omega) (by have := unhide hts; omega) (by simp; omega) ?_; intro v9 w9 own9 gr9 _ at9; obtain ⟨a9, k9, rfl, _⟩ := own_shape own9; have R9 := hide ((unhide R5).app own9 gr9 at9); clear own9 gr9 at9) | go_in)
              have PL9 := hide (show plen w9 g = nx' by
                rw [plen_pt (unhide R9).pt, List.length_take]
                have := (unhide NX).le
                omega)
              go_roundw
              case rel => first
                | exact ⟨nx', j', v5, _, ts ++ [t], rfl, by rw [(unhide HN).1]; exact (unhide NX).le, by rw [List.length_append]; have := (unhide NX).up; have := (unhide HT).2; simp; omega, unhide R9, (unhide NX).fit, (unhide NX).old, unhide H0', by rw [← unhide EE, (unhide NX).cov]; simp [List.append_assoc]⟩
                | ((repeat apply Exists.intro); exact ⟨⟨nx', j', v5, _, ts ++ [t], rfl, by rw [(unhide HN).1]; exact (unhide NX).le, by rw [List.length_append]; have := (unhide NX).up; have := (unhide HT).2; simp; omega, unhide R9, (unhide NX).fit, (unhide NX).old, unhide H0', by rw [← unhide EE, (unhide NX).cov]; simp [List.append_assoc]⟩, rfl⟩)
              case measure => rw [unhide PL9, unhide HWO, unhide PL]; have := (unhide NX).up; omega
    · skip
      have hne : nx = n := by omega
      have hlt' : ¬ (nx : Int) < (n : Int) := by omega
      have hpx : px.length = nx := by have := (unhide HN).1; omega
      rw [← hpx] at hfit eq
      rw [cov_end hfit, List.append_nil] at eq
      obtain ⟨a3, c3, ev, _, tk⟩ := own_tks (unhide RV).own rfl
      cases ev
      have TK := hide tk
      have EQ := hide eq
      have BL := hide (unhide RV).bel
      clear tk eq hfit rv hold hold0
      go_wp2
      go_ret
      rw [← unhide EQ]
      exact ⟨⟨_, _, rfl, unhide TK⟩, by rw [unhide HG]; exact unhide BL⟩
end Go.Proofs.Ytpkiilnkiidoiaa.KRc2
