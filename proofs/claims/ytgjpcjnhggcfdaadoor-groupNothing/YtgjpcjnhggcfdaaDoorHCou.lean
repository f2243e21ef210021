/- Contract: group.Count, by what partsOf answers of each step. Conditions: at most a million steps; the cache may be. -/
import Derived.Test.YtgjpcjnhggcfdaaDoorHCnt
namespace Go.Proofs.YtgjpcjnhggcfdaaDoor.HCou
set_option linter.unusedVariables false
open Go.ChangeShapes Go.WideShapes Go.ChangeAt Go.RowKit Go.Proofs.YtgjpcjnhggcfdaaDoor.Core Go.Proofs.YtgjpcjnhggcfdaaDoor.Add Go.Proofs.YtgjpcjnhggcfdaaDoor.Ord Go.Proofs.YtgjpcjnhggcfdaaDoor.HNum Go.Proofs.YtgjpcjnhggcfdaaDoor.HSiz Go.Proofs.YtgjpcjnhggcfdaaDoor.HFit Go.Proofs.YtgjpcjnhggcfdaaDoor.HFiv Go.Proofs.YtgjpcjnhggcfdaaDoor.HNew Go.Proofs.YtgjpcjnhggcfdaaDoor.HHas Go.Proofs.YtgjpcjnhggcfdaaDoor.HTel Go.Proofs.YtgjpcjnhggcfdaaDoor.HPar Go.Proofs.YtgjpcjnhggcfdaaDoor.HCnt

/-- What Count answers. -/
structure CntR (w : World) (c : Nat) (ok : Prop) (f : Nat → Nat → Nat) (e : Ending) (w' : World) : Prop where
  yes : ok → ∃ G, e = .returned (.tuple #[.agg (fv (gs G c)), .bool true]) ∧ Rws w.heap.size w' G c 5 f
  no : ¬ ok → e = .returned (.tuple #[.agg (fv (fun _ => .slice none 0 0)), .bool false])
  bel : Below w.heap.size w w'
theorem info_nil : (Tryd.prog.info? 26).map (·.size) = some (fv (fun _ => Value.slice none 0 0)).size := by
  rw [show (fv (fun _ => Value.slice none 0 0)).size = 5 from rfl]; kernel_rfl
theorem info_gs {G : Nat → Nat} {c : Nat} : (Tryd.prog.info? 26).map (·.size) = some (fv (gs G c)).size := by
  rw [show (fv (gs G c)).size = 5 from rfl]; kernel_rfl
theorem fv_one {u : Nat → Value} (h : ∀ i, (u i).oneCell' = true) : (fv u).all (·.oneCell') = true := by simp [fv, h]
/-- Counts while one step is counted: the first i codes are done. -/
def fm (qf : Tk → Nat → Pa) (ts : List Tk) (t : Tk) (j i : Nat) (k s : Nat) : Nat := cn qf k (ts.take j) s + if k < i then hit (qf t k) s else 0
set_option maxRecDepth 20000 in
set_option maxHeartbeats 4000000 in
theorem count13 {B c n cp : Nat} {w : World} {a : Option Addr} {ts : List Tk} (hc : c ≤ 11) (wd : Int) (h : Tks B w a ts) (hn : n = ts.length) (hl : n ≤ 1000000) (hB : B ≤ w.heap.size) (qf : Tk → Nat → Pa) (okf : Tk → Bool)
    (par : ∀ t, t ∈ ts → ∀ w', Below w.heap.size w w' → Calls Tryd.prog 24 #[.agg (tkc t), .int .i64 wd, .int .i64 (pl c)] w' fun e w'' => e = .returned (.tuple #[.agg (prc (qf t)), .bool (okf t)]) ∧ Below w'.heap.size w' w'')
    (hs : ∀ t, t ∈ ts → okf t = true → ∀ i, i < 5 → (qf t i).th = true → (qf t i).sy < sz c i) :
    Calls Tryd.prog 13 #[.slice a n cp, .int .i64 wd, .int .i64 c] w fun e w' => CntR w c (∀ t, t ∈ ts → okf t = true) (fun i => cn qf i ts) e w' := by
  have SI := hide (fun w => sizes14 c hc w)
  have PLC := hide (fun w => places17 (sz c) (pl c) (by simp [sz]) (by have := pl_le c hc; omega) w)
  have SZ := hide (fun i => sz_bd c i hc)
  have IXS := hide (index_fvn (sz c))
  have h0 : ¬ ((sz c 0 : Nat) : Int) = 0 := by have := (sz_bd c 0 hc).1; omega
  have EQ := hide (fun w => eq_five (sz c 0 : Nat) (sz c 1 : Nat) (sz c 2 : Nat) (sz c 3 : Nat) (sz c 4 : Nat) h0 w)
  have TK := hide h
  have HN := hide hn
  have HB := hide hB
  have PA := hide par
  have HS := hide hs
  clear h hn hB par hs h0 hc
  simp only [tkc] at PA
  unfold fvn at SI IXS PLC
  go_enter Tryd.func13, Tryd.ntmps13
  go_wp2_with fail
  refine (unhide SI _).mono ?_
  rintro e w1 ⟨rfl, b1⟩
  have br := (Box.made w 26 (fv (fun _ => .slice none 0 0))).below b1 (Box.made w 26 _).lt
  have BR := hide br
  have rl := br.lt
  have B1 := hide (bel_into (bel_a1 w _) b1)
  have eq := unhide EQ
  clear b1 br
  go_wp2
  have bF := Box.made (w1.alloc (.cells #[.int .i64 (sz c 0 : Nat), .int .i64 (sz c 1 : Nat), .int .i64 (sz c 2 : Nat), .int .i64 (sz c 3 : Nat), .int .i64 (sz c 4 : Nat)] 50)) 26 #[.slice none 0 0, .slice none 0 0, .slice none 0 0, .slice none 0 0, .slice none 0 0]
  rw [size_a] at bF
  have hsz := (unhide B1).size
  have I0 : CtI w ((w1.alloc (.cells #[.int .i64 (sz c 0 : Nat), .int .i64 (sz c 1 : Nat), .int .i64 (sz c 2 : Nat), .int .i64 (sz c 3 : Nat), .int .i64 (sz c 4 : Nat)] 50)).alloc (.cells #[.slice none 0 0, .slice none 0 0, .slice none 0 0, .slice none 0 0, .slice none 0 0] 26)) (w1.heap.size + 1) w1.heap.size w.heap.size (fun _ => 0) c 0 (fun _ _ => 0) :=
    ⟨⟨fun k hk => by omega, fun k j _ hj => by omega, fun k hk => by omega⟩, bF, (Box.made w1 50 _).alloc _, ((unhide BR).alloc _).alloc _, ((unhide B1).alloc hsz _).alloc (by simp; omega) _⟩
  have II := hide I0
  have hZs := hide (show w.heap.size ≤ w1.heap.size from hsz)
  have hZ2 := hide rl
  clear bF I0 hsz eq SI B1 BR rl EQ
  generalize (w1.alloc (.cells #[.int .i64 (sz c 0 : Nat), .int .i64 (sz c 1 : Nat), .int .i64 (sz c 2 : Nat), .int .i64 (sz c 3 : Nat), .int .i64 (sz c 4 : Nat)] 50)).alloc (.cells #[.slice none 0 0, .slice none 0 0, .slice none 0 0, .slice none 0 0, .slice none 0 0] 26) = w2 at *
  generalize w1.heap.size = Z at *
  go_loopw [25] (fun x wr => ∃ (i : Nat) (G : Nat → Nat), i ≤ 5 ∧ x = .int .i64 i ∧ CtI w wr (Z + 1) Z w.heap.size G c i (fun _ _ => 0) ∧ ∀ k, k < i → Z + 1 < G k) (fun x _ => 5 - (intOf x).toNat)
  case atStart => exact ⟨0, _, by omega, rfl, unhide II, fun k hk => by omega⟩
  case round =>
    obtain ⟨i, G, hi, rfl, I1, hlo⟩ := hrel
    have IR := hide I1
    have LO := hide hlo
    have hFl := I1.box.lt
    clear II hlo
    by_cases hlt : i < 5
    · have hlt' : (i : Int) < 5 := by omega
      have ix := unhide IXS i hlt
      have fF := I1.box.free i
      have cF := (I1.box.cell i).trans (fv_at (fu G c i) i hlt)
      obtain ⟨z0, z1⟩ := unhide SZ i
      clear I1
      have FN := hide (fun (w' : World) => CtI.next (w' := w') (g := wr.heap.size) (unhide IR) hlt (by have := unhide hZs; omega) (by omega) (by have := unhide hZ2; omega) (unhide LO))
      generalize hz : sz c i = z at *
      have mk := fun w => make_ints w z (by omega)
      have U3 : Upd (fun k => k = Z + 1) wr ((wr.setCell ⟨Z + 1, i, none⟩ (.slice (some ⟨wr.heap.size, 0, none⟩) z z)).alloc (.cells (nr (fun _ => 0) z).toArray 3)) :=
        ((Upd.refl (fun k => k = Z + 1) wr).setCell (p := ⟨Z + 1, i, none⟩) rfl _).alloc _
      have BG : Box ((wr.setCell ⟨Z + 1, i, none⟩ (.slice (some ⟨wr.heap.size, 0, none⟩) z z)).alloc (.cells (nr (fun _ => 0) z).toArray 3)) wr.heap.size 3 (nr (fun _ => 0) z).toArray :=
        made_set _ _ _ _ _
      have BF := ((unhide IR).box.set i (.slice (some ⟨wr.heap.size, 0, none⟩) z z)).alloc (.cells (nr (fun _ => 0) z).toArray 3)
      have FF := hide (unhide FN _ U3 (Nat.le_refl _) BG BF)
      have hFi := hide hFl
      clear U3 BG BF FN
      go_wp2
      go_roundw
      case rel =>
        refine ⟨i + 1, fun k => if k = i then wr.heap.size else G k, by omega, by go_num, unhide FF, fun k hk => ?_⟩
        by_cases e : k = i
        · simp only [if_pos e]; exact unhide hFi
        · simp only [if_neg e]; exact unhide LO k (by omega)
      case measure => simp [intOf]; omega
    · obtain rfl : i = 5 := by omega
      clear I1
      have JJ : CtI w wr (Z + 1) Z w.heap.size G c 5 (fun i => cn qf i (ts.take 0)) := unhide IR
      have JI := hide JJ
      clear JJ IR IXS SZ
      go_wp2
      go_loopw [36] (fun x wr => ∃ j : Nat, j ≤ n ∧ x = .int .i64 j ∧ (∀ t, t ∈ ts.take j → okf t = true) ∧ CtI w wr (Z + 1) Z w.heap.size G c 5 (fun i => cn qf i (ts.take j))) (fun x _ => n - (intOf x).toNat)
      case atStart => exact ⟨0, by omega, rfl, fun t ht => by simp at ht, unhide JI⟩
      case round =>
        obtain ⟨j, hj, rfl, oks, I1⟩ := hrel
        have IR := hide I1
        have OKS := hide oks
        clear JI oks
        by_cases hlt : j < n
        · have hlt' : (j : Int) < (n : Int) := by omega
          obtain ⟨t, ht⟩ : ∃ t, ts[j]? = some t := ⟨_, List.getElem?_eq_getElem (by have := unhide HN; omega)⟩
          obtain ⟨bb, off, rfl, hbb, q0, q1, q2, q3, q4⟩ := (unhide TK) j t ht
          have B1 := I1.bel.mono (unhide HB)
          have d0 := (B1.cell (p := ⟨bb, off + j * 5, none⟩) hbb).trans q0
          have d1 := (B1.cell (p := ⟨bb, off + j * 5 + 1, none⟩) hbb).trans q1
          have d2 := (B1.cell (p := ⟨bb, off + j * 5 + 2, none⟩) hbb).trans q2
          have d3 := (B1.cell (p := ⟨bb, off + j * 5 + 3, none⟩) hbb).trans q3
          have d4 := (B1.cell (p := ⟨bb, off + j * 5 + 4, none⟩) hbb).trans q4
          have hbw : bb < wr.heap.size := lt_of_cell d0
          have hmem := hide (List.mem_of_getElem? ht)
          have HTN := hide (take_next ht)
          clear q0 q1 q2 q3 q4 ht B1 I1
          go_wp2
          have IA := hide ((unhide IR).below (bel_a1 wr (.cells #[.int .i64 t.k, .int .i64 t.n, .int .i64 t.d, .int .i64 t.i, .int .u32 t.a] 39)))
          have TA : TS (wr.alloc (.cells #[.int .i64 t.k, .int .i64 t.n, .int .i64 t.d, .int .i64 t.i, .int .u32 t.a] 39)) wr.heap.size Z c t := by
            have b := Box.made wr 39 #[.int .i64 t.k, .int .i64 t.n, .int .i64 t.d, .int .i64 t.i, .int .u32 t.a]
            have b2 := (unhide IA).siz
            exact ⟨⟨b.cell 0, b.cell 1, b.cell 2, b.cell 3, b.cell 4⟩, ⟨b2.cell 0, b2.cell 1, b2.cell 2, b2.cell 3, b2.cell 4⟩⟩
          have PP := hide (fun w' b => unhide PA t (unhide hmem) w' b)
          clear d0 d1 d2 d3 d4 hbw IR
          generalize wr.alloc (.cells #[.int .i64 t.k, .int .i64 t.n, .int .i64 t.d, .int .i64 t.i, .int .u32 t.a] 39) = wA at *
          generalize wr.heap.size = bt at *
          have tl := TA.1.lt
          have zl := TA.2.lt
          have TT := hide TA
          go_cut [14, 15] from 40 to 47 (fun v b wx => Kn wA (qf t) (okf t) v b wx)
          case first =>
            obtain ⟨⟨x0, x1, x2, x3, x4⟩, s0, s1, s2, s3, s4⟩ := TA
            have ZA : bt ≠ wA.heap.size := Nat.ne_of_lt tl
            have ZB : Z ≠ wA.heap.size := Nat.ne_of_lt zl
            go_region_held3 (fun w' => (w'.cell? ⟨bt, 0, none⟩ = some (.int .i64 t.k) ∧ w'.cell? ⟨bt, 1, none⟩ = some (.int .i64 t.n) ∧ w'.cell? ⟨bt, 2, none⟩ = some (.int .i64 t.d) ∧ w'.cell? ⟨bt, 3, none⟩ = some (.int .i64 t.i) ∧ w'.cell? ⟨bt, 4, none⟩ = some (.int .u32 t.a)) ∧ (w'.cell? ⟨Z, 0, none⟩ = some (.int .i64 (sz c 0 : Nat)) ∧ w'.cell? ⟨Z, 1, none⟩ = some (.int .i64 (sz c 1 : Nat)) ∧ w'.cell? ⟨Z, 2, none⟩ = some (.int .i64 (sz c 2 : Nat)) ∧ w'.cell? ⟨Z, 3, none⟩ = some (.int .i64 (sz c 3 : Nat)) ∧ w'.cell? ⟨Z, 4, none⟩ = some (.int .i64 (sz c 4 : Nat)))) (first | exact ty | exact ty.below (bel_a1 _ _) | exact ty.row ZA ZB _ | exact (ty.below (bel_a1 _ _)).row YA YB _ | exact ty.row XA XB _ | exact tz | exact tz.below (bel_a1 _ _) | go_keep) ((first | (go_at_call 17; with_reducible refine Calls.mono (unhide PLC _) ?_; rintro e w4 ⟨rfl, b4⟩; have Z4 := hide (bel_into (by first | exact bel_d0 wA | exact bel_da wA _ | exact bel_ad wA _ | exact bel_a1 wA _) b4); have tz := (unhide TT).below (unhide Z4); have bk4 := fun (b : Nat) (h : Box _ b 72 pc0) => Box.below h b4 h.lt; (first | (have m4 := hide (bk4 wA.heap.size (by first | exact Box.made wA.drew 72 _ | exact box_drew (Box.made wA 72 _) | exact Box.made wA 72 _))) | skip); have XA : bt ≠ w4.heap.size := Nat.ne_of_lt (Nat.lt_of_lt_of_le tl (unhide Z4).size); have XB : Z ≠ w4.heap.size := Nat.ne_of_lt (Nat.lt_of_lt_of_le zl (unhide Z4).size); clear b4 bk4) | (go_at_call 24; with_reducible refine Calls.mono (unhide PP _ (bel_into (unhide IA).bel (by first | exact unhide Z4 | exact (unhide Z4).alloc (unhide Z4).size _))) ?_; rintro e w5 ⟨rfl, b5⟩; have Z5 := hide (bel_into (w0 := wA) (by first | exact unhide Z4 | exact (unhide Z4).alloc (unhide Z4).size _) b5); have ty := (unhide TT).below (unhide Z5); have YA : bt ≠ w5.heap.size := Nat.ne_of_lt (Nat.lt_of_lt_of_le tl (unhide Z5).size); have YB : Z ≠ w5.heap.size := Nat.ne_of_lt (Nat.lt_of_lt_of_le zl (unhide Z5).size); have bk5 := fun (b : Nat) (h : Box _ b 72 pc0) => Box.below h b5 h.lt; (first | (have st1 := st20 (q := qf t) (bk5 wA.heap.size (unhide m4)); have K1 := hide (kn_row (q := qf t) (ok := okf t) (bk5 wA.heap.size (unhide m4)) (unhide Z5) (Nat.le_refl _))) | (have st1 := st20 (q := qf t) (bk5 w4.heap.size (Box.made w4 72 _)); have K1 := hide (kn_row (q := qf t) (ok := okf t) (bk5 w4.heap.size (Box.made w4 72 _)) (unhide Z5) (unhide Z4).size)) | skip); have st2 := st20 (q := qf t) (Box.made w5 72 pc0); have K2 := hide (kn_row (q := qf t) (ok := okf t) (Box.made w5 72 pc0) ((unhide Z5).alloc (unhide Z5).size _) (unhide Z5).size); simp only [pc0] at st2 K2; clear b5 bk5)))
            all_goals go_wp2_with fail
            all_goals go_meet
            all_goals first | exact unhide K2 | exact unhide K1
          case rest =>
            obtain ⟨⟨g9, rfl, rfl, bq⟩, bl⟩ := hcut
            have IC := hide ((unhide IA).below bl)
            have BQ := hide bq
            clear TA TT tl zl PP IA bl bq
            have HOK := hide (show okf t = okf t from rfl)
            generalize hok : okf t = ok at *
            cases ok with
            | false =>
              have HNO := hide hok
              clear hok BQ
              go_wp2_with (first | (refine wpList_store_row rfl 26 (.tmp 6) (.tmp 50) rfl w.heap.size (fv (fun _ => .slice none 0 0)) rfl rfl 26 _ (unhide IC).res info_nil rfl (fv_one (fun _ => rfl)) ?_) | fail)
              refine bodyPost_ret (results_row_tmp rfl _ _ w.heap.size 26 (fv (fun _ => .slice none 0 0)) (0, 0) _ rfl (setRow_box (unhide IC).res _) Tryd.underlying26 rfl info_nil) rfl ⟨fun h => ?_, fun _ => rfl, bel_row (unhide IC).bel (Nat.le_refl _) _⟩
              have := h t (unhide hmem)
              rw [unhide HNO] at this
              cases this
            | true =>
              have HYE := hide hok
              clear hok
              have HSY := hide (unhide HS t (unhide hmem) (unhide HYE))
              go_wp2_with (first | (refine wpList_load_row rfl 72 (.tmp 14) rfl g9 rfl 72 (prc (qf t)) (0, 0) _ (unhide BQ) Tryd.underlying72 rfl info_prc ?_) | fail)
              have IX := hide (index_prc (qf t))
              have IM := hide (show CtI w wc (Z + 1) Z w.heap.size G c 5 (fm qf ts t j 0) from (unhide IC).congr (fun k hk s hs => by simp [fm]))
              clear BQ IC
              go_loopw [52] (fun x wr => ∃ i : Nat, i ≤ 5 ∧ x = .int .i64 i ∧ CtI w wr (Z + 1) Z w.heap.size G c 5 (fm qf ts t j i)) (fun x _ => 5 - (intOf x).toNat)
              case atStart => exact ⟨0, by omega, rfl, unhide IM⟩
              case round =>
                obtain ⟨i, hi5, rfl, I3⟩ := hrel
                have IT := hide I3
                clear IM
                by_cases hl5 : i < 5
                · have hl5' : (i : Int) < 5 := by omega
                  have ix := unhide IX i hl5
                  have EF := hide (show ∀ s, fm qf ts t j i i s = cn qf i (ts.take j) s from fun s => by simp [fm])
                  have EN := hide (show ∀ k s, k ≠ i → fm qf ts t j (i + 1) k s = fm qf ts t j i k s from fun k s hk => by
                    simp only [fm]
                    by_cases e : k < i
                    · rw [if_pos e, if_pos (by omega)]
                    · rw [if_neg e, if_neg (by omega)])
                  have EI := hide (show ∀ s, fm qf ts t j (i + 1) i s = fm qf ts t j i i s + hit (qf t i) s from fun s => by simp [fm])
                  have HSI := hide (unhide HSY i hl5)
                  rcases hqi : qf t i with ⟨th, sy, bi, ex⟩
                  rw [hqi] at ix HSI EI
                  simp only [pc] at ix
                  cases th with
                  | false =>
                    have IN := hide (show CtI w (wr.alloc (.cells #[.bool false, .int .i64 sy, .int .i64 bi, .int .u32 ex] 71)) (Z + 1) Z w.heap.size G c 5 (fm qf ts t j (i + 1)) from ((unhide IT).below (bel_a1 _ _)).congr (fun k hk s hs => by
                      by_cases e : k = i
                      · subst e
                        rw [unhide EI s]
                        simp [hit]
                      · exact (unhide EN k s e).symm))
                    clear I3 EF EN EI
                    go_wp2
                    go_roundw
                    case rel => exact ⟨i + 1, by omega, by go_num, unhide IN⟩
                    case measure => simp [intOf]; omega
                  | true =>
                    have hsy : sy < sz c i := unhide HSI rfl
                    have hGF := hide (unhide LO i hl5)
                    have hGi := hide ((unhide IT).rws.row i hl5).lt
                    have cF := (I3.box.cell i).trans (fv_at _ i hl5)
                    rw [show fu G c 5 i = .slice (some ⟨G i, 0, none⟩) (sz c i) (sz c i) from if_pos hl5] at cF
                    have cG := (((I3.rws.row i hl5).cell sy).trans (na_at _ _ _ hsy))
                    have fG := (I3.rws.row i hl5).free sy
                    have hFl := I3.box.lt
                    have hGl := (I3.rws.row i hl5).lt
                    have hv : fm qf ts t j i i sy ≤ 1000000 := by
                      rw [unhide EF]
                      have := cn_le qf i sy (ts.take j)
                      have h2 : (ts.take j).length ≤ j := by simp; omega
                      omega
                    have IN := hide (((CtI.count (s := sy) (z := fm qf ts t j i i sy + 1) (f' := fm qf ts t j (i + 1)) (unhide IT) hl5 (by have := unhide hGF; have := unhide hZs; omega) (by have := unhide hGF; omega) (by have := unhide hGF; omega) (by have := unhide hGF; have := unhide hZs; omega) (fun k hk => by
                      rw [unhide EI k]
                      by_cases e : k = sy
                      · subst e; simp [hit]
                      · rw [if_neg e]; simp only [hit]; rw [if_neg (by rintro ⟨_, h⟩; exact e h.symm)]; rfl) (fun k hk => funext fun s => unhide EN k s hk)).below (bel_a1 _ (.cells #[.bool true, .int .i64 sy, .int .i64 bi, .int .u32 ex] 71))).below (bel_d0 _))
                    have hsyi : (sy : Int) < ((sz c i : Nat) : Int) := by omega
                    clear I3 EF EN EI
                    generalize fm qf ts t j i i sy = v at *
                    generalize sz c i = z at *
                    generalize G i = gg at *
                    go_wp2
                    go_region
                    all_goals go_wp2
                    all_goals go_roundw
                    all_goals first
                      | exact ⟨i + 1, by omega, by go_num, unhide IN⟩
                      | (simp [intOf]; omega)
                · obtain rfl : i = 5 := by omega
                  have I5 := hide (show CtI w wr (Z + 1) Z w.heap.size G c 5 (fun k => cn qf k (ts.take (j + 1))) from I3.congr (fun k hk s hs => by rw [unhide HTN, cn_snoc]; simp only [fm]; rw [if_pos hk]))
                  have OK5 := hide (show ∀ u, u ∈ ts.take (j + 1) → okf u = true from fun u hu => by
                    rw [unhide HTN] at hu
                    rcases List.mem_append.1 hu with h | h
                    · exact unhide OKS u h
                    · rw [List.mem_singleton.1 h]; exact unhide HYE)
                  clear I3 IT
                  go_wp2
                  go_roundw
                  case rel => first
                    | exact ⟨j + 1, by omega, by go_num, unhide OK5, unhide I5⟩
                    | ((repeat apply Exists.intro); exact ⟨⟨j + 1, by omega, by go_num, unhide OK5, unhide I5⟩, rfl⟩)
                  case measure => simp [intOf]; omega
        · obtain rfl : j = n := by omega
          have EA := hide (show ts.take j = ts from List.take_of_length_le (by have := unhide HN; omega))
          have q := fun k (hk : k < 5) => (I1.box.cell k).trans (fv_at (fu G c 5) k hk)
          have q0 : wr.cell? ⟨Z + 1, 0, none⟩ = some (.slice (some ⟨G 0, 0, none⟩) (sz c 0) (sz c 0)) := q 0 (by omega)
          have q1 : wr.cell? ⟨Z + 1, 1, none⟩ = some (.slice (some ⟨G 1, 0, none⟩) (sz c 1) (sz c 1)) := q 1 (by omega)
          have q2 : wr.cell? ⟨Z + 1, 2, none⟩ = some (.slice (some ⟨G 2, 0, none⟩) (sz c 2) (sz c 2)) := q 2 (by omega)
          have q3 : wr.cell? ⟨Z + 1, 3, none⟩ = some (.slice (some ⟨G 3, 0, none⟩) (sz c 3) (sz c 3)) := q 3 (by omega)
          have q4 : wr.cell? ⟨Z + 1, 4, none⟩ = some (.slice (some ⟨G 4, 0, none⟩) (sz c 4) (sz c 4)) := q 4 (by omega)
          clear q I1
          have hnl : ¬ (j : Int) < (j : Int) := by omega
          go_wp2_with (first | (refine wpList_store_row rfl 26 (.tmp 6) (.tmp 69) rfl w.heap.size (fv (gs G c)) rfl rfl 26 _ (unhide IR).res info_gs rfl (fv_one (fun _ => rfl)) ?_) | fail)
          refine bodyPost_ret (results_row_tmp rfl _ _ w.heap.size 26 (fv (gs G c)) (0, 0) _ rfl (setRow_box (unhide IR).res _) Tryd.underlying26 rfl info_gs) rfl ⟨fun h => ⟨G, rfl, ?_⟩, fun h => absurd (by have := unhide OKS; rw [unhide EA] at this; exact this) h, bel_row (unhide IR).bel (Nat.le_refl _) _⟩
          have r := (unhide IR).rws
          rw [unhide EA] at r
          have hz := unhide hZs
          exact ⟨fun k hk => by have := r.low k hk; omega, r.rise, fun k hk => (setRow_other _ _ _ _ (by have := r.low k hk; omega)).trans (r.row k hk)⟩
end Go.Proofs.YtgjpcjnhggcfdaaDoor.HCou
