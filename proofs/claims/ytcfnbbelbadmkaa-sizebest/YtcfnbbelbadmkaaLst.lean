/- Contract: ref.Least. Conditions: the slice reads as integers that may be counts, and they are few. -/
import Derived.Test.YtcfnbbelbadmkaaLea
namespace Go.Proofs.Ytcfnbbelbadmkaa.Lst
open Go.ChangeShapes Go.WideShapes Go.ChangeAt Go.RowKit Go.Proofs.Ytcfnbbelbadmkaa.Core Go.Proofs.Ytcfnbbelbadmkaa.Gnd Go.Proofs.Ytcfnbbelbadmkaa.Ris Go.Proofs.Ytcfnbbelbadmkaa.Itm Go.Proofs.Ytcfnbbelbadmkaa.Pur Go.Proofs.Ytcfnbbelbadmkaa.Spr Go.Proofs.Ytcfnbbelbadmkaa.Bst Go.Proofs.Ytcfnbbelbadmkaa.Use Go.Proofs.Ytcfnbbelbadmkaa.Wid Go.Proofs.Ytcfnbbelbadmkaa.Srd Go.Proofs.Ytcfnbbelbadmkaa.Lea

theorem srd_nil (w : World) : Calls Try.prog 18 #[.slice none 0 0] w fun e w' => e = .returned (.tuple #[]) ∧ w' = w := by
  go_enter Try.func18, Try.ntmps18
  go_wp2
  refine bodyPost_ret (results_none rfl _ _ _) rfl ?_
  exact ⟨rfl, rfl⟩
theorem step_int {ops : Array Oper} {o : Oper} {a : Act} {w : World} {K : Act → World → Prop} {Q : Exit → Act → World → Prop} {E : Prop}
    (hg : o.guard = none) (s x : Operand) (hop : o.op = Op.call { callee := Callee.builtin Builtin.append, args := #[s, x], argTypes := #[22, 22] })
    (base : Nat) (v : Value) (L : List Int) (hs : a.eval s = v) (hown : w.ownsRow base 3 1 v L.length (zc L)) (ad : Addr) (c : Nat) (y : Int) (hx : a.eval x = .slice (some ad) 1 c)
    (hnews : ∀ j u, [Value.int .i64 y][j]? = some u → w.cell? (ad.add j) = some u) (hn : L.length + 1 ≤ 1000000) (hbase : base ≤ w.heap.size)
    (hK : ∀ v' w', w'.ownsRow base 3 1 v' (L ++ [y]).length (zc (L ++ [y])) → w.grownBy w' v.ownBlock → K (a.put o.dst v') w') :
    if Region.wanted o (yielded ops a.tmps) = true then Oper.wp Try.prog o a w K Q else E := by
  have hw : Region.wanted o (yielded ops a.tmps) = true := by simp [Region.wanted, hg]
  rw [if_pos hw]
  obtain ⟨i0, hi, hz0, hz1, hz2⟩ := info_parts Gth.info3
  obtain ⟨v', w', hr, r1, r2, _⟩ := run_append_own (P := Try.prog) w base 22 o.type 3 i0 (.int .i64 0) 1 8 Try.underlying22 hi hz0 hz1 hz2 rfl (by decide) v L.length (zc L) hown ad 1 c [.int .i64 y] rfl hnews (Gth.one_one y) (by unfold maxLen; omega) (by omega) hbase
  unfold Oper.wp
  simp [execOp, hop, resolve, invoke, builtin, hs, hx, hr, Result.andThen]
  refine hK v' w' ?_ r2
  rw [List.length_append, show zc (L ++ [y]) = zc L ++ [.int .i64 y] by simp [zc]]
  exact r1
/-- A copy onto nothing. -/
theorem list_copy {w : World} {ops : Array Oper} {rest : List Oper} {o : Oper} {a : Act} {Q : Exit → Act → World → Prop} (hg : o.guard = none) (s x : Operand)
    (hop : o.op = .call { callee := .builtin .append, args := #[s, x], argTypes := #[22, 22] })
    (y : Nat) (hs : a.eval s = .slice (some ⟨y, 0, none⟩) 0 0) (ad : Addr) (n c : Nat) (L : List Int) (hLn : L.length = n) (hx : a.eval x = .slice (some ad) n c)
    (src : ∀ k, k < n → w.cell? (ad.add k) = some (.int .i64 (L.getD k 0))) (hm : 0 < n) (hn : n ≤ 1000000)
    (hK : ∀ v' w', w'.ownsRow w.heap.size 3 1 v' L.length (zc L) → w.grownBy w' none → wpList Try.prog ops Q rest (a.put o.dst v') w') : wpList Try.prog ops Q (o :: rest) a w := by
  subst hLn
  refine wpList_plain hg fun K hK' => ?_
  obtain ⟨i0, hi, hz0, hz1, hz2⟩ := info_parts Gth.info3
  obtain ⟨v', w', hr, r1, r2⟩ := run_append_arg_grows (P := Try.prog) w 22 o.type 3 i0 (.int .i64 0) 1 8 Try.underlying22 hi hz0 hz1 hz2 rfl (by decide) ⟨y, 0, none⟩ 0 0 [] rfl (fun j u hu => by simp at hu) ad L.length c (Gth.cells (fun i => L.getD i 0) L.length) (by rw [Gth.cells_len, Nat.mul_one]) (news_of src) (by omega) (by unfold maxLen; omega) (by omega)
  unfold Oper.wp
  simp [execOp, hop, resolve, invoke, builtin, hs, hx, hr, Result.andThen]
  rw [Nat.zero_add, List.nil_append, ← zc_cells] at r1
  exact hK' _ _ (hK v' w' r1 r2)
theorem own_zl {w : World} {base : Nat} {v : Value} {L : List Int} (h : w.ownsRow base 3 1 v L.length (zc L)) (hn : 0 < L.length) :
    ∃ g cap, v = .slice (some ⟨g, 0, none⟩) L.length cap ∧ L.length ≤ cap ∧ Zow w g L.length (fun i => L.getD i 0) ∧ base ≤ g ∧ g < w.heap.size := by
  rw [zc_cells] at h
  exact own_zow h hn
/-- The counts above 0, gathered. -/
structure Gtz (w wr : World) (v : Value) (L : List Int) : Prop where
  own : wr.ownsRow w.heap.size 3 1 v L.length (zc L)
  nn : L = [] → v = .slice none 0 0
  bel : Below w.heap.size w wr
theorem Gtz.app {w wr w1 : World} {v v1 : Value} {L : List Int} {x : Int} {o : Obj} (h : Gtz w wr v L) (own : w1.ownsRow w.heap.size 3 1 v1 (L.length + 1) (zc L ++ [.int .i64 x])) (gr : (wr.alloc o).grownBy w1 v.ownBlock) : Gtz w w1 v1 (L ++ [x]) := by
  refine ⟨?_, fun e => by simp at e, (h.bel.alloc h.bel.size o).grown gr (by have := h.bel.size; simp; omega) (fun k e => (h.own.lt k e).1)⟩
  rw [List.length_append, show zc (L ++ [x]) = zc L ++ [.int .i64 x] by simp [zc]]
  exact own
theorem zow_list {w : World} {g n : Nat} {f : Nat → Int} {L : List Int} (h : Zow w g n f) (e : lst f n = L) : L.length = n ∧ Zow w g n (fun i => L.getD i 0) := by
  subst e
  refine ⟨lst_len f n, h.congr (fun i hi => ?_)⟩
  simp [lst, hi]
theorem lst_of (L : List Int) : lst (fun i => L.getD i 0) L.length = L := lst_get L
theorem below_upd {w wr w' : World} {g : Nat} (h : Below w.heap.size w wr) (u : Upd (fun k => k = g) wr w') (hg : w.heap.size ≤ g) : Below w.heap.size w w' := h.trans (u.below w.heap.size h.size (fun k e => by omega))
/-- A row, and the first one beside it. -/
structure Rwz (w wr : World) (g1 : Nat) (O : List Int) (v : Value) (R : List Int) : Prop where
  row : ∃ g c r, R.length = r ∧ v = .slice (some ⟨g, 0, none⟩) r c ∧ r ≤ c ∧ Zow wr g r (fun i => R.getD i 0) ∧ g < wr.heap.size
  one : Zow wr g1 O.length (fun i => O.getD i 0)
  lt : g1 < wr.heap.size
  bel : Below w.heap.size w wr
theorem own_less {w : World} {base base' n : Nat} {v : Value} {xs : List Value} (h : w.ownsRow base 3 1 v n xs) (hb : base' ≤ base) : w.ownsRow base' 3 1 v n xs := by
  refine ⟨h.1, ?_⟩
  rcases h.2 with h | ⟨g, cap, cur, e, l, r⟩
  · exact .inl h
  · exact .inr ⟨g, cap, cur, e, Nat.le_trans hb l, r⟩
theorem take_next (R : List Int) (j : Nat) (h : j < R.length / 2) : (prsZ R).take (j + 1) = (prsZ R).take j ++ [R.getD (2 * j) 0 + R.getD (2 * j + 1) 0] := by
  have hl : j < (prsZ R).length := by rw [prsZ_len]; exact h
  rw [List.take_succ_eq_append_getElem hl, ← prsZ_at R j h, List.getD_eq_getElem?_getD, List.getElem?_eq_getElem hl]
  rfl
theorem Gth_mem {L : List Int} {i : Nat} (h : i < L.length) : L.getD i 0 ∈ L := by
  rw [List.getD_eq_getElem?_getD, List.getElem?_eq_getElem h]
  exact List.getElem_mem h
/-- What is put together for the next row. -/
structure Nxt (w wr wi : World) (v : Value) (L : List Int) : Prop where
  own : wi.ownsRow wr.heap.size 3 1 v L.length (zc L)
  bel : Below wr.heap.size wr wi
theorem Nxt.app {w wr wi w1 : World} {v v1 : Value} {L : List Int} {x : Int} {o : Obj} (h : Nxt w wr wi v L) (own : w1.ownsRow wr.heap.size 3 1 v1 (L ++ [x]).length (zc (L ++ [x]))) (gr : ((wi.alloc o).drew).grownBy w1 v.ownBlock) : Nxt w wr w1 v1 (L ++ [x]) :=
  ⟨own, (bel_dr (h.bel.alloc h.bel.size o)).grown gr (by have := h.bel.size; show wr.heap.size ≤ (wi.alloc o).heap.size; simp; omega) (fun k e => (h.own.lt k e).1)⟩
theorem Nxt.app2 {w wr wi w1 : World} {v v1 : Value} {L : List Int} {x : Int} {o : Obj} (h : Nxt w wr wi v L) (own : w1.ownsRow wr.heap.size 3 1 v1 (L ++ [x]).length (zc (L ++ [x]))) (gr : (wi.drew.alloc o).grownBy w1 v.ownBlock) : Nxt w wr w1 v1 (L ++ [x]) :=
  ⟨own, ((bel_dr h.bel).alloc h.bel.size o).grown gr (by have := h.bel.size; show wr.heap.size ≤ (wi.alloc o).heap.size; simp; omega) (fun k e => (h.own.lt k e).1)⟩
set_option maxRecDepth 20000 in
set_option maxHeartbeats 8000000 in
theorem lea12 (v : Value) (len m : Nat) (c : Nat → Int) (S : List It) (w : World) (src : Ints .i64 w v len c) (hl : len ≤ 400) (ok : Okc c len) (hm : 1 ≤ m) (hm2 : m ≤ 15) (hn : (pos c len).length ≤ 2 ^ m) (hS : Sym S) (hp : S.Perm ((pos c len).map (fun x => ((c x, true) : It)))) :
    Calls Try.prog 12 #[v, .int .i64 m] w fun e w' => e = .returned (.int .i64 (cw S m)) ∧ Below w.heap.size w w' := by
  have SRC := hide src
  have OK := hide ok
  have HS := hide hS
  have HP := hide hp
  have HN := hide hn
  have hSl : S.length = (pos c len).length := by rw [hp.length_eq, List.length_map]
  have pl := pos_len c len
  have MX := hide (show ∀ i, i < 15 → ∀ x, x ∈ rowI S i → x.1 ≤ 4294967296 * 2 ^ i from fun i _ x hx => row_max (fun y hy => by
    have h2 := hp.mem_iff.1 hy
    obtain ⟨z, hz, e⟩ := List.mem_map.1 h2
    have h3 := (pos_mem c z len).1 hz
    rw [← e]
    exact (ok z h3.1).2) i x hx)
  obtain ⟨a, cap, rfl, hs⟩ := src
  have H0 := hide hs
  obtain ⟨i0, hi0, hz0, hz1, hz2⟩ := info_parts Gth.info3
  clear hs ok hS hp hn
  go_enter Try.func12, Try.ntmps12
  go_wp2
  go_loopw [5, 6] (fun s i wr => ∃ k : Nat, k ≤ len ∧ i = .int .i64 k ∧ Gtz w wr s ((pos c k).map c)) (fun _ i _ => len - (intOf i).toNat)
  case atStart => exact ⟨0, Nat.zero_le _, rfl, ⟨World.ownsRow_nil _ _ _ _, fun _ => rfl, Below.refl _ w⟩⟩
  case round =>
    obtain ⟨k, hk, rfl, gt⟩ := hrel
    have GT := hide gt
    have plk := pos_len c k
    by_cases hlt : k < len
    · have hlt' : (k : Int) < (len : Int) := by omega
      obtain ⟨b, off, rfl, hc⟩ := unhide H0 k hlt
      have hc' := (gt.bel.cell (p := ⟨b, off + k, none⟩) (lt_of_cell hc)).trans hc
      clear gt hc
      by_cases hq : 0 < c k
      · have E1 := hide (show (pos c (k + 1)).map c = (pos c k).map c ++ [c k] from by show List.map c (if 0 < c k then _ else _) = _; rw [if_pos hq]; simp)
        go_wp2_with (first | (at_builtin; refine wpList_append_own _ rfl (.tmp 24) (.tmp 29) 22 rfl w.heap.size 3 i0 (.int .i64 0) 1 8 Try.underlying22 hi0 hz0 hz1 hz2 rfl (by decide) _ ((pos c k).map c).length (zc ((pos c k).map c)) rfl ((unhide GT).own.alloc _) ⟨wr.heap.size, 0, none⟩ 1 1 [.int .i64 (c k)] rfl rfl (cell_one_new _ _ _) (Gth.one_one _) (by rw [List.length_map]; unfold maxLen; omega) (by rw [List.length_map]; omega) (by have := (unhide GT).bel.size; simp; omega) ?_; intro v1 w1 own1 gr1 _; have GA1 := hide ((unhide GT).app own1 gr1); clear own1 gr1) | fail)
        go_roundw
        case rel => exact ⟨k + 1, by omega, by go_num, by rw [unhide E1]; exact unhide GA1⟩
        case measure => simp [intOf]; omega
      · have E1 := hide (show (pos c (k + 1)).map c = (pos c k).map c from by show List.map c (if 0 < c k then _ else _) = _; rw [if_neg hq])
        go_wp2
        go_roundw
        case rel => exact ⟨k + 1, by omega, by go_num, by rw [unhide E1]; exact unhide GT⟩
        case measure => simp [intOf]; omega
    · obtain rfl : k = len := by omega
      have hnl : ¬ (k : Int) < (k : Int) := by omega
      by_cases h0 : (pos c k).length = 0
      · have hnil : pos c k = [] := List.eq_nil_of_length_eq_zero h0
        obtain rfl := gt.nn (by rw [hnil]; rfl)
        have BG := hide gt.bel
        have CZ := hide (show cw S m = 0 from by
          have e : S = [] := List.eq_nil_of_length_eq_zero (by omega)
          subst e
          unfold cw
          rw [if_neg (by simp)]
          simp [wsum])
        clear gt hnil
        go_wp2_with fail
        refine (srd_nil _).mono ?_
        rintro e w1 ⟨rfl, hw⟩
        have HW := hide hw
        clear hw
        go_wp2
        go_ret
        refine ⟨by rw [unhide CZ]; rfl, ?_⟩
        rw [unhide HW]
        exact unhide BG
      · obtain ⟨g1, cp, ev, hcp, z1, l1, t1⟩ := own_zl gt.own (by rw [List.length_map]; omega)
        rw [List.length_map] at ev hcp z1
        subst ev
        have CS := hide (srd18 _ _ _ g1 cp wr (Nat.le_refl _) hcp (by omega) t1 z1)
        have BG := hide gt.bel
        clear gt z1
        go_wp2_with fail
        refine (unhide CS).mono ?_
        rintro e w1 ⟨rfl, f1, zf, pf, sf, uf⟩
        have hL : lst (fun i => ((pos c k).map c).getD i 0) (pos c k).length = (pos c k).map c := by
          have := lst_of ((pos c k).map c)
          rwa [List.length_map] at this
        rw [hL] at pf
        have eO := one_next (unhide HS) (unhide HP) pf sf
        obtain ⟨hOl, zO⟩ := zow_list zf eO
        have t1w : g1 < w1.heap.size := Nat.lt_of_lt_of_le t1 uf.size
        have B1 := hide (below_upd (unhide BG) uf l1)
        have ZO := hide zO
        obtain ⟨n, hnn⟩ : ∃ n, (pos c k).length = n := ⟨_, rfl⟩
        have hSn : S.length = n := by omega
        rw [hnn] at ZO hcp
        have HSN := hide hSn
        have hn400 : n ≤ 400 := by omega
        have HN2 := hide (show n ≤ 2 ^ m from by rw [← hnn]; exact unhide HN)
        clear zf pf sf uf hL hOl zO CS eO
        rw [hnn]
        by_cases hn1 : n = 1
        · have c1 : w1.cell? ⟨g1, 0, none⟩ = some (.int .i64 ((S.map (·.1)).getD 0 0)) := (unhide ZO 0 (by omega)).1
          have CZ := hide (show cw S m = (S.map (·.1)).getD 0 0 from by
            unfold cw
            rw [if_pos (by omega)]
            have := sum_take S 1 (by omega)
            rw [show S.take 1 = S from List.take_of_length_le (by omega)] at this
            rw [this]
            simp [sumZ])
          generalize (S.map (·.1)).getD 0 0 = o0 at *
          subst hn1
          go_wp2
          go_ret
          exact ⟨by rw [unhide CZ]; rfl, unhide B1⟩
        · have e0 : (((n : Nat) : Int) == 0) = false := beq_eq_false_iff_ne.2 (by omega)
          have e1 : (((n : Nat) : Int) == 1) = false := beq_eq_false_iff_ne.2 (by omega)
          obtain ⟨O, hO⟩ : ∃ O, S.map (·.1) = O := ⟨_, rfl⟩
          have HO := hide hO
          have hOn : O.length = n := by rw [← hO, List.length_map]; exact hSn
          have HON := hide hOn
          rw [hO] at ZO
          have hn2 : 2 ≤ n := by omega
          clear hO hOn hSn hnn h0
          go_wp2_with (first | (at_builtin; refine list_copy rfl (.tmp 42) (.tmp 43) rfl w1.heap.size rfl ⟨g1, 0, none⟩ n cp O (unhide HON) rfl (fun j hj => by rw [add_plain, Nat.zero_add]; exact ((Below.refl _ w1).alloc (Nat.le_refl _) _ |>.cell (p := ⟨g1, j, none⟩) t1w).trans (unhide ZO j hj).1) (by omega) (by omega) ?_; intro v3 w3 own3 gr3; have O3 := hide own3; have G3 := hide gr3; clear own3 gr3) | fail)
          have RZ := hide (show Rwz w w3 g1 O v3 ((rowI S 0).map (·.1)) from by
            obtain ⟨g3, c3, e3, r3, z3, l3, t3⟩ := own_zl (unhide O3) (by rw [unhide HON]; omega)
            have u3 := upd_al (unhide G3)
            refine ⟨⟨g3, c3, O.length, by rw [show (rowI S 0).map (·.1) = O from unhide HO], e3, r3, ?_, t3⟩, ?_, Nat.lt_of_lt_of_le t1w u3.size, ?_⟩
            · rw [show (rowI S 0).map (·.1) = O from unhide HO]
              exact z3
            · rw [unhide HON]
              exact (unhide ZO).keep u3 t1w (fun h => h)
            · exact (unhide B1).trans ((u3.below w.heap.size (unhide B1).size (fun _ h => h.elim)))) 
          clear ZO O3 G3
          obtain ⟨va3, vx3, vy3, rfl⟩ : ∃ a x y, v3 = .slice a x y := by
            obtain ⟨g, c', r, _, e, _⟩ := (unhide RZ).row
            exact ⟨_, _, _, e⟩
          go_wp2
          go_loopw [7, 8] (fun vr x wr => ∃ k' : Nat, 1 ≤ k' ∧ k' ≤ m ∧ x = .int .i64 k' ∧ Rwz w wr g1 O vr ((rowI S (k' - 1)).map (·.1))) (fun _ x _ => m - (intOf x).toNat)
          case atStart => exact ⟨1, Nat.le_refl _, hm, rfl, unhide RZ⟩
          case round =>
            clear RZ
            obtain ⟨k', hk1, hk2, rfl, rz⟩ := hrel
            have RZ := hide rz
            obtain ⟨gr, cr, r, hr, rfl, hcr, zr, tr⟩ := rz.row
            have HR := hide hr
            have ZR := hide zr
            have rup : r ≤ 800 := by
              have := row_up (S := S) (by have := unhide HSN; omega) (k' - 1)
              rw [List.length_map] at hr
              have := unhide HSN
              omega
            by_cases hkm : k' < m
            · have hkm' : (k' : Int) < (m : Int) := by omega
              have lt1 := rz.lt
              have ZO := hide rz.one
              rw [unhide HON] at ZO
              obtain ⟨R, hR⟩ : ∃ R, (rowI S (k' - 1)).map (·.1) = R := ⟨_, rfl⟩
              have HRR := hide hR
              rw [hR] at HR ZR RZ
              have BND := hide (show ∀ x ∈ R, 0 < x ∧ x ≤ 140737488355328 from fun x hx => by
                rw [← hR] at hx
                obtain ⟨y, hy, rfl⟩ := List.mem_map.1 hx
                refine ⟨row_pos (unhide HS) _ y hy, ?_⟩
                have h5 := unhide MX (k' - 1) (by omega) y hy
                have h6 : (2 : Int) ^ (k' - 1) ≤ 2 ^ 15 := by
                  have : 2 ^ (k' - 1) ≤ 2 ^ 15 := Nat.pow_le_pow_right (by omega) (by omega)
                  have e : ((2 ^ (k' - 1) : Nat) : Int) = (2 : Int) ^ (k' - 1) := by simp
                  rw [← e]
                  omega
                omega)
              clear rz zr hr hR
              go_wp2_with (first | (at_builtin; refine list_copy rfl (.tmp 50) (.tmp 51) rfl wr.heap.size rfl ⟨g1, 0, none⟩ n cp O (unhide HON) rfl (fun j hj => by rw [add_plain, Nat.zero_add]; exact ((Below.refl _ wr).alloc (Nat.le_refl _) _ |>.cell (p := ⟨g1, j, none⟩) lt1).trans (unhide ZO j hj).1) (by omega) (by omega) ?_; intro v4 w4 own4 gr4; have N4 := hide (show Nxt w wr w4 v4 O from ⟨own_less own4 (by simp), ((Below.refl _ wr).alloc (Nat.le_refl _) _).grown gr4 (by simp) (fun k e => by cases e)⟩); clear own4 gr4) | fail)
              obtain ⟨va4, vx4, vy4, rfl⟩ : ∃ a x y, v4 = .slice a x y := by
                obtain ⟨g, c', e, _⟩ := own_zl (unhide N4).own (by rw [unhide HON]; omega)
                exact ⟨_, _, _, e⟩
              generalize hwo : wr = wo at *
              clear hwo
              go_wp2
              go_loopw [9, 10] (fun vn x wi => ∃ j q : Nat, j ≤ r / 2 ∧ Hid (q = 2 * j) ∧ x = .int .i64 q ∧ Nxt w wo wi vn (O ++ (prsZ R).take j)) (fun _ x _ => r + 1 - (intOf x).toNat)
              case atStart => exact ⟨0, 0, Nat.zero_le _, rfl, rfl, by simpa using unhide N4⟩
              case round =>
                clear N4
                obtain ⟨j, q, hj, HQ, rfl, nx⟩ := hrel
                have NX := hide nx
                have hq := unhide HQ
                have hLl : (O ++ (prsZ R).take j).length = n + j := by
                  rw [List.length_append, List.length_take, prsZ_len, unhide HON, unhide HR]
                  omega
                by_cases hlt : q + 1 < r
                · have hlt' : (q : Int) + 1 < (r : Int) := by omega
                  have hql : (q : Int) < (r : Int) := by omega
                  have d1 : wr.cell? ⟨gr, q, none⟩ = some (.int .i64 (R.getD q 0)) := (nx.bel.cell (p := ⟨gr, q, none⟩) tr).trans (unhide ZR q (by omega)).1
                  have d2 : wr.cell? ⟨gr, q + 1, none⟩ = some (.int .i64 (R.getD (q + 1) 0)) := (nx.bel.cell (p := ⟨gr, q + 1, none⟩) tr).trans (unhide ZR (q + 1) (by omega)).1
                  have b1 := unhide BND _ (Gth_mem (L := R) (i := q) (by rw [unhide HR]; omega))
                  have b2 := unhide BND _ (Gth_mem (L := R) (i := q + 1) (by rw [unhide HR]; omega))
                  have TN := hide (show O ++ (prsZ R).take (j + 1) = (O ++ (prsZ R).take j) ++ [R.getD q 0 + R.getD (q + 1) 0] from by
                    rw [take_next R j (by rw [unhide HR]; omega), hq, List.append_assoc])
                  have grl : gr < wr.heap.size := Nat.lt_of_lt_of_le tr nx.bel.size
                  have hj1 : j + 1 ≤ r / 2 := by omega
                  have LL := hide hLl
                  have e10 : IntKind.i64.wrap ((q : Int) + 1) = (q : Int) + 1 := by simp [IntKind.wrap, IntKind.bits, IntKind.signed]; omega
                  have hq0 : (0 : Int) ≤ (q : Int) + 1 := by omega
                  have e11 : IntKind.i64.wrap (R.getD q 0 + R.getD (q + 1) 0) = R.getD q 0 + R.getD (q + 1) 0 := by
                    generalize R.getD q 0 = y1 at *
                    generalize R.getD (q + 1) 0 = y2 at *
                    simp [IntKind.wrap, IntKind.bits, IntKind.signed]; omega
                  clear nx hq hLl
                  generalize R.getD q 0 = y1 at *
                  generalize R.getD (q + 1) 0 = y2 at *
                  go_wp2
                  go_region_law (refine step_int rfl (.tmp 60) (.tmp 71) rfl wo.heap.size u9 (O ++ (prsZ R).take j) (by simp [Act.eval]) (by first | exact (unhide NX).own.drew.alloc _ | exact ((unhide NX).own.alloc _).drew) ⟨wr.heap.size, 0, none⟩ 1 (y1 + y2) (by simp [Act.eval]) (by first | exact cell_one_new _ _ _ | exact cell_one_new wr _ _) (by rw [unhide LL]; omega) (by have := (unhide NX).bel.size; first | (simp; omega) | (show wo.heap.size ≤ (wr.alloc _).heap.size; simp; omega)) ?_; intro v1 w1 own1 gr1; have N1 := hide (show Nxt w wo w1 v1 (O ++ (prsZ R).take (j + 1)) from by rw [unhide TN]; first | exact (unhide NX).app2 own1 gr1 | exact (unhide NX).app own1 gr1); clear own1 gr1)
                  all_goals
                    go_simp
                    go_wp2
                    go_roundw
                    case rel => exact ⟨j + 1, q + 2, hj1, (show q + 2 = 2 * (j + 1) by have := unhide HQ; omega), by go_num, unhide N1⟩
                    case measure => simp [intOf]; omega
                · have hnl4 : ¬ (q : Int) + 1 < (r : Int) := by omega
                  have hqb : q ≤ 1000 := by omega
                  have hje : j = r / 2 := by omega
                  obtain ⟨gx, cx, ex, rx, zx, lx, tx⟩ := own_zl nx.own (by rw [hLl]; omega)
                  rw [hLl] at ex rx zx
                  subst ex
                  have CS := hide (srd18 _ (n + j) _ gx cx wr (Nat.le_refl _) rx (by omega) tx zx)
                  have LL := hide hLl
                  have JE := hide hje
                  clear nx zx hLl hje hq
                  go_wp2_with fail
                  refine (unhide CS).mono ?_
                  rintro e w5 ⟨rfl, f5, zf, pf, sf, uf⟩
                  have NR := hide (show Rwz w w5 g1 O (.slice (some ⟨gx, 0, none⟩) (n + j) cx) ((rowI S k').map (·.1)) from by
                    have hfull : (prsZ R).take j = prsZ R := List.take_of_length_le (by rw [prsZ_len, unhide HR, unhide JE]; exact Nat.le_refl _)
                    have hL : lst (fun i => (O ++ (prsZ R).take j).getD i 0) (n + j) = O ++ (prsZ R).take j := by
                      have := lst_of (O ++ (prsZ R).take j)
                      rwa [unhide LL] at this
                    rw [hL, hfull, ← unhide HO, ← unhide HRR] at pf
                    have eR := row_next (unhide HS) (k' - 1) pf sf
                    rw [show k' - 1 + 1 = k' by omega] at eR
                    obtain ⟨h7, z7⟩ := zow_list zf eR
                    refine ⟨⟨gx, cx, n + j, h7, rfl, rx, z7, Nat.lt_of_lt_of_le tx uf.size⟩, ?_, ?_, ?_⟩
                    · rw [unhide HON]
                      have z8 : Zow wr g1 n (fun i => O.getD i 0) := fun i hi => ⟨((unhide NX).bel.cell (p := ⟨g1, i, none⟩) lt1).trans (unhide ZO i hi).1, (World.frozen?_of_block (a := ⟨g1, i, none⟩) ((unhide NX).bel.block g1 lt1)).trans (unhide ZO i hi).2⟩
                      exact z8.keep uf (Nat.lt_of_lt_of_le lt1 (unhide NX).bel.size) (fun h => by omega)
                    · exact Nat.lt_of_lt_of_le (Nat.lt_of_lt_of_le lt1 (unhide NX).bel.size) uf.size
                    · have bz := (unhide RZ).bel
                      exact below_upd (bz.trans ((unhide NX).bel.mono bz.size)) uf (by have := bz.size; omega))
                  clear zf pf sf uf CS
                  go_wp2
                  go_roundw
                  case rel => exact ⟨k' + 1, by omega, by omega, by go_num, by rw [show k' + 1 - 1 = k' by omega]; exact unhide NR⟩
                  case measure => simp [intOf]; omega
            · obtain rfl : k' = m := by omega
              have hnl2 : ¬ (k' : Int) < (k' : Int) := by omega
              obtain ⟨K, hK⟩ : ∃ K, K = 2 * n - 2 := ⟨_, rfl⟩
              have eK : (2 : Int) * (n : Int) - 2 = (K : Int) := by omega
              have hrl : K ≤ (rowI S (k' - 1)).length := by
                have := row_enough S (k' - 1) (by rw [show k' - 1 + 1 = k' by omega, unhide HSN]; exact unhide HN2)
                rw [unhide HSN] at this
                omega
              have CW := hide (show cw S k' = sumZ (fun p => ((rowI S (k' - 1)).map (·.1)).getD p 0) K from by
                unfold cw
                rw [if_neg (by rw [unhide HSN]; omega), unhide HSN, ← hK]
                exact sum_take _ K hrl)
              have hKr : K ≤ r := by rw [← hr, List.length_map]; exact hrl
              obtain ⟨R, hR⟩ : ∃ R, (rowI S (k' - 1)).map (·.1) = R := ⟨_, rfl⟩
              have BND := hide (show ∀ x ∈ R, 0 < x ∧ x ≤ 140737488355328 from fun x hx => by
                rw [← hR] at hx
                obtain ⟨y, hy, rfl⟩ := List.mem_map.1 hx
                refine ⟨row_pos (unhide HS) _ y hy, ?_⟩
                have h5 := unhide MX (k' - 1) (by omega) y hy
                have h6 : (2 : Int) ^ (k' - 1) ≤ 2 ^ 15 := by
                  have : 2 ^ (k' - 1) ≤ 2 ^ 15 := Nat.pow_le_pow_right (by omega) (by omega)
                  have e : ((2 ^ (k' - 1) : Nat) : Int) = (2 : Int) ^ (k' - 1) := by simp
                  rw [← e]
                  omega
                omega)
              rw [hR] at HR ZR RZ CW
              have BZ := hide rz.bel
              have hK8 : K ≤ 800 := by omega
              clear rz zr hr hR hK hrl
              generalize hwo : wr = wo at *
              clear hwo
              go_wp2
              go_loopw [11, 12] (fun x y wi => ∃ i : Nat, i ≤ K ∧ x = .int .i64 (sumZ (fun p => R.getD p 0) i) ∧ y = .int .i64 i ∧ 0 ≤ sumZ (fun p => R.getD p 0) i ∧ sumZ (fun p => R.getD p 0) i ≤ 140737488355328 * i ∧ wi = wo) (fun _ y _ => K - (intOf y).toNat)
              case atStart => exact ⟨0, Nat.zero_le _, rfl, rfl, Int.le_refl _, Int.le_refl _, rfl⟩
              case round =>
                obtain ⟨i, hi, rfl, rfl, s0, s1, rfl⟩ := hrel
                by_cases hlt : i < K
                · have hlt' : (i : Int) < (K : Int) := by omega
                  have hir : (i : Int) < (r : Int) := by omega
                  have d1 : wr.cell? ⟨gr, i, none⟩ = some (.int .i64 (R.getD i 0)) := (unhide ZR i (by omega)).1
                  have b1 := unhide BND _ (Gth_mem (L := R) (i := i) (by rw [unhide HR]; omega))
                  have SS := hide (show sumZ (fun p => R.getD p 0) (i + 1) = sumZ (fun p => R.getD p 0) i + R.getD i 0 from rfl)
                  generalize sumZ (fun p => R.getD p 0) i = z at *
                  generalize R.getD i 0 = y at *
                  go_wp2
                  go_roundw
                  case rel => exact ⟨i + 1, by omega, by rw [unhide SS], by go_num, by rw [unhide SS]; omega, by rw [unhide SS]; omega, by first | rfl | trivial⟩
                  case measure => simp [intOf]; omega
                · obtain rfl : i = K := by omega
                  have hnl3 : ¬ (i : Int) < (i : Int) := by omega
                  generalize sumZ (fun p => R.getD p 0) i = z at *
                  go_wp2
                  go_ret
                  exact ⟨by rw [unhide CW]; rfl, unhide BZ⟩
end Go.Proofs.Ytcfnbbelbadmkaa.Lst
