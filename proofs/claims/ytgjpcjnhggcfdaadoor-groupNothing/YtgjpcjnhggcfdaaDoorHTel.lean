/- Contract: group.Tell, by what partsOf answers. Conditions: the group and the writer lie apart in memory, few bits. -/
import Derived.Test.YtgjpcjnhggcfdaaDoorHHas
import Derived.Test.YtgjpcjnhggcfdaaDoorHTw
import Derived.Deep.RegionHeld3
import Derived.Deep.RegionWith
import Derived.Deep.CutRange
namespace Go.Proofs.YtgjpcjnhggcfdaaDoor.HTel
set_option linter.unusedVariables false
open Go.ChangeShapes Go.WideShapes Go.ChangeAt Go.RowKit Go.Proofs.YtgjpcjnhggcfdaaDoor.Core Go.Proofs.YtgjpcjnhggcfdaaDoor.Gnd Go.Proofs.YtgjpcjnhggcfdaaDoor.Math Go.Proofs.YtgjpcjnhggcfdaaDoor.Dec Go.Proofs.YtgjpcjnhggcfdaaDoor.Tre Go.Proofs.YtgjpcjnhggcfdaaDoor.Foot Go.Proofs.YtgjpcjnhggcfdaaDoor.Add Go.Proofs.YtgjpcjnhggcfdaaDoor.Bak Go.Proofs.YtgjpcjnhggcfdaaDoor.HTw Go.Proofs.YtgjpcjnhggcfdaaDoor.HNum Go.Proofs.YtgjpcjnhggcfdaaDoor.HSiz Go.Proofs.YtgjpcjnhggcfdaaDoor.HFit Go.Proofs.YtgjpcjnhggcfdaaDoor.HFiv Go.Proofs.YtgjpcjnhggcfdaaDoor.HNew Go.Proofs.YtgjpcjnhggcfdaaDoor.HHas

/-- The bits of one part, and how many. -/
def ln (c : Nat) (f : Nat → Nat → Int) (q : Nat → Pa) (i : Nat) : Nat := if (q i).th = true then (qq (f i) (sz c i) (q i).sy).toNat + (q i).bi else 0
def bv (c : Nat) (f : Nat → Nat → Int) (q : Nat → Pa) (i : Nat) : Nat := if (q i).th = true then uu (f i) (sz c i) (q i).sy + (q i).ex * 2 ^ (qq (f i) (sz c i) (q i).sy).toNat else 0
def tN (c : Nat) (f : Nat → Nat → Int) (q : Nat → Pa) (N : Nat) : Nat → Nat
  | 0 => N
  | i + 1 => tN c f q N i + ln c f q i
def tV (c : Nat) (f : Nat → Nat → Int) (q : Nat → Pa) (V N : Nat) : Nat → Nat
  | 0 => V
  | i + 1 => tV c f q V N i + bv c f q i * 2 ^ tN c f q N i
theorem step_row {ops : Array Oper} {o : Oper} {a : Act} {w : World} {K : Act → World → Prop} {Q : Exit → Act → World → Prop} {E : Prop}
    (hg : o.guard = none) (ty : TypeId) (x y : Operand) (ho : o.op = .store ty x y)
    (g : Nat) (cells : Array Value) (hx : a.eval x = .pointer (some ⟨g, 0, none⟩)) (hy : a.eval y = .agg cells)
    (t : TypeId) (old : Array Value) (hgx : w.heap[g]? = some (.cells old t (0, 0))) (hi : (Tryd.prog.info? ty).map (·.size) = some cells.size)
    (hold : old.size = cells.size) (h1 : cells.all (·.oneCell') = true)
    (hK : K (a.put o.dst undef) (w.setRow g cells)) : if Region.wanted o (yielded ops a.tmps) = true then Oper.wp Tryd.prog o a w K Q else E := by
  have hw : Region.wanted o (yielded ops a.tmps) = true := by simp [Region.wanted, hg]
  rw [if_pos hw]
  exact wp_store_row ty x y ho g cells hx hy t old hgx hi hold h1 hK
/-- The zero of five parts. -/
def pc0 : Array Value := #[.bool false, .int .i64 0, .int .i64 0, .int .u32 0, .bool false, .int .i64 0, .int .i64 0, .int .u32 0, .bool false, .int .i64 0, .int .i64 0, .int .u32 0, .bool false, .int .i64 0, .int .i64 0, .int .u32 0, .bool false, .int .i64 0, .int .i64 0, .int .u32 0]
theorem prc_one (q : Nat → Pa) : (prc q).all (·.oneCell') = true := by simp [prc, Value.oneCell']
/-- The parts are known, and lie in a block. -/
structure Kn (w : World) (q : Nat → Pa) (ok : Bool) (v b : Value) (wx : World) : Prop where
  ex : ∃ g9, v = .pointer (some ⟨g9, 0, none⟩) ∧ b = .bool ok ∧ Box wx g9 72 (prc q)
  bel : Below w.heap.size w wx
theorem thru {w1 wz w5 : World} {p : Addr} {v : Value} (b1 : Below w1.heap.size w1 wz) (b5 : Below wz.heap.size wz w5) (h : w1.cell? p = some v) : w5.cell? p = some v :=
  (b5.cell (Nat.lt_of_lt_of_le (lt_of_cell h) b1.size)).trans ((b1.cell (lt_of_cell h)).trans h)
theorem bel_d0 (w : World) : Below w.heap.size w w.drew := bel_dr (Below.refl _ _)
theorem bel_da (w : World) (o : Obj) : Below w.heap.size w (w.drew.alloc o) := (bel_d0 w).alloc (Nat.le_refl _) _
theorem bel_ad (w : World) (o : Obj) : Below w.heap.size w (w.alloc o).drew := bel_dr (bel_a1 w o)
theorem bel_row {B : Nat} {w w1 : World} (h : Below B w w1) {g : Nat} (hg : B ≤ g) (cs : Array Value) : Below B w (w1.setRow g cs) :=
  ⟨h.os, h.tape, h.output, by simpa [World.setRow] using h.size, fun k hk => (setRow_other w1 g k cs (by omega)).trans (h.block k hk)⟩
theorem kn_row {w w1 : World} {q : Nat → Pa} {ok : Bool} {g : Nat} {old : Array Value} (b : Box w1 g 72 old) (h : Below w.heap.size w w1) (hg : w.heap.size ≤ g) : Kn w q ok (.pointer (some ⟨g, 0, none⟩)) (.bool ok) (w1.setRow g (prc q)) :=
  ⟨⟨g, rfl, rfl, setRow_heap _ _ _ _ _ _ b⟩, bel_row h hg _⟩
theorem st20 {w : World} {g : Nat} {q : Nat → Pa} (b : Box w g 72 pc0) : (storeCells ⟨g, 0, none⟩ (prc q).toList).run Tryd.prog w = .ok () (w.setRow g (prc q)) := by
  have := run_storeCells_from (P := Tryd.prog) g 72 (prc q).toList 0 pc0 w b rfl (fun v hv => (Array.all_eq_true_iff_forall_mem.1 (prc_one q)) v (by simpa using hv))
  simpa using this
theorem kr {w : World} {p : Addr} {v : Value} (h : w.cell? p = some v) (g : Nat) (cs : Array Value) (hne : p.block ≠ g) : (w.setRow g cs).cell? p = some v := (cell_setRow_other w g cs p hne).trans h
theorem ka {w : World} {p : Addr} {v : Value} (h : w.cell? p = some v) (o : Obj) : (w.alloc o).cell? p = some v := ((bel_a1 w o).cell (lt_of_cell h)).trans h
theorem load_row_g {ops : Array Oper} {rest : List Oper} {o : Oper} {a : Act} {w : World} {Q : Exit → Act → World → Prop} {v : Value} (hwant : Region.wanted o (yielded ops a.tmps) = true)
    (h0 : ∀ K : Act → World → Prop, K (a.put o.dst v) w → Oper.wp Tryd.prog o a w K Q) (h : wpList Tryd.prog ops Q rest (a.put o.dst v) w) : wpList Tryd.prog ops Q (o :: rest) a w :=
  wpList_step fun K hK => by rw [if_pos hwant]; exact h0 K (hK _ _ h)
/-- What Tell answers. -/
structure TelR (w : World) (gw : Nat) (u : Value) (V N : Nat) (b : Bool) (V' N' : Nat) (e : Ending) (w' : World) : Prop where
  ret : e = .returned (.bool b)
  tw : ∃ u', Tw w gw u V N w' u' V' N'
set_option maxRecDepth 20000 in
set_option maxHeartbeats 2000000 in
theorem tell11 {w : World} {lo hi g c gw V N : Nat} {T : Nat → Nat} {f : Nat → Nat → Int} {u : Value} (h : Gr w lo hi g c T f) (hr : ∀ i, i < 5 → Rng (f i) (sz c i)) (hw : Wr w gw u V N) (hN : N ≤ 500000) (hap : ∀ k, lo ≤ k → k < hi → ¬ Ft gw u k)
    (t : Tk) (wd : Int) (ok : Bool) (q : Nat → Pa) (hq : ∀ i, i < 5 → (q i).ex < 2 ^ (q i).bi ∧ (q i).bi ≤ 32)
    (par : ∀ w', Below w.heap.size w w' → Calls Tryd.prog 24 #[.agg (tkc t), .int .i64 wd, .int .i64 (pl c)] w' fun e w'' => e = .returned (.tuple #[.agg (prc q), .bool ok]) ∧ Below w'.heap.size w' w'')
    (b : Bool) (V' N' : Nat) (hb : (ok && okA c f q) = b) (ht : b = true → V' = tV c f q V N 5 ∧ N' = tN c f q N 5) (hf : b = false → V' = V ∧ N' = N) :
    Calls Tryd.prog 11 #[.pointer (some ⟨g, 0, none⟩), .pointer (some ⟨gw, 0, none⟩), .agg (tkc t), .int .i64 wd] w fun e w' => TelR w gw u V N b V' N' e w' := by
  have HB := hide hb
  have HT := hide ht
  have HF := hide hf
  clear hb ht hf
  have GG := hide h
  have HR := hide hr
  have WW := hide hw
  have AP := hide hap
  have HQ := hide hq
  have PA := hide par
  have gl := h.box.lt
  have g5 := (h.box.cell 5).trans (grc_5 _ _)
  have BT := hide (Box.made w 39 (tkc t))
  have BG := hide (h.box.alloc (.cells (tkc t) 39))
  clear h hr hw hap hq par
  rcases t with ⟨tk, tn, td, ti, ta⟩
  simp only [tkc] at *
  go_enter Tryd.func11, Tryd.ntmps11
  go_wp2
  generalize hw1 : w.alloc (.cells #[.int .i64 tk, .int .i64 tn, .int .i64 td, .int .i64 ti, .int .u32 ta] 39) = w1 at *
  have x0 : w1.cell? ⟨w.heap.size, 0, none⟩ = some (.int .i64 tk) := (unhide BT).cell 0
  have x1 : w1.cell? ⟨w.heap.size, 1, none⟩ = some (.int .i64 tn) := (unhide BT).cell 1
  have x2 : w1.cell? ⟨w.heap.size, 2, none⟩ = some (.int .i64 td) := (unhide BT).cell 2
  have x3 : w1.cell? ⟨w.heap.size, 3, none⟩ = some (.int .i64 ti) := (unhide BT).cell 3
  have x4 : w1.cell? ⟨w.heap.size, 4, none⟩ = some (.int .u32 ta) := (unhide BT).cell 4
  have x5 : w1.cell? ⟨g, 5, none⟩ = some (.int .i64 (pl c)) := ((unhide BG).cell 5).trans (grc_5 _ _)
  have B1 := hide (show Below w.heap.size w w1 by rw [← hw1]; exact bel_a1 _ _)
  clear hw1 BT BG g5
  go_cut [9, 10] from 19 to 28 (fun v b wx => Kn w1 q ok v b wx)
  case first =>
    have hg1 : g < w1.heap.size := lt_of_cell x5
    have hw1' : w.heap.size < w1.heap.size := lt_of_cell x0
    go_region_held3 (fun w' => (w'.cell? ⟨w.heap.size, 0, none⟩ = some (.int .i64 tk) ∧ w'.cell? ⟨w.heap.size, 1, none⟩ = some (.int .i64 tn) ∧ w'.cell? ⟨w.heap.size, 2, none⟩ = some (.int .i64 td) ∧ w'.cell? ⟨w.heap.size, 3, none⟩ = some (.int .i64 ti) ∧ w'.cell? ⟨w.heap.size, 4, none⟩ = some (.int .u32 ta)) ∧ w'.cell? ⟨g, 5, none⟩ = some (.int .i64 (pl c))) (first | exact ⟨⟨z0, z1, z2, z3, z4⟩, z5⟩ | exact ⟨⟨ka z0 _, ka z1 _, ka z2 _, ka z3 _, ka z4 _⟩, ka z5 _⟩ | exact ⟨⟨kr z0 _ _ ZA, kr z1 _ _ ZA, kr z2 _ _ ZA, kr z3 _ _ ZA, kr z4 _ _ ZA⟩, kr z5 _ _ ZB⟩ | exact ⟨⟨kr (ka z0 _) _ _ YA, kr (ka z1 _) _ _ YA, kr (ka z2 _) _ _ YA, kr (ka z3 _) _ _ YA, kr (ka z4 _) _ _ YA⟩, kr (ka z5 _) _ _ YB⟩ | go_keep) ((go_at_call 24; with_reducible refine Calls.mono (unhide PA _ (bel_into (unhide B1) (by first | exact bel_d0 _ | exact bel_da _ _ | exact bel_ad _ _))) ?_; rintro e w5 ⟨rfl, b5⟩; have BZ := hide (bel_into (by first | exact bel_d0 w1 | exact bel_da w1 _ | exact bel_ad w1 _) b5); have z0 := thru (Below.refl _ _) (unhide BZ) x0; have z1 := thru (Below.refl _ _) (unhide BZ) x1; have z2 := thru (Below.refl _ _) (unhide BZ) x2; have z3 := thru (Below.refl _ _) (unhide BZ) x3; have z4 := thru (Below.refl _ _) (unhide BZ) x4; have z5 := thru (Below.refl _ _) (unhide BZ) x5; have ZA : w.heap.size ≠ w1.heap.size := Nat.ne_of_lt hw1'; have ZB : g ≠ w1.heap.size := Nat.ne_of_lt hg1; have YA : w.heap.size ≠ w5.heap.size := Nat.ne_of_lt (Nat.lt_of_lt_of_le hw1' (unhide BZ).size); have YB : g ≠ w5.heap.size := Nat.ne_of_lt (Nat.lt_of_lt_of_le hg1 (unhide BZ).size); have bk := fun (b : Nat) (h : Box _ b 72 pc0) => Box.below h b5 h.lt; (first | (have st1 := st20 (q := q) (bk w1.heap.size (by first | exact Box.made w1.drew 72 _ | exact box_drew (Box.made w1 72 _))); have K1 := hide (kn_row (q := q) (ok := ok) (bk w1.heap.size (by first | exact Box.made w1.drew 72 _ | exact box_drew (Box.made w1 72 _))) (unhide BZ) (Nat.le_refl _))) | skip); have st2 := st20 (q := q) (Box.made w5 72 pc0); have K2 := hide (kn_row (q := q) (ok := ok) (Box.made w5 72 pc0) ((unhide BZ).alloc (unhide BZ).size _) (unhide BZ).size); simp only [pc0] at st2 K2; clear b5 bk))
    all_goals go_wp2_with fail
    all_goals go_meet
    all_goals first | exact unhide K2 | exact unhide K1
  case rest =>
    obtain ⟨⟨g9, rfl, rfl, bq⟩, bl⟩ := hcut
    have BC := hide (bel_into (unhide B1) bl)
    clear bl x0 x1 x2 x3 x4 x5 PA B1
    have G2 := hide ((unhide GG).below (unhide BC))
    have T2 := hide ((Tw.refl (unhide WW)).below (unhide BC))
    have BQ := hide bq
    cases ok with
    | false =>
      obtain rfl : false = b := unhide HB
      obtain ⟨rfl, rfl⟩ := unhide HF rfl
      clear bq BQ HT HF
      go_wp2
      go_ret
      exact ⟨rfl, ⟨_, unhide T2⟩⟩
    | true =>
      clear bq
      have HA := hide (has25 lo hi g c T f (unhide HR) q wc (unhide G2))
      rw [show okA c f q = b from (Bool.true_and _).symm.trans (unhide HB)] at HA
      go_wp2_with (first | (refine load_row_g (by first | rfl | simp [Region.wanted, yielded]) (fun K hK => wp_load_row 72 (.tmp 9) rfl g9 rfl 72 (prc q) (0, 0) _ (unhide BQ) Tryd.underlying72 rfl info_prc hK) ?_) | fail)
      refine (unhide HA).mono ?_
      rintro e w4 ⟨rfl, b4⟩
      have G4 := hide ((unhide G2).below b4)
      have T4 := hide ((unhide T2).below b4)
      have BQ4 := hide ((unhide BQ).below b4 (unhide BQ).lt)
      clear b4 G2 T2 BQ HA
      cases b with
      | false =>
        obtain ⟨rfl, rfl⟩ := unhide HF rfl
        clear HT HF
        go_wp2
        go_ret
        exact ⟨rfl, ⟨_, unhide T4⟩⟩
      | true =>
        have hok : okA c f q = true := (Bool.true_and _).symm.trans (unhide HB)
        have OK := hide hok
        have HE := hide (unhide HT rfl)
        clear hok HB HT HF
        go_wp2_with (first | (refine wpList_load_row rfl 72 (.tmp 9) rfl g9 rfl 72 (prc q) (0, 0) _ (unhide BQ4) Tryd.underlying72 rfl info_prc ?_) | fail)
        have IX := hide (index_prc q)
        clear BQ4 gl
        go_loopw [38] (fun x wr => ∃ (i : Nat) (u' : Value), i ≤ 5 ∧ x = .int .i64 i ∧ tN c f q N i ≤ N + 50 * i ∧ Tw w gw u V N wr u' (tV c f q V N i) (tN c f q N i)) (fun x _ => 5 - (intOf x).toNat)
        case atStart => exact ⟨0, _, by omega, rfl, by simp [tN], unhide T4⟩
        case round =>
          obtain ⟨i, u', hi5, rfl, hn1, t1⟩ := hrel
          have T1 := hide t1
          clear t1 T4 G4
          by_cases hlt : i < 5
          · have hlt' : (i : Int) < 5 := by omega
            have ix := unhide IX i hlt
            have OI := hide (okA_at (unhide OK) hlt)
            have TS := hide (And.intro (show tV c f q V N (i + 1) = tV c f q V N i + bv c f q i * 2 ^ tN c f q N i from rfl) (show tN c f q N (i + 1) = tN c f q N i + ln c f q i from rfl))
            have HQI := hide (unhide HQ i hlt)
            have R1 := hide (unhide T1).wri
            have G1 := hide ((unhide GG).keep (unhide T1).turn.upd (unhide AP))
            have tv : tp T 5 i = .pointer (some ⟨T i, 0, none⟩) := if_pos hlt
            have gl := (unhide G1).box.lt
            have gc := ((unhide G1).box.cell i).trans (grc_at _ _ i hlt)
            rw [tv] at gc
            have TR := hide ((unhide G1).tr i hlt)
            have HRI := hide (unhide HR i hlt)
            have LN := hide (show ln c f q i = if (q i).th = true then (qq (f i) (sz c i) (q i).sy).toNat + (q i).bi else 0 from rfl)
            have BV := hide (show bv c f q i = if (q i).th = true then uu (f i) (sz c i) (q i).sy + (q i).ex * 2 ^ (qq (f i) (sz c i) (q i).sy).toNat else 0 from rfl)
            have OU := hide (show okU c f q i = (!(q i).th || hasB (f i) (sz c i) (q i).sy) from rfl)
            clear tv IX
            generalize tV c f q V N i = V1 at *
            generalize tN c f q N i = N1 at *
            generalize hv2 : tV c f q V N (i + 1) = V2 at *
            generalize hn2 : tN c f q N (i + 1) = N2 at *
            have E2 := hide (And.intro hv2 hn2)
            clear hv2 hn2
            rcases hqi : q i with ⟨th, sy, bi, ex⟩
            rw [hqi] at ix HQI LN BV OU
            simp only [pc] at *
            obtain ⟨hq1, hq2⟩ := unhide HQI
            cases th with
            | false =>
              have eL : N2 = N1 := by have := (unhide TS).2; rw [unhide LN, if_neg (by simp)] at this; omega
              have eV : V2 = V1 := by have := (unhide TS).1; rw [unhide BV, if_neg (by simp)] at this; simpa using this
              have TN := hide ((unhide T1).below (bel_a1 wr (.cells #[.bool false, .int .i64 sy, .int .i64 bi, .int .u32 ex] 71)))
              have HEq := hide (And.intro eL eV)
              clear eL eV gc gl
              go_wp2
              go_roundw
              case rel =>
                obtain ⟨eL, eV⟩ := unhide HEq
                obtain ⟨e1, e2⟩ := unhide E2
                refine ⟨i + 1, u', by omega, by go_num, ?_, ?_⟩
                · rw [e2]; omega
                · rw [e1, e2, eL, eV]; exact unhide TN
              case measure => simp [intOf]; omega
            | true =>
              have hh : hasB (f i) (sz c i) (sy : Int) = true := by
                have := (unhide OU).symm.trans (unhide OI)
                simpa using this
              have hsy : sy < sz c i ∧ f i sy ≠ 0 := by
                unfold hasB at hh
                have := of_decide_eq_true hh
                exact ⟨by omega, this.2.2⟩
              have hqb := qq_bd (unhide HRI) hsy.1
              have eL : N2 = N1 + (qq (f i) (sz c i) sy).toNat + bi := by have := (unhide TS).2; rw [unhide LN, if_pos rfl] at this; omega
              have eV : V2 = V1 + uu (f i) (sz c i) sy * 2 ^ N1 + ex * 2 ^ (N1 + (qq (f i) (sz c i) sy).toNat) := by
                have := (unhide TS).1
                rw [unhide BV, if_pos rfl, Nat.add_mul, Nat.mul_assoc, ← Nat.pow_add, Nat.add_comm (qq (f i) (sz c i) sy).toNat N1, ← Nat.add_assoc] at this
                exact this
              have HS := hide hsy
              have hN1 : N1 ≤ 600000 := by omega
              have WY := hide (fun (w' : World) (b : Below (wr.alloc (.cells #[.bool true, .int .i64 sy, .int .i64 bi, .int .u32 ex] 71)).heap.size (wr.alloc (.cells #[.bool true, .int .i64 sy, .int .i64 bi, .int .u32 ex] 71)) w') =>
                write_yes (g + 1) hi (T i) (sz c i) (f i) (unhide HRI) sy (unhide HS).1 (unhide HS).2 gw u' V1 N1 w' (((unhide TR).below (bel_a1 _ _)).below b) ((unhide R1).keep (Upd.ofBelow (S := fun _ => False) (bel_into (bel_a1 wr _) b)) (fun _ _ h => h)) (by omega))
              have LT := hide (unhide R1).raw.lt
              have BX := hide (Box.made wr 71 #[.bool true, .int .i64 sy, .int .i64 bi, .int .u32 ex])
              have HEq := hide (And.intro eL eV)
              clear hh hsy eL eV
              have HLE := hide (show (qq (f i) (sz c i) sy).toNat ≤ 15 by omega)
              generalize (qq (f i) (sz c i) sy).toNat = L at *
              generalize uu (f i) (sz c i) sy = x at *
              clear hqb
              go_wp2
              go_region_with (go_at_call 26; with_reducible refine Calls.mono (unhide WY _ (by first | exact bel_d0 _ | exact bel_dr (Below.refl _ _))) ?_; rintro e w7 ⟨rfl, u2, wr7, tu7⟩; have T7 := hide (Tw.put ((unhide T1).below (by first | exact bel_ad wr _ | exact bel_da wr _)) wr7 tu7 (Nat.le_add_right _ _)); have B7 := hide (Box.keep (box_drew (unhide BX)) tu7.upd (fun h => absurd (unhide LT _ h) (Nat.lt_irrefl _))); clear wr7 tu7)
              all_goals (have c2 : w7.cell? ⟨wr.heap.size, 2, none⟩ = some (.int .i64 bi) := (unhide B7).cell 2)
              all_goals (have c3 : w7.cell? ⟨wr.heap.size, 3, none⟩ = some (.int .u32 ex) := (unhide B7).cell 3)
              all_goals (have bl := (unhide B7).lt)
              all_goals (have hNL : N1 + L ≤ 600000 := by have := unhide HLE; omega)
              all_goals clear BX LT WY TR R1 B7 gc gl
              all_goals go_wp2_with fail
              all_goals (refine (Wri.bits_yes gw u2 _ _ ex bi w7 (unhide T7).wri hq2 hq1 (by omega)).mono ?_)
              all_goals (rintro e w9 ⟨rfl, u3, wr9, tu9⟩)
              all_goals (have T9 := hide (Tw.put (unhide T7) wr9 tu9 (Nat.le_add_right _ _)))
              all_goals clear wr9 tu9 c2 c3 bl T7
              all_goals go_wp2
              all_goals go_roundw
              all_goals first
                | (obtain ⟨eL, eV⟩ := unhide HEq
                   obtain ⟨e1, e2⟩ := unhide E2
                   have hle := unhide HLE
                   refine ⟨i + 1, u3, by omega, by go_num, ?_, ?_⟩
                   · rw [e2]; omega
                   · rw [e1, e2, eL, eV]; exact unhide T9)
                | (simp [intOf]; omega)
          · obtain rfl : i = 5 := by omega
            obtain ⟨rfl, rfl⟩ := unhide HE
            go_wp2
            go_ret
            exact ⟨rfl, ⟨_, unhide T1⟩⟩
end Go.Proofs.YtgjpcjnhggcfdaaDoor.HTel
