/- Contracts: token.Cover. Conditions: few pixels and spans. -/
import Derived.Test.YtpkiilnkiidoiaaKCov
import Derived.Test.YtpkiilnkiidoiaaKFt3
import Derived.Test.YtpkiilnkiidoiaaKExp
import Derived.Deep.RegionWith
namespace Go.Proofs.Ytpkiilnkiidoiaa.KCv2
set_option linter.unusedVariables false
open Go.ChangeShapes Go.WideShapes Go.ChangeAt Go.RowKit Go.Sort Go.Proofs.Ytpkiilnkiidoiaa.Core Go.Proofs.Ytpkiilnkiidoiaa.CNum Go.Proofs.Ytpkiilnkiidoiaa.KNum Go.Proofs.Ytpkiilnkiidoiaa.KMem Go.Proofs.Ytpkiilnkiidoiaa.KCch Go.Proofs.Ytpkiilnkiidoiaa.KCov Go.Proofs.Ytpkiilnkiidoiaa.KFt3

theorem take_sect {px : List Nat} {p m : Nat} : px.take p ++ sect px p m = px.take (p + m) := by
  rw [List.take_add]; rfl
theorem cover13_bad {B : Nat} {w : World} {a a' : Option Addr} {n c k c' : Nat} {px : List Nat} {ss : List Sp} (b : Int) (h : Lst B w a px) (hs : Sps B w a' ss) (hn : n = px.length) (hc : n ≤ c) (hl : n ≤ 1000000) (hk : k = ss.length) (hkl : k ≤ 1000000) (hB : B ≤ w.heap.size)
    (hb : fitV px 0 ss = false ∨ b < 0 ∨ 11 < b) :
    Calls Try.prog 13 #[.slice a n c, .int .i64 b, .slice a' k c'] w fun e w' => e = .returned (.tuple #[.slice none 0 0, .int .i64 1]) ∧ Below w.heap.size w w' := by
  have F := hide (fits14 (c' := c') h hs hn hc hl hk hkl hB)
  clear h hs hn hc hl hk hkl hB
  by_cases hf : fitV px 0 ss = true
  · have hb' : b < 0 ∨ 11 < b := hb.resolve_left (by rw [hf]; simp)
    rw [hf] at F
    have HB := hide hb'
    clear hb hb' hf
    go_enter Try.func13, Try.ntmps13
    go_wp2_with fail
    refine (unhide F).mono ?_
    rintro e w1 ⟨rfl, B1⟩
    have BB := hide B1
    clear B1
    go_wp2_with fail
    refine (may17_no _ _ (unhide HB)).mono ?_
    rintro e w' ⟨rfl, rfl⟩
    go_wp2
    go_ret2
    exact ⟨rfl, unhide BB⟩
  · rw [show fitV px 0 ss = false by simpa using hf] at F
    clear hb hf
    go_enter Try.func13, Try.ntmps13
    go_wp2_with fail
    refine (unhide F).mono ?_
    rintro e w1 ⟨rfl, B1⟩
    have BB := hide B1
    clear B1
    go_wp2
    go_ret2
    exact ⟨rfl, unhide BB⟩
theorem cv_start {w w1 : World} {b : Nat} {e : Ending} {p : Option Addr} (N : NewC w b e (.pointer p) w1) : Cv w.heap.size (w1.heap.size + 1) (w1.alloc (.cells #[.slice none 0 0, .pointer p] 57)) w1.heap.size b (.pointer p) (.slice none 0 0) [] (cf b []) :=
  ⟨Box.made _ _ _, World.ownsRow_nil _ _ _ _, N.ca.same (fun k h1 h2 => Below.heap_alloc _ _ _ h2), N.bel.size, by omega, by simp⟩
theorem lst_off {B : Nat} {w : World} {b off : Nat} {l : List Nat} (h : Lst B w (some ⟨b, off, none⟩) l) (p n : Nat) : Lst B w (some ⟨b, off + p, none⟩) (sect l p n) := h.cut p n
/-- Steps that cover. -/
def VAns (w : World) (ts : List Tk) (e : Ending) (w' : World) : Prop := (∃ a c, e = .returned (.tuple #[.slice a ts.length c, .int .i64 0]) ∧ Tks w'.heap.size w' a ts) ∧ Below w.heap.size w w'
set_option maxHeartbeats 20000000 in
theorem cover13 {B : Nat} {w : World} {a a' : Option Addr} {n c k c' : Nat} {px : List Nat} {ss : List Sp} (b : Nat) (h : Lst B w a px) (hs : Sps B w a' ss) (hn : n = px.length) (hc : n ≤ c) (hl : n ≤ 50000) (hk : k = ss.length) (hkl : k ≤ 1000000) (hB : B ≤ w.heap.size)
    (hb : b ≤ 11) (hf : fitV px 0 ss = true) :
    Calls Try.prog 13 #[.slice a n c, .int .i64 b, .slice a' k c'] w fun e w' => VAns w (covP b px 0 ss) e w' := by
  have F := hide (fits14 (c' := c') h hs hn hc (by omega) hk hkl hB)
  rw [hf] at F
  have L := hide h
  have SS := hide hs
  have HN := hide (And.intro hn (And.intro hc hl))
  have HK := hide hk
  have HB := hide (And.intro hB hb)
  have HF := hide hf
  clear h hs hn hc hl hk hB hb hf
  go_enter Try.func13, Try.ntmps13
  go_wp2_with fail
  refine (unhide F).mono ?_
  rintro e w0 ⟨rfl, Bz⟩
  have BZ := hide Bz
  clear Bz F
  go_wp2_with fail
  refine (may17_yes _ _ (by omega) (by have := (unhide HB).2; omega)).mono ?_
  rintro e w' ⟨rfl, rfl⟩
  go_wp2_with fail
  refine (KExp.new18p b _ (unhide HB).2).mono ?_
  rintro e w1 ⟨p, N⟩
  have er := N.ret
  subst er
  have T0 := hide (cv_start N)
  have B0 := hide (N.bel.alloc N.bel.size (.cells #[.slice none 0 0, .pointer p] 57))
  clear N
  go_wp2
  generalize hw2 : w1.alloc (.cells #[.slice none 0 0, .pointer p] 57) = w2 at *
  generalize w1.heap.size = g at *
  clear hw2
  go_loopw [9, 27] (fun x y wr => ∃ (nx j : Nat) (v : Value) (ts : List Tk), x = .int .i64 nx ∧ y = .int .i64 j ∧ j ≤ k ∧ nx ≤ n ∧ ts.length ≤ nx ∧ Cv w'.heap.size (g + 1) wr g b (.pointer p) v ts (cf b (px.take nx)) ∧ Below w'.heap.size w' wr ∧ fitV px nx (ss.drop j) = true ∧ ts ++ covP b px nx (ss.drop j) = covP b px 0 ss) (fun _ y _ => k - (intOf y).toNat)
  case atStart => exact ⟨0, 0, _, [], rfl, rfl, by omega, by omega, by simp, unhide T0, unhide B0, unhide HF, rfl⟩
  case round =>
    obtain ⟨nx, j, v, ts, rfl, rfl, hj, hx, htl, td, bel, hfit, eq⟩ := hrel
    have BB := hide bel
    have EE := hide eq
    have HFT := hide hfit
    have TD := hide td
    clear bel eq hfit T0 B0
    by_cases hlt : j < k
    · have hlt' : (j : Int) < (k : Int) := by omega
      obtain ⟨s, hsj⟩ : ∃ s, ss[j]? = some s := ⟨_, List.getElem?_eq_getElem (by have := unhide HK; omega)⟩
      have hds := drop_step hsj
      have hft := unhide HFT
      rw [hds] at hft
      obtain ⟨f1, f2, f3⟩ := fit_cons hft
      obtain ⟨bs, off, rfl, hbs, q0, q1, q2⟩ := (unhide SS) j s hsj
      have B1 := ((unhide BZ).mono (unhide HB).1).trans ((unhide BB).mono (Nat.le_trans (unhide HB).1 (unhide BZ).size))
      have c0 := (B1.cell (p := ⟨bs, off + j * 3, none⟩) hbs).trans q0
      have c1 := (B1.cell (p := ⟨bs, off + j * 3 + 1, none⟩) hbs).trans q1
      have c2 := (B1.cell (p := ⟨bs, off + j * 3 + 2, none⟩) hbs).trans q2
      have hbw : bs < wr.heap.size := lt_of_cell c0
      have HDS := hide hds
      have HF1 := hide f2
      have HF3 := hide f3
      obtain ⟨P, M, D, es, g1, g2, g3, g4, g5, g6, g7⟩ := fit_nat f2
      subst es
      simp only at c0 c1 c2 f1
      have LW := (unhide L).below B1
      obtain ⟨bp, op, rfl, hbp, _⟩ := LW.pos (by omega)
      have hPn : P + M ≤ n := by have := (unhide HN).1; omega
      have hnc := (unhide HN).2.1
      have hn5 := (unhide HN).2.2
      have hnp : nx ≤ P := by omega
      have hBz : B ≤ w'.heap.size := Nat.le_trans (unhide HB).1 (unhide BZ).size
      have hwz : w'.heap.size ≤ wr.heap.size := (unhide BB).size
      have HA := hide (show (px.take nx ++ sect px nx (P - nx)) = px.take P by rw [take_sect, show nx + (P - nx) = P by omega])
      have HC := hide (show (px.take P ++ sect px P M) = px.take (P + M) from take_sect)
      have A := hide (fun (wz : World) (u : Below wr.heap.size wr wz) => single22 (n := P - nx) (c := c - nx) (td.keep u) (((LW.below (u.mono (Nat.le_trans hBz hwz))).cut nx (P - nx)).mono hBz) (by rw [sect_len _ _ _ (by omega)]) (by omega) (by omega))
      obtain ⟨e, he⟩ : ∃ e, e = P + M := ⟨_, rfl⟩
      have em : M = e - P := by omega
      have AD := hide (fun (wz : World) (u : Below B w wz) (v2 : Value) (ts2 : List Tk) (T2 : Cv w'.heap.size (g + 1) wz g b (.pointer p) v2 ts2 (cf b (px.take P))) (hl2 : ts2.length ≤ 900000) => show Calls Try.prog 23 #[.pointer (some ⟨g, 0, none⟩), .slice (some ⟨bp, op + P, none⟩) (e - P) (c - P), .int .i64 D] wz _ from em ▸ copy23 (n := M) (c := c - P) (D : Int) T2 ((((unhide L).below u).cut P M).mono hBz) (by rw [sect_len _ _ _ (by omega)]) (by omega) hl2)
      have hlen := hide (show (ts ++ sngs b (px.take nx) (sect px nx (P - nx))).length + 1 ≤ e by rw [List.length_append, sngs_len, sect_len _ _ _ (by omega)]; omega)
      have BX := hide (Box.made wr 45 #[.int .i64 P, .int .i64 M, .int .i64 D])
      have VB := hide (show v.ownBlock ≠ some wr.heap.size from fun e => by have := (td.own.lt _ e).2; omega)
      have FA := hide (Fr2.alloc (g + 1) v wr (.cells #[.int .i64 P, .int .i64 M, .int .i64 D] 45))
      have B1H := hide B1
      have HSZ := hide (And.intro hBz (And.intro hwz (show g + 1 ≤ wr.heap.size from td.hb)))
      have EQS := hide (show ts ++ (sngs b (px.take nx) (sect px nx (P - nx)) ++ ⟨2, M, D, 0, 0⟩ :: covP b px e (ss.drop (j + 1))) = covP b px 0 ss by
        rw [← unhide EE, unhide HDS, covP]
        simp only [Int.toNat_natCast]
        rw [show ((P : Int) + (M : Int)).toNat = e by omega])
      have HF4 := hide (show fitV px e (ss.drop (j + 1)) = true by
        have := f3
        simp only at this
        rwa [show ((P : Int) + (M : Int)).toNat = e by omega] at this)
      have i1 : IntKind.i64.wrap ((P : Int) + (M : Int)) = (e : Int) := by
        simp [IntKind.wrap, IntKind.bits, IntKind.signed]; omega
      have i2 : (nx : Int) ≤ (P : Int) := by omega
      have i3 : (P : Int) ≤ (c : Int) := by omega
      have i4 : ¬ c = nx := by omega
      have i5 : (P : Int) ≤ (e : Int) := by omega
      have i6 : (e : Int) ≤ (c : Int) := by omega
      have i7 : ¬ c = P := by omega
      have HE := hide (And.intro he (And.intro hPn hn5))
      have EM := hide em
      have HJ := hide (show j + 1 ≤ k by omega)
      clear f1 f2 f3 g1 g2 g3 g4 g5 g6 g7 LW hsj hds hft hPn hnc hn5 hnp he em td q0 q1 q2 B1 hBz hwz htl EE HDS HF1 HF3 HFT TD SS L HK HF B1H hbs hbp
      go_wp2_with fail
      refine (unhide A _ (bel_a1 _ _)).mono ?_
      rintro e9 w5 ⟨rfl, ⟨v2, T2, F2⟩, B5⟩
      have bx5 := F2.box (unhide BX) (unhide HSZ).2.2 (unhide VB)
      have k0 : w5.cell? ⟨wr.heap.size, 0, none⟩ = some (.int .i64 P) := bx5.1.cell 0
      have k2 : w5.cell? ⟨wr.heap.size, 2, none⟩ = some (.int .i64 D) := bx5.1.cell 2
      have B6 := hide (((unhide BB).trans ((bel_a1 wr _).mono (unhide HSZ).2.1)).trans B5)
      have BW := hide (((unhide BZ).mono (unhide HB).1).trans ((unhide B6).mono (unhide HSZ).1))
      rw [unhide HA] at T2
      have T2H := hide T2
      clear T2 B5
      have FB := hide (fun (w6 : World) (v3 : Value) (F : Fr2 (g + 1) v2 v3 w5 w6) => F.box bx5.1 (unhide HSZ).2.2 bx5.2)
      clear bx5 c0 c1 c2 BX VB FA A F2
      go_wp2
      go_region_held3 (fun w' => w'.cell? ⟨wr.heap.size, 0, none⟩ = some (.int .i64 P) ∧ w'.cell? ⟨wr.heap.size, 2, none⟩ = some (.int .i64 D)) (first | exact ⟨k06, k26⟩ | go_keep) ((first | (go_at_call 23; (with_reducible refine Calls.mono (unhide AD w5.drew (bel_dr (unhide BW)) _ _ (Cv.dr (unhide T2H)) (by have := unhide hlen; have := unhide HE; omega)) ?_); (rintro e10 w6 ⟨rfl, ⟨v3, T3, F3⟩, B7⟩); have F4 : Fr2 (g + 1) v2 v3 w5 w6 := ⟨F3.size, F3.blk, F3.own⟩; have k06 : w6.cell? ⟨wr.heap.size, 0, none⟩ = some (.int .i64 P) := (unhide FB _ _ F4).1.cell 0; have k26 : w6.cell? ⟨wr.heap.size, 2, none⟩ = some (.int .i64 D) := (unhide FB _ _ F4).1.cell 2; clear F4)))
      all_goals (have T3H := hide T3; have B8 := hide ((unhide B6).trans (show Below w'.heap.size w5 w6 from ⟨B7.os, B7.tape, B7.output, B7.size, B7.block⟩)); clear T3 F3 B7)
      all_goals go_wp2
      all_goals go_roundw
      all_goals first
        | (simp [intOf]; done)
        | (have := unhide HJ; simp [intOf]; omega)
        | exact ⟨e, j + 1, v3, ts ++ sngs b (px.take nx) (sect px nx (P - nx)) ++ [⟨2, M, D, 0, 0⟩], by go_num, by go_num, (unhide HJ), by have := unhide HE; omega, by rw [List.length_append]; exact unhide hlen, by have t3 := unhide T3H; rw [← unhide EM, unhide HC, ← (unhide HE).1] at t3; exact t3, unhide B8, unhide HF4, by rw [← unhide EQS]; simp [List.append_assoc]⟩
    · have hjk : j = k := by omega
      have hlt' : ¬ (j : Int) < (k : Int) := by omega
      have hnil : ss.drop j = [] := List.drop_eq_nil_of_le (by have := unhide HK; omega)
      have EQS := hide (show ts ++ sngs b (px.take nx) (px.drop nx) = covP b px 0 ss by rw [← unhide EE, hnil]; rfl)
      have B1 := ((unhide BZ).mono (unhide HB).1).trans ((unhide BB).mono (Nat.le_trans (unhide HB).1 (unhide BZ).size))
      have hBz : B ≤ w'.heap.size := Nat.le_trans (unhide HB).1 (unhide BZ).size
      have LW := (unhide L).below B1
      have hnc := (unhide HN).2.1
      have hn5 := (unhide HN).2.2
      have i1 : (nx : Int) ≤ (n : Int) := by omega
      have HT := hide htl
      have hpl : (px.drop nx).length = n - nx := by rw [List.length_drop]; have := (unhide HN).1; omega
      have SI := hide (fun (az : Option Addr) (cz : Nat) (hz : Lst B wr az (px.drop nx)) => single22 (n := n - nx) (c := cz) td (hz.mono hBz) hpl.symm (by omega) (by omega))
      have FIN := hide (fun (wz : World) (hh : CvN w'.heap.size (g + 1) wr g b (.pointer p) v (ts ++ sngs b (px.take nx) (px.drop nx)) (px.take nx ++ px.drop nx) wz) => show (∃ v, Cv w'.heap.size (g + 1) wz g b (.pointer p) v (covP b px 0 ss) (cf b (px.take nx ++ px.drop nx))) ∧ Below w.heap.size w wz from by
        obtain ⟨⟨v3, T3, _⟩, B3⟩ := hh
        rw [unhide EQS] at T3
        exact ⟨⟨v3, T3⟩, (unhide BZ).trans ((unhide BB).trans B3 |>.mono (unhide BZ).size)⟩)
      clear td B1 hnil hlt hx
      by_cases hcn : c = nx
      · have hz : Lst B wr a (px.drop nx) := by
          have : px.drop nx = [] := List.length_eq_zero_iff.1 (by rw [hpl]; omega)
          rw [this]; exact lst_nil
        have S1 := hide (unhide SI a 0 hz)
        clear hz SI LW hpl
        obtain rfl : n = nx := by omega
        obtain rfl : c = n := hcn
        rw [Nat.sub_self] at S1
        have i2 : (c : Int) ≤ (c : Int) := Int.le_refl _
        clear i1
        go_wp2_with fail
        with_reducible refine (unhide S1).mono ?_
        rintro e9 w5 ⟨rfl, hh⟩
        obtain ⟨⟨v3, T3⟩, B3⟩ := unhide FIN w5 hh
        obtain ⟨a3, c3, ev, _, tk⟩ := own_tks T3.own rfl
        subst ev
        have e0 : w5.cell? ⟨g, 0, none⟩ = some (.slice a3 (covP b px 0 ss).length c3) := (T3.box.cell 0).trans rfl
        have TKH := hide (And.intro tk B3)
        clear tk B3 T3 hh FIN
        go_wp2
        go_ret2
        exact ⟨⟨_, _, rfl, (unhide TKH).1⟩, (unhide TKH).2⟩
      · rcases Nat.eq_zero_or_pos n with hn0 | hn0
        · have hz : ∀ az, Lst B wr az (px.drop nx) := fun az => by
            have : px.drop nx = [] := List.length_eq_zero_iff.1 (by rw [hpl]; omega)
            rw [this]; exact lst_nil
          have S1 := hide (fun az cz => unhide SI az cz (hz az))
          clear hz SI LW hpl
          obtain rfl : nx = 0 := by omega
          subst hn0
          rw [Nat.sub_self] at S1
          rcases a with _ | x
          · go_wp2_with fail
            with_reducible refine (unhide S1 _ _).mono ?_
            rintro e9 w5 ⟨rfl, hh⟩
            obtain ⟨⟨v3, T3⟩, B3⟩ := unhide FIN w5 hh
            obtain ⟨a3, c3, ev, _, tk⟩ := own_tks T3.own rfl
            subst ev
            have e0 : w5.cell? ⟨g, 0, none⟩ = some (.slice a3 (covP b px 0 ss).length c3) := (T3.box.cell 0).trans rfl
            have TKH := hide (And.intro tk B3)
            clear tk B3 T3 hh FIN
            go_wp2
            go_ret2
            exact ⟨⟨_, _, rfl, (unhide TKH).1⟩, (unhide TKH).2⟩
          · go_wp2_with fail
            with_reducible refine (unhide S1 _ _).mono ?_
            rintro e9 w5 ⟨rfl, hh⟩
            obtain ⟨⟨v3, T3⟩, B3⟩ := unhide FIN w5 hh
            obtain ⟨a3, c3, ev, _, tk⟩ := own_tks T3.own rfl
            subst ev
            have e0 : w5.cell? ⟨g, 0, none⟩ = some (.slice a3 (covP b px 0 ss).length c3) := (T3.box.cell 0).trans rfl
            have TKH := hide (And.intro tk B3)
            clear tk B3 T3 hh FIN
            go_wp2
            go_ret2
            exact ⟨⟨_, _, rfl, (unhide TKH).1⟩, (unhide TKH).2⟩
        · obtain ⟨bp, op, rfl, hbp, _⟩ := LW.pos (by have := (unhide HN).1; omega)
          have S1 := hide (unhide SI (some ⟨bp, op + nx, none⟩) (c - nx) (by
            have := LW.cut nx (n - nx)
            rwa [show sect px nx (n - nx) = px.drop nx from List.take_of_length_le (by rw [hpl]; exact Nat.le_refl _)] at this))
          clear SI LW hpl
          go_wp2_with fail
          refine (unhide S1).mono ?_
          rintro e9 w5 ⟨rfl, hh⟩
          obtain ⟨⟨v3, T3⟩, B3⟩ := unhide FIN w5 hh
          obtain ⟨a3, c3, ev, _, tk⟩ := own_tks T3.own rfl
          subst ev
          have e0 : w5.cell? ⟨g, 0, none⟩ = some (.slice a3 (covP b px 0 ss).length c3) := (T3.box.cell 0).trans rfl
          have TKH := hide (And.intro tk B3)
          clear tk B3 T3 hh FIN
          go_wp2
          go_ret2
          exact ⟨⟨_, _, rfl, (unhide TKH).1⟩, (unhide TKH).2⟩
end Go.Proofs.Ytpkiilnkiidoiaa.KCv2
