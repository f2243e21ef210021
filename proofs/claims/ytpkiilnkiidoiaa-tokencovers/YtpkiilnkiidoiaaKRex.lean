/- Contracts: the document's Step, whatever it is, and its Expand. Conditions: at most nine hundred thousand pixels. -/
import Derived.Test.YtpkiilnkiidoiaaKRs2
import Derived.Test.YtpkiilnkiidoiaaKRna
import Derived.Test.YtpkiilnkiidoiaaKRnb
import Derived.Test.YtpkiilnkiidoiaaKRnc
import Derived.Test.YtpkiilnkiidoiaaKRnd
import Derived.Test.YtpkiilnkiidoiaaKExp
namespace Go.Proofs.Ytpkiilnkiidoiaa.KRex
set_option linter.unusedVariables false
open Go.ChangeShapes Go.WideShapes Go.ChangeAt Go.RowKit Go.Sort Go.Proofs.Ytpkiilnkiidoiaa.Core Go.Proofs.Ytpkiilnkiidoiaa.CNum Go.Proofs.Ytpkiilnkiidoiaa.KNum Go.Proofs.Ytpkiilnkiidoiaa.KMem Go.Proofs.Ytpkiilnkiidoiaa.KCch Go.Proofs.Ytpkiilnkiidoiaa.KAdd Go.Proofs.Ytpkiilnkiidoiaa.KRad Go.Proofs.Ytpkiilnkiidoiaa.KRst Go.Proofs.Ytpkiilnkiidoiaa.KExp
open Go.Proofs.Ytpkiilnkiidoiaa.KRs2 Go.Proofs.Ytpkiilnkiidoiaa.KRna Go.Proofs.Ytpkiilnkiidoiaa.KRnb Go.Proofs.Ytpkiilnkiidoiaa.KRnc Go.Proofs.Ytpkiilnkiidoiaa.KRnd

theorem rstep21_no {B base g b m : Nat} {w : World} {cs v : Value} {l : List Nat} {t : Tk} (h : Pt B base w g b cs v l (cf b l)) (hm : m ≤ 900000) (hl : l.length ≤ m) (hs1 : isLit m l t = false) (hs2 : isCpy m l t = false) (hs3 : isKno b m l t = false) :
    Calls Try.prog 21 #[.pointer (some ⟨g, 0, none⟩), .agg #[.int .i64 t.k, .int .i64 t.n, .int .i64 t.d, .int .i64 t.i, .int .u32 (t.a : Int)], .int .i64 m] w fun e w' => PtS B base w g b cs v none e w' := by
  have h1 := of_decide_eq_false hs1
  have h2 := of_decide_eq_false hs2
  have h3 := of_decide_eq_false hs3
  obtain ⟨k, n, d, i, a⟩ := t
  simp only at h1 h2 h3 ⊢
  have hB : B ≤ w.heap.size := by have := h.g0; have := h.g1; have := h.hb; omega
  obtain ⟨av, cv, rfl, _⟩ := own_shape h.own
  obtain ⟨ac, rfl⟩ := cs_shape h.ca
  have c0 : w.cell? ⟨g, 0, none⟩ = some (.slice av l.length cv) := (h.box.cell 0).trans rfl
  have c1 : w.cell? ⟨g, 1, none⟩ = some (.slice ac (pl b) (pl b)) := (h.box.cell 1).trans rfl
  have gl := h.box.lt
  obtain ⟨r, hr⟩ : ∃ r, m = r + l.length := ⟨m - l.length, by omega⟩
  have i5 : IntKind.i64.wrap ((m : Int) - (l.length : Int)) = (r : Int) := wrap_sub hr (by omega)
  have fin : ∀ e w', (e = Ending.returned (.bool false) ∧ Below w.heap.size w w') → PtS B base w g b (.slice ac (pl b) (pl b)) (.slice av l.length cv) none e w' := fun e w' hh => ⟨hh.1, hh.2.mono hB⟩
  by_cases k1 : k = 1
  · subst k1
    exact (no0 c0 c1 gl i5 (by omega)).mono fin
  by_cases k2 : k = 2
  · subst k2
    by_cases g1 : 1 ≤ n
    · by_cases g2 : n ≤ 4096
      · by_cases g3 : 1 ≤ d
        · by_cases g4 : d ≤ (l.length : Int)
          · exact (no5 c0 c1 gl i5 g1 g2 g3 g4 (by omega)).mono fin
          · exact (no4 c0 c1 gl i5 g1 g2 g3 (by omega)).mono fin
        · exact (no3 c0 c1 gl i5 g1 g2 (by omega)).mono fin
      · exact (no2 c0 c1 gl i5 g1 (by omega)).mono fin
    · exact (no1 c0 c1 gl i5 (by omega)).mono fin
  by_cases k3 : k = 3
  · subst k3
    by_cases g1 : 0 ≤ i
    · by_cases g2 : i < (pl b : Int)
      · exact (no8 c0 c1 gl i5 g1 g2 (by omega)).mono fin
      · exact (no7 c0 c1 gl i5 g1 (by omega)).mono fin
    · exact (no6 c0 c1 gl i5 (by omega)).mono fin
  exact (no9 c0 c1 gl i5 k1 k2 k3).mono fin
theorem rstep21 {B base g b m : Nat} {w : World} {cs v : Value} {l : List Nat} (t : Tk) (h : Pt B base w g b cs v l (cf b l)) (hm : m ≤ 900000) (hl : l.length ≤ m) (hsm : Sm l) (ha : t.a < 4294967296) :
    Calls Try.prog 21 #[.pointer (some ⟨g, 0, none⟩), .agg #[.int .i64 t.k, .int .i64 t.n, .int .i64 t.d, .int .i64 t.i, .int .u32 (t.a : Int)], .int .i64 m] w fun e w' => PtS B base w g b cs v (stepP b m l t) e w' := by
  by_cases h1 : isLit m l t = true
  · rw [step_lit h1]; exact rstep21_lit h hm hl ha h1
  · by_cases h2 : isCpy m l t = true
    · rw [step_cpy h2]
      obtain ⟨e1, e2, e3, e4, e5, e6⟩ := of_decide_eq_true h2
      obtain ⟨k, n, d, i, a⟩ := t
      simp only at e1 e2 e3 e4 e5 e6 ⊢
      subst e1
      obtain ⟨n, rfl⟩ := Int.eq_ofNat_of_zero_le (a := n) (by omega)
      obtain ⟨d, rfl⟩ := Int.eq_ofNat_of_zero_le (a := d) (by omega)
      exact rstep21_cpy h hm hl hsm (by omega) (by omega) (by omega) (by omega) (by omega)
    · by_cases h3 : isKno b m l t = true
      · rw [step_kno h3]; exact rstep21_kno h hm hl hsm h3
      · rw [step_no (by simpa using h1) (by simpa using h2) (by simpa using h3)]
        exact rstep21_no h hm hl (by simpa using h1) (by simpa using h2) (by simpa using h3)
set_option maxHeartbeats 2000000 in
theorem rexpand10 {B : Nat} {w : World} {a : Option Addr} {k c : Nat} {ts : List Tk} (m b : Nat) (h : Tks B w a ts) (hk : k = ts.length) (hkl : k ≤ 1000000) (hm : m ≤ 900000) (hb : b ≤ 11) (hB : B ≤ w.heap.size) (hts : ∀ t ∈ ts, t.a < 4294967296) :
    Calls Try.prog 10 #[.slice a k c, .int .i64 m, .int .i64 b] w fun e w' => XAns w (allP b m ts) e w' := by
  have TS := hide h
  have HK := hide hk
  have HB := hide hB
  have HBB := hide hb
  have HM := hide hm
  have HTS := hide hts
  clear h hk hB hb hm hts
  go_enter Try.func10, Try.ntmps10
  go_wp2_with fail
  refine (rnew20 b _ (unhide HBB)).mono ?_
  rintro e w2 ⟨rfl, ⟨cs, P0⟩, B0⟩
  have T0 := hide P0
  have BZ := hide B0
  clear P0 B0
  go_wp2
  generalize hg : w.heap.size = g at *
  have HG := hide hg
  clear hg
  go_loopw [9] (fun x wr => ∃ (j : Nat) (l : List Nat) (v : Value), x = .int .i64 j ∧ j ≤ k ∧ l.length ≤ m ∧ Sm l ∧ Pt g w2.heap.size wr g b cs v l (cf b l) ∧ Below g w wr ∧ expP b m l (ts.drop j) = expP b m [] ts) (fun x _ => k - (intOf x).toNat)
  case atStart => exact ⟨0, [], _, rfl, by omega, by simp, fun x hx => by simp at hx, unhide T0, unhide BZ, rfl⟩
  case round =>
    obtain ⟨j, l, v, rfl, hj, hl, hsm, td, bel, eq⟩ := hrel
    obtain ⟨av, cv, rfl, hcv⟩ := own_shape td.own
    have c0 : wr.cell? ⟨g, 0, none⟩ = some (.slice av l.length cv) := (td.box.cell 0).trans rfl
    have gl := td.box.lt
    have TD := hide td
    have BB := hide bel
    have EE := hide eq
    have SM := hide hsm
    clear td bel eq T0 hsm
    by_cases hlt : j < k
    · have hlt' : (j : Int) < (k : Int) := by omega
      obtain ⟨t, ht⟩ : ∃ t, ts[j]? = some t := ⟨_, List.getElem?_eq_getElem (by have := unhide HK; omega)⟩
      have hta := (unhide HTS) t (List.mem_of_getElem? ht)
      obtain ⟨bb, off, rfl, hbb, q0, q1, q2, q3, q4⟩ := (unhide TS) j t ht
      have B1 := (unhide BB).mono (unhide HB)
      have d0 := (B1.cell (p := ⟨bb, off + j * 5, none⟩) hbb).trans q0
      have d1 := (B1.cell (p := ⟨bb, off + j * 5 + 1, none⟩) hbb).trans q1
      have d2 := (B1.cell (p := ⟨bb, off + j * 5 + 2, none⟩) hbb).trans q2
      have d3 := (B1.cell (p := ⟨bb, off + j * 5 + 3, none⟩) hbb).trans q3
      have d4 := (B1.cell (p := ⟨bb, off + j * 5 + 4, none⟩) hbb).trans q4
      have HS := hide (drop_step ht)
      have A := hide (rstep21 (m := m) t (unhide TD) (unhide HM) hl (unhide SM) hta)
      have HTA := hide hta
      clear q0 q1 q2 q3 q4 ht B1 hta
      rcases hst : stepP b m l t with _ | l'
      · rw [hst] at A
        have HST := hide hst
        clear hst
        go_wp2_with fail
        refine (unhide A).mono ?_
        rintro e w3 ⟨rfl, B3⟩
        have B4 := hide B3
        clear B3
        go_wp2
        go_ret2
        have en : expP b m [] ts = none := by rw [← unhide EE, unhide HS, exp_none (unhide HST)]
        rw [all_none en]
        refine ⟨rfl, ?_⟩
        rw [unhide HG]
        exact (unhide BB).trans (unhide B4)
      · rw [hst] at A
        have HST := hide hst
        clear hst
        go_wp2_with fail
        refine (unhide A).mono ?_
        rintro e w3 ⟨rfl, ⟨v3, T3, _⟩, B3⟩
        have B4 := hide B3
        have T4 := hide T3
        clear B3 T3
        go_wp2
        go_roundw
        case rel => exact ⟨j + 1, l', v3, by go_num, by omega, step_len (unhide HST), (unhide SM).step (unhide HTA) (unhide HST), unhide T4, (unhide BB).trans (unhide B4), by rw [← unhide EE, unhide HS, exp_some (unhide HST)]⟩
        case measure => simp [intOf]; omega
    · have e : j = k := by omega
      have hlt' : ¬ (j : Int) < (k : Int) := by omega
      have EF := hide (show expP b m [] ts = some l by rw [← unhide EE, List.drop_eq_nil_of_le (by have := unhide HK; omega)]; rfl)
      by_cases hlm : l.length < m
      · have hlm' : (l.length : Int) < (m : Int) := by omega
        have HL := hide hlm
        clear hlm
        go_wp2
        go_ret2
        rw [all_less (unhide EF) (unhide HL)]
        exact ⟨rfl, by rw [unhide HG]; exact unhide BB⟩
      · have hlm' : ¬ (l.length : Int) < (m : Int) := by omega
        have HL := hide hlm
        clear hlm
        go_wp2
        go_ret2
        rw [all_some (unhide EF) (unhide HL)]
        obtain ⟨a3, c3, e3, h3, h4⟩ := own_lst (unhide TD).own
        cases e3
        exact ⟨⟨_, _, rfl, h3, h4⟩, by rw [unhide HG]; exact unhide BB⟩
end Go.Proofs.Ytpkiilnkiidoiaa.KRex
