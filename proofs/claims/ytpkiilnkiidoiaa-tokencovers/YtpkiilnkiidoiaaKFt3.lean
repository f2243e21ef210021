/- Contracts: token.fits where the numbers may be, token.Fits. Conditions: at most a million pixels. -/
import Derived.Test.YtpkiilnkiidoiaaKFt2
namespace Go.Proofs.Ytpkiilnkiidoiaa.KFt3
set_option linter.unusedVariables false
open Go.ChangeShapes Go.WideShapes Go.ChangeAt Go.RowKit Go.Sort Go.Proofs.Ytpkiilnkiidoiaa.Core Go.Proofs.Ytpkiilnkiidoiaa.CNum Go.Proofs.Ytpkiilnkiidoiaa.KNum Go.Proofs.Ytpkiilnkiidoiaa.KMem Go.Proofs.Ytpkiilnkiidoiaa.KFit Go.Proofs.Ytpkiilnkiidoiaa.KFt2

set_option maxRecDepth 20000 in
set_option maxHeartbeats 2000000 in
theorem fits24_in {B : Nat} {w w1 : World} {b off n c p m d r e e2 : Nat} {P M D : Int} {px : List Nat} (h : Lst B w (some ⟨b, off, none⟩) px) (hn : n = px.length) (hc : n ≤ c) (hl : n ≤ 1000000) (hB : B ≤ w.heap.size) (ew : w1 = w.alloc (.cells #[.int .i64 P, .int .i64 M, .int .i64 D] 45))
    (eP : P = p) (eM : M = m) (eD : D = d) (h1 : 1 ≤ m) (h2 : m ≤ 4096) (h3 : 1 ≤ d) (h4 : p = r + d) (h5 : d ≤ 1048456) (h6 : p + m ≤ n) (h7 : e = p + m) (h8 : e2 = r + m) :
    Calls Try.prog 24 #[.slice (some ⟨b, off, none⟩) n c, .agg #[.int .i64 P, .int .i64 M, .int .i64 D]] w fun e w' => e = .returned (.bool (decide (sect px p m = sect px r m))) ∧ Below w.heap.size w w' := by
  have EQ := hide (fun q => equal35 (B := B) (w := w1.drewN q) (a := some ⟨b, off + p, none⟩) (a' := some ⟨b, off + r, none⟩) (n := m) (c - p) (c - r)
    (by subst ew; exact ((h.below (bel_a1 w _ |>.mono hB)).drewN q).cut p m) (by subst ew; exact ((h.below (bel_a1 w _ |>.mono hB)).drewN q).cut r m)
    (by rw [sect_len _ _ _ (by omega)]) (by rw [sect_len _ _ _ (by omega)]) (by omega) (by subst ew; simp; omega))
  have em1 : m = e - p := by omega
  have em2 : e - p = e2 - r := by omega
  have EQ2 := hide (show ∀ q, Calls Try.prog 35 #[.slice (some ⟨b, off + p, none⟩) (e - p) (c - p), .slice (some ⟨b, off + r, none⟩) (e2 - r) (c - r)] (w1.drewN q) fun z w' => z = .returned (.bool (decide (sect px p m = sect px r m))) ∧ ∃ m, w' = (w1.drewN q).drewN m from fun q => by rw [← em2, ← em1]; exact unhide EQ q)
  clear EQ em1 em2
  have c0 : Hid (w1.cell? ⟨w.heap.size, 0, none⟩ = some (.int .i64 P)) := hide (ew ▸ (Box.made w 45 _).cell 0)
  have c1 : Hid (w1.cell? ⟨w.heap.size, 1, none⟩ = some (.int .i64 M)) := hide (ew ▸ (Box.made w 45 _).cell 1)
  have c2 : Hid (w1.cell? ⟨w.heap.size, 2, none⟩ = some (.int .i64 D)) := hide (ew ▸ (Box.made w 45 _).cell 2)
  have BL := hide (show Below w.heap.size w w1 from ew ▸ bel_a1 w _)
  have EW := hide ew
  have i1 : (1 : Int) ≤ M := by omega
  have i2 : M ≤ 4096 := by omega
  have i3 : (1 : Int) ≤ D := by omega
  have i4 : IntKind.i64.wrap (P - D) = (r : Int) := by
    subst eP eD
    simp [IntKind.wrap, IntKind.bits, IntKind.signed]; omega
  have i5 : D ≤ P := by omega
  have i6 : D ≤ 1048456 := by omega
  have i7 : P ≤ (n : Int) - M := by omega
  have i8 : (n : Int) ≤ 1000000 := by omega
  have HP := hide (And.intro (And.intro eP (And.intro eM eD)) (And.intro h6 (And.intro hc (And.intro h4 (And.intro h1 (And.intro hl (And.intro h7 h8)))))))
  clear h ew h4 hn eP eM eD h1 h2 h3 h5 h6 hc hl h7 h8
  by_cases hp : P < 1048456
  · go_enter Try.func24, Try.ntmps24
    go_wp2
    rw [← unhide EW]
    clear i1 i2 i3 i5 i6 i7 i8 hp
    obtain ⟨⟨rfl, rfl, rfl⟩, h6, hc, h4, h1, hl, h7, h8⟩ := unhide HP
    have k0 := unhide c0
    have k1 := unhide c1
    have k2 := unhide c2
    have i9 : ¬ c = p := by omega
    have i10 : ¬ c = r := by omega
    have i11 : IntKind.i64.wrap ((p : Int) + (m : Int)) = (e : Int) := by
      simp [IntKind.wrap, IntKind.bits, IntKind.signed]; omega
    have i12 : IntKind.i64.wrap ((r : Int) + (m : Int)) = (e2 : Int) := by
      simp [IntKind.wrap, IntKind.bits, IntKind.signed]; omega
    have i13 : (p : Int) ≤ (e : Int) := by omega
    have i14 : (e : Int) ≤ (c : Int) := by omega
    have i15 : (r : Int) ≤ (e2 : Int) := by omega
    have i16 : (e2 : Int) ≤ (c : Int) := by omega
    clear h6 hc h4 h1 i4 hl HP h7 h8
    go_quiet ((go_at_call 35; with_reducible exact Calls.quiet_of (unhide EQ2 _)))
    go_wp2
    go_ret
    exact ⟨rfl, bel_drN (unhide BL) _⟩
  · omega
theorem fits24 {B : Nat} {w : World} {a : Option Addr} {n c : Nat} {px : List Nat} {s : Sp} (h : Lst B w a px) (hn : n = px.length) (hc : n ≤ c) (hl : n ≤ 1000000) (hB : B ≤ w.heap.size) (hp : 0 ≤ s.p) :
    Calls Try.prog 24 #[.slice a n c, .agg #[.int .i64 s.p, .int .i64 s.n, .int .i64 s.d]] w fun e w' => e = .returned (.bool (fit1 px s)) ∧ Below w.heap.size w w' := by
  by_cases ho : okV n s = true
  · obtain ⟨p, m, d⟩ := s
    obtain ⟨a1, a2, a3, a4, a5, a6, a7⟩ := of_decide_eq_true ho
    simp only at hp a1 a2 a3 a4 a5 a6 a7
    obtain ⟨p, rfl⟩ := Int.eq_ofNat_of_zero_le a1
    obtain ⟨m, rfl⟩ := Int.eq_ofNat_of_zero_le (a := m) (by omega)
    obtain ⟨d, rfl⟩ := Int.eq_ofNat_of_zero_le (a := d) (by omega)
    obtain ⟨b, off, rfl, _⟩ := h.pos (by omega)
    refine (fits24_in h hn hc hl hB rfl rfl rfl rfl (r := p - d) (by omega) (by omega) (by omega) (by omega) (by omega) (by omega) rfl rfl).mono fun e w' hh => ⟨?_, hh.2⟩
    rw [hh.1]
    refine ret_bool ?_
    unfold fit1
    rw [← hn, ho, Bool.true_and]
    rfl
  · have ho : okV n s = false := by simpa using ho
    refine (fits24_no a c s.p s.n s.d hp hl ho).mono fun e w' hh => ⟨?_, hh.2⟩
    rw [hh.1]
    refine ret_bool ?_
    unfold fit1
    rw [← hn, ho]; rfl
theorem drop_step {α : Type} {ss : List α} {k : Nat} {s : α} (h : ss[k]? = some s) : ss.drop k = s :: ss.drop (k + 1) := by
  obtain ⟨hk, rfl⟩ := List.getElem?_eq_some_iff.1 h
  exact List.drop_eq_getElem_cons hk
set_option maxRecDepth 20000 in
set_option maxHeartbeats 2000000 in
theorem fits14 {B : Nat} {w : World} {a a' : Option Addr} {n c k c' : Nat} {px : List Nat} {ss : List Sp} (h : Lst B w a px) (hs : Sps B w a' ss) (hn : n = px.length) (hc : n ≤ c) (hl : n ≤ 1000000) (hk : k = ss.length) (hkl : k ≤ 1000000) (hB : B ≤ w.heap.size) :
    Calls Try.prog 14 #[.slice a n c, .slice a' k c'] w fun e w' => e = .returned (.bool (fitV px 0 ss)) ∧ Below w.heap.size w w' := by
  have L := hide h
  have SS := hide hs
  have HN := hide (And.intro hn (And.intro hc hl))
  have HK := hide hk
  have HB := hide hB
  clear h hs hn hc hl hk hB
  go_enter Try.func14, Try.ntmps14
  go_wp2
  go_loopw [5, 10] (fun x y wr => ∃ (nx j : Nat), x = .int .i64 nx ∧ y = .int .i64 j ∧ j ≤ k ∧ nx ≤ n ∧ Below w.heap.size w wr ∧ fitV px nx (ss.drop j) = fitV px 0 ss) (fun _ y _ => k - (intOf y).toNat)
  case atStart => exact ⟨0, 0, rfl, rfl, by omega, by omega, Below.refl _ _, rfl⟩
  case round =>
    obtain ⟨nx, j, rfl, rfl, hj, hx, bel, eq⟩ := hrel
    have BB := hide bel
    have EE := hide eq
    clear bel eq
    by_cases hlt : j < k
    · have hlt' : (j : Int) < (k : Int) := by omega
      obtain ⟨s, hs⟩ : ∃ s, ss[j]? = some s := ⟨_, List.getElem?_eq_getElem (by have := unhide HK; omega)⟩
      obtain ⟨b, off, rfl, hb, q0, q1, q2⟩ := (unhide SS) j s hs
      have HS := hide (drop_step hs)
      have B1 := (unhide BB).mono (unhide HB)
      have c0 := (B1.cell (p := ⟨b, off + j * 3, none⟩) hb).trans q0
      have c1 := (B1.cell (p := ⟨b, off + j * 3 + 1, none⟩) hb).trans q1
      have c2 := (B1.cell (p := ⟨b, off + j * 3 + 2, none⟩) hb).trans q2
      have hbw : b < wr.heap.size := lt_of_cell c0
      clear q0 q1 q2 hs B1
      by_cases hp : s.p < (nx : Int)
      · have HP := hide hp
        go_wp2
        go_ret
        refine ⟨ret_bool ?_, (unhide BB).trans ((bel_a1 _ _).mono (unhide BB).size)⟩
        rw [← unhide EE, unhide HS, fit_no (fun h => by omega)]
      · have F := hide (fun (wz : World) (u : Below wr.heap.size wr wz) => fits24 (w := wz) (s := s) ((unhide L).below (((unhide BB).mono (unhide HB)).trans (u.mono (Nat.le_trans (unhide HB) (unhide BB).size)))) (unhide HN).1 (unhide HN).2.1 (unhide HN).2.2 (Nat.le_trans (unhide HB) (Nat.le_trans (unhide BB).size u.size)) (by omega))
        have HP := hide hp
        have hpd : decide (s.p < (nx : Int)) = false := decide_eq_false hp
        clear hp
        by_cases hf : fit1 px s = true
        · obtain ⟨p, m, d, es, f1, f2, f3, f4, f5, f6, f7⟩ := fit_nat hf
          have HF := hide hf
          rw [hf] at F
          subst es
          have hpm : (p : Int) + (m : Int) ≤ 1000000 := by have := (unhide HN).1; have := (unhide HN).2.2; omega
          have FF := hide (And.intro f6 (unhide HN).1)
          have hpd2 : decide (p < nx) = false := decide_eq_false (by have := unhide HP; simp only at this; omega)
          clear f1 f2 f3 f4 f5 f6 f7 hf
          go_wp2_with fail
          refine (unhide F _ (bel_a1 _ _)).mono ?_
          rintro e w2 ⟨rfl, B2⟩
          have k0 : w2.cell? ⟨wr.heap.size, 0, none⟩ = some (.int .i64 p) := (B2.cell (by simp)).trans ((Box.made wr 45 _).cell 0)
          have k1 : w2.cell? ⟨wr.heap.size, 1, none⟩ = some (.int .i64 m) := (B2.cell (by simp)).trans ((Box.made wr 45 _).cell 1)
          have BW := hide (((unhide BB).trans ((bel_into (bel_a1 wr _) B2).mono (unhide BB).size)))
          clear B2 c0 c1 c2
          go_wp2
          go_roundw
          case rel =>
            refine ⟨p + m, j + 1, by go_num, by go_num, by omega, by have := unhide FF; omega, unhide BW, ?_⟩
            rw [← unhide EE, unhide HS, fit_mk (by have := unhide HP; simp only at this ⊢; omega) (unhide HF)]
            rfl
          case measure => simp [intOf]; omega
        · have HF := hide (show fit1 px s = false by simpa using hf)
          rw [unhide HF] at F
          clear hf
          go_wp2_with fail
          refine (unhide F _ (bel_a1 _ _)).mono ?_
          rintro e w2 ⟨rfl, B2⟩
          have BW := hide (((unhide BB).trans ((bel_into (bel_a1 wr _) B2).mono (unhide BB).size)))
          clear B2 c0 c1 c2
          go_wp2
          go_ret
          refine ⟨ret_bool ?_, unhide BW⟩
          rw [← unhide EE, unhide HS, fit_no (fun _ => unhide HF)]
    · have e : j = k := by omega
      have hlt' : ¬ (j : Int) < (k : Int) := by omega
      go_wp2
      go_ret
      refine ⟨ret_bool ?_, unhide BB⟩
      rw [← unhide EE, List.drop_eq_nil_of_le (by have := unhide HK; omega)]; rfl
end Go.Proofs.Ytpkiilnkiidoiaa.KFt3
