/- Contracts: places.longest, walked, near the end. Conditions: at most a hundred thousand pixels; three pixels are left at the place. -/
import Derived.Test.YtpkiilnkiidoiaaKGr3
namespace Go.Proofs.Ytpkiilnkiidoiaa.KGr4
set_option linter.unusedVariables false
open Go.ChangeShapes Go.WideShapes Go.ChangeAt Go.RowKit Go.Maps Go.Proofs.Ytpkiilnkiidoiaa.Core Go.Proofs.Ytpkiilnkiidoiaa.CNum Go.Proofs.Ytpkiilnkiidoiaa.KNum Go.Proofs.Ytpkiilnkiidoiaa.KMem Go.Proofs.Ytpkiilnkiidoiaa.KFit Go.Proofs.Ytpkiilnkiidoiaa.KGr0 Go.Proofs.Ytpkiilnkiidoiaa.KGr1 Go.Proofs.Ytpkiilnkiidoiaa.KGr2 Go.Proofs.Ytpkiilnkiidoiaa.KGr3

set_option maxRecDepth 20000 in
set_option maxHeartbeats 8000000 in
theorem longA {B g mb ab b off n c k M1 : Nat} {w : World} {px : List Nat} (h : Gr B w g mb ab n k (some ⟨b, off, none⟩) c) (hp : Lst B w (some ⟨b, off, none⟩) px) (hpn : n = px.length) (hs : ∀ x ∈ px, x < 4294967296) (hk : k + 3 ≤ n) (hn : n ≤ 100000) (hnc : n ≤ c) (tr0 : Int) (htr : tr0 ≤ 1024) (hM : n = k + M1) (hM2 : M1 ≤ 4096) :
    Calls Try.prog 26 #[.pointer (some ⟨g, 0, none⟩), .int .i64 k, .int .i64 tr0] w fun e w' => LAns w px k (k + M1) e w' := by
  have c0 : w.cell? ⟨g, 0, none⟩ = some (.slice (some ⟨b, off, none⟩) n c) := (h.box.cell 0).trans rfl
  have c2 : w.cell? ⟨g, 2, none⟩ = some (.slice (some ⟨ab, 0, none⟩) n n) := (h.box.cell 2).trans rfl
  have gl := h.box.lt
  have sm : ∀ i, px.getD i 0 < 4294967296 := fun i => by
    by_cases hi : i < px.length
    · rw [List.getD_eq_getElem?_getD, List.getElem?_eq_getElem hi]; exact hs _ (List.getElem_mem hi)
    · rw [List.getD_eq_getElem?_getD, List.getElem?_eq_none (by omega)]; simp
  obtain ⟨b1, o1, e1, hb1, q0⟩ := hp k _ (some_getD (by omega))
  cases e1
  obtain ⟨b2, o2, e2, hb2, q1⟩ := hp (k + 1) _ (some_getD (by omega))
  cases e2
  have hBw := h.lt
  have BF := hide (fun (wz : World) (u : Below w.heap.size w wz) => before36 (h.keep u) (by omega) (by omega) ((u.cell (p := ⟨b, off + k, none⟩) (show b < w.heap.size by omega)).trans q0) ((u.cell (p := ⟨b, off + (k + 1), none⟩) (show b < w.heap.size by omega)).trans q1) (sm k) (sm (k + 1)) (by omega))
  obtain ⟨F, f1, f2⟩ := h.row
  have al := f1.lt
  have C0 := hide (fun (wz : World) (u : Below w.heap.size w wz) => (u.cell (p := ⟨g, 0, none⟩) gl).trans c0)
  have C2 := hide (fun (wz : World) (u : Below w.heap.size w wz) => (u.cell (p := ⟨g, 2, none⟩) gl).trans c2)
  have FR := hide (fun (wz : World) (u : Below w.heap.size w wz) (m : Nat) (hm : m < n) => ((f1.below u al).cell m).trans (irow_at F n m hm))
  have HF := hide f2
  have AL := hide (fun (wz : World) (u : Below w.heap.size w wz) (m : Nat) (hm : m < k) => alike37 (w := wz) (a := some ⟨b, off + k, none⟩) (a' := some ⟨b, off + m, none⟩) (l := sect px k M1) (l' := px.drop m) (n := M1) (n' := n - m) (c - k) (c - m)
    ((((hp.mono hBw).below u).cut k M1).mono u.size) (by
      have := ((hp.mono hBw).below u).cut m (n - m)
      rw [show sect px m (n - m) = px.drop m from List.take_of_length_le (by rw [List.length_drop]; omega)] at this
      exact this.mono u.size) (by rw [sect_len _ _ _ (by omega)]) (by rw [List.length_drop, hpn]) (by omega) (by omega) (Nat.le_refl _))
  have HK := hide (And.intro hk (And.intro hn (And.intro hnc hpn)))
  have LS := hide (Lng.start w px k (k + M1))
  have s2 : ((w.alloc (.cells #[.int .i64 0, .int .i64 0, .int .i64 0] 45)).alloc (.cells #[.int .i64 k, .int .i64 0, .int .i64 0] 45)).cell? ⟨g, 0, none⟩ = some (.slice (some ⟨b, off, none⟩) n c) := (unhide C0) _ (unhide LS).bel
  have t1 : (n : Int) ≤ (k : Int) + 4096 := by omega
  have t2 : n - k = M1 := by omega
  have t3 : (k : Int) ≤ (n : Int) := by omega
  have t4 : (n : Int) ≤ (c : Int) := by omega
  have t5 : ¬ c = k := by omega
  have t6 : (n : Int) ≤ 100000 := by omega
  have HMM := hide (And.intro hM hM2)
  clear h hp hs hpn hk hn hnc q0 q1 f1 f2 al sm hb1 hb2 hBw c0 c2 hM hM2
  go_enter Try.func26, Try.ntmps26
  go_wp2
  generalize hw2 : (w.alloc (.cells #[.int .i64 0, .int .i64 0, .int .i64 0] 45)).alloc (.cells #[.int .i64 k, .int .i64 0, .int .i64 0] 45) = w2 at *
  clear hw2
  go_quiet (fail)
  go_wp2_with fail
  refine (unhide BF _ (bel_drN (unhide LS).bel _)).mono ?_
  rintro e w3 ⟨⟨z0, rfl, hz0, hz1⟩, B3⟩
  have L3 := hide (((unhide LS).keep (bel_drN (Below.refl _ _) _)).keep B3)
  clear B3 s2 LS
  go_wp2
  go_loopw [2, 9] (fun x y wr => ∃ (tr z : Int) (L D : Nat), x = .int .i64 tr ∧ y = .int .i64 z ∧ -1 ≤ z ∧ z < k ∧ tr ≤ 1024 ∧ Lng w px k (k + M1) L D wr) (fun x _ _ => (intOf x).toNat)
  case atStart => exact ⟨tr0, z0, 0, 0, rfl, rfl, hz0, hz1, htr, unhide L3⟩
  case round =>
    obtain ⟨tr, z, L, D, rfl, rfl, hz2, hz3, htr2, lng⟩ := hrel
    have b0 := lng.best.cell 0
    have b1 := lng.best.cell 1
    have b2 := lng.best.cell 2
    simp at b0 b1 b2
    have bl := lng.best.lt
    have bf1 := lng.best.free 1
    have bf2 := lng.best.free 2
    have LG := hide lng
    clear L3 lng hz0 hz1 htr
    by_cases h1 : 0 < tr
    · by_cases h2 : z = -1
      · subst h2
        have r0 := (unhide LG).res.cell 0
        have r1 := (unhide LG).res.cell 1
        have r2 := (unhide LG).res.cell 2
        have rf0 := (unhide LG).res.free 0
        have rf1 := (unhide LG).res.free 1
        have rf2 := (unhide LG).res.free 2
        simp at r0 r1 r2
        go_wp2
        have fin := (unhide LG).fin
        refine bodyPost_ret (results_cell_row rfl _ _ w.heap.size 45 #[.int .i64 k, .int .i64 L, .int .i64 D] (0, 0) _ rfl fin.1 Try.underlying45 rfl (by kernel_rfl)) rfl ⟨⟨L, D, rfl, (unhide LG).cop⟩, fin.2⟩
      · obtain ⟨m, rfl⟩ := Int.eq_ofNat_of_zero_le (show 0 ≤ z by omega)
        have hmk : m < k := by omega
        obtain ⟨Dn, hD⟩ : ∃ Dn, k = m + Dn := ⟨k - m, by omega⟩
        have w1 : IntKind.i64.wrap ((k : Int) - (m : Int)) = (Dn : Int) := by
          have := (unhide HK).1; have := (unhide HK).2.1
          simp [IntKind.wrap, IntKind.bits, IntKind.signed]; omega
        have w2 : (Dn : Int) ≤ 1048456 := by have := (unhide HK).1; have := (unhide HK).2.1; omega
        have w3 : ((m : Int) != -1) = true := by rw [bne_iff_ne]; omega
        by_cases h3 : L < M1
        · have h3' : (L : Int) < ((M1 : Nat) : Int) := by omega
          have A := hide (unhide AL wr (unhide LG).bel m hmk)
          have d0 := unhide C0 wr (unhide LG).bel
          have d3 : (m : Int) ≤ (n : Int) := by have := (unhide HK).1; omega
          have d4 : ¬ c = m := by have := (unhide HK).1; have := (unhide HK).2.2.1; omega
          have HM := hide (And.intro hmk (And.intro hD h1))
          have HZ := hide (show -1 ≤ F m ∧ F m < m from (unhide HF) m hmk)
          clear h2 hz2 hz3 hmk hD
          go_wp2_with fail
          refine (unhide A).mono ?_
          rintro e w5 ⟨⟨q, rfl, hq1, hq2⟩, B5⟩
          have L5 := hide ((unhide LG).keep B5)
          have x0 := (unhide L5).best.cell 0
          have x1 := (unhide L5).best.cell 1
          have x2 := (unhide L5).best.cell 2
          simp at x0 x1 x2
          have xl := (unhide L5).best.lt
          have xf1 := (unhide L5).best.free 1
          have xf2 := (unhide L5).best.free 2
          have y2 := unhide C2 w5 (unhide L5).bel
          have y3 := unhide FR w5 (unhide L5).bel m (by have := (unhide HM).1; have := (unhide HK).1; omega)
          have y4 : (m : Int) < (n : Int) := by have := (unhide HM).1; have := (unhide HK).1; omega
          by_cases h5 : L < q
          · have h5' : (L : Int) < (q : Int) := by omega
            have CP := hide (show Cop px k (k + M1) q Dn from cop_mk (unhide HM).2.1.symm (by omega) (by have := (unhide HM).1; have := (unhide HM).2.1; omega) (by omega) (by have := (unhide HK).2.2.2; have := (unhide HMM).1; omega) (by omega) (by omega) (by rw [show k + M1 - k = M1 by omega]; exact hq2))
            have L6 := hide ((unhide L5).set q Dn (unhide CP))
            have y5 := unhide C2 _ (unhide L6).bel
            have y6 := unhide FR _ (unhide L6).bel m (by have := (unhide HM).1; have := (unhide HK).1; omega)
            clear B5 hq1 hq2 y2 y3 d0 b0 b1 b2 bl bf1 bf2 A
            go_wp2
            go_roundw
            case rel => exact ⟨tr - 1, F m, q, Dn, by go_num, rfl, (unhide HZ).1, by have := (unhide HZ).2; have := (unhide HM).1; omega, by omega, unhide L6⟩
            case measure => have := (unhide HM).2.2; simp [intOf]; omega
          · have h5' : ¬ (L : Int) < (q : Int) := by omega
            clear B5 hq1 hq2 d0 b0 b1 b2 bl bf1 bf2 A
            go_wp2
            go_roundw
            case rel => exact ⟨tr - 1, F m, L, D, by go_num, rfl, (unhide HZ).1, by have := (unhide HZ).2; have := (unhide HM).1; omega, by omega, unhide L5⟩
            case measure => have := (unhide HM).2.2; simp [intOf]; omega
        · have h3' : ¬ (L : Int) < ((M1 : Nat) : Int) := by omega
          clear hD
          have r0 := (unhide LG).res.cell 0
          have r1 := (unhide LG).res.cell 1
          have r2 := (unhide LG).res.cell 2
          have rf0 := (unhide LG).res.free 0
          have rf1 := (unhide LG).res.free 1
          have rf2 := (unhide LG).res.free 2
          simp at r0 r1 r2
          go_wp2
          have fin := (unhide LG).fin
          refine bodyPost_ret (results_cell_row rfl _ _ w.heap.size 45 #[.int .i64 k, .int .i64 L, .int .i64 D] (0, 0) _ rfl fin.1 Try.underlying45 rfl (by kernel_rfl)) rfl ⟨⟨L, D, rfl, (unhide LG).cop⟩, fin.2⟩
    · have h1' : decide (0 < tr) = false := decide_eq_false h1
      have r0 := (unhide LG).res.cell 0
      have r1 := (unhide LG).res.cell 1
      have r2 := (unhide LG).res.cell 2
      have rf0 := (unhide LG).res.free 0
      have rf1 := (unhide LG).res.free 1
      have rf2 := (unhide LG).res.free 2
      simp at r0 r1 r2
      go_wp2
      have fin := (unhide LG).fin
      refine bodyPost_ret (results_cell_row rfl _ _ w.heap.size 45 #[.int .i64 k, .int .i64 L, .int .i64 D] (0, 0) _ rfl fin.1 Try.underlying45 rfl (by kernel_rfl)) rfl ⟨⟨L, D, rfl, (unhide LG).cop⟩, fin.2⟩
end Go.Proofs.Ytpkiilnkiidoiaa.KGr4
