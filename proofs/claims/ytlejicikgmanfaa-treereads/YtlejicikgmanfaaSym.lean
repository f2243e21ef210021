/- Contract: the document's own next symbol (ref.Symbol). Conditions: the slices read as complete lengths and their codes and do not lie in the eye; the bytes are few. -/
import Derived.Test.YtlejicikgmanfaaAns
import Derived.Test.YtlejicikgmanfaaRck
namespace Go.Proofs.Ytlejicikgmanfaa.Sym
open Go.ChangeShapes Go.WideShapes Go.ChangeAt Go.RowKit Go.Proofs.Ytlejicikgmanfaa.Core Go.Proofs.Ytlejicikgmanfaa.Gnd Go.Proofs.Ytlejicikgmanfaa.Math Go.Proofs.Ytlejicikgmanfaa.Dec Go.Proofs.Ytlejicikgmanfaa.Ord Go.Proofs.Ytlejicikgmanfaa.Cou Go.Proofs.Ytlejicikgmanfaa.Trr Go.Proofs.Ytlejicikgmanfaa.Rck Go.Proofs.Ytlejicikgmanfaa.Bitin Go.Proofs.Ytlejicikgmanfaa.Eyes

theorem cq_raw {c : Nat → Int} {m : Nat} (hm : m ≠ 0) : ∀ i, cq c m i = cnt c m i
  | 0 => rfl
  | i + 1 => by
    have ih := cq_raw (c := c) hm i
    show cq c m i + (if c i = (m : Int) then 1 else 0) = cnt c m i + (if c i = (m : Int) ∧ m ≠ 0 then 1 else 0)
    rw [ih]
    by_cases h : c i = (m : Int)
    · rw [if_pos h, if_pos ⟨h, hm⟩]
    · rw [if_neg h, if_neg (fun h2 => h h2.1)]
theorem cod_inj {c : Nat → Int} {n L j k : Nat} (h0 : L ≠ 0) (hjk : j < k) (hj : c j = (L : Int)) (hk : c k = (L : Int)) : cod c n j ≠ cod c n k := by
  rw [cod_of L hj h0, cod_of L hk h0]
  have := cnt_lt c L hjk hj h0
  omega
def symV (bl i L k : Nat) : Int := if i + L ≤ 8 * bl then (k : Int) else -1
theorem eye_short {w : World} {lo hi e len : Nat} {s : Option Nat} {bc : Nat → Nat} (h : Eyes w lo hi e bc len s) : w.cell? ⟨e, 2, none⟩ = some (.bool s.isNone) := by
  cases s with
  | some i =>
    obtain ⟨a, cap, h0, _⟩ := h
    exact h0.cell 2
  | none =>
    obtain ⟨i, a, cap, h0, _⟩ := h
    exact h0.cell 2
set_option maxHeartbeats 400000 in
theorem sym_one (v cv : Value) (n : Nat) (c : Nat → Int) (hn : n ≤ 100000) (el eh e bl i : Nat) (bc : Nat → Nat) (w : World) (hv : Ints .i64 w v n c) (he : Eyes w el eh e bc bl (some i)) (hm : many c n = 1) :
    Calls Try.prog 14 #[v, cv, .pointer (some ⟨e, 0, none⟩)] w fun r w' => r = .returned (.int .i64 (sel c n)) ∧ w' = w := by
  have O := rone9 v n c hn w hv
  rw [if_pos hm, decide_eq_true hm] at O
  have OO := hide O
  have hs : w.cell? ⟨e, 2, none⟩ = some (.bool false) := eye_short he
  clear O hv he
  generalize sel c n = t at *
  go_enter Try.func14, Try.ntmps14
  go_wp2_with fail
  refine (unhide OO).mono ?_
  rintro r w1 ⟨rfl, rfl⟩
  go_wp2
  go_ret
  exact ⟨rfl, rfl⟩
/-- Cells of the two slices. -/
def Both (w : World) (v cv : Value) (n : Nat) (c : Nat → Int) : Prop := Ints .i64 w v n c ∧ Ints .u32 w cv n (fun k => (cod c n k : Int))
set_option maxRecDepth 20000 in
set_option maxHeartbeats 4000000 in
theorem sym_many (v cv : Value) (n : Nat) (c : Nat → Int) (hn : n ≤ 100000) (hg : Rng c n) (hk : kr c n ≤ 32768) (el eh e bl i L k : Nat) (bc : Nat → Nat) (hc : ∀ k, bc k ≤ 255) (hbl : bl ≤ 100000) (w : World) (hv : ∀ w', Upd (fun k => k = e) w w' → Both w' v cv n c) (he : Eyes w el eh e bc bl (some i))
    (hm : many c n ≠ 1) (st : Stop c n (fun j => bt bc (i + j)) L) (hkn : k < n) (hck : c k = (L : Int)) (hcod : cod c n k = vm (fun j => bt bc (i + j)) L) :
    Calls Try.prog 14 #[v, cv, .pointer (some ⟨e, 0, none⟩)] w fun r w' => r = .returned (.int .i64 (symV bl i L k)) ∧ Eyes w' el eh e bc bl (outS bl i L) ∧ Upd (fun k => k = e) w w' := by
  have O := rone9 v n c hn w (hv w (Upd.refl _ _)).1
  rw [if_neg hm, decide_eq_false hm] at O
  have OO := hide O
  obtain ⟨⟨a, cap, rfl, _⟩, a2, cap2, rfl, _⟩ := hv w (Upd.refl _ _)
  have HV := hide hv
  have HG := hide hg
  have HK := hide hk
  have ST := hide st
  have HE := hide he
  have HCK := hide hck
  have HCD := hide hcod
  have hL1 := st.pos
  have hL15 := st.le
  have hel : e < w.heap.size := by
    obtain ⟨a, cap, h0, h1, h2, h3, _⟩ := he
    omega
  clear O hv hg hk st he hck hcod
  go_enter Try.func14, Try.ntmps14
  go_wp2_with fail
  refine (unhide OO).mono ?_
  rintro r w1 ⟨rfl, rfl⟩
  go_wp2
  go_loopw [10, 11] (fun l j wr => ∃ q M : Nat, q ≤ n ∧ j = .int .i64 q ∧ l = .int .i64 M ∧ M ≤ 15 ∧ (∀ t, t < q → c t ≤ (M : Int)) ∧ w1 = wr) (fun _ j _ => n - (intOf j).toNat)
  case atStart => exact ⟨0, 0, Nat.zero_le _, rfl, rfl, by omega, fun t ht => by omega, rfl⟩
  case round =>
    obtain ⟨q, M, hq, rfl, rfl, hM, hall, rfl⟩ := hrel
    have ALL := hide hall
    clear hall OO
    by_cases hlt : q < n
    · have hlt' : (q : Int) < (n : Int) := by omega
      obtain ⟨⟨a1, cap1, e1, hc0⟩, _⟩ := unhide HV w1 (Upd.refl _ _)
      cases e1
      obtain ⟨b, off, rfl, hcell⟩ := hc0 q hlt
      obtain ⟨g1, g2⟩ := unhide HG q hlt
      obtain ⟨m, hcm⟩ : ∃ m : Nat, c q = (m : Int) := ⟨(c q).toNat, by omega⟩
      have HCM := hide hcm
      rw [hcm] at hcell g1 g2
      clear hc0 hcm
      by_cases hgt : M < m
      · have hgt' : (M : Int) < (m : Int) := by omega
        go_wp2
        go_roundw
        case rel =>
          refine ⟨q + 1, m, by omega, by go_num, rfl, by omega, fun t ht => ?_, (by first | rfl | trivial)⟩
          by_cases e1 : t = q
          · subst e1; rw [unhide HCM]; omega
          · have := unhide ALL t (by omega); omega
        case measure => simp [intOf]; omega
      · have hgt' : ¬ (M : Int) < (m : Int) := by omega
        go_wp2
        go_roundw
        case rel =>
          refine ⟨q + 1, M, by omega, by go_num, rfl, hM, fun t ht => ?_, (by first | rfl | trivial)⟩
          by_cases e1 : t = q
          · subst e1; rw [unhide HCM]; omega
          · exact unhide ALL t (by omega)
        case measure => simp [intOf]; omega
    · obtain rfl : q = n := by omega
      have hnl : ¬ (q : Int) < (q : Int) := by omega
      have hLM : L ≤ M := by
        have h1 := unhide ALL k hkn
        rw [unhide HCK] at h1
        omega
      clear ALL hlt
      go_wp2
      go_loopw [13] (fun j wx => ∃ t : Nat, t ≤ q ∧ j = .int .i64 t ∧ Box wx w1.heap.size 53 (nr (fun m => cq c m t) 16).toArray ∧ Upd (fun _ => False) w1 wx) (fun j _ => q - (intOf j).toNat)
      case atStart =>
        exact ⟨0, Nat.zero_le _, rfl, Box.made w1 53 _, (Upd.refl _ w1).alloc _⟩
      case round =>
        obtain ⟨t, ht, rfl, bx, up⟩ := hrel
        have BX := hide bx
        have UP := hide up
        by_cases hlt : t < q
        · have hlt' : (t : Int) < (q : Int) := by omega
          obtain ⟨⟨a1, cap1, e1, hc0⟩, _⟩ := unhide HV wr (up.mono (fun _ _ h => h.elim))
          cases e1
          obtain ⟨b, off, rfl, hcell⟩ := hc0 t hlt
          obtain ⟨g1, g2⟩ := unhide HG t hlt
          obtain ⟨m, hcm⟩ : ∃ m : Nat, c t = (m : Int) := ⟨(c t).toNat, by omega⟩
          have HCM := hide hcm
          rw [hcm] at hcell g1 g2
          have cN := (bx.cell m).trans (na_at _ _ m (by omega))
          have fN := bx.free m
          have hle := cq_le c m t
          have hm16 : (m : Int) < 16 := by omega
          clear hc0 hcm bx up
          generalize hy : cq c m t = y at *
          have HY := hide hy
          clear hy
          go_wp2
          go_roundw
          case rel =>
            refine ⟨t + 1, by omega, by go_num, ?_, upd_new (unhide UP) (by exact Nat.le_refl _) _⟩
            have := (unhide BX).set m (.int .i64 ((y + 1 : Nat) : Int))
            rw [na_set, na_congr (g := fun m => cq c m (t + 1)) (fun j _ => ?_)] at this
            · exact this
            · by_cases e1 : j = m
              · subst e1
                rw [if_pos rfl, cq_here (unhide HCM), unhide HY]
              · rw [if_neg e1, cq_not (by rw [unhide HCM]; omega)]
          case measure => simp [intOf]; omega
        · obtain rfl : t = q := by omega
          have hnl2 : ¬ (t : Int) < (t : Int) := by omega
          have HE2 := hide ((unhide HE).keep up (fun _ _ _ h => h))
          have hNe : w1.heap.size ≠ e := by omega
          clear bx up hlt
          go_wp2
          go_loopw [9, 14, 15] (fun x f p wx => ∃ m : Nat, p = .int .i64 ((m : Int) + 1) ∧ x = .int .u32 (vm (fun j => bt bc (i + j)) m) ∧ f = .int .u32 ((fst c t m + cnt c m t : Nat) : Int) ∧ m < L ∧ i + m ≤ 8 * bl ∧ Eyes wx el eh e bc bl (some (i + m)) ∧ Box wx w1.heap.size 53 (nr (fun m => cq c m t) 16).toArray ∧ Upd (fun k => k = e) w1 wx) (fun _ _ p _ => 20 - (intOf p).toNat)
          case atStart =>
            refine ⟨0, by go_num, rfl, ?_, by omega, ?_, unhide HE2, unhide BX, (unhide UP).mono (fun _ _ h => h.elim)⟩
            · rw [cnt_zero]
              rfl
            · exact Sees.le (unhide HE)
          case round =>
            obtain ⟨m, rfl, rfl, rfl, hmL, him, eye, bx, up⟩ := hrel
            have NS := hide (num_step el eh e bl 1 (some (i + m)) bc hc wr eye hbl (by omega))
            have UP3 := hide up
            have BX3 := hide bx
            have hMm : (m : Int) + 1 ≤ (M : Int) := by omega
            have hm16 : (m : Int) + 1 < 16 := by omega
            have vb := vm_lt (b := fun j => bt bc (i + j)) (fun j => bt_le bc _) m
            have vb2 : 2 ^ m ≤ 2 ^ 15 := Nat.pow_le_pow_right (by omega) (by omega)
            have tb := top_cap (unhide HG) (unhide HK) m (by omega)
            have tb2 := top_cap (unhide HG) (unhide HK) (m + 1) (by omega)
            have HF := hide (show fst c t (m + 1) = (fst c t m + cnt c m t) * 2 from rfl)
            rw [unhide HF] at tb2
            have HVM := hide (show vm (fun j => bt bc (i + j)) (m + 1) = 2 * vm (fun j => bt bc (i + j)) m + bt bc (i + m) from rfl)
            have HCQ := hide (cq_raw (c := c) (m := m + 1) (by omega) t)
            have hb1 := bt_le bc (i + m)
            by_cases hh : i + (m + 1) ≤ 8 * bl
            · have e1 : resV bc bl (some (i + m)) 1 = bt bc (i + m) := by
                unfold resV
                simp only
                rw [if_pos (by omega), bt_val bc hc bl (i + m) (by omega)]
              have e2 : stp bl (some (i + m)) 1 = some (i + (m + 1)) := by
                unfold stp
                rw [if_neg (by omega)]
                simp only
                rw [if_pos (by omega)]
                rfl
              rw [e1, e2] at NS
              have HLT := hide (fun (h : m + 1 = L) => (unhide ST).lt)
              have TST := hide (show m + 1 = L ↔ 2 * vm (fun j => bt bc (i + j)) m + bt bc (i + m) < (fst c t m + cnt c m t) * 2 + cnt c (m + 1) t from by
                rw [← unhide HVM, ← unhide HF]
                refine ⟨fun h => by rw [h]; exact (unhide ST).lt, fun h => ?_⟩
                rcases Nat.lt_or_ge (m + 1) L with h1 | h1
                · have := (unhide ST).ge (m + 1) h1
                  omega
                · omega)
              have CDK := hide (show m + 1 = L → cod c t k = 2 * vm (fun j => bt bc (i + j)) m + bt bc (i + m) from fun h => by rw [unhide HCD, ← h]; rfl)
              clear eye bx up e1 e2 HE2 BX UP HE
              generalize hX : vm (fun j => bt bc (i + j)) m = X at *
              have HX := hide hX
              generalize hF : fst c t m + cnt c m t = F at *
              generalize hC : cnt c (m + 1) t = C at *
              have HC := hide hC
              generalize hB : bt bc (i + m) = B at *
              clear hX hF hC hB
              go_wp2_with fail
              refine (unhide NS).mono ?_
              rintro r w4 ⟨rfl, eye4, u4⟩
              have hs4 : w4.cell? ⟨e, 2, none⟩ = some (.bool false) := eye_short eye4
              have UP4 := hide ((unhide UP3).trans u4)
              have bx4 := (unhide BX3).keep u4 hNe
              have cN := (bx4.cell (m + 1)).trans (na_at _ _ (m + 1) (by omega))
              simp only [unhide HCQ] at cN
              have BX4 := hide bx4
              have EYE4 := hide eye4
              clear eye4 u4 bx4 NS UP3 BX3
              by_cases hL : m + 1 = L
              · have htst := (unhide TST).1 hL
                have htst' : (X : Int) * 2 + (B : Int) < (F : Int) * 2 + (C : Int) := by omega
                have HL := hide hL
                clear hL
                go_wp2
                go_loopw [16] (fun p wx => ∃ j : Nat, p = .int .i64 j ∧ j ≤ k ∧ w4 = wx) (fun p _ => t - (intOf p).toNat)
                case atStart => exact ⟨0, rfl, Nat.zero_le _, rfl⟩
                case round =>
                  obtain ⟨j, rfl, hjk, rfl⟩ := hrel
                  have hL := unhide HL
                  have hjt : j < t := by omega
                  have hjt' : (j : Int) < (t : Int) := by omega
                  obtain ⟨⟨a1, cap1, q1, hc0⟩, a3, cap3, q3, hd0⟩ := unhide HV w4 (unhide UP4)
                  cases q1
                  cases q3
                  obtain ⟨b, off, rfl, hcell⟩ := hc0 j hjt
                  obtain ⟨b', off', rfl, hdell0⟩ := hd0 j hjt
                  have hdell : w4.cell? ⟨b', off' + j, none⟩ = some (.int .u32 ((cod c t j : Nat) : Int)) := hdell0
                  clear hdell0
                  clear hc0 hd0
                  have hcdl := cod_lt (unhide HG) (unhide HK) j hjt
                  by_cases hcj : c j = (m : Int) + 1
                  · rw [hcj] at hcell
                    have hcdb : cod c t j ≤ 32768 := by
                      have h1 := cod_lt (unhide HG) (unhide HK) j hjt (m + 1) (by omega) (by omega)
                      have h2 : 2 ^ (m + 1) ≤ 2 ^ 15 := Nat.pow_le_pow_right (by omega) (by omega)
                      omega
                    by_cases hj : j = k
                    · subst hj
                      have hce := unhide CDK hL
                      rw [hce] at hdell
                      have hce' : (((2 * X + B : Nat)) : Int) = (X : Int) * 2 + (B : Int) := by omega
                      rw [hce'] at hdell
                      clear hcdl hcdb hce hce' hL
                      go_wp2
                      go_ret
                      have hL := unhide HL
                      refine ⟨ret_int ?_, ?_, unhide UP4⟩
                      · unfold symV
                        rw [if_pos (by omega)]
                      · unfold outS
                        rw [if_pos (by omega), ← hL]
                        exact unhide EYE4
                    · have hne : cod c t j ≠ cod c t k := cod_inj (n := t) (L := m + 1) (by omega) (by omega) (by omega) (by rw [unhide HCK]; omega)
                      rw [unhide CDK hL] at hne
                      have hne' : ¬ ((cod c t j : Nat) : Int) = (X : Int) * 2 + (B : Int) := by omega
                      clear hcdl hne hL
                      generalize cod c t j = D at *
                      go_wp2
                      go_roundw
                      case rel => exact ⟨j + 1, by go_num, by omega, (by first | rfl | trivial)⟩
                      case measure => simp [intOf]; omega
                  · have hj : j ≠ k := by
                      rintro rfl
                      rw [unhide HCK] at hcj
                      omega
                    clear hcdl hdell hL
                    generalize c j = z at *
                    go_wp2
                    go_roundw
                    case rel => exact ⟨j + 1, by go_num, by omega, (by first | rfl | trivial)⟩
                    case measure => simp [intOf]; omega
              · have htst : ¬ 2 * X + B < F * 2 + C := fun h => hL ((unhide TST).2 h)
                have htst' : ¬ (X : Int) * 2 + (B : Int) < (F : Int) * 2 + (C : Int) := by omega
                go_wp2
                go_roundw
                case rel =>
                  refine ⟨m + 1, by go_num, ?_, ?_, by omega, hh, unhide EYE4, unhide BX4, unhide UP4⟩
                  · rw [unhide HVM]; go_num
                  · rw [unhide HF, unhide HC]; go_num
                case measure => simp [intOf]; omega
            · have e2 : stp bl (some (i + m)) 1 = none := by
                unfold stp
                rw [if_neg (by omega)]
                simp only
                rw [if_neg (by omega)]
              have e1 : resV bc bl (some (i + m)) 1 = 0 := by
                unfold resV
                simp only
                rw [if_neg (by omega)]
              rw [e1, e2] at NS
              clear eye bx up e1 e2 HE2 BX UP HE
              generalize vm (fun j => bt bc (i + j)) m = X at *
              generalize fst c t m + cnt c m t = F at *
              go_wp2_with fail
              refine (unhide NS).mono ?_
              rintro r w4 ⟨rfl, eye4, u4⟩
              have hs4 : w4.cell? ⟨e, 2, none⟩ = some (.bool true) := eye_short eye4
              have UP4 := hide ((unhide UP3).trans u4)
              have EYE4 := hide eye4
              clear eye4 u4 NS UP3 BX3
              go_wp2
              go_ret
              refine ⟨ret_int ?_, ?_, unhide UP4⟩
              · unfold symV
                rw [if_neg (by omega)]
              · unfold outS
                rw [if_neg (by omega)]
                exact unhide EYE4
theorem sym14 (v cv : Value) (n : Nat) (c : Nat → Int) (hn : n ≤ 100000) (hch : chk c n = 0) (el eh e bl i L k : Nat) (bc : Nat → Nat) (hc : ∀ k, bc k ≤ 255) (hbl : bl ≤ 100000) (w : World) (hv : ∀ w', Upd (fun k => k = e) w w' → Both w' v cv n c) (he : Eyes w el eh e bc bl (some i))
    (nx : Nx c n (fun j => bt bc (i + j)) L k) :
    Calls Try.prog 14 #[v, cv, .pointer (some ⟨e, 0, none⟩)] w fun r w' => r = .returned (.int .i64 (symV bl i L k)) ∧ Eyes w' el eh e bc bl (outS bl i L) ∧ Upd (fun k => k = e) w w' := by
  obtain ⟨hg, _, hk⟩ := chk_zero hch
  rcases nx with ⟨hm, rfl, rfl⟩ | ⟨hm, st, hkn, hck, hcod⟩
  · have hile := Sees.le he
    refine (sym_one v cv n c hn el eh e bl i bc w (hv w (Upd.refl _ _)).1 he hm).mono ?_
    rintro r w' ⟨rfl, rfl⟩
    refine ⟨?_, ?_, Upd.refl _ _⟩
    · simp [symV, hile]
    · unfold outS
      rw [if_pos (by omega)]
      exact he
  · exact sym_many v cv n c hn hg hk el eh e bl i L k bc hc hbl w hv he hm st hkn hck hcod
end Go.Proofs.Ytlejicikgmanfaa.Sym
