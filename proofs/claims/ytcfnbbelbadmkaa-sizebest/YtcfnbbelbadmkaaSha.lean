/- Contract: size.shares, where the items of a row are joined by what is told. Conditions: the slice reads as items that rise, and they are few. -/
import Derived.Test.YtcfnbbelbadmkaaShr
namespace Go.Proofs.Ytcfnbbelbadmkaa.Sha
open Go.ChangeShapes Go.WideShapes Go.ChangeAt Go.RowKit Go.Proofs.Ytcfnbbelbadmkaa.Core Go.Proofs.Ytcfnbbelbadmkaa.Gnd Go.Proofs.Ytcfnbbelbadmkaa.Itm Go.Proofs.Ytcfnbbelbadmkaa.Mrg Go.Proofs.Ytcfnbbelbadmkaa.Pur Go.Proofs.Ytcfnbbelbadmkaa.Spr Go.Proofs.Ytcfnbbelbadmkaa.Shr

/-- How many are taken of each row that is done. -/
structure Tak (w2 wr : World) (most : Nat) (T : Nat → Nat) : Prop where
  box : Box wr w2.heap.size 3 (sRow (fun r => .int .i64 (T r)) most)
  bel : Below w2.heap.size w2 wr
theorem Tak.put {w2 wr : World} {most : Nat} {T : Nat → Nat} (h : Tak w2 wr most T) (k z : Nat) : Tak w2 (wr.setCell ⟨w2.heap.size, k, none⟩ (.int .i64 z)) most (fun r => if r = k then z else T r) := by
  refine ⟨?_, h.bel.setCell (p := ⟨w2.heap.size, k, none⟩) (Nat.le_refl _) _⟩
  have := h.box.set k (.int .i64 z)
  rw [sRow_set, sRow_congr (g := fun r => .int .i64 (((if r = k then z else T r : Nat)) : Int)) (fun r _ => by by_cases e : r = k <;> simp [e])] at this
  exact this
theorem Tak.alloc {w2 wr : World} {most : Nat} {T : Nat → Nat} (h : Tak w2 wr most T) (o : Obj) : Tak w2 (wr.alloc o) most T := ⟨h.box.alloc o, h.bel.alloc h.bel.size o⟩
theorem Tak.congr {w2 wr : World} {most : Nat} {T T' : Nat → Nat} (h : Tak w2 wr most T) (e : ∀ r, r < most → T r = T' r) : Tak w2 wr most T' := by
  refine ⟨?_, h.bel⟩
  rw [sRow_congr (g := fun r => .int .i64 (T r)) (fun r hr => by rw [e r hr])]
  exact h.box
set_option maxHeartbeats 4000000 in
theorem shr15 (hpar : ∀ (v : Value) (xs : List It) (w : World), Its w v xs → xs.length ≤ 20000 → (∀ x ∈ xs, 0 < x.1 ∧ x.1 ≤ 4000000000000000000) → Calls Try.prog 24 #[v] w fun e w' => ∃ r, e = .returned r ∧ Its w' r (prs xs) ∧ Below w.heap.size w w')
    (v : Value) (S : List It) (most : Nat) (w : World) (src : Its w v S) (hS : Sym S) (hl : S.length ≤ 5000) (hm : 1 ≤ most) (hm2 : most ≤ 15) (hn : S.length ≤ 2 ^ most) (h1 : S.length ≠ 1)
    (hb : ∀ i, i < 15 → ∀ x, x ∈ rowI S i → x.1 ≤ 4000000000000000000) :
    Calls Try.prog 15 #[v, .int .i64 most] w fun e w' => ∃ g, e = .returned (.slice (some ⟨g, 0, none⟩) most most) ∧ w.heap.size ≤ g ∧ g < w'.heap.size ∧ (∀ k, k < most → w'.cell? ⟨g, k, none⟩ = some (.int .i64 ((sprd S (most - 1) (2 * S.length - 2) k : Nat) : Int))) ∧ Below w.heap.size w w' := by
  have SRC := hide src
  have HS := hide hS
  have HB := hide hb
  have PAR := hide hpar
  have hmk := fun w => make_rows w most (by omega)
  have UP := hide (show ∀ i, (rowI S i).length ≤ 10000 from fun i => by
    by_cases h0 : 0 < S.length
    · have := row_up h0 i
      omega
    · have e : S = [] := List.eq_nil_of_length_eq_zero (by omega)
      subst e
      have : ∀ i, (rowI [] i).length = 0 := fun i => by
        induction i with
        | zero => rfl
        | succ i ih => rw [row_len, joi_len, ih]; rfl
      rw [this i]
      omega)
  obtain ⟨pa, pc, rfl, _⟩ := its_len src
  clear src hS hb hpar
  go_enter Try.func15, Try.ntmps15
  go_wp2
  go_loopw [6, 17] (fun j i wr => ∃ (k : Nat) (vs : Nat → Value), k ≤ most ∧ i = .int .i64 k ∧ Rws w wr most k S j vs) (fun _ i _ => most - (intOf i).toNat)
  case atStart =>
    exact ⟨0, fun _ => .slice none 0 0, Nat.zero_le _, rfl, ⟨Box.made w 42 _, fun _ => ⟨_, _, _, rfl⟩, fun i hi => absurd hi (Nat.not_lt_zero _), Its.nil _, (Below.refl _ w).alloc (Nat.le_refl _) _⟩⟩
  case round =>
    obtain ⟨k, vs, hk, rfl, rws⟩ := hrel
    have RW := hide rws
    by_cases hlt : k < most
    · have hlt' : (k : Int) < (most : Int) := by omega
      have hj := rws.joined
      have sv := (unhide SRC).keep rws.bel
      have hrl := unhide UP k
      have hjl : S.length + (joi S k).length ≤ 10000 := by rw [← row_len]; exact hrl
      have CM := hide (mrg23 _ _ _ _ wr sv hj (by omega))
      clear rws hj sv
      go_wp2_with fail
      refine (unhide CM).mono ?_
      rintro e w1 ⟨r, rfl, ir, b1⟩
      have ir' : Its w1 r (rowI S k) := by rw [rowI_eq]; exact ir
      have R1 := (unhide RW).keep b1
      obtain ⟨q1, q2, q3, q4⟩ := R1.put hlt ir' (its_slice ir')
      have c0 := (R1.box.cell k).trans (sRow_at _ _ k hlt)
      have f0 := R1.box.free k
      obtain ⟨ra, rx, ry, rfl⟩ := its_slice ir'
      have c1 := (q1.cell k).trans (sRow_at _ _ k hlt)
      simp only [if_true] at c1
      have CP := hide (unhide PAR _ _ _ (its_set (u := .slice ra rx ry) ir' (by rw [R1.box.cell, sRow_at _ _ k hlt]; exact congrArg some ((R1.sl k).choose_spec.choose_spec.choose_spec))) (by omega) (fun x hx => ⟨row_pos (unhide HS) k x hx, unhide HB k (by omega) x hx⟩))
      have NX := hide (show ∀ w3 j3, Its w3 j3 (prs (rowI S k)) → Below (w1.setCell ⟨w.heap.size, k, none⟩ (.slice ra rx ry)).heap.size (w1.setCell ⟨w.heap.size, k, none⟩ (.slice ra rx ry)) w3 → Rws w w3 most (k + 1) S j3 (fun i => if i = k then .slice ra rx ry else vs i) from fun w3 j3 i3 b3 =>
        ⟨q1.below b3 q1.lt, q3, fun i hi => (q2 i hi).keep b3, i3, q4.trans (b3.mono q4.size)⟩)
      clear ir b1 ir' R1 q1 q2 q3 q4 CM RW
      obtain ⟨z, hz⟩ : ∃ z, vs k = z := ⟨_, rfl⟩
      rw [hz] at c0
      clear hz
      go_wp2_with fail
      refine (unhide CP).mono ?_
      rintro e w3 ⟨r3, rfl, i3, b3⟩
      have N3 := hide (unhide NX w3 r3 i3 b3)
      clear i3 b3 CP NX
      go_wp2
      go_roundw
      case rel => exact ⟨k + 1, _, by omega, by go_num, unhide N3⟩
      case measure => simp [intOf]; omega
    · obtain rfl : k = most := by omega
      have hnl : ¬ (k : Int) < (k : Int) := by omega
      have hmk2 := fun w => make_ints w k (by omega)
      clear rws hmk hlt
      generalize hw2 : wr = w2 at *
      clear hw2
      have T0 := hide (show Tak w2 (w2.alloc (.cells (sRow (fun _ => .int .i64 0) k) 3)) k (fun _ => 0) from ⟨Box.made w2 3 _, (Below.refl _ w2).alloc (Nat.le_refl _) _⟩)
      obtain ⟨K, hK⟩ : ∃ K, K = 2 * S.length - 2 := ⟨_, rfl⟩
      have HK := hide hK
      by_cases h0 : S.length = 0
      · have hKz : K = 0 := by omega
        have HKZ := hide hKz
        have hK2 : K ≤ 20000 := by omega
        clear hK hKz
        go_wp2
        go_loopw [9, 10] (fun x y wr => ∃ (p W : Nat) (T : Nat → Nat), p ≤ k ∧ x = .int .i64 W ∧ y = .int .i64 ((p : Int) - 1) ∧ W ≤ 20000 ∧ (0 < p → W ≤ (rowI S (p - 1)).length ∧ ∀ r, r < p → sprd S (k - 1) K r = sprd S (p - 1) W r) ∧ Tak w2 wr k T ∧ (∀ r, p ≤ r → r < k → T r = sprd S (k - 1) K r) ∧ (∀ r, r < p → T r = 0)) (fun _ y _ => (intOf y + 1).toNat)
        case atStart =>
          exact ⟨k, K, fun _ => 0, Nat.le_refl _, by rw [unhide HKZ]; rfl, by go_num, by omega, fun _ => ⟨by rw [unhide HK]; exact row_enough S (k - 1) (by rw [show k - 1 + 1 = k by omega]; exact hn), fun r _ => rfl⟩, unhide T0, fun r h1 h2 => by omega, fun _ _ => rfl⟩
        case round =>
          obtain ⟨p, W, T, hp, rfl, rfl, hW, hw1, tak, t1, t2⟩ := hrel
          have TAK := hide tak
          have H1 := hide hw1
          have T1 := hide t1
          have T2 := hide t2
          clear tak hw1 t1 t2
          by_cases hp0 : 0 < p
          · obtain ⟨q, rfl⟩ : ∃ q, p = q + 1 := ⟨p - 1, by omega⟩
            have hq0 : (0 : Int) ≤ (q : Int) := by omega
            have hq1 : (q : Int) < (k : Int) := by omega
            obtain ⟨hWl, hWs⟩ := unhide H1 (by omega)
            rw [show q + 1 - 1 = q by omega] at hWl hWs
            have WL := hide hWl
            have WS := hide hWs
            have iq := (unhide RW).its q (by omega)
            obtain ⟨ra, rc, er, hrc⟩ := its_len iq
            have cq : wr.cell? ⟨w.heap.size, q, none⟩ = some (.slice ra (rowI S q).length rc) := by
              rw [(unhide TAK).bel.cell (p := ⟨w.heap.size, q, none⟩) (unhide RW).box.lt, (unhide RW).box.cell, sRow_at _ _ q (by omega), er]
            have IQ := hide (show Its w2 (.slice ra (rowI S q).length rc) (rowI S q) from er ▸ iq)
            have hWc : (W : Int) ≤ (rc : Int) := by omega
            clear iq er hWl hWs
            go_wp2
            go_loopw [52] (fun x wr => ∃ c : Nat, c ≤ W ∧ x = .int .i64 c ∧ Tak w2 wr k (fun r => if r = q then cntS (rowI S q) c else T r)) (fun x _ => W - (intOf x).toNat)
            case atStart => exact ⟨0, Nat.zero_le _, rfl, (unhide TAK).congr (fun r hr => by by_cases e : r = q <;> simp [e, cntS, unhide T2 q (by omega)])⟩
            case round =>
              clear cq
              obtain ⟨c, hc, rfl, tak⟩ := hrel
              have TK := hide tak
              have hcl := cntS_le (rowI S q) c
              have ct := (tak.box.cell q).trans (sRow_at _ _ q (by omega))
              simp only [if_true] at ct
              have ft := tak.box.free q
              have hlt2 := tak.box.lt
              by_cases hcW : c < W
              · have hcW' : (c : Int) < (W : Int) := by omega
                have hcl2 : c < (rowI S q).length := by have := unhide WL; omega
                obtain ⟨b, off, cap, e, _, hcell⟩ : ∃ b off cap, (Value.slice ra (rowI S q).length rc) = .slice (some ⟨b, off, none⟩) (rowI S q).length cap ∧ (rowI S q).length ≤ cap ∧ ∀ i, i < (rowI S q).length → w2.cell? ⟨b, off + i * 2, none⟩ = some (.int .i64 (at_ (rowI S q) i).1) ∧ w2.cell? ⟨b, off + (i * 2 + 1), none⟩ = some (.bool (at_ (rowI S q) i).2) := by
                  rcases unhide IQ with ⟨_, e⟩ | h
                  · rw [e] at hcl2; simp at hcl2
                  · exact h
                cases e
                obtain ⟨d1, d2⟩ := hcell c hcl2
                have x1 := (tak.bel.cell (p := ⟨b, off + c * 2, none⟩) (lt_of_cell d1)).trans d1
                have x2 : wr.cell? ⟨b, off + c * 2 + 1, none⟩ = some (.bool (at_ (rowI S q) c).2) := (tak.bel.cell (p := ⟨b, off + (c * 2 + 1), none⟩) (lt_of_cell d2)).trans d2
                have hbl := lt_of_cell x1
                have SU := hide (cntS_succ (rowI S q) c hcl2)
                clear hcell d1 d2 tak
                obtain ⟨m1, hm1⟩ : ∃ z, (at_ (rowI S q) c).1 = z := ⟨_, rfl⟩
                rw [hm1] at x1
                clear hm1
                have hne2 : w2.heap.size ≠ wr.heap.size := by omega
                cases hb : (at_ (rowI S q) c).2
                · rw [hb] at x2
                  have S2 := hide (show cntS (rowI S q) (c + 1) = cntS (rowI S q) c from by rw [unhide SU, hb]; simp)
                  clear hb
                  generalize cntS (rowI S q) c = cc at *
                  go_wp2
                  go_roundw
                  case rel => exact ⟨c + 1, by omega, by go_num, by rw [unhide S2]; exact (unhide TK).alloc _⟩
                  case measure => simp [intOf]; omega
                · rw [hb] at x2
                  have S2 := hide (show cntS (rowI S q) (c + 1) = cntS (rowI S q) c + 1 from by rw [unhide SU, hb]; simp)
                  clear hb
                  generalize hcc : cntS (rowI S q) c = cc at *
                  clear hcc
                  go_wp2
                  go_roundw
                  case rel =>
                    refine ⟨c + 1, by omega, by go_num, ?_⟩
                    rw [unhide S2]
                    have := (((unhide TK).put q (cc + 1)).alloc (.cells #[.int .i64 m1, .bool true] 56)).congr (T' := fun r => if r = q then cc + 1 else T r) (fun r _ => by by_cases e : r = q <;> simp [e])
                    rw [show ((cc + 1 : Nat) : Int) = (cc : Int) + 1 by omega] at this
                    exact this
                  case measure => simp [intOf]; omega
              · obtain rfl : c = W := by omega
                have hnl2 : ¬ (c : Int) < (c : Int) := by omega
                have eS : Hid (cntS (rowI S q) c = tk S q c) := rfl
                have NXT := hide (show 0 < q → 2 * (c - tk S q c) ≤ (rowI S (q - 1)).length ∧ ∀ r, r < q → sprd S (k - 1) K r = sprd S (q - 1) (2 * (c - tk S q c)) r from fun h => by
                  obtain ⟨u, rfl⟩ : ∃ u, q = u + 1 := ⟨q - 1, by omega⟩
                  rw [show u + 1 - 1 = u by omega]
                  refine ⟨next_ok (unhide HS) u c (unhide WL), fun r hr => ?_⟩
                  rw [unhide WS r (by omega), sprd_low _ _ _ _ (by omega)])
                have TOP := hide (show sprd S (k - 1) K q = tk S q c from by rw [unhide WS q (by omega), sprd_top])
                clear tak
                rw [unhide eS] at ct hcl
                have TK2 := hide (show Tak w2 wr k (fun r => if r = q then tk S q c else T r) from unhide TK)
                clear TK
                have e6 : (c : Int) - (tk S q c : Nat) = ((c - tk S q c : Nat) : Int) := by omega
                have hc10 : c ≤ 10000 := by have := unhide WL; have := unhide UP q; omega
                generalize htt : tk S q c = tt at *
                clear htt
                go_wp2
                go_roundw
                case rel =>
                  refine ⟨q, 2 * (c - tt), _, by omega, by go_num, by go_num, by omega, unhide NXT, unhide TK2, fun r h3 h4 => ?_, fun r h3 => ?_⟩
                  · by_cases e : r = q
                    · rw [if_pos e, e, unhide TOP]
                    · rw [if_neg e]
                      exact unhide T1 r (by omega) h4
                  · rw [if_neg (by omega)]
                    exact unhide T2 r (by omega)
                case measure => simp [intOf]
          · obtain rfl : p = 0 := by omega
            have hneg : ¬ (0 : Int) ≤ ((0 : Nat) : Int) - 1 := by omega
            go_wp2
            go_ret
            have tk0 := unhide TAK
            refine ⟨_, rfl, (unhide RW).bel.size, tk0.box.lt, fun i hi => ?_, (unhide RW).bel.trans (tk0.bel.mono (unhide RW).bel.size)⟩
            rw [tk0.box.cell, sRow_at _ _ _ hi, unhide T1 i (Nat.zero_le _) hi, unhide HKZ]
      · have eK : (2 : Int) * (S.length : Int) - 2 = (K : Int) := by omega
        have hK0 : ¬ (K : Int) < 0 := by omega
        have hK1 : 0 < K := by omega
        have hK2 : K ≤ 20000 := by omega
        clear hK
        go_wp2
        go_loopw [9, 10] (fun x y wr => ∃ (p W : Nat) (T : Nat → Nat), p ≤ k ∧ x = .int .i64 W ∧ y = .int .i64 ((p : Int) - 1) ∧ W ≤ 20000 ∧ (0 < p → W ≤ (rowI S (p - 1)).length ∧ ∀ r, r < p → sprd S (k - 1) K r = sprd S (p - 1) W r) ∧ Tak w2 wr k T ∧ (∀ r, p ≤ r → r < k → T r = sprd S (k - 1) K r) ∧ (∀ r, r < p → T r = 0)) (fun _ y _ => (intOf y + 1).toNat)
        case atStart =>
          exact ⟨k, K, fun _ => 0, Nat.le_refl _, by go_num, by go_num, by omega, fun _ => ⟨by rw [unhide HK]; exact row_enough S (k - 1) (by rw [show k - 1 + 1 = k by omega]; exact hn), fun r _ => rfl⟩, unhide T0, fun r h1 h2 => by omega, fun _ _ => rfl⟩
        case round =>
          obtain ⟨p, W, T, hp, rfl, rfl, hW, hw1, tak, t1, t2⟩ := hrel
          have TAK := hide tak
          have H1 := hide hw1
          have T1 := hide t1
          have T2 := hide t2
          clear tak hw1 t1 t2
          by_cases hp0 : 0 < p
          · obtain ⟨q, rfl⟩ : ∃ q, p = q + 1 := ⟨p - 1, by omega⟩
            have hq0 : (0 : Int) ≤ (q : Int) := by omega
            have hq1 : (q : Int) < (k : Int) := by omega
            obtain ⟨hWl, hWs⟩ := unhide H1 (by omega)
            rw [show q + 1 - 1 = q by omega] at hWl hWs
            have WL := hide hWl
            have WS := hide hWs
            have iq := (unhide RW).its q (by omega)
            obtain ⟨ra, rc, er, hrc⟩ := its_len iq
            have cq : wr.cell? ⟨w.heap.size, q, none⟩ = some (.slice ra (rowI S q).length rc) := by
              rw [(unhide TAK).bel.cell (p := ⟨w.heap.size, q, none⟩) (unhide RW).box.lt, (unhide RW).box.cell, sRow_at _ _ q (by omega), er]
            have IQ := hide (show Its w2 (.slice ra (rowI S q).length rc) (rowI S q) from er ▸ iq)
            have hWc : (W : Int) ≤ (rc : Int) := by omega
            clear iq er hWl hWs
            go_wp2
            go_loopw [52] (fun x wr => ∃ c : Nat, c ≤ W ∧ x = .int .i64 c ∧ Tak w2 wr k (fun r => if r = q then cntS (rowI S q) c else T r)) (fun x _ => W - (intOf x).toNat)
            case atStart => exact ⟨0, Nat.zero_le _, rfl, (unhide TAK).congr (fun r hr => by by_cases e : r = q <;> simp [e, cntS, unhide T2 q (by omega)])⟩
            case round =>
              clear cq
              obtain ⟨c, hc, rfl, tak⟩ := hrel
              have TK := hide tak
              have hcl := cntS_le (rowI S q) c
              have ct := (tak.box.cell q).trans (sRow_at _ _ q (by omega))
              simp only [if_true] at ct
              have ft := tak.box.free q
              have hlt2 := tak.box.lt
              by_cases hcW : c < W
              · have hcW' : (c : Int) < (W : Int) := by omega
                have hcl2 : c < (rowI S q).length := by have := unhide WL; omega
                obtain ⟨b, off, cap, e, _, hcell⟩ : ∃ b off cap, (Value.slice ra (rowI S q).length rc) = .slice (some ⟨b, off, none⟩) (rowI S q).length cap ∧ (rowI S q).length ≤ cap ∧ ∀ i, i < (rowI S q).length → w2.cell? ⟨b, off + i * 2, none⟩ = some (.int .i64 (at_ (rowI S q) i).1) ∧ w2.cell? ⟨b, off + (i * 2 + 1), none⟩ = some (.bool (at_ (rowI S q) i).2) := by
                  rcases unhide IQ with ⟨_, e⟩ | h
                  · rw [e] at hcl2; simp at hcl2
                  · exact h
                cases e
                obtain ⟨d1, d2⟩ := hcell c hcl2
                have x1 := (tak.bel.cell (p := ⟨b, off + c * 2, none⟩) (lt_of_cell d1)).trans d1
                have x2 : wr.cell? ⟨b, off + c * 2 + 1, none⟩ = some (.bool (at_ (rowI S q) c).2) := (tak.bel.cell (p := ⟨b, off + (c * 2 + 1), none⟩) (lt_of_cell d2)).trans d2
                have hbl := lt_of_cell x1
                have SU := hide (cntS_succ (rowI S q) c hcl2)
                clear hcell d1 d2 tak
                obtain ⟨m1, hm1⟩ : ∃ z, (at_ (rowI S q) c).1 = z := ⟨_, rfl⟩
                rw [hm1] at x1
                clear hm1
                have hne2 : w2.heap.size ≠ wr.heap.size := by omega
                cases hb : (at_ (rowI S q) c).2
                · rw [hb] at x2
                  have S2 := hide (show cntS (rowI S q) (c + 1) = cntS (rowI S q) c from by rw [unhide SU, hb]; simp)
                  clear hb
                  generalize cntS (rowI S q) c = cc at *
                  go_wp2
                  go_roundw
                  case rel => exact ⟨c + 1, by omega, by go_num, by rw [unhide S2]; exact (unhide TK).alloc _⟩
                  case measure => simp [intOf]; omega
                · rw [hb] at x2
                  have S2 := hide (show cntS (rowI S q) (c + 1) = cntS (rowI S q) c + 1 from by rw [unhide SU, hb]; simp)
                  clear hb
                  generalize hcc : cntS (rowI S q) c = cc at *
                  clear hcc
                  go_wp2
                  go_roundw
                  case rel =>
                    refine ⟨c + 1, by omega, by go_num, ?_⟩
                    rw [unhide S2]
                    have := (((unhide TK).put q (cc + 1)).alloc (.cells #[.int .i64 m1, .bool true] 56)).congr (T' := fun r => if r = q then cc + 1 else T r) (fun r _ => by by_cases e : r = q <;> simp [e])
                    rw [show ((cc + 1 : Nat) : Int) = (cc : Int) + 1 by omega] at this
                    exact this
                  case measure => simp [intOf]; omega
              · obtain rfl : c = W := by omega
                have hnl2 : ¬ (c : Int) < (c : Int) := by omega
                have eS : Hid (cntS (rowI S q) c = tk S q c) := rfl
                have NXT := hide (show 0 < q → 2 * (c - tk S q c) ≤ (rowI S (q - 1)).length ∧ ∀ r, r < q → sprd S (k - 1) K r = sprd S (q - 1) (2 * (c - tk S q c)) r from fun h => by
                  obtain ⟨u, rfl⟩ : ∃ u, q = u + 1 := ⟨q - 1, by omega⟩
                  rw [show u + 1 - 1 = u by omega]
                  refine ⟨next_ok (unhide HS) u c (unhide WL), fun r hr => ?_⟩
                  rw [unhide WS r (by omega), sprd_low _ _ _ _ (by omega)])
                have TOP := hide (show sprd S (k - 1) K q = tk S q c from by rw [unhide WS q (by omega), sprd_top])
                clear tak
                rw [unhide eS] at ct hcl
                have TK2 := hide (show Tak w2 wr k (fun r => if r = q then tk S q c else T r) from unhide TK)
                clear TK
                have e6 : (c : Int) - (tk S q c : Nat) = ((c - tk S q c : Nat) : Int) := by omega
                have hc10 : c ≤ 10000 := by have := unhide WL; have := unhide UP q; omega
                generalize htt : tk S q c = tt at *
                clear htt
                go_wp2
                go_roundw
                case rel =>
                  refine ⟨q, 2 * (c - tt), _, by omega, by go_num, by go_num, by omega, unhide NXT, unhide TK2, fun r h3 h4 => ?_, fun r h3 => ?_⟩
                  · by_cases e : r = q
                    · rw [if_pos e, e, unhide TOP]
                    · rw [if_neg e]
                      exact unhide T1 r (by omega) h4
                  · rw [if_neg (by omega)]
                    exact unhide T2 r (by omega)
                case measure => simp [intOf]
          · obtain rfl : p = 0 := by omega
            have hneg : ¬ (0 : Int) ≤ ((0 : Nat) : Int) - 1 := by omega
            go_wp2
            go_ret
            have tk0 := unhide TAK
            refine ⟨_, rfl, (unhide RW).bel.size, tk0.box.lt, fun i hi => ?_, (unhide RW).bel.trans (tk0.bel.mono (unhide RW).bel.size)⟩
            rw [tk0.box.cell, sRow_at _ _ _ hi, unhide T1 i (Nat.zero_le _) hi, unhide HK]
end Go.Proofs.Ytcfnbbelbadmkaa.Sha
