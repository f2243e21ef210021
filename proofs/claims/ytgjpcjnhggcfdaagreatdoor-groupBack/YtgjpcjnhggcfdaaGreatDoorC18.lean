/-
  Contract: size.shares, where the items of a row are joined by what is told. Conditions: the slice reads as items that rise, and they are few.
  Plain facts: a row of numbers in a block, two of them exchanged; rows that are put in another order. Conditions: as each says.
  Contract: slices.insertionSortCmpFunc. Conditions: the places lie in the row.
  Contract: slices.symMergeCmpFunc, where one of the two rows is of one. Conditions: the places lie in the row.
-/
import Derived.Test.YtgjpcjnhggcfdaaGreatDoorC17
import Derived.Test.YtgjpcjnhggcfdaaGreatDoorC03
namespace Go.Proofs.YtgjpcjnhggcfdaaGreatDoor.ZSha
open Go.ChangeShapes Go.WideShapes Go.ChangeAt Go.RowKit Go.Proofs.YtgjpcjnhggcfdaaGreatDoor.Core Go.Proofs.YtgjpcjnhggcfdaaGreatDoor.Gnd Go.Proofs.YtgjpcjnhggcfdaaGreatDoor.ZItm Go.Proofs.YtgjpcjnhggcfdaaGreatDoor.ZMrg Go.Proofs.YtgjpcjnhggcfdaaGreatDoor.ZPur Go.Proofs.YtgjpcjnhggcfdaaGreatDoor.ZSpr Go.Proofs.YtgjpcjnhggcfdaaGreatDoor.ZShr

/-- How many are taken of each row that is done. -/
structure Tak (w2 wr : World) (most : Nat) (T : Nat → Nat) : Prop where
  box : Box wr w2.heap.size 3 (sRow (fun r => .int .i64 (T r)) most)
  bel : Below w2.heap.size w2 wr
theorem Tak.put {w2 wr : World} {most : Nat} {T : Nat → Nat} (h : Tak w2 wr most T) (k z : Nat) : Tak w2 (wr.setCell ⟨w2.heap.size, k, none⟩ (.int .i64 z)) most (fun r => if r = k then z else T r) := by
  refine ⟨?_, h.bel.setCell (p := ⟨w2.heap.size, k, none⟩) (Nat.le_refl _) _⟩
  have := h.box.set k (.int .i64 z)
  rw [sRow_set, sRow_congr (g := fun r => .int .i64 (((if r = k then z else T r : Nat)) : Int)) (fun r _ => by by_cases e : r = k <;> simp [e])] at this
  exact this
theorem Tak.alloc {w2 wr : World} {most : Nat} {T : Nat → Nat} (h : Tak w2 wr most T) (o : Obj) : Tak w2 (wr.alloc o) most T := ⟨h.box.alloc o, h.bel.alloc h.bel.size o⟩
theorem Tak.congr {w2 wr : World} {most : Nat} {T T' : Nat → Nat} (h : Tak w2 wr most T) (e : ∀ r, r < most → T r = T' r) : Tak w2 wr most T' := by
  refine ⟨?_, h.bel⟩
  rw [sRow_congr (g := fun r => .int .i64 (T r)) (fun r hr => by rw [e r hr])]
  exact h.box
set_option maxHeartbeats 4000000 in
theorem shr15 (hpar : ∀ (v : Value) (xs : List It) (w : World), Its w v xs → xs.length ≤ 20000 → (∀ x ∈ xs, 0 < x.1 ∧ x.1 ≤ 4000000000000000000) → Calls Tryz.prog 99 #[v] w fun e w' => ∃ r, e = .returned r ∧ Its w' r (prs xs) ∧ Below w.heap.size w w')
    (v : Value) (S : List It) (most : Nat) (w : World) (src : Its w v S) (hS : Sym S) (hl : S.length ≤ 5000) (hm : 1 ≤ most) (hm2 : most ≤ 15) (hn : S.length ≤ 2 ^ most) (h1 : S.length ≠ 1)
    (hb : ∀ i, i < 15 → ∀ x, x ∈ rowI S i → x.1 ≤ 4000000000000000000) :
    Calls Tryz.prog 93 #[v, .int .i64 most] w fun e w' => ∃ g, e = .returned (.slice (some ⟨g, 0, none⟩) most most) ∧ w.heap.size ≤ g ∧ g < w'.heap.size ∧ (∀ k, k < most → w'.cell? ⟨g, k, none⟩ = some (.int .i64 ((sprd S (most - 1) (2 * S.length - 2) k : Nat) : Int))) ∧ Below w.heap.size w w' := by
  have SRC := hide src
  have HS := hide hS
  have HB := hide hb
  have PAR := hide hpar
  have hmk := fun w => make_rows w most (by omega)
  have UP := hide (show ∀ i, (rowI S i).length ≤ 10000 from fun i => by
    by_cases h0 : 0 < S.length
    · have := row_up h0 i
      omega
    · have e : S = [] := List.eq_nil_of_length_eq_zero (by omega)
      subst e
      have : ∀ i, (rowI [] i).length = 0 := fun i => by
        induction i with
        | zero => rfl
        | succ i ih => rw [row_len, joi_len, ih]; rfl
      rw [this i]
      omega)
  obtain ⟨pa, pc, rfl, _⟩ := its_len src
  clear src hS hb hpar
  go_enter Tryz.func93, Tryz.ntmps93
  go_wp2
  go_loopw [6, 17] (fun j i wr => ∃ (k : Nat) (vs : Nat → Value), k ≤ most ∧ i = .int .i64 k ∧ Rws w wr most k S j vs) (fun _ i _ => most - (intOf i).toNat)
  case atStart =>
    exact ⟨0, fun _ => .slice none 0 0, Nat.zero_le _, rfl, ⟨Box.made w 156 _, fun _ => ⟨_, _, _, rfl⟩, fun i hi => absurd hi (Nat.not_lt_zero _), Its.nil _, (Below.refl _ w).alloc (Nat.le_refl _) _⟩⟩
  case round =>
    obtain ⟨k, vs, hk, rfl, rws⟩ := hrel
    have RW := hide rws
    by_cases hlt : k < most
    · have hlt' : (k : Int) < (most : Int) := by omega
      have hj := rws.joined
      have sv := (unhide SRC).keep rws.bel
      have hrl := unhide UP k
      have hjl : S.length + (joi S k).length ≤ 10000 := by rw [← row_len]; exact hrl
      have CM := hide (mrg23 _ _ _ _ wr sv hj (by omega))
      clear rws hj sv
      go_wp2_with fail
      refine (unhide CM).mono ?_
      rintro e w1 ⟨r, rfl, ir, b1⟩
      have ir' : Its w1 r (rowI S k) := by rw [rowI_eq]; exact ir
      have R1 := (unhide RW).keep b1
      obtain ⟨q1, q2, q3, q4⟩ := R1.put hlt ir' (its_slice ir')
      have c0 := (R1.box.cell k).trans (sRow_at _ _ k hlt)
      have f0 := R1.box.free k
      obtain ⟨ra, rx, ry, rfl⟩ := its_slice ir'
      have c1 := (q1.cell k).trans (sRow_at _ _ k hlt)
      simp only [if_true] at c1
      have CP := hide (unhide PAR _ _ _ (its_set (u := .slice ra rx ry) ir' (by rw [R1.box.cell, sRow_at _ _ k hlt]; exact congrArg some ((R1.sl k).choose_spec.choose_spec.choose_spec))) (by omega) (fun x hx => ⟨row_pos (unhide HS) k x hx, unhide HB k (by omega) x hx⟩))
      have NX := hide (show ∀ w3 j3, Its w3 j3 (prs (rowI S k)) → Below (w1.setCell ⟨w.heap.size, k, none⟩ (.slice ra rx ry)).heap.size (w1.setCell ⟨w.heap.size, k, none⟩ (.slice ra rx ry)) w3 → Rws w w3 most (k + 1) S j3 (fun i => if i = k then .slice ra rx ry else vs i) from fun w3 j3 i3 b3 =>
        ⟨q1.below b3 q1.lt, q3, fun i hi => (q2 i hi).keep b3, i3, q4.trans (b3.mono q4.size)⟩)
      clear ir b1 ir' R1 q1 q2 q3 q4 CM RW
      obtain ⟨z, hz⟩ : ∃ z, vs k = z := ⟨_, rfl⟩
      rw [hz] at c0
      clear hz
      go_wp2_with fail
      refine (unhide CP).mono ?_
      rintro e w3 ⟨r3, rfl, i3, b3⟩
      have N3 := hide (unhide NX w3 r3 i3 b3)
      clear i3 b3 CP NX
      go_wp2
      go_roundw
      case rel => exact ⟨k + 1, _, by omega, by go_num, unhide N3⟩
      case measure => simp [intOf]; omega
    · obtain rfl : k = most := by omega
      have hnl : ¬ (k : Int) < (k : Int) := by omega
      have hmk2 := fun w => make_ints w k (by omega)
      clear rws hmk hlt
      generalize hw2 : wr = w2 at *
      clear hw2
      have T0 := hide (show Tak w2 (w2.alloc (.cells (sRow (fun _ => .int .i64 0) k) 3)) k (fun _ => 0) from ⟨Box.made w2 3 _, (Below.refl _ w2).alloc (Nat.le_refl _) _⟩)
      obtain ⟨K, hK⟩ : ∃ K, K = 2 * S.length - 2 := ⟨_, rfl⟩
      have HK := hide hK
      by_cases h0 : S.length = 0
      · have hKz : K = 0 := by omega
        have HKZ := hide hKz
        have hK2 : K ≤ 20000 := by omega
        clear hK hKz
        go_wp2
        go_loopw [9, 10] (fun x y wr => ∃ (p W : Nat) (T : Nat → Nat), p ≤ k ∧ x = .int .i64 W ∧ y = .int .i64 ((p : Int) - 1) ∧ W ≤ 20000 ∧ (0 < p → W ≤ (rowI S (p - 1)).length ∧ ∀ r, r < p → sprd S (k - 1) K r = sprd S (p - 1) W r) ∧ Tak w2 wr k T ∧ (∀ r, p ≤ r → r < k → T r = sprd S (k - 1) K r) ∧ (∀ r, r < p → T r = 0)) (fun _ y _ => (intOf y + 1).toNat)
        case atStart =>
          exact ⟨k, K, fun _ => 0, Nat.le_refl _, by rw [unhide HKZ]; rfl, by go_num, by omega, fun _ => ⟨by rw [unhide HK]; exact row_enough S (k - 1) (by rw [show k - 1 + 1 = k by omega]; exact hn), fun r _ => rfl⟩, unhide T0, fun r h1 h2 => by omega, fun _ _ => rfl⟩
        case round =>
          obtain ⟨p, W, T, hp, rfl, rfl, hW, hw1, tak, t1, t2⟩ := hrel
          have TAK := hide tak
          have H1 := hide hw1
          have T1 := hide t1
          have T2 := hide t2
          clear tak hw1 t1 t2
          by_cases hp0 : 0 < p
          · obtain ⟨q, rfl⟩ : ∃ q, p = q + 1 := ⟨p - 1, by omega⟩
            have hq0 : (0 : Int) ≤ (q : Int) := by omega
            have hq1 : (q : Int) < (k : Int) := by omega
            obtain ⟨hWl, hWs⟩ := unhide H1 (by omega)
            rw [show q + 1 - 1 = q by omega] at hWl hWs
            have WL := hide hWl
            have WS := hide hWs
            have iq := (unhide RW).its q (by omega)
            obtain ⟨ra, rc, er, hrc⟩ := its_len iq
            have cq : wr.cell? ⟨w.heap.size, q, none⟩ = some (.slice ra (rowI S q).length rc) := by
              rw [(unhide TAK).bel.cell (p := ⟨w.heap.size, q, none⟩) (unhide RW).box.lt, (unhide RW).box.cell, sRow_at _ _ q (by omega), er]
            have IQ := hide (show Its w2 (.slice ra (rowI S q).length rc) (rowI S q) from er ▸ iq)
            have hWc : (W : Int) ≤ (rc : Int) := by omega
            clear iq er hWl hWs
            go_wp2
            go_loopw [52] (fun x wr => ∃ c : Nat, c ≤ W ∧ x = .int .i64 c ∧ Tak w2 wr k (fun r => if r = q then cntS (rowI S q) c else T r)) (fun x _ => W - (intOf x).toNat)
            case atStart => exact ⟨0, Nat.zero_le _, rfl, (unhide TAK).congr (fun r hr => by by_cases e : r = q <;> simp [e, cntS, unhide T2 q (by omega)])⟩
            case round =>
              clear cq
              obtain ⟨c, hc, rfl, tak⟩ := hrel
              have TK := hide tak
              have hcl := cntS_le (rowI S q) c
              have ct := (tak.box.cell q).trans (sRow_at _ _ q (by omega))
              simp only [if_true] at ct
              have ft := tak.box.free q
              have hlt2 := tak.box.lt
              by_cases hcW : c < W
              · have hcW' : (c : Int) < (W : Int) := by omega
                have hcl2 : c < (rowI S q).length := by have := unhide WL; omega
                obtain ⟨b, off, cap, e, _, hcell⟩ : ∃ b off cap, (Value.slice ra (rowI S q).length rc) = .slice (some ⟨b, off, none⟩) (rowI S q).length cap ∧ (rowI S q).length ≤ cap ∧ ∀ i, i < (rowI S q).length → w2.cell? ⟨b, off + i * 2, none⟩ = some (.int .i64 (at_ (rowI S q) i).1) ∧ w2.cell? ⟨b, off + (i * 2 + 1), none⟩ = some (.bool (at_ (rowI S q) i).2) := by
                  rcases unhide IQ with ⟨_, e⟩ | h
                  · rw [e] at hcl2; simp at hcl2
                  · exact h
                cases e
                obtain ⟨d1, d2⟩ := hcell c hcl2
                have x1 := (tak.bel.cell (p := ⟨b, off + c * 2, none⟩) (lt_of_cell d1)).trans d1
                have x2 : wr.cell? ⟨b, off + c * 2 + 1, none⟩ = some (.bool (at_ (rowI S q) c).2) := (tak.bel.cell (p := ⟨b, off + (c * 2 + 1), none⟩) (lt_of_cell d2)).trans d2
                have hbl := lt_of_cell x1
                have SU := hide (cntS_succ (rowI S q) c hcl2)
                clear hcell d1 d2 tak
                obtain ⟨m1, hm1⟩ : ∃ z, (at_ (rowI S q) c).1 = z := ⟨_, rfl⟩
                rw [hm1] at x1
                clear hm1
                have hne2 : w2.heap.size ≠ wr.heap.size := by omega
                cases hb : (at_ (rowI S q) c).2
                · rw [hb] at x2
                  have S2 := hide (show cntS (rowI S q) (c + 1) = cntS (rowI S q) c from by rw [unhide SU, hb]; simp)
                  clear hb
                  generalize cntS (rowI S q) c = cc at *
                  go_wp2
                  go_roundw
                  case rel => exact ⟨c + 1, by omega, by go_num, by rw [unhide S2]; exact (unhide TK).alloc _⟩
                  case measure => simp [intOf]; omega
                · rw [hb] at x2
                  have S2 := hide (show cntS (rowI S q) (c + 1) = cntS (rowI S q) c + 1 from by rw [unhide SU, hb]; simp)
                  clear hb
                  generalize hcc : cntS (rowI S q) c = cc at *
                  clear hcc
                  go_wp2
                  go_roundw
                  case rel =>
                    refine ⟨c + 1, by omega, by go_num, ?_⟩
                    rw [unhide S2]
                    have := (((unhide TK).put q (cc + 1)).alloc (.cells #[.int .i64 m1, .bool true] 163)).congr (T' := fun r => if r = q then cc + 1 else T r) (fun r _ => by by_cases e : r = q <;> simp [e])
                    rw [show ((cc + 1 : Nat) : Int) = (cc : Int) + 1 by omega] at this
                    exact this
                  case measure => simp [intOf]; omega
              · obtain rfl : c = W := by omega
                have hnl2 : ¬ (c : Int) < (c : Int) := by omega
                have eS : Hid (cntS (rowI S q) c = tk S q c) := rfl
                have NXT := hide (show 0 < q → 2 * (c - tk S q c) ≤ (rowI S (q - 1)).length ∧ ∀ r, r < q → sprd S (k - 1) K r = sprd S (q - 1) (2 * (c - tk S q c)) r from fun h => by
                  obtain ⟨u, rfl⟩ : ∃ u, q = u + 1 := ⟨q - 1, by omega⟩
                  rw [show u + 1 - 1 = u by omega]
                  refine ⟨next_ok (unhide HS) u c (unhide WL), fun r hr => ?_⟩
                  rw [unhide WS r (by omega), sprd_low _ _ _ _ (by omega)])
                have TOP := hide (show sprd S (k - 1) K q = tk S q c from by rw [unhide WS q (by omega), sprd_top])
                clear tak
                rw [unhide eS] at ct hcl
                have TK2 := hide (show Tak w2 wr k (fun r => if r = q then tk S q c else T r) from unhide TK)
                clear TK
                have e6 : (c : Int) - (tk S q c : Nat) = ((c - tk S q c : Nat) : Int) := by omega
                have hc10 : c ≤ 10000 := by have := unhide WL; have := unhide UP q; omega
                generalize htt : tk S q c = tt at *
                clear htt
                go_wp2
                go_roundw
                case rel =>
                  refine ⟨q, 2 * (c - tt), _, by omega, by go_num, by go_num, by omega, unhide NXT, unhide TK2, fun r h3 h4 => ?_, fun r h3 => ?_⟩
                  · by_cases e : r = q
                    · rw [if_pos e, e, unhide TOP]
                    · rw [if_neg e]
                      exact unhide T1 r (by omega) h4
                  · rw [if_neg (by omega)]
                    exact unhide T2 r (by omega)
                case measure => simp [intOf]
          · obtain rfl : p = 0 := by omega
            have hneg : ¬ (0 : Int) ≤ ((0 : Nat) : Int) - 1 := by omega
            go_wp2
            go_ret
            have tk0 := unhide TAK
            refine ⟨_, rfl, (unhide RW).bel.size, tk0.box.lt, fun i hi => ?_, (unhide RW).bel.trans (tk0.bel.mono (unhide RW).bel.size)⟩
            rw [tk0.box.cell, sRow_at _ _ _ hi, unhide T1 i (Nat.zero_le _) hi, unhide HKZ]
      · have eK : (2 : Int) * (S.length : Int) - 2 = (K : Int) := by omega
        have hK0 : ¬ (K : Int) < 0 := by omega
        have hK1 : 0 < K := by omega
        have hK2 : K ≤ 20000 := by omega
        clear hK
        go_wp2
        go_loopw [9, 10] (fun x y wr => ∃ (p W : Nat) (T : Nat → Nat), p ≤ k ∧ x = .int .i64 W ∧ y = .int .i64 ((p : Int) - 1) ∧ W ≤ 20000 ∧ (0 < p → W ≤ (rowI S (p - 1)).length ∧ ∀ r, r < p → sprd S (k - 1) K r = sprd S (p - 1) W r) ∧ Tak w2 wr k T ∧ (∀ r, p ≤ r → r < k → T r = sprd S (k - 1) K r) ∧ (∀ r, r < p → T r = 0)) (fun _ y _ => (intOf y + 1).toNat)
        case atStart =>
          exact ⟨k, K, fun _ => 0, Nat.le_refl _, by go_num, by go_num, by omega, fun _ => ⟨by rw [unhide HK]; exact row_enough S (k - 1) (by rw [show k - 1 + 1 = k by omega]; exact hn), fun r _ => rfl⟩, unhide T0, fun r h1 h2 => by omega, fun _ _ => rfl⟩
        case round =>
          obtain ⟨p, W, T, hp, rfl, rfl, hW, hw1, tak, t1, t2⟩ := hrel
          have TAK := hide tak
          have H1 := hide hw1
          have T1 := hide t1
          have T2 := hide t2
          clear tak hw1 t1 t2
          by_cases hp0 : 0 < p
          · obtain ⟨q, rfl⟩ : ∃ q, p = q + 1 := ⟨p - 1, by omega⟩
            have hq0 : (0 : Int) ≤ (q : Int) := by omega
            have hq1 : (q : Int) < (k : Int) := by omega
            obtain ⟨hWl, hWs⟩ := unhide H1 (by omega)
            rw [show q + 1 - 1 = q by omega] at hWl hWs
            have WL := hide hWl
            have WS := hide hWs
            have iq := (unhide RW).its q (by omega)
            obtain ⟨ra, rc, er, hrc⟩ := its_len iq
            have cq : wr.cell? ⟨w.heap.size, q, none⟩ = some (.slice ra (rowI S q).length rc) := by
              rw [(unhide TAK).bel.cell (p := ⟨w.heap.size, q, none⟩) (unhide RW).box.lt, (unhide RW).box.cell, sRow_at _ _ q (by omega), er]
            have IQ := hide (show Its w2 (.slice ra (rowI S q).length rc) (rowI S q) from er ▸ iq)
            have hWc : (W : Int) ≤ (rc : Int) := by omega
            clear iq er hWl hWs
            go_wp2
            go_loopw [52] (fun x wr => ∃ c : Nat, c ≤ W ∧ x = .int .i64 c ∧ Tak w2 wr k (fun r => if r = q then cntS (rowI S q) c else T r)) (fun x _ => W - (intOf x).toNat)
            case atStart => exact ⟨0, Nat.zero_le _, rfl, (unhide TAK).congr (fun r hr => by by_cases e : r = q <;> simp [e, cntS, unhide T2 q (by omega)])⟩
            case round =>
              clear cq
              obtain ⟨c, hc, rfl, tak⟩ := hrel
              have TK := hide tak
              have hcl := cntS_le (rowI S q) c
              have ct := (tak.box.cell q).trans (sRow_at _ _ q (by omega))
              simp only [if_true] at ct
              have ft := tak.box.free q
              have hlt2 := tak.box.lt
              by_cases hcW : c < W
              · have hcW' : (c : Int) < (W : Int) := by omega
                have hcl2 : c < (rowI S q).length := by have := unhide WL; omega
                obtain ⟨b, off, cap, e, _, hcell⟩ : ∃ b off cap, (Value.slice ra (rowI S q).length rc) = .slice (some ⟨b, off, none⟩) (rowI S q).length cap ∧ (rowI S q).length ≤ cap ∧ ∀ i, i < (rowI S q).length → w2.cell? ⟨b, off + i * 2, none⟩ = some (.int .i64 (at_ (rowI S q) i).1) ∧ w2.cell? ⟨b, off + (i * 2 + 1), none⟩ = some (.bool (at_ (rowI S q) i).2) := by
                  rcases unhide IQ with ⟨_, e⟩ | h
                  · rw [e] at hcl2; simp at hcl2
                  · exact h
                cases e
                obtain ⟨d1, d2⟩ := hcell c hcl2
                have x1 := (tak.bel.cell (p := ⟨b, off + c * 2, none⟩) (lt_of_cell d1)).trans d1
                have x2 : wr.cell? ⟨b, off + c * 2 + 1, none⟩ = some (.bool (at_ (rowI S q) c).2) := (tak.bel.cell (p := ⟨b, off + (c * 2 + 1), none⟩) (lt_of_cell d2)).trans d2
                have hbl := lt_of_cell x1
                have SU := hide (cntS_succ (rowI S q) c hcl2)
                clear hcell d1 d2 tak
                obtain ⟨m1, hm1⟩ : ∃ z, (at_ (rowI S q) c).1 = z := ⟨_, rfl⟩
                rw [hm1] at x1
                clear hm1
                have hne2 : w2.heap.size ≠ wr.heap.size := by omega
                cases hb : (at_ (rowI S q) c).2
                · rw [hb] at x2
                  have S2 := hide (show cntS (rowI S q) (c + 1) = cntS (rowI S q) c from by rw [unhide SU, hb]; simp)
                  clear hb
                  generalize cntS (rowI S q) c = cc at *
                  go_wp2
                  go_roundw
                  case rel => exact ⟨c + 1, by omega, by go_num, by rw [unhide S2]; exact (unhide TK).alloc _⟩
                  case measure => simp [intOf]; omega
                · rw [hb] at x2
                  have S2 := hide (show cntS (rowI S q) (c + 1) = cntS (rowI S q) c + 1 from by rw [unhide SU, hb]; simp)
                  clear hb
                  generalize hcc : cntS (rowI S q) c = cc at *
                  clear hcc
                  go_wp2
                  go_roundw
                  case rel =>
                    refine ⟨c + 1, by omega, by go_num, ?_⟩
                    rw [unhide S2]
                    have := (((unhide TK).put q (cc + 1)).alloc (.cells #[.int .i64 m1, .bool true] 163)).congr (T' := fun r => if r = q then cc + 1 else T r) (fun r _ => by by_cases e : r = q <;> simp [e])
                    rw [show ((cc + 1 : Nat) : Int) = (cc : Int) + 1 by omega] at this
                    exact this
                  case measure => simp [intOf]; omega
              · obtain rfl : c = W := by omega
                have hnl2 : ¬ (c : Int) < (c : Int) := by omega
                have eS : Hid (cntS (rowI S q) c = tk S q c) := rfl
                have NXT := hide (show 0 < q → 2 * (c - tk S q c) ≤ (rowI S (q - 1)).length ∧ ∀ r, r < q → sprd S (k - 1) K r = sprd S (q - 1) (2 * (c - tk S q c)) r from fun h => by
                  obtain ⟨u, rfl⟩ : ∃ u, q = u + 1 := ⟨q - 1, by omega⟩
                  rw [show u + 1 - 1 = u by omega]
                  refine ⟨next_ok (unhide HS) u c (unhide WL), fun r hr => ?_⟩
                  rw [unhide WS r (by omega), sprd_low _ _ _ _ (by omega)])
                have TOP := hide (show sprd S (k - 1) K q = tk S q c from by rw [unhide WS q (by omega), sprd_top])
                clear tak
                rw [unhide eS] at ct hcl
                have TK2 := hide (show Tak w2 wr k (fun r => if r = q then tk S q c else T r) from unhide TK)
                clear TK
                have e6 : (c : Int) - (tk S q c : Nat) = ((c - tk S q c : Nat) : Int) := by omega
                have hc10 : c ≤ 10000 := by have := unhide WL; have := unhide UP q; omega
                generalize htt : tk S q c = tt at *
                clear htt
                go_wp2
                go_roundw
                case rel =>
                  refine ⟨q, 2 * (c - tt), _, by omega, by go_num, by go_num, by omega, unhide NXT, unhide TK2, fun r h3 h4 => ?_, fun r h3 => ?_⟩
                  · by_cases e : r = q
                    · rw [if_pos e, e, unhide TOP]
                    · rw [if_neg e]
                      exact unhide T1 r (by omega) h4
                  · rw [if_neg (by omega)]
                    exact unhide T2 r (by omega)
                case measure => simp [intOf]
          · obtain rfl : p = 0 := by omega
            have hneg : ¬ (0 : Int) ≤ ((0 : Nat) : Int) - 1 := by omega
            go_wp2
            go_ret
            have tk0 := unhide TAK
            refine ⟨_, rfl, (unhide RW).bel.size, tk0.box.lt, fun i hi => ?_, (unhide RW).bel.trans (tk0.bel.mono (unhide RW).bel.size)⟩
            rw [tk0.box.cell, sRow_at _ _ _ hi, unhide T1 i (Nat.zero_le _) hi, unhide HK]
end Go.Proofs.YtgjpcjnhggcfdaaGreatDoor.ZSha

namespace Go.Proofs.YtgjpcjnhggcfdaaGreatDoor.ZSrt
open Go.ChangeShapes Go.WideShapes Go.ChangeAt Go.RowKit Go.Proofs.YtgjpcjnhggcfdaaGreatDoor.Core Go.Proofs.YtgjpcjnhggcfdaaGreatDoor.Gnd

/-- n numbers in a block, none frozen. -/
def Row (w : World) (g n : Nat) (f : Nat → Nat) : Prop := ∀ i, i < n → w.cell? ⟨g, i, none⟩ = some (.int .i64 (f i)) ∧ w.frozen? ⟨g, i, none⟩ = false
theorem Row.congr {w : World} {g n : Nat} {f f' : Nat → Nat} (h : Row w g n f) (e : ∀ i, i < n → f i = f' i) : Row w g n f' := fun i hi => by
  rw [← e i hi]
  exact h i hi
theorem Row.set {w : World} {g n : Nat} {f : Nat → Nat} (h : Row w g n f) (k z : Nat) : Row (w.setCell ⟨g, k, none⟩ (.int .i64 z)) g n (fun j => if j = k then z else f j) := fun i hi => by
  refine ⟨?_, by rw [World.frozen?_setCell]; exact (h i hi).2⟩
  by_cases e : i = k
  · subst e
    simp only [if_true]
    exact World.cell?_setCell_same _ _ _ (h i hi).1
  · simp only [if_neg e]
    rw [World.cell?_setCell_other _ _ _ _ (fun h => e (by cases h; rfl))]
    exact (h i hi).1
def sw (i j k : Nat) : Nat := if k = i then j else if k = j then i else k
theorem Row.swap {w : World} {g n : Nat} {f : Nat → Nat} (h : Row w g n f) (i j : Nat) : Row ((w.setCell ⟨g, i, none⟩ (.int .i64 (f j))).setCell ⟨g, j, none⟩ (.int .i64 (f i))) g n (fun k => f (sw i j k)) := by
  refine ((h.set i (f j)).set j (f i)).congr fun k _ => ?_
  unfold sw
  by_cases e1 : k = j
  · subst e1
    by_cases e2 : k = i
    · subst e2; simp
    · simp [e2]
  · by_cases e2 : k = i
    · subst e2; simp [e1]
    · simp [e1, e2]
theorem Row.drewN {w : World} {g n : Nat} {f : Nat → Nat} (h : Row w g n f) (q : Nat) : Row (w.drewN q) g n f := h

/-- The places from a to b are put in another order. -/
def Re (a b : Nat) (f f' : Nat → Nat) : Prop :=
  ∃ p q : Nat → Nat, (∀ k, p (q k) = k ∧ q (p k) = k) ∧ (∀ k, (k < a ∨ b ≤ k) → p k = k ∧ q k = k) ∧ (∀ k, a ≤ k → k < b → a ≤ p k ∧ p k < b ∧ a ≤ q k ∧ q k < b) ∧ ∀ k, f' k = f (p k)
theorem Re.refl (a b : Nat) (f : Nat → Nat) : Re a b f f := ⟨id, id, fun _ => ⟨rfl, rfl⟩, fun _ _ => ⟨rfl, rfl⟩, fun _ h1 h2 => ⟨h1, h2, h1, h2⟩, fun _ => rfl⟩
theorem Re.trans {a b : Nat} {f f1 f2 : Nat → Nat} (h : Re a b f f1) (k : Re a b f1 f2) : Re a b f f2 := by
  obtain ⟨p, q, h1, h2, h3, h4⟩ := h
  obtain ⟨p', q', k1, k2, k3, k4⟩ := k
  refine ⟨fun x => p (p' x), fun x => q' (q x), fun x => ⟨?_, ?_⟩, fun x hx => ⟨?_, ?_⟩, fun x hx hy => ?_, fun x => ?_⟩
  · show p (p' (q' (q x))) = x
    rw [(k1 _).1, (h1 _).1]
  · show q' (q (p (p' x))) = x
    rw [(h1 _).2, (k1 _).2]
  · show p (p' x) = x
    rw [(k2 x hx).1, (h2 x hx).1]
  · show q' (q x) = x
    rw [(h2 x hx).2, (k2 x hx).2]
  · obtain ⟨u1, u2, _, _⟩ := k3 x hx hy
    obtain ⟨v1, v2, _, _⟩ := h3 _ u1 u2
    obtain ⟨_, _, s1, s2⟩ := h3 x hx hy
    obtain ⟨_, _, t1, t2⟩ := k3 _ s1 s2
    exact ⟨v1, v2, t1, t2⟩
  · rw [k4, h4]
theorem Re.wide {a b a' b' : Nat} {f f' : Nat → Nat} (h : Re a b f f') (ha : a' ≤ a) (hb : b ≤ b') : Re a' b' f f' := by
  obtain ⟨p, q, h1, h2, h3, h4⟩ := h
  refine ⟨p, q, h1, fun k hk => h2 k (by omega), fun k hk hl => ?_, h4⟩
  by_cases e : a ≤ k ∧ k < b
  · have := h3 k e.1 e.2
    omega
  · have := h2 k (by omega)
    omega
theorem Re.congr {a b : Nat} {f f' f2 : Nat → Nat} (h : Re a b f f') (e : ∀ k, f2 k = f' k) : Re a b f f2 := by
  obtain ⟨p, q, h1, h2, h3, h4⟩ := h
  exact ⟨p, q, h1, h2, h3, fun k => by rw [e, h4]⟩
theorem sw_sw (i j k : Nat) : sw i j (sw i j k) = k := by
  unfold sw
  by_cases e1 : k = i
  · subst e1
    by_cases e2 : j = k
    · simp [e2]
    · simp [e2]
  · by_cases e2 : k = j
    · subst e2; simp [e1]
    · simp [e1, e2]
theorem sw_in (i j k a b : Nat) (h1 : a ≤ i ∧ i < b) (h2 : a ≤ j ∧ j < b) (hk : a ≤ k ∧ k < b) : a ≤ sw i j k ∧ sw i j k < b := by
  unfold sw
  split
  · exact h2
  · split
    · exact h1
    · exact hk
theorem Re.swap (a b i j : Nat) (f : Nat → Nat) (h1 : a ≤ i ∧ i < b) (h2 : a ≤ j ∧ j < b) : Re a b f (fun k => f (sw i j k)) :=
  ⟨sw i j, sw i j, fun k => ⟨sw_sw i j k, sw_sw i j k⟩, fun k hk => by
      have : sw i j k = k := by
        unfold sw
        rw [if_neg (by omega), if_neg (by omega)]
      exact ⟨this, this⟩,
    fun k h3 h4 => by
      have := sw_in i j k a b h1 h2 ⟨h3, h4⟩
      exact ⟨this.1, this.2, this.1, this.2⟩, fun _ => rfl⟩
theorem Re.out {a b : Nat} {f f' : Nat → Nat} (h : Re a b f f') (k : Nat) (hk : k < a ∨ b ≤ k) : f' k = f k := by
  obtain ⟨p, q, _, h2, _, h4⟩ := h
  rw [h4, (h2 k hk).1]
theorem Re.into {a b : Nat} {f f' : Nat → Nat} (h : Re a b f f') (k : Nat) (h1 : a ≤ k) (h2 : k < b) : ∃ j, a ≤ j ∧ j < b ∧ f' k = f j := by
  obtain ⟨p, q, _, _, h3, h4⟩ := h
  have := h3 k h1 h2
  exact ⟨p k, this.1, this.2.1, h4 k⟩
def Rg (f : Nat → Nat) (n len : Nat) : Prop := ∀ i, i < n → f i < len
theorem Re.rg {a b n len : Nat} {f f' : Nat → Nat} (h : Re a b f f') (hb : b ≤ n) (r : Rg f n len) : Rg f' n len := fun i hi => by
  by_cases e : a ≤ i ∧ i < b
  · obtain ⟨j, h1, h2, h3⟩ := h.into i e.1 e.2
    rw [h3]
    exact r j (by omega)
  · rw [h.out i (by omega)]
    exact r i hi
/-- What stands at the places from a to b rises. -/
def Up (c : Nat → Int) (f : Nat → Nat) (a b : Nat) : Prop := ∀ i j, a ≤ i → i < j → j < b → c (f i) ≤ c (f j)
/-- What is asked of a function that compares: it may draw, and turns nothing. -/
def Asks (K : Nat) (cb : Array Value) (w : World) (g len : Nat) (c : Nat → Int) : Prop :=
  (∀ x, x < len → 0 ≤ c x ∧ c x ≤ 4294967296) ∧
  ∀ W, Upd (fun k => k = g) w W → ∀ x y : Nat, x < len → y < len → Calls Tryz.prog K (#[.int .i64 x, .int .i64 y] ++ cb) W fun e W' => e = .returned (.int .i64 (c x - c y)) ∧ ∃ q, W' = W.drewN q
theorem Asks.keep {K : Nat} {cb : Array Value} {w w' : World} {g len : Nat} {c : Nat → Int} (h : Asks K cb w g len c) (u : Upd (fun k => k = g) w w') : Asks K cb w' g len c :=
  ⟨h.1, fun W uW => h.2 W (u.trans uW)⟩
/-- Two rows exchanged. -/
def sr (a b m k : Nat) : Nat := if a ≤ k ∧ k < a + m then k - a + b else if b ≤ k ∧ k < b + m then k - b + a else k
theorem sr_step (a b m k : Nat) (h : a + m < b) : sr a b (m + 1) k = sr a b m (sw (a + m) (b + m) k) := by
  by_cases e1 : k = a + m
  · have hs : sw (a + m) (b + m) k = b + m := by unfold sw; rw [if_pos e1]
    rw [hs]
    unfold sr
    rw [if_pos (by omega), if_neg (by omega), if_neg (by omega)]
    omega
  · by_cases e2 : k = b + m
    · have hs : sw (a + m) (b + m) k = a + m := by unfold sw; rw [if_neg e1, if_pos e2]
      rw [hs]
      unfold sr
      rw [if_neg (by omega), if_pos (by omega), if_neg (by omega), if_neg (by omega)]
      omega
    · have hs : sw (a + m) (b + m) k = k := by unfold sw; rw [if_neg e1, if_neg e2]
      rw [hs]
      unfold sr
      by_cases h1 : a ≤ k ∧ k < a + m
      · rw [if_pos (by omega), if_pos h1]
      · rw [if_neg (by omega), if_neg h1]
        by_cases h2 : b ≤ k ∧ k < b + m
        · rw [if_pos (by omega), if_pos h2]
        · rw [if_neg (by omega), if_neg h2]
theorem sr_zero (a b k : Nat) : sr a b 0 k = k := by
  unfold sr
  rw [if_neg (by omega), if_neg (by omega)]
/-- A row turned: what stood from m on comes first. -/
def ro (a m b k : Nat) : Nat := if a ≤ k ∧ k < b then (if k < a + (b - m) then k + (m - a) else k - (b - m)) else k
end Go.Proofs.YtgjpcjnhggcfdaaGreatDoor.ZSrt

namespace Go.Proofs.YtgjpcjnhggcfdaaGreatDoor.ZIns
open Go.ChangeShapes Go.WideShapes Go.ChangeAt Go.RowKit Go.Proofs.YtgjpcjnhggcfdaaGreatDoor.Core Go.Proofs.YtgjpcjnhggcfdaaGreatDoor.Gnd Go.Proofs.YtgjpcjnhggcfdaaGreatDoor.ZSrt

/-- All but the one at j rises, and those behind j are not less than it. -/
structure Hole (c : Nat → Int) (f : Nat → Nat) (a i j : Nat) : Prop where
  rest : ∀ x y, a ≤ x → x < y → y ≤ i → x ≠ j → y ≠ j → c (f x) ≤ c (f y)
  high : ∀ y, j < y → y ≤ i → c (f j) ≤ c (f y)
theorem Hole.start {c : Nat → Int} {f : Nat → Nat} {a i : Nat} (h : Up c f a i) : Hole c f a i i :=
  ⟨fun x y h1 h2 h3 _ h5 => h x y h1 h2 (by omega), fun y h1 h2 => by omega⟩
theorem Hole.done {c : Nat → Int} {f : Nat → Nat} {a i j : Nat} (h : Hole c f a i j) (hj : j = a ∨ c (f (j - 1)) ≤ c (f j)) (hji : j ≤ i) : Up c f a (i + 1) := fun x y h1 h2 h3 => by
  by_cases e1 : y = j
  · subst e1
    rcases hj with rfl | hj
    · omega
    · by_cases e2 : x = y - 1
      · subst e2; exact hj
      · have := h.rest x (y - 1) h1 (by omega) (by omega) (by omega) (by omega)
        omega
  · by_cases e2 : x = j
    · subst e2
      exact h.high y h2 (by omega)
    · exact h.rest x y h1 h2 (by omega) e2 e1
theorem sw_l (i j : Nat) : sw i j i = j := by unfold sw; rw [if_pos rfl]
theorem sw_r (i j : Nat) : sw i j j = i := by
  unfold sw
  by_cases e : j = i
  · rw [if_pos e, e]
  · rw [if_neg e, if_pos rfl]
theorem sw_o {i j k : Nat} (h1 : k ≠ i) (h2 : k ≠ j) : sw i j k = k := by unfold sw; rw [if_neg h1, if_neg h2]
theorem Hole.step {c : Nat → Int} {f : Nat → Nat} {a i j : Nat} (h : Hole c f a i (j + 1)) (ha : a ≤ j) (hji : j + 1 ≤ i) (hl : c (f (j + 1)) ≤ c (f j)) : Hole c (fun k => f (sw (j + 1) j k)) a i j := by
  refine ⟨fun x y h1 h2 h3 h4 h5 => ?_, fun y h1 h2 => ?_⟩
  · show c (f (sw (j + 1) j x)) ≤ c (f (sw (j + 1) j y))
    by_cases e1 : x = j + 1
    · subst e1
      rw [sw_l, sw_o (by omega) (by omega)]
      exact h.rest j y ha (by omega) h3 (by omega) (by omega)
    · rw [sw_o e1 h4]
      by_cases e2 : y = j + 1
      · subst e2
        rw [sw_l]
        exact h.rest x j h1 (by omega) (by omega) (by omega) (by omega)
      · rw [sw_o e2 h5]
        exact h.rest x y h1 h2 h3 e1 e2
  · show c (f (sw (j + 1) j j)) ≤ c (f (sw (j + 1) j y))
    rw [sw_r]
    by_cases e2 : y = j + 1
    · subst e2
      rw [sw_l]
      exact hl
    · rw [sw_o e2 (by omega)]
      exact h.high y (by omega) h2
set_option maxHeartbeats 2000000 in
theorem ins29 (K : Nat) (eg : ∀ args w, (callFunc K args).run Tryz.prog w = .ok (.enter K args) w) (cb : Array Value) (g n cap a b len : Nat) (f : Nat → Nat) (c : Nat → Int) (w : World) (hr : Row w g n f) (rg : Rg f n len) (ask : Asks K cb w g len c)
    (h1 : a ≤ b) (h2 : b ≤ n) (hn : n ≤ 100000) :
    Calls Tryz.prog 102 #[.slice (some ⟨g, 0, none⟩) n cap, .int .i64 a, .int .i64 b, .func (.func K) #[] cb] w fun e w' => e = .returned (.tuple #[]) ∧ ∃ f', Re a b f f' ∧ Up c f' a b ∧ Row w' g n f' ∧ Upd (fun k => k = g) w w' := by
  have RR := hide hr
  have RG := hide rg
  have ASK := hide ask
  clear hr rg ask
  go_enter Tryz.func102, Tryz.ntmps102
  go_wp2
  go_loopw [8] (fun x wr => ∃ (i : Nat) (f1 : Nat → Nat), x = .int .i64 i ∧ a < i ∧ i ≤ b + 1 ∧ Re a b f f1 ∧ Up c f1 a i ∧ Row wr g n f1 ∧ Upd (fun k => k = g) w wr) (fun x _ => b + 1 - (intOf x).toNat)
  case atStart => exact ⟨a + 1, f, by go_num, by omega, by omega, Re.refl _ _ _, fun x y _ _ _ => by omega, unhide RR, Upd.refl _ w⟩
  case round =>
    obtain ⟨i, f1, rfl, ha, hib, re, up, row, u⟩ := hrel
    have RE := hide re
    have UP := hide up
    have ROW := hide row
    have UU := hide u
    clear re up row u
    by_cases hlt : i < b
    · have hlt' : (i : Int) < (b : Int) := by omega
      go_wp2
      go_loopw [9] (fun x wi => ∃ (j : Nat) (f2 : Nat → Nat), x = .int .i64 j ∧ a ≤ j ∧ j ≤ i ∧ Re a b f f2 ∧ Hole c f2 a i j ∧ Row wi g n f2 ∧ Upd (fun k => k = g) w wi) (fun x _ => (intOf x).toNat)
      case atStart => exact ⟨i, f1, rfl, by omega, by omega, unhide RE, Hole.start (unhide UP), unhide ROW, unhide UU⟩
      case round =>
        clear RE UP ROW UU
        obtain ⟨j, f2, rfl, haj, hji, re, hole, row, u⟩ := hrel
        have RE := hide re
        have HO := hide hole
        have ROW := hide row
        have UU := hide u
        by_cases hja : a < j
        · obtain ⟨m, rfl⟩ : ∃ m, j = m + 1 := ⟨j - 1, by omega⟩
          obtain ⟨c1, f1'⟩ := row (m + 1) (by omega)
          obtain ⟨c2, f2'⟩ := row m (by omega)
          have g1 : f2 (m + 1) < len := re.rg h2 (unhide RG) _ (by omega)
          have g2 : f2 m < len := re.rg h2 (unhide RG) _ (by omega)
          have AK := hide (fun q => (unhide ASK).2 (wr.drewN q) (u.drewN q) _ _ g1 g2)
          have EX := hide (row.swap (m + 1) m)
          have v1 := (unhide ASK).1 _ g1
          have v2 := (unhide ASK).1 _ g2
          clear re hole row u
          have hja' : (a : Int) < (m : Int) + 1 := by omega
          have hx : (m : Int) + 1 < n := by omega
          have hy : (m : Int) < n := by omega
          have hne : m + 1 ≠ m := by omega
          by_cases hc : c (f2 (m + 1)) < c (f2 m)
          · have hc' : c (f2 (m + 1)) - c (f2 m) < 0 := by omega
            have ST := hide ((unhide HO).step (by omega) hji (by omega))
            have RS := hide ((unhide RE).trans (Re.swap a b (m + 1) m f2 (by omega) (by omega)))
            go_wp2
            go_quiet ((go_at_fn K; exact Calls.quiet_of (unhide AK _)))
            rename_i nq
            have c1q : (wr.drewN nq).cell? ⟨g, m + 1, none⟩ = some (.int .i64 (f2 (m + 1))) := c1
            have c2q : (wr.drewN nq).cell? ⟨g, m, none⟩ = some (.int .i64 (f2 m)) := c2
            have f1q : (wr.drewN nq).frozen? ⟨g, m + 1, none⟩ = false := f1'
            have f2q : (wr.drewN nq).frozen? ⟨g, m, none⟩ = false := f2'
            have EXq := hide (show Row (((wr.drewN nq).setCell ⟨g, m + 1, none⟩ (.int .i64 (f2 m))).setCell ⟨g, m, none⟩ (.int .i64 (f2 (m + 1)))) g n (fun k => f2 (sw (m + 1) m k)) from unhide EX)
            have UQ := hide ((unhide UU).drewN nq)
            clear c1 c2 f1' f2' EX UU
            generalize wr.drewN nq = wq at *
            go_wp2
            go_region
            go_wp2
            go_roundw
            case rel => exact ⟨m, _, by go_num, by omega, by omega, unhide RS, unhide ST, unhide EXq, (((unhide UQ).setCell (p := ⟨g, m + 1, none⟩) rfl _).setCell (p := ⟨g, m, none⟩) rfl _).drewN 1⟩
            case measure => simp [intOf]
          · have hc' : ¬ c (f2 (m + 1)) - c (f2 m) < 0 := by omega
            have DN := hide ((unhide HO).done (.inr (by rw [Nat.add_sub_cancel]; omega)) hji)
            go_wp2
            go_quiet ((go_at_fn K; exact Calls.quiet_of (unhide AK _)))
            rename_i nq
            have RQ := hide ((unhide ROW).drewN nq)
            have UQ := hide ((unhide UU).drewN nq)
            generalize wr.drewN nq = wq at *
            go_wp2
            go_roundw
            case rel => exact ⟨i + 1, f2, by go_num, by omega, by omega, unhide RE, unhide DN, unhide RQ, unhide UQ⟩
            case measure => simp [intOf]; omega
        · obtain rfl : j = a := by omega
          have hnl : ¬ (j : Int) < (j : Int) := by omega
          have DN := hide ((unhide HO).done (.inl rfl) hji)
          clear re hole row u
          go_wp2
          go_quiet ((fail))
          rename_i nq
          have RQ := hide ((unhide ROW).drewN nq)
          have UQ := hide ((unhide UU).drewN nq)
          generalize wr.drewN nq = wq at *
          go_wp2
          go_roundw
          case rel => exact ⟨i + 1, f2, by go_num, by omega, by omega, unhide RE, unhide DN, unhide RQ, unhide UQ⟩
          case measure => simp [intOf]; omega
    · have hnl : ¬ (i : Int) < (b : Int) := by omega
      go_wp2
      go_end0
      exact ⟨rfl, f1, unhide RE, fun x y h3 h4 h5 => unhide UP x y h3 h4 (by omega), unhide ROW, unhide UU⟩
end Go.Proofs.YtgjpcjnhggcfdaaGreatDoor.ZIns

namespace Go.Proofs.YtgjpcjnhggcfdaaGreatDoor.ZSyl
open Go.ChangeShapes Go.WideShapes Go.ChangeAt Go.RowKit Go.Proofs.YtgjpcjnhggcfdaaGreatDoor.Core Go.Proofs.YtgjpcjnhggcfdaaGreatDoor.Gnd Go.Proofs.YtgjpcjnhggcfdaaGreatDoor.ZSrt Go.Proofs.YtgjpcjnhggcfdaaGreatDoor.ZIns

/-- The one at a is brought to k. -/
def mv (a k x : Nat) : Nat := if a ≤ x ∧ x < k then x + 1 else if x = k then a else x
theorem mv_1 {a k x : Nat} (h1 : a ≤ x) (h2 : x < k) : mv a k x = x + 1 := by unfold mv; rw [if_pos ⟨h1, h2⟩]
theorem mv_2 (a k : Nat) : mv a k k = a := by unfold mv; rw [if_neg (by omega), if_pos rfl]
theorem mv_3 {a k x : Nat} (h : x < a ∨ k < x) (hk : a ≤ k) : mv a k x = x := by unfold mv; rw [if_neg (by omega), if_neg (by omega)]
theorem mv_start (a x : Nat) : mv a a x = x := by
  by_cases e : x = a
  · subst e; exact mv_2 x x
  · exact mv_3 (by omega) (Nat.le_refl _)
theorem mv_step (a k x : Nat) (h : a ≤ k) : mv a (k + 1) x = mv a k (sw k (k + 1) x) := by
  by_cases e1 : x = k
  · subst e1; rw [sw_l, mv_1 h (by omega), mv_3 (by omega) h]
  · by_cases e2 : x = k + 1
    · subst e2; rw [sw_r, mv_2, mv_2]
    · rw [sw_o e1 e2]
      by_cases e3 : a ≤ x ∧ x < k
      · rw [mv_1 e3.1 e3.2, mv_1 e3.1 (by omega)]
      · rw [mv_3 (by omega) (by omega), mv_3 (by omega) h]
theorem mv_up {c : Nat → Int} {f : Nat → Nat} {a b i : Nat} (up : Up c f (a + 1) b) (hi : a + 1 ≤ i) (hib : i ≤ b) (lo : ∀ k, a + 1 ≤ k → k < i → c (f k) < c (f a)) (hh : ∀ k, i ≤ k → k < b → c (f a) ≤ c (f k)) : Up c (fun k => f (mv a (i - 1) k)) a b := fun x y h1 h2 h3 => by
  show c (f (mv a (i - 1) x)) ≤ c (f (mv a (i - 1) y))
  by_cases e1 : y < i - 1
  · have e0 : x < i - 1 := by omega
    rw [mv_1 (k := i - 1) (x := x) h1 e0, mv_1 (k := i - 1) (x := y) (by omega) e1]
    exact up _ _ (by omega) (by omega) (by omega)
  · by_cases e2 : y = i - 1
    · rw [e2, mv_2, mv_1 h1 (by omega)]
      have := lo (x + 1) (by omega) (by omega)
      omega
    · rw [mv_3 (k := i - 1) (x := y) (by omega) (by omega)]
      by_cases e3 : x < i - 1
      · rw [mv_1 h1 e3]
        exact up _ _ (by omega) (by omega) h3
      · by_cases e4 : x = i - 1
        · rw [e4, mv_2]
          exact hh y (by omega) h3
        · rw [mv_3 (by omega) (by omega)]
          exact up _ _ (by omega) h2 h3
/-- The one at m is brought to k. -/
def mw (k m x : Nat) : Nat := if k < x ∧ x ≤ m then x - 1 else if x = k then m else x
theorem mw_1 {k m x : Nat} (h1 : k < x) (h2 : x ≤ m) : mw k m x = x - 1 := by unfold mw; rw [if_pos ⟨h1, h2⟩]
theorem mw_2 (k m : Nat) : mw k m k = m := by unfold mw; rw [if_neg (by omega), if_pos rfl]
theorem mw_3 {k m x : Nat} (h : x < k ∨ m < x) (hk : k ≤ m) : mw k m x = x := by unfold mw; rw [if_neg (by omega), if_neg (by omega)]
theorem mw_start (m x : Nat) : mw m m x = x := by
  by_cases e : x = m
  · subst e; exact mw_2 x x
  · exact mw_3 (by omega) (Nat.le_refl _)
theorem mw_step (k m x : Nat) (h : k + 1 ≤ m) : mw k m x = mw (k + 1) m (sw (k + 1) k x) := by
  by_cases e1 : x = k + 1
  · subst e1; rw [sw_l, mw_1 (by omega) h, mw_3 (by omega) h]; omega
  · by_cases e2 : x = k
    · subst e2; rw [sw_r, mw_2, mw_2]
    · rw [sw_o e1 e2]
      by_cases e3 : k < x ∧ x ≤ m
      · rw [mw_1 e3.1 e3.2, mw_1 (by omega) e3.2]
      · rw [mw_3 (by omega) (by omega), mw_3 (by omega) h]
theorem mw_up {c : Nat → Int} {f : Nat → Nat} {a m i : Nat} (up : Up c f a m) (hi : a ≤ i) (him : i ≤ m) (lo : ∀ k, a ≤ k → k < i → c (f k) ≤ c (f m)) (hh : ∀ k, i ≤ k → k < m → c (f m) < c (f k)) : Up c (fun k => f (mw i m k)) a (m + 1) := fun x y h1 h2 h3 => by
  show c (f (mw i m x)) ≤ c (f (mw i m y))
  by_cases e1 : x < i
  · rw [mw_3 (x := x) (.inl e1) him]
    by_cases e2 : y < i
    · rw [mw_3 (.inl e2) him]
      exact up _ _ h1 h2 (by omega)
    · by_cases e3 : y = i
      · rw [e3, mw_2]
        exact lo x h1 e1
      · rw [mw_1 (by omega) (by omega)]
        exact up _ _ h1 (by omega) (by omega)
  · rw [mw_1 (x := y) (by omega) (by omega)]
    by_cases e3 : x = i
    · rw [e3, mw_2]
      have := hh (y - 1) (by omega) (by omega)
      omega
    · rw [mw_1 (by omega) (by omega)]
      exact up _ _ (by omega) (by omega) (by omega)
set_option maxRecDepth 20000 in
set_option maxHeartbeats 4000000 in
theorem syl30 (K : Nat) (eg : ∀ args w, (callFunc K args).run Tryz.prog w = .ok (.enter K args) w) (cb : Array Value) (g n cap a m b len : Nat) (f : Nat → Nat) (c : Nat → Int) (w : World) (hr : Row w g n f) (rg : Rg f n len) (ask : Asks K cb w g len c)
    (hm : m = a + 1) (h1 : m < b) (h2 : b ≤ n) (hn : n ≤ 100000) (up : Up c f m b) :
    Calls Tryz.prog 103 #[.slice (some ⟨g, 0, none⟩) n cap, .int .i64 a, .int .i64 m, .int .i64 b, .func (.func K) #[] cb] w fun e w' => e = .returned (.tuple #[]) ∧ ∃ f', Re a b f f' ∧ Up c f' a b ∧ Row w' g n f' ∧ Upd (fun k => k = g) w w' := by
  have RR := hide hr
  have RG := hide rg
  have ASK := hide ask
  have UP := hide up
  have e1 : (m : Int) - a = 1 := by omega
  have HM := hide hm
  clear hr rg ask up hm
  go_enter Tryz.func103, Tryz.ntmps103
  go_wp2
  go_loopw [10, 11] (fun x y wr => ∃ (i j : Nat), x = .int .i64 i ∧ y = .int .i64 j ∧ m ≤ i ∧ i ≤ j ∧ j ≤ b ∧ (∀ k, m ≤ k → k < i → c (f k) < c (f a)) ∧ (∀ k, j ≤ k → k < b → c (f a) ≤ c (f k)) ∧ Row wr g n f ∧ Upd (fun k => k = g) w wr) (fun x y _ => (intOf y).toNat - (intOf x).toNat)
  case atStart => exact ⟨m, b, rfl, rfl, by omega, by omega, by omega, fun k _ _ => by omega, fun k _ _ => by omega, unhide RR, Upd.refl _ w⟩
  case round =>
    obtain ⟨i, j, rfl, rfl, hi, hij, hj, lo, hi2, row, u⟩ := hrel
    have LO := hide lo
    have HI := hide hi2
    have ROW := hide row
    have UU := hide u
    clear lo hi2
    by_cases hlt : i < j
    · have hlt' : (i : Int) < (j : Int) := by omega
      obtain ⟨h, hh⟩ : ∃ h, h = (i + j) / 2 := ⟨_, rfl⟩
      have hh' : ((i : Int) + j) / 2 = (h : Int) := by omega
      have hih : i ≤ h := by omega
      have hhj : h < j := by omega
      clear hh
      obtain ⟨c1, f1'⟩ := row h (by omega)
      obtain ⟨c2, f2'⟩ := row a (by have := unhide HM; omega)
      have g1 := unhide RG h (by omega)
      have g2 := unhide RG a (by have := unhide HM; omega)
      have AK := hide (fun q => (unhide ASK).2 (wr.drewN q) (u.drewN q) _ _ g1 g2)
      have v1 := (unhide ASK).1 _ g1
      have v2 := (unhide ASK).1 _ g2
      clear row u
      have hx : (h : Int) < n := by omega
      have hy : (a : Int) < n := by have := unhide HM; omega
      by_cases hc : c (f h) < c (f a)
      · have hc' : c (f h) - c (f a) < 0 := by omega
        have LN := hide (show ∀ k, m ≤ k → k < h + 1 → c (f k) < c (f a) from fun k k1 k2 => by
          by_cases e : k = h
          · subst e; exact hc
          · have := unhide UP k h k1 (by omega) (by omega)
            omega)
        go_wp2
        go_quiet ((go_at_fn K; exact Calls.quiet_of (unhide AK _)))
        rename_i nq
        have RQ := hide ((unhide ROW).drewN nq)
        have UQ := hide ((unhide UU).drewN nq)
        clear c1 c2 f1' f2' AK
        generalize wr.drewN nq = wq at *
        go_wp2
        go_roundw
        case rel => exact ⟨h + 1, j, by go_num, rfl, by omega, by omega, hj, unhide LN, unhide HI, unhide RQ, unhide UQ⟩
        case measure => simp [intOf]; omega
      · have hc' : ¬ c (f h) - c (f a) < 0 := by omega
        have LN := hide (show ∀ k, h ≤ k → k < b → c (f a) ≤ c (f k) from fun k k1 k2 => by
          by_cases e : k = h
          · subst e; omega
          · have := unhide UP h k (by omega) (by omega) k2
            omega)
        go_wp2
        go_quiet ((go_at_fn K; exact Calls.quiet_of (unhide AK _)))
        rename_i nq
        have RQ := hide ((unhide ROW).drewN nq)
        have UQ := hide ((unhide UU).drewN nq)
        clear c1 c2 f1' f2' AK
        generalize wr.drewN nq = wq at *
        go_wp2
        go_roundw
        case rel =>
          exact ⟨i, h, rfl, by go_num, hi, by omega, by omega, unhide LO, unhide LN, unhide RQ, unhide UQ⟩
        case measure => simp [intOf]; omega
    · obtain rfl : i = j := by omega
      have hnl : ¬ (i : Int) < (i : Int) := by omega
      have DONE := hide (mv_up (c := c) (f := f) (a := a) (b := b) (i := i) (by rw [← unhide HM]; exact unhide UP) (by rw [← unhide HM]; exact hi) hj (by rw [← unhide HM]; exact unhide LO) (unhide HI))
      have ham : a < m := by have := unhide HM; omega
      clear row u hlt
      obtain ⟨i, rfl⟩ : ∃ p, i = p + 1 := ⟨i - 1, by omega⟩
      go_wp2
      go_loopw [13] (fun x wi => ∃ k : Nat, x = .int .i64 k ∧ a ≤ k ∧ k ≤ i ∧ Re a b f (fun x => f (mv a k x)) ∧ Row wi g n (fun x => f (mv a k x)) ∧ Upd (fun k => k = g) w wi) (fun x _ => i - (intOf x).toNat)
      case atStart => exact ⟨a, rfl, Nat.le_refl _, by omega, (Re.refl a b f).congr (fun x => by rw [mv_start]), (unhide ROW).congr (fun x _ => by rw [mv_start]), unhide UU⟩
      case round =>
        clear ROW UU
        obtain ⟨k, rfl, hak, hki, re, row, u⟩ := hrel
        have RE := hide re
        have ROW := hide row
        have UU := hide u
        by_cases hlt : k < i
        · have hlt' : (k : Int) < (i : Int) := by omega
          have q1 := row k (by omega)
          have q2 := row (k + 1) (by omega)
          have d1 : wr.cell? ⟨g, k, none⟩ = some (.int .i64 (f a)) := by have := q1.1; rwa [show (fun x => f (mv a k x)) k = f a from by show f (mv a k k) = f a; rw [mv_2]] at this
          have d2 : wr.cell? ⟨g, k + 1, none⟩ = some (.int .i64 (f (k + 1))) := by have := q2.1; rwa [show (fun x => f (mv a k x)) (k + 1) = f (k + 1) from by show f (mv a k (k + 1)) = f (k + 1); rw [mv_3 (by omega) hak]] at this
          have p1 := q1.2
          have p2 := q2.2
          have RN := hide (((unhide RE).trans (Re.swap a b k (k + 1) _ (by omega) (by omega))).congr (f2 := fun x => f (mv a (k + 1) x)) (fun x => by rw [mv_step a k x hak]))
          have EX := hide (show Row ((wr.setCell ⟨g, k, none⟩ (.int .i64 (f (k + 1)))).setCell ⟨g, k + 1, none⟩ (.int .i64 (f a))) g n (fun x => f (mv a (k + 1) x)) from by
            have := (row.swap k (k + 1)).congr (f' := fun x => f (mv a (k + 1) x)) (fun x _ => by rw [mv_step a k x hak])
            simp only [mv_2] at this
            rwa [mv_3 (x := k + 1) (by omega) hak] at this)
          clear re row u q1 q2
          have i1 : (k : Int) < n := by omega
          have i2 : (k : Int) + 1 < n := by omega
          have hne : k ≠ k + 1 := by omega
          go_wp2
          go_region
          go_wp2
          go_roundw
          case rel => exact ⟨k + 1, by go_num, by omega, by omega, unhide RN, unhide EX, (((unhide UU).setCell (p := ⟨g, k, none⟩) rfl _).setCell (p := ⟨g, k + 1, none⟩) rfl _).drewN 1⟩
          case measure => simp [intOf]; omega
        · obtain rfl : k = i := by omega
          have hnl2 : ¬ (k : Int) < (k : Int) := by omega
          clear re row u
          go_wp2
          refine bodyPost_ret (results_none rfl _ _ _) rfl ?_
          exact ⟨rfl, _, unhide RE, unhide DONE, unhide ROW, unhide UU⟩
end Go.Proofs.YtgjpcjnhggcfdaaGreatDoor.ZSyl
