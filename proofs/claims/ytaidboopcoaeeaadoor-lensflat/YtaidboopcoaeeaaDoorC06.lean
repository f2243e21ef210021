/-
  Contract: package bitout's Bytes: new bytes, those of the number that was written. Conditions: the writer lies in memory, its bits are few.
  Contracts: the document's own answers (ref.One, ref.Check). Conditions: the slice reads as integers, and they are few.
  Numbers alone: how many symbols have a code that is nought, and how many one that is nothing but ones. Conditions: complete lengths.
  Plain facts: a copy of lengths by append, and what becomes of the sum where one length is another. Conditions: as each says.
  Contracts: tree.Write; and what lies in memory while symbols are written: a writer, a row of those told. Conditions: they lie apart, few bits.
-/
import Derived.Test.YtaidboopcoaeeaaDoorC05
import Derived.Test.YtaidboopcoaeeaaDoorC02
import Derived.Test.YtaidboopcoaeeaaDoorC04
import Derived.Maps.AppendAt
namespace Go.Proofs.YtaidboopcoaeeaaDoor.Byt
open Go.ChangeShapes Go.WideShapes Go.ChangeAt Go.RowKit Go.Proofs.YtaidboopcoaeeaaDoor.Core Go.Proofs.YtaidboopcoaeeaaDoor.Foot Go.Proofs.YtaidboopcoaeeaaDoor.Add Go.Proofs.YtaidboopcoaeeaaDoor.Wri

theorem own_base {w : World} {B n : Nat} {v : Value} {xs : List Value} (h : w.ownsRow 0 5 1 v n xs) (hB : ∀ k, v.ownBlock = some k → B ≤ k) : w.ownsRow B 5 1 v n xs := by
  refine ⟨h.1, ?_⟩
  rcases h.2 with h | ⟨g, cap, cur, rfl, _, r⟩
  · exact .inl h
  · exact .inr ⟨g, cap, cur, rfl, hB g rfl, r⟩
theorem run_app_src (w : World) (ty : TypeId) (v : Value) (n : Nat) (xs : List Value) (hown : w.ownsRow 0 5 1 v n xs) (x : Value) (len : Nat) (c : Nat → Nat) (src : Src w x len c) (hn : n + len ≤ 1000000) :
    ∃ v' w', (Builtin.append_ #[34, 34] ty #[v, x]).run Tryd.prog w = .ok v' w' ∧ w'.ownsRow 0 5 1 v' (n + len) (xs ++ cells c len) ∧ w.grownBy w' v.ownBlock ∧ Stays w w' v v' n := by
  obtain ⟨i0, hi, hz0, hz1, hz2⟩ := info_parts Tryd.info5
  rcases src with ⟨rfl, rfl⟩ | ⟨ad, cap, rfl, hc⟩
  · refine ⟨v, w, run_append_owned_none w 0 34 ty 5 i0 1 Tryd.underlying34 hi v n xs hown, ?_, grown_refl _ _, fun _ h => .inl h, fun _ _ _ _ => rfl⟩
    rw [show cells c 0 = [] from rfl, List.append_nil]
    exact hown
  · exact run_app w ty v n xs hown ad len cap (cells c len) (cells_len _ _) (news_of hc) (cells_one _ _) hn
theorem step_app_src {ops : Array Oper} {o : Oper} {a : Act} {w : World} {K : Act → World → Prop} {Q : Exit → Act → World → Prop} {E : Prop}
    (hg : o.guard = none) (s x : Operand) (hop : o.op = Op.call { callee := Callee.builtin Builtin.append, args := #[s, x], argTypes := #[34, 34] })
    (v : Value) (n : Nat) (xs : List Value) (hs : a.eval s = v) (hown : w.ownsRow 0 5 1 v n xs) (u : Value) (len : Nat) (c : Nat → Nat) (hx : a.eval x = u) (src : Src w u len c) (hn : n + len ≤ 1000000)
    (hK : ∀ v' w', w'.ownsRow 0 5 1 v' (n + len) (xs ++ cells c len) → w.grownBy w' v.ownBlock → Stays w w' v v' n → K (a.put o.dst v') w') :
    if Region.wanted o (yielded ops a.tmps) = true then Oper.wp Tryd.prog o a w K Q else E := by
  have hw : Region.wanted o (yielded ops a.tmps) = true := by simp [Region.wanted, hg]
  rw [if_pos hw]
  obtain ⟨v', w', hr, r1, r2, r3⟩ := run_app_src w o.type v n xs hown u len c src hn
  unfold Oper.wp
  simp [execOp, hop, resolve, invoke, builtin, hs, hx, hr, Result.andThen]
  exact hK v' w' r1 r2 r3
theorem list_app_src {w : World} {ops : Array Oper} {rest : List Oper} {o : Oper} {a : Act} {Q : Exit → Act → World → Prop} (hg : o.guard = none) (s x : Operand)
    (hop : o.op = .call { callee := .builtin .append, args := #[s, x], argTypes := #[34, 34] })
    (v : Value) (n : Nat) (xs : List Value) (hs : a.eval s = v) (hown : w.ownsRow 0 5 1 v n xs) (u : Value) (len : Nat) (c : Nat → Nat) (hx : a.eval x = u) (src : Src w u len c) (hn : n + len ≤ 1000000)
    (hK : ∀ v' w', w'.ownsRow 0 5 1 v' (n + len) (xs ++ cells c len) → w.grownBy w' v.ownBlock → Stays w w' v v' n → wpList Tryd.prog ops Q rest (a.put o.dst v') w') : wpList Tryd.prog ops Q (o :: rest) a w := by
  refine wpList_plain hg fun K hK' => ?_
  obtain ⟨v', w', hr, r1, r2, r3⟩ := run_app_src w o.type v n xs hown u len c src hn
  unfold Oper.wp
  simp [execOp, hop, resolve, invoke, builtin, hs, hx, hr, Result.andThen]
  exact hK' _ _ (hK v' w' r1 r2 r3)
set_option maxHeartbeats 400000 in
theorem bytes_nil (w : World) :
    Calls Tryd.prog 13 #[.pointer none] w fun e w' => e = .returned (.slice none 0 0) ∧ w' = w := by
  go_enter Tryd.func13, Tryd.ntmps13
  go_wp2
  go_ret
  exact ⟨rfl, rfl⟩
theorem make_row (w : World) (K : Nat) (hK : K ≤ 1000000) : (Instr.makeSlice 34 (.int .i64 0) (.int .i64 (IntKind.i64.wrap ((K : Int) + 1)))).run Tryd.prog w = .ok (.slice (some ⟨w.heap.size, 0, none⟩) 0 (K + 1)) (w.alloc (.cells (madeCells #[.int .u8 0] (K + 1)) 5)) := by
  obtain ⟨i0, hi, hz0, hz1, hz2⟩ := info_parts Tryd.info5
  have e : IntKind.i64.wrap ((K : Int) + 1) = (K : Int) + 1 := by rw [IntKind.wrap_i64]; omega
  rw [e]
  have := run_make (P := Tryd.prog) w 34 5 i0 (.int .u8 0) Tryd.underlying34 hi hz0 .i64 .i64 0 ((K : Int) + 1) (by omega) (by omega) (by rw [hz2]; omega) (by omega)
  rw [hz1] at this
  rw [this]
  simp [Value.cells]

set_option maxRecDepth 20000 in
set_option maxHeartbeats 1000000 in
theorem bytes_at (g : Nat) (u : Value) (V N : Nat) (w : World) (h : Wr w g u V N) (hN : N ≤ 1000000) :
    Calls Tryd.prog 13 #[.pointer (some ⟨g, 0, none⟩)] w fun e w' => ∃ v, e = .returned v ∧ w'.ownsRow w.heap.size 5 1 v ((N + 7) / 8) (cells (byt V) ((N + 7) / 8)) ∧ Below w.heap.size w w' := by
  have SRC := hide (src_of_own h.raw.own)
  have OWN := hide h.raw.own
  obtain ⟨a, cap, rfl⟩ := own_slice h.raw.own
  have bx := h.raw.box
  clear h
  have e1 : N / 8 ≤ 125000 := by omega
  have e2 : (N + 7) / 8 = if 0 < N % 8 then N / 8 + 1 else N / 8 := by split <;> omega
  have hr : byt V (N / 8) = V / 2 ^ (8 * (N / 8)) % 256 := rfl
  generalize N % 8 = c at *
  generalize V / 2 ^ (8 * (N / 8)) = r at *
  generalize N / 8 = K at *
  generalize (N + 7) / 8 = L at *
  have h0 := bx.cell 0
  have h1 := bx.cell 1
  have h2 := bx.cell 2
  simp at h0 h1 h2
  have BX := hide bx
  have k1 : (K : Int) ≤ 200000 := by omega
  have hmk := fun w => make_row w K (by omega)
  have p0 : ∀ o, (w.alloc o).cell? ⟨g, 0, none⟩ = some (.slice a K cap) := fun o => by have := (box_alloc bx o).cell 0; simpa using this
  have OM : Hid ((w.alloc (.cells (madeCells #[.int .u8 0] (K + 1)) 5)).drew.ownsRow 0 5 1 (.slice (some ⟨w.heap.size, 0, none⟩) 0 (K + 1)) 0 []) :=
    (World.ownsRow_made (base := 0) (e := 5) (size := 1) w _ (K + 1) (Nat.zero_le _) (by unfold maxLen; omega) (by rw [size_madeCells]; omega)).drew
  have UM : Upd (fun _ => False) w (w.alloc (.cells (madeCells #[.int .u8 0] (K + 1)) 5)).drew := ((Upd.refl (fun _ => False) w).alloc _).drewN 1
  have SM := hide ((unhide SRC).keep UM (fun _ h => h.elim))
  have UM' := hide UM
  clear bx UM
  go_enter Tryd.func13, Tryd.ntmps13
  go_wp2
  go_region_law (refine step_app_src rfl (.tmp 12) (.tmp 16) rfl (.slice (some ⟨w.heap.size, 0, none⟩) 0 (K + 1)) 0 [] (by simp [Act.eval]) (unhide OM) (.slice a K cap) K (byt V) (by simp [Act.eval]) (unhide SM) (by omega) ?_; intro v' w' hown hgrow hstay; rw [Nat.zero_add, List.nil_append] at hown; have BX' := hide (box_grown (box_drew (box_alloc (unhide BX) _)) hgrow (by have := (unhide BX).lt; simp [Value.ownBlock]; omega)); have OW' := hide hown; have GR := hide hgrow; have ST := hide hstay; clear hown hgrow hstay)
  all_goals
    have bel : Below w.heap.size w w' := (((Below.refl w.heap.size w).alloc (Nat.le_refl _) _).drew).grown (unhide GR) (by simp [World.drew]) (fun k hk => by cases hk; exact Nat.le_refl _)
    have lb : ∀ k, v'.ownBlock = some k → w.heap.size ≤ k := fun k hk => by
      rcases (unhide ST).foot k hk with h | h
      · cases h; exact Nat.le_refl _
      · simp [World.drew] at h; omega
    have BEL := hide bel
    have LB := hide lb
    have m1 := (unhide BX').cell 1
    have m2 := (unhide BX').cell 2
    simp at m1 m2
    clear bel lb
    by_cases hc : 0 < c
    · have hc' : (0 : Int) < (c : Int) := by omega
      rw [if_pos hc] at e2
      subst e2
      have hsz := (unhide BEL).size
      go_wp2_with (first | (at_builtin; refine list_app rfl (.tmp 23) (.tmp 29) rfl v' K (cells (byt V) K) rfl ((unhide OW').alloc _) ⟨w'.heap.size, 0, none⟩ 1 1 [.int .u8 ((r : Int) % 256)] rfl rfl (one_src _ _) (one_one _ _) (by omega) ?_; intro v2 w2 hown2 hgrow2 hstay2; have OW2 := hide hown2; have GR2 := hide hgrow2; have ST2 := hide hstay2; clear hown2 hgrow2 hstay2) | fail)
      go_ret
      have o2 := unhide OW2
      have e : ((r : Int) % 256) = ((byt V K : Nat) : Int) := by rw [hr]; omega
      rw [e, ← cells_succ] at o2
      refine ⟨_, rfl, own_base o2 (fun k hk => ?_), ((unhide BEL).alloc hsz _).grown (unhide GR2) (by simp; omega) (unhide LB)⟩
      rcases (unhide ST2).foot k hk with h | h
      · exact unhide LB k h
      · simp at h; omega
    · have hc' : ¬ (0 : Int) < (c : Int) := by omega
      rw [if_neg hc] at e2
      subst e2
      go_wp2
      go_ret
      exact ⟨_, rfl, own_base (unhide OW') (unhide LB), unhide BEL⟩
end Go.Proofs.YtaidboopcoaeeaaDoor.Byt

namespace Go.Proofs.YtaidboopcoaeeaaDoor.Rck
open Go.ChangeShapes Go.WideShapes Go.ChangeAt Go.RowKit Go.Proofs.YtaidboopcoaeeaaDoor.Core Go.Proofs.YtaidboopcoaeeaaDoor.Gnd Go.Proofs.YtaidboopcoaeeaaDoor.Math Go.Proofs.YtaidboopcoaeeaaDoor.Each Go.Proofs.YtaidboopcoaeeaaDoor.One Go.Proofs.YtaidboopcoaeeaaDoor.Chk Go.Proofs.YtaidboopcoaeeaaDoor.Fst Go.Proofs.YtaidboopcoaeeaaDoor.Cod

set_option maxHeartbeats 1000000 in
theorem rone9 (v : Value) (len : Nat) (c : Nat → Int) (hl : len ≤ 100000) (w : World) (src : Ints .i64 w v len c) :
    Calls Tryd.prog 39 #[v] w fun e w' => e = .returned (.tuple #[.int .i64 (if many c len = 1 then (sel c len : Int) else 0), .bool (decide (many c len = 1))]) ∧ w' = w := by
  obtain ⟨a, cap, rfl, hs⟩ := src
  have SRC := hide hs
  have MS := hide (many_sel c len)
  clear hs
  go_enter Tryd.func39, Tryd.ntmps39
  go_wp2
  go_loopw [4, 5, 6] (fun s m i wr => ∃ k : Nat, k ≤ len ∧ i = .int .i64 k ∧ s = .int .i64 (sel1 c k) ∧ m = .int .i64 (many c k) ∧ wr = w) (fun _ _ i _ => len - (intOf i).toNat)
  case atStart => exact ⟨0, Nat.zero_le _, rfl, rfl, rfl, rfl⟩
  case round =>
    obtain ⟨k, hk, rfl, rfl, rfl, rfl⟩ := hrel
    by_cases hlt : k < len
    · have hlt' : (k : Int) < (len : Int) := by omega
      obtain ⟨b, off, rfl, hcell⟩ := unhide SRC k hlt
      have ml := many_le c k
      by_cases hz : c k = 0
      · have E1 : Hid (many c (k + 1) = many c k) := by simp [Hid, many, hz]
        have E2 : Hid (sel1 c (k + 1) = sel1 c k) := by simp [Hid, sel1, hz]
        rw [hz] at hcell
        clear hz
        go_wp2
        go_roundw
        case rel => exact ⟨k + 1, by omega, by go_num, by rw [unhide E2], by rw [unhide E1], by first | rfl | trivial⟩
        case measure => simp [intOf]; omega
      · have E1 : Hid (many c (k + 1) = many c k + 1) := by simp [Hid, many, hz]
        by_cases hm : many c k = 0
        · have E2 : Hid (sel1 c (k + 1) = k) := by simp [Hid, sel1, hz, hm]
          have hm' : (many c k : Int) = 0 := by omega
          go_wp2
          go_roundw
          case rel => exact ⟨k + 1, by omega, by go_num, by rw [unhide E2], by rw [unhide E1, hm]; rfl, by first | rfl | trivial⟩
          case measure => simp [intOf]; omega
        · have E2 : Hid (sel1 c (k + 1) = sel1 c k) := by simp [Hid, sel1, hm]
          have hm' : ¬ (many c k : Int) = 0 := by omega
          go_wp2
          go_roundw
          case rel => exact ⟨k + 1, by omega, by go_num, by rw [unhide E2], by rw [unhide E1]; go_num, by first | rfl | trivial⟩
          case measure => simp [intOf]; omega
    · obtain rfl : k = len := by omega
      by_cases hm : many c k = 1
      · have hm' : (many c k : Int) = 1 := by omega
        go_wp2
        go_ret2
        refine ⟨?_, rfl⟩
        rw [(unhide MS).2 hm]
        simp
      · have hm' : ¬ (many c k : Int) = 1 := by omega
        go_wp2
        go_ret2
        refine ⟨?_, rfl⟩
        simp
theorem Rng.next {c : Nat → Int} {k : Nat} (h : Rng c k) (h1 : 0 ≤ c k) (h2 : c k ≤ 15) : Rng c (k + 1) := fun j hj => by
  by_cases e : j = k
  · subst e; exact ⟨h1, h2⟩
  · exact h j (by omega)
set_option maxHeartbeats 2000000 in
theorem rcheck12 (v : Value) (len : Nat) (c : Nat → Int) (hl : len ≤ 100000) (w : World) (src : Ints .i64 w v len c) :
    Calls Tryd.prog 9 #[v] w fun e w' => e = .returned (.int .i64 (chk c len)) ∧ w' = w := by
  obtain ⟨a, cap, rfl, hs⟩ := src
  have SRC := hide hs
  clear hs
  go_enter Tryd.func9, Tryd.ntmps9
  go_wp2
  go_loopw [3, 4, 5] (fun s m i wr => ∃ k : Nat, k ≤ len ∧ i = .int .i64 k ∧ s = .int .i64 (kr c k) ∧ m = .int .i64 (many c k) ∧ Rng c k ∧ wr = w) (fun _ _ i _ => len - (intOf i).toNat)
  case atStart => exact ⟨0, Nat.zero_le _, rfl, rfl, rfl, fun j hj => by omega, rfl⟩
  case round =>
    obtain ⟨k, hk, rfl, rfl, rfl, good, rfl⟩ := hrel
    have GOOD := hide good
    clear good
    by_cases hlt : k < len
    · have hlt' : (k : Int) < (len : Int) := by omega
      obtain ⟨b, off, rfl, hcell⟩ := unhide SRC k hlt
      have ml := many_le c k
      have kl := kr_le c k
      by_cases h1 : c k < 0
      · have BAD : Hid (chk c len = 8) := by
          unfold Hid chk
          rw [if_neg (fun h => by have := (rngB_iff c len).1 h k hlt; omega)]
        go_wp2
        go_ret
        exact ⟨by rw [unhide BAD]; rfl, rfl⟩
      · by_cases h2 : 15 < c k
        · have BAD : Hid (chk c len = 8) := by
            unfold Hid chk
            rw [if_neg (fun h => by have := (rngB_iff c len).1 h k hlt; omega)]
          go_wp2
          go_ret
          exact ⟨by rw [unhide BAD]; rfl, rfl⟩
        · have NEXT := hide (Rng.next (unhide GOOD) (by omega) (by omega))
          by_cases hz : c k = 0
          · have E1 : Hid (many c (k + 1) = many c k) := by simp [Hid, many, hz]
            have E2 : Hid (kr c (k + 1) = kr c k) := by simp [Hid, kr, pt2, hz]
            rw [hz] at hcell
            clear hz h1 h2
            go_wp2
            go_roundw
            case rel => exact ⟨k + 1, by omega, by go_num, by rw [unhide E2], by rw [unhide E1], unhide NEXT, by first | rfl | trivial⟩
            case measure => simp [intOf]; omega
          · obtain ⟨m, hcm⟩ : ∃ m : Nat, c k = (m : Int) := ⟨(c k).toNat, by omega⟩
            have E1 : Hid (many c (k + 1) = many c k + 1) := by simp [Hid, many, hz]
            have E2 : Hid (kr c (k + 1) = kr c k + 2 ^ (15 - m)) := by
              have := pt2_of hcm (by omega)
              simp [Hid, kr, this]
            rw [hcm] at hcell h1 h2 hz
            have HCM := hide hcm
            have hm0 : 0 < m := by omega
            have hm : m ≤ 15 := by omega
            clear hcm h1 h2 hz
            generalize kr c k = x at *
            generalize many c k = y at *
            go_wp2
            go_loopw [6, 7] (fun p j wi => ∃ q : Nat, q ≤ m ∧ j = .int .i64 q ∧ p = .int .i64 (2 ^ (15 - q) : Nat) ∧ wi = wr) (fun _ j _ => m - (intOf j).toNat)
            case atStart => exact ⟨0, Nat.zero_le _, rfl, rfl, rfl⟩
            case round =>
              obtain ⟨q, hq, rfl, rfl, rfl⟩ := hrel
              have hzb : 2 ^ (15 - q) ≤ 2 ^ 15 := Nat.pow_le_pow_right (by omega) (by omega)
              by_cases hqm : q < m
              · have hqm' : (q : Int) < (m : Int) := by omega
                have ZZ : Hid (2 ^ (15 - q) = 2 * 2 ^ (15 - (q + 1))) := by
                  unfold Hid
                  rw [show 15 - q = (15 - (q + 1)) + 1 by omega, Nat.pow_succ, Nat.mul_comm]
                generalize hz : 2 ^ (15 - q) = z at *
                go_wp2
                go_roundw
                case rel => exact ⟨q + 1, by omega, by go_num, by have := unhide ZZ; congr 1; omega, by first | rfl | trivial⟩
                case measure => simp [intOf]; omega
              · obtain rfl : q = m := by omega
                generalize 2 ^ (15 - q) = z at *
                go_wp2
                go_roundw
                case rel => exact ⟨k + 1, by omega, by go_num, by rw [unhide E2]; go_num, by rw [unhide E1]; go_num, unhide NEXT, by first | rfl | trivial⟩
                case measure => simp [intOf]; omega
    · obtain rfl : k = len := by omega
      have ml := many_le c k
      have kl := kr_le c k
      by_cases hm : many c k = 1
      · have C0 : Hid (chk c k = 0) := by
          unfold Hid chk
          rw [if_pos ((rngB_iff c k).2 (unhide GOOD)), if_pos (Or.inl hm)]
        have hm' : (many c k : Int) = 1 := by omega
        clear hm
        go_wp2
        go_ret
        exact ⟨by rw [unhide C0]; rfl, rfl⟩
      · have hm' : ¬ (many c k : Int) = 1 := by omega
        by_cases hkr : kr c k = 32768
        · have C0 : Hid (chk c k = 0) := by
            unfold Hid chk
            rw [if_pos ((rngB_iff c k).2 (unhide GOOD)), if_pos (Or.inr hkr)]
          have hk' : (kr c k : Int) = 32768 := by omega
          clear hm hkr
          go_wp2
          go_ret
          exact ⟨by rw [unhide C0]; rfl, rfl⟩
        · have C0 : Hid (chk c k = 3) := by
            unfold Hid chk
            rw [if_pos ((rngB_iff c k).2 (unhide GOOD)), if_neg (fun h => h.elim hm hkr)]
          have d1 : (((many c k : Nat) : Int) == 1) = false := beq_eq_false_iff_ne.2 (by omega)
          have d2 : (((kr c k : Nat) : Int) == 32768) = false := beq_eq_false_iff_ne.2 (by omega)
          clear hm hkr hm'
          go_wp2
          go_ret
          exact ⟨by rw [unhide C0]; rfl, rfl⟩
end Go.Proofs.YtaidboopcoaeeaaDoor.Rck

namespace Go.Proofs.YtaidboopcoaeeaaDoor.Cnt
open Go.RowKit Go.Proofs.YtaidboopcoaeeaaDoor.Core Go.Proofs.YtaidboopcoaeeaaDoor.Gnd Go.Proofs.YtaidboopcoaeeaaDoor.Math

def num (P : Nat → Bool) : Nat → Nat
  | 0 => 0
  | n + 1 => num P n + if P n = true then 1 else 0
theorem num_le (P : Nat → Bool) : ∀ n, num P n ≤ n
  | 0 => Nat.le_refl _
  | n + 1 => by
    have := num_le P n
    unfold num
    split <;> omega
theorem num_yes {P : Nat → Bool} {n : Nat} (h : P n = true) : num P (n + 1) = num P n + 1 := by simp [num, h]
theorem num_no {P : Nat → Bool} {n : Nat} (h : P n = false) : num P (n + 1) = num P n := by simp [num, h]
theorem num_none {P : Nat → Bool} : ∀ n, (∀ k, k < n → P k = false) → num P n = 0
  | 0, _ => rfl
  | n + 1, h => by rw [num_no (h n (by omega)), num_none n (fun k hk => h k (by omega))]
theorem num_one {P : Nat → Bool} : ∀ n, (∃ k, k < n ∧ P k = true) → (∀ i k, i < n → k < n → P i = true → P k = true → i = k) → num P n = 1
  | 0, ⟨k, hk, _⟩, _ => by omega
  | n + 1, ⟨k, hk, hp⟩, h => by
    by_cases hn : P n = true
    · rw [num_yes hn, num_none n (fun j hj => ?_)]
      cases hj2 : P j
      · rfl
      · have := h j n (by omega) (by omega) hj2 hn
        omega
    · have hn' : P n = false := by simpa using hn
      rw [num_no hn']
      refine num_one n ⟨k, ?_, hp⟩ (fun i k hi hk => h i k (by omega) (by omega))
      by_cases e : k = n
      · subst e; exact absurd hp hn
      · omega
def isLow (c : Nat → Int) (len k : Nat) : Bool := decide (c k ≠ 0 ∧ cod c len k = 0)
def isHigh (c : Nat → Int) (len k : Nat) : Bool := decide (c k ≠ 0 ∧ cod c len k + 1 = 2 ^ (c k).toNat)
theorem low_one {c : Nat → Int} {n : Nat} (h : chk c n = 0) : num (isLow c n) n = 1 := by
  obtain ⟨hg, h1, hk⟩ := chk_zero h
  have hex : ∃ k, k < n ∧ c k ≠ 0 := by
    rcases h1 with h1 | h1
    · exact many_pos c n (by omega)
    · exact kr_pos c n (by omega)
  obtain ⟨k, hk2, hc⟩ := hex
  obtain ⟨i, hi, h2, h3⟩ := low_there hg hk2 hc
  refine num_one n ⟨i, hi, by simp [isLow, h2, h3]⟩ ?_
  intro i k hi hk p q
  simp only [isLow, decide_eq_true_eq] at p q
  by_cases e : i = k
  · exact e
  · exfalso
    have gi := hg i hi
    have gk := hg k hk
    have a1 : c i = ((c i).toNat : Int) := by omega
    have a2 : c k = ((c k).toNat : Int) := by omega
    rcases Nat.le_total (c i).toNat (c k).toNat with hle | hle
    · exact apart hg hi hk (fun h => e h.symm) _ _ a1 a2 (by omega) hle (by rw [p.2, q.2, Nat.zero_div])
    · exact apart hg hk hi e _ _ a2 a1 (by omega) hle (by rw [p.2, q.2, Nat.zero_div])
theorem ones_div {a b x : Nat} (h : x + 1 = 2 ^ b) (hab : a ≤ b) : x / 2 ^ (b - a) + 1 = 2 ^ a := by
  have h1 : 2 ^ b = 2 ^ a * 2 ^ (b - a) := by rw [← Nat.pow_add]; congr 1; omega
  have h2 : 0 < 2 ^ (b - a) := Nat.pow_pos (by omega)
  have h3 : 0 < 2 ^ a := Nat.pow_pos (by omega)
  have h4 : x / 2 ^ (b - a) = 2 ^ a - 1 := by
    rw [Nat.div_eq_iff h2]
    generalize 2 ^ a = A at *
    generalize 2 ^ (b - a) = B at *
    have : (A - 1) * B + B = A * B := by
      rw [← Nat.succ_mul]
      congr 1
      omega
    omega
  omega
theorem high_one {c : Nat → Int} {n : Nat} (h : chk c n = 0) (hm : many c n ≠ 1) : num (isHigh c n) n = 1 := by
  obtain ⟨hg, h1, hk⟩ := chk_zero h
  have hs : kr c n = 32768 := by
    rcases h1 with h1 | h1
    · exact absurd h1 hm
    · exact h1
  obtain ⟨i, m, hi, h2, h3, h4⟩ := high_there hg hs
  refine num_one n ⟨i, hi, ?_⟩ ?_
  · have : (c i).toNat = m := by omega
    simp only [isHigh, decide_eq_true_eq]
    exact ⟨by omega, by rw [this]; exact h4⟩
  · intro i k hi hk p q
    simp only [isHigh, decide_eq_true_eq] at p q
    by_cases e : i = k
    · exact e
    · exfalso
      have gi := hg i hi
      have gk := hg k hk
      have a1 : c i = ((c i).toNat : Int) := by omega
      have a2 : c k = ((c k).toNat : Int) := by omega
      rcases Nat.le_total (c i).toNat (c k).toNat with hle | hle
      · have := ones_div q.2 hle
        exact apart hg hi hk (fun h => e h.symm) _ _ a1 a2 (by omega) hle (by have := p.2; omega)
      · have := ones_div p.2 hle
        exact apart hg hk hi e _ _ a2 a1 (by omega) hle (by have := q.2; omega)
theorem pow15 (m : Nat) (h : m ≤ 15) : (1 : Int) ≤ 2 ^ m ∧ (2 : Int) ^ m ≤ 32768 ∧ ((2 ^ m : Nat) : Int) = (2 : Int) ^ m := by
  have h1 : (2 : Nat) ^ m ≤ 2 ^ 15 := Nat.pow_le_pow_right (by omega) h
  have h2 : 0 < (2 : Nat) ^ m := Nat.pow_pos (by omega)
  have h3 : ((2 ^ m : Nat) : Int) = (2 : Int) ^ m := by simp
  have h4 : (2 : Nat) ^ 15 = 32768 := by decide
  omega
theorem below_drewN {B : Nat} {a w : World} (h : Below B a w) (n : Nat) : Below B a (w.drewN n) := ⟨h.os, h.tape, h.output, h.size, h.block⟩
end Go.Proofs.YtaidboopcoaeeaaDoor.Cnt

namespace Go.Proofs.YtaidboopcoaeeaaDoor.Spl
open Go.ChangeShapes Go.WideShapes Go.ChangeAt Go.RowKit Go.Proofs.YtaidboopcoaeeaaDoor.Core Go.Proofs.YtaidboopcoaeeaaDoor.Gnd Go.Proofs.YtaidboopcoaeeaaDoor.Math Go.Proofs.YtaidboopcoaeeaaDoor.Cnt

def cells (c : Nat → Int) (n : Nat) : List Value := (List.range n).map fun k => .int .i64 (c k)
theorem cells_len (c : Nat → Int) (n : Nat) : (cells c n).length = n := by simp [cells]
theorem cells_at (c : Nat → Int) (n k : Nat) (h : k < n) : (cells c n)[k]? = some (.int .i64 (c k)) := by
  simp [cells, h]
theorem cells_one (c : Nat → Int) (n : Nat) : ∀ u ∈ cells c n, u.oneCell' = true := by
  intro u hu
  obtain ⟨_, _, rfl⟩ := List.mem_map.1 hu
  rfl
def upd (c : Nat → Int) (k : Nat) (z : Int) (j : Nat) : Int := if j = k then z else c j
theorem cells_set (c : Nat → Int) (n k : Nat) (z : Int) : (cells c n).set k (.int .i64 z) = cells (upd c k z) n := by
  apply List.ext_getElem?
  intro j
  rw [List.getElem?_set]
  by_cases hj : j < n
  · rw [cells_at _ n j hj, cells_at _ n j hj, cells_len]
    by_cases e : k = j
    · subst e; simp [hj, upd]
    · have : ¬ j = k := fun h => e h.symm
      simp [e, this, upd]
  · rw [List.getElem?_eq_none (l := cells c n) (by rw [cells_len]; omega), List.getElem?_eq_none (l := cells _ n) (by rw [cells_len]; omega), cells_len]
    split
    · rw [if_neg (by omega)]
    · rfl
theorem news_of {w : World} {n : Nat} {x : Addr} {c : Nat → Int} (h : ∀ k, k < n → w.cell? (x.add k) = some (.int .i64 (c k))) :
    ∀ j u, (cells c n)[j]? = some u → w.cell? (x.add j) = some u := by
  intro j u hu
  have hj : j < n := by
    have := (List.getElem?_eq_some_iff.1 hu).1
    rwa [cells_len] at this
  rw [cells_at c n j hj] at hu
  rw [h j hj]
  exact hu
theorem info3 : (Tryd.prog.info? 3).map (fun i => (i.zero, i.size, i.bytes)) = some (some (.int .i64 0), 1, 8) := by kernel_rfl
theorem empty_own (w : World) (base : Nat) (h : base ≤ w.heap.size) : (w.alloc (.cells #[] 3)).ownsRow base 3 1 (.slice (some ⟨w.heap.size, 0, none⟩) 0 0) 0 [] :=
  ⟨rfl, .inr ⟨w.heap.size, 0, #[], rfl, h, Box.made w 3 #[], Nat.le_refl _, Nat.zero_le _, rfl, rfl⟩⟩
theorem empty_at (w : World) (base n : Nat) (hn : w.heap.size = n) (h : base ≤ n) : (w.alloc (.cells #[] 3)).ownsRow base 3 1 (.slice (some ⟨n, 0, none⟩) 0 0) 0 [] := by
  subst hn
  exact empty_own w base h
theorem app_copy {w : World} {ops : Array Oper} {rest : List Oper} {o : Oper} {a : Act} {Q : Exit → Act → World → Prop} (hgd : o.guard = none) (s x : Operand)
    (ho : o.op = .call { callee := .builtin .append, args := #[s, x], argTypes := #[22, 22] })
    (base : Nat) (v : Value) (hs : a.eval s = v) (hown : w.ownsRow base 3 1 v 0 [])
    (ad : Addr) (len cap : Nat) (c : Nat → Int) (hx : a.eval x = .slice (some ad) len cap) (src : ∀ k, k < len → w.cell? (ad.add k) = some (.int .i64 (c k))) (hn : len ≤ 1000000) (hbase : base ≤ w.heap.size)
    (h : ∀ v' w', w'.ownsRow base 3 1 v' len (cells c len) → w.grownBy w' v.ownBlock → wpList Tryd.prog ops Q rest (a.put o.dst v') w') : wpList Tryd.prog ops Q (o :: rest) a w := by
  obtain ⟨i0, hi, hz0, hz1, hz2⟩ := info_parts info3
  refine wpList_append_own w hgd s x 22 ho base 3 i0 (.int .i64 0) 1 8 Tryd.underlying22 hi hz0 hz1 hz2 rfl (by decide) v 0 [] hs hown ad len cap (cells c len) hx (by rw [cells_len, Nat.mul_one])
      (news_of src) (cells_one _ _) (by unfold maxLen; omega) (by omega) hbase (fun v' w' h1 h2 _ => ?_)
  rw [Nat.zero_add, List.nil_append] at h1
  exact h v' w' h1 h2
theorem own_ints {w : World} {base n : Nat} {v : Value} {c : Nat → Int} (h : w.ownsRow base 3 1 v n (cells c n)) : Ints .i64 w v n c := by
  rcases h.2 with ⟨rfl, h0⟩ | ⟨g, cap, cur, rfl, _⟩
  · subst h0
    exact ⟨_, _, rfl, fun i hi => by omega⟩
  · exact ⟨_, cap, rfl, fun i hi => ⟨g, 0, rfl, by rw [Nat.zero_add]; exact (h.cellAt i (by omega)).trans (cells_at c n i hi)⟩⟩
theorem own_pos {w : World} {base n : Nat} {v : Value} {c : Nat → Int} (h : w.ownsRow base 3 1 v n (cells c n)) (hn : 0 < n) :
    ∃ g cap, v = .slice (some ⟨g, 0, none⟩) n cap ∧ (∀ k, k < n → w.cell? ⟨g, k, none⟩ = some (.int .i64 (c k)) ∧ w.frozen? ⟨g, k, none⟩ = false) ∧ base ≤ g ∧ g < w.heap.size := by
  have hl := h.lt
  rcases h.2 with ⟨_, h0⟩ | ⟨g, cap, cur, rfl, _⟩
  · omega
  · exact ⟨g, cap, rfl, fun k hk => ⟨(h.cellAt k (by omega)).trans (cells_at c _ k hk), h.frozenAt k⟩, (hl g rfl).1, (hl g rfl).2⟩
theorem own_set {w : World} {base n g cap k : Nat} {c : Nat → Int} (h : w.ownsRow base 3 1 (.slice (some ⟨g, 0, none⟩) n cap) n (cells c n)) (z : Int) :
    (w.setCell ⟨g, k, none⟩ (.int .i64 z)).ownsRow base 3 1 (.slice (some ⟨g, 0, none⟩) n cap) n (cells (upd c k z) n) := by
  have h1 := (h.stored k (.int .i64 z)).1
  rwa [cells_set] at h1
theorem kr_upd (c : Nat → Int) (i : Nat) (z : Int) : ∀ n, (n ≤ i → kr (upd c i z) n = kr c n) ∧ (i < n → kr (upd c i z) n + pt2 (c i) = kr c n + pt2 z)
  | 0 => ⟨fun _ => rfl, fun h => by omega⟩
  | n + 1 => by
    obtain ⟨h1, h2⟩ := kr_upd c i z n
    refine ⟨fun h => ?_, fun h => ?_⟩
    · have e : upd c i z n = c n := if_neg (by omega)
      simp only [kr, e]
      have := h1 (by omega)
      omega
    · by_cases e : i = n
      · subst e
        have e2 : upd c i z i = z := if_pos rfl
        have := h1 (Nat.le_refl _)
        simp only [kr, e2]
        omega
      · have e2 : upd c i z n = c n := if_neg (fun h => e h.symm)
        have := h2 (by omega)
        simp only [kr, e2]
        omega
theorem rng_upd {c : Nat → Int} {n : Nat} (h : Rng c n) (i : Nat) (z : Int) (h0 : 0 ≤ z) (h1 : z ≤ 15) : Rng (upd c i z) n := fun k hk => by
  unfold upd
  split
  · exact ⟨h0, h1⟩
  · exact h k hk
/-- One code is split in two. -/
theorem chk_split {c : Nat → Int} {n i k : Nat} (h : chk c n = 0) (hm : many c n ≠ 1) (hi : i < n) (hk : k < n) (m : Nat) (hc : c i = (m : Int)) (h0 : m ≠ 0) (h14 : m ≤ 14) (hck : c k = 0) :
    chk (upd (upd c i (m + 1)) k (m + 1)) n = 0 := by
  obtain ⟨hg, h1, _⟩ := chk_zero h
  have hs : kr c n = 32768 := by
    rcases h1 with h1 | h1
    · exact absurd h1 hm
    · exact h1
  have k1 := (kr_upd c i (m + 1) n).2 hi
  have k2 := (kr_upd (upd c i (m + 1)) k (m + 1) n).2 hk
  have ek : upd c i (m + 1) k = 0 := by
    unfold upd
    rw [if_neg (fun e => by rw [e] at hck; omega)]
    exact hck
  have p0 : pt2 (upd c i (m + 1) k) = 0 := by rw [ek]; rfl
  have p1 : pt2 (c i) = 2 ^ (15 - m) := by
    unfold pt2
    rw [if_neg (by omega), hc]
    rfl
  have p2 : pt2 ((m : Int) + 1) = 2 ^ (15 - (m + 1)) := by
    unfold pt2
    rw [if_neg (by omega), show ((m : Int) + 1).toNat = m + 1 by omega]
  have p3 : 2 ^ (15 - m) = 2 ^ (15 - (m + 1)) * 2 := by
    rw [← Nat.pow_succ]
    congr 1
    omega
  unfold chk
  rw [if_pos ((rngB_iff _ n).2 (rng_upd (rng_upd hg i (m + 1) (by omega) (by omega)) k (m + 1) (by omega) (by omega))), if_pos (Or.inr (by omega))]
/-- One code is left out. -/
theorem chk_less {c : Nat → Int} {n i : Nat} (h : chk c n = 0) (hm : many c n ≠ 1) (hi : i < n) (hc : c i ≠ 0) (hl : many (upd c i 0) n ≠ 1) : chk (upd c i 0) n = 3 := by
  obtain ⟨hg, h1, _⟩ := chk_zero h
  have hs : kr c n = 32768 := by
    rcases h1 with h1 | h1
    · exact absurd h1 hm
    · exact h1
  have k1 := (kr_upd c i 0 n).2 hi
  have p0 : pt2 0 = 0 := rfl
  have p1 : 0 < pt2 (c i) := by
    unfold pt2
    rw [if_neg hc]
    exact Nat.pow_pos (by omega)
  unfold chk
  rw [if_pos ((rngB_iff _ n).2 (rng_upd hg i 0 (by omega) (by omega))), if_neg (fun h => h.elim hl (by omega))]
end Go.Proofs.YtaidboopcoaeeaaDoor.Spl

namespace Go.Proofs.YtaidboopcoaeeaaDoor.Bak
open Go.ChangeShapes Go.WideShapes Go.ChangeAt Go.RowKit Go.Proofs.YtaidboopcoaeeaaDoor.Core Go.Proofs.YtaidboopcoaeeaaDoor.Math Go.Proofs.YtaidboopcoaeeaaDoor.Rvm Go.Proofs.YtaidboopcoaeeaaDoor.Dec Go.Proofs.YtaidboopcoaeeaaDoor.Wrd Go.Proofs.YtaidboopcoaeeaaDoor.Cou Go.Proofs.YtaidboopcoaeeaaDoor.Tre Go.Proofs.YtaidboopcoaeeaaDoor.Foot Go.Proofs.YtaidboopcoaeeaaDoor.Add Go.Proofs.YtaidboopcoaeeaaDoor.Wri Go.Proofs.YtaidboopcoaeeaaDoor.Bitin Go.Proofs.YtaidboopcoaeeaaDoor.Eyes

theorem write_no (lo hi g n : Nat) (c : Nat → Int) (hg : Rng c n) (k : Int) (p : Value) (w : World) (h : Tr w lo hi g c n) (hb : hasB c n k = false) : Calls Tryd.prog 48 #[.pointer (some ⟨g, 0, none⟩), p, .int .i64 k] w fun e w' => e = .returned (.bool false) ∧ w' = w := by
  have HA := has33 lo hi g n c hg k w h
  rw [hb] at HA
  have HH := hide HA
  clear HA h hb
  go_enter Tryd.func48, Tryd.ntmps48
  go_wp2_with fail
  refine (unhide HH).mono ?_
  rintro e w1 ⟨rfl, rfl⟩
  go_wp2
  go_ret
  exact ⟨rfl, rfl⟩
theorem turn_alloc {w : World} (g : Nat) (v : Value) (n : Nat) (o : Obj) (hlt : ∀ b, v.ownBlock = some b → b < w.heap.size) : Turn g v v n w (w.alloc o) :=
  ⟨(Upd.refl _ w).alloc o, fun _ h => .inl h, fun b k hb _ => ((Upd.refl (fun _ => False) w).alloc o).cell (p := ⟨b, k, none⟩) (hlt b hb) (fun h => h)⟩
set_option maxHeartbeats 400000 in
theorem write_yes (lo hi g n : Nat) (c : Nat → Int) (hg : Rng c n) (m : Nat) (hm : m < n) (hcm : c m ≠ 0) (gw : Nat) (u : Value) (V N : Nat) (w : World) (h : Tr w lo hi g c n) (hw : Wr w gw u V N) (hN : N ≤ 1000000) :
    Calls Tryd.prog 48 #[.pointer (some ⟨g, 0, none⟩), .pointer (some ⟨gw, 0, none⟩), .int .i64 m] w fun e w' => e = .returned (.bool true) ∧ ∃ u', Wr w' gw u' (V + uu c n m * 2 ^ N) (N + (qq c n m).toNat) ∧ Turn gw u u' (N / 8) w w' := by
  have hb : hasB c n (m : Int) = true := by
    unfold hasB
    rw [decide_eq_true_eq]
    exact ⟨by omega, by omega, hcm⟩
  have HA := has33 lo hi g n c hg m w h
  rw [hb] at HA
  have HH := hide HA
  have hq1 := qq_bd hg hm
  have hq0 := (qq_has hg hm).2 hcm
  obtain ⟨d, hd⟩ : ∃ d : Nat, qq c n m = (d : Int) := ⟨(qq c n m).toNat, by omega⟩
  have hu := uu_lt c n m
  rw [hd] at hu ⊢
  have hd15 : d ≤ 15 := by omega
  have hu2 : uu c n m ≤ 32768 := by
    have : 2 ^ d ≤ 2 ^ 15 := Nat.pow_le_pow_right (by omega) hd15
    have h3 : ((d : Int)).toNat = d := rfl
    rw [h3] at hu
    omega
  obtain ⟨h1, h2, h3, tb, sb, le, a1, a2, a3, a4, a5, a6, a7, a8, a9, a10⟩ := h
  have c0 := (a8.cell 0).trans (tc_0 _ _ _ _)
  have w0 := (a9.cell (m * 2)).trans (wrow_bits _ _ n m hm)
  have w1 := (a9.cell (m * 2 + 1)).trans (wrow_cnt _ _ n m hm)
  rw [hd] at w1
  have hmn : (m : Int) < (n : Int) := by omega
  have BY := hide (fun o => bits_yes gw u V N (uu c n m) d (w.alloc o) (hw.keep ((Upd.refl (fun _ => False) w).alloc o) (fun _ _ h => h)) (by omega) hu hN)
  have TA := hide (fun o => turn_alloc gw u (N / 8) o (fun b hb => (hw.raw.own.lt b hb).2))
  have NE := hide hw.raw.ne
  have LT := hide (fun b (hb : u.ownBlock = some b) => (hw.raw.own.lt b hb).2)
  have hdt : ((d : Int)).toNat = d := rfl
  rw [hdt]
  clear HA hb a8 a9 a10 a6 a7 hw hq0 hq1 hd hu hdt hcm
  generalize uu c n m = x at *
  go_enter Tryd.func48, Tryd.ntmps48
  go_wp2_with fail
  refine (unhide HH).mono ?_
  rintro e w2 ⟨rfl, rfl⟩
  go_wp2_with fail
  refine (unhide BY _).mono ?_
  rintro e w3 ⟨rfl, u', wr', t'⟩
  have WR := hide wr'
  have TU := hide ((unhide TA _).trans t' (Nat.le_refl _) (unhide NE) (unhide LT))
  clear wr' t' BY TA
  go_wp2
  go_ret
  exact ⟨rfl, u', unhide WR, unhide TU⟩

/-- Symbols that were told, the places of their bits in V. -/
structure Told (c : Nat → Int) (n : Nat) (ts : Nat → Int) (o : Nat → Nat) (T V N : Nat) : Prop where
  zero : o 0 = 0
  top : o T = N
  each : ∀ t, t < T → ∃ m : Nat, ts t = (m : Int) ∧ m < n ∧ c m ≠ 0 ∧ o (t + 1) = o t + (qq c n m).toNat ∧ o (t + 1) ≤ N ∧ V / 2 ^ o t % 2 ^ (qq c n m).toNat = uu c n m
theorem bits_keep (V x N o q : Nat) (h : o + q ≤ N) : (V + x * 2 ^ N) / 2 ^ o % 2 ^ q = V / 2 ^ o % 2 ^ q := by
  obtain ⟨r, rfl⟩ : ∃ r, N = o + (q + r) := ⟨N - o - q, by omega⟩
  have e : x * 2 ^ (o + (q + r)) = 2 ^ o * (2 ^ q * (x * 2 ^ r)) := by
    rw [Nat.pow_add, Nat.pow_add]
    simp only [Nat.mul_left_comm]
  rw [e, Nat.add_mul_div_left _ _ (Nat.pow_pos (by omega)), Nat.add_mul_mod_self_left]
theorem bits_new (V x N q : Nat) (h : V < 2 ^ N) (hx : x < 2 ^ q) : (V + x * 2 ^ N) / 2 ^ N % 2 ^ q = x := by
  rw [Nat.mul_comm, Nat.add_mul_div_left _ _ (Nat.pow_pos (by omega)), Nat.div_eq_of_lt h, Nat.zero_add, Nat.mod_eq_of_lt hx]
theorem told_nil (c : Nat → Int) (n : Nat) (ts : Nat → Int) (V : Nat) : Told c n ts (fun _ => 0) 0 V 0 := ⟨rfl, rfl, fun t ht => by omega⟩
theorem Told.next {c : Nat → Int} {n : Nat} {ts : Nat → Int} {o : Nat → Nat} {T V N m : Nat} (h : Told c n ts o T V N) (hV : V < 2 ^ N) (hm : m < n) (hc : c m ≠ 0) :
    Told c n (fun t => if t = T then (m : Int) else ts t) (fun t => if t = T + 1 then N + (qq c n m).toNat else o t) (T + 1) (V + uu c n m * 2 ^ N) (N + (qq c n m).toNat) := by
  refine ⟨?_, if_pos rfl, fun t ht => ?_⟩
  · show (if 0 = T + 1 then _ else o 0) = 0
    rw [if_neg (by omega)]
    exact h.zero
  · by_cases e : t = T
    · subst e
      refine ⟨m, if_pos rfl, hm, hc, ?_, ?_, ?_⟩
      · show (if t + 1 = t + 1 then _ else o (t + 1)) = (if t = t + 1 then _ else o t) + _
        rw [if_pos rfl, if_neg (by omega), h.top]
      · show (if t + 1 = t + 1 then _ else o (t + 1)) ≤ _
        rw [if_pos rfl]
        exact Nat.le_refl _
      · show _ / 2 ^ (if t = t + 1 then _ else o t) % _ = _
        rw [if_neg (by omega), h.top]
        exact bits_new V _ N _ hV (uu_lt c n m)
    · obtain ⟨m', h1, h2, h3, h4, h5, h6⟩ := h.each t (by omega)
      refine ⟨m', ?_, h2, h3, ?_, ?_, ?_⟩
      · show (if t = T then _ else ts t) = _
        rw [if_neg e, h1]
      · show (if t + 1 = T + 1 then _ else o (t + 1)) = (if t = T + 1 then _ else o t) + _
        rw [if_neg (by omega), if_neg (by omega), h4]
      · show (if t + 1 = T + 1 then _ else o (t + 1)) ≤ _
        rw [if_neg (by omega)]
        omega
      · show _ / 2 ^ (if t = T + 1 then _ else o t) % _ = _
        rw [if_neg (by omega), bits_keep V _ N (o t) _ (by omega), h6]
theorem num_byt (V : Nat) : ∀ n p, num (byt V) p n = V / 256 ^ p % 256 ^ n
  | 0, p => by simp [num, Nat.mod_one]
  | n + 1, p => by
    rw [num, num_byt V n (p + 1)]
    unfold byt
    rw [show 2 ^ (8 * p) = 256 ^ p by rw [Nat.pow_mul], Nat.pow_succ 256 p, ← Nat.div_div_eq_div_mul, Nat.pow_succ 256 n, Nat.mul_comm (256 ^ n) 256, Nat.mod_mul]
theorem val_byt (V N o L : Nat) (hV : V < 2 ^ N) : val (byt V) ((N + 7) / 8) o L = V / 2 ^ o % 2 ^ L := by
  unfold val
  have hlt : V < 256 ^ ((N + 7) / 8) := by
    refine Nat.lt_of_lt_of_le hV ?_
    rw [show 256 = 2 ^ 8 from rfl, ← Nat.pow_mul]
    exact Nat.pow_le_pow_right (by omega) (by omega)
  rw [num_byt, Nat.pow_zero, Nat.div_one, Nat.mod_eq_of_lt hlt]
theorem told_nx {c : Nat → Int} {n : Nat} {o : Nat → Nat} {V N t m : Nat} (hch : chk c n = 0) (hV : V < 2 ^ N) (hm : m < n) (hc : c m ≠ 0) (hb : o t + (qq c n m).toNat ≤ N) (hv : V / 2 ^ o t % 2 ^ (qq c n m).toNat = uu c n m) :
    Nx c n (fun j => bt (byt V) (o t + j)) (qq c n m).toNat m := by
  obtain ⟨hg, _, hk⟩ := chk_zero hch
  have g1 := hg m hm
  refine next_code hch (fun j => bt_le _ _) hm hc ?_ (fun hne => ?_)
  · by_cases h1 : many c n = 1
    · rw [if_pos h1, qq_one h1 hc]
      rfl
    · rw [if_neg h1, qq_many h1 hc]
  · have h3 : (qq c n m).toNat = (c m).toNat := by rw [qq_many hne hc]
    rw [← vm_rv (byt V) (byt_le V) ((N + 7) / 8) (o t) _ (by omega), val_byt V N _ _ hV, hv, uu_many hne hc, h3]
    exact rv_rv _ _ (cod_lt hg hk m hm _ (by omega) (by omega))
/-- What lies in memory. -/
structure Inv (w6 wr : World) (H gw : Nat) (c : Nat → Int) (n T V N : Nat) (u tv : Value) (ts : Nat → Int) (o : Nat → Nat) : Prop where
  wri : Wr wr gw u V N
  row : wr.ownsRow 0 3 1 tv T (Spl.cells ts T)
  ftH : ∀ b, Ft gw u b → H ≤ b
  tvH : ∀ b, tv.ownBlock = some b → H ≤ b ∧ ¬ Ft gw u b
  bel : Below H w6 wr
  told : Told c n ts o T V N
theorem row_keep {S : Nat → Prop} {w w' : World} {v : Value} {n : Nat} {xs : List Value} (h : w.ownsRow 0 3 1 v n xs) (u : Upd S w w') (hs : ∀ k, v.ownBlock = some k → ¬ S k) : w'.ownsRow 0 3 1 v n xs := by
  obtain ⟨h1, h2⟩ := h
  refine ⟨h1, ?_⟩
  rcases h2 with h2 | ⟨b, cap, cur, rfl, l0, hb, r⟩
  · exact .inl h2
  · exact .inr ⟨b, cap, cur, rfl, l0, (u.block b (Array.getElem?_eq_some_iff.1 hb).1 (hs b rfl)).trans hb, r⟩
theorem Inv.drewN {w6 wr : World} {H gw : Nat} {c : Nat → Int} {n T V N : Nat} {u tv : Value} {ts : Nat → Int} {o : Nat → Nat} (h : Inv w6 wr H gw c n T V N u tv ts o) (k : Nat) : Inv w6 (wr.drewN k) H gw c n T V N u tv ts o :=
  ⟨h.wri.keep ((Upd.refl (fun _ => False) wr).drewN k) (fun _ _ h => h), row_keep h.row ((Upd.refl (fun _ => False) wr).drewN k) (fun _ _ h => h), h.ftH, h.tvH, ⟨h.bel.os, h.bel.tape, h.bel.output, h.bel.size, h.bel.block⟩, h.told⟩
/-- Behind a symbol that was written, and not told yet. -/
structure Mid (w6 wr : World) (H gw : Nat) (c : Nat → Int) (n T V N m : Nat) (u tv : Value) (ts : Nat → Int) (o : Nat → Nat) : Prop where
  wri : Wr wr gw u (V + uu c n m * 2 ^ N) (N + (qq c n m).toNat)
  row : wr.ownsRow 0 3 1 tv T (Spl.cells ts T)
  ftH : ∀ b, Ft gw u b → H ≤ b
  tvH : ∀ b, tv.ownBlock = some b → H ≤ b ∧ ¬ Ft gw u b
  bel : Below H w6 wr
  told : Told c n ts o T V N
  lt : V < 2 ^ N
theorem Inv.write {w6 wr w' : World} {H gw : Nat} {c : Nat → Int} {n T V N m : Nat} {u u' tv : Value} {ts : Nat → Int} {o : Nat → Nat} (h : Inv w6 wr H gw c n T V N u tv ts o) (hH : H ≤ wr.heap.size)
    (hw : Wr w' gw u' (V + uu c n m * 2 ^ N) (N + (qq c n m).toNat)) (t : Turn gw u u' (N / 8) wr w') : Mid w6 w' H gw c n T V N m u' tv ts o := by
  refine ⟨hw, row_keep h.row t.upd (fun k hk => (h.tvH k hk).2), fun b hb => ?_, fun b hb => ⟨(h.tvH b hb).1, fun hf => ?_⟩, h.bel.trans (t.upd.below H hH h.ftH), h.told, h.wri.lt⟩
  · rcases hb with rfl | hb
    · exact h.ftH _ (.inl rfl)
    · rcases t.stays.foot b hb with h1 | h1
      · exact h.ftH b (.inr h1)
      · omega
  · rcases hf with rfl | hf
    · exact (h.tvH _ hb).2 (.inl rfl)
    · rcases t.stays.foot b hf with h1 | h1
      · exact (h.tvH b hb).2 (.inr h1)
      · have := (h.row.lt b hb).2
        omega
theorem Mid.drewN {w6 wr : World} {H gw : Nat} {c : Nat → Int} {n T V N m : Nat} {u tv : Value} {ts : Nat → Int} {o : Nat → Nat} (h : Mid w6 wr H gw c n T V N m u tv ts o) (k : Nat) : Mid w6 (wr.drewN k) H gw c n T V N m u tv ts o :=
  ⟨h.wri.keep ((Upd.refl (fun _ => False) wr).drewN k) (fun _ _ h => h), row_keep h.row ((Upd.refl (fun _ => False) wr).drewN k) (fun _ _ h => h), h.ftH, h.tvH, ⟨h.bel.os, h.bel.tape, h.bel.output, h.bel.size, h.bel.block⟩, h.told, h.lt⟩
theorem cells_snoc (ts : Nat → Int) (T : Nat) (z : Int) : Spl.cells ts T ++ [.int .i64 z] = Spl.cells (fun t => if t = T then z else ts t) (T + 1) := by
  unfold Spl.cells
  rw [List.range_succ, List.map_append]
  congr 1
  · apply List.map_congr_left
    intro k hk
    have := List.mem_range.1 hk
    have hne : ¬ k = T := by omega
    simp only [hne, if_false]
  · simp
theorem Mid.app {w6 wr w' : World} {H gw : Nat} {c : Nat → Int} {n T V N m : Nat} {u tv tv' : Value} {ts : Nat → Int} {o : Nat → Nat} {ob : Obj} (h : Mid w6 wr H gw c n T V N m u tv ts o) (hH : H ≤ wr.heap.size) (hm : m < n) (hc : c m ≠ 0)
    (own : w'.ownsRow 0 3 1 tv' (T + 1) (Spl.cells ts T ++ [.int .i64 (m : Int)])) (gr : (wr.alloc ob).grownBy w' tv.ownBlock) (ho : tv'.ownBlock = tv.ownBlock ∨ tv'.ownBlock = some (wr.alloc ob).heap.size) :
    Inv w6 w' H gw c n (T + 1) (V + uu c n m * 2 ^ N) (N + (qq c n m).toNat) u tv' (fun t => if t = T then (m : Int) else ts t) (fun t => if t = T + 1 then N + (qq c n m).toNat else o t) := by
  have up : Upd (fun k => tv.ownBlock = some k) wr w' := ⟨gr.os, gr.tape, gr.output, by have := gr.size; simp at this; omega, fun k hk hs => (gr.block k (by simp; omega) (fun e => hs e.symm)).trans (Below.heap_alloc _ _ _ hk)⟩
  rw [cells_snoc] at own
  refine ⟨h.wri.keep up (fun k hk hs => (h.tvH k hs).2 hk), own, h.ftH, fun b hb => ?_, h.bel.trans (up.below H hH (fun k hk => (h.tvH k hk).1)), h.told.next h.lt hm hc⟩
  rcases ho with h1 | h1
  · exact h.tvH b (h1 ▸ hb)
  · rw [h1] at hb
    cases hb
    refine ⟨by simp; omega, fun hf => ?_⟩
    have := h.wri.raw.lt _ hf
    simp at this
    omega
end Go.Proofs.YtaidboopcoaeeaaDoor.Bak
