/-
  Contracts: package bitout: New, Bits, Len, Bytes, by the number that the writer has written. Conditions: the writer lies in memory, its bits are few.
  Contract: package bitout's Bytes: new bytes, those of the number that was written. Conditions: the writer lies in memory, its bits are few.
  Contracts: the document's own answers (ref.One, ref.Check). Conditions: the slice reads as integers, and they are few.
  Numbers alone: how many symbols have a code that is nought, and how many one that is nothing but ones. Conditions: complete lengths.
-/
import Derived.Test.YtgjpcjnhggcfdaaGreatDoorC09
import Derived.Test.YtgjpcjnhggcfdaaGreatDoorC04
namespace Go.Proofs.YtgjpcjnhggcfdaaGreatDoor.Wri
open Go.ChangeShapes Go.WideShapes Go.ChangeAt Go.RowKit Go.Proofs.YtgjpcjnhggcfdaaGreatDoor.Core Go.Proofs.YtgjpcjnhggcfdaaGreatDoor.Foot Go.Proofs.YtgjpcjnhggcfdaaGreatDoor.Add

set_option maxRecDepth 100000 in
set_option maxHeartbeats 1000000 in
theorem len32 (x : Int) (w : World) (h0 : 0 ≤ x) (h1 : x ≤ 4294967295) :
    Calls Tryz.prog 50 #[.int .u32 x] w fun e w' => e = .returned (.int .i64 (bitLen x.toNat)) ∧ w' = w := by
  go_enter Tryz.func50, Tryz.ntmps50
  go_wp2
  all_goals (go_ret; refine ⟨congrArg Ending.returned (congrArg (Value.int IntKind.i64) ?_), rfl⟩)
  · rw [len8tab_get, show (x / 65536 / 256).toNat = x.toNat / 2 ^ 24 by omega]
    have l := bitLen_le8 (x.toNat / 2 ^ 24) (by omega)
    rw [bitLen_shift x.toNat 24 (by omega)]
    unfold wrap64
    omega
  · rw [len8tab_get, show (x / 65536).toNat = x.toNat / 2 ^ 16 by omega]
    have l := bitLen_le8 (x.toNat / 2 ^ 16) (by omega)
    rw [bitLen_shift x.toNat 16 (by omega)]
    unfold wrap64
    omega
  · rw [len8tab_get, show (x / 256).toNat = x.toNat / 2 ^ 8 by omega]
    have l := bitLen_le8 (x.toNat / 2 ^ 8) (by omega)
    rw [bitLen_shift x.toNat 8 (by omega)]
    unfold wrap64
    omega
  · rw [len8tab_get]
    have l := bitLen_le8 x.toNat (by omega)
    unfold wrap64
    omega
theorem bitLen_gt (v n : Nat) : n < bitLen v ↔ 2 ^ n ≤ v := by
  obtain ⟨h1, h2⟩ := bitLen_spec v
  constructor
  · intro h
    have h0 : v ≠ 0 := fun e => by subst e; simp [bitLen] at h
    exact Nat.le_trans (Nat.pow_le_pow_right (by omega) (by omega)) (h2 h0)
  · intro h
    exact (Nat.pow_lt_pow_iff_right (a := 2) (by omega)).1 (Nat.lt_of_le_of_lt h h1)
set_option maxHeartbeats 400000 in
theorem new8 (w : World) :
    Calls Tryz.prog 8 #[] w fun e w' => ∃ g, e = .returned (.pointer (some ⟨g, 0, none⟩)) ∧ w.heap.size ≤ g ∧ Wr w' g (.slice none 0 0) 0 0 ∧ Below w.heap.size w w' := by
  go_enter Tryz.func8, Tryz.ntmps8
  go_wp2
  go_ret
  refine ⟨w.heap.size, rfl, Nat.le_refl _, ⟨⟨Box.made _ _ _, World.ownsRow_nil _ _ _ _, by simp [Value.ownBlock]⟩, by decide⟩, (Below.refl _ w).alloc (Nat.le_refl _) _⟩
set_option maxHeartbeats 400000 in
theorem bits_nil (v n : Int) (w : World) :
    Calls Tryz.prog 26 #[.pointer none, .int .u32 v, .int .i64 n] w fun e w' => e = .returned (.bool false) ∧ w' = w := by
  go_enter Tryz.func26, Tryz.ntmps26
  go_wp2
  go_ret
  exact ⟨rfl, rfl⟩
set_option maxHeartbeats 400000 in
theorem bits_arg (g : Nat) (v n : Int) (w : World) (h : n < 0 ∨ 32 < n) :
    Calls Tryz.prog 26 #[.pointer (some ⟨g, 0, none⟩), .int .u32 v, .int .i64 n] w fun e w' => e = .returned (.bool false) ∧ w' = w := by
  rcases h with h | h
  · go_enter Tryz.func26, Tryz.ntmps26
    go_wp2
    go_ret
    exact ⟨rfl, rfl⟩
  · have h' : 0 ≤ n := by omega
    go_enter Tryz.func26, Tryz.ntmps26
    go_wp2
    go_ret
    exact ⟨rfl, rfl⟩
set_option maxHeartbeats 400000 in
theorem bits_much (g : Nat) (v n : Nat) (w : World) (hv : v ≤ 4294967295) (n1 : n ≤ 32) (h : 2 ^ n ≤ v) :
    Calls Tryz.prog 26 #[.pointer (some ⟨g, 0, none⟩), .int .u32 v, .int .i64 n] w fun e w' => e = .returned (.bool false) ∧ w' = w := by
  have L := hide (len32 (v : Int) w (by omega) (by omega))
  have hb := (bitLen_gt v n).2 h
  have n1' : (n : Int) ≤ 32 := by omega
  rw [show ((v : Int)).toNat = v from rfl] at L
  generalize bitLen v = b at *
  have hb' : (n : Int) < (b : Int) := by omega
  go_enter Tryz.func26, Tryz.ntmps26
  go_wp2_with (first | (go_at_call 50; refine (unhide L).mono ?_; rintro e w1 ⟨rfl, rfl⟩) | fail)
  go_ret
  exact ⟨rfl, rfl⟩
set_option maxHeartbeats 400000 in
theorem bits_yes (g : Nat) (u : Value) (V N v n : Nat) (w : World) (h : Wr w g u V N) (hn : n ≤ 32) (hv : v < 2 ^ n) (hN : N ≤ 1000000) :
    Calls Tryz.prog 26 #[.pointer (some ⟨g, 0, none⟩), .int .u32 v, .int .i64 n] w fun e w' => e = .returned (.bool true) ∧ ∃ u', Wr w' g u' (V + v * 2 ^ N) (N + n) ∧ Turn g u u' (N / 8) w w' := by
  have hv32 : v < 4294967296 := Nat.lt_of_lt_of_le hv (Nat.pow_le_pow_right (j := 32) (by omega) hn)
  have L := hide (len32 (v : Int) w (by omega) (by omega))
  have A := hide (add16 g u V N v n w h hn hv hN)
  have hb : ¬ n < bitLen v := fun h => by have := (bitLen_gt v n).1 h; omega
  have n1' : (n : Int) ≤ 32 := by omega
  rw [show ((v : Int)).toNat = v from rfl] at L
  generalize bitLen v = b at *
  have hb' : (b : Int) ≤ (n : Int) := by omega
  have hv' : (v : Int) ≤ 4294967295 := by omega
  clear h
  go_enter Tryz.func26, Tryz.ntmps26
  go_wp2_with (first | (go_at_call 50; refine (unhide L).mono ?_; rintro e w1 ⟨rfl, rfl⟩) | fail)
  refine (unhide A).mono ?_
  rintro e w1 ⟨rfl, R⟩
  have RR := hide R
  clear R A L
  go_wp2
  go_ret
  exact ⟨rfl, unhide RR⟩
set_option maxHeartbeats 400000 in
theorem len_nil (w : World) :
    Calls Tryz.prog 10 #[.pointer none] w fun e w' => e = .returned (.int .i64 0) ∧ w' = w := by
  go_enter Tryz.func10, Tryz.ntmps10
  go_wp2
  go_ret
  exact ⟨rfl, rfl⟩
set_option maxHeartbeats 400000 in
theorem len_at (g : Nat) (u : Value) (V N : Nat) (w : World) (h : Wr w g u V N) (hN : N ≤ 1000000) :
    Calls Tryz.prog 10 #[.pointer (some ⟨g, 0, none⟩)] w fun e w' => e = .returned (.int .i64 N) ∧ ∃ k, w' = w.drewN k := by
  obtain ⟨a, cap, rfl⟩ := own_slice h.raw.own
  have bx := h.raw.box
  clear h
  have e : (N / 8 : Nat) * 8 + N % 8 = N := by omega
  generalize N % 8 = c at *
  generalize V / 2 ^ (8 * (N / 8)) = r at *
  generalize N / 8 = K at *
  have h0 := bx.cell 0
  have h2 := bx.cell 2
  simp at h0 h2
  have k1 : (K : Int) ≤ 200000 := by omega
  have k2 : (c : Int) ≤ 1000000 := by omega
  have E := hide e
  clear bx e
  go_enter Tryz.func10, Tryz.ntmps10
  go_wp2
  go_quiet (fail)
  go_wp2
  go_ret
  exact ⟨ret_int (by have := unhide E; omega), _, rfl⟩
end Go.Proofs.YtgjpcjnhggcfdaaGreatDoor.Wri

namespace Go.Proofs.YtgjpcjnhggcfdaaGreatDoor.Byt
open Go.ChangeShapes Go.WideShapes Go.ChangeAt Go.RowKit Go.Proofs.YtgjpcjnhggcfdaaGreatDoor.Core Go.Proofs.YtgjpcjnhggcfdaaGreatDoor.Foot Go.Proofs.YtgjpcjnhggcfdaaGreatDoor.Add Go.Proofs.YtgjpcjnhggcfdaaGreatDoor.Wri

theorem own_base {w : World} {B n : Nat} {v : Value} {xs : List Value} (h : w.ownsRow 0 5 1 v n xs) (hB : ∀ k, v.ownBlock = some k → B ≤ k) : w.ownsRow B 5 1 v n xs := by
  refine ⟨h.1, ?_⟩
  rcases h.2 with h | ⟨g, cap, cur, rfl, _, r⟩
  · exact .inl h
  · exact .inr ⟨g, cap, cur, rfl, hB g rfl, r⟩
theorem run_app_src (w : World) (ty : TypeId) (v : Value) (n : Nat) (xs : List Value) (hown : w.ownsRow 0 5 1 v n xs) (x : Value) (len : Nat) (c : Nat → Nat) (src : Src w x len c) (hn : n + len ≤ 1000000) :
    ∃ v' w', (Builtin.append_ #[47, 47] ty #[v, x]).run Tryz.prog w = .ok v' w' ∧ w'.ownsRow 0 5 1 v' (n + len) (xs ++ cells c len) ∧ w.grownBy w' v.ownBlock ∧ Stays w w' v v' n := by
  obtain ⟨i0, hi, hz0, hz1, hz2⟩ := info_parts Tryz.info5
  rcases src with ⟨rfl, rfl⟩ | ⟨ad, cap, rfl, hc⟩
  · refine ⟨v, w, run_append_owned_none w 0 47 ty 5 i0 1 Tryz.underlying47 hi v n xs hown, ?_, grown_refl _ _, fun _ h => .inl h, fun _ _ _ _ => rfl⟩
    rw [show cells c 0 = [] from rfl, List.append_nil]
    exact hown
  · exact run_app w ty v n xs hown ad len cap (cells c len) (cells_len _ _) (news_of hc) (cells_one _ _) hn
theorem step_app_src {ops : Array Oper} {o : Oper} {a : Act} {w : World} {K : Act → World → Prop} {Q : Exit → Act → World → Prop} {E : Prop}
    (hg : o.guard = none) (s x : Operand) (hop : o.op = Op.call { callee := Callee.builtin Builtin.append, args := #[s, x], argTypes := #[47, 47] })
    (v : Value) (n : Nat) (xs : List Value) (hs : a.eval s = v) (hown : w.ownsRow 0 5 1 v n xs) (u : Value) (len : Nat) (c : Nat → Nat) (hx : a.eval x = u) (src : Src w u len c) (hn : n + len ≤ 1000000)
    (hK : ∀ v' w', w'.ownsRow 0 5 1 v' (n + len) (xs ++ cells c len) → w.grownBy w' v.ownBlock → Stays w w' v v' n → K (a.put o.dst v') w') :
    if Region.wanted o (yielded ops a.tmps) = true then Oper.wp Tryz.prog o a w K Q else E := by
  have hw : Region.wanted o (yielded ops a.tmps) = true := by simp [Region.wanted, hg]
  rw [if_pos hw]
  obtain ⟨v', w', hr, r1, r2, r3⟩ := run_app_src w o.type v n xs hown u len c src hn
  unfold Oper.wp
  simp [execOp, hop, resolve, invoke, builtin, hs, hx, hr, Result.andThen]
  exact hK v' w' r1 r2 r3
theorem list_app_src {w : World} {ops : Array Oper} {rest : List Oper} {o : Oper} {a : Act} {Q : Exit → Act → World → Prop} (hg : o.guard = none) (s x : Operand)
    (hop : o.op = .call { callee := .builtin .append, args := #[s, x], argTypes := #[47, 47] })
    (v : Value) (n : Nat) (xs : List Value) (hs : a.eval s = v) (hown : w.ownsRow 0 5 1 v n xs) (u : Value) (len : Nat) (c : Nat → Nat) (hx : a.eval x = u) (src : Src w u len c) (hn : n + len ≤ 1000000)
    (hK : ∀ v' w', w'.ownsRow 0 5 1 v' (n + len) (xs ++ cells c len) → w.grownBy w' v.ownBlock → Stays w w' v v' n → wpList Tryz.prog ops Q rest (a.put o.dst v') w') : wpList Tryz.prog ops Q (o :: rest) a w := by
  refine wpList_plain hg fun K hK' => ?_
  obtain ⟨v', w', hr, r1, r2, r3⟩ := run_app_src w o.type v n xs hown u len c src hn
  unfold Oper.wp
  simp [execOp, hop, resolve, invoke, builtin, hs, hx, hr, Result.andThen]
  exact hK' _ _ (hK v' w' r1 r2 r3)
set_option maxHeartbeats 400000 in
theorem bytes_nil (w : World) :
    Calls Tryz.prog 13 #[.pointer none] w fun e w' => e = .returned (.slice none 0 0) ∧ w' = w := by
  go_enter Tryz.func13, Tryz.ntmps13
  go_wp2
  go_ret
  exact ⟨rfl, rfl⟩
theorem make_row (w : World) (K : Nat) (hK : K ≤ 1000000) : (Instr.makeSlice 47 (.int .i64 0) (.int .i64 (IntKind.i64.wrap ((K : Int) + 1)))).run Tryz.prog w = .ok (.slice (some ⟨w.heap.size, 0, none⟩) 0 (K + 1)) (w.alloc (.cells (madeCells #[.int .u8 0] (K + 1)) 5)) := by
  obtain ⟨i0, hi, hz0, hz1, hz2⟩ := info_parts Tryz.info5
  have e : IntKind.i64.wrap ((K : Int) + 1) = (K : Int) + 1 := by rw [IntKind.wrap_i64]; omega
  rw [e]
  have := run_make (P := Tryz.prog) w 47 5 i0 (.int .u8 0) Tryz.underlying47 hi hz0 .i64 .i64 0 ((K : Int) + 1) (by omega) (by omega) (by rw [hz2]; omega) (by omega)
  rw [hz1] at this
  rw [this]
  simp [Value.cells]

set_option maxRecDepth 20000 in
set_option maxHeartbeats 1000000 in
theorem bytes_at (g : Nat) (u : Value) (V N : Nat) (w : World) (h : Wr w g u V N) (hN : N ≤ 1000000) :
    Calls Tryz.prog 13 #[.pointer (some ⟨g, 0, none⟩)] w fun e w' => ∃ v, e = .returned v ∧ w'.ownsRow w.heap.size 5 1 v ((N + 7) / 8) (cells (byt V) ((N + 7) / 8)) ∧ Below w.heap.size w w' := by
  have SRC := hide (src_of_own h.raw.own)
  have OWN := hide h.raw.own
  obtain ⟨a, cap, rfl⟩ := own_slice h.raw.own
  have bx := h.raw.box
  clear h
  have e1 : N / 8 ≤ 125000 := by omega
  have e2 : (N + 7) / 8 = if 0 < N % 8 then N / 8 + 1 else N / 8 := by split <;> omega
  have hr : byt V (N / 8) = V / 2 ^ (8 * (N / 8)) % 256 := rfl
  generalize N % 8 = c at *
  generalize V / 2 ^ (8 * (N / 8)) = r at *
  generalize N / 8 = K at *
  generalize (N + 7) / 8 = L at *
  have h0 := bx.cell 0
  have h1 := bx.cell 1
  have h2 := bx.cell 2
  simp at h0 h1 h2
  have BX := hide bx
  have k1 : (K : Int) ≤ 200000 := by omega
  have hmk := fun w => make_row w K (by omega)
  have p0 : ∀ o, (w.alloc o).cell? ⟨g, 0, none⟩ = some (.slice a K cap) := fun o => by have := (box_alloc bx o).cell 0; simpa using this
  have OM : Hid ((w.alloc (.cells (madeCells #[.int .u8 0] (K + 1)) 5)).drew.ownsRow 0 5 1 (.slice (some ⟨w.heap.size, 0, none⟩) 0 (K + 1)) 0 []) :=
    (World.ownsRow_made (base := 0) (e := 5) (size := 1) w _ (K + 1) (Nat.zero_le _) (by unfold maxLen; omega) (by rw [size_madeCells]; omega)).drew
  have UM : Upd (fun _ => False) w (w.alloc (.cells (madeCells #[.int .u8 0] (K + 1)) 5)).drew := ((Upd.refl (fun _ => False) w).alloc _).drewN 1
  have SM := hide ((unhide SRC).keep UM (fun _ h => h.elim))
  have UM' := hide UM
  clear bx UM
  go_enter Tryz.func13, Tryz.ntmps13
  go_wp2
  go_region_law (refine step_app_src rfl (.tmp 12) (.tmp 16) rfl (.slice (some ⟨w.heap.size, 0, none⟩) 0 (K + 1)) 0 [] (by simp [Act.eval]) (unhide OM) (.slice a K cap) K (byt V) (by simp [Act.eval]) (unhide SM) (by omega) ?_; intro v' w' hown hgrow hstay; rw [Nat.zero_add, List.nil_append] at hown; have BX' := hide (box_grown (box_drew (box_alloc (unhide BX) _)) hgrow (by have := (unhide BX).lt; simp [Value.ownBlock]; omega)); have OW' := hide hown; have GR := hide hgrow; have ST := hide hstay; clear hown hgrow hstay)
  all_goals
    have bel : Below w.heap.size w w' := (((Below.refl w.heap.size w).alloc (Nat.le_refl _) _).drew).grown (unhide GR) (by simp [World.drew]) (fun k hk => by cases hk; exact Nat.le_refl _)
    have lb : ∀ k, v'.ownBlock = some k → w.heap.size ≤ k := fun k hk => by
      rcases (unhide ST).foot k hk with h | h
      · cases h; exact Nat.le_refl _
      · simp [World.drew] at h; omega
    have BEL := hide bel
    have LB := hide lb
    have m1 := (unhide BX').cell 1
    have m2 := (unhide BX').cell 2
    simp at m1 m2
    clear bel lb
    by_cases hc : 0 < c
    · have hc' : (0 : Int) < (c : Int) := by omega
      rw [if_pos hc] at e2
      subst e2
      have hsz := (unhide BEL).size
      go_wp2_with (first | (at_builtin; refine list_app rfl (.tmp 23) (.tmp 29) rfl v' K (cells (byt V) K) rfl ((unhide OW').alloc _) ⟨w'.heap.size, 0, none⟩ 1 1 [.int .u8 ((r : Int) % 256)] rfl rfl (one_src _ _) (one_one _ _) (by omega) ?_; intro v2 w2 hown2 hgrow2 hstay2; have OW2 := hide hown2; have GR2 := hide hgrow2; have ST2 := hide hstay2; clear hown2 hgrow2 hstay2) | fail)
      go_ret
      have o2 := unhide OW2
      have e : ((r : Int) % 256) = ((byt V K : Nat) : Int) := by rw [hr]; omega
      rw [e, ← cells_succ] at o2
      refine ⟨_, rfl, own_base o2 (fun k hk => ?_), ((unhide BEL).alloc hsz _).grown (unhide GR2) (by simp; omega) (unhide LB)⟩
      rcases (unhide ST2).foot k hk with h | h
      · exact unhide LB k h
      · simp at h; omega
    · have hc' : ¬ (0 : Int) < (c : Int) := by omega
      rw [if_neg hc] at e2
      subst e2
      go_wp2
      go_ret
      exact ⟨_, rfl, own_base (unhide OW') (unhide LB), unhide BEL⟩
end Go.Proofs.YtgjpcjnhggcfdaaGreatDoor.Byt

namespace Go.Proofs.YtgjpcjnhggcfdaaGreatDoor.Rck
open Go.ChangeShapes Go.WideShapes Go.ChangeAt Go.RowKit Go.Proofs.YtgjpcjnhggcfdaaGreatDoor.Core Go.Proofs.YtgjpcjnhggcfdaaGreatDoor.Gnd Go.Proofs.YtgjpcjnhggcfdaaGreatDoor.Math Go.Proofs.YtgjpcjnhggcfdaaGreatDoor.Each Go.Proofs.YtgjpcjnhggcfdaaGreatDoor.One Go.Proofs.YtgjpcjnhggcfdaaGreatDoor.Chk Go.Proofs.YtgjpcjnhggcfdaaGreatDoor.Fst Go.Proofs.YtgjpcjnhggcfdaaGreatDoor.Cod

set_option maxHeartbeats 1000000 in
theorem rone9 (v : Value) (len : Nat) (c : Nat → Int) (hl : len ≤ 100000) (w : World) (src : Ints .i64 w v len c) :
    Calls Tryz.prog 71 #[v] w fun e w' => e = .returned (.tuple #[.int .i64 (if many c len = 1 then (sel c len : Int) else 0), .bool (decide (many c len = 1))]) ∧ w' = w := by
  obtain ⟨a, cap, rfl, hs⟩ := src
  have SRC := hide hs
  have MS := hide (many_sel c len)
  clear hs
  go_enter Tryz.func71, Tryz.ntmps71
  go_wp2
  go_loopw [4, 5, 6] (fun s m i wr => ∃ k : Nat, k ≤ len ∧ i = .int .i64 k ∧ s = .int .i64 (sel1 c k) ∧ m = .int .i64 (many c k) ∧ wr = w) (fun _ _ i _ => len - (intOf i).toNat)
  case atStart => exact ⟨0, Nat.zero_le _, rfl, rfl, rfl, rfl⟩
  case round =>
    obtain ⟨k, hk, rfl, rfl, rfl, rfl⟩ := hrel
    by_cases hlt : k < len
    · have hlt' : (k : Int) < (len : Int) := by omega
      obtain ⟨b, off, rfl, hcell⟩ := unhide SRC k hlt
      have ml := many_le c k
      by_cases hz : c k = 0
      · have E1 : Hid (many c (k + 1) = many c k) := by simp [Hid, many, hz]
        have E2 : Hid (sel1 c (k + 1) = sel1 c k) := by simp [Hid, sel1, hz]
        rw [hz] at hcell
        clear hz
        go_wp2
        go_roundw
        case rel => exact ⟨k + 1, by omega, by go_num, by rw [unhide E2], by rw [unhide E1], by first | rfl | trivial⟩
        case measure => simp [intOf]; omega
      · have E1 : Hid (many c (k + 1) = many c k + 1) := by simp [Hid, many, hz]
        by_cases hm : many c k = 0
        · have E2 : Hid (sel1 c (k + 1) = k) := by simp [Hid, sel1, hz, hm]
          have hm' : (many c k : Int) = 0 := by omega
          go_wp2
          go_roundw
          case rel => exact ⟨k + 1, by omega, by go_num, by rw [unhide E2], by rw [unhide E1, hm]; rfl, by first | rfl | trivial⟩
          case measure => simp [intOf]; omega
        · have E2 : Hid (sel1 c (k + 1) = sel1 c k) := by simp [Hid, sel1, hm]
          have hm' : ¬ (many c k : Int) = 0 := by omega
          go_wp2
          go_roundw
          case rel => exact ⟨k + 1, by omega, by go_num, by rw [unhide E2], by rw [unhide E1]; go_num, by first | rfl | trivial⟩
          case measure => simp [intOf]; omega
    · obtain rfl : k = len := by omega
      by_cases hm : many c k = 1
      · have hm' : (many c k : Int) = 1 := by omega
        go_wp2
        go_ret2
        refine ⟨?_, rfl⟩
        rw [(unhide MS).2 hm]
        simp
      · have hm' : ¬ (many c k : Int) = 1 := by omega
        go_wp2
        go_ret2
        refine ⟨?_, rfl⟩
        simp
theorem Rng.next {c : Nat → Int} {k : Nat} (h : Rng c k) (h1 : 0 ≤ c k) (h2 : c k ≤ 15) : Rng c (k + 1) := fun j hj => by
  by_cases e : j = k
  · subst e; exact ⟨h1, h2⟩
  · exact h j (by omega)
set_option maxHeartbeats 2000000 in
theorem rcheck12 (v : Value) (len : Nat) (c : Nat → Int) (hl : len ≤ 100000) (w : World) (src : Ints .i64 w v len c) :
    Calls Tryz.prog 52 #[v] w fun e w' => e = .returned (.int .i64 (chk c len)) ∧ w' = w := by
  obtain ⟨a, cap, rfl, hs⟩ := src
  have SRC := hide hs
  clear hs
  go_enter Tryz.func52, Tryz.ntmps52
  go_wp2
  go_loopw [3, 4, 5] (fun s m i wr => ∃ k : Nat, k ≤ len ∧ i = .int .i64 k ∧ s = .int .i64 (kr c k) ∧ m = .int .i64 (many c k) ∧ Rng c k ∧ wr = w) (fun _ _ i _ => len - (intOf i).toNat)
  case atStart => exact ⟨0, Nat.zero_le _, rfl, rfl, rfl, fun j hj => by omega, rfl⟩
  case round =>
    obtain ⟨k, hk, rfl, rfl, rfl, good, rfl⟩ := hrel
    have GOOD := hide good
    clear good
    by_cases hlt : k < len
    · have hlt' : (k : Int) < (len : Int) := by omega
      obtain ⟨b, off, rfl, hcell⟩ := unhide SRC k hlt
      have ml := many_le c k
      have kl := kr_le c k
      by_cases h1 : c k < 0
      · have BAD : Hid (chk c len = 8) := by
          unfold Hid chk
          rw [if_neg (fun h => by have := (rngB_iff c len).1 h k hlt; omega)]
        go_wp2
        go_ret
        exact ⟨by rw [unhide BAD]; rfl, rfl⟩
      · by_cases h2 : 15 < c k
        · have BAD : Hid (chk c len = 8) := by
            unfold Hid chk
            rw [if_neg (fun h => by have := (rngB_iff c len).1 h k hlt; omega)]
          go_wp2
          go_ret
          exact ⟨by rw [unhide BAD]; rfl, rfl⟩
        · have NEXT := hide (Rng.next (unhide GOOD) (by omega) (by omega))
          by_cases hz : c k = 0
          · have E1 : Hid (many c (k + 1) = many c k) := by simp [Hid, many, hz]
            have E2 : Hid (kr c (k + 1) = kr c k) := by simp [Hid, kr, pt2, hz]
            rw [hz] at hcell
            clear hz h1 h2
            go_wp2
            go_roundw
            case rel => exact ⟨k + 1, by omega, by go_num, by rw [unhide E2], by rw [unhide E1], unhide NEXT, by first | rfl | trivial⟩
            case measure => simp [intOf]; omega
          · obtain ⟨m, hcm⟩ : ∃ m : Nat, c k = (m : Int) := ⟨(c k).toNat, by omega⟩
            have E1 : Hid (many c (k + 1) = many c k + 1) := by simp [Hid, many, hz]
            have E2 : Hid (kr c (k + 1) = kr c k + 2 ^ (15 - m)) := by
              have := pt2_of hcm (by omega)
              simp [Hid, kr, this]
            rw [hcm] at hcell h1 h2 hz
            have HCM := hide hcm
            have hm0 : 0 < m := by omega
            have hm : m ≤ 15 := by omega
            clear hcm h1 h2 hz
            generalize kr c k = x at *
            generalize many c k = y at *
            go_wp2
            go_loopw [6, 7] (fun p j wi => ∃ q : Nat, q ≤ m ∧ j = .int .i64 q ∧ p = .int .i64 (2 ^ (15 - q) : Nat) ∧ wi = wr) (fun _ j _ => m - (intOf j).toNat)
            case atStart => exact ⟨0, Nat.zero_le _, rfl, rfl, rfl⟩
            case round =>
              obtain ⟨q, hq, rfl, rfl, rfl⟩ := hrel
              have hzb : 2 ^ (15 - q) ≤ 2 ^ 15 := Nat.pow_le_pow_right (by omega) (by omega)
              by_cases hqm : q < m
              · have hqm' : (q : Int) < (m : Int) := by omega
                have ZZ : Hid (2 ^ (15 - q) = 2 * 2 ^ (15 - (q + 1))) := by
                  unfold Hid
                  rw [show 15 - q = (15 - (q + 1)) + 1 by omega, Nat.pow_succ, Nat.mul_comm]
                generalize hz : 2 ^ (15 - q) = z at *
                go_wp2
                go_roundw
                case rel => exact ⟨q + 1, by omega, by go_num, by have := unhide ZZ; congr 1; omega, by first | rfl | trivial⟩
                case measure => simp [intOf]; omega
              · obtain rfl : q = m := by omega
                generalize 2 ^ (15 - q) = z at *
                go_wp2
                go_roundw
                case rel => exact ⟨k + 1, by omega, by go_num, by rw [unhide E2]; go_num, by rw [unhide E1]; go_num, unhide NEXT, by first | rfl | trivial⟩
                case measure => simp [intOf]; omega
    · obtain rfl : k = len := by omega
      have ml := many_le c k
      have kl := kr_le c k
      by_cases hm : many c k = 1
      · have C0 : Hid (chk c k = 0) := by
          unfold Hid chk
          rw [if_pos ((rngB_iff c k).2 (unhide GOOD)), if_pos (Or.inl hm)]
        have hm' : (many c k : Int) = 1 := by omega
        clear hm
        go_wp2
        go_ret
        exact ⟨by rw [unhide C0]; rfl, rfl⟩
      · have hm' : ¬ (many c k : Int) = 1 := by omega
        by_cases hkr : kr c k = 32768
        · have C0 : Hid (chk c k = 0) := by
            unfold Hid chk
            rw [if_pos ((rngB_iff c k).2 (unhide GOOD)), if_pos (Or.inr hkr)]
          have hk' : (kr c k : Int) = 32768 := by omega
          clear hm hkr
          go_wp2
          go_ret
          exact ⟨by rw [unhide C0]; rfl, rfl⟩
        · have C0 : Hid (chk c k = 3) := by
            unfold Hid chk
            rw [if_pos ((rngB_iff c k).2 (unhide GOOD)), if_neg (fun h => h.elim hm hkr)]
          have d1 : (((many c k : Nat) : Int) == 1) = false := beq_eq_false_iff_ne.2 (by omega)
          have d2 : (((kr c k : Nat) : Int) == 32768) = false := beq_eq_false_iff_ne.2 (by omega)
          clear hm hkr hm'
          go_wp2
          go_ret
          exact ⟨by rw [unhide C0]; rfl, rfl⟩
end Go.Proofs.YtgjpcjnhggcfdaaGreatDoor.Rck

namespace Go.Proofs.YtgjpcjnhggcfdaaGreatDoor.Cnt
open Go.RowKit Go.Proofs.YtgjpcjnhggcfdaaGreatDoor.Core Go.Proofs.YtgjpcjnhggcfdaaGreatDoor.Gnd Go.Proofs.YtgjpcjnhggcfdaaGreatDoor.Math

def num (P : Nat → Bool) : Nat → Nat
  | 0 => 0
  | n + 1 => num P n + if P n = true then 1 else 0
theorem num_le (P : Nat → Bool) : ∀ n, num P n ≤ n
  | 0 => Nat.le_refl _
  | n + 1 => by
    have := num_le P n
    unfold num
    split <;> omega
theorem num_yes {P : Nat → Bool} {n : Nat} (h : P n = true) : num P (n + 1) = num P n + 1 := by simp [num, h]
theorem num_no {P : Nat → Bool} {n : Nat} (h : P n = false) : num P (n + 1) = num P n := by simp [num, h]
theorem num_none {P : Nat → Bool} : ∀ n, (∀ k, k < n → P k = false) → num P n = 0
  | 0, _ => rfl
  | n + 1, h => by rw [num_no (h n (by omega)), num_none n (fun k hk => h k (by omega))]
theorem num_one {P : Nat → Bool} : ∀ n, (∃ k, k < n ∧ P k = true) → (∀ i k, i < n → k < n → P i = true → P k = true → i = k) → num P n = 1
  | 0, ⟨k, hk, _⟩, _ => by omega
  | n + 1, ⟨k, hk, hp⟩, h => by
    by_cases hn : P n = true
    · rw [num_yes hn, num_none n (fun j hj => ?_)]
      cases hj2 : P j
      · rfl
      · have := h j n (by omega) (by omega) hj2 hn
        omega
    · have hn' : P n = false := by simpa using hn
      rw [num_no hn']
      refine num_one n ⟨k, ?_, hp⟩ (fun i k hi hk => h i k (by omega) (by omega))
      by_cases e : k = n
      · subst e; exact absurd hp hn
      · omega
def isLow (c : Nat → Int) (len k : Nat) : Bool := decide (c k ≠ 0 ∧ cod c len k = 0)
def isHigh (c : Nat → Int) (len k : Nat) : Bool := decide (c k ≠ 0 ∧ cod c len k + 1 = 2 ^ (c k).toNat)
theorem low_one {c : Nat → Int} {n : Nat} (h : chk c n = 0) : num (isLow c n) n = 1 := by
  obtain ⟨hg, h1, hk⟩ := chk_zero h
  have hex : ∃ k, k < n ∧ c k ≠ 0 := by
    rcases h1 with h1 | h1
    · exact many_pos c n (by omega)
    · exact kr_pos c n (by omega)
  obtain ⟨k, hk2, hc⟩ := hex
  obtain ⟨i, hi, h2, h3⟩ := low_there hg hk2 hc
  refine num_one n ⟨i, hi, by simp [isLow, h2, h3]⟩ ?_
  intro i k hi hk p q
  simp only [isLow, decide_eq_true_eq] at p q
  by_cases e : i = k
  · exact e
  · exfalso
    have gi := hg i hi
    have gk := hg k hk
    have a1 : c i = ((c i).toNat : Int) := by omega
    have a2 : c k = ((c k).toNat : Int) := by omega
    rcases Nat.le_total (c i).toNat (c k).toNat with hle | hle
    · exact apart hg hi hk (fun h => e h.symm) _ _ a1 a2 (by omega) hle (by rw [p.2, q.2, Nat.zero_div])
    · exact apart hg hk hi e _ _ a2 a1 (by omega) hle (by rw [p.2, q.2, Nat.zero_div])
theorem ones_div {a b x : Nat} (h : x + 1 = 2 ^ b) (hab : a ≤ b) : x / 2 ^ (b - a) + 1 = 2 ^ a := by
  have h1 : 2 ^ b = 2 ^ a * 2 ^ (b - a) := by rw [← Nat.pow_add]; congr 1; omega
  have h2 : 0 < 2 ^ (b - a) := Nat.pow_pos (by omega)
  have h3 : 0 < 2 ^ a := Nat.pow_pos (by omega)
  have h4 : x / 2 ^ (b - a) = 2 ^ a - 1 := by
    rw [Nat.div_eq_iff h2]
    generalize 2 ^ a = A at *
    generalize 2 ^ (b - a) = B at *
    have : (A - 1) * B + B = A * B := by
      rw [← Nat.succ_mul]
      congr 1
      omega
    omega
  omega
theorem high_one {c : Nat → Int} {n : Nat} (h : chk c n = 0) (hm : many c n ≠ 1) : num (isHigh c n) n = 1 := by
  obtain ⟨hg, h1, hk⟩ := chk_zero h
  have hs : kr c n = 32768 := by
    rcases h1 with h1 | h1
    · exact absurd h1 hm
    · exact h1
  obtain ⟨i, m, hi, h2, h3, h4⟩ := high_there hg hs
  refine num_one n ⟨i, hi, ?_⟩ ?_
  · have : (c i).toNat = m := by omega
    simp only [isHigh, decide_eq_true_eq]
    exact ⟨by omega, by rw [this]; exact h4⟩
  · intro i k hi hk p q
    simp only [isHigh, decide_eq_true_eq] at p q
    by_cases e : i = k
    · exact e
    · exfalso
      have gi := hg i hi
      have gk := hg k hk
      have a1 : c i = ((c i).toNat : Int) := by omega
      have a2 : c k = ((c k).toNat : Int) := by omega
      rcases Nat.le_total (c i).toNat (c k).toNat with hle | hle
      · have := ones_div q.2 hle
        exact apart hg hi hk (fun h => e h.symm) _ _ a1 a2 (by omega) hle (by have := p.2; omega)
      · have := ones_div p.2 hle
        exact apart hg hk hi e _ _ a2 a1 (by omega) hle (by have := q.2; omega)
theorem pow15 (m : Nat) (h : m ≤ 15) : (1 : Int) ≤ 2 ^ m ∧ (2 : Int) ^ m ≤ 32768 ∧ ((2 ^ m : Nat) : Int) = (2 : Int) ^ m := by
  have h1 : (2 : Nat) ^ m ≤ 2 ^ 15 := Nat.pow_le_pow_right (by omega) h
  have h2 : 0 < (2 : Nat) ^ m := Nat.pow_pos (by omega)
  have h3 : ((2 ^ m : Nat) : Int) = (2 : Int) ^ m := by simp
  have h4 : (2 : Nat) ^ 15 = 32768 := by decide
  omega
theorem below_drewN {B : Nat} {a w : World} (h : Below B a w) (n : Nat) : Below B a (w.drewN n) := ⟨h.os, h.tape, h.output, h.size, h.block⟩
end Go.Proofs.YtgjpcjnhggcfdaaGreatDoor.Cnt
