/- Contract: package bitout's Bytes: new bytes, those of the number that was written. Conditions: the writer lies in memory, its bits are few. -/
import Derived.Test.YtlejicikgmanfaaWri
namespace Go.Proofs.Ytlejicikgmanfaa.Byt
open Go.ChangeShapes Go.WideShapes Go.ChangeAt Go.RowKit Go.Proofs.Ytlejicikgmanfaa.Core Go.Proofs.Ytlejicikgmanfaa.Foot Go.Proofs.Ytlejicikgmanfaa.Add Go.Proofs.Ytlejicikgmanfaa.Wri

theorem own_base {w : World} {B n : Nat} {v : Value} {xs : List Value} (h : w.ownsRow 0 5 1 v n xs) (hB : ∀ k, v.ownBlock = some k → B ≤ k) : w.ownsRow B 5 1 v n xs := by
  refine ⟨h.1, ?_⟩
  rcases h.2 with h | ⟨g, cap, cur, rfl, _, r⟩
  · exact .inl h
  · exact .inr ⟨g, cap, cur, rfl, hB g rfl, r⟩
theorem run_app_src (w : World) (ty : TypeId) (v : Value) (n : Nat) (xs : List Value) (hown : w.ownsRow 0 5 1 v n xs) (x : Value) (len : Nat) (c : Nat → Nat) (src : Src w x len c) (hn : n + len ≤ 1000000) :
    ∃ v' w', (Builtin.append_ #[23, 23] ty #[v, x]).run Try.prog w = .ok v' w' ∧ w'.ownsRow 0 5 1 v' (n + len) (xs ++ cells c len) ∧ w.grownBy w' v.ownBlock ∧ Stays w w' v v' n := by
  obtain ⟨i0, hi, hz0, hz1, hz2⟩ := info_parts Try.info5
  rcases src with ⟨rfl, rfl⟩ | ⟨ad, cap, rfl, hc⟩
  · refine ⟨v, w, run_append_owned_none w 0 23 ty 5 i0 1 Try.underlying23 hi v n xs hown, ?_, grown_refl _ _, fun _ h => .inl h, fun _ _ _ _ => rfl⟩
    rw [show cells c 0 = [] from rfl, List.append_nil]
    exact hown
  · exact run_app w ty v n xs hown ad len cap (cells c len) (cells_len _ _) (news_of hc) (cells_one _ _) hn
theorem step_app_src {ops : Array Oper} {o : Oper} {a : Act} {w : World} {K : Act → World → Prop} {Q : Exit → Act → World → Prop} {E : Prop}
    (hg : o.guard = none) (s x : Operand) (hop : o.op = Op.call { callee := Callee.builtin Builtin.append, args := #[s, x], argTypes := #[23, 23] })
    (v : Value) (n : Nat) (xs : List Value) (hs : a.eval s = v) (hown : w.ownsRow 0 5 1 v n xs) (u : Value) (len : Nat) (c : Nat → Nat) (hx : a.eval x = u) (src : Src w u len c) (hn : n + len ≤ 1000000)
    (hK : ∀ v' w', w'.ownsRow 0 5 1 v' (n + len) (xs ++ cells c len) → w.grownBy w' v.ownBlock → Stays w w' v v' n → K (a.put o.dst v') w') :
    if Region.wanted o (yielded ops a.tmps) = true then Oper.wp Try.prog o a w K Q else E := by
  have hw : Region.wanted o (yielded ops a.tmps) = true := by simp [Region.wanted, hg]
  rw [if_pos hw]
  obtain ⟨v', w', hr, r1, r2, r3⟩ := run_app_src w o.type v n xs hown u len c src hn
  unfold Oper.wp
  simp [execOp, hop, resolve, invoke, builtin, hs, hx, hr, Result.andThen]
  exact hK v' w' r1 r2 r3
theorem list_app_src {w : World} {ops : Array Oper} {rest : List Oper} {o : Oper} {a : Act} {Q : Exit → Act → World → Prop} (hg : o.guard = none) (s x : Operand)
    (hop : o.op = .call { callee := .builtin .append, args := #[s, x], argTypes := #[23, 23] })
    (v : Value) (n : Nat) (xs : List Value) (hs : a.eval s = v) (hown : w.ownsRow 0 5 1 v n xs) (u : Value) (len : Nat) (c : Nat → Nat) (hx : a.eval x = u) (src : Src w u len c) (hn : n + len ≤ 1000000)
    (hK : ∀ v' w', w'.ownsRow 0 5 1 v' (n + len) (xs ++ cells c len) → w.grownBy w' v.ownBlock → Stays w w' v v' n → wpList Try.prog ops Q rest (a.put o.dst v') w') : wpList Try.prog ops Q (o :: rest) a w := by
  refine wpList_plain hg fun K hK' => ?_
  obtain ⟨v', w', hr, r1, r2, r3⟩ := run_app_src w o.type v n xs hown u len c src hn
  unfold Oper.wp
  simp [execOp, hop, resolve, invoke, builtin, hs, hx, hr, Result.andThen]
  exact hK' _ _ (hK v' w' r1 r2 r3)
set_option maxHeartbeats 400000 in
theorem bytes_nil (w : World) :
    Calls Try.prog 20 #[.pointer none] w fun e w' => e = .returned (.slice none 0 0) ∧ w' = w := by
  go_enter Try.func20, Try.ntmps20
  go_wp2
  go_ret
  exact ⟨rfl, rfl⟩
theorem make_row (w : World) (K : Nat) (hK : K ≤ 1000000) : (Instr.makeSlice 23 (.int .i64 0) (.int .i64 (IntKind.i64.wrap ((K : Int) + 1)))).run Try.prog w = .ok (.slice (some ⟨w.heap.size, 0, none⟩) 0 (K + 1)) (w.alloc (.cells (madeCells #[.int .u8 0] (K + 1)) 5)) := by
  obtain ⟨i0, hi, hz0, hz1, hz2⟩ := info_parts Try.info5
  have e : IntKind.i64.wrap ((K : Int) + 1) = (K : Int) + 1 := by rw [IntKind.wrap_i64]; omega
  rw [e]
  have := run_make (P := Try.prog) w 23 5 i0 (.int .u8 0) Try.underlying23 hi hz0 .i64 .i64 0 ((K : Int) + 1) (by omega) (by omega) (by rw [hz2]; omega) (by omega)
  rw [hz1] at this
  rw [this]
  simp [Value.cells]

set_option maxRecDepth 20000 in
set_option maxHeartbeats 1000000 in
theorem bytes_at (g : Nat) (u : Value) (V N : Nat) (w : World) (h : Wr w g u V N) (hN : N ≤ 1000000) :
    Calls Try.prog 20 #[.pointer (some ⟨g, 0, none⟩)] w fun e w' => ∃ v, e = .returned v ∧ w'.ownsRow w.heap.size 5 1 v ((N + 7) / 8) (cells (byt V) ((N + 7) / 8)) ∧ Below w.heap.size w w' := by
  have SRC := hide (src_of_own h.raw.own)
  have OWN := hide h.raw.own
  obtain ⟨a, cap, rfl⟩ := own_slice h.raw.own
  have bx := h.raw.box
  clear h
  have e1 : N / 8 ≤ 125000 := by omega
  have e2 : (N + 7) / 8 = if 0 < N % 8 then N / 8 + 1 else N / 8 := by split <;> omega
  have hr : byt V (N / 8) = V / 2 ^ (8 * (N / 8)) % 256 := rfl
  generalize N % 8 = c at *
  generalize V / 2 ^ (8 * (N / 8)) = r at *
  generalize N / 8 = K at *
  generalize (N + 7) / 8 = L at *
  have h0 := bx.cell 0
  have h1 := bx.cell 1
  have h2 := bx.cell 2
  simp at h0 h1 h2
  have BX := hide bx
  have k1 : (K : Int) ≤ 200000 := by omega
  have hmk := fun w => make_row w K (by omega)
  have p0 : ∀ o, (w.alloc o).cell? ⟨g, 0, none⟩ = some (.slice a K cap) := fun o => by have := (box_alloc bx o).cell 0; simpa using this
  have OM : Hid ((w.alloc (.cells (madeCells #[.int .u8 0] (K + 1)) 5)).drew.ownsRow 0 5 1 (.slice (some ⟨w.heap.size, 0, none⟩) 0 (K + 1)) 0 []) :=
    (World.ownsRow_made (base := 0) (e := 5) (size := 1) w _ (K + 1) (Nat.zero_le _) (by unfold maxLen; omega) (by rw [size_madeCells]; omega)).drew
  have UM : Upd (fun _ => False) w (w.alloc (.cells (madeCells #[.int .u8 0] (K + 1)) 5)).drew := ((Upd.refl (fun _ => False) w).alloc _).drewN 1
  have SM := hide ((unhide SRC).keep UM (fun _ h => h.elim))
  have UM' := hide UM
  clear bx UM
  go_enter Try.func20, Try.ntmps20
  go_wp2
  go_region_law (refine step_app_src rfl (.tmp 12) (.tmp 16) rfl (.slice (some ⟨w.heap.size, 0, none⟩) 0 (K + 1)) 0 [] (by simp [Act.eval]) (unhide OM) (.slice a K cap) K (byt V) (by simp [Act.eval]) (unhide SM) (by omega) ?_; intro v' w' hown hgrow hstay; rw [Nat.zero_add, List.nil_append] at hown; have BX' := hide (box_grown (box_drew (box_alloc (unhide BX) _)) hgrow (by have := (unhide BX).lt; simp [Value.ownBlock]; omega)); have OW' := hide hown; have GR := hide hgrow; have ST := hide hstay; clear hown hgrow hstay)
  all_goals
    have bel : Below w.heap.size w w' := (((Below.refl w.heap.size w).alloc (Nat.le_refl _) _).drew).grown (unhide GR) (by simp [World.drew]) (fun k hk => by cases hk; exact Nat.le_refl _)
    have lb : ∀ k, v'.ownBlock = some k → w.heap.size ≤ k := fun k hk => by
      rcases (unhide ST).foot k hk with h | h
      · cases h; exact Nat.le_refl _
      · simp [World.drew] at h; omega
    have BEL := hide bel
    have LB := hide lb
    have m1 := (unhide BX').cell 1
    have m2 := (unhide BX').cell 2
    simp at m1 m2
    clear bel lb
    by_cases hc : 0 < c
    · have hc' : (0 : Int) < (c : Int) := by omega
      rw [if_pos hc] at e2
      subst e2
      have hsz := (unhide BEL).size
      go_wp2_with (first | (at_builtin; refine list_app rfl (.tmp 23) (.tmp 29) rfl v' K (cells (byt V) K) rfl ((unhide OW').alloc _) ⟨w'.heap.size, 0, none⟩ 1 1 [.int .u8 ((r : Int) % 256)] rfl rfl (one_src _ _) (one_one _ _) (by omega) ?_; intro v2 w2 hown2 hgrow2 hstay2; have OW2 := hide hown2; have GR2 := hide hgrow2; have ST2 := hide hstay2; clear hown2 hgrow2 hstay2) | fail)
      go_ret
      have o2 := unhide OW2
      have e : ((r : Int) % 256) = ((byt V K : Nat) : Int) := by rw [hr]; omega
      rw [e, ← cells_succ] at o2
      refine ⟨_, rfl, own_base o2 (fun k hk => ?_), ((unhide BEL).alloc hsz _).grown (unhide GR2) (by simp; omega) (unhide LB)⟩
      rcases (unhide ST2).foot k hk with h | h
      · exact unhide LB k h
      · simp at h; omega
    · have hc' : ¬ (0 : Int) < (c : Int) := by omega
      rw [if_neg hc] at e2
      subst e2
      go_wp2
      go_ret
      exact ⟨_, rfl, own_base (unhide OW') (unhide LB), unhide BEL⟩
end Go.Proofs.Ytlejicikgmanfaa.Byt
