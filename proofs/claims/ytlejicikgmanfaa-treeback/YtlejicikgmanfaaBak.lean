/- Contracts: tree.Write; and what lies in memory while symbols are written: a writer, a row of those told. Conditions: they lie apart, few bits. -/
import Derived.Test.YtlejicikgmanfaaAns
import Derived.Test.YtlejicikgmanfaaByt
import Derived.Test.YtlejicikgmanfaaSpl
import Derived.Maps.AppendAt
namespace Go.Proofs.Ytlejicikgmanfaa.Bak
open Go.ChangeShapes Go.WideShapes Go.ChangeAt Go.RowKit Go.Proofs.Ytlejicikgmanfaa.Core Go.Proofs.Ytlejicikgmanfaa.Math Go.Proofs.Ytlejicikgmanfaa.Rvm Go.Proofs.Ytlejicikgmanfaa.Dec Go.Proofs.Ytlejicikgmanfaa.Wrd Go.Proofs.Ytlejicikgmanfaa.Cou Go.Proofs.Ytlejicikgmanfaa.Tre Go.Proofs.Ytlejicikgmanfaa.Foot Go.Proofs.Ytlejicikgmanfaa.Add Go.Proofs.Ytlejicikgmanfaa.Wri Go.Proofs.Ytlejicikgmanfaa.Bitin Go.Proofs.Ytlejicikgmanfaa.Eyes

theorem write_no (lo hi g n : Nat) (c : Nat → Int) (hg : Rng c n) (k : Int) (p : Value) (w : World) (h : Tr w lo hi g c n) (hb : hasB c n k = false) : Calls Try.prog 19 #[.pointer (some ⟨g, 0, none⟩), p, .int .i64 k] w fun e w' => e = .returned (.bool false) ∧ w' = w := by
  have HA := has33 lo hi g n c hg k w h
  rw [hb] at HA
  have HH := hide HA
  clear HA h hb
  go_enter Try.func19, Try.ntmps19
  go_wp2_with fail
  refine (unhide HH).mono ?_
  rintro e w1 ⟨rfl, rfl⟩
  go_wp2
  go_ret
  exact ⟨rfl, rfl⟩
theorem turn_alloc {w : World} (g : Nat) (v : Value) (n : Nat) (o : Obj) (hlt : ∀ b, v.ownBlock = some b → b < w.heap.size) : Turn g v v n w (w.alloc o) :=
  ⟨(Upd.refl _ w).alloc o, fun _ h => .inl h, fun b k hb _ => ((Upd.refl (fun _ => False) w).alloc o).cell (p := ⟨b, k, none⟩) (hlt b hb) (fun h => h)⟩
set_option maxHeartbeats 400000 in
theorem write_yes (lo hi g n : Nat) (c : Nat → Int) (hg : Rng c n) (m : Nat) (hm : m < n) (hcm : c m ≠ 0) (gw : Nat) (u : Value) (V N : Nat) (w : World) (h : Tr w lo hi g c n) (hw : Wr w gw u V N) (hN : N ≤ 1000000) :
    Calls Try.prog 19 #[.pointer (some ⟨g, 0, none⟩), .pointer (some ⟨gw, 0, none⟩), .int .i64 m] w fun e w' => e = .returned (.bool true) ∧ ∃ u', Wr w' gw u' (V + uu c n m * 2 ^ N) (N + (qq c n m).toNat) ∧ Turn gw u u' (N / 8) w w' := by
  have hb : hasB c n (m : Int) = true := by
    unfold hasB
    rw [decide_eq_true_eq]
    exact ⟨by omega, by omega, hcm⟩
  have HA := has33 lo hi g n c hg m w h
  rw [hb] at HA
  have HH := hide HA
  have hq1 := qq_bd hg hm
  have hq0 := (qq_has hg hm).2 hcm
  obtain ⟨d, hd⟩ : ∃ d : Nat, qq c n m = (d : Int) := ⟨(qq c n m).toNat, by omega⟩
  have hu := uu_lt c n m
  rw [hd] at hu ⊢
  have hd15 : d ≤ 15 := by omega
  have hu2 : uu c n m ≤ 32768 := by
    have : 2 ^ d ≤ 2 ^ 15 := Nat.pow_le_pow_right (by omega) hd15
    have h3 : ((d : Int)).toNat = d := rfl
    rw [h3] at hu
    omega
  obtain ⟨h1, h2, h3, tb, sb, le, a1, a2, a3, a4, a5, a6, a7, a8, a9, a10⟩ := h
  have c0 := (a8.cell 0).trans (tc_0 _ _ _ _)
  have w0 := (a9.cell (m * 2)).trans (wrow_bits _ _ n m hm)
  have w1 := (a9.cell (m * 2 + 1)).trans (wrow_cnt _ _ n m hm)
  rw [hd] at w1
  have hmn : (m : Int) < (n : Int) := by omega
  have BY := hide (fun o => bits_yes gw u V N (uu c n m) d (w.alloc o) (hw.keep ((Upd.refl (fun _ => False) w).alloc o) (fun _ _ h => h)) (by omega) hu hN)
  have TA := hide (fun o => turn_alloc gw u (N / 8) o (fun b hb => (hw.raw.own.lt b hb).2))
  have NE := hide hw.raw.ne
  have LT := hide (fun b (hb : u.ownBlock = some b) => (hw.raw.own.lt b hb).2)
  have hdt : ((d : Int)).toNat = d := rfl
  rw [hdt]
  clear HA hb a8 a9 a10 a6 a7 hw hq0 hq1 hd hu hdt hcm
  generalize uu c n m = x at *
  go_enter Try.func19, Try.ntmps19
  go_wp2_with fail
  refine (unhide HH).mono ?_
  rintro e w2 ⟨rfl, rfl⟩
  go_wp2_with fail
  refine (unhide BY _).mono ?_
  rintro e w3 ⟨rfl, u', wr', t'⟩
  have WR := hide wr'
  have TU := hide ((unhide TA _).trans t' (Nat.le_refl _) (unhide NE) (unhide LT))
  clear wr' t' BY TA
  go_wp2
  go_ret
  exact ⟨rfl, u', unhide WR, unhide TU⟩

/-- Symbols that were told, the places of their bits in V. -/
structure Told (c : Nat → Int) (n : Nat) (ts : Nat → Int) (o : Nat → Nat) (T V N : Nat) : Prop where
  zero : o 0 = 0
  top : o T = N
  each : ∀ t, t < T → ∃ m : Nat, ts t = (m : Int) ∧ m < n ∧ c m ≠ 0 ∧ o (t + 1) = o t + (qq c n m).toNat ∧ o (t + 1) ≤ N ∧ V / 2 ^ o t % 2 ^ (qq c n m).toNat = uu c n m
theorem bits_keep (V x N o q : Nat) (h : o + q ≤ N) : (V + x * 2 ^ N) / 2 ^ o % 2 ^ q = V / 2 ^ o % 2 ^ q := by
  obtain ⟨r, rfl⟩ : ∃ r, N = o + (q + r) := ⟨N - o - q, by omega⟩
  have e : x * 2 ^ (o + (q + r)) = 2 ^ o * (2 ^ q * (x * 2 ^ r)) := by
    rw [Nat.pow_add, Nat.pow_add]
    simp only [Nat.mul_left_comm]
  rw [e, Nat.add_mul_div_left _ _ (Nat.pow_pos (by omega)), Nat.add_mul_mod_self_left]
theorem bits_new (V x N q : Nat) (h : V < 2 ^ N) (hx : x < 2 ^ q) : (V + x * 2 ^ N) / 2 ^ N % 2 ^ q = x := by
  rw [Nat.mul_comm, Nat.add_mul_div_left _ _ (Nat.pow_pos (by omega)), Nat.div_eq_of_lt h, Nat.zero_add, Nat.mod_eq_of_lt hx]
theorem told_nil (c : Nat → Int) (n : Nat) (ts : Nat → Int) (V : Nat) : Told c n ts (fun _ => 0) 0 V 0 := ⟨rfl, rfl, fun t ht => by omega⟩
theorem Told.next {c : Nat → Int} {n : Nat} {ts : Nat → Int} {o : Nat → Nat} {T V N m : Nat} (h : Told c n ts o T V N) (hV : V < 2 ^ N) (hm : m < n) (hc : c m ≠ 0) :
    Told c n (fun t => if t = T then (m : Int) else ts t) (fun t => if t = T + 1 then N + (qq c n m).toNat else o t) (T + 1) (V + uu c n m * 2 ^ N) (N + (qq c n m).toNat) := by
  refine ⟨?_, if_pos rfl, fun t ht => ?_⟩
  · show (if 0 = T + 1 then _ else o 0) = 0
    rw [if_neg (by omega)]
    exact h.zero
  · by_cases e : t = T
    · subst e
      refine ⟨m, if_pos rfl, hm, hc, ?_, ?_, ?_⟩
      · show (if t + 1 = t + 1 then _ else o (t + 1)) = (if t = t + 1 then _ else o t) + _
        rw [if_pos rfl, if_neg (by omega), h.top]
      · show (if t + 1 = t + 1 then _ else o (t + 1)) ≤ _
        rw [if_pos rfl]
        exact Nat.le_refl _
      · show _ / 2 ^ (if t = t + 1 then _ else o t) % _ = _
        rw [if_neg (by omega), h.top]
        exact bits_new V _ N _ hV (uu_lt c n m)
    · obtain ⟨m', h1, h2, h3, h4, h5, h6⟩ := h.each t (by omega)
      refine ⟨m', ?_, h2, h3, ?_, ?_, ?_⟩
      · show (if t = T then _ else ts t) = _
        rw [if_neg e, h1]
      · show (if t + 1 = T + 1 then _ else o (t + 1)) = (if t = T + 1 then _ else o t) + _
        rw [if_neg (by omega), if_neg (by omega), h4]
      · show (if t + 1 = T + 1 then _ else o (t + 1)) ≤ _
        rw [if_neg (by omega)]
        omega
      · show _ / 2 ^ (if t = T + 1 then _ else o t) % _ = _
        rw [if_neg (by omega), bits_keep V _ N (o t) _ (by omega), h6]
theorem num_byt (V : Nat) : ∀ n p, num (byt V) p n = V / 256 ^ p % 256 ^ n
  | 0, p => by simp [num, Nat.mod_one]
  | n + 1, p => by
    rw [num, num_byt V n (p + 1)]
    unfold byt
    rw [show 2 ^ (8 * p) = 256 ^ p by rw [Nat.pow_mul], Nat.pow_succ 256 p, ← Nat.div_div_eq_div_mul, Nat.pow_succ 256 n, Nat.mul_comm (256 ^ n) 256, Nat.mod_mul]
theorem val_byt (V N o L : Nat) (hV : V < 2 ^ N) : val (byt V) ((N + 7) / 8) o L = V / 2 ^ o % 2 ^ L := by
  unfold val
  have hlt : V < 256 ^ ((N + 7) / 8) := by
    refine Nat.lt_of_lt_of_le hV ?_
    rw [show 256 = 2 ^ 8 from rfl, ← Nat.pow_mul]
    exact Nat.pow_le_pow_right (by omega) (by omega)
  rw [num_byt, Nat.pow_zero, Nat.div_one, Nat.mod_eq_of_lt hlt]
theorem told_nx {c : Nat → Int} {n : Nat} {o : Nat → Nat} {V N t m : Nat} (hch : chk c n = 0) (hV : V < 2 ^ N) (hm : m < n) (hc : c m ≠ 0) (hb : o t + (qq c n m).toNat ≤ N) (hv : V / 2 ^ o t % 2 ^ (qq c n m).toNat = uu c n m) :
    Nx c n (fun j => bt (byt V) (o t + j)) (qq c n m).toNat m := by
  obtain ⟨hg, _, hk⟩ := chk_zero hch
  have g1 := hg m hm
  refine next_code hch (fun j => bt_le _ _) hm hc ?_ (fun hne => ?_)
  · by_cases h1 : many c n = 1
    · rw [if_pos h1, qq_one h1 hc]
      rfl
    · rw [if_neg h1, qq_many h1 hc]
  · have h3 : (qq c n m).toNat = (c m).toNat := by rw [qq_many hne hc]
    rw [← vm_rv (byt V) (byt_le V) ((N + 7) / 8) (o t) _ (by omega), val_byt V N _ _ hV, hv, uu_many hne hc, h3]
    exact rv_rv _ _ (cod_lt hg hk m hm _ (by omega) (by omega))
/-- What lies in memory. -/
structure Inv (w6 wr : World) (H gw : Nat) (c : Nat → Int) (n T V N : Nat) (u tv : Value) (ts : Nat → Int) (o : Nat → Nat) : Prop where
  wri : Wr wr gw u V N
  row : wr.ownsRow 0 3 1 tv T (Spl.cells ts T)
  ftH : ∀ b, Ft gw u b → H ≤ b
  tvH : ∀ b, tv.ownBlock = some b → H ≤ b ∧ ¬ Ft gw u b
  bel : Below H w6 wr
  told : Told c n ts o T V N
theorem row_keep {S : Nat → Prop} {w w' : World} {v : Value} {n : Nat} {xs : List Value} (h : w.ownsRow 0 3 1 v n xs) (u : Upd S w w') (hs : ∀ k, v.ownBlock = some k → ¬ S k) : w'.ownsRow 0 3 1 v n xs := by
  obtain ⟨h1, h2⟩ := h
  refine ⟨h1, ?_⟩
  rcases h2 with h2 | ⟨b, cap, cur, rfl, l0, hb, r⟩
  · exact .inl h2
  · exact .inr ⟨b, cap, cur, rfl, l0, (u.block b (Array.getElem?_eq_some_iff.1 hb).1 (hs b rfl)).trans hb, r⟩
theorem Inv.drewN {w6 wr : World} {H gw : Nat} {c : Nat → Int} {n T V N : Nat} {u tv : Value} {ts : Nat → Int} {o : Nat → Nat} (h : Inv w6 wr H gw c n T V N u tv ts o) (k : Nat) : Inv w6 (wr.drewN k) H gw c n T V N u tv ts o :=
  ⟨h.wri.keep ((Upd.refl (fun _ => False) wr).drewN k) (fun _ _ h => h), row_keep h.row ((Upd.refl (fun _ => False) wr).drewN k) (fun _ _ h => h), h.ftH, h.tvH, ⟨h.bel.os, h.bel.tape, h.bel.output, h.bel.size, h.bel.block⟩, h.told⟩
/-- Behind a symbol that was written, and not told yet. -/
structure Mid (w6 wr : World) (H gw : Nat) (c : Nat → Int) (n T V N m : Nat) (u tv : Value) (ts : Nat → Int) (o : Nat → Nat) : Prop where
  wri : Wr wr gw u (V + uu c n m * 2 ^ N) (N + (qq c n m).toNat)
  row : wr.ownsRow 0 3 1 tv T (Spl.cells ts T)
  ftH : ∀ b, Ft gw u b → H ≤ b
  tvH : ∀ b, tv.ownBlock = some b → H ≤ b ∧ ¬ Ft gw u b
  bel : Below H w6 wr
  told : Told c n ts o T V N
  lt : V < 2 ^ N
theorem Inv.write {w6 wr w' : World} {H gw : Nat} {c : Nat → Int} {n T V N m : Nat} {u u' tv : Value} {ts : Nat → Int} {o : Nat → Nat} (h : Inv w6 wr H gw c n T V N u tv ts o) (hH : H ≤ wr.heap.size)
    (hw : Wr w' gw u' (V + uu c n m * 2 ^ N) (N + (qq c n m).toNat)) (t : Turn gw u u' (N / 8) wr w') : Mid w6 w' H gw c n T V N m u' tv ts o := by
  refine ⟨hw, row_keep h.row t.upd (fun k hk => (h.tvH k hk).2), fun b hb => ?_, fun b hb => ⟨(h.tvH b hb).1, fun hf => ?_⟩, h.bel.trans (t.upd.below H hH h.ftH), h.told, h.wri.lt⟩
  · rcases hb with rfl | hb
    · exact h.ftH _ (.inl rfl)
    · rcases t.stays.foot b hb with h1 | h1
      · exact h.ftH b (.inr h1)
      · omega
  · rcases hf with rfl | hf
    · exact (h.tvH _ hb).2 (.inl rfl)
    · rcases t.stays.foot b hf with h1 | h1
      · exact (h.tvH b hb).2 (.inr h1)
      · have := (h.row.lt b hb).2
        omega
theorem Mid.drewN {w6 wr : World} {H gw : Nat} {c : Nat → Int} {n T V N m : Nat} {u tv : Value} {ts : Nat → Int} {o : Nat → Nat} (h : Mid w6 wr H gw c n T V N m u tv ts o) (k : Nat) : Mid w6 (wr.drewN k) H gw c n T V N m u tv ts o :=
  ⟨h.wri.keep ((Upd.refl (fun _ => False) wr).drewN k) (fun _ _ h => h), row_keep h.row ((Upd.refl (fun _ => False) wr).drewN k) (fun _ _ h => h), h.ftH, h.tvH, ⟨h.bel.os, h.bel.tape, h.bel.output, h.bel.size, h.bel.block⟩, h.told, h.lt⟩
theorem cells_snoc (ts : Nat → Int) (T : Nat) (z : Int) : Spl.cells ts T ++ [.int .i64 z] = Spl.cells (fun t => if t = T then z else ts t) (T + 1) := by
  unfold Spl.cells
  rw [List.range_succ, List.map_append]
  congr 1
  · apply List.map_congr_left
    intro k hk
    have := List.mem_range.1 hk
    have hne : ¬ k = T := by omega
    simp only [hne, if_false]
  · simp
theorem Mid.app {w6 wr w' : World} {H gw : Nat} {c : Nat → Int} {n T V N m : Nat} {u tv tv' : Value} {ts : Nat → Int} {o : Nat → Nat} {ob : Obj} (h : Mid w6 wr H gw c n T V N m u tv ts o) (hH : H ≤ wr.heap.size) (hm : m < n) (hc : c m ≠ 0)
    (own : w'.ownsRow 0 3 1 tv' (T + 1) (Spl.cells ts T ++ [.int .i64 (m : Int)])) (gr : (wr.alloc ob).grownBy w' tv.ownBlock) (ho : tv'.ownBlock = tv.ownBlock ∨ tv'.ownBlock = some (wr.alloc ob).heap.size) :
    Inv w6 w' H gw c n (T + 1) (V + uu c n m * 2 ^ N) (N + (qq c n m).toNat) u tv' (fun t => if t = T then (m : Int) else ts t) (fun t => if t = T + 1 then N + (qq c n m).toNat else o t) := by
  have up : Upd (fun k => tv.ownBlock = some k) wr w' := ⟨gr.os, gr.tape, gr.output, by have := gr.size; simp at this; omega, fun k hk hs => (gr.block k (by simp; omega) (fun e => hs e.symm)).trans (Below.heap_alloc _ _ _ hk)⟩
  rw [cells_snoc] at own
  refine ⟨h.wri.keep up (fun k hk hs => (h.tvH k hs).2 hk), own, h.ftH, fun b hb => ?_, h.bel.trans (up.below H hH (fun k hk => (h.tvH k hk).1)), h.told.next h.lt hm hc⟩
  rcases ho with h1 | h1
  · exact h.tvH b (h1 ▸ hb)
  · rw [h1] at hb
    cases hb
    refine ⟨by simp; omega, fun hf => ?_⟩
    have := h.wri.raw.lt _ hf
    simp at this
    omega
end Go.Proofs.Ytlejicikgmanfaa.Bak
