/-
  Plain facts: a copy of lengths by append, and what becomes of the sum where one length is another. Conditions: as each says.
  Contracts: tree.Write; and what lies in memory while symbols are written: a writer, a row of those told. Conditions: they lie apart, few bits.
  Plain facts: a writer in memory, as it was and as it is now. Conditions: its bits are few.
  Contract: group.Tell, by what partsOf answers. Conditions: the group and the writer lie apart in memory, few bits.
-/
import Derived.Test.YtgjpcjnhggcfdaaGreatDoorC10
import Derived.Test.YtgjpcjnhggcfdaaGreatDoorC07
import Derived.Maps.AppendAt
import Derived.Test.YtgjpcjnhggcfdaaGreatDoorC09
import Derived.Deep.RegionHeld3
import Derived.Deep.RegionWith
import Derived.Deep.CutRange
namespace Go.Proofs.YtgjpcjnhggcfdaaGreatDoor.Spl
open Go.ChangeShapes Go.WideShapes Go.ChangeAt Go.RowKit Go.Proofs.YtgjpcjnhggcfdaaGreatDoor.Core Go.Proofs.YtgjpcjnhggcfdaaGreatDoor.Gnd Go.Proofs.YtgjpcjnhggcfdaaGreatDoor.Math Go.Proofs.YtgjpcjnhggcfdaaGreatDoor.Cnt

def cells (c : Nat → Int) (n : Nat) : List Value := (List.range n).map fun k => .int .i64 (c k)
theorem cells_len (c : Nat → Int) (n : Nat) : (cells c n).length = n := by simp [cells]
theorem cells_at (c : Nat → Int) (n k : Nat) (h : k < n) : (cells c n)[k]? = some (.int .i64 (c k)) := by
  simp [cells, h]
theorem cells_one (c : Nat → Int) (n : Nat) : ∀ u ∈ cells c n, u.oneCell' = true := by
  intro u hu
  obtain ⟨_, _, rfl⟩ := List.mem_map.1 hu
  rfl
def upd (c : Nat → Int) (k : Nat) (z : Int) (j : Nat) : Int := if j = k then z else c j
theorem cells_set (c : Nat → Int) (n k : Nat) (z : Int) : (cells c n).set k (.int .i64 z) = cells (upd c k z) n := by
  apply List.ext_getElem?
  intro j
  rw [List.getElem?_set]
  by_cases hj : j < n
  · rw [cells_at _ n j hj, cells_at _ n j hj, cells_len]
    by_cases e : k = j
    · subst e; simp [hj, upd]
    · have : ¬ j = k := fun h => e h.symm
      simp [e, this, upd]
  · rw [List.getElem?_eq_none (l := cells c n) (by rw [cells_len]; omega), List.getElem?_eq_none (l := cells _ n) (by rw [cells_len]; omega), cells_len]
    split
    · rw [if_neg (by omega)]
    · rfl
theorem news_of {w : World} {n : Nat} {x : Addr} {c : Nat → Int} (h : ∀ k, k < n → w.cell? (x.add k) = some (.int .i64 (c k))) :
    ∀ j u, (cells c n)[j]? = some u → w.cell? (x.add j) = some u := by
  intro j u hu
  have hj : j < n := by
    have := (List.getElem?_eq_some_iff.1 hu).1
    rwa [cells_len] at this
  rw [cells_at c n j hj] at hu
  rw [h j hj]
  exact hu
theorem info3 : (Tryz.prog.info? 3).map (fun i => (i.zero, i.size, i.bytes)) = some (some (.int .i64 0), 1, 8) := by kernel_rfl
theorem empty_own (w : World) (base : Nat) (h : base ≤ w.heap.size) : (w.alloc (.cells #[] 3)).ownsRow base 3 1 (.slice (some ⟨w.heap.size, 0, none⟩) 0 0) 0 [] :=
  ⟨rfl, .inr ⟨w.heap.size, 0, #[], rfl, h, Box.made w 3 #[], Nat.le_refl _, Nat.zero_le _, rfl, rfl⟩⟩
theorem empty_at (w : World) (base n : Nat) (hn : w.heap.size = n) (h : base ≤ n) : (w.alloc (.cells #[] 3)).ownsRow base 3 1 (.slice (some ⟨n, 0, none⟩) 0 0) 0 [] := by
  subst hn
  exact empty_own w base h
theorem app_copy {w : World} {ops : Array Oper} {rest : List Oper} {o : Oper} {a : Act} {Q : Exit → Act → World → Prop} (hgd : o.guard = none) (s x : Operand)
    (ho : o.op = .call { callee := .builtin .append, args := #[s, x], argTypes := #[26, 26] })
    (base : Nat) (v : Value) (hs : a.eval s = v) (hown : w.ownsRow base 3 1 v 0 [])
    (ad : Addr) (len cap : Nat) (c : Nat → Int) (hx : a.eval x = .slice (some ad) len cap) (src : ∀ k, k < len → w.cell? (ad.add k) = some (.int .i64 (c k))) (hn : len ≤ 1000000) (hbase : base ≤ w.heap.size)
    (h : ∀ v' w', w'.ownsRow base 3 1 v' len (cells c len) → w.grownBy w' v.ownBlock → wpList Tryz.prog ops Q rest (a.put o.dst v') w') : wpList Tryz.prog ops Q (o :: rest) a w := by
  obtain ⟨i0, hi, hz0, hz1, hz2⟩ := info_parts info3
  refine wpList_append_own w hgd s x 26 ho base 3 i0 (.int .i64 0) 1 8 Tryz.underlying26 hi hz0 hz1 hz2 rfl (by decide) v 0 [] hs hown ad len cap (cells c len) hx (by rw [cells_len, Nat.mul_one])
      (news_of src) (cells_one _ _) (by unfold maxLen; omega) (by omega) hbase (fun v' w' h1 h2 _ => ?_)
  rw [Nat.zero_add, List.nil_append] at h1
  exact h v' w' h1 h2
theorem own_ints {w : World} {base n : Nat} {v : Value} {c : Nat → Int} (h : w.ownsRow base 3 1 v n (cells c n)) : Ints .i64 w v n c := by
  rcases h.2 with ⟨rfl, h0⟩ | ⟨g, cap, cur, rfl, _⟩
  · subst h0
    exact ⟨_, _, rfl, fun i hi => by omega⟩
  · exact ⟨_, cap, rfl, fun i hi => ⟨g, 0, rfl, by rw [Nat.zero_add]; exact (h.cellAt i (by omega)).trans (cells_at c n i hi)⟩⟩
theorem own_pos {w : World} {base n : Nat} {v : Value} {c : Nat → Int} (h : w.ownsRow base 3 1 v n (cells c n)) (hn : 0 < n) :
    ∃ g cap, v = .slice (some ⟨g, 0, none⟩) n cap ∧ (∀ k, k < n → w.cell? ⟨g, k, none⟩ = some (.int .i64 (c k)) ∧ w.frozen? ⟨g, k, none⟩ = false) ∧ base ≤ g ∧ g < w.heap.size := by
  have hl := h.lt
  rcases h.2 with ⟨_, h0⟩ | ⟨g, cap, cur, rfl, _⟩
  · omega
  · exact ⟨g, cap, rfl, fun k hk => ⟨(h.cellAt k (by omega)).trans (cells_at c _ k hk), h.frozenAt k⟩, (hl g rfl).1, (hl g rfl).2⟩
theorem own_set {w : World} {base n g cap k : Nat} {c : Nat → Int} (h : w.ownsRow base 3 1 (.slice (some ⟨g, 0, none⟩) n cap) n (cells c n)) (z : Int) :
    (w.setCell ⟨g, k, none⟩ (.int .i64 z)).ownsRow base 3 1 (.slice (some ⟨g, 0, none⟩) n cap) n (cells (upd c k z) n) := by
  have h1 := (h.stored k (.int .i64 z)).1
  rwa [cells_set] at h1
theorem kr_upd (c : Nat → Int) (i : Nat) (z : Int) : ∀ n, (n ≤ i → kr (upd c i z) n = kr c n) ∧ (i < n → kr (upd c i z) n + pt2 (c i) = kr c n + pt2 z)
  | 0 => ⟨fun _ => rfl, fun h => by omega⟩
  | n + 1 => by
    obtain ⟨h1, h2⟩ := kr_upd c i z n
    refine ⟨fun h => ?_, fun h => ?_⟩
    · have e : upd c i z n = c n := if_neg (by omega)
      simp only [kr, e]
      have := h1 (by omega)
      omega
    · by_cases e : i = n
      · subst e
        have e2 : upd c i z i = z := if_pos rfl
        have := h1 (Nat.le_refl _)
        simp only [kr, e2]
        omega
      · have e2 : upd c i z n = c n := if_neg (fun h => e h.symm)
        have := h2 (by omega)
        simp only [kr, e2]
        omega
theorem rng_upd {c : Nat → Int} {n : Nat} (h : Rng c n) (i : Nat) (z : Int) (h0 : 0 ≤ z) (h1 : z ≤ 15) : Rng (upd c i z) n := fun k hk => by
  unfold upd
  split
  · exact ⟨h0, h1⟩
  · exact h k hk
/-- One code is split in two. -/
theorem chk_split {c : Nat → Int} {n i k : Nat} (h : chk c n = 0) (hm : many c n ≠ 1) (hi : i < n) (hk : k < n) (m : Nat) (hc : c i = (m : Int)) (h0 : m ≠ 0) (h14 : m ≤ 14) (hck : c k = 0) :
    chk (upd (upd c i (m + 1)) k (m + 1)) n = 0 := by
  obtain ⟨hg, h1, _⟩ := chk_zero h
  have hs : kr c n = 32768 := by
    rcases h1 with h1 | h1
    · exact absurd h1 hm
    · exact h1
  have k1 := (kr_upd c i (m + 1) n).2 hi
  have k2 := (kr_upd (upd c i (m + 1)) k (m + 1) n).2 hk
  have ek : upd c i (m + 1) k = 0 := by
    unfold upd
    rw [if_neg (fun e => by rw [e] at hck; omega)]
    exact hck
  have p0 : pt2 (upd c i (m + 1) k) = 0 := by rw [ek]; rfl
  have p1 : pt2 (c i) = 2 ^ (15 - m) := by
    unfold pt2
    rw [if_neg (by omega), hc]
    rfl
  have p2 : pt2 ((m : Int) + 1) = 2 ^ (15 - (m + 1)) := by
    unfold pt2
    rw [if_neg (by omega), show ((m : Int) + 1).toNat = m + 1 by omega]
  have p3 : 2 ^ (15 - m) = 2 ^ (15 - (m + 1)) * 2 := by
    rw [← Nat.pow_succ]
    congr 1
    omega
  unfold chk
  rw [if_pos ((rngB_iff _ n).2 (rng_upd (rng_upd hg i (m + 1) (by omega) (by omega)) k (m + 1) (by omega) (by omega))), if_pos (Or.inr (by omega))]
/-- One code is left out. -/
theorem chk_less {c : Nat → Int} {n i : Nat} (h : chk c n = 0) (hm : many c n ≠ 1) (hi : i < n) (hc : c i ≠ 0) (hl : many (upd c i 0) n ≠ 1) : chk (upd c i 0) n = 3 := by
  obtain ⟨hg, h1, _⟩ := chk_zero h
  have hs : kr c n = 32768 := by
    rcases h1 with h1 | h1
    · exact absurd h1 hm
    · exact h1
  have k1 := (kr_upd c i 0 n).2 hi
  have p0 : pt2 0 = 0 := rfl
  have p1 : 0 < pt2 (c i) := by
    unfold pt2
    rw [if_neg hc]
    exact Nat.pow_pos (by omega)
  unfold chk
  rw [if_pos ((rngB_iff _ n).2 (rng_upd hg i 0 (by omega) (by omega))), if_neg (fun h => h.elim hl (by omega))]
end Go.Proofs.YtgjpcjnhggcfdaaGreatDoor.Spl

namespace Go.Proofs.YtgjpcjnhggcfdaaGreatDoor.Bak
open Go.ChangeShapes Go.WideShapes Go.ChangeAt Go.RowKit Go.Proofs.YtgjpcjnhggcfdaaGreatDoor.Core Go.Proofs.YtgjpcjnhggcfdaaGreatDoor.Math Go.Proofs.YtgjpcjnhggcfdaaGreatDoor.Rvm Go.Proofs.YtgjpcjnhggcfdaaGreatDoor.Dec Go.Proofs.YtgjpcjnhggcfdaaGreatDoor.Wrd Go.Proofs.YtgjpcjnhggcfdaaGreatDoor.Cou Go.Proofs.YtgjpcjnhggcfdaaGreatDoor.Tre Go.Proofs.YtgjpcjnhggcfdaaGreatDoor.Foot Go.Proofs.YtgjpcjnhggcfdaaGreatDoor.Add Go.Proofs.YtgjpcjnhggcfdaaGreatDoor.Wri Go.Proofs.YtgjpcjnhggcfdaaGreatDoor.Bitin Go.Proofs.YtgjpcjnhggcfdaaGreatDoor.Eyes

theorem write_no (lo hi g n : Nat) (c : Nat → Int) (hg : Rng c n) (k : Int) (p : Value) (w : World) (h : Tr w lo hi g c n) (hb : hasB c n k = false) : Calls Tryz.prog 25 #[.pointer (some ⟨g, 0, none⟩), p, .int .i64 k] w fun e w' => e = .returned (.bool false) ∧ w' = w := by
  have HA := has33 lo hi g n c hg k w h
  rw [hb] at HA
  have HH := hide HA
  clear HA h hb
  go_enter Tryz.func25, Tryz.ntmps25
  go_wp2_with fail
  refine (unhide HH).mono ?_
  rintro e w1 ⟨rfl, rfl⟩
  go_wp2
  go_ret
  exact ⟨rfl, rfl⟩
theorem turn_alloc {w : World} (g : Nat) (v : Value) (n : Nat) (o : Obj) (hlt : ∀ b, v.ownBlock = some b → b < w.heap.size) : Turn g v v n w (w.alloc o) :=
  ⟨(Upd.refl _ w).alloc o, fun _ h => .inl h, fun b k hb _ => ((Upd.refl (fun _ => False) w).alloc o).cell (p := ⟨b, k, none⟩) (hlt b hb) (fun h => h)⟩
set_option maxHeartbeats 400000 in
theorem write_yes (lo hi g n : Nat) (c : Nat → Int) (hg : Rng c n) (m : Nat) (hm : m < n) (hcm : c m ≠ 0) (gw : Nat) (u : Value) (V N : Nat) (w : World) (h : Tr w lo hi g c n) (hw : Wr w gw u V N) (hN : N ≤ 1000000) :
    Calls Tryz.prog 25 #[.pointer (some ⟨g, 0, none⟩), .pointer (some ⟨gw, 0, none⟩), .int .i64 m] w fun e w' => e = .returned (.bool true) ∧ ∃ u', Wr w' gw u' (V + uu c n m * 2 ^ N) (N + (qq c n m).toNat) ∧ Turn gw u u' (N / 8) w w' := by
  have hb : hasB c n (m : Int) = true := by
    unfold hasB
    rw [decide_eq_true_eq]
    exact ⟨by omega, by omega, hcm⟩
  have HA := has33 lo hi g n c hg m w h
  rw [hb] at HA
  have HH := hide HA
  have hq1 := qq_bd hg hm
  have hq0 := (qq_has hg hm).2 hcm
  obtain ⟨d, hd⟩ : ∃ d : Nat, qq c n m = (d : Int) := ⟨(qq c n m).toNat, by omega⟩
  have hu := uu_lt c n m
  rw [hd] at hu ⊢
  have hd15 : d ≤ 15 := by omega
  have hu2 : uu c n m ≤ 32768 := by
    have : 2 ^ d ≤ 2 ^ 15 := Nat.pow_le_pow_right (by omega) hd15
    have h3 : ((d : Int)).toNat = d := rfl
    rw [h3] at hu
    omega
  obtain ⟨h1, h2, h3, tb, sb, le, a1, a2, a3, a4, a5, a6, a7, a8, a9, a10⟩ := h
  have c0 := (a8.cell 0).trans (tc_0 _ _ _ _)
  have w0 := (a9.cell (m * 2)).trans (wrow_bits _ _ n m hm)
  have w1 := (a9.cell (m * 2 + 1)).trans (wrow_cnt _ _ n m hm)
  rw [hd] at w1
  have hmn : (m : Int) < (n : Int) := by omega
  have BY := hide (fun o => bits_yes gw u V N (uu c n m) d (w.alloc o) (hw.keep ((Upd.refl (fun _ => False) w).alloc o) (fun _ _ h => h)) (by omega) hu hN)
  have TA := hide (fun o => turn_alloc gw u (N / 8) o (fun b hb => (hw.raw.own.lt b hb).2))
  have NE := hide hw.raw.ne
  have LT := hide (fun b (hb : u.ownBlock = some b) => (hw.raw.own.lt b hb).2)
  have hdt : ((d : Int)).toNat = d := rfl
  rw [hdt]
  clear HA hb a8 a9 a10 a6 a7 hw hq0 hq1 hd hu hdt hcm
  generalize uu c n m = x at *
  go_enter Tryz.func25, Tryz.ntmps25
  go_wp2_with fail
  refine (unhide HH).mono ?_
  rintro e w2 ⟨rfl, rfl⟩
  go_wp2_with fail
  refine (unhide BY _).mono ?_
  rintro e w3 ⟨rfl, u', wr', t'⟩
  have WR := hide wr'
  have TU := hide ((unhide TA _).trans t' (Nat.le_refl _) (unhide NE) (unhide LT))
  clear wr' t' BY TA
  go_wp2
  go_ret
  exact ⟨rfl, u', unhide WR, unhide TU⟩

/-- Symbols that were told, the places of their bits in V. -/
structure Told (c : Nat → Int) (n : Nat) (ts : Nat → Int) (o : Nat → Nat) (T V N : Nat) : Prop where
  zero : o 0 = 0
  top : o T = N
  each : ∀ t, t < T → ∃ m : Nat, ts t = (m : Int) ∧ m < n ∧ c m ≠ 0 ∧ o (t + 1) = o t + (qq c n m).toNat ∧ o (t + 1) ≤ N ∧ V / 2 ^ o t % 2 ^ (qq c n m).toNat = uu c n m
theorem bits_keep (V x N o q : Nat) (h : o + q ≤ N) : (V + x * 2 ^ N) / 2 ^ o % 2 ^ q = V / 2 ^ o % 2 ^ q := by
  obtain ⟨r, rfl⟩ : ∃ r, N = o + (q + r) := ⟨N - o - q, by omega⟩
  have e : x * 2 ^ (o + (q + r)) = 2 ^ o * (2 ^ q * (x * 2 ^ r)) := by
    rw [Nat.pow_add, Nat.pow_add]
    simp only [Nat.mul_left_comm]
  rw [e, Nat.add_mul_div_left _ _ (Nat.pow_pos (by omega)), Nat.add_mul_mod_self_left]
theorem bits_new (V x N q : Nat) (h : V < 2 ^ N) (hx : x < 2 ^ q) : (V + x * 2 ^ N) / 2 ^ N % 2 ^ q = x := by
  rw [Nat.mul_comm, Nat.add_mul_div_left _ _ (Nat.pow_pos (by omega)), Nat.div_eq_of_lt h, Nat.zero_add, Nat.mod_eq_of_lt hx]
theorem told_nil (c : Nat → Int) (n : Nat) (ts : Nat → Int) (V : Nat) : Told c n ts (fun _ => 0) 0 V 0 := ⟨rfl, rfl, fun t ht => by omega⟩
theorem Told.next {c : Nat → Int} {n : Nat} {ts : Nat → Int} {o : Nat → Nat} {T V N m : Nat} (h : Told c n ts o T V N) (hV : V < 2 ^ N) (hm : m < n) (hc : c m ≠ 0) :
    Told c n (fun t => if t = T then (m : Int) else ts t) (fun t => if t = T + 1 then N + (qq c n m).toNat else o t) (T + 1) (V + uu c n m * 2 ^ N) (N + (qq c n m).toNat) := by
  refine ⟨?_, if_pos rfl, fun t ht => ?_⟩
  · show (if 0 = T + 1 then _ else o 0) = 0
    rw [if_neg (by omega)]
    exact h.zero
  · by_cases e : t = T
    · subst e
      refine ⟨m, if_pos rfl, hm, hc, ?_, ?_, ?_⟩
      · show (if t + 1 = t + 1 then _ else o (t + 1)) = (if t = t + 1 then _ else o t) + _
        rw [if_pos rfl, if_neg (by omega), h.top]
      · show (if t + 1 = t + 1 then _ else o (t + 1)) ≤ _
        rw [if_pos rfl]
        exact Nat.le_refl _
      · show _ / 2 ^ (if t = t + 1 then _ else o t) % _ = _
        rw [if_neg (by omega), h.top]
        exact bits_new V _ N _ hV (uu_lt c n m)
    · obtain ⟨m', h1, h2, h3, h4, h5, h6⟩ := h.each t (by omega)
      refine ⟨m', ?_, h2, h3, ?_, ?_, ?_⟩
      · show (if t = T then _ else ts t) = _
        rw [if_neg e, h1]
      · show (if t + 1 = T + 1 then _ else o (t + 1)) = (if t = T + 1 then _ else o t) + _
        rw [if_neg (by omega), if_neg (by omega), h4]
      · show (if t + 1 = T + 1 then _ else o (t + 1)) ≤ _
        rw [if_neg (by omega)]
        omega
      · show _ / 2 ^ (if t = T + 1 then _ else o t) % _ = _
        rw [if_neg (by omega), bits_keep V _ N (o t) _ (by omega), h6]
theorem num_byt (V : Nat) : ∀ n p, num (byt V) p n = V / 256 ^ p % 256 ^ n
  | 0, p => by simp [num, Nat.mod_one]
  | n + 1, p => by
    rw [num, num_byt V n (p + 1)]
    unfold byt
    rw [show 2 ^ (8 * p) = 256 ^ p by rw [Nat.pow_mul], Nat.pow_succ 256 p, ← Nat.div_div_eq_div_mul, Nat.pow_succ 256 n, Nat.mul_comm (256 ^ n) 256, Nat.mod_mul]
theorem val_byt (V N o L : Nat) (hV : V < 2 ^ N) : val (byt V) ((N + 7) / 8) o L = V / 2 ^ o % 2 ^ L := by
  unfold val
  have hlt : V < 256 ^ ((N + 7) / 8) := by
    refine Nat.lt_of_lt_of_le hV ?_
    rw [show 256 = 2 ^ 8 from rfl, ← Nat.pow_mul]
    exact Nat.pow_le_pow_right (by omega) (by omega)
  rw [num_byt, Nat.pow_zero, Nat.div_one, Nat.mod_eq_of_lt hlt]
theorem told_nx {c : Nat → Int} {n : Nat} {o : Nat → Nat} {V N t m : Nat} (hch : chk c n = 0) (hV : V < 2 ^ N) (hm : m < n) (hc : c m ≠ 0) (hb : o t + (qq c n m).toNat ≤ N) (hv : V / 2 ^ o t % 2 ^ (qq c n m).toNat = uu c n m) :
    Nx c n (fun j => bt (byt V) (o t + j)) (qq c n m).toNat m := by
  obtain ⟨hg, _, hk⟩ := chk_zero hch
  have g1 := hg m hm
  refine next_code hch (fun j => bt_le _ _) hm hc ?_ (fun hne => ?_)
  · by_cases h1 : many c n = 1
    · rw [if_pos h1, qq_one h1 hc]
      rfl
    · rw [if_neg h1, qq_many h1 hc]
  · have h3 : (qq c n m).toNat = (c m).toNat := by rw [qq_many hne hc]
    rw [← vm_rv (byt V) (byt_le V) ((N + 7) / 8) (o t) _ (by omega), val_byt V N _ _ hV, hv, uu_many hne hc, h3]
    exact rv_rv _ _ (cod_lt hg hk m hm _ (by omega) (by omega))
/-- What lies in memory. -/
structure Inv (w6 wr : World) (H gw : Nat) (c : Nat → Int) (n T V N : Nat) (u tv : Value) (ts : Nat → Int) (o : Nat → Nat) : Prop where
  wri : Wr wr gw u V N
  row : wr.ownsRow 0 3 1 tv T (Spl.cells ts T)
  ftH : ∀ b, Ft gw u b → H ≤ b
  tvH : ∀ b, tv.ownBlock = some b → H ≤ b ∧ ¬ Ft gw u b
  bel : Below H w6 wr
  told : Told c n ts o T V N
theorem row_keep {S : Nat → Prop} {w w' : World} {v : Value} {n : Nat} {xs : List Value} (h : w.ownsRow 0 3 1 v n xs) (u : Upd S w w') (hs : ∀ k, v.ownBlock = some k → ¬ S k) : w'.ownsRow 0 3 1 v n xs := by
  obtain ⟨h1, h2⟩ := h
  refine ⟨h1, ?_⟩
  rcases h2 with h2 | ⟨b, cap, cur, rfl, l0, hb, r⟩
  · exact .inl h2
  · exact .inr ⟨b, cap, cur, rfl, l0, (u.block b (Array.getElem?_eq_some_iff.1 hb).1 (hs b rfl)).trans hb, r⟩
theorem Inv.drewN {w6 wr : World} {H gw : Nat} {c : Nat → Int} {n T V N : Nat} {u tv : Value} {ts : Nat → Int} {o : Nat → Nat} (h : Inv w6 wr H gw c n T V N u tv ts o) (k : Nat) : Inv w6 (wr.drewN k) H gw c n T V N u tv ts o :=
  ⟨h.wri.keep ((Upd.refl (fun _ => False) wr).drewN k) (fun _ _ h => h), row_keep h.row ((Upd.refl (fun _ => False) wr).drewN k) (fun _ _ h => h), h.ftH, h.tvH, ⟨h.bel.os, h.bel.tape, h.bel.output, h.bel.size, h.bel.block⟩, h.told⟩
/-- Behind a symbol that was written, and not told yet. -/
structure Mid (w6 wr : World) (H gw : Nat) (c : Nat → Int) (n T V N m : Nat) (u tv : Value) (ts : Nat → Int) (o : Nat → Nat) : Prop where
  wri : Wr wr gw u (V + uu c n m * 2 ^ N) (N + (qq c n m).toNat)
  row : wr.ownsRow 0 3 1 tv T (Spl.cells ts T)
  ftH : ∀ b, Ft gw u b → H ≤ b
  tvH : ∀ b, tv.ownBlock = some b → H ≤ b ∧ ¬ Ft gw u b
  bel : Below H w6 wr
  told : Told c n ts o T V N
  lt : V < 2 ^ N
theorem Inv.write {w6 wr w' : World} {H gw : Nat} {c : Nat → Int} {n T V N m : Nat} {u u' tv : Value} {ts : Nat → Int} {o : Nat → Nat} (h : Inv w6 wr H gw c n T V N u tv ts o) (hH : H ≤ wr.heap.size)
    (hw : Wr w' gw u' (V + uu c n m * 2 ^ N) (N + (qq c n m).toNat)) (t : Turn gw u u' (N / 8) wr w') : Mid w6 w' H gw c n T V N m u' tv ts o := by
  refine ⟨hw, row_keep h.row t.upd (fun k hk => (h.tvH k hk).2), fun b hb => ?_, fun b hb => ⟨(h.tvH b hb).1, fun hf => ?_⟩, h.bel.trans (t.upd.below H hH h.ftH), h.told, h.wri.lt⟩
  · rcases hb with rfl | hb
    · exact h.ftH _ (.inl rfl)
    · rcases t.stays.foot b hb with h1 | h1
      · exact h.ftH b (.inr h1)
      · omega
  · rcases hf with rfl | hf
    · exact (h.tvH _ hb).2 (.inl rfl)
    · rcases t.stays.foot b hf with h1 | h1
      · exact (h.tvH b hb).2 (.inr h1)
      · have := (h.row.lt b hb).2
        omega
theorem Mid.drewN {w6 wr : World} {H gw : Nat} {c : Nat → Int} {n T V N m : Nat} {u tv : Value} {ts : Nat → Int} {o : Nat → Nat} (h : Mid w6 wr H gw c n T V N m u tv ts o) (k : Nat) : Mid w6 (wr.drewN k) H gw c n T V N m u tv ts o :=
  ⟨h.wri.keep ((Upd.refl (fun _ => False) wr).drewN k) (fun _ _ h => h), row_keep h.row ((Upd.refl (fun _ => False) wr).drewN k) (fun _ _ h => h), h.ftH, h.tvH, ⟨h.bel.os, h.bel.tape, h.bel.output, h.bel.size, h.bel.block⟩, h.told, h.lt⟩
theorem cells_snoc (ts : Nat → Int) (T : Nat) (z : Int) : Spl.cells ts T ++ [.int .i64 z] = Spl.cells (fun t => if t = T then z else ts t) (T + 1) := by
  unfold Spl.cells
  rw [List.range_succ, List.map_append]
  congr 1
  · apply List.map_congr_left
    intro k hk
    have := List.mem_range.1 hk
    have hne : ¬ k = T := by omega
    simp only [hne, if_false]
  · simp
theorem Mid.app {w6 wr w' : World} {H gw : Nat} {c : Nat → Int} {n T V N m : Nat} {u tv tv' : Value} {ts : Nat → Int} {o : Nat → Nat} {ob : Obj} (h : Mid w6 wr H gw c n T V N m u tv ts o) (hH : H ≤ wr.heap.size) (hm : m < n) (hc : c m ≠ 0)
    (own : w'.ownsRow 0 3 1 tv' (T + 1) (Spl.cells ts T ++ [.int .i64 (m : Int)])) (gr : (wr.alloc ob).grownBy w' tv.ownBlock) (ho : tv'.ownBlock = tv.ownBlock ∨ tv'.ownBlock = some (wr.alloc ob).heap.size) :
    Inv w6 w' H gw c n (T + 1) (V + uu c n m * 2 ^ N) (N + (qq c n m).toNat) u tv' (fun t => if t = T then (m : Int) else ts t) (fun t => if t = T + 1 then N + (qq c n m).toNat else o t) := by
  have up : Upd (fun k => tv.ownBlock = some k) wr w' := ⟨gr.os, gr.tape, gr.output, by have := gr.size; simp at this; omega, fun k hk hs => (gr.block k (by simp; omega) (fun e => hs e.symm)).trans (Below.heap_alloc _ _ _ hk)⟩
  rw [cells_snoc] at own
  refine ⟨h.wri.keep up (fun k hk hs => (h.tvH k hs).2 hk), own, h.ftH, fun b hb => ?_, h.bel.trans (up.below H hH (fun k hk => (h.tvH k hk).1)), h.told.next h.lt hm hc⟩
  rcases ho with h1 | h1
  · exact h.tvH b (h1 ▸ hb)
  · rw [h1] at hb
    cases hb
    refine ⟨by simp; omega, fun hf => ?_⟩
    have := h.wri.raw.lt _ hf
    simp at this
    omega
end Go.Proofs.YtgjpcjnhggcfdaaGreatDoor.Bak

namespace Go.Proofs.YtgjpcjnhggcfdaaGreatDoor.HTw
open Go.ChangeShapes Go.WideShapes Go.ChangeAt Go.RowKit Go.Proofs.YtgjpcjnhggcfdaaGreatDoor.Core Go.Proofs.YtgjpcjnhggcfdaaGreatDoor.Foot Go.Proofs.YtgjpcjnhggcfdaaGreatDoor.Add Go.Proofs.YtgjpcjnhggcfdaaGreatDoor.Wri

/-- A writer that lies in blocks from H on. -/
structure Nw (H : Nat) (w wr : World) (gw : Nat) (u : Value) (V N : Nat) : Prop where
  wri : Wr wr gw u V N
  ft : ∀ b, Ft gw u b → H ≤ b
  bel : Below H w wr
  hH : H ≤ w.heap.size
theorem Nw.put {H : Nat} {w wr w' : World} {gw : Nat} {u u' : Value} {V N V' N' m : Nat} (h : Nw H w wr gw u V N) (hw : Wr w' gw u' V' N') (t : Turn gw u u' m wr w') : Nw H w w' gw u' V' N' := by
  have hs := h.bel.size
  have hH := h.hH
  refine ⟨hw, fun b hb => ?_, h.bel.trans (t.upd.below H (by omega) h.ft), hH⟩
  rcases hb with rfl | hb
  · exact h.ft _ (.inl rfl)
  · rcases t.stays.foot b hb with h1 | h1
    · exact h.ft b (.inr h1)
    · omega
theorem Nw.keep {H : Nat} {w wr w' : World} {gw : Nat} {u : Value} {V N : Nat} (h : Nw H w wr gw u V N) (b : Below wr.heap.size wr w') : Nw H w w' gw u V N := by
  have hs := h.bel.size
  have hH := h.hH
  exact ⟨h.wri.keep (Upd.ofBelow (S := fun _ => False) b) (fun _ _ h => h), h.ft, h.bel.trans (b.mono (by omega)), hH⟩
theorem Nw.drewN {H : Nat} {w wr : World} {gw : Nat} {u : Value} {V N : Nat} (h : Nw H w wr gw u V N) (k : Nat) : Nw H w (wr.drewN k) gw u V N :=
  h.keep ⟨rfl, rfl, rfl, Nat.le_refl _, fun _ _ => rfl⟩
theorem nw_new (w : World) : Calls Tryz.prog 8 #[] w fun e w' => ∃ g u, e = .returned (.pointer (some ⟨g, 0, none⟩)) ∧ Nw w.heap.size w w' g u 0 0 := by
  refine (new8 w).mono ?_
  rintro e w' ⟨g, rfl, hg, wr, bel⟩
  exact ⟨g, _, rfl, wr, fun b hb => by rcases hb with rfl | hb; exact hg; simp [Value.ownBlock] at hb, bel, Nat.le_refl _⟩
theorem nw_bits {H : Nat} {w wr : World} {gw : Nat} {u : Value} {V N : Nat} (h : Nw H w wr gw u V N) (v n : Nat) (hn : n ≤ 32) (hv : v < 2 ^ n) (hN : N ≤ 1000000) :
    Calls Tryz.prog 26 #[.pointer (some ⟨gw, 0, none⟩), .int .u32 v, .int .i64 n] wr fun e w' => e = .returned (.bool true) ∧ ∃ u', Nw H w w' gw u' (V + v * 2 ^ N) (N + n) := by
  refine (bits_yes gw u V N v n wr h.wri hn hv hN).mono ?_
  rintro e w' ⟨rfl, u', hw, t⟩
  exact ⟨rfl, u', h.put hw t⟩

/-- A writer, as it was in w and as it is now. -/
structure Tw (w : World) (gw : Nat) (u : Value) (V0 N0 : Nat) (wr : World) (u' : Value) (V N : Nat) : Prop where
  base : Wr w gw u V0 N0
  wri : Wr wr gw u' V N
  turn : Turn gw u u' (N0 / 8) w wr
  le : N0 ≤ N
theorem Tw.refl {w : World} {gw : Nat} {u : Value} {V N : Nat} (h : Wr w gw u V N) : Tw w gw u V N w u V N := ⟨h, h, Turn.refl _ _ _ _, Nat.le_refl _⟩
theorem Tw.put {w wr w' : World} {gw : Nat} {u u1 u2 : Value} {V0 N0 V N V' N' : Nat} (h : Tw w gw u V0 N0 wr u1 V N) (hw : Wr w' gw u2 V' N') (t : Turn gw u1 u2 (N / 8) wr w') (hN : N ≤ N') : Tw w gw u V0 N0 w' u2 V' N' :=
  ⟨h.base, hw, h.turn.trans t (by have := h.le; omega) h.base.raw.ne (fun b hb => (h.base.raw.own.lt b hb).2), by have := h.le; omega⟩
theorem turn_below {w w' : World} (g : Nat) (v : Value) (n : Nat) (b : Below w.heap.size w w') (hlt : ∀ b, v.ownBlock = some b → b < w.heap.size) : Turn g v v n w w' :=
  ⟨Upd.ofBelow b, fun _ h => .inl h, fun c k hb _ => b.cell (p := ⟨c, k, none⟩) (hlt c hb)⟩
theorem Tw.below {w wr w' : World} {gw : Nat} {u u1 : Value} {V0 N0 V N : Nat} (h : Tw w gw u V0 N0 wr u1 V N) (b : Below wr.heap.size wr w') : Tw w gw u V0 N0 w' u1 V N :=
  h.put (h.wri.keep (Upd.ofBelow (S := fun _ => False) b) (fun _ _ h => h)) (turn_below _ _ _ b (fun c hc => (h.wri.raw.own.lt c hc).2)) (Nat.le_refl _)
theorem Tw.ft {w wr : World} {gw : Nat} {u u1 : Value} {V0 N0 V N : Nat} (h : Tw w gw u V0 N0 wr u1 V N) (b : Nat) (hb : Ft gw u1 b) : Ft gw u b ∨ w.heap.size ≤ b := by
  rcases hb with rfl | hb
  · exact .inl (.inl rfl)
  · rcases h.turn.stays.foot b hb with h1 | h1
    · exact .inl (.inr h1)
    · exact .inr h1
theorem Tw.trans {w w1 w2 : World} {gw : Nat} {u u1 u2 : Value} {V0 N0 V1 N1 V2 N2 : Nat} (h : Tw w gw u V0 N0 w1 u1 V1 N1) (k : Tw w1 gw u1 V1 N1 w2 u2 V2 N2) : Tw w gw u V0 N0 w2 u2 V2 N2 :=
  h.put k.wri k.turn k.le
theorem Tw.nw {H : Nat} {w0 w wr : World} {gw : Nat} {u u1 : Value} {V0 N0 V N : Nat} (h : Nw H w0 w gw u V0 N0) (k : Tw w gw u V0 N0 wr u1 V N) : Nw H w0 wr gw u1 V N := h.put k.wri k.turn
theorem tw_bits {w wr : World} {gw : Nat} {u u1 : Value} {V0 N0 V N : Nat} (h : Tw w gw u V0 N0 wr u1 V N) (v n : Nat) (hn : n ≤ 32) (hv : v < 2 ^ n) (hN : N ≤ 1000000) :
    Calls Tryz.prog 26 #[.pointer (some ⟨gw, 0, none⟩), .int .u32 v, .int .i64 n] wr fun e w' => e = .returned (.bool true) ∧ ∃ u2, Tw w gw u V0 N0 w' u2 (V + v * 2 ^ N) (N + n) := by
  refine (bits_yes gw u1 V N v n wr h.wri hn hv hN).mono ?_
  rintro e w' ⟨rfl, u2, hw, t⟩
  exact ⟨rfl, u2, h.put hw t (by omega)⟩
end Go.Proofs.YtgjpcjnhggcfdaaGreatDoor.HTw

namespace Go.Proofs.YtgjpcjnhggcfdaaGreatDoor.HTel
set_option linter.unusedVariables false
open Go.ChangeShapes Go.WideShapes Go.ChangeAt Go.RowKit Go.Proofs.YtgjpcjnhggcfdaaGreatDoor.Core Go.Proofs.YtgjpcjnhggcfdaaGreatDoor.Gnd Go.Proofs.YtgjpcjnhggcfdaaGreatDoor.Math Go.Proofs.YtgjpcjnhggcfdaaGreatDoor.Dec Go.Proofs.YtgjpcjnhggcfdaaGreatDoor.Tre Go.Proofs.YtgjpcjnhggcfdaaGreatDoor.Foot Go.Proofs.YtgjpcjnhggcfdaaGreatDoor.Add Go.Proofs.YtgjpcjnhggcfdaaGreatDoor.Bak Go.Proofs.YtgjpcjnhggcfdaaGreatDoor.HTw Go.Proofs.YtgjpcjnhggcfdaaGreatDoor.HNum Go.Proofs.YtgjpcjnhggcfdaaGreatDoor.HSiz Go.Proofs.YtgjpcjnhggcfdaaGreatDoor.HFit Go.Proofs.YtgjpcjnhggcfdaaGreatDoor.HFiv Go.Proofs.YtgjpcjnhggcfdaaGreatDoor.HNew Go.Proofs.YtgjpcjnhggcfdaaGreatDoor.HHas

/-- The bits of one part, and how many. -/
def ln (c : Nat) (f : Nat → Nat → Int) (q : Nat → Pa) (i : Nat) : Nat := if (q i).th = true then (qq (f i) (sz c i) (q i).sy).toNat + (q i).bi else 0
def bv (c : Nat) (f : Nat → Nat → Int) (q : Nat → Pa) (i : Nat) : Nat := if (q i).th = true then uu (f i) (sz c i) (q i).sy + (q i).ex * 2 ^ (qq (f i) (sz c i) (q i).sy).toNat else 0
def tN (c : Nat) (f : Nat → Nat → Int) (q : Nat → Pa) (N : Nat) : Nat → Nat
  | 0 => N
  | i + 1 => tN c f q N i + ln c f q i
def tV (c : Nat) (f : Nat → Nat → Int) (q : Nat → Pa) (V N : Nat) : Nat → Nat
  | 0 => V
  | i + 1 => tV c f q V N i + bv c f q i * 2 ^ tN c f q N i
theorem step_row {ops : Array Oper} {o : Oper} {a : Act} {w : World} {K : Act → World → Prop} {Q : Exit → Act → World → Prop} {E : Prop}
    (hg : o.guard = none) (ty : TypeId) (x y : Operand) (ho : o.op = .store ty x y)
    (g : Nat) (cells : Array Value) (hx : a.eval x = .pointer (some ⟨g, 0, none⟩)) (hy : a.eval y = .agg cells)
    (t : TypeId) (old : Array Value) (hgx : w.heap[g]? = some (.cells old t (0, 0))) (hi : (Tryz.prog.info? ty).map (·.size) = some cells.size)
    (hold : old.size = cells.size) (h1 : cells.all (·.oneCell') = true)
    (hK : K (a.put o.dst undef) (w.setRow g cells)) : if Region.wanted o (yielded ops a.tmps) = true then Oper.wp Tryz.prog o a w K Q else E := by
  have hw : Region.wanted o (yielded ops a.tmps) = true := by simp [Region.wanted, hg]
  rw [if_pos hw]
  exact wp_store_row ty x y ho g cells hx hy t old hgx hi hold h1 hK
/-- The zero of five parts. -/
def pc0 : Array Value := #[.bool false, .int .i64 0, .int .i64 0, .int .u32 0, .bool false, .int .i64 0, .int .i64 0, .int .u32 0, .bool false, .int .i64 0, .int .i64 0, .int .u32 0, .bool false, .int .i64 0, .int .i64 0, .int .u32 0, .bool false, .int .i64 0, .int .i64 0, .int .u32 0]
theorem prc_one (q : Nat → Pa) : (prc q).all (·.oneCell') = true := by simp [prc, Value.oneCell']
/-- The parts are known, and lie in a block. -/
structure Kn (w : World) (q : Nat → Pa) (ok : Bool) (v b : Value) (wx : World) : Prop where
  ex : ∃ g9, v = .pointer (some ⟨g9, 0, none⟩) ∧ b = .bool ok ∧ Box wx g9 59 (prc q)
  bel : Below w.heap.size w wx
theorem thru {w1 wz w5 : World} {p : Addr} {v : Value} (b1 : Below w1.heap.size w1 wz) (b5 : Below wz.heap.size wz w5) (h : w1.cell? p = some v) : w5.cell? p = some v :=
  (b5.cell (Nat.lt_of_lt_of_le (lt_of_cell h) b1.size)).trans ((b1.cell (lt_of_cell h)).trans h)
theorem bel_d0 (w : World) : Below w.heap.size w w.drew := bel_dr (Below.refl _ _)
theorem bel_da (w : World) (o : Obj) : Below w.heap.size w (w.drew.alloc o) := (bel_d0 w).alloc (Nat.le_refl _) _
theorem bel_ad (w : World) (o : Obj) : Below w.heap.size w (w.alloc o).drew := bel_dr (bel_a1 w o)
theorem bel_row {B : Nat} {w w1 : World} (h : Below B w w1) {g : Nat} (hg : B ≤ g) (cs : Array Value) : Below B w (w1.setRow g cs) :=
  ⟨h.os, h.tape, h.output, by simpa [World.setRow] using h.size, fun k hk => (setRow_other w1 g k cs (by omega)).trans (h.block k hk)⟩
theorem kn_row {w w1 : World} {q : Nat → Pa} {ok : Bool} {g : Nat} {old : Array Value} (b : Box w1 g 59 old) (h : Below w.heap.size w w1) (hg : w.heap.size ≤ g) : Kn w q ok (.pointer (some ⟨g, 0, none⟩)) (.bool ok) (w1.setRow g (prc q)) :=
  ⟨⟨g, rfl, rfl, setRow_heap _ _ _ _ _ _ b⟩, bel_row h hg _⟩
theorem st20 {w : World} {g : Nat} {q : Nat → Pa} (b : Box w g 59 pc0) : (storeCells ⟨g, 0, none⟩ (prc q).toList).run Tryz.prog w = .ok () (w.setRow g (prc q)) := by
  have := run_storeCells_from (P := Tryz.prog) g 59 (prc q).toList 0 pc0 w b rfl (fun v hv => (Array.all_eq_true_iff_forall_mem.1 (prc_one q)) v (by simpa using hv))
  simpa using this
theorem kr {w : World} {p : Addr} {v : Value} (h : w.cell? p = some v) (g : Nat) (cs : Array Value) (hne : p.block ≠ g) : (w.setRow g cs).cell? p = some v := (cell_setRow_other w g cs p hne).trans h
theorem ka {w : World} {p : Addr} {v : Value} (h : w.cell? p = some v) (o : Obj) : (w.alloc o).cell? p = some v := ((bel_a1 w o).cell (lt_of_cell h)).trans h
theorem load_row_g {ops : Array Oper} {rest : List Oper} {o : Oper} {a : Act} {w : World} {Q : Exit → Act → World → Prop} {v : Value} (hwant : Region.wanted o (yielded ops a.tmps) = true)
    (h0 : ∀ K : Act → World → Prop, K (a.put o.dst v) w → Oper.wp Tryz.prog o a w K Q) (h : wpList Tryz.prog ops Q rest (a.put o.dst v) w) : wpList Tryz.prog ops Q (o :: rest) a w :=
  wpList_step fun K hK => by rw [if_pos hwant]; exact h0 K (hK _ _ h)
/-- What Tell answers. -/
structure TelR (w : World) (gw : Nat) (u : Value) (V N : Nat) (b : Bool) (V' N' : Nat) (e : Ending) (w' : World) : Prop where
  ret : e = .returned (.bool b)
  tw : ∃ u', Tw w gw u V N w' u' V' N'
set_option maxRecDepth 20000 in
set_option maxHeartbeats 2000000 in
theorem tell11 {w : World} {lo hi g c gw V N : Nat} {T : Nat → Nat} {f : Nat → Nat → Int} {u : Value} (h : Gr w lo hi g c T f) (hr : ∀ i, i < 5 → Rng (f i) (sz c i)) (hw : Wr w gw u V N) (hN : N ≤ 500000) (hap : ∀ k, lo ≤ k → k < hi → ¬ Ft gw u k)
    (t : Tk) (wd : Int) (ok : Bool) (q : Nat → Pa) (hq : ∀ i, i < 5 → (q i).ex < 2 ^ (q i).bi ∧ (q i).bi ≤ 32)
    (par : ∀ w', Below w.heap.size w w' → Calls Tryz.prog 17 #[.agg (tkc t), .int .i64 wd, .int .i64 (pl c)] w' fun e w'' => e = .returned (.tuple #[.agg (prc q), .bool ok]) ∧ Below w'.heap.size w' w'')
    (b : Bool) (V' N' : Nat) (hb : (ok && okA c f q) = b) (ht : b = true → V' = tV c f q V N 5 ∧ N' = tN c f q N 5) (hf : b = false → V' = V ∧ N' = N) :
    Calls Tryz.prog 11 #[.pointer (some ⟨g, 0, none⟩), .pointer (some ⟨gw, 0, none⟩), .agg (tkc t), .int .i64 wd] w fun e w' => TelR w gw u V N b V' N' e w' := by
  have HB := hide hb
  have HT := hide ht
  have HF := hide hf
  clear hb ht hf
  have GG := hide h
  have HR := hide hr
  have WW := hide hw
  have AP := hide hap
  have HQ := hide hq
  have PA := hide par
  have gl := h.box.lt
  have g5 := (h.box.cell 5).trans (grc_5 _ _)
  have BT := hide (Box.made w 44 (tkc t))
  have BG := hide (h.box.alloc (.cells (tkc t) 44))
  clear h hr hw hap hq par
  rcases t with ⟨tk, tn, td, ti, ta⟩
  simp only [tkc] at *
  go_enter Tryz.func11, Tryz.ntmps11
  go_wp2
  generalize hw1 : w.alloc (.cells #[.int .i64 tk, .int .i64 tn, .int .i64 td, .int .i64 ti, .int .u32 ta] 44) = w1 at *
  have x0 : w1.cell? ⟨w.heap.size, 0, none⟩ = some (.int .i64 tk) := (unhide BT).cell 0
  have x1 : w1.cell? ⟨w.heap.size, 1, none⟩ = some (.int .i64 tn) := (unhide BT).cell 1
  have x2 : w1.cell? ⟨w.heap.size, 2, none⟩ = some (.int .i64 td) := (unhide BT).cell 2
  have x3 : w1.cell? ⟨w.heap.size, 3, none⟩ = some (.int .i64 ti) := (unhide BT).cell 3
  have x4 : w1.cell? ⟨w.heap.size, 4, none⟩ = some (.int .u32 ta) := (unhide BT).cell 4
  have x5 : w1.cell? ⟨g, 5, none⟩ = some (.int .i64 (pl c)) := ((unhide BG).cell 5).trans (grc_5 _ _)
  have B1 := hide (show Below w.heap.size w w1 by rw [← hw1]; exact bel_a1 _ _)
  clear hw1 BT BG g5
  go_cut [9, 10] from 19 to 28 (fun v b wx => Kn w1 q ok v b wx)
  case first =>
    have hg1 : g < w1.heap.size := lt_of_cell x5
    have hw1' : w.heap.size < w1.heap.size := lt_of_cell x0
    go_region_held3 (fun w' => (w'.cell? ⟨w.heap.size, 0, none⟩ = some (.int .i64 tk) ∧ w'.cell? ⟨w.heap.size, 1, none⟩ = some (.int .i64 tn) ∧ w'.cell? ⟨w.heap.size, 2, none⟩ = some (.int .i64 td) ∧ w'.cell? ⟨w.heap.size, 3, none⟩ = some (.int .i64 ti) ∧ w'.cell? ⟨w.heap.size, 4, none⟩ = some (.int .u32 ta)) ∧ w'.cell? ⟨g, 5, none⟩ = some (.int .i64 (pl c))) (first | exact ⟨⟨z0, z1, z2, z3, z4⟩, z5⟩ | exact ⟨⟨ka z0 _, ka z1 _, ka z2 _, ka z3 _, ka z4 _⟩, ka z5 _⟩ | exact ⟨⟨kr z0 _ _ ZA, kr z1 _ _ ZA, kr z2 _ _ ZA, kr z3 _ _ ZA, kr z4 _ _ ZA⟩, kr z5 _ _ ZB⟩ | exact ⟨⟨kr (ka z0 _) _ _ YA, kr (ka z1 _) _ _ YA, kr (ka z2 _) _ _ YA, kr (ka z3 _) _ _ YA, kr (ka z4 _) _ _ YA⟩, kr (ka z5 _) _ _ YB⟩ | go_keep) ((go_at_call 17; with_reducible refine Calls.mono (unhide PA _ (bel_into (unhide B1) (by first | exact bel_d0 _ | exact bel_da _ _ | exact bel_ad _ _))) ?_; rintro e w5 ⟨rfl, b5⟩; have BZ := hide (bel_into (by first | exact bel_d0 w1 | exact bel_da w1 _ | exact bel_ad w1 _) b5); have z0 := thru (Below.refl _ _) (unhide BZ) x0; have z1 := thru (Below.refl _ _) (unhide BZ) x1; have z2 := thru (Below.refl _ _) (unhide BZ) x2; have z3 := thru (Below.refl _ _) (unhide BZ) x3; have z4 := thru (Below.refl _ _) (unhide BZ) x4; have z5 := thru (Below.refl _ _) (unhide BZ) x5; have ZA : w.heap.size ≠ w1.heap.size := Nat.ne_of_lt hw1'; have ZB : g ≠ w1.heap.size := Nat.ne_of_lt hg1; have YA : w.heap.size ≠ w5.heap.size := Nat.ne_of_lt (Nat.lt_of_lt_of_le hw1' (unhide BZ).size); have YB : g ≠ w5.heap.size := Nat.ne_of_lt (Nat.lt_of_lt_of_le hg1 (unhide BZ).size); have bk := fun (b : Nat) (h : Box _ b 59 pc0) => Box.below h b5 h.lt; (first | (have st1 := st20 (q := q) (bk w1.heap.size (by first | exact Box.made w1.drew 59 _ | exact box_drew (Box.made w1 59 _))); have K1 := hide (kn_row (q := q) (ok := ok) (bk w1.heap.size (by first | exact Box.made w1.drew 59 _ | exact box_drew (Box.made w1 59 _))) (unhide BZ) (Nat.le_refl _))) | skip); have st2 := st20 (q := q) (Box.made w5 59 pc0); have K2 := hide (kn_row (q := q) (ok := ok) (Box.made w5 59 pc0) ((unhide BZ).alloc (unhide BZ).size _) (unhide BZ).size); simp only [pc0] at st2 K2; clear b5 bk))
    all_goals go_wp2_with fail
    all_goals go_meet
    all_goals first | exact unhide K2 | exact unhide K1
  case rest =>
    obtain ⟨⟨g9, rfl, rfl, bq⟩, bl⟩ := hcut
    have BC := hide (bel_into (unhide B1) bl)
    clear bl x0 x1 x2 x3 x4 x5 PA B1
    have G2 := hide ((unhide GG).below (unhide BC))
    have T2 := hide ((Tw.refl (unhide WW)).below (unhide BC))
    have BQ := hide bq
    cases ok with
    | false =>
      obtain rfl : false = b := unhide HB
      obtain ⟨rfl, rfl⟩ := unhide HF rfl
      clear bq BQ HT HF
      go_wp2
      go_ret
      exact ⟨rfl, ⟨_, unhide T2⟩⟩
    | true =>
      clear bq
      have HA := hide (has25 lo hi g c T f (unhide HR) q wc (unhide G2))
      rw [show okA c f q = b from (Bool.true_and _).symm.trans (unhide HB)] at HA
      go_wp2_with (first | (refine load_row_g (by first | rfl | simp [Region.wanted, yielded]) (fun K hK => wp_load_row 59 (.tmp 9) rfl g9 rfl 59 (prc q) (0, 0) _ (unhide BQ) Tryz.underlying59 rfl info_prc hK) ?_) | fail)
      refine (unhide HA).mono ?_
      rintro e w4 ⟨rfl, b4⟩
      have G4 := hide ((unhide G2).below b4)
      have T4 := hide ((unhide T2).below b4)
      have BQ4 := hide ((unhide BQ).below b4 (unhide BQ).lt)
      clear b4 G2 T2 BQ HA
      cases b with
      | false =>
        obtain ⟨rfl, rfl⟩ := unhide HF rfl
        clear HT HF
        go_wp2
        go_ret
        exact ⟨rfl, ⟨_, unhide T4⟩⟩
      | true =>
        have hok : okA c f q = true := (Bool.true_and _).symm.trans (unhide HB)
        have OK := hide hok
        have HE := hide (unhide HT rfl)
        clear hok HB HT HF
        go_wp2_with (first | (refine wpList_load_row rfl 59 (.tmp 9) rfl g9 rfl 59 (prc q) (0, 0) _ (unhide BQ4) Tryz.underlying59 rfl info_prc ?_) | fail)
        have IX := hide (index_prc q)
        clear BQ4 gl
        go_loopw [38] (fun x wr => ∃ (i : Nat) (u' : Value), i ≤ 5 ∧ x = .int .i64 i ∧ tN c f q N i ≤ N + 50 * i ∧ Tw w gw u V N wr u' (tV c f q V N i) (tN c f q N i)) (fun x _ => 5 - (intOf x).toNat)
        case atStart => exact ⟨0, _, by omega, rfl, by simp [tN], unhide T4⟩
        case round =>
          obtain ⟨i, u', hi5, rfl, hn1, t1⟩ := hrel
          have T1 := hide t1
          clear t1 T4 G4
          by_cases hlt : i < 5
          · have hlt' : (i : Int) < 5 := by omega
            have ix := unhide IX i hlt
            have OI := hide (okA_at (unhide OK) hlt)
            have TS := hide (And.intro (show tV c f q V N (i + 1) = tV c f q V N i + bv c f q i * 2 ^ tN c f q N i from rfl) (show tN c f q N (i + 1) = tN c f q N i + ln c f q i from rfl))
            have HQI := hide (unhide HQ i hlt)
            have R1 := hide (unhide T1).wri
            have G1 := hide ((unhide GG).keep (unhide T1).turn.upd (unhide AP))
            have tv : tp T 5 i = .pointer (some ⟨T i, 0, none⟩) := if_pos hlt
            have gl := (unhide G1).box.lt
            have gc := ((unhide G1).box.cell i).trans (grc_at _ _ i hlt)
            rw [tv] at gc
            have TR := hide ((unhide G1).tr i hlt)
            have HRI := hide (unhide HR i hlt)
            have LN := hide (show ln c f q i = if (q i).th = true then (qq (f i) (sz c i) (q i).sy).toNat + (q i).bi else 0 from rfl)
            have BV := hide (show bv c f q i = if (q i).th = true then uu (f i) (sz c i) (q i).sy + (q i).ex * 2 ^ (qq (f i) (sz c i) (q i).sy).toNat else 0 from rfl)
            have OU := hide (show okU c f q i = (!(q i).th || hasB (f i) (sz c i) (q i).sy) from rfl)
            clear tv IX
            generalize tV c f q V N i = V1 at *
            generalize tN c f q N i = N1 at *
            generalize hv2 : tV c f q V N (i + 1) = V2 at *
            generalize hn2 : tN c f q N (i + 1) = N2 at *
            have E2 := hide (And.intro hv2 hn2)
            clear hv2 hn2
            rcases hqi : q i with ⟨th, sy, bi, ex⟩
            rw [hqi] at ix HQI LN BV OU
            simp only [pc] at *
            obtain ⟨hq1, hq2⟩ := unhide HQI
            cases th with
            | false =>
              have eL : N2 = N1 := by have := (unhide TS).2; rw [unhide LN, if_neg (by simp)] at this; omega
              have eV : V2 = V1 := by have := (unhide TS).1; rw [unhide BV, if_neg (by simp)] at this; simpa using this
              have TN := hide ((unhide T1).below (bel_a1 wr (.cells #[.bool false, .int .i64 sy, .int .i64 bi, .int .u32 ex] 58)))
              have HEq := hide (And.intro eL eV)
              clear eL eV gc gl
              go_wp2
              go_roundw
              case rel =>
                obtain ⟨eL, eV⟩ := unhide HEq
                obtain ⟨e1, e2⟩ := unhide E2
                refine ⟨i + 1, u', by omega, by go_num, ?_, ?_⟩
                · rw [e2]; omega
                · rw [e1, e2, eL, eV]; exact unhide TN
              case measure => simp [intOf]; omega
            | true =>
              have hh : hasB (f i) (sz c i) (sy : Int) = true := by
                have := (unhide OU).symm.trans (unhide OI)
                simpa using this
              have hsy : sy < sz c i ∧ f i sy ≠ 0 := by
                unfold hasB at hh
                have := of_decide_eq_true hh
                exact ⟨by omega, this.2.2⟩
              have hqb := qq_bd (unhide HRI) hsy.1
              have eL : N2 = N1 + (qq (f i) (sz c i) sy).toNat + bi := by have := (unhide TS).2; rw [unhide LN, if_pos rfl] at this; omega
              have eV : V2 = V1 + uu (f i) (sz c i) sy * 2 ^ N1 + ex * 2 ^ (N1 + (qq (f i) (sz c i) sy).toNat) := by
                have := (unhide TS).1
                rw [unhide BV, if_pos rfl, Nat.add_mul, Nat.mul_assoc, ← Nat.pow_add, Nat.add_comm (qq (f i) (sz c i) sy).toNat N1, ← Nat.add_assoc] at this
                exact this
              have HS := hide hsy
              have hN1 : N1 ≤ 600000 := by omega
              have WY := hide (fun (w' : World) (b : Below (wr.alloc (.cells #[.bool true, .int .i64 sy, .int .i64 bi, .int .u32 ex] 58)).heap.size (wr.alloc (.cells #[.bool true, .int .i64 sy, .int .i64 bi, .int .u32 ex] 58)) w') =>
                write_yes (g + 1) hi (T i) (sz c i) (f i) (unhide HRI) sy (unhide HS).1 (unhide HS).2 gw u' V1 N1 w' (((unhide TR).below (bel_a1 _ _)).below b) ((unhide R1).keep (Upd.ofBelow (S := fun _ => False) (bel_into (bel_a1 wr _) b)) (fun _ _ h => h)) (by omega))
              have LT := hide (unhide R1).raw.lt
              have BX := hide (Box.made wr 58 #[.bool true, .int .i64 sy, .int .i64 bi, .int .u32 ex])
              have HEq := hide (And.intro eL eV)
              clear hh hsy eL eV
              have HLE := hide (show (qq (f i) (sz c i) sy).toNat ≤ 15 by omega)
              generalize (qq (f i) (sz c i) sy).toNat = L at *
              generalize uu (f i) (sz c i) sy = x at *
              clear hqb
              go_wp2
              go_region_with (go_at_call 25; with_reducible refine Calls.mono (unhide WY _ (by first | exact bel_d0 _ | exact bel_dr (Below.refl _ _))) ?_; rintro e w7 ⟨rfl, u2, wr7, tu7⟩; have T7 := hide (Tw.put ((unhide T1).below (by first | exact bel_ad wr _ | exact bel_da wr _)) wr7 tu7 (Nat.le_add_right _ _)); have B7 := hide (Box.keep (box_drew (unhide BX)) tu7.upd (fun h => absurd (unhide LT _ h) (Nat.lt_irrefl _))); clear wr7 tu7)
              all_goals (have c2 : w7.cell? ⟨wr.heap.size, 2, none⟩ = some (.int .i64 bi) := (unhide B7).cell 2)
              all_goals (have c3 : w7.cell? ⟨wr.heap.size, 3, none⟩ = some (.int .u32 ex) := (unhide B7).cell 3)
              all_goals (have bl := (unhide B7).lt)
              all_goals (have hNL : N1 + L ≤ 600000 := by have := unhide HLE; omega)
              all_goals clear BX LT WY TR R1 B7 gc gl
              all_goals go_wp2_with fail
              all_goals (refine (Wri.bits_yes gw u2 _ _ ex bi w7 (unhide T7).wri hq2 hq1 (by omega)).mono ?_)
              all_goals (rintro e w9 ⟨rfl, u3, wr9, tu9⟩)
              all_goals (have T9 := hide (Tw.put (unhide T7) wr9 tu9 (Nat.le_add_right _ _)))
              all_goals clear wr9 tu9 c2 c3 bl T7
              all_goals go_wp2
              all_goals go_roundw
              all_goals first
                | (obtain ⟨eL, eV⟩ := unhide HEq
                   obtain ⟨e1, e2⟩ := unhide E2
                   have hle := unhide HLE
                   refine ⟨i + 1, u3, by omega, by go_num, ?_, ?_⟩
                   · rw [e2]; omega
                   · rw [e1, e2, eL, eV]; exact unhide T9)
                | (simp [intOf]; omega)
          · obtain rfl : i = 5 := by omega
            obtain ⟨rfl, rfl⟩ := unhide HE
            go_wp2
            go_ret
            exact ⟨rfl, ⟨_, unhide T1⟩⟩
end Go.Proofs.YtgjpcjnhggcfdaaGreatDoor.HTel
