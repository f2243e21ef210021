/- Contract: ref.sorted. Conditions: the row is not long. -/
import Derived.Test.YtcfnbbelbadmkaaGth
namespace Go.Proofs.Ytcfnbbelbadmkaa.Srd
open Go.ChangeShapes Go.WideShapes Go.ChangeAt Go.RowKit Go.Proofs.Ytcfnbbelbadmkaa.Core Go.Proofs.Ytcfnbbelbadmkaa.Gnd Go.Proofs.Ytcfnbbelbadmkaa.Gth

/-- n integers in a block, none frozen. -/
def Zow (w : World) (g n : Nat) (f : Nat → Int) : Prop := ∀ i, i < n → w.cell? ⟨g, i, none⟩ = some (.int .i64 (f i)) ∧ w.frozen? ⟨g, i, none⟩ = false
theorem Zow.congr {w : World} {g n : Nat} {f f' : Nat → Int} (h : Zow w g n f) (e : ∀ i, i < n → f i = f' i) : Zow w g n f' := fun i hi => by
  rw [← e i hi]
  exact h i hi
theorem Zow.set {w : World} {g n : Nat} {f : Nat → Int} (h : Zow w g n f) (k : Nat) (z : Int) : Zow (w.setCell ⟨g, k, none⟩ (.int .i64 z)) g n (fun j => if j = k then z else f j) := fun i hi => by
  refine ⟨?_, by rw [World.frozen?_setCell]; exact (h i hi).2⟩
  by_cases e : i = k
  · subst e
    simp only [if_true]
    exact World.cell?_setCell_same _ _ _ (h i hi).1
  · simp only [if_neg e]
    rw [World.cell?_setCell_other _ _ _ _ (fun h => e (by cases h; rfl))]
    exact (h i hi).1
theorem Zow.keep {S : Nat → Prop} {w w' : World} {g n : Nat} {f : Nat → Int} (h : Zow w g n f) (u : Upd S w w') (hg : g < w.heap.size) (hs : ¬ S g) : Zow w' g n f := fun i hi =>
  ⟨(u.cell (p := ⟨g, i, none⟩) hg hs).trans (h i hi).1, (World.frozen?_of_block (a := ⟨g, i, none⟩) (u.block g hg hs)).trans (h i hi).2⟩
def lst (f : Nat → Int) (n : Nat) : List Int := (List.range n).map f
theorem lst_len (f : Nat → Int) (n : Nat) : (lst f n).length = n := by simp [lst]
/-- Integers that are read. -/
def Ils (g : Nat) (w : World) (v : Value) (xs : List Int) : Prop :=
  ∃ b off cap, v = .slice (some ⟨b, off, none⟩) xs.length cap ∧ xs.length ≤ cap ∧ b ≠ g ∧ ∀ i, i < xs.length → w.cell? ⟨b, off + i, none⟩ = some (.int .i64 (xs.getD i 0))
def leZ (x y : Int) : Bool := decide (x ≤ y)
theorem news_of {w : World} {n : Nat} {x : Addr} {c : Nat → Int} (h : ∀ k, k < n → w.cell? (x.add k) = some (.int .i64 (c k))) :
    ∀ j u, (cells c n)[j]? = some u → w.cell? (x.add j) = some u := by
  intro j u hu
  have hj : j < n := by
    have := (List.getElem?_eq_some_iff.1 hu).1
    rwa [cells_len] at this
  rw [cells_at c n j hj] at hu
  rw [h j hj]
  exact hu
theorem cells_one (c : Nat → Int) (n : Nat) : ∀ u ∈ cells c n, u.oneCell' = true := by
  intro u hu
  obtain ⟨_, _, rfl⟩ := List.mem_map.1 hu
  rfl
theorem empty_at (w : World) (base n : Nat) (hn : w.heap.size = n) (h : base ≤ n) : (w.alloc (.cells #[] 3)).ownsRow base 3 1 (.slice (some ⟨n, 0, none⟩) 0 0) 0 [] := by
  subst hn
  exact ⟨rfl, .inr ⟨w.heap.size, 0, #[], rfl, h, Box.made w 3 #[], Nat.le_refl _, Nat.zero_le _, rfl, rfl⟩⟩
theorem own_zow {w : World} {base n : Nat} {v : Value} {c : Nat → Int} (h : w.ownsRow base 3 1 v n (cells c n)) (hn : 0 < n) :
    ∃ g cap, v = .slice (some ⟨g, 0, none⟩) n cap ∧ n ≤ cap ∧ Zow w g n c ∧ base ≤ g ∧ g < w.heap.size := by
  have hl := h.lt
  rcases h.2 with ⟨_, h0⟩ | ⟨g, cap, cur, rfl, _, _, h3, _⟩
  · omega
  · exact ⟨g, cap, rfl, h3, fun k hk => ⟨(h.cellAt k (by omega)).trans (cells_at c _ k hk), h.frozenAt k⟩, (hl g rfl).1, (hl g rfl).2⟩
theorem step_copy {ops : Array Oper} {o : Oper} {a : Act} {w : World} {K : Act → World → Prop} {Q : Exit → Act → World → Prop} {E : Prop}
    (hg : o.guard = none) (s x : Operand) (hop : o.op = Op.call { callee := Callee.builtin Builtin.append, args := #[s, x], argTypes := #[22, 22] })
    (y : Nat) (hs : a.eval s = .slice (some ⟨y, 0, none⟩) 0 0) (ad : Addr) (m c : Nat) (f : Nat → Int) (hx : a.eval x = .slice (some ad) m c)
    (src : ∀ k, k < m → w.cell? (ad.add k) = some (.int .i64 (f k))) (hm : 0 < m) (hn : m ≤ 1000000)
    (hK : ∀ v' w', w'.ownsRow w.heap.size 3 1 v' m (cells f m) → w.grownBy w' none → K (a.put o.dst v') w') :
    if Region.wanted o (yielded ops a.tmps) = true then Oper.wp Try.prog o a w K Q else E := by
  have hw : Region.wanted o (yielded ops a.tmps) = true := by simp [Region.wanted, hg]
  rw [if_pos hw]
  obtain ⟨i0, hi, hz0, hz1, hz2⟩ := info_parts info3
  obtain ⟨v', w', hr, r1, r2⟩ := run_append_arg_grows (P := Try.prog) w 22 o.type 3 i0 (.int .i64 0) 1 8 Try.underlying22 hi hz0 hz1 hz2 rfl (by decide) ⟨y, 0, none⟩ 0 0 [] rfl (fun j u hu => by simp at hu) ad m c (cells f m) (by rw [cells_len, Nat.mul_one]) (news_of src) (by omega) (by unfold maxLen; omega) (by omega)
  unfold Oper.wp
  simp [execOp, hop, resolve, invoke, builtin, hs, hx, hr, Result.andThen]
  rw [Nat.zero_add, List.nil_append] at r1
  exact hK v' w' r1 r2
theorem upd_gr {w w' : World} (h : w.grownBy w' none) : Upd (fun _ => False) w w' := ⟨h.os, h.tape, h.output, h.size, fun k hk _ => h.block k hk (by simp)⟩
theorem upd_al {w w' : World} {o : Obj} (h : (w.alloc o).grownBy w' none) : Upd (fun _ => False) w w' := ((Upd.refl _ w).alloc o).trans (upd_gr h)
theorem bel_gr {B : Nat} {w w1 w' : World} (h : Below B w w1) (g : w1.grownBy w' none) (hB : B ≤ w1.heap.size) : Below B w w' := h.grown g hB (fun k e => by cases e)
theorem bel_drew (w : World) : Below w.heap.size w w.drew := ⟨rfl, rfl, rfl, Nat.le_refl _, fun _ _ => rfl⟩
theorem bel_dr {B : Nat} {w w1 : World} (h : Below B w w1) : Below B w w1.drew := ⟨h.os, h.tape, h.output, h.size, h.block⟩
theorem bel_a1 (w : World) (o : Obj) : Below w.heap.size w (w.alloc o) := (Below.refl _ w).alloc (Nat.le_refl _) o
theorem bel_a2 (w : World) (o o' : Obj) : Below w.heap.size w ((w.alloc o).alloc o') := (bel_a1 w o).alloc (by simp) o'
/-- Two copies. -/
structure Cps (w w' : World) (f : Nat → Int) (k n : Nat) (va vb : Value) : Prop where
  ex : ∃ g1 c1 g2 c2, va = .slice (some ⟨g1, 0, none⟩) k c1 ∧ k ≤ c1 ∧ Zow w' g1 k f ∧ vb = .slice (some ⟨g2, 0, none⟩) (n - k) c2 ∧ n - k ≤ c2 ∧ Zow w' g2 (n - k) (fun i => f (k + i)) ∧ g1 ≠ g2 ∧ w.heap.size ≤ g1 ∧ w.heap.size ≤ g2 ∧ g1 < w'.heap.size ∧ g2 < w'.heap.size
  bel : Below w.heap.size w w'
theorem cps_of {w w1 w2 : World} {f : Nat → Int} {k n : Nat} {va vb : Value} {b1 b2 : Nat} (hk : 0 < k) (hn : k < n) (o1 : w1.ownsRow b1 3 1 va k (cells f k)) (h1 : w.heap.size ≤ b1) (u : Upd (fun _ => False) w1 w2) (o2 : w2.ownsRow b2 3 1 vb (n - k) (cells (fun i => f (k + i)) (n - k))) (h2 : w1.heap.size ≤ b2) (bw : w.heap.size ≤ w1.heap.size) (bel : Below w.heap.size w w2) : Cps w w2 f k n va vb := by
  obtain ⟨g1, c1, e1, r1, z1, l1, t1⟩ := own_zow o1 hk
  obtain ⟨g2, c2, e2, r2, z2, l2, t2⟩ := own_zow o2 (by omega)
  exact ⟨⟨g1, c1, g2, c2, e1, r1, z1.keep u t1 (fun h => h), e2, r2, z2, by omega, by omega, Nat.le_trans bw (by omega), Nat.lt_of_lt_of_le t1 u.size, t2⟩, bel⟩
theorem cps_fo {w w1 w2 : World} {f : Nat → Int} {k n : Nat} {va vb : Value} {b1 b2 : Nat} (hk : 0 < k) (hn : k < n) (o2 : w1.ownsRow b2 3 1 vb (n - k) (cells (fun i => f (k + i)) (n - k))) (h2 : w.heap.size ≤ b2) (u : Upd (fun _ => False) w1 w2) (o1 : w2.ownsRow b1 3 1 va k (cells f k)) (h1 : w1.heap.size ≤ b1) (bw : w.heap.size ≤ w1.heap.size) (bel : Below w.heap.size w w2) : Cps w w2 f k n va vb := by
  obtain ⟨g1, c1, e1, r1, z1, l1, t1⟩ := own_zow o1 hk
  obtain ⟨g2, c2, e2, r2, z2, l2, t2⟩ := own_zow o2 (by omega)
  exact ⟨⟨g1, c1, g2, c2, e1, r1, z1, e2, r2, z2.keep u t2 (fun h => h), by omega, Nat.le_trans bw (by omega), by omega, t1, Nat.lt_of_lt_of_le t2 u.size⟩, bel⟩
theorem ils_cons {g : Nat} {w : World} {v : Value} {x : Int} {xs : List Int} (h : Ils g w v (x :: xs)) : ∃ b off cap, v = .slice (some ⟨b, off, none⟩) (xs.length + 1) cap ∧ xs.length + 1 ≤ cap ∧ b ≠ g ∧ w.cell? ⟨b, off, none⟩ = some (.int .i64 x) ∧ ∀ p, (if cap = 1 then some (⟨b, off, none⟩ : Addr) else some ⟨b, off + 1, none⟩) = p → Ils g w (.slice p xs.length (cap - 1)) xs := by
  obtain ⟨b, off, cap, rfl, hl, hb, hc⟩ := h
  simp only [List.length_cons] at hl
  refine ⟨b, off, cap, rfl, hl, hb, hc 0 (by simp), fun p hp => ?_⟩
  subst hp
  by_cases e : cap = 1
  · have h0 : xs = [] := List.eq_nil_of_length_eq_zero (by omega)
    subst h0
    rw [if_pos e]
    exact ⟨b, off, cap - 1, rfl, Nat.zero_le _, hb, fun _ h => absurd h (Nat.not_lt_zero _)⟩
  · rw [if_neg e]
    refine ⟨b, off + 1, cap - 1, rfl, by omega, hb, fun i hi => ?_⟩
    have := hc (i + 1) (by simp; omega)
    rw [show off + 1 + i = off + (i + 1) by omega, this]
    simp
theorem zow_ils {g b n cap : Nat} {w : World} {f : Nat → Int} (h : Zow w b n f) (hb : b ≠ g) (hc : n ≤ cap) : Ils g w (.slice (some ⟨b, 0, none⟩) n cap) (lst f n) := by
  refine ⟨b, 0, cap, by rw [lst_len], by rw [lst_len]; exact hc, hb, fun i hi => ?_⟩
  rw [lst_len] at hi
  rw [Nat.zero_add, (h i hi).1]
  simp [lst, hi]
theorem lst_split (f : Nat → Int) (k n : Nat) (h : k ≤ n) : lst f n = lst f k ++ lst (fun i => f (k + i)) (n - k) := by
  unfold lst
  rw [show n = k + (n - k) by omega, List.range_add, List.map_append, List.map_map, show k + (n - k) - k = n - k by omega]
  rfl
theorem lst_small (f : Nat → Int) (n : Nat) (h : n < 2) : (lst f n).Pairwise (fun a b => leZ a b = true) :=
  List.pairwise_iff_getElem.2 (fun i j hi hj hij => by rw [lst_len] at hj; omega)
theorem srd_small (n : Nat) (f : Nat → Int) (g cap : Nat) (w : World) (h2 : n < 2) (hz : Zow w g n f) :
    Calls Try.prog 18 #[.slice (some ⟨g, 0, none⟩) n cap] w fun e w' => e = .returned (.tuple #[]) ∧ ∃ f', Zow w' g n f' ∧ (lst f' n).Perm (lst f n) ∧ (lst f' n).Pairwise (fun a b => leZ a b = true) ∧ Upd (fun k => k = g) w w' := by
  have HZ := hide hz
  clear hz
  have h2' : (n : Int) < 2 := by omega
  go_enter Try.func18, Try.ntmps18
  go_wp2
  refine bodyPost_ret (results_none rfl _ _ _) rfl ?_
  exact ⟨rfl, f, unhide HZ, List.Perm.refl _, lst_small f n h2, Upd.refl _ w⟩
theorem merge_sorted {A B : List Int} (ha : A.Pairwise (fun a b => leZ a b = true)) (hb : B.Pairwise (fun a b => leZ a b = true)) : (A.merge B leZ).Pairwise (fun a b => leZ a b = true) :=
  List.pairwise_merge (fun a b c h1 h2 => by
      have := of_decide_eq_true h1
      have := of_decide_eq_true h2
      exact decide_eq_true (by omega)) (fun a b => by
      rcases Int.le_total a b with h | h
      · simp [leZ, h]
      · simp [leZ, h]) _ _ ha hb
theorem lst_get (M : List Int) : lst (fun j => M.getD j 0) M.length = M := by
  apply List.ext_getElem
  · rw [lst_len]
  · intro i h1 h2
    simp [lst, h2]
/-- What is sorted in so far. -/
structure Mrd (g n : Nat) (wb wr : World) (f : Nat → Int) (done : List Int) : Prop where
  row : Zow wr g n (fun j => if j < done.length then done.getD j 0 else f j)
  upd : Upd (fun k => k = g) wb wr
theorem Mrd.put {g n : Nat} {wb wr : World} {f : Nat → Int} {done : List Int} (h : Mrd g n wb wr f done) (x : Int) : Mrd g n wb (wr.setCell ⟨g, done.length, none⟩ (.int .i64 x)) f (done ++ [x]) := by
  refine ⟨(h.row.set done.length x).congr (fun j _ => ?_), h.upd.setCell (p := ⟨g, done.length, none⟩) rfl _⟩
  rw [List.length_append]
  simp only [List.length_cons, List.length_nil]
  by_cases e : j = done.length
  · rw [if_pos e, if_pos (by omega), e]
    simp
  · rw [if_neg e]
    by_cases e2 : j < done.length
    · rw [if_pos e2, if_pos (by omega), List.getD_eq_getElem?_getD, List.getD_eq_getElem?_getD, List.getElem?_append_left e2]
    · rw [if_neg e2, if_neg (by omega)]
set_option maxRecDepth 20000 in
set_option maxHeartbeats 10000000 in
theorem srd18 : ∀ (d n : Nat) (f : Nat → Int) (g cap : Nat) (w : World), n ≤ d → n ≤ cap → n ≤ 100000 → g < w.heap.size → Zow w g n f →
    Calls Try.prog 18 #[.slice (some ⟨g, 0, none⟩) n cap] w fun e w' => e = .returned (.tuple #[]) ∧ ∃ f', Zow w' g n f' ∧ (lst f' n).Perm (lst f n) ∧ (lst f' n).Pairwise (fun a b => leZ a b = true) ∧ Upd (fun k => k = g) w w' := by
  intro d
  induction d with
  | zero =>
    intro n f g cap w hd _ _ _ hz
    exact srd_small n f g cap w (by omega) hz
  | succ d ih =>
    intro n f g cap w hd hcap hn hg hz
    have IH := hide ih
    have HZ := hide hz
    clear ih hz
    by_cases h2 : n < 2
    · exact srd_small n f g cap w h2 (unhide HZ)
    · have h2' : ¬ (n : Int) < 2 := by omega
      obtain ⟨k, hk⟩ : ∃ k, k = n / 2 := ⟨_, rfl⟩
      have ek : (n : Int) / 2 = (k : Int) := by omega
      have hk1 : 1 ≤ k := by omega
      have hk2 : k < n := by omega
      have hk3 : k ≤ d ∧ n - k ≤ d := by omega
      have hkc : (k : Int) ≤ (cap : Int) := by omega
      have hkn : (k : Int) ≤ (n : Int) := by omega
      clear hk
      obtain ⟨i0, hi0, hz0, hz1, hz2⟩ := info_parts info3
      go_enter Try.func18, Try.ntmps18
      have SR := hide (show ∀ W, Below w.heap.size w W → ∀ j, j < k → W.cell? ((⟨g, 0, none⟩ : Addr).add j) = some (.int .i64 (f j)) from fun W hb j hj => by
        rw [add_plain, Nat.zero_add]
        exact (hb.cell (p := ⟨g, j, none⟩) hg).trans (unhide HZ j (by omega)).1)
      have SS := hide (show ∀ W, Below w.heap.size w W → ∀ j, j < n - k → W.cell? ((⟨g, k, none⟩ : Addr).add j) = some (.int .i64 (f (k + j))) from fun W hb j hj => by
        rw [add_plain]
        exact (hb.cell (p := ⟨g, k + j, none⟩) hg).trans (unhide HZ (k + j) (by omega)).1)
      have D1 := hide (bel_drew w)
      have hkc2 : ¬ cap = k := by omega
      go_wp2
      rename_i K hK
      have HK : ∀ (x12 x17 va vb : Value) (w' : World), Cps w w' f k n va vb → K { tmps := #[.slice (some ⟨g, 0, none⟩) n cap, undef, .int .i64 k, va, vb, undef, .slice (some ⟨g, 0, none⟩) n cap, .int .i64 n, .bool false, .slice (some ⟨g, 0, none⟩) n cap, .int .i64 n, .int .i64 k, x12, .slice (some ⟨g, 0, none⟩) n cap, .int .i64 k, .slice (some ⟨g, 0, none⟩) k cap, va, x17, .slice (some ⟨g, 0, none⟩) n cap, .int .i64 k, .slice (some ⟨g, k, none⟩) (n - k) (cap - k), vb, undef, undef, undef, undef, undef, undef, undef, undef, undef, undef, undef, undef, undef, undef, undef, undef, undef, undef, undef, undef, undef, undef, undef, undef, undef, undef, undef, undef, undef, undef, undef, undef, undef, undef, undef, undef, undef, undef, undef, undef, undef, undef, undef], defers := [] } w' := by
        rintro x12 x17 va vb wc ⟨⟨g1, c1, g2, c2, rfl, r1, z1, rfl, r2, z2, hne, l1, l2, t1, t2⟩, bel⟩
        have Z1 := hide z1
        have Z2 := hide z2
        have BEL := hide bel
        clear z1 z2 bel
        refine hK _ _ ?_
        have hk0 : 0 < k := by omega
        go_wp2_with fail
        refine (unhide IH k f g1 c1 wc hk3.1 r1 (by omega) t1 (unhide Z1)).mono ?_
        rintro e wa ⟨rfl, fa, za, pa, sa, ua⟩
        have t2a : g2 < wa.heap.size := Nat.lt_of_lt_of_le t2 ua.size
        have Z2A := hide ((unhide Z2).keep ua t2 (fun h => hne h.symm))
        have ZA := hide za
        have PA := hide pa
        have SA := hide sa
        have UA := hide ua
        clear za pa sa ua
        go_wp2_with fail
        refine (unhide IH (n - k) _ g2 c2 wa hk3.2 r2 (by omega) t2a (unhide Z2A)).mono ?_
        rintro e wb ⟨rfl, fb, zb, pb, sb, ub⟩
        have t1a : g1 < wa.heap.size := Nat.lt_of_lt_of_le t1 (unhide UA).size
        have ZB := hide (zow_ils (g := g) zb (by omega) r2)
        have ZA2 := hide (zow_ils (g := g) ((unhide ZA).keep ub t1a hne) (by omega) r1)
        have BB := hide (show Below w.heap.size w wb from ((unhide BEL).trans ((unhide UA).below w.heap.size (unhide BEL).size (fun j e => by omega))).trans (ub.below w.heap.size (Nat.le_trans (unhide BEL).size (unhide UA).size) (fun j e => by omega)))
        have LB := hide (show Zow wb g n f from fun i hi => ⟨((unhide BB).cell (p := ⟨g, i, none⟩) hg).trans (unhide HZ i hi).1, (World.frozen?_of_block (a := ⟨g, i, none⟩) ((unhide BB).block g hg)).trans (unhide HZ i hi).2⟩)
        have PERM := hide (show ((lst fa k).merge (lst fb (n - k)) leZ).Perm (lst f n) from by
          rw [lst_split f k n (by omega)]
          exact (List.merge_perm_append leZ).trans ((unhide PA).append pb))
        have SORT := hide (merge_sorted (unhide SA) sb)
        have LEN := hide (show ((lst fa k).merge (lst fb (n - k)) leZ).length = n from by rw [List.length_merge, lst_len, lst_len]; omega)
        obtain ⟨M, hM⟩ : ∃ M, (lst fa k).merge (lst fb (n - k)) leZ = M := ⟨_, rfl⟩
        have MEQ := hide hM
        rw [hM] at PERM SORT LEN
        clear hM
        clear zb pb sb ub
        have hnil : True := trivial
        go_wp2
        go_loopw [3, 4, 5] (fun va vb x wr => ∃ (xs' ys' done : List Int), Ils g wb va xs' ∧ Ils g wb vb ys' ∧ x = .int .i64 done.length ∧ done ++ xs'.merge ys' leZ = M ∧ Mrd g n wb wr f done) (fun _ _ x _ => n - (intOf x).toNat)
        case atStart => exact ⟨_, _, [], unhide ZA2, unhide ZB, rfl, by simpa using unhide MEQ, ⟨(unhide LB).congr (fun i _ => by simp), Upd.refl _ wb⟩⟩
        case round =>
          obtain ⟨xs', ys', done, ia, ib, rfl, eq, mr⟩ := hrel
          have IA := hide ia
          have IB := hide ib
          have EQ := hide eq
          have MR := hide mr
          have hdl : done.length + (xs'.length + ys'.length) = n := by
            have := congrArg List.length eq
            rw [List.length_append, List.length_merge, unhide LEN] at this
            exact this
          by_cases hlt : done.length < n
          · have hlt' : ((done.length : Nat) : Int) < (n : Int) := by omega
            have hw := mr.row done.length hlt
            have cg := hw.1
            have fg := hw.2
            obtain ⟨zz, hzz⟩ : ∃ z, (fun j => if j < done.length then done.getD j 0 else f j) done.length = z := ⟨_, rfl⟩
            rw [hzz] at cg
            clear hw hzz
            cases ys' with
            | nil =>
              cases xs' with
              | nil => simp at hdl; omega
              | cons x xs' =>
                obtain ⟨b1, o1, cp1, rfl, hc1, hb1, d1, tl1⟩ := ils_cons ia
                obtain ⟨b2, o2, cp2, rfl, _, hb2, _⟩ := ib
                have e1 := (mr.upd.cell (p := ⟨b1, o1, none⟩) (lt_of_cell d1) hb1).trans d1
                have T1 := hide tl1
                clear ia eq mr d1 tl1
                simp only [List.length_cons, List.length_nil] at hdl
                generalize hm1 : xs'.length = m1 at *
                clear hm1
                have NX := hide (show (done ++ [x]) ++ xs'.merge [] leZ = M from by
                  rw [← unhide EQ, List.merge_right, List.merge_right]
                  simp)
                go_wp2
                go_quiet ((fail))
                rename_i nq
                have PUT := hide (show Mrd g n wb ((wr.drewN nq).setCell ⟨g, done.length, none⟩ (.int .i64 x)) f (done ++ [x]) from Mrd.put (wr := wr.drewN nq) ⟨(unhide MR).row, (unhide MR).upd.drewN nq⟩ x)
                have cgq : (wr.drewN nq).cell? ⟨g, done.length, none⟩ = some (.int .i64 zz) := cg
                have fgq : (wr.drewN nq).frozen? ⟨g, done.length, none⟩ = false := fg
                have e1q : (wr.drewN nq).cell? ⟨b1, o1, none⟩ = some (.int .i64 x) := e1
                clear e1 cg fg
                generalize wr.drewN nq = wq at *
                have hone : (1 : Int) ≤ (m1 : Int) + 1 := by omega
                by_cases hcp : cp1 = 1
                · subst hcp
                  go_wp2
                  go_roundw
                  case rel => exact ⟨xs', [], done ++ [x], by have := unhide T1 _ rfl; rw [show m1 = 0 by omega] at this; simpa using this, unhide IB, by rw [List.length_append]; go_num, unhide NX, unhide PUT⟩
                  case measure => simp [intOf]; omega
                · go_wp2
                  go_roundw
                  case rel => exact ⟨xs', [], done ++ [x], by have := unhide T1 _ rfl; rw [if_neg hcp] at this; exact this, unhide IB, by rw [List.length_append]; go_num, unhide NX, unhide PUT⟩
                  case measure => simp [intOf]; omega
            | cons y ys' =>
              cases xs' with
              | nil =>
                obtain ⟨b2, o2, cp2, rfl, hc2, hb2, d2, tl2⟩ := ils_cons ib
                obtain ⟨b1, o1, cp1, rfl, _, hb1, _⟩ := ia
                have e2 := (mr.upd.cell (p := ⟨b2, o2, none⟩) (lt_of_cell d2) hb2).trans d2
                have T2 := hide tl2
                clear ib eq mr d2 tl2
                simp only [List.length_cons, List.length_nil] at hdl
                generalize hm2 : ys'.length = m2 at *
                clear hm2
                have NX := hide (show (done ++ [y]) ++ [].merge ys' leZ = M from by
                  rw [← unhide EQ, List.nil_merge, List.nil_merge]
                  simp)
                go_wp2
                go_quiet ((fail))
                rename_i nq
                have PUT := hide (show Mrd g n wb ((wr.drewN nq).setCell ⟨g, done.length, none⟩ (.int .i64 y)) f (done ++ [y]) from Mrd.put (wr := wr.drewN nq) ⟨(unhide MR).row, (unhide MR).upd.drewN nq⟩ y)
                have cgq : (wr.drewN nq).cell? ⟨g, done.length, none⟩ = some (.int .i64 zz) := cg
                have fgq : (wr.drewN nq).frozen? ⟨g, done.length, none⟩ = false := fg
                have e2q : (wr.drewN nq).cell? ⟨b2, o2, none⟩ = some (.int .i64 y) := e2
                clear e2 cg fg
                generalize wr.drewN nq = wq at *
                have hone : (1 : Int) ≤ (m2 : Int) + 1 := by omega
                by_cases hcp : cp2 = 1
                · subst hcp
                  go_wp2
                  go_roundw
                  case rel => exact ⟨[], ys', done ++ [y], unhide IA, by have := unhide T2 _ rfl; rw [show m2 = 0 by omega] at this; simpa using this, by rw [List.length_append]; go_num, unhide NX, unhide PUT⟩
                  case measure => simp [intOf]; omega
                · go_wp2
                  go_roundw
                  case rel => exact ⟨[], ys', done ++ [y], unhide IA, by have := unhide T2 _ rfl; rw [if_neg hcp] at this; exact this, by rw [List.length_append]; go_num, unhide NX, unhide PUT⟩
                  case measure => simp [intOf]; omega
              | cons x xs' =>
                obtain ⟨b1, o1, cp1, rfl, hc1, hb1, d1, tl1⟩ := ils_cons ia
                obtain ⟨b2, o2, cp2, rfl, hc2, hb2, d2, tl2⟩ := ils_cons ib
                have e1 := (mr.upd.cell (p := ⟨b1, o1, none⟩) (lt_of_cell d1) hb1).trans d1
                have e2 := (mr.upd.cell (p := ⟨b2, o2, none⟩) (lt_of_cell d2) hb2).trans d2
                have T1 := hide tl1
                have T2 := hide tl2
                clear ia ib eq mr d1 d2 tl1 tl2
                simp only [List.length_cons] at hdl
                generalize hm1 : xs'.length = m1 at *
                generalize hm2 : ys'.length = m2 at *
                clear hm1 hm2
                by_cases hle : x ≤ y
                · have hle' : decide (x ≤ y) = true := decide_eq_true hle
                  have NX := hide (show (done ++ [x]) ++ xs'.merge (y :: ys') leZ = M from by
                    rw [← unhide EQ, List.cons_merge_cons_pos leZ _ _ (decide_eq_true hle)]
                    simp)
                  go_wp2
                  go_quiet ((fail))
                  rename_i nq
                  have PUT := hide (show Mrd g n wb ((wr.drewN nq).setCell ⟨g, done.length, none⟩ (.int .i64 x)) f (done ++ [x]) from Mrd.put (wr := wr.drewN nq) ⟨(unhide MR).row, (unhide MR).upd.drewN nq⟩ x)
                  have cgq : (wr.drewN nq).cell? ⟨g, done.length, none⟩ = some (.int .i64 zz) := cg
                  have fgq : (wr.drewN nq).frozen? ⟨g, done.length, none⟩ = false := fg
                  have e1q : (wr.drewN nq).cell? ⟨b1, o1, none⟩ = some (.int .i64 x) := e1
                  have e2q : (wr.drewN nq).cell? ⟨b2, o2, none⟩ = some (.int .i64 y) := e2
                  clear e1 e2 cg fg
                  generalize wr.drewN nq = wq at *
                  have hone : (1 : Int) ≤ (m1 : Int) + 1 := by omega
                  by_cases hcp : cp1 = 1
                  · subst hcp
                    go_wp2
                    go_roundw
                    case rel => exact ⟨xs', (y :: ys'), done ++ [x], by have := unhide T1 _ rfl; rw [show m1 = 0 by omega] at this; simpa using this, unhide IB, by rw [List.length_append]; go_num, unhide NX, unhide PUT⟩
                    case measure => simp [intOf]; omega
                  · go_wp2
                    go_roundw
                    case rel => exact ⟨xs', (y :: ys'), done ++ [x], by have := unhide T1 _ rfl; rw [if_neg hcp] at this; exact this, unhide IB, by rw [List.length_append]; go_num, unhide NX, unhide PUT⟩
                    case measure => simp [intOf]; omega
                · have hle' : decide (x ≤ y) = false := decide_eq_false hle
                  have NX := hide (show (done ++ [y]) ++ (x :: xs').merge ys' leZ = M from by
                    rw [← unhide EQ, List.cons_merge_cons_neg leZ _ _ (by simpa [leZ] using hle)]
                    simp)
                  go_wp2
                  go_quiet ((fail))
                  rename_i nq
                  have PUT := hide (show Mrd g n wb ((wr.drewN nq).setCell ⟨g, done.length, none⟩ (.int .i64 y)) f (done ++ [y]) from Mrd.put (wr := wr.drewN nq) ⟨(unhide MR).row, (unhide MR).upd.drewN nq⟩ y)
                  have cgq : (wr.drewN nq).cell? ⟨g, done.length, none⟩ = some (.int .i64 zz) := cg
                  have fgq : (wr.drewN nq).frozen? ⟨g, done.length, none⟩ = false := fg
                  have e1q : (wr.drewN nq).cell? ⟨b1, o1, none⟩ = some (.int .i64 x) := e1
                  have e2q : (wr.drewN nq).cell? ⟨b2, o2, none⟩ = some (.int .i64 y) := e2
                  clear e1 e2 cg fg
                  generalize wr.drewN nq = wq at *
                  have hone : (1 : Int) ≤ (m2 : Int) + 1 := by omega
                  by_cases hcp : cp2 = 1
                  · subst hcp
                    go_wp2
                    go_roundw
                    case rel => exact ⟨(x :: xs'), ys', done ++ [y], unhide IA, by have := unhide T2 _ rfl; rw [show m2 = 0 by omega] at this; simpa using this, by rw [List.length_append]; go_num, unhide NX, unhide PUT⟩
                    case measure => simp [intOf]; omega
                  · go_wp2
                    go_roundw
                    case rel => exact ⟨(x :: xs'), ys', done ++ [y], unhide IA, by have := unhide T2 _ rfl; rw [if_neg hcp] at this; exact this, by rw [List.length_append]; go_num, unhide NX, unhide PUT⟩
                    case measure => simp [intOf]; omega
          · have hnl : ¬ ((done.length : Nat) : Int) < (n : Int) := by omega
            have hx : xs' = [] := List.eq_nil_of_length_eq_zero (by omega)
            have hy : ys' = [] := List.eq_nil_of_length_eq_zero (by omega)
            subst hx; subst hy
            have hM : done = M := by simpa using eq
            subst hM
            have FIN := hide (show Zow wr g n (fun j => done.getD j 0) from mr.row.congr (fun j hj => by rw [if_pos (by have := unhide LEN; omega)]))
            have UF := hide (show Upd (fun k => k = g) w wr from (Upd.mono (S := fun _ => False) ⟨(unhide BB).os, (unhide BB).tape, (unhide BB).output, (unhide BB).size, fun k hk _ => (unhide BB).block k hk⟩ (fun _ _ h => h.elim)).trans mr.upd)
            clear ia ib eq mr
            go_wp2
            go_end0
            refine ⟨rfl, _, unhide FIN, ?_, ?_, unhide UF⟩
            · have h3 := lst_get done
              rw [unhide LEN] at h3
              rw [h3]
              exact unhide PERM
            · have h3 := lst_get done
              rw [unhide LEN] at h3
              rw [h3]
              exact unhide SORT
      have HKH := hide HK
      clear hK HK
      go_region_law (first | (refine step_copy rfl (.tmp 12) (.tmp 15) rfl _ rfl ⟨g, 0, none⟩ k cap f rfl (unhide SR _ (by first | exact bel_dr (bel_a1 _ _) | exact bel_dr (bel_a2 _ _ _) | exact bel_a1 _ _ | exact bel_a2 _ _ _ | exact unhide B9 | exact (unhide B9).alloc (unhide B9).size _ | exact bel_dr (unhide B9))) (by omega) (by omega) ?_; intro v4 w4 own4 gr4; have O4 := hide own4; have G4 := hide gr4; have B4 : Hid (Below w.heap.size w w4) := hide (bel_gr (w := w) (B := w.heap.size) (by first | exact bel_dr (bel_a1 _ _) | exact bel_dr (bel_a2 _ _ _) | exact bel_a1 _ _ | exact bel_a2 _ _ _ | exact unhide B9 | exact (unhide B9).alloc (unhide B9).size _ | exact bel_dr (unhide B9)) gr4 (by first | (simp; done) | (simp; omega) | (have := (unhide B9).size; simp; omega) | (have := (unhide B9).size; omega))); clear own4 gr4) | (refine step_copy rfl (.tmp 17) (.tmp 20) rfl _ rfl ⟨g, k, none⟩ (n - k) (cap - k) (fun i => f (k + i)) rfl (unhide SS _ (by first | exact bel_dr (bel_a1 _ _) | exact bel_dr (bel_a2 _ _ _) | exact bel_a1 _ _ | exact bel_a2 _ _ _ | exact unhide B4 | exact (unhide B4).alloc (unhide B4).size _ | exact bel_dr (unhide B4))) (by omega) (by omega) ?_; intro v9 w9 own9 gr9; have O9 := hide own9; have G9 := hide gr9; have B9 : Hid (Below w.heap.size w w9) := hide (bel_gr (w := w) (B := w.heap.size) (by first | exact bel_dr (bel_a1 _ _) | exact bel_dr (bel_a2 _ _ _) | exact bel_a1 _ _ | exact bel_a2 _ _ _ | exact unhide B4 | exact (unhide B4).alloc (unhide B4).size _ | exact bel_dr (unhide B4)) gr9 (by first | (simp; done) | (simp; omega) | (have := (unhide B4).size; simp; omega) | (have := (unhide B4).size; omega))); clear own9 gr9))
      all_goals
        go_simp
        refine unhide HKH _ _ _ _ _ ?_
        first
          | exact cps_of (by omega) (by omega) (unhide O4) (by first | (simp; done) | (simp; omega)) (upd_gr (unhide G9)) (unhide O9) (Nat.le_refl _) (unhide B4).size (unhide B9)
          | exact cps_of (by omega) (by omega) (unhide O4) (by first | (simp; done) | (simp; omega)) (upd_al (unhide G9)) (unhide O9) (by simp) (unhide B4).size (unhide B9)
          | exact cps_fo (by omega) (by omega) (unhide O9) (by first | (simp; done) | (simp; omega)) (upd_gr (unhide G4)) (unhide O4) (Nat.le_refl _) (unhide B9).size (unhide B4)
          | exact cps_fo (by omega) (by omega) (unhide O9) (by first | (simp; done) | (simp; omega)) (upd_al (unhide G4)) (unhide O4) (by simp) (unhide B9).size (unhide B4)
end Go.Proofs.Ytcfnbbelbadmkaa.Srd
