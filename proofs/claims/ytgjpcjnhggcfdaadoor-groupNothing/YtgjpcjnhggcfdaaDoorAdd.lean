/- Contract: package bitout's own add: so many bits of a number come behind. Conditions: the writer lies in memory, its bits are few. -/
import Derived.Test.YtgjpcjnhggcfdaaDoorFoot
import Derived.BigRegion
namespace Go.Proofs.YtgjpcjnhggcfdaaDoor.Add
open Go.ChangeShapes Go.WideShapes Go.ChangeAt Go.RowKit Go.Proofs.YtgjpcjnhggcfdaaDoor.Core Go.Proofs.YtgjpcjnhggcfdaaDoor.Foot

/-- The blocks of a writer at g with full bytes v. -/
def Ft (g : Nat) (v : Value) (k : Nat) : Prop := k = g ∨ v.ownBlock = some k
/-- A writer's three fields: K whole bytes of V, what is behind them, how many bits. -/
structure Raw (w : World) (g : Nat) (v : Value) (V K r c : Nat) : Prop where
  box : Box w g 69 #[v, .int .u64 r, .int .i64 c]
  own : w.ownsRow 0 5 1 v K (cells (byt V) K)
  ne : v.ownBlock ≠ some g
/-- A writer at g, N bits written: those of V. -/
structure Wr (w : World) (g : Nat) (v : Value) (V N : Nat) : Prop where
  raw : Raw w g v V (N / 8) (V / 2 ^ (8 * (N / 8))) (N % 8)
  lt : V < 2 ^ N
/-- What a method that writes may turn. -/
structure Turn (g : Nat) (v v' : Value) (n : Nat) (w w' : World) : Prop where
  upd : Upd (Ft g v) w w'
  stays : Stays w w' v v' n
theorem Raw.lt {w : World} {g : Nat} {v : Value} {V K r c : Nat} (h : Raw w g v V K r c) : ∀ k, Ft g v k → k < w.heap.size := by
  rintro k (rfl | hk)
  · exact h.box.lt
  · exact (h.own.lt k hk).2
theorem Turn.refl (g : Nat) (v : Value) (n : Nat) (w : World) : Turn g v v n w w := ⟨Upd.refl _ _, fun _ h => .inl h, fun _ _ _ _ => rfl⟩
theorem Turn.trans {g : Nat} {v v1 v2 : Value} {n n1 : Nat} {w w1 w2 : World} (h : Turn g v v1 n w w1) (k : Turn g v1 v2 n1 w1 w2) (hn : n ≤ n1) (hne : v.ownBlock ≠ some g) (hlt : ∀ b, v.ownBlock = some b → b < w.heap.size) : Turn g v v2 n w w2 := by
  refine ⟨⟨k.upd.os.trans h.upd.os, k.upd.tape.trans h.upd.tape, k.upd.output.trans h.upd.output, Nat.le_trans h.upd.size k.upd.size, fun i hi hs => ?_⟩, ?_, ?_⟩
  · refine (k.upd.block i (Nat.lt_of_lt_of_le hi h.upd.size) ?_).trans (h.upd.block i hi hs)
    rintro (rfl | h1)
    · exact hs (.inl rfl)
    · rcases h.stays.foot i h1 with h2 | h2
      · exact hs (.inr h2)
      · omega
  · intro i hi
    rcases k.stays.foot i hi with h1 | h1
    · exact h.stays.foot i h1
    · exact .inr (Nat.le_trans h.upd.size h1)
  · intro b i hb hi
    rw [← h.stays.kept b i hb hi]
    by_cases hb1 : v1.ownBlock = some b
    · exact k.stays.kept b i hb1 (by omega)
    · refine k.upd.cell (p := ⟨b, i, none⟩) (Nat.lt_of_lt_of_le (hlt b hb) h.upd.size) ?_
      rintro (h2 | h2)
      · exact hne (h2 ▸ hb)
      · exact hb1 h2
theorem Raw.keep {S : Nat → Prop} {w w' : World} {g : Nat} {v : Value} {V K r c : Nat} (h : Raw w g v V K r c) (u : Upd S w w') (hs : ∀ k, Ft g v k → ¬ S k) : Raw w' g v V K r c := by
  refine ⟨h.box.keep u (hs g (.inl rfl)), ?_, h.ne⟩
  obtain ⟨h1, h2⟩ := h.own
  refine ⟨h1, ?_⟩
  rcases h2 with h2 | ⟨b, cap, cur, rfl, l0, hb, r⟩
  · exact .inl h2
  · exact .inr ⟨b, cap, cur, rfl, l0, (u.block b (Array.getElem?_eq_some_iff.1 hb).1 (hs b (.inr rfl))).trans hb, r⟩
theorem Wr.keep {S : Nat → Prop} {w w' : World} {g : Nat} {v : Value} {V N : Nat} (h : Wr w g v V N) (u : Upd S w w') (hs : ∀ k, Ft g v k → ¬ S k) : Wr w' g v V N := ⟨h.raw.keep u hs, h.lt⟩

def cnt (g : Nat) (w : World) : Nat := (intOf ((w.cell? ⟨g, 2, none⟩).getD (.bool false))).toNat
theorem or_rest (r v c : Nat) (hr : r < 2 ^ c) (h1 : r < 18446744073709551616) (h2 : v * 2 ^ c < 18446744073709551616) : bits .or .u64 (r : Int) ((v : Int) * 2 ^ c) = ((r + v * 2 ^ c : Nat) : Int) := by
  have e1 : (v : Int) * 2 ^ c = ((v * 2 ^ c : Nat) : Int) := by simp
  rw [e1, u64_or_nat _ _ h1 h2, Nat.or_comm, nat_join c _ _ (by simp) hr, Nat.add_comm]
theorem shl_bd (v n c : Nat) (hv : v < 2 ^ n) (hn : n ≤ 32) (hc : c ≤ 7) : v * 2 ^ c < 549755813888 ∧ 2 ^ c ≤ 128 := by
  have h1 : (2 : Nat) ^ n ≤ 2 ^ 32 := Nat.pow_le_pow_right (by omega) hn
  have h2 : (2 : Nat) ^ c ≤ 2 ^ 7 := Nat.pow_le_pow_right (by omega) hc
  have h3 : (2 : Nat) ^ 32 = 4294967296 := by decide
  have h4 : (2 : Nat) ^ 7 = 128 := by decide
  have h5 : v * 2 ^ c ≤ 4294967295 * 128 := Nat.mul_le_mul (by omega) (by omega)
  omega

theorem Raw.drew {w : World} {g : Nat} {v : Value} {V K r c : Nat} (h : Raw w g v V K r c) : Raw w.drew g v V K r c := ⟨h.box, h.own, h.ne⟩
theorem own_setCell {w : World} {v : Value} {n : Nat} {xs : List Value} (h : w.ownsRow 0 5 1 v n xs) (g k : Nat) (x : Value) (hne : v.ownBlock ≠ some g) : (w.setCell ⟨g, k, none⟩ x).ownsRow 0 5 1 v n xs := by
  refine ⟨h.1, ?_⟩
  rcases h.2 with h2 | ⟨b, cap, cur, rfl, l0, hb, r⟩
  · exact .inl h2
  · exact .inr ⟨b, cap, cur, rfl, l0, (Below.heap_setCell _ _ _ _ (fun e => hne (by simp [Value.ownBlock]; exact e))).trans hb, r⟩
theorem stays_setCell {w : World} (v : Value) (n : Nat) (g k : Nat) (x : Value) (hne : v.ownBlock ≠ some g) : Stays w (w.setCell ⟨g, k, none⟩ x) v v n :=
  ⟨fun _ h => .inl h, fun b i hb _ => World.cell?_of_block (Below.heap_setCell _ _ _ _ (fun e => hne (by have e' : b = g := e; rw [← e']; exact hb)))⟩
theorem turn_setCell {w : World} (v : Value) (n : Nat) (g k : Nat) (x : Value) (hne : v.ownBlock ≠ some g) : Turn g v v n w (w.setCell ⟨g, k, none⟩ x) :=
  ⟨(Upd.refl _ _).setCell (p := ⟨g, k, none⟩) (.inl rfl) _, stays_setCell v n g k x hne⟩
theorem turn_drew {w : World} (g : Nat) (v : Value) (n : Nat) : Turn g v v n w w.drew := ⟨⟨rfl, rfl, rfl, Nat.le_refl _, fun _ _ _ => rfl⟩, fun _ h => .inl h, fun _ _ _ _ => rfl⟩

theorem box_grown {w w' : World} {g : Nat} {T : TypeId} {vs : Array Value} {row : Option Nat} (h : Box w g T vs) (hg : w.grownBy w' row) (hne : row ≠ some g) : Box w' g T vs := (hg.block g h.lt (fun e => hne e.symm)).trans h
theorem box_alloc {w : World} {g : Nat} {T : TypeId} {vs : Array Value} (h : Box w g T vs) (o : Obj) : Box (w.alloc o) g T vs := (Below.heap_alloc _ _ _ h.lt).trans h
theorem box_drew {w : World} {g : Nat} {T : TypeId} {vs : Array Value} (h : Box w g T vs) : Box w.drew g T vs := h
theorem stays_of_alloc {w w' : World} {v v' : Value} {n : Nat} {o : Obj} (h : Stays (w.drew.alloc o) w' v v' n) (hlt : ∀ b, v.ownBlock = some b → b < w.heap.size) : Stays w w' v v' n :=
  ⟨fun k hk => (h.foot k hk).elim .inl (fun h => .inr (by simp at h; omega)), fun b k hb hk => (h.kept b k hb hk).trans (World.cell?_of_block (Below.heap_alloc w.drew o b (hlt b hb)))⟩
theorem upd_of_grown {w w' : World} {row : Option Nat} {o : Obj} {S : Nat → Prop} (h : (w.drew.alloc o).grownBy w' row) (hS : ∀ k, row = some k → S k) : Upd S w w' :=
  ⟨h.os, h.tape, h.output, Nat.le_trans (by simp) h.size, fun k hk hs => (h.block k (by simp; omega) (fun e => hs (hS k e.symm))).trans (Below.heap_alloc w.drew o k hk)⟩
theorem cnt_raw {w : World} {g : Nat} {v : Value} {V K r c : Nat} (h : Raw w g v V K r c) : cnt g w = c := by
  have := h.box.cell 2
  simp at this
  simp [cnt, this, intOf]
theorem round_step {wr w' : World} {g : Nat} {u v : Value} {V K R C : Nat} {o : Obj} (raw : Raw wr g u V K R C) (hR : R = V / 2 ^ (8 * K))
    (own : w'.ownsRow 0 5 1 v (K + 1) (cells (byt V) K ++ [.int .u8 ((R : Int) % 256)])) (grow : (wr.drew.alloc o).grownBy w' u.ownBlock) (stay : Stays (wr.drew.alloc o) w' u v K) (x y : Int) (R1 C1 : Nat) (hx : x = (R1 : Int)) (hy : y = (C1 : Int)) :
    Raw (((w'.setCell ⟨g, 0, none⟩ v).setCell ⟨g, 1, none⟩ (.int .u64 x)).setCell ⟨g, 2, none⟩ (.int .i64 y)) g v V (K + 1) R1 C1 ∧
      Turn g u v K wr (((w'.setCell ⟨g, 0, none⟩ v).setCell ⟨g, 1, none⟩ (.int .u64 x)).setCell ⟨g, 2, none⟩ (.int .i64 y)) := by
  subst hx hy
  have hlt : ∀ b, u.ownBlock = some b → b < wr.heap.size := fun b hb => (raw.own.lt b hb).2
  have stay' := stays_of_alloc stay hlt
  have ne : v.ownBlock ≠ some g := fun e => by
    rcases stay'.foot g e with h | h
    · exact raw.ne h
    · have := raw.box.lt; omega
  have bx := box_grown (box_alloc (box_drew raw.box) o) grow raw.ne
  have e : ((R : Int) % 256) = ((byt V K : Nat) : Int) := by unfold byt; rw [← hR]; omega
  rw [e, ← cells_succ] at own
  have T1 : Turn g u v K wr w' := ⟨upd_of_grown grow (fun k hk => .inr hk), stay'⟩
  have hlt' : ∀ b, v.ownBlock = some b → b < w'.heap.size := fun b hb => (own.lt b hb).2
  refine ⟨⟨((bx.set 0 v).set 1 (.int .u64 R1)).set 2 (.int .i64 C1), own_setCell (own_setCell (own_setCell own g 0 _ ne) g 1 _ ne) g 2 _ ne, ne⟩, ?_⟩
  exact T1.trans (((turn_setCell v (K + 1) g 0 _ ne).trans (turn_setCell v (K + 1) g 1 _ ne) (Nat.le_refl _) ne hlt').trans (turn_setCell v (K + 1) g 2 _ ne) (Nat.le_refl _) ne hlt') (by omega) raw.ne hlt
set_option maxRecDepth 20000 in
set_option maxHeartbeats 1000000 in
theorem add_raw (g : Nat) (u : Value) (V K r c v n M R : Nat) (w : World) (h : Raw w g u V K r c) (hr : r < 2 ^ c) (hc : c ≤ 7) (hn : n ≤ 32) (hv : v < 2 ^ n) (hR : R = V / 2 ^ (8 * K)) (hE : r + v * 2 ^ c = R) (hK : K ≤ 900000) (hM : M = 8 * K + c + n) :
    Calls Tryd.prog 46 #[.pointer (some ⟨g, 0, none⟩), .int .u64 v, .int .i64 n] w fun e w' => e = .returned (.tuple #[]) ∧ ∃ u', Raw w' g u' V (M / 8) (V / 2 ^ (8 * (M / 8))) (M % 8) ∧ Turn g u u' K w w' := by
  have H := hide h
  have f1 := h.box.free 1
  have f2 := h.box.free 2
  have h1 := h.box.cell 1
  have h2 := h.box.cell 2
  simp at h1 h2
  obtain ⟨s1, s2⟩ := shl_bd v n c hv hn hc
  have hv32 : v < 4294967296 := Nat.lt_of_lt_of_le hv (Nat.pow_le_pow_right (j := 32) (by omega) hn)
  have hor := or_rest r v c hr (by omega) (by omega)
  rw [hE] at hor
  have b1 : (0 : Int) ≤ (v : Int) * 2 ^ c := by
    have e1 : (v : Int) * 2 ^ c = ((v * 2 ^ c : Nat) : Int) := by simp
    omega
  have b2 : (v : Int) * 2 ^ c ≤ 18446744073709551615 := by
    have e1 : (v : Int) * 2 ^ c = ((v * 2 ^ c : Nat) : Int) := by simp
    omega
  have b3 : (c : Int) + (n : Int) ≤ 39 := by omega
  have NE := hide h.ne
  have LT := hide (fun b (hb : u.ownBlock = some b) => (h.own.lt b hb).2)
  have HR := hide hR
  have RB := hide (show R ≤ 18446744073709551615 by omega)
  clear h hE hR
  go_enter Tryd.func46, Tryd.ntmps46
  go_wp2
  go_region
  go_wp2
  go_loopw [27] (fun _ wr => ∃ (K' C R' : Nat) (u' : Value), Raw wr g u' V K' R' C ∧ R' = V / 2 ^ (8 * K') ∧ R' ≤ 18446744073709551615 ∧ 8 * K' + C = M ∧ K ≤ K' ∧ C ≤ 39 ∧ Turn g u u' K w wr) (fun _ wr => cnt g wr)
  case atStart =>
    have h' := unhide H
    refine ⟨K, c + n, R, u, ⟨?_, (own_setCell (own_setCell h'.own g 1 _ h'.ne) g 2 _ h'.ne).drew, h'.ne⟩, unhide HR, unhide RB, by omega, Nat.le_refl _, by omega, ?_⟩
    · exact (h'.box.set 1 (.int .u64 R)).set 2 (.int .i64 ((c + n : Nat) : Int))
    · exact ((turn_setCell u K g 1 _ h'.ne).trans (turn_setCell u K g 2 _ h'.ne) (Nat.le_refl _) h'.ne (unhide LT)).trans (turn_drew g u K) (Nat.le_refl _) h'.ne (unhide LT)
  case round =>
    obtain ⟨K', C, R', u', raw, hR, hRb, hM', hKK, hC, turn⟩ := hrel
    have g0 := raw.box.free 0
    have g1 := raw.box.free 1
    have g2 := raw.box.free 2
    have c0 := raw.box.cell 0
    have c1 := raw.box.cell 1
    have c2 := raw.box.cell 2
    simp at c0 c1 c2
    have RAW := hide raw
    have TURN := hide turn
    have HR' := hide hR
    have hKb : K' ≤ 900010 := by omega
    clear f1 f2 h1 h2 hor b1 b2 b3 raw turn hR HR RB H hM
    by_cases h8 : 8 ≤ C
    · have h8' : (8 : Int) ≤ (C : Int) := by omega
      have d1 : (R' : Int) ≤ 18446744073709551615 := by omega
      have OWN := hide (unhide RAW).own
      have p0 : ∀ o, (wr.alloc o).cell? ⟨g, 0, none⟩ = some u' := fun o => (box_alloc (unhide RAW).box o).cell 0
      go_wp2
      go_region_law (refine step_app rfl (.tmp 36) (.tmp 42) rfl u' K' (cells (byt V) K') (by simp [Act.eval]) ((unhide OWN).drew.alloc _) ⟨wr.heap.size, 0, none⟩ 1 1 [.int .u8 ((R' : Int) % 256)] (by simp [Act.eval]) rfl (one_src _ _) (one_one _ _) (by omega) ?_; intro v' w' hown hgrow hstay; have BX := hide (box_grown (box_alloc (box_drew (unhide RAW).box) _) hgrow (unhide RAW).ne); have k0 := (unhide BX).free 0; have k1 := (unhide BX).free 1; have k2 := (unhide BX).free 2; have m0 := (unhide BX).cell 0; have m1 := (unhide BX).cell 1; have m2 := (unhide BX).cell 2; simp at m0 m1 m2; have OWN' := hide hown; have GROW := hide hgrow; have STAY := hide hstay; obtain ⟨a', cap', rfl⟩ := own_slice hown; clear hown hgrow hstay)
      all_goals
        go_wp2
        go_roundw
        case rel =>
          obtain ⟨rw1, tn1⟩ := round_step (unhide RAW) (unhide HR') (unhide OWN') (unhide GROW) (unhide STAY) ((R' : Int) / 256) ((C : Int) - 8) (R' / 256) (C - 8) (by omega) (by omega)
          exact ⟨K' + 1, C - 8, R' / 256, _, rw1, by rw [unhide HR', half], by omega, by omega, by omega, by omega, (unhide TURN).trans tn1 hKK (unhide NE) (unhide LT)⟩
        case measure =>
          obtain ⟨rw1, tn1⟩ := round_step (unhide RAW) (unhide HR') (unhide OWN') (unhide GROW) (unhide STAY) ((R' : Int) / 256) ((C : Int) - 8) (R' / 256) (C - 8) (by omega) (by omega)
          rw [cnt_raw rw1, cnt_raw (unhide RAW)]
          omega
    · have h8' : (C : Int) < 8 := by omega
      go_wp2
      go_end0
      obtain rfl : K' = M / 8 := by omega
      obtain rfl : C = M % 8 := by omega
      refine ⟨rfl, u', ?_, unhide TURN⟩
      rw [← unhide HR']
      exact unhide RAW
theorem add16 (g : Nat) (u : Value) (V N v n : Nat) (w : World) (h : Wr w g u V N) (hn : n ≤ 32) (hv : v < 2 ^ n) (hN : N ≤ 1000000) :
    Calls Tryd.prog 46 #[.pointer (some ⟨g, 0, none⟩), .int .u64 v, .int .i64 n] w fun e w' => e = .returned (.tuple #[]) ∧ ∃ u', Wr w' g u' (V + v * 2 ^ N) (N + n) ∧ Turn g u u' (N / 8) w w' := by
  have raw : Raw w g u (V + v * 2 ^ N) (N / 8) (V / 2 ^ (8 * (N / 8))) (N % 8) := by
    refine ⟨h.raw.box, ?_, h.raw.ne⟩
    rw [cells_congr (byt (V + v * 2 ^ N)) (byt V) (N / 8) (fun k hk => byt_keep V v N k (by omega))]
    exact h.raw.own
  refine (add_raw g u (V + v * 2 ^ N) (N / 8) _ (N % 8) v n (N + n) _ w raw (rest_lt V N h.lt) (by omega) hn hv rfl (rest_add V v N).symm (by omega) (by omega)).mono ?_
  rintro e w' ⟨rfl, u', r', t'⟩
  exact ⟨rfl, u', ⟨r', sum_lt V v N n h.lt hv⟩, t'⟩
end Go.Proofs.YtgjpcjnhggcfdaaDoor.Add
