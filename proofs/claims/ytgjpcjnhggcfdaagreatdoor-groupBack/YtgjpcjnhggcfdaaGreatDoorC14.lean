/-
  Contract: package bitout's Join: the other writer's bits come behind, also of the writer itself. Conditions: the writers lie in memory, their bits are few.
  Contracts: package lens, writing: which symbols have a length, lengths of one alone; a writer that is new. Conditions: the slice reads as integers, and they are few.
  Contracts: package lens, writing: how many lengths are the same, which symbol tells them. Conditions: the slice reads as integers, and they are few.
  Contracts: package lens, writing: which symbol tells the lengths that come next. Conditions: the slice reads as integers, and they are few.
-/
import Derived.Test.YtgjpcjnhggcfdaaGreatDoorC13
import Derived.Test.YtgjpcjnhggcfdaaGreatDoorC11
import Derived.Test.YtgjpcjnhggcfdaaGreatDoorC12
namespace Go.Proofs.YtgjpcjnhggcfdaaGreatDoor.Joi
open Go.ChangeShapes Go.WideShapes Go.ChangeAt Go.RowKit Go.Proofs.YtgjpcjnhggcfdaaGreatDoor.Core Go.Proofs.YtgjpcjnhggcfdaaGreatDoor.Foot Go.Proofs.YtgjpcjnhggcfdaaGreatDoor.Add Go.Proofs.YtgjpcjnhggcfdaaGreatDoor.Wri Go.Proofs.YtgjpcjnhggcfdaaGreatDoor.Byt Go.Proofs.YtgjpcjnhggcfdaaGreatDoor.Sam

set_option maxHeartbeats 400000 in
theorem join_none1 (v : Value) (w : World) :
    Calls Tryz.prog 23 #[.pointer none, v] w fun e w' => e = .returned (.tuple #[]) ∧ w' = w := by
  go_enter Tryz.func23, Tryz.ntmps23
  go_wp2
  (try simp only [Exit.inBlock, Exit.then]); refine bodyPost_ret (results_none rfl _ _ _) rfl ?_
  exact ⟨rfl, rfl⟩
set_option maxHeartbeats 400000 in
theorem join_none2 (g : Nat) (w : World) :
    Calls Tryz.prog 23 #[.pointer (some ⟨g, 0, none⟩), .pointer none] w fun e w' => e = .returned (.tuple #[]) ∧ w' = w := by
  go_enter Tryz.func23, Tryz.ntmps23
  go_wp2
  (try simp only [Exit.inBlock, Exit.then]); refine bodyPost_ret (results_none rfl _ _ _) rfl ?_
  exact ⟨rfl, rfl⟩
theorem join_step (V U N k : Nat) : V + U % 2 ^ (8 * k) * 2 ^ N + byt U k * 2 ^ (N + 8 * k) = V + U % 2 ^ (8 * (k + 1)) * 2 ^ N := by
  have e : U % 2 ^ (8 * (k + 1)) = U % 2 ^ (8 * k) + 2 ^ (8 * k) * byt U k := by
    unfold byt
    rw [show 8 * (k + 1) = 8 * k + 8 by omega, Nat.pow_add, Nat.mod_mul]
  rw [e, Nat.add_mul, Nat.pow_add]
  have : byt U k * (2 ^ N * 2 ^ (8 * k)) = 2 ^ (8 * k) * byt U k * 2 ^ N := by simp only [Nat.mul_comm, Nat.mul_assoc]
  omega
theorem join_last (V U N K : Nat) : V + U % 2 ^ (8 * K) * 2 ^ N + U / 2 ^ (8 * K) * 2 ^ (N + 8 * K) = V + U * 2 ^ N := by
  have e : U / 2 ^ (8 * K) * 2 ^ (N + 8 * K) = 2 ^ (8 * K) * (U / 2 ^ (8 * K)) * 2 ^ N := by
    rw [Nat.pow_add]; simp only [Nat.mul_comm, Nat.mul_left_comm]
  have h := Nat.mod_add_div U (2 ^ (8 * K))
  rw [e, Nat.add_assoc, ← Nat.add_mul, h]
theorem turn_drewN {w : World} (g : Nat) (v : Value) (n m : Nat) : Turn g v v n w (w.drewN m) := ⟨(Upd.refl _ _).drewN m, fun _ h => .inl h, fun _ _ _ _ => rfl⟩
theorem own_addr {w : World} {a : Option Addr} {K cap b : Nat} {xs : List Value} (h : w.ownsRow 0 5 1 (.slice a K cap) K xs) (hb : (Value.slice a K cap).ownBlock = some b) : a = some ⟨b, 0, none⟩ := by
  rcases h.2 with ⟨e, _⟩ | ⟨g, _, _, e, _⟩
  · cases e; simp [Value.ownBlock] at hb
  · cases e; simp [Value.ownBlock] at hb; rw [hb]
set_option maxRecDepth 20000 in
set_option maxHeartbeats 1000000 in
theorem join_raw (g h : Nat) (u v : Value) (V N U M : Nat) (w : World) (hv : Wr w g v V N) (hu : Wr w h u U M) (hN : N + M ≤ 900000)
    (hb : ∀ b, u.ownBlock = some b → b ≠ g ∧ (v.ownBlock = some b → M / 8 ≤ N / 8)) :
    Calls Tryz.prog 23 #[.pointer (some ⟨g, 0, none⟩), .pointer (some ⟨h, 0, none⟩)] w fun e w' => e = .returned (.tuple #[]) ∧ ∃ v', Wr w' g v' (V + U * 2 ^ N) (N + M) ∧ Turn g v v' (N / 8) w w' := by
  have U0 := hide hu.raw.own
  obtain ⟨a, cap, rfl⟩ := own_slice hu.raw.own
  have bx := hu.raw.box
  have hrest := rest_lt U M hu.lt
  have JL := hide (fun W : Unit => join_last V U N (M / 8))
  have V0 := hide hv
  have NE := hide hv.raw.ne
  have LT := hide (fun b (hb : v.ownBlock = some b) => (hv.raw.own.lt b hb).2)
  have HB := hide hb
  clear hu hv hb
  have c7 : M % 8 ≤ 7 := by omega
  have eM : 8 * (M / 8) + M % 8 = M := by omega
  generalize U / 2 ^ (8 * (M / 8)) = r at *
  generalize M % 8 = c at *
  generalize M / 8 = K at *
  have h0 := bx.cell 0
  have h1 := bx.cell 1
  have h2 := bx.cell 2
  simp at h0 h1 h2
  have hr32 : r < 128 := Nat.lt_of_lt_of_le hrest (Nat.pow_le_pow_right (j := 7) (by omega) c7)
  clear bx
  go_enter Tryz.func23, Tryz.ntmps23
  go_wp2
  go_quiet (fail)
  go_wp2
  go_loopw [29] (fun i wr => ∃ (k : Nat) (v' : Value), k ≤ K ∧ i = .int .i64 k ∧ Wr wr g v' (V + U % 2 ^ (8 * k) * 2 ^ N) (N + 8 * k) ∧ Turn g v v' (N / 8) w wr ∧
      (∀ b, (Value.slice a K cap).ownBlock = some b → b < wr.heap.size ∧ b ≠ g ∧ (v'.ownBlock = some b → K ≤ (N + 8 * k) / 8) ∧ ∀ j, j < K → wr.cell? ⟨b, j, none⟩ = some (.int .u8 (byt U j)))) (fun i _ => K - (intOf i).toNat)
  case atStart =>
    refine ⟨0, v, Nat.zero_le _, rfl, ?_, turn_drewN g v _ nq, fun b hb' => ?_⟩
    · have := (unhide V0).keep ((Upd.refl (fun _ => False) w).drewN nq) (fun _ _ h => h)
      simpa [Nat.mod_one] using this
    · have hb0 : a = some ⟨b, 0, none⟩ := own_addr (unhide U0) hb'
      subst hb0
      obtain ⟨b1, b2⟩ := unhide HB b hb'
      exact ⟨((unhide U0).lt b hb').2, b1, by simpa using b2, fun j hj => ((unhide U0).cellAt j (by omega)).trans (cells_at _ _ _ hj)⟩
  case round =>
    obtain ⟨k, v', hk, rfl, wr', turn, hcap⟩ := hrel
    have W1 := hide wr'
    have T1 := hide turn
    have C1 := hide hcap
    clear wr' turn hcap h0 h1 h2
    by_cases hlt : k < K
    · have hlt' : (k : Int) < (K : Int) := by omega
      obtain ⟨b, rfl⟩ : ∃ b, a = some ⟨b, 0, none⟩ := by
        rcases (unhide U0).2 with ⟨_, h⟩ | ⟨b, _, _, e, _⟩
        · omega
        · cases e; exact ⟨b, rfl⟩
      obtain ⟨b0, b1, b2, b3⟩ := unhide C1 b rfl
      have hcell := b3 k hlt
      have hx := byt_le U k
      have JS := hide (join_step V U N k)
      have A := hide (add16 g v' _ (N + 8 * k) (byt U k) 8 wr (unhide W1) (by omega) (by omega) (by omega))
      have B3 := hide b3
      clear b3
      generalize byt U k = x at *
      have hx' : (x : Int) ≤ 255 := by omega
      go_wp2_with fail
      refine (unhide A).mono ?_
      rintro e w2 ⟨rfl, v2, wr2, t2⟩
      have W2 := hide wr2
      have T2 := hide t2
      clear wr2 t2 A
      go_wp2
      go_roundw
      case rel =>
        refine ⟨k + 1, v2, by omega, by go_num, ?_, (unhide T1).trans (unhide T2) (by omega) (unhide NE) (unhide LT), fun b' hb' => ?_⟩
        · have := unhide W2
          rw [unhide JS] at this
          rw [show N + 8 * (k + 1) = N + 8 * k + 8 by omega]
          exact this
        · have e : b = b' := by simpa [Value.ownBlock] using hb'
          subst e
          refine ⟨Nat.lt_of_lt_of_le b0 (unhide T2).upd.size, b1, fun h2 => ?_, fun j hj => ?_⟩
          · rcases (unhide T2).stays.foot b h2 with h3 | h3
            · have := b2 h3; omega
            · omega
          · rw [← unhide B3 j hj]
            by_cases h3 : v'.ownBlock = some b
            · exact (unhide T2).stays.kept b j h3 (by have := b2 h3; omega)
            · exact (unhide T2).upd.cell (p := ⟨b, j, none⟩) b0 (fun h4 => by
                rcases h4 with h4 | h4
                · exact b1 h4
                · exact h3 h4)
      case measure => simp [intOf]; omega
    · obtain rfl : k = K := by omega
      have A := hide (add16 g v' _ (N + 8 * k) r c wr (unhide W1) (by omega) hrest (by omega))
      have hr' : (r : Int) ≤ 127 := by omega
      go_wp2_with fail
      refine (unhide A).mono ?_
      rintro e w2 ⟨rfl, v2, wr2, t2⟩
      have W2 := hide wr2
      have T2 := hide t2
      clear wr2 t2 A
      go_wp2
      go_end0
      refine ⟨rfl, v2, ?_, (unhide T1).trans (unhide T2) (by omega) (unhide NE) (unhide LT)⟩
      have := unhide W2
      rw [unhide JL ()] at this
      rw [show N + M = N + 8 * k + c by omega]
      exact this
end Go.Proofs.YtgjpcjnhggcfdaaGreatDoor.Joi

namespace Go.Proofs.YtgjpcjnhggcfdaaGreatDoor.Wra
open Go.ChangeShapes Go.WideShapes Go.ChangeAt Go.RowKit Go.Proofs.YtgjpcjnhggcfdaaGreatDoor.Core Go.Proofs.YtgjpcjnhggcfdaaGreatDoor.Gnd Go.Proofs.YtgjpcjnhggcfdaaGreatDoor.Math Go.Proofs.YtgjpcjnhggcfdaaGreatDoor.Dec Go.Proofs.YtgjpcjnhggcfdaaGreatDoor.Ord Go.Proofs.YtgjpcjnhggcfdaaGreatDoor.Lsp Go.Proofs.YtgjpcjnhggcfdaaGreatDoor.Foot Go.Proofs.YtgjpcjnhggcfdaaGreatDoor.Add Go.Proofs.YtgjpcjnhggcfdaaGreatDoor.Wri

/-- A writer that lies in blocks from H on. -/
structure Nw (H : Nat) (w wr : World) (gw : Nat) (u : Value) (V N : Nat) : Prop where
  wri : Wr wr gw u V N
  ft : ∀ b, Ft gw u b → H ≤ b
  bel : Below H w wr
  hH : H ≤ w.heap.size
theorem Nw.put {H : Nat} {w wr w' : World} {gw : Nat} {u u' : Value} {V N V' N' m : Nat} (h : Nw H w wr gw u V N) (hw : Wr w' gw u' V' N') (t : Turn gw u u' m wr w') : Nw H w w' gw u' V' N' := by
  have hs := h.bel.size
  have hH := h.hH
  refine ⟨hw, fun b hb => ?_, h.bel.trans (t.upd.below H (by omega) h.ft), hH⟩
  rcases hb with rfl | hb
  · exact h.ft _ (.inl rfl)
  · rcases t.stays.foot b hb with h1 | h1
    · exact h.ft b (.inr h1)
    · omega
theorem Nw.keep {H : Nat} {w wr w' : World} {gw : Nat} {u : Value} {V N : Nat} (h : Nw H w wr gw u V N) (b : Below wr.heap.size wr w') : Nw H w w' gw u V N := by
  have hs := h.bel.size
  have hH := h.hH
  exact ⟨h.wri.keep (Upd.ofBelow (S := fun _ => False) b) (fun _ _ h => h), h.ft, h.bel.trans (b.mono (by omega)), hH⟩
theorem Nw.drewN {H : Nat} {w wr : World} {gw : Nat} {u : Value} {V N : Nat} (h : Nw H w wr gw u V N) (k : Nat) : Nw H w (wr.drewN k) gw u V N :=
  h.keep ⟨rfl, rfl, rfl, Nat.le_refl _, fun _ _ => rfl⟩
theorem nw_new (w : World) : Calls Tryz.prog 8 #[] w fun e w' => ∃ g u, e = .returned (.pointer (some ⟨g, 0, none⟩)) ∧ Nw w.heap.size w w' g u 0 0 := by
  refine (new8 w).mono ?_
  rintro e w' ⟨g, rfl, hg, wr, bel⟩
  exact ⟨g, _, rfl, wr, fun b hb => by rcases hb with rfl | hb; exact hg; simp [Value.ownBlock] at hb, bel, Nat.le_refl _⟩
theorem nw_bits {H : Nat} {w wr : World} {gw : Nat} {u : Value} {V N : Nat} (h : Nw H w wr gw u V N) (v n : Nat) (hn : n ≤ 32) (hv : v < 2 ^ n) (hN : N ≤ 1000000) :
    Calls Tryz.prog 26 #[.pointer (some ⟨gw, 0, none⟩), .int .u32 v, .int .i64 n] wr fun e w' => e = .returned (.bool true) ∧ ∃ u', Nw H w w' gw u' (V + v * 2 ^ N) (N + n) := by
  refine (bits_yes gw u V N v n wr h.wri hn hv hN).mono ?_
  rintro e w' ⟨rfl, u', hw, t⟩
  exact ⟨rfl, u', h.put hw t⟩

/-- The symbols that have a length. -/
def hav (c : Nat → Int) : Nat → List Nat
  | 0 => []
  | n + 1 => if c n = 0 then hav c n else hav c n ++ [n]
theorem hav_len (c : Nat → Int) : ∀ n, (hav c n).length = many c n
  | 0 => rfl
  | n + 1 => by
    have := hav_len c n
    show (if c n = 0 then hav c n else hav c n ++ [n]).length = many c n + if c n = 0 then 0 else 1
    split
    · omega
    · rw [List.length_append]; simp; omega
theorem hav_mem (c : Nat → Int) (x : Nat) : ∀ n, x ∈ hav c n ↔ x < n ∧ c x ≠ 0
  | 0 => by simp [hav]
  | n + 1 => by
    have ih := hav_mem c x n
    unfold hav
    split
    · next h =>
      rw [ih]
      constructor
      · rintro ⟨h1, h2⟩; exact ⟨by omega, h2⟩
      · rintro ⟨h1, h2⟩
        by_cases e : x = n
        · subst e; exact absurd h h2
        · exact ⟨by omega, h2⟩
    · next h =>
      rw [List.mem_append, ih, List.mem_singleton]
      constructor
      · rintro (⟨h1, h2⟩ | rfl)
        · exact ⟨by omega, h2⟩
        · exact ⟨by omega, h⟩
      · rintro ⟨h1, h2⟩
        by_cases e : x = n
        · exact .inr e
        · exact .inl ⟨by omega, h2⟩
def ncells (l : List Nat) : List Value := l.map fun (k : Nat) => Value.int .i64 (k : Int)
theorem ncells_at (l : List Nat) (i : Nat) (h : i < l.length) : (ncells l)[i]? = some (.int .i64 ((l.getD i 0 : Nat) : Int)) := by
  simp [ncells, h]
theorem ncells_one (k : Nat) : ∀ u ∈ [Value.int .i64 (k : Int)], u.oneCell' = true := by
  intro u hu; simp at hu; subst hu; rfl
structure Hat (w wr : World) (s : Value) (l : List Nat) : Prop where
  own : wr.ownsRow w.heap.size 3 1 s l.length (ncells l)
  bel : Below w.heap.size w wr
theorem Hat.app {w wr w1 : World} {s s1 : Value} {l : List Nat} {k : Nat} {o : Obj} (h : Hat w wr s l) (own : w1.ownsRow w.heap.size 3 1 s1 (l.length + 1) (ncells l ++ [.int .i64 (k : Int)])) (gr : (wr.alloc o).grownBy w1 s.ownBlock) : Hat w w1 s1 (l ++ [k]) := by
  have hlt := h.own.lt
  refine ⟨?_, ?_⟩
  · rw [List.length_append]
    have : ncells (l ++ [k]) = ncells l ++ [.int .i64 (k : Int)] := by simp [ncells]
    rw [this]
    exact own
  · refine (h.bel.alloc h.bel.size o).grown gr ?_ (fun k e => (hlt k e).1)
    have := h.bel.size
    simp; omega
/-- A slice of symbols. -/
def Syms (w : World) (v : Value) (l : List Nat) : Prop :=
  (v = .slice none 0 0 ∧ l = []) ∨ ∃ g cap, v = .slice (some ⟨g, 0, none⟩) l.length cap ∧ l.length ≤ cap ∧ ∀ i, i < l.length → w.cell? ⟨g, i, none⟩ = some (.int .i64 ((l.getD i 0 : Nat) : Int))
theorem Hat.syms {w wr : World} {s : Value} {l : List Nat} (h : Hat w wr s l) : Syms wr s l := by
  have ho := h.own
  rcases ho.2 with ⟨rfl, e⟩ | ⟨g, cap, cur, rfl, b1, b2, b3, b4⟩
  · exact .inl ⟨rfl, List.eq_nil_of_length_eq_zero e⟩
  · exact .inr ⟨g, cap, rfl, b3, fun i hi => (ho.cellAt i (by omega)).trans (ncells_at l i hi)⟩
theorem Syms.keep {w w' : World} {v : Value} {l : List Nat} (h : Syms w v l) (u : Below w.heap.size w w') : Syms w' v l := by
  rcases h with h | ⟨g, cap, h1, h2, h3⟩
  · exact .inl h
  · exact .inr ⟨g, cap, h1, h2, fun i hi => (u.cell (p := ⟨g, i, none⟩) (lt_of_cell (h3 i hi))).trans (h3 i hi)⟩
set_option maxHeartbeats 2000000 in
theorem with18 (v : Value) (len : Nat) (c : Nat → Int) (hl : len ≤ 100000) (w : World) (src : Ints .i64 w v len c) :
    Calls Tryz.prog 43 #[v] w fun e w' => ∃ u, e = .returned u ∧ Syms w' u (hav c len) ∧ Below w.heap.size w w' := by
  have SRC := hide src
  obtain ⟨a, cap, rfl, hs⟩ := src
  obtain ⟨i0, hi0, hz0, hz1, hz2⟩ := info_parts Ord.info3
  clear hs
  go_enter Tryz.func43, Tryz.ntmps43
  go_wp2
  go_loopw [3, 8] (fun s i wr => ∃ k : Nat, k ≤ len ∧ i = .int .i64 k ∧ Hat w wr s (hav c k)) (fun _ i _ => len - (intOf i).toNat)
  case atStart => exact ⟨0, Nat.zero_le _, rfl, ⟨World.ownsRow_nil _ _ _ _, Below.refl _ w⟩⟩
  case round =>
    obtain ⟨k, hk, rfl, gat⟩ := hrel
    have GAT := hide gat
    have pl : (hav c k).length ≤ k := by rw [hav_len]; exact many_le c k
    by_cases hlt : k < len
    · have hlt' : (k : Int) < (len : Int) := by omega
      obtain ⟨a', cap', e', hs'⟩ := (unhide SRC).keep gat.bel
      cases e'
      obtain ⟨b, off, rfl, hcell⟩ := hs' k hlt
      clear gat hs'
      by_cases hp : c k = 0
      · have E1 := hide (show hav c (k + 1) = hav c k from by show (if c k = 0 then _ else _) = _; rw [if_pos hp])
        have hp' : (c k != 0) = false := by simp [hp]
        go_wp2
        go_roundw
        case rel => exact ⟨k + 1, by omega, by go_num, by rw [unhide E1]; exact unhide GAT⟩
        case measure => simp [intOf]; omega
      · have E1 := hide (show hav c (k + 1) = hav c k ++ [k] from by show (if c k = 0 then _ else _) = _; rw [if_neg hp])
        have hp' : (c k != 0) = true := by simp [hp]
        go_wp2_with (first | (at_builtin; refine wpList_append_own _ rfl (.tmp 15) (.tmp 17) 26 rfl w.heap.size 3 i0 (.int .i64 0) 1 8 Tryz.underlying26 hi0 hz0 hz1 hz2 rfl (by decide) _ (hav c k).length (ncells (hav c k)) rfl ((unhide GAT).own.alloc _) ⟨wr.heap.size, 0, none⟩ 1 1 [.int .i64 (k : Int)] rfl rfl (cell_one_new _ _ _) (ncells_one k) (by unfold maxLen; omega) (by omega) (by have := (unhide GAT).bel.size; simp; omega) ?_; intro v1 w1 own1 gr1 _; have GA1 := hide ((unhide GAT).app own1 gr1); clear own1 gr1) | fail)
        go_roundw
        case rel => exact ⟨k + 1, by omega, by go_num, by rw [unhide E1]; exact unhide GA1⟩
        case measure => simp [intOf]; omega
    · obtain rfl : k = len := by omega
      have hnl : ¬ (k : Int) < (k : Int) := by omega
      clear gat
      go_wp2
      go_ret
      exact ⟨_, rfl, (unhide GAT).syms, (unhide GAT).bel⟩
set_option maxHeartbeats 400000 in
theorem alone20 (s n : Nat) (w : World) (hs : s < n) (hn : n ≤ 100000) :
    Calls Tryz.prog 44 #[.int .i64 s, .int .i64 n] w fun e w' => ∃ g, e = .returned (.slice (some ⟨g, 0, none⟩) n n) ∧ w.heap.size ≤ g ∧ Box w' g 3 (nr (Lrh.by_hand s 0 false) n).toArray ∧ Below w.heap.size w w' := by
  obtain ⟨xs, hxs⟩ : ∃ xs, xs = (nr (fun _ => 0) n).toArray := ⟨_, rfl⟩
  have hmk : ∀ w, (Instr.makeSlice 26 (.int .i64 n) (.int .i64 n)).run Tryz.prog w = .ok (.slice (some ⟨w.heap.size, 0, none⟩) n n) (w.alloc (.cells xs 3)) := fun w => by rw [hxs]; exact make_ints w n (by omega)
  have hs' : (s : Int) < (n : Int) := by omega
  have c1 : xs[s]? = some (.int .i64 ((0 : Nat) : Int)) := by rw [hxs]; exact na_at _ _ _ hs
  have E2 := hide (show xs.setIfInBounds s (.int .i64 1) = (nr (Lrh.by_hand s 0 false) n).toArray from by rw [hxs]; exact Lrh.bh_one s 0 n)
  clear hxs
  go_enter Tryz.func44, Tryz.ntmps44
  go_wp2
  go_ret
  exact ⟨w.heap.size, rfl, Nat.le_refl _, by rw [← unhide E2]; exact Box.made w 3 _, (Below.refl _ w).alloc (Nat.le_refl _) _⟩
end Go.Proofs.YtgjpcjnhggcfdaaGreatDoor.Wra

namespace Go.Proofs.YtgjpcjnhggcfdaaGreatDoor.Wrc
open Go.ChangeShapes Go.WideShapes Go.ChangeAt Go.RowKit Go.Proofs.YtgjpcjnhggcfdaaGreatDoor.Core Go.Proofs.YtgjpcjnhggcfdaaGreatDoor.Gnd Go.Proofs.YtgjpcjnhggcfdaaGreatDoor.Math Go.Proofs.YtgjpcjnhggcfdaaGreatDoor.Dec Go.Proofs.YtgjpcjnhggcfdaaGreatDoor.Ord Go.Proofs.YtgjpcjnhggcfdaaGreatDoor.Lsp Go.Proofs.YtgjpcjnhggcfdaaGreatDoor.Rsa

/-- How many are the same as the first, from it on. -/
structure Same (c : Nat → Nat) (n r : Nat) : Prop where
  pos : 1 ≤ r
  le : r ≤ n
  eq : ∀ j, j < r → c j = c 0
  ne : r < n → c r ≠ c 0
theorem Same.one {c : Nat → Nat} {n r s : Nat} (h : Same c n r) (k : Same c n s) : r = s := by
  rcases Nat.lt_trichotomy r s with e | e | e
  · exact absurd (k.eq r e) (h.ne (by have := k.le; omega))
  · exact e
  · exact absurd (h.eq s e) (k.ne (by have := h.le; omega))
theorem same_ex (c : Nat → Nat) : ∀ n, 1 ≤ n → ∃ r, Same c n r
  | 0, h => by omega
  | 1, _ => ⟨1, Nat.le_refl _, Nat.le_refl _, fun j hj => by rw [show j = 0 by omega], fun h => by omega⟩
  | n + 2, _ => by
    obtain ⟨r, h⟩ := same_ex c (n + 1) (by omega)
    by_cases h1 : r < n + 1
    · exact ⟨r, h.pos, by omega, h.eq, fun _ => h.ne h1⟩
    · by_cases h2 : c r = c 0
      · refine ⟨r + 1, by omega, by have := h.le; omega, fun j hj => ?_, fun h3 => by have := h.le; omega⟩
        by_cases e : j = r
        · rw [e, h2]
        · exact h.eq j (by omega)
      · exact ⟨r, h.pos, by have := h.le; omega, h.eq, fun _ => h2⟩
set_option maxHeartbeats 1000000 in
theorem run51 (v : Value) (len r : Nat) (c : Nat → Nat) (hl : len ≤ 100000) (hr : Same c len r) (w : World) (src : Ints .i64 w v len (fun k => (c k : Int))) :
    Calls Tryz.prog 85 #[v] w fun e w' => e = .returned (.int .i64 r) ∧ ∃ q, w' = w.drewN q := by
  obtain ⟨a, cap, rfl, hs⟩ := src
  have SRC := hide hs
  have HR := hide hr
  have h1 := hr.pos
  have h2 := hr.le
  clear hs hr
  go_enter Tryz.func85, Tryz.ntmps85
  go_wp2
  go_loopw [3] (fun i wr => ∃ k q : Nat, 1 ≤ k ∧ k ≤ r ∧ i = .int .i64 k ∧ wr = w.drewN q) (fun i _ => r - (intOf i).toNat)
  case atStart => exact ⟨1, 0, Nat.le_refl _, h1, rfl, rfl⟩
  case round =>
    obtain ⟨k, q, hk1, hk, rfl, rfl⟩ := hrel
    obtain ⟨b, off, rfl, d0⟩ := unhide SRC 0 (by omega)
    have e0 : (w.drewN q).cell? ⟨b, off, none⟩ = some (.int .i64 ((c 0 : Nat) : Int)) := by simpa using d0
    have DK := hide (fun (k : Nat) (hk : k < len) => show (w.drewN q).cell? ⟨b, off + k, none⟩ = some (.int .i64 ((c k : Nat) : Int)) from by
      obtain ⟨b', off', ea, dk⟩ := unhide SRC k hk
      cases ea
      exact dk)
    have hlen0 : (0 : Int) < (len : Int) := by omega
    clear d0
    generalize hwq : w.drewN q = wq at *
    have HW := hide hwq
    clear hwq
    by_cases hlt : k < len
    · have hlt' : (k : Int) < (len : Int) := by omega
      have ek := unhide DK k hlt
      by_cases hkr : k < r
      · have he : (((c k : Nat) : Int) == ((c 0 : Nat) : Int)) = true := by simp; have := (unhide HR).eq k hkr; omega
        generalize c k = ck at *
        generalize c 0 = cz at *
        go_wp2
        go_quiet (fail)
        go_wp2
        go_roundw
        case rel => exact ⟨k + 1, q + nq, by omega, by omega, by go_num, by rw [← Lrh.rfl_drew, unhide HW]⟩
        case measure => simp [intOf]; omega
      · obtain rfl : k = r := by omega
        have he : (((c k : Nat) : Int) == ((c 0 : Nat) : Int)) = false := by simp; have := (unhide HR).ne hlt; omega
        generalize c k = ck at *
        generalize c 0 = cz at *
        go_wp2
        go_quiet (fail)
        go_wp2
        go_ret
        exact ⟨rfl, q + nq, by rw [← Lrh.rfl_drew, unhide HW]⟩
    · obtain rfl : len = k := by omega
      obtain rfl : len = r := by omega
      have hnl : ¬ (len : Int) < (len : Int) := by omega
      go_wp2
      go_quiet (fail)
      go_wp2
      go_ret
      exact ⟨rfl, q + nq, by rw [← Lrh.rfl_drew, unhide HW]⟩
end Go.Proofs.YtgjpcjnhggcfdaaGreatDoor.Wrc

namespace Go.Proofs.YtgjpcjnhggcfdaaGreatDoor.Wsd
open Go.ChangeShapes Go.WideShapes Go.ChangeAt Go.RowKit Go.Proofs.YtgjpcjnhggcfdaaGreatDoor.Core Go.Proofs.YtgjpcjnhggcfdaaGreatDoor.Gnd Go.Proofs.YtgjpcjnhggcfdaaGreatDoor.Math Go.Proofs.YtgjpcjnhggcfdaaGreatDoor.Dec Go.Proofs.YtgjpcjnhggcfdaaGreatDoor.Ord Go.Proofs.YtgjpcjnhggcfdaaGreatDoor.Lsp Go.Proofs.YtgjpcjnhggcfdaaGreatDoor.Rsa Go.Proofs.YtgjpcjnhggcfdaaGreatDoor.Wrc

set_option maxHeartbeats 400000 in
theorem enough58 (B x r : Nat) (w : World) (h : w.cell? ⟨B, 0, none⟩ = some (.int .i64 r)) :
    Calls Tryz.prog 90 #[.int .i64 x, .pointer (some ⟨B, 0, none⟩)] w fun e w' => e = .returned (.bool (decide (bas x ≤ r))) ∧ w' = w := by
  have TM := hide (times49 x)
  have hb := bas_le x
  generalize bas x = bx at *
  generalize wid x = wx at *
  go_enter Tryz.func90, Tryz.ntmps90
  go_wp2_with fail
  refine (unhide TM w).mono ?_
  rintro e w1 ⟨rfl, rfl⟩
  go_wp2
  go_ret
  exact ⟨rfl, rfl⟩
/-- The symbol that tells r lengths c0, behind a last one. -/
def sy (c0 last r : Nat) : Nat := if c0 = 0 ∧ 11 ≤ r then 18 else if c0 = 0 ∧ 3 ≤ r then 17 else if c0 = last ∧ 3 ≤ r then 16 else c0
set_option maxHeartbeats 2000000 in
theorem symbol50 (v : Value) (len r last : Nat) (c : Nat → Nat) (hl : len ≤ 100000) (hr : Same c len r) (hla : last ≠ 0) (w : World) (src : Ints .i64 w v len (fun k => (c k : Int))) :
    Calls Tryz.prog 84 #[v, .int .i64 last] w fun e w' => e = .returned (.int .i64 (sy (c 0) last r)) ∧ Below w.heap.size w w' := by
  have h1 := hr.pos
  have h2 := hr.le
  have RUN := hide (run51 v len r c hl hr w src)
  obtain ⟨a, cap, rfl, hs⟩ := src
  obtain ⟨b, off, rfl, d0⟩ := hs 0 (by omega)
  have hb : b < w.heap.size := lt_of_cell d0
  have d0' : w.cell? ⟨b, off, none⟩ = some (.int .i64 ((c 0 : Nat) : Int)) := by simpa using d0
  have D0 := hide d0'
  have hlen0 : (0 : Int) < (len : Int) := by omega
  clear hs d0 d0' hr
  generalize c 0 = cz at *
  generalize hsy : sy cz last r = z
  have HSY := hide hsy
  clear hsy
  go_enter Tryz.func84, Tryz.ntmps84
  go_wp2_with fail
  refine (unhide RUN).mono ?_
  rintro e w1 ⟨rfl, q, hq⟩
  have e0 : w1.cell? ⟨b, off, none⟩ = some (.int .i64 (cz : Int)) := by rw [hq]; exact unhide D0
  have hb1 : b < w1.heap.size := by rw [hq]; exact hb
  have EN := hide (fun (x : Nat) => enough58 w1.heap.size x r (w1.alloc (.cells #[.int .i64 r] 3)) (by simp))
  have B1 : Below w.heap.size w w1 := by rw [hq]; exact ⟨rfl, rfl, rfl, Nat.le_refl _, fun _ _ => rfl⟩
  have BEL := hide (show Below w.heap.size w (w1.alloc (.cells #[.int .i64 r] 3)) from B1.alloc B1.size _)
  clear RUN D0 hq B1
  by_cases hz : cz = 0
  · subst hz
    have hzl : ((0 : Int) == (last : Int)) = false := by simp; omega
    by_cases h11 : 11 ≤ r
    · have hd : decide (bas 18 ≤ r) = true := decide_eq_true h11
      obtain rfl : 18 = z := by rw [← unhide HSY]; simp [sy, h11]
      go_wp2_with (first | (go_at_call 90; refine (unhide EN 18).mono ?_; rw [hd]; rintro e w3 ⟨rfl, rfl⟩) | fail)
      go_ret
      exact ⟨rfl, unhide BEL⟩
    · have hd : decide (bas 18 ≤ r) = false := decide_eq_false h11
      by_cases h3 : 3 ≤ r
      · have hd2 : decide (bas 17 ≤ r) = true := decide_eq_true h3
        obtain rfl : 17 = z := by rw [← unhide HSY]; simp [sy, h11, h3]
        go_wp2_with fail
        refine (unhide EN 18).mono ?_
        rw [hd]
        rintro e w3 ⟨rfl, rfl⟩
        go_wp2_with fail
        refine (unhide EN 17).mono ?_
        rw [hd2]
        rintro e w3 ⟨rfl, rfl⟩
        go_wp2
        go_ret
        exact ⟨rfl, unhide BEL⟩
      · have hd2 : decide (bas 17 ≤ r) = false := decide_eq_false h3
        obtain rfl : 0 = z := by rw [← unhide HSY]; simp [sy, h11, h3]
        go_wp2_with fail
        refine (unhide EN 18).mono ?_
        rw [hd]
        rintro e w3 ⟨rfl, rfl⟩
        go_wp2_with fail
        refine (unhide EN 17).mono ?_
        rw [hd2]
        rintro e w3 ⟨rfl, rfl⟩
        go_wp2
        go_ret
        exact ⟨rfl, unhide BEL⟩
  · have hz' : ((cz : Int) == 0) = false := by simp; omega
    by_cases hcl : cz = last
    · subst hcl
      have hzl : ((cz : Int) == (cz : Int)) = true := by simp
      by_cases h3 : 3 ≤ r
      · have hd2 : decide (bas 16 ≤ r) = true := decide_eq_true h3
        obtain rfl : 16 = z := by rw [← unhide HSY]; simp [sy, h3, hz]
        go_wp2_with (first | (go_at_call 90; refine (unhide EN 16).mono ?_; rw [hd2]; rintro e w3 ⟨rfl, rfl⟩) | fail)
        go_ret
        exact ⟨rfl, unhide BEL⟩
      · have hd2 : decide (bas 16 ≤ r) = false := decide_eq_false h3
        obtain rfl : cz = z := by rw [← unhide HSY]; simp [sy, h3, hz]
        go_wp2_with (first | (go_at_call 90; refine (unhide EN 16).mono ?_; rw [hd2]; rintro e w3 ⟨rfl, rfl⟩) | fail)
        go_ret
        exact ⟨rfl, unhide BEL⟩
    · have hzl : ((cz : Int) == (last : Int)) = false := by simp; omega
      obtain rfl : cz = z := by rw [← unhide HSY]; simp [sy, hz, hcl]
      go_wp2
      go_ret
      exact ⟨rfl, unhide BEL⟩
end Go.Proofs.YtgjpcjnhggcfdaaGreatDoor.Wsd
