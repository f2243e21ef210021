/-
  Contract: lens.putShort. Conditions: the steps lie in memory, some and not too many; a writer lies apart, its bits are few.
  Contract: lens.putShort, walked. Conditions: the steps lie in memory, some and not too many; a writer lies apart, its bits are few.
  Contract: lens.written. Conditions: the steps lie in memory, some and not too many.
  Contract: lens.normal. Conditions: the slice reads as complete lengths, of which one alone is not the first.
-/
import Derived.Test.YtgjpcjnhggcfdaaGreatDoorC15
import Derived.Test.YtgjpcjnhggcfdaaGreatDoorC16
import Derived.Test.YtgjpcjnhggcfdaaGreatDoorC21
namespace Go.Proofs.YtgjpcjnhggcfdaaGreatDoor.Wsh
open Go.ChangeShapes Go.WideShapes Go.ChangeAt Go.RowKit Go.Proofs.YtgjpcjnhggcfdaaGreatDoor.Core Go.Proofs.YtgjpcjnhggcfdaaGreatDoor.Gnd Go.Proofs.YtgjpcjnhggcfdaaGreatDoor.Math Go.Proofs.YtgjpcjnhggcfdaaGreatDoor.Dec Go.Proofs.YtgjpcjnhggcfdaaGreatDoor.Ord Go.Proofs.YtgjpcjnhggcfdaaGreatDoor.Lsp Go.Proofs.YtgjpcjnhggcfdaaGreatDoor.Foot Go.Proofs.YtgjpcjnhggcfdaaGreatDoor.Add Go.Proofs.YtgjpcjnhggcfdaaGreatDoor.Wri Go.Proofs.YtgjpcjnhggcfdaaGreatDoor.Tre Go.Proofs.YtgjpcjnhggcfdaaGreatDoor.Wra Go.Proofs.YtgjpcjnhggcfdaaGreatDoor.Wse Go.Proofs.YtgjpcjnhggcfdaaGreatDoor.Wsg Go.Proofs.YtgjpcjnhggcfdaaGreatDoor.Rse

theorem rngB_congr {c d : Nat → Int} : ∀ n, (∀ k, k < n → c k = d k) → rngB c n = rngB d n
  | 0, _ => rfl
  | n + 1, h => by
    have ih := rngB_congr n (fun k hk => h k (by omega))
    unfold rngB
    rw [ih, h n (by omega)]
theorem many_congr {c d : Nat → Int} : ∀ n, (∀ k, k < n → c k = d k) → many c n = many d n
  | 0, _ => rfl
  | n + 1, h => by
    have ih := many_congr n (fun k hk => h k (by omega))
    have e1 : many c (n + 1) = many c n + if c n = 0 then 0 else 1 := rfl
    have e2 : many d (n + 1) = many d n + if d n = 0 then 0 else 1 := rfl
    rw [e1, e2, ih, h n (by omega)]
theorem kr_congr {c d : Nat → Int} : ∀ n, (∀ k, k < n → c k = d k) → kr c n = kr d n
  | 0, _ => rfl
  | n + 1, h => by
    have ih := kr_congr n (fun k hk => h k (by omega))
    rw [kr, kr, ih, h n (by omega)]
theorem chk_congr {c d : Nat → Int} {n : Nat} (h : ∀ k, k < n → c k = d k) : chk c n = chk d n := by
  unfold chk
  rw [rngB_congr n h, many_congr n h, kr_congr n h]
/-- How many of the first steps have a symbol. -/
def cn (l : List (Nat × Nat)) : Nat → Nat → Nat
  | 0, _ => 0
  | i + 1, s => cn l i s + if (pt l i).1 = s then 1 else 0
theorem cn_le (l : List (Nat × Nat)) : ∀ i s, cn l i s ≤ i
  | 0, _ => Nat.le_refl _
  | i + 1, s => by
    have := cn_le l i s
    unfold cn
    split <;> omega
theorem cn_mono (l : List (Nat × Nat)) (s : Nat) : ∀ i j, i ≤ j → cn l i s ≤ cn l j s
  | i, 0, h => by rw [show i = 0 by omega]; exact Nat.le_refl _
  | i, j + 1, h => by
    by_cases e : i = j + 1
    · rw [e]; exact Nat.le_refl _
    · have := cn_mono l s i j (by omega)
      rw [cn]
      omega
theorem cn_pos (l : List (Nat × Nat)) (i : Nat) (hi : i < l.length) : 0 < cn l l.length (pt l i).1 := by
  have h1 := cn_mono l (pt l i).1 (i + 1) l.length (by omega)
  have h2 : cn l (i + 1) (pt l i).1 = cn l i (pt l i).1 + 1 := by rw [cn, if_pos rfl]
  omega
theorem pt_mem {l : List (Nat × Nat)} {x : Nat × Nat} (h : x ∈ l) : ∃ i, i < l.length ∧ pt l i = x := by
  obtain ⟨i, hi, e⟩ := List.getElem_of_mem h
  exact ⟨i, hi, by simp [pt, hi, e]⟩
theorem mem_pt {l : List (Nat × Nat)} {i : Nat} (h : i < l.length) : pt l i ∈ l := by
  have : pt l i = l[i] := by simp [pt, h]
  rw [this]
  exact List.getElem_mem h
/-- What stands while steps are counted. -/
structure Ct (w wr : World) (l : List (Nat × Nat)) (i : Nat) : Prop where
  row : Box wr w.heap.size 152 (nr (cn l i) 19).toArray
  bel : Below w.heap.size w wr
theorem Ct.put {w wr : World} {l : List (Nat × Nat)} {i : Nat} (h : Ct w wr l i) (o : Obj) : Ct w ((wr.setCell ⟨w.heap.size, (pt l i).1, none⟩ (.int .i64 ((cn l i (pt l i).1 + 1 : Nat) : Int))).alloc o) l (i + 1) := by
  have hb := h.bel.setCell (p := ⟨w.heap.size, (pt l i).1, none⟩) (Nat.le_refl _) (.int .i64 ((cn l i (pt l i).1 + 1 : Nat) : Int))
  refine ⟨Box.alloc ?_ o, hb.alloc hb.size o⟩
  have h1 := h.row.set (pt l i).1 (.int .i64 ((cn l i (pt l i).1 + 1 : Nat) : Int))
  rw [na_set, ← na_congr (f := cn l (i + 1)) (fun j _ => by
    rw [cn]
    by_cases e : j = (pt l i).1
    · rw [if_pos e.symm, if_pos e, e]
    · rw [if_neg (fun h => e h.symm), if_neg e]; rfl)] at h1
  exact h1
/-- What stands while the lengths of the code of lengths are written. -/
structure Pl (w : World) (gw : Nat) (u : Value) (V N K : Nat) (M : Nat → Nat) (wr : World) (j : Nat) : Prop where
  ex : ∃ u' V', Tw w gw u V N wr u' V' (N + 4 + 3 * j) ∧ V' % 2 ^ N = V % 2 ^ N ∧ nb V' N 4 + 4 = K ∧ ∀ s, s < 19 → cl V' (N + 4) j s = if idx s < j then M s else 0
theorem Pl.next {w wr w' : World} {gw : Nat} {u u1 u2 : Value} {V N K j V' : Nat} {M : Nat → Nat} (t : Tw w gw u V N wr u1 V' (N + 4 + 3 * j)) (h1 : V' % 2 ^ N = V % 2 ^ N) (h2 : nb V' N 4 + 4 = K) (h3 : ∀ s, s < 19 → cl V' (N + 4) j s = if idx s < j then M s else 0) (hj : j < 19) (hM : M (ord j) < 2 ^ 3)
    (t2 : Tw w gw u V N w' u2 (V' + M (ord j) * 2 ^ (N + 4 + 3 * j)) (N + 4 + 3 * j + 3)) : Pl w gw u V N K M w' (j + 1) := by
  have old := nb_old V' (N + 4 + 3 * j) (M (ord j))
  refine ⟨u2, _, by rw [show N + 4 + 3 * (j + 1) = N + 4 + 3 * j + 3 by omega]; exact t2, ?_, ?_, fun s hs => ?_⟩
  · rw [← h1]
    have : (2 : Nat) ^ N ∣ 2 ^ (N + 4 + 3 * j) := Nat.pow_dvd_pow 2 (by omega)
    rw [← Nat.mod_mod_of_dvd _ this, old, Nat.mod_mod_of_dvd _ this]
  · rw [nb_same old (by omega)]; exact h2
  · rw [cl_next _ _ _ _ hj hs]
    by_cases e : s = ord j
    · rw [if_pos e, nb_new _ _ _ _ t.wri.lt hM, e, idx_ord j hj, if_pos (by omega)]
    · rw [if_neg e, cl_same old (by omega), h3 s hs]
      have hne : idx s ≠ j := fun e2 => e (by rw [← e2, ord_idx s hs])
      by_cases h4 : idx s < j
      · rw [if_pos h4, if_pos (by omega)]
      · rw [if_neg h4, if_neg (by omega)]
/-- What putShort answers. -/
structure Psh (w : World) (gw : Nat) (u : Value) (V N : Nat) (l : List (Nat × Nat)) (e : Ending) (w' : World) : Prop where
  ex : ∃ g lo u' V' K, e = .returned (.pointer (some ⟨g, 0, none⟩)) ∧ Tw w gw u V N w' u' V' (N + 4 + 3 * K) ∧ Tr w' lo w'.heap.size g (fun s => (cl V' (N + 4) K s : Int)) 19 ∧ (∀ b, Ft gw u' b → b < lo) ∧ w.heap.size ≤ lo ∧
    V' % 2 ^ N = V % 2 ^ N ∧ nb V' N 4 + 4 = K ∧ K ≤ 19 ∧ chk (fun s => (cl V' (N + 4) K s : Int)) 19 = 0 ∧ ∀ x ∈ l, cl V' (N + 4) K x.1 ≠ 0
end Go.Proofs.YtgjpcjnhggcfdaaGreatDoor.Wsh

namespace Go.Proofs.YtgjpcjnhggcfdaaGreatDoor.Wsi
open Go.ChangeShapes Go.WideShapes Go.ChangeAt Go.RowKit Go.Proofs.YtgjpcjnhggcfdaaGreatDoor.Core Go.Proofs.YtgjpcjnhggcfdaaGreatDoor.Gnd Go.Proofs.YtgjpcjnhggcfdaaGreatDoor.Math Go.Proofs.YtgjpcjnhggcfdaaGreatDoor.Dec Go.Proofs.YtgjpcjnhggcfdaaGreatDoor.Ord Go.Proofs.YtgjpcjnhggcfdaaGreatDoor.Lsp Go.Proofs.YtgjpcjnhggcfdaaGreatDoor.Foot Go.Proofs.YtgjpcjnhggcfdaaGreatDoor.Add Go.Proofs.YtgjpcjnhggcfdaaGreatDoor.Wri Go.Proofs.YtgjpcjnhggcfdaaGreatDoor.Tre Go.Proofs.YtgjpcjnhggcfdaaGreatDoor.Wra Go.Proofs.YtgjpcjnhggcfdaaGreatDoor.Wse Go.Proofs.YtgjpcjnhggcfdaaGreatDoor.Wsg Go.Proofs.YtgjpcjnhggcfdaaGreatDoor.Rse Go.Proofs.YtgjpcjnhggcfdaaGreatDoor.Wsh

/-- What is known of the lengths of the code of lengths. -/
structure Bt (w w5 : World) (l : List (Nat × Nat)) (b : Nat) (M : Nat → Nat) : Prop where
  cells : ∀ i, i < 19 → w5.cell? ⟨b, i, none⟩ = some (.int .i64 (M i))
  new : w.heap.size ≤ b
  le : ∀ s, s < 19 → M s ≤ 7
  chk : chk (fun s => (M s : Int)) 19 = 0
  some : ∀ x ∈ l, x.1 < 19 ∧ M x.1 ≠ 0
  bel : Below w.heap.size w w5
theorem bt_of {w wr w5 : World} {l : List (Nat × Nat)} {e : Ending} (hl : l ≠ []) (hs : StepsOk l) (bw : Below w.heap.size w wr) (g : ZBst.Gives (fun s => (cn l l.length s : Int)) 19 7 wr e w5) : ∃ b M, e = .returned (.tuple #[.slice (some ⟨b, 0, none⟩) 19 19, .int .i64 0]) ∧ Bt w w5 l b M := by
  obtain ⟨u, s, M, rfl, ⟨b, rfl, hb⟩, ints, lns, bel⟩ := g.ex
  have hsz := bw.size
  have hp : (ZRis.pos (fun s => (cn l l.length s : Int)) 19).length ≤ 2 ^ 7 := Nat.le_trans (ZRis.pos_len _ 19) (by omega)
  have hmem : ∀ x ∈ l, x.1 < 19 ∧ 0 < cn l l.length x.1 := fun x hx => by
    obtain ⟨i, hi, rfl⟩ := pt_mem hx
    exact ⟨(hs _ hx).1, cn_pos l i hi⟩
  refine ⟨b, M, rfl, fun i hi => ?_, by omega, fun s hs => ZLns.lns_le lns (by omega) hp s hs, ZLns.lns_chk lns (by omega) (by omega) hp ?_, fun x hx => ?_, bw.trans (bel.mono hsz)⟩
  · obtain ⟨a, cap, e, h⟩ := ints
    cases e
    obtain ⟨b', off, e, h⟩ := h i hi
    cases e
    simpa using h
  · intro h0
    obtain ⟨x, r, rfl⟩ := List.exists_cons_of_ne_nil hl
    obtain ⟨h1, h2⟩ := hmem x (by simp)
    have := (ZRis.pos_mem (fun s => (cn (x :: r) (x :: r).length s : Int)) x.1 19).2 ⟨h1, by omega⟩
    rw [List.eq_nil_of_length_eq_zero h0] at this
    simp at this
  · obtain ⟨h1, h2⟩ := hmem x hx
    have := (ZLns.lns_some lns (by omega) hp x.1 h1).2 (by omega)
    exact ⟨h1, by omega⟩
set_option maxRecDepth 20000 in
set_option maxHeartbeats 4000000 in
theorem short46 (gw : Nat) (u v : Value) (V N : Nat) (l : List (Nat × Nat)) (w : World) (h : Wr w gw u V N) (hN : N ≤ 900000) (hft : ∀ b, Ft gw u b → 1 < b) (st : Sts w v l) (hs : StepsOk l) (hl : l ≠ []) (hll : l.length ≤ 100000) (od : Ordr w) :
    Calls Tryz.prog 81 #[.pointer (some ⟨gw, 0, none⟩), v] w fun e w' => Psh w gw u V N l e w' := by
  have WR0 := hide h
  obtain ⟨g, cap, rfl, hg, hc⟩ : ∃ g cap, v = .slice (some ⟨g, 0, none⟩) l.length cap ∧ g < w.heap.size ∧ ∀ i, i < l.length → w.cell? ⟨g, i * 2, none⟩ = some (.int .i64 (pt l i).1) ∧ w.cell? ⟨g, i * 2 + 1, none⟩ = some (.int .i64 (pt l i).2) := by
    rcases st with ⟨_, e⟩ | h
    · exact absurd e hl
    · exact h
  have HC := hide hc
  have HS := hide hs
  have OD := hide od
  have FT := hide hft
  have HL := hide hl
  clear h st hs hc od hft hl
  obtain ⟨n, hn⟩ : ∃ n, l.length = n := ⟨_, rfl⟩
  have HN' := hide hn
  rw [hn] at hll ⊢
  clear hn
  go_enter Tryz.func81, Tryz.ntmps81
  go_wp2
  go_loopw [16] (fun x wr => ∃ i : Nat, i ≤ n ∧ x = .int .i64 i ∧ Ct w wr l i) (fun x _ => n - (intOf x).toNat)
  case atStart => exact ⟨0, Nat.zero_le _, rfl, ⟨Box.made w 152 _, (Below.refl _ w).alloc (Nat.le_refl _) _⟩⟩
  case round =>
    obtain ⟨i, hi, rfl, ct⟩ := hrel
    by_cases hlt : i < n
    · have hlt' : (i : Int) < (n : Int) := by omega
      have hil : i < l.length := by rw [unhide HN']; exact hlt
      obtain ⟨a1, a2⟩ := unhide HC i hil
      have d1 := (ct.bel.cell (p := ⟨g, i * 2, none⟩) hg).trans a1
      have d2 := (ct.bel.cell (p := ⟨g, i * 2 + 1, none⟩) hg).trans a2
      have hs19 := (unhide HS _ (mem_pt hil)).1
      have c1 := (ct.row.cell (pt l i).1).trans (na_at _ _ _ hs19)
      have f1 := ct.row.free (pt l i).1
      have hB := ct.row.lt
      have hg2 : g < wr.heap.size := by have := ct.bel.size; omega
      have hz := cn_le l i (pt l i).1
      have PUT := hide (ct.put (.cells #[.int .i64 (pt l i).1, .int .i64 (pt l i).2] 145))
      have hs19' : (((pt l i).1 : Nat) : Int) < 19 := by omega
      clear ct a1 a2
      generalize cn l i (pt l i).1 = z at *
      generalize (pt l i).1 = s at *
      generalize (pt l i).2 = x at *
      have ez : ((z + 1 : Nat) : Int) = (z : Int) + 1 := by omega
      rw [ez] at PUT
      clear ez
      go_wp2
      go_roundw
      case rel => exact ⟨i + 1, by omega, by go_num, unhide PUT⟩
      case measure => simp [intOf]; omega
    · obtain rfl : i = n := by omega
      have hnl : ¬ (i : Int) < (i : Int) := by omega
      have BC := hide ct.bel
      have BST := hide (ZBst.bst_ok ZPar.par24 (.slice (some ⟨w.heap.size, 0, none⟩) 19 19) 19 7 (fun s => (cn l i s : Int)) wr (Rsf.ints_row ct.row) (by omega) (fun k _ => by have := cn_le l i k; exact ⟨Int.natCast_nonneg _, by show (cn l i k : Int) ≤ 4294967296; omega⟩) (by omega) (by omega) (Nat.le_trans (ZRis.pos_len _ 19) (by omega)))
      clear ct
      go_wp2_with fail
      refine (unhide BST).mono ?_
      rintro e w5 gv
      obtain ⟨b, M, rfl, bt⟩ := bt_of (unhide HL) (unhide HS) (unhide BC) (by rw [unhide HN']; exact gv)
      have WR5 := hide ((unhide WR0).keep (Upd.ofBelow (S := fun _ => False) bt.bel) (fun _ _ h => h))
      have TW5 := hide ((Tw.refl (unhide WR0)).below bt.bel)
      have OD5 := hide ((unhide OD).below bt.bel)
      have C5 := hide bt.cells
      have LE7 := hide bt.le
      have CHK := hide bt.chk
      have SOME := hide bt.some
      have B5 := hide bt.bel
      have NF0 := hide (show ¬ Ft gw u 1 from fun h => by have := unhide FT 1 h; omega)
      have NFB := hide (show ¬ Ft gw u b from fun h => by have := (unhide WR0).raw.lt b h; have := bt.new; omega)
      clear gv bt BST HC WR0 OD BC
      go_wp2
      go_loopw [10] (fun x wr => ∃ K : Nat, x = .int .i64 K ∧ 4 ≤ K ∧ K ≤ 19 ∧ wr = w5 ∧ ∀ j, K ≤ j → j < 19 → M (ord j) = 0) (fun x _ => (intOf x).toNat)
      case atStart => exact ⟨19, rfl, by omega, by omega, rfl, fun j h1 h2 => by omega⟩
      case round =>
        obtain ⟨K, rfl, hK4, hK19, hw5, hz⟩ := hrel
        obtain rfl : w5 = wr := hw5.symm
        have HZ := hide hz
        clear hz
        by_cases h4 : K = 4
        · have hK4n : ¬ (4 : Int) < (K : Int) := by omega
          have HK4 := hide h4
          clear h4
          obtain ⟨k4, hk4⟩ : ∃ k4, K - 4 = k4 := ⟨_, rfl⟩
          have eK4 : (K : Int) - 4 = (k4 : Int) := by omega
          have hk15 : (k4 : Int) ≤ 15 := by omega
          go_wp2_with fail
          refine (tw_bits (Tw.refl (unhide WR5)) k4 4 (by omega) (by omega) (by omega)).mono ?_
          rintro e w6 ⟨rfl, u6, t6⟩
          have PL0 := hide (show Pl w5 gw u V N K M w6 0 from ⟨u6, _, t6, nb_old _ _ _, by rw [nb_new _ _ _ _ (unhide WR5).lt (by omega)]; omega, fun s _ => by rw [cl_zero, if_neg (by omega)]⟩)
          clear t6
          go_wp2
          go_loopw [52] (fun x wr => ∃ j : Nat, j ≤ K ∧ x = .int .i64 j ∧ Pl w5 gw u V N K M wr j) (fun x _ => K - (intOf x).toNat)
          case atStart => exact ⟨0, Nat.zero_le _, rfl, unhide PL0⟩
          case round =>
            clear PL0
            obtain ⟨j, hj, rfl, ⟨u7, V7, t7, p1, p2, p3⟩⟩ := hrel
            have OR := hide ((unhide OD5).keep t7.turn.upd (unhide NF0))
            have LC := hide (fun i (hi : i < 19) => (t7.turn.upd.cell (p := ⟨b, i, none⟩) (lt_of_cell (unhide C5 i hi)) (unhide NFB)).trans (unhide C5 i hi))
            by_cases hlt : j < K
            · have hlt' : (j : Int) < (K : Int) := by omega
              have hj19 : j < 19 := by omega
              have hj19' : (j : Int) < 19 := by omega
              have hol := ord_lt j hj19
              have hol' : (ord j : Int) < 19 := by omega
              have d1 := unhide OR j hj19
              have d2 := unhide LC (ord j) hol
              have hM7 := unhide LE7 (ord j) hol
              have NXT := hide (fun w' u2 t2 => Pl.next (w' := w') (u2 := u2) t7 p1 p2 p3 hj19 (by omega) t2)
              have T7 := hide t7
              clear t7 p1 p2 p3
              generalize ord j = oj at *
              generalize M oj = Mo at *
              have hMo : (Mo : Int) ≤ 7 := by omega
              go_wp2_with fail
              refine (tw_bits (unhide T7) Mo 3 (by omega) (by omega) (by omega)).mono ?_
              rintro e w8 ⟨rfl, u8, t8⟩
              have P8 := hide (unhide NXT w8 u8 t8)
              clear t8 T7 NXT
              go_wp2
              go_roundw
              case rel => exact ⟨j + 1, by omega, by go_num, unhide P8⟩
              case measure => simp [intOf]; omega
            · obtain rfl : K = j := by omega
              have hnl : ¬ (K : Int) < (K : Int) := by omega
              have EQ : ∀ s, s < 19 → (M s : Int) = (cl V7 (N + 4) K s : Int) := fun s hs => by
                rw [p3 s hs]
                by_cases h : idx s < K
                · rw [if_pos h]
                · rw [if_neg h]
                  have := unhide HZ (idx s) (by omega) (idx_lt s hs)
                  rw [ord_idx s hs] at this
                  rw [this]
              have TN := hide (tnew (.slice (some ⟨b, 0, none⟩) 19 19) 19 (fun s => (cl V7 (N + 4) K s : Int)) (by omega) (by rw [← chk_congr EQ]; exact unhide CHK) wr ⟨_, 19, rfl, fun i hi => ⟨b, 0, rfl, (by rw [Nat.zero_add]; show wr.cell? _ = some (.int .i64 (cl V7 (N + 4) K i : Int)); rw [← EQ i hi]; exact unhide LC i hi)⟩⟩)
              have FIN := hide (fun w9 (b9 : Below wr.heap.size wr w9) => show Tw w gw u V N w9 u7 V7 (N + 4 + 3 * K) ∧ (∀ c, Ft gw u7 c → c < wr.heap.size) ∧ w.heap.size ≤ wr.heap.size ∧ V7 % 2 ^ N = V % 2 ^ N ∧ nb V7 N 4 + 4 = K ∧ K ≤ 19 ∧ chk (fun s => (cl V7 (N + 4) K s : Int)) 19 = 0 ∧ ∀ x ∈ l, cl V7 (N + 4) K x.1 ≠ 0 from
                ⟨((unhide TW5).trans t7).below b9, fun c hc => t7.wri.raw.lt c hc, Nat.le_trans (unhide B5).size t7.turn.upd.size, p1, p2, by omega, by rw [← chk_congr EQ]; exact unhide CHK, fun x hx => by
                  obtain ⟨h1, h2⟩ := unhide SOME x hx
                  have := EQ x.1 h1
                  omega⟩)
              clear t7 p1 p2 p3 EQ
              go_wp2_with fail
              refine (unhide TN).mono ?_
              rintro e w9 ⟨g9, rfl, tr9, b9⟩
              have FF := hide (unhide FIN w9 b9)
              have T9 := hide tr9
              clear tr9 b9 FIN TN
              go_wp2
              go_ret
              obtain ⟨f1, f2, f3, f4, f5, f6, f7, f8⟩ := unhide FF
              exact ⟨g9, wr.heap.size, u7, V7, K, rfl, f1, unhide T9, f2, f3, f4, f5, f6, f7, f8⟩
        · obtain ⟨K1, hK1⟩ : ∃ K1, K - 1 = K1 := ⟨_, rfl⟩
          have eK1 : (K : Int) - 1 = (K1 : Int) := by omega
          have hK4' : (4 : Int) < (K : Int) := by omega
          have hK1' : (K1 : Int) < 19 := by omega
          have hol := ord_lt K1 (by omega)
          have hol' : (ord K1 : Int) < 19 := by omega
          have d1 := unhide OD5 K1 (by omega)
          have d2 := unhide C5 (ord K1) hol
          by_cases hM0 : M (ord K1) = 0
          · have hM0' : (((M (ord K1) : Nat) : Int) == 0) = true := by simp [hM0]
            have HM0 := hide hM0
            clear hM0
            generalize hoj : ord K1 = oj at *
            generalize hMo : M oj = Mo at *
            have HOJ := hide hoj
            have HMO := hide hMo
            clear hoj hMo
            go_wp2
            go_roundw
            case rel => exact ⟨K1, by first | rfl | go_num, by omega, by omega, by first | rfl | trivial, fun j h1 h2 => by
              by_cases e : j = K1
              · rw [e, unhide HOJ, unhide HMO]; exact unhide HM0
              · exact unhide HZ j (by omega) h2⟩
            case measure => simp [intOf]; omega
          · have hM0' : (((M (ord K1) : Nat) : Int) == 0) = false := by simp [hM0]
            clear hM0
            obtain ⟨k4, hk4⟩ : ∃ k4, K - 4 = k4 := ⟨_, rfl⟩
            have eK4 : (K : Int) - 4 = (k4 : Int) := by omega
            have hk15 : (k4 : Int) ≤ 15 := by omega
            go_wp2_with fail
            refine (tw_bits (Tw.refl (unhide WR5)) k4 4 (by omega) (by omega) (by omega)).mono ?_
            rintro e w6 ⟨rfl, u6, t6⟩
            have PL0 := hide (show Pl w5 gw u V N K M w6 0 from ⟨u6, _, t6, nb_old _ _ _, by rw [nb_new _ _ _ _ (unhide WR5).lt (by omega)]; omega, fun s _ => by rw [cl_zero, if_neg (by omega)]⟩)
            clear t6
            go_wp2
            go_loopw [52] (fun x wr => ∃ j : Nat, j ≤ K ∧ x = .int .i64 j ∧ Pl w5 gw u V N K M wr j) (fun x _ => K - (intOf x).toNat)
            case atStart => exact ⟨0, Nat.zero_le _, rfl, unhide PL0⟩
            case round =>
              clear PL0
              obtain ⟨j, hj, rfl, ⟨u7, V7, t7, p1, p2, p3⟩⟩ := hrel
              have OR := hide ((unhide OD5).keep t7.turn.upd (unhide NF0))
              have LC := hide (fun i (hi : i < 19) => (t7.turn.upd.cell (p := ⟨b, i, none⟩) (lt_of_cell (unhide C5 i hi)) (unhide NFB)).trans (unhide C5 i hi))
              by_cases hlt : j < K
              · have hlt' : (j : Int) < (K : Int) := by omega
                have hj19 : j < 19 := by omega
                have hj19' : (j : Int) < 19 := by omega
                have hol := ord_lt j hj19
                have hol' : (ord j : Int) < 19 := by omega
                have d1 := unhide OR j hj19
                have d2 := unhide LC (ord j) hol
                have hM7 := unhide LE7 (ord j) hol
                have NXT := hide (fun w' u2 t2 => Pl.next (w' := w') (u2 := u2) t7 p1 p2 p3 hj19 (by omega) t2)
                have T7 := hide t7
                clear t7 p1 p2 p3
                generalize ord j = oj at *
                generalize M oj = Mo at *
                have hMo : (Mo : Int) ≤ 7 := by omega
                go_wp2_with fail
                refine (tw_bits (unhide T7) Mo 3 (by omega) (by omega) (by omega)).mono ?_
                rintro e w8 ⟨rfl, u8, t8⟩
                have P8 := hide (unhide NXT w8 u8 t8)
                clear t8 T7 NXT
                go_wp2
                go_roundw
                case rel => exact ⟨j + 1, by omega, by go_num, unhide P8⟩
                case measure => simp [intOf]; omega
              · obtain rfl : K = j := by omega
                have hnl : ¬ (K : Int) < (K : Int) := by omega
                have EQ : ∀ s, s < 19 → (M s : Int) = (cl V7 (N + 4) K s : Int) := fun s hs => by
                  rw [p3 s hs]
                  by_cases h : idx s < K
                  · rw [if_pos h]
                  · rw [if_neg h]
                    have := unhide HZ (idx s) (by omega) (idx_lt s hs)
                    rw [ord_idx s hs] at this
                    rw [this]
                have TN := hide (tnew (.slice (some ⟨b, 0, none⟩) 19 19) 19 (fun s => (cl V7 (N + 4) K s : Int)) (by omega) (by rw [← chk_congr EQ]; exact unhide CHK) wr ⟨_, 19, rfl, fun i hi => ⟨b, 0, rfl, (by rw [Nat.zero_add]; show wr.cell? _ = some (.int .i64 (cl V7 (N + 4) K i : Int)); rw [← EQ i hi]; exact unhide LC i hi)⟩⟩)
                have FIN := hide (fun w9 (b9 : Below wr.heap.size wr w9) => show Tw w gw u V N w9 u7 V7 (N + 4 + 3 * K) ∧ (∀ c, Ft gw u7 c → c < wr.heap.size) ∧ w.heap.size ≤ wr.heap.size ∧ V7 % 2 ^ N = V % 2 ^ N ∧ nb V7 N 4 + 4 = K ∧ K ≤ 19 ∧ chk (fun s => (cl V7 (N + 4) K s : Int)) 19 = 0 ∧ ∀ x ∈ l, cl V7 (N + 4) K x.1 ≠ 0 from
                  ⟨((unhide TW5).trans t7).below b9, fun c hc => t7.wri.raw.lt c hc, Nat.le_trans (unhide B5).size t7.turn.upd.size, p1, p2, by omega, by rw [← chk_congr EQ]; exact unhide CHK, fun x hx => by
                    obtain ⟨h1, h2⟩ := unhide SOME x hx
                    have := EQ x.1 h1
                    omega⟩)
                clear t7 p1 p2 p3 EQ
                go_wp2_with fail
                refine (unhide TN).mono ?_
                rintro e w9 ⟨g9, rfl, tr9, b9⟩
                have FF := hide (unhide FIN w9 b9)
                have T9 := hide tr9
                clear tr9 b9 FIN TN
                go_wp2
                go_ret
                obtain ⟨f1, f2, f3, f4, f5, f6, f7, f8⟩ := unhide FF
                exact ⟨g9, wr.heap.size, u7, V7, K, rfl, f1, unhide T9, f2, f3, f4, f5, f6, f7, f8⟩
end Go.Proofs.YtgjpcjnhggcfdaaGreatDoor.Wsi

namespace Go.Proofs.YtgjpcjnhggcfdaaGreatDoor.Wsj
open Go.ChangeShapes Go.WideShapes Go.ChangeAt Go.RowKit Go.Proofs.YtgjpcjnhggcfdaaGreatDoor.Core Go.Proofs.YtgjpcjnhggcfdaaGreatDoor.Gnd Go.Proofs.YtgjpcjnhggcfdaaGreatDoor.Math Go.Proofs.YtgjpcjnhggcfdaaGreatDoor.Dec Go.Proofs.YtgjpcjnhggcfdaaGreatDoor.Ord Go.Proofs.YtgjpcjnhggcfdaaGreatDoor.Lsp Go.Proofs.YtgjpcjnhggcfdaaGreatDoor.Foot Go.Proofs.YtgjpcjnhggcfdaaGreatDoor.Add Go.Proofs.YtgjpcjnhggcfdaaGreatDoor.Wri Go.Proofs.YtgjpcjnhggcfdaaGreatDoor.Tre Go.Proofs.YtgjpcjnhggcfdaaGreatDoor.Bak Go.Proofs.YtgjpcjnhggcfdaaGreatDoor.Bitin Go.Proofs.YtgjpcjnhggcfdaaGreatDoor.Eyes Go.Proofs.YtgjpcjnhggcfdaaGreatDoor.Rsa Go.Proofs.YtgjpcjnhggcfdaaGreatDoor.Wra Go.Proofs.YtgjpcjnhggcfdaaGreatDoor.Wse Go.Proofs.YtgjpcjnhggcfdaaGreatDoor.Wsg Go.Proofs.YtgjpcjnhggcfdaaGreatDoor.Rse Go.Proofs.YtgjpcjnhggcfdaaGreatDoor.Wsh Go.Proofs.YtgjpcjnhggcfdaaGreatDoor.Wsi

/-- What a symbol's code is, behind N bits. -/
theorem nx_of {c : Nat → Int} {V N s : Nat} (hch : chk c 19 = 0) (hV : V < 2 ^ N) (hs : s < 19) (hcs : c s ≠ 0) : Nx c 19 (fun j => nb (V + uu c 19 s * 2 ^ N) (N + j) 1) (qq c 19 s).toNat s := by
  have hu := uu_lt c 19 s
  have hV1 := sum_lt V (uu c 19 s) N _ hV hu
  have h1 := told_nx (o := fun _ => N) (t := 0) hch hV1 hs hcs (Nat.le_refl _) (bits_new V _ N _ hV hu)
  refine nx_congr h1 (fun j hj => ?_)
  generalize (qq c 19 s).toNat = L at *
  generalize V + uu c 19 s * 2 ^ N = V1 at *
  have h2 := nb_bt (byt V1) (byt_le V1) ((N + L + 7) / 8) (N + j) (by omega)
  have h3 : num (byt V1) 0 ((N + L + 7) / 8) = V1 := by
    have := val_byt V1 (N + L) 0 (N + L) hV1
    rw [num_byt, Nat.pow_zero, Nat.div_one]
    refine Nat.mod_eq_of_lt (Nat.lt_of_lt_of_le hV1 ?_)
    rw [show 256 = 2 ^ 8 from rfl, ← Nat.pow_mul]
    exact Nat.pow_le_pow_right (by omega) (by omega)
  rw [h3] at h2
  exact h2.symm
theorem mod_down {V V' M N : Nat} (h : V % 2 ^ M = V' % 2 ^ M) (hN : N ≤ M) : V % 2 ^ N = V' % 2 ^ N := by
  have : (2 : Nat) ^ N ∣ 2 ^ M := Nat.pow_dvd_pow 2 hN
  rw [← Nat.mod_mod_of_dvd V this, h, Nat.mod_mod_of_dvd V' this]
theorem take_next (l : List (Nat × Nat)) (i : Nat) (h : i < l.length) : l.take (i + 1) = l.take i ++ [pt l i] := by
  have : pt l i = l[i] := by simp [pt, h]
  rw [this, List.take_append_getElem h]
/-- What stands while steps are written. -/
structure Lp (w : World) (gw : Nat) (u : Value) (V0 N0 V4 N4 : Nat) (c : Nat → Int) (l : List (Nat × Nat)) (wr : World) (i : Nat) : Prop where
  ex : ∃ u' V N, Tw w gw u V0 N0 wr u' V N ∧ V % 2 ^ N4 = V4 % 2 ^ N4 ∧ Tells c V N4 (l.take i) N ∧ N ≤ N4 + 22 * i
theorem Lp.next {w w' : World} {gw : Nat} {u u' : Value} {V0 N0 V4 N4 V N i : Nat} {c : Nat → Int} {l : List (Nat × Nat)} (hi : i < l.length) (hch : chk c 19 = 0) (hs : (pt l i).1 < 19) (hcs : c (pt l i).1 ≠ 0) (hx : (pt l i).2 < 2 ^ wid (pt l i).1) (hV : V < 2 ^ N)
    (h1 : V % 2 ^ N4 = V4 % 2 ^ N4) (h2 : Tells c V N4 (l.take i) N) (h3 : N ≤ N4 + 22 * i)
    (t : Tw w gw u V0 N0 w' u' (V + uu c 19 (pt l i).1 * 2 ^ N + (pt l i).2 * 2 ^ (N + (qq c 19 (pt l i).1).toNat)) (N + (qq c 19 (pt l i).1).toNat + wid (pt l i).1)) : Lp w gw u V0 N0 V4 N4 c l w' (i + 1) := by
  have hle := h2.le
  have hq := (qq_bd (chk_zero hch).1 hs).2
  have hw := wid_le (pt l i).1
  have hV1 := sum_lt V _ N _ hV (uu_lt c 19 (pt l i).1)
  have o1 := nb_old V N (uu c 19 (pt l i).1)
  have o2 := nb_old (V + uu c 19 (pt l i).1 * 2 ^ N) (N + (qq c 19 (pt l i).1).toNat) (pt l i).2
  have o3 := (mod_down o2 (N := N) (by omega)).trans o1
  refine ⟨u', _, _, t, (mod_down o3 hle).trans h1, ?_, by omega⟩
  rw [take_next l i hi]
  refine (h2.same o3.symm (Nat.le_refl _)).snoc (L := (qq c 19 (pt l i).1).toNat) (s := (pt l i).1) (x := (pt l i).2) ?_ ?_
  · exact nx_congr (nx_of hch hV hs hcs) (fun j hj => (nb_same o2 (by omega)).symm)
  · exact (nb_new _ _ _ _ hV1 hx).symm
/-- Bits that tell steps. -/
structure Wrt (V K p : Nat) (l : List (Nat × Nat)) (q : Nat) (ct : Bool) : Prop where
  bit : nb V 0 1 = 0
  cnt : nb V 1 4 + 4 = K
  lim : K ≤ 19
  chk : chk (fun s => (cl V 5 K s : Int)) 19 = 0
  yes : ct = true → nb V (5 + 3 * K) 1 = 1 ∧ l.length = nb V (5 + 3 * K + 4) (2 + 2 * nb V (5 + 3 * K + 1) 3) + 2 ∧ p = 5 + 3 * K + 4 + (2 + 2 * nb V (5 + 3 * K + 1) 3)
  no : ct = false → nb V (5 + 3 * K) 1 = 0 ∧ p = 5 + 3 * K + 1
  steps : Tells (fun s => (cl V 5 K s : Int)) V p l q
/-- What written answers. -/
structure Wn (w : World) (l : List (Nat × Nat)) (ct : Bool) (e : Ending) (w' : World) : Prop where
  ex : ∃ gw u V N K p, e = .returned (.pointer (some ⟨gw, 0, none⟩)) ∧ Nw w.heap.size w w' gw u V N ∧ Wrt V K p l N ct ∧ N ≤ 100 + 22 * l.length
/-- Which head there is. -/
def Hd (V3 V4 N4 K k : Nat) (l : List (Nat × Nat)) (ct : Bool) : Prop := (ct = false ∧ V4 = V3 + 0 * 2 ^ (5 + 3 * K) ∧ N4 = 5 + 3 * K + 1) ∨ (ct = true ∧ V4 = V3 + 1 * 2 ^ (5 + 3 * K) + k * 2 ^ (5 + 3 * K + 1) + (l.length - 2) * 2 ^ (5 + 3 * K + 1 + 3) ∧ N4 = 5 + 3 * K + 1 + 3 + (2 + 2 * k) ∧ k < 8 ∧ l.length - 2 < 2 ^ (2 + 2 * k) ∧ 2 ≤ l.length)
/-- The heads of it all. -/
theorem wrt_of {V3 V4 V K N4 N k : Nat} {l : List (Nat × Nat)} {ct : Bool} (h0 : V3 % 2 ^ 1 = 0 % 2 ^ 1) (h1 : nb V3 1 4 + 4 = K) (h2 : K ≤ 19) (h3 : Math.chk (fun s => (cl V3 5 K s : Int)) 19 = 0) (hV3 : V3 < 2 ^ (5 + 3 * K))
    (hd : Hd V3 V4 N4 K k l ct)
    (h4 : V % 2 ^ N4 = V4 % 2 ^ N4) (h5 : Tells (fun s => (cl V3 5 K s : Int)) V N4 l N) : Wrt V K N4 l N ct := by
  obtain ⟨hN, m4⟩ : 5 + 3 * K + 1 ≤ N4 ∧ V4 % 2 ^ (5 + 3 * K) = V3 % 2 ^ (5 + 3 * K) := by
    rcases hd with ⟨_, a, b⟩ | ⟨_, a, b, _⟩
    · subst a b
      exact ⟨by omega, nb_old _ _ _⟩
    · subst a b
      refine ⟨by omega, ?_⟩
      have o1 := nb_old V3 (5 + 3 * K) 1
      have o2 := nb_old (V3 + 1 * 2 ^ (5 + 3 * K)) (5 + 3 * K + 1) k
      have o3 := nb_old (V3 + 1 * 2 ^ (5 + 3 * K) + k * 2 ^ (5 + 3 * K + 1)) (5 + 3 * K + 1 + 3) (l.length - 2)
      exact (mod_down o3 (by omega)).trans ((mod_down o2 (by omega)).trans o1)
  have mV : V % 2 ^ (5 + 3 * K) = V3 % 2 ^ (5 + 3 * K) := (mod_down h4 (by omega)).trans m4
  have ecl : (fun s => (cl V3 5 K s : Int)) = (fun s => (cl V 5 K s : Int)) := funext (fun s => by rw [cl_same mV (by omega) s])
  refine ⟨?_, ?_, h2, by rw [← ecl]; exact h3, fun hc => ?_, fun hc => ?_, by rw [← ecl]; exact h5⟩
  · rw [nb_same mV (by omega)]
    unfold nb
    rw [Nat.pow_zero, Nat.div_one]
    simpa using h0
  · rw [nb_same mV (by omega)]; exact h1
  · subst hc
    rcases hd with ⟨a, _⟩ | ⟨_, a, b, hk, hn, h22⟩
    · cases a
    have w1 := sum_lt V3 1 (5 + 3 * K) 1 hV3 (by omega)
    have w2 := sum_lt _ k _ 3 w1 (by omega)
    have e0 : nb V (5 + 3 * K) 1 = 1 := by
      rw [nb_same h4 (by omega), a, nb_same (nb_old _ _ _) (by omega), nb_same (nb_old _ _ _) (by omega), nb_new _ _ _ _ hV3 (by omega)]
    have e1 : nb V (5 + 3 * K + 1) 3 = k := by
      rw [nb_same h4 (by omega), a, nb_same (nb_old _ _ _) (by omega), nb_new _ _ _ _ w1 (by omega)]
    have e2 : nb V (5 + 3 * K + 4) (2 + 2 * k) = l.length - 2 := by
      rw [nb_same h4 (by omega), a]
      exact nb_new _ _ _ _ w2 hn
    rw [e0, e1, e2]
    exact ⟨rfl, by omega, by omega⟩
  · subst hc
    rcases hd with ⟨_, a, b⟩ | ⟨a, _⟩
    · rw [nb_same h4 (by omega), a, nb_new _ _ _ _ hV3 (by omega)]
      exact ⟨rfl, b⟩
    · cases a
set_option maxRecDepth 20000 in
set_option maxHeartbeats 4000000 in
theorem written_no (v : Value) (l : List (Nat × Nat)) (w : World) (st : Sts w v l) (hs : StepsOk l) (hl : l ≠ []) (hll : l.length ≤ 4098) (od : Ordr w) :
    Calls Tryz.prog 69 #[v, .bool false] w fun e w' => Wn w l false e w' := by
  have hsz : 1 < w.heap.size := lt_of_cell (od 0 (by omega))
  have ST := hide st
  obtain ⟨g, cap, rfl, hg, hc⟩ : ∃ g cap, v = .slice (some ⟨g, 0, none⟩) l.length cap ∧ g < w.heap.size ∧ ∀ i, i < l.length → w.cell? ⟨g, i * 2, none⟩ = some (.int .i64 (pt l i).1) ∧ w.cell? ⟨g, i * 2 + 1, none⟩ = some (.int .i64 (pt l i).2) := by
    rcases st with ⟨_, e⟩ | h
    · exact absurd e hl
    · exact h
  have HC := hide hc
  have HS := hide hs
  have OD := hide od
  have HL := hide hl
  clear st hs hc od hl
  obtain ⟨n, hn⟩ : ∃ n, l.length = n := ⟨_, rfl⟩
  have HN' := hide hn
  rw [hn] at ST hll ⊢
  clear hn
  go_enter Tryz.func69, Tryz.ntmps69
  go_wp2_with fail
  refine (nw_new w).mono ?_
  rintro e w1 ⟨gw, u1, rfl, n1⟩
  have N1 := hide n1
  clear n1
  go_wp2_with fail
  refine (nw_bits (unhide N1) 0 1 (by omega) (by omega) (by omega)).mono ?_
  rintro e w2 ⟨rfl, u2, n2⟩
  have n2' : Nw w.heap.size w w2 gw u2 0 1 := by simpa using n2
  have N2 := hide n2'
  have SH := hide (short46 gw u2 _ 0 1 l w2 n2'.wri (by omega) (fun b hb => by have := n2'.ft b hb; omega) ((unhide ST).keep n2'.bel) (unhide HS) (unhide HL) (by have := unhide HN'; omega) ((unhide OD).keep (Upd.ofBelow (S := fun _ => False) n2'.bel) (fun h => h)))
  clear n2 n2' N1
  go_wp2_with fail
  refine (unhide SH).mono ?_
  rintro e w3 ⟨g3, lo, u3, V3, K, rfl, t3, tr3, ft3, lo3, m3, k3, l3, c3, s3⟩
  rw [show 1 + 4 = 5 from rfl] at t3 tr3 c3 s3
  have T3 := hide t3
  have TR3 := hide tr3
  have FT3 := hide ft3
  have M3 := hide m3
  have K3 := hide k3
  have C3 := hide c3
  have S3 := hide s3
  have WR3 := hide t3.wri
  have F3 := hide (fun b (hb : Ft gw u3 b) => show w.heap.size ≤ b from by
    rcases t3.ft b hb with h | h
    · exact (unhide N2).ft b h
    · exact Nat.le_trans (unhide N2).bel.size h)
  have HC3 := hide (fun i (hi : i < l.length) => show w3.cell? ⟨g, i * 2, none⟩ = some (.int .i64 (pt l i).1) ∧ w3.cell? ⟨g, i * 2 + 1, none⟩ = some (.int .i64 (pt l i).2) from by
    have b3 : Below w.heap.size w w3 := (Tw.nw (unhide N2) t3).bel
    obtain ⟨a1, a2⟩ := unhide HC i hi
    exact ⟨(b3.cell (p := ⟨g, i * 2, none⟩) hg).trans a1, (b3.cell (p := ⟨g, i * 2 + 1, none⟩) hg).trans a2⟩)
  have hg3 : g < w3.heap.size := Nat.lt_of_lt_of_le hg (Tw.nw (unhide N2) t3).bel.size
  clear t3 tr3 ft3 m3 k3 c3 s3 SH HC
  go_wp2_with fail
  refine (tw_bits (Tw.refl (unhide WR3)) 0 1 (by omega) (by omega) (by omega)).mono ?_
  rintro e w4 ⟨rfl, u4, t4⟩
  obtain ⟨V4, hV4⟩ : ∃ V4, V3 + 0 * 2 ^ (5 + 3 * K) = V4 := ⟨_, rfl⟩
  obtain ⟨N4, hN4⟩ : ∃ N4, 5 + 3 * K + 1 = N4 := ⟨_, rfl⟩
  rw [hV4, hN4] at t4
  have hN4' : N4 ≤ 90 := by omega
  obtain ⟨kx, hkx⟩ : ∃ kx : Nat, kx = 0 := ⟨_, rfl⟩
  have HD : Hid (Hd V3 V4 N4 K kx l false) := .inl ⟨rfl, hV4.symm, hN4.symm⟩
  clear hV4 hN4 hkx
  have BASE := hide (show Lp w3 gw u3 V3 (5 + 3 * K) V4 N4 (fun s => (cl V3 5 K s : Int)) l w4 0 from ⟨u4, V4, N4, t4, rfl, .nil _, by omega⟩)
  clear t4
  go_wp2
  go_loopw [26] (fun x wr => ∃ i : Nat, i ≤ n ∧ x = .int .i64 i ∧ Lp w3 gw u3 V3 (5 + 3 * K) V4 N4 (fun s => (cl V3 5 K s : Int)) l wr i) (fun x _ => n - (intOf x).toNat)
  case atStart => exact ⟨0, Nat.zero_le _, rfl, unhide BASE⟩
  case round =>
    clear BASE
    obtain ⟨i, hi, rfl, ⟨u5, V5, N5, t5, q1, q2, q3⟩⟩ := hrel
    by_cases hlt : i < n
    · have hlt' : (i : Int) < (n : Int) := by omega
      have hil : i < l.length := by rw [unhide HN']; exact hlt
      obtain ⟨a1, a2⟩ := unhide HC3 i hil
      have nfg : ¬ Ft gw u3 g := fun h => by have := unhide F3 g h; omega
      have d1 := (t5.turn.upd.cell (p := ⟨g, i * 2, none⟩) hg3 nfg).trans a1
      have d2 := (t5.turn.upd.cell (p := ⟨g, i * 2 + 1, none⟩) hg3 nfg).trans a2
      have hg5 : g < wr.heap.size := Nat.lt_of_lt_of_le hg3 t5.turn.upd.size
      obtain ⟨hs19, hx⟩ := unhide HS _ (mem_pt hil)
      have hcs := unhide S3 _ (mem_pt hil)
      have hcs' : (fun s => (cl V3 5 K s : Int)) (pt l i).1 ≠ 0 := by show (cl V3 5 K (pt l i).1 : Int) ≠ 0; omega
      have NXT := hide (fun w' u' t => Lp.next (w := w3) (gw := gw) (u := u3) (V0 := V3) (N0 := 5 + 3 * K) (w' := w') (u' := u') hil (unhide C3) hs19 hcs' hx t5.wri.lt q1 q2 q3 t)
      have hrng := (chk_zero (unhide C3)).1
      have hq1 := (qq_bd hrng hs19).2
      have WY := hide (fun (o : Obj) => write_yes lo w3.heap.size g3 19 (fun s => (cl V3 5 K s : Int)) hrng (pt l i).1 hs19 hcs' gw u5 V5 N5 (wr.alloc o) (((unhide TR3).keep t5.turn.upd (fun k h1 _ h => by have := unhide FT3 k h; omega)).keep ((Upd.refl (fun _ => False) wr).alloc o) (fun _ _ _ h => h)) (t5.wri.keep ((Upd.refl (fun _ => False) wr).alloc o) (fun _ _ h => h)) (by omega))
      have TA := hide (fun (o : Obj) => t5.below ((Below.refl _ wr).alloc (Nat.le_refl _) o))
      have NFX := hide (show ¬ Ft gw u5 wr.heap.size from fun h => by have := t5.wri.raw.lt _ h; omega)
      have hxw : (pt l i).2 ≤ 127 := by
        have : 2 ^ wid (pt l i).1 ≤ 2 ^ 7 := Nat.pow_le_pow_right (by omega) (wid_le _)
        omega
      have TM := hide (times49 (pt l i).1)
      have hw7 := wid_le (pt l i).1
      have HX := hide hx
      have hN5 : N5 ≤ 100000 := by omega
      clear t5 q1 q2 q3 a1 a2 hcs hcs' hx hrng
      generalize uu (fun s => (cl V3 5 K s : Int)) 19 (pt l i).1 = U at *
      generalize (qq (fun s => (cl V3 5 K s : Int)) 19 (pt l i).1) = Q at *
      generalize wid (pt l i).1 = wd at *
      generalize bas (pt l i).1 = bs at *
      generalize (pt l i).1 = s at *
      generalize (pt l i).2 = x at *
      have hx' : (x : Int) ≤ 127 := by omega
      go_wp2_with fail
      refine (unhide WY _).mono ?_
      rintro e w6 ⟨rfl, u6, wr6, tn6⟩
      have x0 := (tn6.upd.cell (p := ⟨wr.heap.size, 0, none⟩) (by simp) (unhide NFX)).trans (show _ = some (.int .i64 (s : Int)) by simp)
      have x1 := (tn6.upd.cell (p := ⟨wr.heap.size, 1, none⟩) (by simp) (unhide NFX)).trans (show _ = some (.int .i64 (x : Int)) by simp)
      have T6 := hide ((unhide TA _).put wr6 tn6 (by omega))
      clear wr6 tn6 WY TA d1 d2
      go_wp2_with fail
      refine (unhide TM w6).mono ?_
      rintro e w7 ⟨rfl, rfl⟩
      go_wp2_with fail
      refine (tw_bits (unhide T6) x wd (by omega) (unhide HX) (by omega)).mono ?_
      rintro e w8 ⟨rfl, u8, t8⟩
      have P8 := hide (unhide NXT w8 u8 t8)
      clear t8 T6 NXT x0 x1
      go_wp2
      go_roundw
      case rel => exact ⟨i + 1, by omega, by go_num, unhide P8⟩
      case measure => simp [intOf]; omega
    · obtain rfl : i = n := by omega
      have hnl : ¬ (i : Int) < (i : Int) := by omega
      have FIN := hide (show Nw w.heap.size w wr gw u5 V5 N5 ∧ Wrt V5 K N4 l N5 false ∧ N5 ≤ 100 + 22 * l.length from ⟨Tw.nw (Tw.nw (unhide N2) (unhide T3)) t5, wrt_of (k := kx) (unhide M3) (unhide K3) l3 (unhide C3) (unhide WR3).lt (unhide HD) q1 (by rw [List.take_of_length_le (by rw [unhide HN']; omega)] at q2; exact q2), by rw [unhide HN']; omega⟩)
      clear t5 q1 q2 q3
      go_wp2
      go_ret
      obtain ⟨f1, f2, f3⟩ := unhide FIN
      exact ⟨gw, u5, V5, N5, K, N4, rfl, f1, f2, f3⟩
set_option maxRecDepth 20000 in
set_option maxHeartbeats 4000000 in
theorem written_yes (v : Value) (l : List (Nat × Nat)) (w : World) (st : Sts w v l) (hs : StepsOk l) (hl : l ≠ []) (hll : l.length ≤ 4098) (h22 : 2 ≤ l.length) (od : Ordr w) :
    Calls Tryz.prog 69 #[v, .bool true] w fun e w' => Wn w l true e w' := by
  have hsz : 1 < w.heap.size := lt_of_cell (od 0 (by omega))
  have ST := hide st
  obtain ⟨g, cap, rfl, hg, hc⟩ : ∃ g cap, v = .slice (some ⟨g, 0, none⟩) l.length cap ∧ g < w.heap.size ∧ ∀ i, i < l.length → w.cell? ⟨g, i * 2, none⟩ = some (.int .i64 (pt l i).1) ∧ w.cell? ⟨g, i * 2 + 1, none⟩ = some (.int .i64 (pt l i).2) := by
    rcases st with ⟨_, e⟩ | h
    · exact absurd e hl
    · exact h
  have HC := hide hc
  have HS := hide hs
  have OD := hide od
  have HL := hide hl
  clear st hs hc od hl
  obtain ⟨n, hn⟩ : ∃ n, l.length = n := ⟨_, rfl⟩
  have HN' := hide hn
  rw [hn] at ST hll h22 ⊢
  clear hn
  go_enter Tryz.func69, Tryz.ntmps69
  go_wp2_with fail
  refine (nw_new w).mono ?_
  rintro e w1 ⟨gw, u1, rfl, n1⟩
  have N1 := hide n1
  clear n1
  go_wp2_with fail
  refine (nw_bits (unhide N1) 0 1 (by omega) (by omega) (by omega)).mono ?_
  rintro e w2 ⟨rfl, u2, n2⟩
  have n2' : Nw w.heap.size w w2 gw u2 0 1 := by simpa using n2
  have N2 := hide n2'
  have SH := hide (short46 gw u2 _ 0 1 l w2 n2'.wri (by omega) (fun b hb => by have := n2'.ft b hb; omega) ((unhide ST).keep n2'.bel) (unhide HS) (unhide HL) (by have := unhide HN'; omega) ((unhide OD).keep (Upd.ofBelow (S := fun _ => False) n2'.bel) (fun h => h)))
  clear n2 n2' N1
  go_wp2_with fail
  refine (unhide SH).mono ?_
  rintro e w3 ⟨g3, lo, u3, V3, K, rfl, t3, tr3, ft3, lo3, m3, k3, l3, c3, s3⟩
  rw [show 1 + 4 = 5 from rfl] at t3 tr3 c3 s3
  have T3 := hide t3
  have TR3 := hide tr3
  have FT3 := hide ft3
  have M3 := hide m3
  have K3 := hide k3
  have C3 := hide c3
  have S3 := hide s3
  have WR3 := hide t3.wri
  have F3 := hide (fun b (hb : Ft gw u3 b) => show w.heap.size ≤ b from by
    rcases t3.ft b hb with h | h
    · exact (unhide N2).ft b h
    · exact Nat.le_trans (unhide N2).bel.size h)
  have HC3 := hide (fun i (hi : i < l.length) => show w3.cell? ⟨g, i * 2, none⟩ = some (.int .i64 (pt l i).1) ∧ w3.cell? ⟨g, i * 2 + 1, none⟩ = some (.int .i64 (pt l i).2) from by
    have b3 : Below w.heap.size w w3 := (Tw.nw (unhide N2) t3).bel
    obtain ⟨a1, a2⟩ := unhide HC i hi
    exact ⟨(b3.cell (p := ⟨g, i * 2, none⟩) hg).trans a1, (b3.cell (p := ⟨g, i * 2 + 1, none⟩) hg).trans a2⟩)
  have hg3 : g < w3.heap.size := Nat.lt_of_lt_of_le hg (Tw.nw (unhide N2) t3).bel.size
  clear t3 tr3 ft3 m3 k3 c3 s3 SH HC
  go_wp2_with fail
  refine (count47 gw u3 V3 (5 + 3 * K) n w3 (unhide WR3) (by omega) h22 hll).mono ?_
  rintro e w4 ⟨kx, u4, rfl, t4, hk8, hkn⟩
  obtain ⟨V4, hV4⟩ : ∃ V4, V3 + 1 * 2 ^ (5 + 3 * K) + kx * 2 ^ (5 + 3 * K + 1) + (n - 2) * 2 ^ (5 + 3 * K + 1 + 3) = V4 := ⟨_, rfl⟩
  obtain ⟨N4, hN4⟩ : ∃ N4, 5 + 3 * K + 1 + 3 + (2 + 2 * kx) = N4 := ⟨_, rfl⟩
  rw [hV4, hN4] at t4
  have hN4' : N4 ≤ 90 := by omega
  have HD : Hid (Hd V3 V4 N4 K kx l true) := .inr (by rw [unhide HN']; exact ⟨rfl, hV4.symm, hN4.symm, hk8, hkn, h22⟩)
  clear hV4 hN4 hk8 hkn
  have BASE := hide (show Lp w3 gw u3 V3 (5 + 3 * K) V4 N4 (fun s => (cl V3 5 K s : Int)) l w4 0 from ⟨u4, V4, N4, t4, rfl, .nil _, by omega⟩)
  clear t4
  go_wp2
  go_loopw [26] (fun x wr => ∃ i : Nat, i ≤ n ∧ x = .int .i64 i ∧ Lp w3 gw u3 V3 (5 + 3 * K) V4 N4 (fun s => (cl V3 5 K s : Int)) l wr i) (fun x _ => n - (intOf x).toNat)
  case atStart => exact ⟨0, Nat.zero_le _, rfl, unhide BASE⟩
  case round =>
    clear BASE
    obtain ⟨i, hi, rfl, ⟨u5, V5, N5, t5, q1, q2, q3⟩⟩ := hrel
    by_cases hlt : i < n
    · have hlt' : (i : Int) < (n : Int) := by omega
      have hil : i < l.length := by rw [unhide HN']; exact hlt
      obtain ⟨a1, a2⟩ := unhide HC3 i hil
      have nfg : ¬ Ft gw u3 g := fun h => by have := unhide F3 g h; omega
      have d1 := (t5.turn.upd.cell (p := ⟨g, i * 2, none⟩) hg3 nfg).trans a1
      have d2 := (t5.turn.upd.cell (p := ⟨g, i * 2 + 1, none⟩) hg3 nfg).trans a2
      have hg5 : g < wr.heap.size := Nat.lt_of_lt_of_le hg3 t5.turn.upd.size
      obtain ⟨hs19, hx⟩ := unhide HS _ (mem_pt hil)
      have hcs := unhide S3 _ (mem_pt hil)
      have hcs' : (fun s => (cl V3 5 K s : Int)) (pt l i).1 ≠ 0 := by show (cl V3 5 K (pt l i).1 : Int) ≠ 0; omega
      have NXT := hide (fun w' u' t => Lp.next (w := w3) (gw := gw) (u := u3) (V0 := V3) (N0 := 5 + 3 * K) (w' := w') (u' := u') hil (unhide C3) hs19 hcs' hx t5.wri.lt q1 q2 q3 t)
      have hrng := (chk_zero (unhide C3)).1
      have hq1 := (qq_bd hrng hs19).2
      have WY := hide (fun (o : Obj) => write_yes lo w3.heap.size g3 19 (fun s => (cl V3 5 K s : Int)) hrng (pt l i).1 hs19 hcs' gw u5 V5 N5 (wr.alloc o) (((unhide TR3).keep t5.turn.upd (fun k h1 _ h => by have := unhide FT3 k h; omega)).keep ((Upd.refl (fun _ => False) wr).alloc o) (fun _ _ _ h => h)) (t5.wri.keep ((Upd.refl (fun _ => False) wr).alloc o) (fun _ _ h => h)) (by omega))
      have TA := hide (fun (o : Obj) => t5.below ((Below.refl _ wr).alloc (Nat.le_refl _) o))
      have NFX := hide (show ¬ Ft gw u5 wr.heap.size from fun h => by have := t5.wri.raw.lt _ h; omega)
      have hxw : (pt l i).2 ≤ 127 := by
        have : 2 ^ wid (pt l i).1 ≤ 2 ^ 7 := Nat.pow_le_pow_right (by omega) (wid_le _)
        omega
      have TM := hide (times49 (pt l i).1)
      have hw7 := wid_le (pt l i).1
      have HX := hide hx
      have hN5 : N5 ≤ 100000 := by omega
      clear t5 q1 q2 q3 a1 a2 hcs hcs' hx hrng
      generalize uu (fun s => (cl V3 5 K s : Int)) 19 (pt l i).1 = U at *
      generalize (qq (fun s => (cl V3 5 K s : Int)) 19 (pt l i).1) = Q at *
      generalize wid (pt l i).1 = wd at *
      generalize bas (pt l i).1 = bs at *
      generalize (pt l i).1 = s at *
      generalize (pt l i).2 = x at *
      have hx' : (x : Int) ≤ 127 := by omega
      go_wp2_with fail
      refine (unhide WY _).mono ?_
      rintro e w6 ⟨rfl, u6, wr6, tn6⟩
      have x0 := (tn6.upd.cell (p := ⟨wr.heap.size, 0, none⟩) (by simp) (unhide NFX)).trans (show _ = some (.int .i64 (s : Int)) by simp)
      have x1 := (tn6.upd.cell (p := ⟨wr.heap.size, 1, none⟩) (by simp) (unhide NFX)).trans (show _ = some (.int .i64 (x : Int)) by simp)
      have T6 := hide ((unhide TA _).put wr6 tn6 (by omega))
      clear wr6 tn6 WY TA d1 d2
      go_wp2_with fail
      refine (unhide TM w6).mono ?_
      rintro e w7 ⟨rfl, rfl⟩
      go_wp2_with fail
      refine (tw_bits (unhide T6) x wd (by omega) (unhide HX) (by omega)).mono ?_
      rintro e w8 ⟨rfl, u8, t8⟩
      have P8 := hide (unhide NXT w8 u8 t8)
      clear t8 T6 NXT x0 x1
      go_wp2
      go_roundw
      case rel => exact ⟨i + 1, by omega, by go_num, unhide P8⟩
      case measure => simp [intOf]; omega
    · obtain rfl : i = n := by omega
      have hnl : ¬ (i : Int) < (i : Int) := by omega
      have FIN := hide (show Nw w.heap.size w wr gw u5 V5 N5 ∧ Wrt V5 K N4 l N5 true ∧ N5 ≤ 100 + 22 * l.length from ⟨Tw.nw (Tw.nw (unhide N2) (unhide T3)) t5, wrt_of (k := kx) (unhide M3) (unhide K3) l3 (unhide C3) (unhide WR3).lt (unhide HD) q1 (by rw [List.take_of_length_le (by rw [unhide HN']; omega)] at q2; exact q2), by rw [unhide HN']; omega⟩)
      clear t5 q1 q2 q3
      go_wp2
      go_ret
      obtain ⟨f1, f2, f3⟩ := unhide FIN
      exact ⟨gw, u5, V5, N5, K, N4, rfl, f1, f2, f3⟩
end Go.Proofs.YtgjpcjnhggcfdaaGreatDoor.Wsj

namespace Go.Proofs.YtgjpcjnhggcfdaaGreatDoor.Wsk
open Go.ChangeShapes Go.WideShapes Go.ChangeAt Go.RowKit Go.Proofs.YtgjpcjnhggcfdaaGreatDoor.Core Go.Proofs.YtgjpcjnhggcfdaaGreatDoor.Gnd Go.Proofs.YtgjpcjnhggcfdaaGreatDoor.Math Go.Proofs.YtgjpcjnhggcfdaaGreatDoor.Dec Go.Proofs.YtgjpcjnhggcfdaaGreatDoor.Ord Go.Proofs.YtgjpcjnhggcfdaaGreatDoor.Lsp Go.Proofs.YtgjpcjnhggcfdaaGreatDoor.Foot Go.Proofs.YtgjpcjnhggcfdaaGreatDoor.Add Go.Proofs.YtgjpcjnhggcfdaaGreatDoor.Wri Go.Proofs.YtgjpcjnhggcfdaaGreatDoor.Wra Go.Proofs.YtgjpcjnhggcfdaaGreatDoor.Wse Go.Proofs.YtgjpcjnhggcfdaaGreatDoor.Wsf Go.Proofs.YtgjpcjnhggcfdaaGreatDoor.Wsg Go.Proofs.YtgjpcjnhggcfdaaGreatDoor.Rse Go.Proofs.YtgjpcjnhggcfdaaGreatDoor.Wsj

theorem norm_no {V K p n N : Nat} {l : List (Nat × Nat)} {F : Nat → Nat} (h : Wrt V K p l N false) (ht : told l 8 = pre F n) : Norm V 0 n K n p l N := by
  obtain ⟨h1, h2⟩ := h.no rfl
  have hl := told_len l 8
  rw [ht, pre_len] at hl
  exact ⟨h.bit, h.cnt, h.lim, h.chk, .inl ⟨h1, rfl, h2⟩, Nat.le_refl _, h.steps, hl, by rw [ht, pre_len]; exact Nat.le_refl _, .inl (by rw [ht, pre_len])⟩
theorem norm_yes {V K p n E N : Nat} {l : List (Nat × Nat)} {F : Nat → Nat} (h : Wrt V K p l N true) (ht : told l 8 = pre F E) (hE : E ≤ n) : Norm V 0 n K l.length p l N := by
  obtain ⟨h1, h2, h3⟩ := h.yes rfl
  have hl := told_len l 8
  rw [ht, pre_len] at hl
  exact ⟨h.bit, h.cnt, h.lim, h.chk, .inr ⟨h1, h2, h3⟩, by omega, h.steps, Nat.le_refl _, by rw [ht, pre_len]; exact hE, .inr rfl⟩
theorem kr_eight (c : Nat → Int) : ∀ n, (∀ k, k < n → c k = 0 ∨ c k = 8) → kr c n = 128 * many c n
  | 0, _ => rfl
  | n + 1, h => by
    have ih := kr_eight c n (fun k hk => h k (by omega))
    have e1 : many c (n + 1) = many c n + if c n = 0 then 0 else 1 := rfl
    rw [kr, ih, e1]
    rcases h n (by omega) with e | e
    · rw [e]; simp [pt2]
    · rw [e]; simp [pt2]; omega
theorem many_few (c : Nat → Int) (E : Nat) : ∀ n, (∀ k, E ≤ k → k < n → c k = 0) → many c n ≤ E
  | 0, _ => Nat.zero_le _
  | n + 1, h => by
    have e1 : many c (n + 1) = many c n + if c n = 0 then 0 else 1 := rfl
    by_cases hn : n < E
    · have := many_le c (n + 1)
      omega
    · have ih := many_few c E n (fun k h1 h2 => h k h1 (by omega))
      rw [e1, if_pos (h n (by omega) (by omega))]
      omega
theorem two_steps {F : Nat → Nat} {n E : Nat} {l : List (Nat × Nat)} (ht : told l 8 = pre F E) (hs : StepsOk l) (hE1 : 1 ≤ E) (hF : F (E - 1) ≠ 0) (hz : ∀ j, E ≤ j → j < n → F j = 0) (hch : chk (fun k => (F k : Int)) n = 0) (hno : ¬ (many (fun k => (F k : Int)) n = 1 ∧ F 0 ≠ 0)) : 2 ≤ l.length := by
  have hlen := congrArg List.length ht
  rw [pre_len] at hlen
  match l, ht, hs, hlen with
  | [], _, _, hlen => simp [told] at hlen; omega
  | _ :: _ :: _, _, _, _ => simp
  | [(s, x)], ht, hs, hlen =>
    exfalso
    obtain ⟨hs19, hx⟩ := hs (s, x) (by simp)
    simp only [told, List.append_nil, List.length_replicate] at ht hlen
    have hall : ∀ j, j < E → F j = vv s 8 := fun j hj => by
      have h1 := got_pre F E j hj
      rw [← ht] at h1
      rw [← h1]
      unfold got
      rw [List.getD_eq_getElem?_getD, List.getElem?_replicate, if_pos (by omega)]
      rfl
    have hv := hall (E - 1) (by omega)
    have hv0 := hall 0 (by omega)
    have hF0 : F 0 ≠ 0 := by omega
    have hm : many (fun k => (F k : Int)) n ≠ 1 := fun h => hno ⟨h, hF0⟩
    have hfew := many_few (fun k => (F k : Int)) E n (fun k h1 h2 => by show (F k : Int) = 0; rw [hz k h1 h2]; rfl)
    have hE6 : E ≤ 6 ∧ ∀ j, j < E → F j = 8 := by
      by_cases h1 : s < 16
      · have e1 : bas s = 1 := by unfold bas; rw [if_neg (by omega), if_neg (by omega), if_neg (by omega)]
        have e2 : wid s = 0 := by unfold wid; rw [if_neg (by omega), if_neg (by omega), if_neg (by omega)]
        exfalso
        rw [e2] at hx
        simp at hx
        have hE : E = 1 := by omega
        have hm1 : 0 < many (fun k => (F k : Int)) n := by
          obtain ⟨_, h2, _⟩ := chk_zero hch
          rcases h2 with h2 | h2
          · omega
          · rcases Nat.eq_zero_or_pos (many (fun k => (F k : Int)) n) with h3 | h3
            · have := (many_one_kr (fun k => (F k : Int)) n).1 h3; omega
            · exact h3
        omega
      · by_cases h2 : s = 16
        · subst h2
          rw [show wid 16 = 2 from rfl] at hx
          rw [show bas 16 = 3 from rfl] at hlen
          exact ⟨by omega, fun j hj => (hall j hj).trans rfl⟩
        · exfalso
          have : vv s 8 = 0 := by unfold vv; rw [if_neg h1, if_neg h2]
          omega
    have hk := kr_eight (fun k => (F k : Int)) n (fun k hk => by
      by_cases h : k < E
      · exact .inr (by show (F k : Int) = 8; rw [hE6.2 k h]; rfl)
      · exact .inl (by show (F k : Int) = 0; rw [hz k (by omega) hk]; rfl))
    obtain ⟨_, h2, _⟩ := chk_zero hch
    omega
/-- What normal answers. -/
structure Nrm (w : World) (n : Nat) (F : Nat → Nat) (e : Ending) (w' : World) : Prop where
  ex : ∃ gw u V N K most p l, e = .returned (.pointer (some ⟨gw, 0, none⟩)) ∧ Nw w.heap.size w w' gw u V N ∧ Norm V 0 n K most p l N ∧ (∀ j, j < n → got (told l 8) j = F j) ∧ N ≤ 100 + 22 * n
theorem told_ne {l : List (Nat × Nat)} {F : Nat → Nat} {n : Nat} (h : told l 8 = pre F n) (hn : 1 ≤ n) : l ≠ [] ∧ l.length ≤ n := by
  have h1 := told_len l 8
  have h2 := congrArg List.length h
  rw [pre_len] at h2
  refine ⟨fun e => ?_, by omega⟩
  subst e
  simp [told] at h2
  omega
theorem nw_move {H H' : Nat} {w w' wr : World} {gw : Nat} {u : Value} {V N : Nat} (h : Nw H' w' wr gw u V N) (b : Below H w w') (hH : H ≤ w.heap.size) (hH' : H ≤ H') : Nw H w wr gw u V N :=
  ⟨h.wri, fun c hc => by have := h.ft c hc; omega, b.trans (h.bel.mono hH'), hH⟩
set_option maxRecDepth 20000 in
set_option maxHeartbeats 2000000 in
theorem normal23 (v : Value) (n : Nat) (F : Nat → Nat) (hn1 : 1 ≤ n) (hn : n ≤ 4096) (w : World) (src : Rw w v n F) (hch : chk (fun k => (F k : Int)) n = 0) (hno : ¬ (many (fun k => (F k : Int)) n = 1 ∧ F 0 ≠ 0)) (od : Ordr w) :
    Calls Tryz.prog 46 #[v] w fun e w' => Nrm w n F e w' := by
  have SRC := hide src
  obtain ⟨b, off, cap, rfl, hcap, hb, hcells⟩ := src
  have HC := hide hcells
  obtain ⟨k0, hk0, hk1⟩ := Rsf.chk_some hch
  have hk1' : F k0 ≠ 0 := by intro h; exact hk1 (by show (F k0 : Int) = 0; rw [h]; rfl)
  have H15 : Hid (∀ k, k < n → F k ≤ 15) := fun k hk => by
    have := ((chk_zero hch).1 k hk).2
    have h2 : (F k : Int) ≤ 15 := this
    omega
  have CH := hide hch
  have NO := hide hno
  have OD := hide od
  have K1 := hide hk1'
  clear hcells hk1 hk1' hch hno od
  go_enter Tryz.func46, Tryz.ntmps46
  go_wp2
  go_loopw [3] (fun x wr => ∃ E : Nat, x = .int .i64 E ∧ k0 < E ∧ E ≤ n ∧ wr = w ∧ ∀ j, E ≤ j → j < n → F j = 0) (fun x _ => (intOf x).toNat)
  case atStart => exact ⟨n, rfl, hk0, Nat.le_refl _, rfl, fun j h1 h2 => by omega⟩
  case round =>
    obtain ⟨E, rfl, hE0, hEn, hw, hz⟩ := hrel
    obtain rfl : w = wr := hw.symm
    have HZ := hide hz
    obtain ⟨E1, hE1⟩ : ∃ E1, E - 1 = E1 := ⟨_, rfl⟩
    have eE1 : (E : Int) - 1 = (E1 : Int) := by omega
    have hE1n : (E1 : Int) < (n : Int) := by omega
    have d1 := unhide HC E1 (by omega)
    clear hz hw
    by_cases h0 : F E1 = 0
    · have h0' : (((F E1 : Nat) : Int) == 0) = true := by simp [h0]
      have hne : k0 ≠ E1 := fun e => unhide K1 (by rw [e]; exact h0)
      have H0 := hide h0
      have HE1 := hide hE1
      clear h0 hE1
      go_wp2
      go_roundw
      case rel => exact ⟨E1, by first | rfl | go_num, by have := unhide HE1; omega, by have := unhide HE1; omega, by first | rfl | trivial, fun j h1 h2 => by
        by_cases e : j = E1
        · rw [e]; exact unhide H0
        · exact unhide HZ j (by have := unhide HE1; omega) h2⟩
      case measure => have := unhide HE1; simp [intOf]; omega
    · have h0' : (((F E1 : Nat) : Int) == 0) = false := by simp [h0]
      have S1 := hide (steps38 _ n F (by omega) (unhide H15) w (unhide SRC))
      go_wp2_with fail
      refine (unhide S1).mono ?_
      rintro e w1 ⟨v1, l1, rfl, st1, ok1, td1, b1⟩
      have ne1 := told_ne td1 hn1
      have TD1 := hide td1
      have B1 := hide b1
      have O1 := hide ((unhide OD).below b1)
      have R1 := hide ((unhide SRC).keep b1)
      have W1 := hide (written_no v1 l1 w1 st1 ok1 ne1.1 (by omega) (unhide O1))
      clear st1 ok1 td1 b1 S1
      go_wp2_with fail
      refine (unhide W1).mono ?_
      rintro e w2 ⟨g2, u2, V2, N2, K2, p2, rfl, nw2, wt2, nl2⟩
      have R2 := hide ((unhide R1).keep nw2.bel)
      have O2 := hide ((unhide O1).keep (Upd.ofBelow (S := fun _ => False) nw2.bel) (fun h => h))
      have NM2 := hide (norm_no wt2 (unhide TD1))
      have NW2 := hide (nw_move nw2 (unhide B1) (Nat.le_refl _) (unhide B1).size)
      have GT2 := hide (fun j (hj : j < n) => show got (told l1 8) j = F j from by rw [unhide TD1]; exact got_pre F n j hj)
      have R3 := hide (show Rw w2 (.slice (some ⟨b, off, none⟩) E cap) E F from by
        obtain ⟨b', off', cap', e, h1, h2, h3⟩ := unhide R2
        cases e
        exact ⟨b, off, cap, rfl, by omega, h2, fun i hi => h3 i (by omega)⟩)
      have S2 := hide (steps38 _ E F (by omega) (fun k hk => unhide H15 k (by omega)) w2 (unhide R3))
      have hEc : (E : Int) ≤ (cap : Int) := by omega
      clear nw2 wt2 W1 R1 O1 TD1
      go_wp2_with fail
      refine (unhide S2).mono ?_
      rintro e w3 ⟨v3, l3, rfl, st3, ok3, td3, b3⟩
      have ne3 := told_ne td3 (by omega)
      have tw3 := two_steps td3 ok3 (by omega) (by rw [hE1]; exact h0) (unhide HZ) (unhide CH) (unhide NO)
      have NW3 := hide ((unhide NW2).keep b3)
      have W3 := hide (written_yes v3 l3 w3 st3 ok3 ne3.1 (by omega) tw3 ((unhide O2).below b3))
      have TD3 := hide td3
      have B3 := hide b3
      clear st3 ok3 td3 b3 S2 tw3 NW2
      go_wp2_with fail
      refine (unhide W3).mono ?_
      rintro e w4 ⟨g4, u4, V4, N4, K4, p4, rfl, nw4, wt4, nl4⟩
      have NW2 := hide ((unhide NW3).keep nw4.bel)
      have NM4 := hide (norm_yes wt4 (unhide TD3) hEn)
      have NW4 := hide (nw_move nw4 (unhide NW3).bel (Nat.le_refl _) (unhide NW3).bel.size)
      have GT4 := hide (fun j (hj : j < n) => show got (told l3 8) j = F j from by
        rw [unhide TD3]
        by_cases hjE : j < E
        · exact got_pre F E j hjE
        · rw [got_past _ _ (by rw [pre_len]; omega), unhide HZ j (by omega) hj])
      have hN2 : N2 ≤ 100 + 22 * n := by omega
      have hN4 : N4 ≤ 100 + 22 * n := by omega
      clear nw4 wt4 W3 NW3 TD3 nl2 nl4
      go_wp2_with fail
      refine (len_at g4 u4 V4 N4 w4 (unhide NW4).wri (by omega)).mono ?_
      rintro e w5 ⟨rfl, q5, hq5⟩
      have NW5 := hide (show Nw w.heap.size w w5 g4 u4 V4 N4 from by rw [hq5]; exact (unhide NW4).drewN q5)
      have NX5 := hide (show Nw w.heap.size w w5 g2 u2 V2 N2 from by rw [hq5]; exact (unhide NW2).drewN q5)
      clear hq5 NW4 NW2
      go_wp2_with fail
      refine (len_at g2 u2 V2 N2 w5 (unhide NX5).wri (by omega)).mono ?_
      rintro e w6 ⟨rfl, q6, hq6⟩
      have NW6 := hide (show Nw w.heap.size w w6 g4 u4 V4 N4 from by rw [hq6]; exact (unhide NW5).drewN q6)
      have NX6 := hide (show Nw w.heap.size w w6 g2 u2 V2 N2 from by rw [hq6]; exact (unhide NX5).drewN q6)
      clear hq6 NW5 NX5
      by_cases hcmp : N4 < N2
      · have hc1 : decide (N4 < N2) = true := decide_eq_true hcmp
        have hc2 : decide ((N4 : Int) < (N2 : Int)) = true := decide_eq_true (by omega)
        go_wp2
        go_ret
        exact ⟨g4, u4, V4, N4, K4, _, p4, l3, rfl, unhide NW6, unhide NM4, unhide GT4, hN4⟩
      · have hc1 : decide (N4 < N2) = false := decide_eq_false hcmp
        have hc2 : decide ((N4 : Int) < (N2 : Int)) = false := decide_eq_false (by omega)
        go_wp2
        go_ret
        exact ⟨g2, u2, V2, N2, K2, _, p2, l1, rfl, unhide NX6, unhide NM2, unhide GT2, hN2⟩
end Go.Proofs.YtgjpcjnhggcfdaaGreatDoor.Wsk
