/- Contracts: table.rising and Colors. Conditions: the pixels are at most 60000. -/
import Derived.Test.YtflmlbdcjjldgaaTSet
import Derived.Test.YtflmlbdcjjldgaaQPdq
import Derived.Maps.AppendAt
import Derived.Sort.OwnSorted
namespace Go.Proofs.Ytflmlbdcjjldgaa.TCol
set_option linter.unusedVariables false
open Go.ChangeShapes Go.WideShapes Go.ChangeAt Go.RowKit Go.Maps Go.Sort Go.Proofs.Ytflmlbdcjjldgaa.Core Go.Proofs.Ytflmlbdcjjldgaa.PNum Go.Proofs.Ytflmlbdcjjldgaa.PGoo Go.Proofs.Ytflmlbdcjjldgaa.Ims Go.Proofs.Ytflmlbdcjjldgaa.QNum Go.Proofs.Ytflmlbdcjjldgaa.QPdq Go.Proofs.Ytflmlbdcjjldgaa.TMap Go.Proofs.Ytflmlbdcjjldgaa.TSet

theorem zero47 (w : World) : (zeroValue 47).run Try.prog w = .ok (.agg #[]) w := by kernel_rfl
def vs (ss : List Nat) : List Value := ss.map fun (x : Nat) => Value.int .u32 (x : Int)
theorem vs_at {ss : List Nat} {j : Nat} (h : j < ss.length) : (vs ss)[j]? = some (.int .u32 (ss.getD j 0 : Nat)) := by
  simp [vs, h]
/-- A row of one's own that holds ss. -/
theorem own_row {w : World} {base : Nat} {v : Value} {ss : List Nat} (h : w.ownsRow base 31 1 v ss.length (vs ss)) (h0 : 0 < ss.length) : ∃ g cap, v = .slice (some ⟨g, 0, none⟩) ss.length cap ∧ base ≤ g ∧ Row w g 0 ss.toArray w := by
  have hl := h.lt
  rcases h.2 with ⟨_, hz⟩ | ⟨g, cap, cur, rfl, _, _, h3, _⟩
  · omega
  · refine ⟨g, cap, rfl, (hl g rfl).1, fun t ht => ?_, fun t ht => by rw [Nat.zero_add]; exact h.frozenAt t, (hl g rfl).2, Upd.refl _ _⟩
    have ht' : t < ss.length := by simpa using ht
    rw [Nat.zero_add, h.cellAt t (by omega), vs_at ht']
    simp [ht', getElem!_pos]
set_option maxRecDepth 100000 in
set_option maxHeartbeats 1600000 in
theorem rising23 {b n : Nat} {L : List Nat} {D : DataW Unit} {w : World} (hown : w.ownsMap Try.prog 31 (unitElem (H := Unit)) b n D) (S : St L D) (hL : L.Pairwise (· < ·)) (h0 : 0 < L.length) (hl : L.length ≤ 60000) :
    Calls Try.prog 23 #[.map (some b)] w fun e w' => ∃ g cap, e = .returned (.slice (some ⟨g, 0, none⟩) L.length cap) ∧ Pow w' g L.length (fun j => L.getD j 0) ∧ w.heap.size ≤ g ∧ Below w.heap.size w w' := by
  obtain ⟨i0, hi, hz0, hz1, hz2⟩ := info_parts info22
  have hbl := hown.lt
  have SS := hide S
  have HLL := hide hL
  have hsz := S.size
  clear S hL
  go_enter Try.func23, Try.ntmps23
  go_wp2_with (first
    | (at_len; refine wpList_len_own _ rfl _ 46 rfl 31 47 Try.underlying46 _ b n _ rfl hown ?_)
    | (at_make; refine wpList_make_own _ rfl _ _ 22 rfl w.heap.size 31 i0 (.int .u32 0) 1 Try.underlying22 hi hz0 hz1 _ _ _ (Maps.size D) rfl rfl rfl (by rw [hz2]; omega) (by unfold maxLen; omega) (Nat.le_refl _) ?_; intro w1 hrow1 hg1)
    | (at_range; refine wpList_range_own _ rfl _ 46 rfl 31 47 law31 Try.underlying46 _ b n _ rfl (hown.kept hg1 (by simp)) ?_; intro w0 hrg0 hg0 hs0)
    | go_in)
  go_frame
  rw [hsz] at hrow1
  go_loopw [3] (fun v wr => ∃ (left : Lit → Bool) (cnt : Nat) (ss : List Nat), wr.ranges Try.prog 31 (unitElem (H := Unit)) b w1.heap.size n D left cnt ∧ ss.length + cnt ≤ Maps.size D ∧
      wr.ownsRow w.heap.size 31 1 v ss.length (vs ss) ∧ Met2 L left ss ∧ Below w.heap.size w wr)
    (fun _ wr => wr.rangeLeft b w1.heap.size)
  case atStart =>
    exact ⟨_, _, [], hrg0, by simp, hrow1.kept hg0 (Or.inr (by simp [Value.ownBlock])), Met2.start (unhide SS),
      ((Below.refl _ _).grown hg1 (Nat.le_refl _) (fun j hj => by cases hj)).grown hg0 hg1.size (fun j hj => by cases hj)⟩
  case round =>
    obtain ⟨left, cnt, ss, hrg, hcs, hrow, hC, hnx⟩ := hrel
    have HC := hide hC
    have HNX := hide hnx
    clear hC
    go_wp2_with (first
      | (at_next; refine wpList_next_ranges _ rfl _ rfl 31 law31 (unitElem (H := Unit)) (Value.int .u32) (fun (_ : Unit) => Value.agg #[]) (fun key kl hk => by obtain ⟨x, hx, _⟩ := Maps.keyOf_int_inv Try.underlying31 hk; exact ⟨x, hx⟩) (fun v y hv => ⟨(), (unitElem_inv hv).1⟩) b w1.heap.size n _ _ _ rfl hrg ?_ ?_)
      | go_in)
    · intro hc0 hl0
      have hp := (unhide HC).perm (unhide HLL) hl0
      have e1 : ss.length = L.length := hp.length_eq
      obtain ⟨g, cap, rfl, hbase, RW⟩ := own_row hrow (by omega)
      have K := hide (sort39 cap RW (by simp) (by omega : ss.length ≤ 60000))
      have HP := hide hp
      have HB := hide hbase
      have E1 := hide e1
      clear hp RW hrow hrg hnx hbase e1 hcs
      go_wp2_with fail
      refine (unhide K).mono ?_
      rintro e w' ⟨rfl, d', sd, pd, sr, Rw⟩
      have PD := hide (And.intro sd (And.intro pd (And.intro sr Rw)))
      clear sd pd sr Rw K
      go_wp2
      obtain ⟨sd, pd, sr, Rw⟩ := unhide PD
      have e1 := unhide E1
      go_ret
      have hd : d'.toList = L := by
        refine up_eq (unhide HLL) ?_ (by rw [sd]; exact sr)
        have := pd.2.2
        rw [Array.extract_eq_self_of_le (by omega), Array.extract_eq_self_of_le (by simp)] at this
        exact this.trans (unhide HP)
      refine ⟨g, cap, by first | rfl | (rw [e1]; rfl), fun i hi => ?_, unhide HB, (unhide HNX).trans ⟨Rw.upd.os, Rw.upd.tape, Rw.upd.output, Rw.upd.size, fun k hk => Rw.upd.block k (by have := (unhide HNX).size; omega) (by have := unhide HB; omega)⟩⟩
      have c0 := Rw.cell i (by omega)
      have f0 := Rw.free i (by omega)
      rw [Nat.zero_add] at c0 f0
      refine ⟨?_, f0⟩
      rw [c0, ← hd]
      have : i < d'.size := by omega
      simp [this, getElem!_pos]
    · intro x kl yd yp w2 cnt2 hkey hlk hv hat hrg2 hlt hg2 hs2 hen
      obtain ⟨x', ex, rfl, hwf⟩ := Maps.keyOf_int_inv Try.underlying31 hkey
      cases ex
      obtain ⟨X, rfl⟩ := Int.eq_ofNat_of_zero_le (bounds_u32 hwf).1
      have hin : X ∈ L := by
        have h1 := has_true_of_atKey hat
        rw [(unhide SS).has] at h1
        exact of_decide_eq_true h1
      have hrow2 := hrow.kept hg2 (Or.inr (row_ne_iter hrow hrg).symm)
      clear hs2
      go_wp2_with (first
        | (at_builtin; refine wpList_append_own _ rfl _ _ 22 rfl w.heap.size 31 i0 (.int .u32 0) 1 4 Try.underlying22 hi hz0 hz1 hz2 rfl (by decide) _ _ _ rfl (hrow2.alloc _) ⟨w2.heap.size, 0, none⟩ 1 1 [.int .u32 (X : Int)] rfl rfl (cell_one_new _ _ _) (ints_oneCell .u32 [(X : Int)]) (by unfold maxLen; omega) (by omega) (by have := hnx.size; have := hg2.size; simp; omega) ?_; intro v' w3 hown' hg3 hnil3; go_frame)
        | go_in)
      have hrg3 := (hrg2.alloc _).kept hg3 (row_ne_low hrow2 hbl) (row_ne_iter hrow2 hrg2)
      go_roundw
      case rel =>
        refine ⟨_, cnt2, ss ++ [X], hrg3, by simp; omega, by simpa [vs] using hown', (unhide HC).step hin hlk, ?_⟩
        exact ((hnx.grown hg2 hnx.size (fun j hj => by cases hj; exact hg1.size)).alloc (by have := hnx.size; have := hg2.size; omega) _).grown hg3 (by have := hnx.size; have := hg2.size; simp; omega) (fun j hj => (hrow2.lt j hj).1)
      case measure => rw [hrg3.left_eq, hrg.left_eq]; exact hlt
/-- What Colors answers. -/
def ColV (w : World) (n : Nat) (z : Nat → Nat) (e : Ending) (w' : World) : Prop :=
  if (ds z n).length ≤ 256 then ∃ g cap, e = .returned (.tuple #[.slice (some ⟨g, 0, none⟩) (ds z n).length cap, .bool true]) ∧ Pow w' g (ds z n).length (fun j => (ds z n).getD j 0) ∧ w.heap.size ≤ g ∧ Below w.heap.size w w'
  else e = .returned (.tuple #[.slice none 0 0, .bool false]) ∧ Below w.heap.size w w'
theorem colors9_no {W H : Int} (a : Option Addr) (n c : Nat) (w : World) (hg : gdV W H n = false) :
    Calls Try.prog 9 #[.agg #[.int .i64 W, .int .i64 H, .slice a n c]] w fun e w' => e = .returned (.tuple #[.slice none 0 0, .bool false]) ∧ Below w.heap.size w w' := by
  have G := hide (fun w1 => good24 W H a n c w1)
  rw [hg] at G
  have BL := hide (bel_a1 w (.cells #[.int .i64 W, .int .i64 H, .slice a n c] 24))
  go_enter Try.func9, Try.ntmps9
  go_wp2_with fail
  refine (unhide G _).mono ?_
  rintro e w' ⟨rfl, b1⟩
  have B1 := hide (below_two (unhide BL) b1)
  clear b1
  go_wp2
  go_ret2
  exact ⟨rfl, unhide B1⟩
set_option maxHeartbeats 1600000 in
theorem colors9 {W H b off n : Nat} {z : Nat → Nat} (c : Nat) {w : World} (I : Img w W H b off n z) (hz : ∀ i, i < n → z i < 4294967296) (h1 : 1 ≤ W) (h2 : 1 ≤ H) (hn : n ≤ 60000) :
    Calls Try.prog 9 #[.agg #[.int .i64 W, .int .i64 H, .slice (some ⟨b, off, none⟩) n c]] w fun e w' => ColV w n z e w' := by
  have n0 : 0 < n := by rw [I.hn]; exact Nat.mul_pos h1 h2
  have G := hide (fun w1 => good24 (W : Int) (H : Int) (some ⟨b, off, none⟩) n c w1)
  rw [gd_mk h1 I.hW h2 I.hH I.hn] at G
  have hmm := @run_makeMap Try.prog
  have BX := hide (Box.made w 24 #[.int .i64 W, .int .i64 H, .slice (some ⟨b, off, none⟩) n c])
  have BL := hide (bel_a1 w (.cells #[.int .i64 W, .int .i64 H, .slice (some ⟨b, off, none⟩) n c] 24))
  have PX := hide I.px
  have HZ := hide hz
  clear I hz h1 h2
  go_enter Try.func9, Try.ntmps9
  go_wp2_with fail
  refine (unhide G _).mono ?_
  rintro e w1 ⟨rfl, b1⟩
  have B1 := hide (below_two (unhide BL) b1)
  obtain ⟨c0, c1, c2⟩ := keep_image (unhide BX) b1
  have hs1 : w.heap.size + 1 ≤ w1.heap.size := by have := b1.size; simpa using this
  clear b1 c0 c1
  have c3 : (w1.alloc (.map #[] 0)).cell? ⟨w.heap.size, 2, none⟩ = some (.slice (some ⟨b, off, none⟩) n c) := (World.cell?_of_block (w := w1) (a := ⟨w.heap.size, 2, none⟩) (Below.heap_alloc _ _ _ (by show w.heap.size < _; omega))).trans c2
  go_wp2
  go_loopw [14] (fun v wr => ∃ (k : Nat) (D : DataW Unit), v = .int .i64 k ∧ k ≤ n ∧ wr.ownsMap Try.prog 31 (unitElem (H := Unit)) w1.heap.size k D ∧ St (ds z k) D ∧ (ds z k).length ≤ 256 ∧ Below w.heap.size w wr) (fun v _ => n - (intOf v).toNat)
  case atStart => exact ⟨0, .map [], rfl, Nat.zero_le _, World.ownsMap_made _ _ _ _, St.start, by simp [ds], (unhide B1).alloc (unhide B1).size _⟩
  case round =>
    obtain ⟨k, D, rfl, hk, hown, hst, hds, hb⟩ := hrel
    have HB := hide hb
    have HS := hide hst
    clear hst
    by_cases hlt : k < n
    · have hlt' : (k : Int) < (n : Int) := by omega
      have p1 : wr.cell? ⟨b, off + k, none⟩ = some (.int .u32 (z k)) := (unhide PX).below hb k hlt
      have hkey : keyOf Try.prog 31 (.int .u32 (z k : Nat)) = some (.int .u32 (z k : Nat)) := keyOf_int_mk Try.underlying31 (wf32 (unhide HZ k hlt))
      have HT := hide (unhide HS).step
      have hsz : Maps.size (D.put (.int .u32 (z k : Int)) (.agg [])) = (ds z (k + 1)).length := (unhide HT).size
      have HZZ := hide hsz
      have hgs := hb.size
      clear hb hsz
      have hs2 : w.heap.size ≤ w1.heap.size := by omega
      by_cases h256 : (ds z (k + 1)).length ≤ 256
      · have h256' : ¬ (256 : Int) < ((ds z (k + 1)).length : Int) := by omega
        go_wp2_with (first
          | (at_mapUpdate; refine wpList_mapUpdate_own _ rfl _ _ _ 46 rfl 31 47 law31 Try.underlying46 (unitElem (H := Unit)) w1.heap.size k _ rfl hown (by unfold maxLen; omega) _ _ _ rfl rfl hkey _ [] unitElem_mk ?_; intro w2 hown2 hgrow2)
          | (at_len; refine wpList_len_own _ rfl _ 46 rfl 31 47 Try.underlying46 _ w1.heap.size (k + 1) _ rfl hown2 ?_; rw [unhide HZZ])
          | go_in)
        go_roundw
        case rel => exact ⟨k + 1, _, by go_num, by omega, hown2, unhide HT, h256, (unhide HB).grown hgrow2 hgs (fun j hj => by cases hj; exact hs2)⟩
        case measure => simp [intOf]; omega
      · have h256' : (256 : Int) < ((ds z (k + 1)).length : Int) := by omega
        go_wp2_with (first
          | (at_mapUpdate; refine wpList_mapUpdate_own _ rfl _ _ _ 46 rfl 31 47 law31 Try.underlying46 (unitElem (H := Unit)) w1.heap.size k _ rfl hown (by unfold maxLen; omega) _ _ _ rfl rfl hkey _ [] unitElem_mk ?_; intro w2 hown2 hgrow2)
          | (at_len; refine wpList_len_own _ rfl _ 46 rfl 31 47 Try.underlying46 _ w1.heap.size (k + 1) _ rfl hown2 ?_; rw [unhide HZZ])
          | go_in)
        go_ret2
        have := ds_mono z (show k + 1 ≤ n from hlt)
        unfold ColV
        rw [if_neg (by omega)]
        exact ⟨rfl, (unhide HB).grown hgrow2 hgs (fun j hj => by cases hj; exact hs2)⟩
    · obtain rfl : k = n := by omega
      have hne : 0 < (ds z k).length := by
        obtain ⟨m, rfl⟩ : ∃ m, k = m + 1 := ⟨k - 1, by omega⟩
        rw [ds_len]
        split
        · rename_i h; exact List.length_pos_of_mem h
        · omega
      have K := hide (rising23 hown (unhide HS) (ds_up z k) hne (by omega))
      clear hown hb
      go_wp2_with fail
      refine (unhide K).mono ?_
      rintro e w2 ⟨g, cap, rfl, hp, hg, b2⟩
      have HP := hide hp
      have HG := hide (Nat.le_trans (unhide HB).size hg)
      have H2 := hide (below_two (unhide HB) b2)
      clear hp hg b2 K
      go_wp2
      go_ret2
      unfold ColV
      rw [if_pos hds]
      exact ⟨g, cap, rfl, unhide HP, unhide HG, unhide H2⟩
end Go.Proofs.Ytflmlbdcjjldgaa.TCol
