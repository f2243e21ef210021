/- Contract: the document's own codes (ref.Codes). Conditions: the slice reads as lengths from 0 to 15 whose sum is not beyond 1. -/
import Derived.Test.YtlejicikgmanfaaSpl
namespace Go.Proofs.Ytlejicikgmanfaa.Rcd
open Go.ChangeShapes Go.WideShapes Go.ChangeAt Go.RowKit Go.Proofs.Ytlejicikgmanfaa.Core Go.Proofs.Ytlejicikgmanfaa.Gnd Go.Proofs.Ytlejicikgmanfaa.Math Go.Proofs.Ytlejicikgmanfaa.Each Go.Proofs.Ytlejicikgmanfaa.One Go.Proofs.Ytlejicikgmanfaa.Chk Go.Proofs.Ytlejicikgmanfaa.Fst Go.Proofs.Ytlejicikgmanfaa.Cod Go.Proofs.Ytlejicikgmanfaa.Cnt

/-- What lies in the row behind the lengths up to q, and of length q + 1 the first i symbols. -/
def at13 (c : Nat → Int) (len q i k : Nat) : Nat := if c k ≤ (q : Int) ∨ (c k = (q : Int) + 1 ∧ k < i) then cod c len k else 0
def Row13 (w : World) (c : Nat → Int) (len q i : Nat) (wr : World) : Prop := Box wr w.heap.size 56 (row (at13 c len q i) len) ∧ Below w.heap.size w wr
theorem Row13.congr {w wr : World} {c : Nat → Int} {len q i q' i' : Nat} (h : Row13 w c len q i wr) (e : ∀ k, k < len → at13 c len q i k = at13 c len q' i' k) : Row13 w c len q' i' wr := by
  unfold Row13
  rw [← row_congr e]
  exact h
theorem Row13.put {w wr : World} {c : Nat → Int} {len q i : Nat} (h : Row13 w c len q i wr) (hi : i < len) (hc : c i = (q : Int) + 1) :
    Row13 w c len q (i + 1) (wr.setCell ⟨w.heap.size, i, none⟩ (.int .u32 ((fst c len (q + 1) + cnt c (q + 1) i : Nat) : Int))) := by
  obtain ⟨h1, h2⟩ := h
  refine ⟨?_, h2.setCell (p := ⟨w.heap.size, i, none⟩) (Nat.le_refl _) _⟩
  have h3 := h1.set i (.int .u32 ((fst c len (q + 1) + cnt c (q + 1) i : Nat) : Int))
  rw [row_set] at h3
  rw [row_congr (g := fun j => if j = i then fst c len (q + 1) + cnt c (q + 1) i else at13 c len q i j) (fun k _ => ?_)]
  · exact h3
  · by_cases e : k = i
    · subst e
      rw [if_pos rfl]
      unfold at13
      rw [if_pos (Or.inr ⟨hc, by omega⟩), cod_of (q + 1) (by rw [hc]; omega) (by omega)]
    · rw [if_neg e]
      unfold at13
      by_cases h4 : c k ≤ (q : Int) ∨ (c k = (q : Int) + 1 ∧ k < i)
      · rw [if_pos h4, if_pos (by omega)]
      · rw [if_neg h4, if_neg (by omega)]
theorem cnt_here {c : Nat → Int} {m i : Nat} (h : c i = (m : Int)) (h0 : m ≠ 0) : cnt c m (i + 1) = cnt c m i + 1 := by
  show cnt c m i + (if c i = (m : Int) ∧ m ≠ 0 then 1 else 0) = _
  rw [if_pos ⟨h, h0⟩]
theorem cnt_not {c : Nat → Int} {m i : Nat} (h : c i ≠ (m : Int)) : cnt c m (i + 1) = cnt c m i := by
  show cnt c m i + (if c i = (m : Int) ∧ m ≠ 0 then 1 else 0) = _
  rw [if_neg (fun h2 => h h2.1), Nat.add_zero]
set_option maxHeartbeats 2000000 in
theorem rcodes13 (v : Value) (len : Nat) (c : Nat → Int) (hl : len ≤ 100000) (hg : Rng c len) (hk : kr c len ≤ 32768) (w : World) (src : Ints .i64 w v len c) :
    Calls Try.prog 10 #[v] w fun e w' => ∃ v', e = .returned v' ∧ Ints .u32 w' v' len (fun k => (cod c len k : Int)) ∧ Below w.heap.size w w' := by
  obtain ⟨a, cap, rfl, hs⟩ := src
  have SRC := hide hs
  have HG := hide hg
  have HK := hide hk
  have hmk := fun w => make_row w len (by omega)
  clear hs hg hk
  go_enter Try.func10, Try.ntmps10
  go_wp2
  go_loopw [4, 5, 6] (fun x f n wr => ∃ (q : Nat) (b : Bool), q ≤ 15 ∧ n = .int .i64 (q + 1) ∧ x = .int .u32 ((fst c len q + cnt c q len : Nat) : Int) ∧ f = .bool b ∧ (b = true → fst c len q + cnt c q len = 0) ∧ Row13 w c len q 0 wr) (fun _ _ n _ => 16 - (intOf n).toNat)
  case atStart =>
    refine ⟨0, true, by omega, rfl, ?_, rfl, fun _ => ?_, ?_⟩
    · rw [cnt_zero]
      rfl
    · rw [cnt_zero]
      rfl
    · refine ⟨?_, (Below.refl _ w).alloc (Nat.le_refl _) _⟩
      rw [row_congr (f := at13 c len 0 0) (g := fun _ => 0) (fun k hk => ?_)]
      · exact Box.made w 56 _
      · unfold at13
        by_cases h : c k ≤ ((0 : Nat) : Int) ∨ (c k = ((0 : Nat) : Int) + 1 ∧ k < 0)
        · rw [if_pos h]
          unfold cod
          rw [if_pos (by have := unhide HG k hk; omega)]
        · rw [if_neg h]
  case round =>
    obtain ⟨q, b, hq, rfl, rfl, rfl, hb, h1⟩ := hrel
    have R1 := hide h1
    clear h1
    by_cases hlt : q < 15
    · have t0 := top_cap (unhide HG) (unhide HK) q (by omega)
      have FS : Hid (fst c len (q + 1) = (fst c len q + cnt c q len) * 2) := rfl
      have HB := hide hb
      clear hb
      generalize hx : fst c len q + cnt c q len = x at *
      clear hx
      go_wp2
      go_loopw [4, 5, 7] (fun y f i wi => ∃ (k : Nat) (b : Bool), k ≤ len ∧ i = .int .i64 k ∧ y = .int .u32 ((fst c len (q + 1) + cnt c (q + 1) k : Nat) : Int) ∧ f = .bool b ∧ (b = true → fst c len (q + 1) + cnt c (q + 1) k = 0) ∧ Row13 w c len q k wi) (fun _ _ i _ => len - (intOf i).toNat)
      case atStart =>
        refine ⟨0, b, Nat.zero_le _, rfl, ?_, rfl, fun h => ?_, unhide R1⟩
        · rw [unhide FS]
          simp [cnt]
        · rw [unhide FS, unhide HB h]
          rfl
      case round =>
        obtain ⟨k, b', hk, rfl, rfl, rfl, hb, h1⟩ := hrel
        have R2 := hide h1
        by_cases hkl : k < len
        · have hkl' : (k : Int) < (len : Int) := by omega
          have t1 := top_cap (unhide HG) (unhide HK) (q + 1) (by omega)
          have t2 := cnt_mono c (q + 1) hk
          obtain ⟨bb, off, rfl, hc0⟩ := unhide SRC k hkl
          have hcell := (h1.2.cell (p := ⟨bb, off + k, none⟩) (lt_of_cell hc0)).trans hc0
          have hout : wr.cell? ⟨w.heap.size, k, none⟩ = some (.int .u32 (at13 c len q k k)) := (h1.1.cell k).trans (row_at _ _ _ hkl)
          have hfr := h1.1.free k
          clear hc0 h1 R1
          by_cases hc : c k = (q : Int) + 1
          · have CN := hide (cnt_here (c := c) (m := q + 1) (i := k) (by rw [hc]; omega) (by omega))
            have PUT := hide ((unhide R2).put hkl hc)
            rw [hc] at hcell
            have HB2 := hide hb
            clear hc hb R2
            cases b' with
            | true =>
              have z := unhide HB2 rfl
              have Z := hide z
              rw [z]
              clear z
              go_wp2
              go_roundw
              case rel =>
                refine ⟨k + 1, false, by omega, by go_num, ?_, rfl, (fun h => by cases h), ?_⟩
                · rw [unhide CN, ← Nat.add_assoc, unhide Z] <;> rfl
                · have := unhide PUT
                  rw [unhide Z] at this
                  exact this
              case measure => simp [intOf]; omega
            | false =>
              have ty : fst c len (q + 1) + cnt c (q + 1) k ≤ 32768 := by omega
              generalize hy : fst c len (q + 1) + cnt c (q + 1) k = y at *
              have HY := hide hy
              clear hy
              go_wp2
              go_roundw
              case rel =>
                refine ⟨k + 1, false, by omega, by go_num, ?_, rfl, (fun h => by cases h), unhide PUT⟩
                rw [unhide CN, ← Nat.add_assoc, unhide HY]
                go_num
              case measure => simp [intOf]; omega
          · have CN := hide (cnt_not (c := c) (m := q + 1) (i := k) (fun h => hc (by rw [h]; omega)))
            have dc : (c k == (q : Int) + 1) = false := beq_eq_false_iff_ne.2 hc
            have NEX : Hid (Row13 w c len q (k + 1) wr) := (unhide R2).congr (fun j _ => by
              unfold at13
              by_cases e : j = k
              · subst e
                by_cases h4 : c j ≤ (q : Int)
                · rw [if_pos (Or.inl h4), if_pos (Or.inl h4)]
                · rw [if_neg (by omega), if_neg (by omega)]
              · by_cases h4 : c j ≤ (q : Int) ∨ (c j = (q : Int) + 1 ∧ j < k)
                · rw [if_pos h4, if_pos (by omega)]
                · rw [if_neg h4, if_neg (by omega)])
            have HB2 := hide hb
            clear hc hb R2
            go_wp2
            go_roundw
            case rel => exact ⟨k + 1, b', by omega, by go_num, by rw [unhide CN], rfl, by rw [unhide CN]; exact unhide HB2, unhide NEX⟩
            case measure => simp [intOf]; omega
        · obtain rfl : k = len := by omega
          have HB2 := hide hb
          have NEX : Hid (Row13 w c k (q + 1) 0 wr) := h1.congr (fun j hj => by
            unfold at13
            by_cases h4 : c j ≤ (q : Int) ∨ (c j = (q : Int) + 1 ∧ j < k)
            · rw [if_pos h4, if_pos (by omega)]
            · rw [if_neg h4, if_neg (by omega)])
          clear hb h1 R2 R1
          go_wp2
          go_roundw
          case rel => exact ⟨q + 1, b', by omega, by go_num, rfl, rfl, unhide HB2, unhide NEX⟩
          case measure => simp [intOf]; omega
    · obtain rfl : q = 15 := by omega
      clear hb
      go_wp2
      go_ret
      refine ⟨_, rfl, ⟨_, _, rfl, fun i hi => ⟨w.heap.size, 0, rfl, ?_⟩⟩, (unhide R1).2⟩
      rw [(unhide R1).1.cell, Nat.zero_add, row_at _ _ _ hi]
      unfold at13
      rw [if_pos (Or.inl (by have := unhide HG i hi; omega))]
end Go.Proofs.Ytlejicikgmanfaa.Rcd
