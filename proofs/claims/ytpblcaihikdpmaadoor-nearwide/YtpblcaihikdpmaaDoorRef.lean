/- Contracts: the document's own points, Point, Dist, Code. Conditions: none. -/
import Derived.Test.YtpblcaihikdpmaaDoorPts
import Derived.Great.BuildSlice
namespace Go.Proofs.YtpblcaihikdpmaaDoor.Ref
open Go.ChangeShapes Go.WideShapes Go.ChangeAt Go.RowKit Go.Proofs.YtpblcaihikdpmaaDoor.Core Go.Proofs.YtpblcaihikdpmaaDoor.Num Go.Proofs.YtpblcaihikdpmaaDoor.Pts

/-- A slice in a new block that holds the list. -/
structure Lst (w w' : World) : Prop where
  cell : ∀ j, j < 240 → w'.cell? ⟨w.heap.size, j, none⟩ = some (.int .i64 (T j))
  below : Below w.heap.size w w'

theorem Lst.made (w : World) : Lst w (w.alloc (.cells (tabL.map (Value.int .i64)).toArray 3)) := by
  refine ⟨fun j hj => ?_, (Below.refl _ _).alloc (Nat.le_refl _) _⟩
  rw [Box.cell (Box.made w 3 (tabL.map (Value.int .i64)).toArray) j, List.getElem?_toArray, List.getElem?_map, List.getElem?_eq_getElem (by rw [tabL_len]; omega)]
  unfold T
  rw [List.getD_eq_getElem?_getD, List.getElem?_eq_getElem (by rw [tabL_len]; omega)]
  rfl
/-- The body of points, by what its literal lists. -/
def bdy (p1 p2 p3 : String) (parts : Array (Nat × Operand)) : Code :=
  (Code.region 0 #[{ dst := some 0, op := Op.assign (Operand.const (Value.slice none 0 0)), type := 35, pos := p1, after := #[], guard := none }] false).seq
    ((Code.region 1 #[{ dst := some 1, op := Op.buildSlice 35 240 parts, type := 35, pos := p2, after := #[], guard := none },
      { dst := some 0, op := Op.assign (Operand.tmp 1), type := 35, pos := p3, after := #[{ on := 0, ground := Ground.data }, { on := 0, ground := Ground.phase }], guard := none }] false).seq Code.ret)
theorem body15 : ∃ p1 p2 p3 parts, Tryd.f15.body = some (bdy p1 p2 p3 parts) ∧ parts.toList = (tabL.zipIdx 0).map fun x => (x.2, Operand.const (Value.int .i64 x.1)) := ⟨_, _, _, _, rfl, by kernel_rfl⟩
set_option maxHeartbeats 400000 in
theorem pts15 (w : World) : Calls Tryd.prog 15 #[] w fun e w' => e = .returned (.slice (some ⟨w.heap.size, 0, none⟩) 240 240) ∧ Lst w w' := by
  obtain ⟨p1, p2, p3, parts, hb, hp⟩ := body15
  refine calls_of_wp Tryd.func15 hb ?_
  unfold bdy
  simp only [Tryd.ntmps15, List.size_toArray, List.length_nil, Nat.reduceSub, Array.replicate_succ, Array.replicate_zero, List.push_toArray, List.append_toArray, List.nil_append, List.cons_append]
  clear hb
  have HP := hide hp
  clear hp
  go_wp2_with (refine wpList_buildFlat rfl 35 3 240 _ rfl .i64 tabL Tryd.underlying35 (by kernel_rfl) (by kernel_rfl) (by rw [tabL_len]) (by omega) (by omega) (unhide HP) ?_)
  go_ret
  exact ⟨rfl, Lst.made w⟩

set_option maxHeartbeats 400000 in
theorem rpoint8_out (c : Int) (w : World) (h : c < 1 ∨ 120 < c) :
    Calls Tryd.prog 8 #[.int .i64 c] w fun e w' => e = .returned (.tuple #[.int .i64 0, .int .i64 0, .bool false]) ∧ Below w.heap.size w w' := by
  by_cases h1 : c < 1
  · clear h
    go_enter Tryd.func8, Tryd.ntmps8
    go_wp2_with (go_at_call 15; refine (pts15 w).mono ?_; rintro e w' ⟨rfl, hl⟩; have HL := hide hl; clear hl)
    go_ret3
    exact ⟨rfl, (unhide HL).below⟩
  · have h2 : 120 < c := by omega
    clear h
    go_enter Tryd.func8, Tryd.ntmps8
    go_wp2_with (go_at_call 15; refine (pts15 w).mono ?_; rintro e w' ⟨rfl, hl⟩; have HL := hide hl; clear hl)
    go_ret3
    exact ⟨rfl, (unhide HL).below⟩
set_option maxRecDepth 20000 in
set_option maxHeartbeats 400000 in
theorem rpoint8_in (m : Nat) (w : World) (hm : m < 120) :
    Calls Tryd.prog 8 #[.int .i64 ((m : Int) + 1)] w fun e w' => e = .returned (.tuple #[.int .i64 (px m), .int .i64 (py m), .bool true]) ∧ Below w.heap.size w w' := by
  have h1 : ¬ (m : Int) + 1 < 1 := by omega
  have h2 : ¬ 120 < (m : Int) + 1 := by omega
  go_enter Tryd.func8, Tryd.ntmps8
  go_wp2_with (go_at_call 15; refine (pts15 w).mono ?_; rintro e w' ⟨rfl, hl⟩; have HL := hide hl; have c1 : w'.cell? ⟨w.heap.size, 2 * m, none⟩ = some (.int .i64 (px m)) := hl.cell _ (by omega); have c2 : w'.cell? ⟨w.heap.size, 2 * m + 1, none⟩ = some (.int .i64 (py m)) := hl.cell _ (by omega); clear hl)
  have e1 : 2 * ((m : Int) + 1) - 2 = 2 * (m : Int) := by omega
  have e2 : 2 * ((m : Int) + 1) - 1 = 2 * (m : Int) + 1 := by omega
  go_quiet (fail)
  go_wp2
  go_ret3
  exact ⟨rfl, belowN (unhide HL).below _⟩
theorem rpoint8 (c : Int) (w : World) :
    Calls Tryd.prog 8 #[.int .i64 c] w fun e w' => e = .returned (.tuple #[.int .i64 (X c), .int .i64 (Y c), .bool (B c)]) ∧ Below w.heap.size w w' := by
  by_cases h : c < 1 ∨ 120 < c
  · rw [X_out h, Y_out h, B_out h]
    exact rpoint8_out c w h
  · obtain ⟨m, rfl, hm⟩ : ∃ m : Nat, c = (m : Int) + 1 ∧ m < 120 := ⟨(c - 1).toNat, by omega, by omega⟩
    rw [X_in m hm, Y_in m hm, B_in m hm]
    exact rpoint8_in m w hm
end Go.Proofs.YtpblcaihikdpmaaDoor.Ref
