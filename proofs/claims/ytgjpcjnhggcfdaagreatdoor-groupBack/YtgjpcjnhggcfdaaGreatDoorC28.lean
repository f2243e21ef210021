/-
  Contracts: the document's symbol, number. Conditions: the group and the eye lie apart in memory; the bits are there.
  Contracts: the document's Make. Conditions: the four numbers are not beyond a million.
  Contracts: the document's own points, Point, Dist, Code. Conditions: none.
  Contracts: the document's own Dist and Code. Conditions: none.
-/
import Derived.Test.YtgjpcjnhggcfdaaGreatDoorC27
import Derived.Test.YtgjpcjnhggcfdaaGreatDoorC03
import Derived.Test.YtgjpcjnhggcfdaaGreatDoorC01
import Derived.Test.YtgjpcjnhggcfdaaGreatDoorC24
import Derived.Test.YtgjpcjnhggcfdaaGreatDoorC25
import Derived.Great.BuildSlice
namespace Go.Proofs.YtgjpcjnhggcfdaaGreatDoor.HRst
set_option linter.unusedVariables false
open Go.ChangeShapes Go.WideShapes Go.ChangeAt Go.RowKit Go.Proofs.YtgjpcjnhggcfdaaGreatDoor.Core Go.Proofs.YtgjpcjnhggcfdaaGreatDoor.Gnd Go.Proofs.YtgjpcjnhggcfdaaGreatDoor.Math Go.Proofs.YtgjpcjnhggcfdaaGreatDoor.Dec Go.Proofs.YtgjpcjnhggcfdaaGreatDoor.Ord Go.Proofs.YtgjpcjnhggcfdaaGreatDoor.Sml Go.Proofs.YtgjpcjnhggcfdaaGreatDoor.Bitin Go.Proofs.YtgjpcjnhggcfdaaGreatDoor.Eyes Go.Proofs.YtgjpcjnhggcfdaaGreatDoor.Lsp Go.Proofs.YtgjpcjnhggcfdaaGreatDoor.VNum Go.Proofs.YtgjpcjnhggcfdaaGreatDoor.HNum Go.Proofs.YtgjpcjnhggcfdaaGreatDoor.HSiz Go.Proofs.YtgjpcjnhggcfdaaGreatDoor.HFit Go.Proofs.YtgjpcjnhggcfdaaGreatDoor.HFiv Go.Proofs.YtgjpcjnhggcfdaaGreatDoor.HRgr

/-- The document's group and an eye, apart. -/
structure RE (w : World) (lo g c : Nat) (L C : Nat → Nat) (F : Nat → Nat → Nat) (elo ehi e bl i : Nat) (bc : Nat → Nat) : Prop where
  rg : RGI w lo g c 5 L C F
  ey : Eyes w elo ehi e bc bl (some i)
  e0 : elo ≤ e ∧ e < ehi
  ap : ehi ≤ lo
/-- More was read: nothing but the eye may have turned. -/
structure RB (w : World) (lo g c : Nat) (L C : Nat → Nat) (F : Nat → Nat → Nat) (elo ehi e bl i : Nat) (bc : Nat → Nat) (w' : World) : Prop where
  re : RE w' lo g c L C F elo ehi e bl i bc
  upd : Upd (fun k => k = e) w w'
theorem RE.keep {S : Nat → Prop} {w w' : World} {lo g c : Nat} {L C : Nat → Nat} {F : Nat → Nat → Nat} {elo ehi e bl i : Nat} {bc : Nat → Nat} (h : RE w lo g c L C F elo ehi e bl i bc) (u : Upd S w w') (hs : ∀ k, elo ≤ k → k < w.heap.size → ¬ S k) : RE w' lo g c L C F elo ehi e bl i bc := by
  have h1 := h.rg.box.lt
  have h2 := h.rg.low
  have h3 := h.ap
  have h4 := h.e0
  exact ⟨h.rg.keep u (fun k a b => hs k (by omega) b), h.ey.keep u (fun k a b => hs k a (by omega)), h.e0, h.ap⟩
/-- The document's group alone. -/
structure RGk (w : World) (lo g c : Nat) (L C : Nat → Nat) (F : Nat → Nat → Nat) : Prop where
  rg : RGI w lo g c 5 L C F
theorem ints_of {w : World} {b n : Nat} {F : Nat → Nat} (h : Cds w b n F) : Ints .u32 w (.slice (some ⟨b, 0, none⟩) n n) n (fun k => (cod (fun j => (F j : Int)) n k : Int)) :=
  ⟨_, _, rfl, fun i hi => ⟨b, 0, rfl, by rw [Nat.zero_add]; exact h i hi⟩⟩
theorem RGk.both {w : World} {lo g c : Nat} {L C : Nat → Nat} {F : Nat → Nat → Nat} (h : RGk w lo g c L C F) (k : Nat) (hk : k < 5) : Sym.Both w (.slice (some ⟨L k, 0, none⟩) (sz c k) (sz c k)) (.slice (some ⟨C k, 0, none⟩) (sz c k) (sz c k)) (sz c k) (fun j => (F k j : Int)) :=
  ⟨ints_row (h.rg.len k hk).2, ints_of (h.rg.cds k hk).2.2⟩
theorem RE.lt {w : World} {lo g c : Nat} {L C : Nat → Nat} {F : Nat → Nat → Nat} {elo ehi e bl i : Nat} {bc : Nat → Nat} (h : RE w lo g c L C F elo ehi e bl i bc) : e < w.heap.size := by
  have h1 := h.rg.box.lt
  have h2 := h.rg.low
  have h3 := h.ap
  have h4 := h.e0
  omega
theorem RE.keep_e {w w' : World} {lo g c : Nat} {L C : Nat → Nat} {F : Nat → Nat → Nat} {elo ehi e bl i : Nat} {bc : Nat → Nat} (h : RE w lo g c L C F elo ehi e bl i bc) (u : Upd (fun k => k = e) w w') : RGk w' lo g c L C F :=
  ⟨h.rg.keep u (fun k a b => by have := h.ap; have := h.e0; show ¬ k = e; omega)⟩
theorem sym_go {w : World} {lo g c : Nat} {L C : Nat → Nat} {F : Nat → Nat → Nat} {elo ehi e bl i : Nat} {bc : Nat → Nat} (h : RE w lo g c L C F elo ehi e bl i bc) (hc : c ≤ 11) (hbc : ∀ k, bc k ≤ 255) (hbl : bl ≤ 100000) (k : Nat) (hk : k < 5) (hch : chk (fun j => (F k j : Int)) (sz c k) = 0)
    {Ln s : Nat} (nx : Nx (fun j => (F k j : Int)) (sz c k) (fun j => bt bc (i + j)) Ln s) (hL : i + Ln ≤ 8 * bl) :
    Calls Tryz.prog 54 #[.slice (some ⟨L k, 0, none⟩) (sz c k) (sz c k), .slice (some ⟨C k, 0, none⟩) (sz c k) (sz c k), .pointer (some ⟨e, 0, none⟩)] w fun r w' => r = .returned (.int .i64 s) ∧ RB w lo g c L C F elo ehi e bl (i + Ln) bc w' := by
  have hn := (sz_bd c k hc).2
  refine (Sym.sym14 _ _ (sz c k) (fun j => (F k j : Int)) (by omega) hch elo ehi e bl i Ln s bc hbc hbl w (fun w' u => (h.keep_e u).both k hk) h.ey nx).mono ?_
  rintro r w' ⟨rfl, ey, u⟩
  have e1 : Sym.symV bl i Ln s = (s : Int) := if_pos hL
  have e2 : Trr.outS bl i Ln = some (i + Ln) := if_pos hL
  rw [e2] at ey
  exact ⟨by rw [e1], ⟨(h.keep_e u).rg, ey, h.e0, h.ap⟩, u⟩
set_option maxHeartbeats 1000000 in
theorem sym30 {w : World} {lo g c : Nat} {L C : Nat → Nat} {F : Nat → Nat → Nat} {elo ehi e bl i : Nat} {bc : Nat → Nat} (h : RE w lo g c L C F elo ehi e bl i bc) (hc : c ≤ 11) (hbc : ∀ k, bc k ≤ 255) (hbl : bl ≤ 100000) (k : Nat) (hk : k < 5) (hch : chk (fun j => (F k j : Int)) (sz c k) = 0)
    {Ln s : Nat} (nx : Nx (fun j => (F k j : Int)) (sz c k) (fun j => bt bc (i + j)) Ln s) (hL : i + Ln ≤ 8 * bl) :
    Calls Tryz.prog 30 #[.pointer (some ⟨g, 0, none⟩), .int .i64 k, .pointer (some ⟨e, 0, none⟩)] w fun r w' => r = .returned (.int .i64 s) ∧ RB w lo g c L C F elo ehi e bl (i + Ln) bc w' := by
  have GO := hide (fun (w' : World) (b : Below w.heap.size w w') => sym_go (h.keep (Upd.ofBelow (S := fun _ => False) b) (fun _ _ _ h => h)) hc hbc hbl k hk hch nx hL)
  have gl := h.rg.box.lt
  have a1 := (h.rg.box.cell k).trans (rgc_u _ _ k hk)
  rw [show gs L c k = .slice (some ⟨L k, 0, none⟩) (sz c k) (sz c k) from rfl] at a1
  have a2 := (h.rg.box.cell (5 + k)).trans (rgc_v _ _ k hk)
  rw [show fu C c 5 k = .slice (some ⟨C k, 0, none⟩) (sz c k) (sz c k) from if_pos hk] at a2
  have hne : g ≠ e := by have := h.rg.low; have := h.ap; have := h.e0; omega
  have hk' : (k : Int) < 5 := by omega
  clear h hch nx
  generalize sz c k = z at *
  generalize L k = lk at *
  generalize C k = ck at *
  go_enter Tryz.func30, Tryz.ntmps30
  go_wp2_with fail
  go_region_held3 (fun w' => w'.cell? ⟨g, k, none⟩ = some (.slice (some ⟨lk, 0, none⟩) z z) ∧ w'.cell? ⟨g, 5 + k, none⟩ = some (.slice (some ⟨ck, 0, none⟩) z z)) (first | exact ⟨z1, z2⟩ | go_keep) ((go_at_call 54; (with_reducible refine Calls.mono (unhide GO _ (by first | exact bel_d0 _ | exact Below.refl _ _)) ?_); rintro r5 w5 ⟨rfl, rb⟩; have U5 := (Upd.ofBelow (S := fun k => k = e) (by first | exact bel_d0 w | exact Below.refl _ w)).trans rb.upd; have z1 := (U5.cell (p := ⟨g, k, none⟩) gl hne).trans a1; have z2 := (U5.cell (p := ⟨g, 5 + k, none⟩) gl hne).trans a2; have RB5 := hide (show RB w lo g c L C F elo ehi e bl (i + Ln) bc w5 from ⟨rb.re, U5⟩); clear U5 rb))
  all_goals go_wp2_with fail
  all_goals go_ret
  all_goals exact ⟨rfl, unhide RB5⟩
set_option maxHeartbeats 1000000 in
theorem num32 {w : World} {lo g c : Nat} {L C : Nat → Nat} {F : Nat → Nat → Nat} {elo ehi e bl i : Nat} {bc : Nat → Nat} (h : RE w lo g c L C F elo ehi e bl i bc) (hbc : ∀ k, bc k ≤ 255) (hbl : bl ≤ 100000) (n : Nat) (h0 : 1 ≤ n) (h1 : n ≤ 1048576)
    (hx : nb (num bc 0 bl) i (exn (HVal.sv n)) = HVal.xv n) (hL : i + exn (HVal.sv n) ≤ 8 * bl) :
    Calls Tryz.prog 32 #[.int .i64 (HVal.sv n : Nat), .pointer (some ⟨e, 0, none⟩)] w fun r w' => r = .returned (.int .i64 n) ∧ RB w lo g c L C F elo ehi e bl (i + exn (HVal.sv n)) bc w' := by
  have is := HVal.sv_is n h0 h1
  have hs := is.sym
  have he := exn_le _ hs
  have EX := hide (fun w => VVal.ext9 ((HVal.sv n : Nat) : Int) w)
  rw [exV_nat _ hs] at EX
  have NS := hide (num_step elo ehi e bl (exn (HVal.sv n)) (some i) bc hbc w h.ey hbl (by omega))
  have e1 : resV bc bl (some i) (exn (HVal.sv n)) = HVal.xv n := by
    show (if i + exn (HVal.sv n) ≤ 8 * bl then val bc bl i (exn (HVal.sv n)) else 0) = _
    rw [if_pos hL]; exact hx
  have e2 : stp bl (some i) (exn (HVal.sv n)) = some (i + exn (HVal.sv n)) := by
    unfold stp
    by_cases z : exn (HVal.sv n) = 0
    · rw [if_pos z, z]; rfl
    · rw [if_neg z]; show (if i + exn (HVal.sv n) ≤ 8 * bl then some (i + exn (HVal.sv n)) else none) = _; rw [if_pos hL]
  rw [e1, e2] at NS
  have JO := hide (fun w => VJoi.ref11_in (HVal.sv n) (HVal.xv n) w hs is.low)
  have e3 : frs (HVal.sv n) + HVal.xv n = n := is.num
  have hxl := is.low
  have hxb : HVal.xv n < 262145 := by
    have := (pow_exn _ hs).2
    omega
  have HH := hide h
  clear h is hx hL e1 e2 hxl
  generalize exn (HVal.sv n) = ee at *
  generalize HVal.xv n = x at *
  generalize HVal.sv n = s at *
  go_enter Tryz.func32, Tryz.ntmps32
  go_wp2_with fail
  refine (unhide EX _).mono ?_
  rintro r1 w' ⟨rfl, hw'⟩
  rw [hw']
  clear hw'
  go_wp2_with fail
  refine (unhide NS).mono ?_
  rintro r2 w2 ⟨rfl, ey, u⟩
  have RB2 := hide (show RB w lo g c L C F elo ehi e bl (i + ee) bc w2 from ⟨⟨((unhide HH).keep_e u).rg, ey, (unhide HH).e0, (unhide HH).ap⟩, u⟩)
  clear ey u NS
  go_wp2_with fail
  refine (unhide JO _).mono ?_
  rintro r3 w3 ⟨rfl, hw3⟩
  rw [hw3]
  clear hw3
  go_wp2
  go_ret
  exact ⟨by rw [← e3]; rfl, unhide RB2⟩
end Go.Proofs.YtgjpcjnhggcfdaaGreatDoor.HRst

namespace Go.Proofs.YtgjpcjnhggcfdaaGreatDoor.PRmk
open Go.ChangeShapes Go.WideShapes Go.ChangeAt Go.RowKit Go.Proofs.YtgjpcjnhggcfdaaGreatDoor.Core Go.Proofs.YtgjpcjnhggcfdaaGreatDoor.PNum Go.Proofs.YtgjpcjnhggcfdaaGreatDoor.PPrt

/-- Round at 256. -/
def rnd (z : Int) : Nat := (z % 256).toNat
theorem rnd_lt (z : Int) : rnd z < 256 := by unfold rnd; omega
theorem rnd_is (z : Int) : (z.tmod 256 + 256).tmod 256 = (rnd z : Int) := by
  have e1 : z.tmod 256 = z - 256 * z.tdiv 256 := by have := Int.tmod_add_mul_tdiv z 256; omega
  have e2 : -256 < z.tmod 256 := Int.lt_tmod_of_pos z (by omega)
  rw [Int.tmod_eq_emod_of_nonneg (by omega)]
  unfold rnd
  omega
/-- The pixel of the first n of four. -/
def mkp (f : Nat → Nat) : Nat → Nat
  | 0 => 0
  | n + 1 => mkp f n * 256 + f n
theorem mkp_four (f : Nat → Nat) : mkp f 4 = mk f := by simp [mkp, mk]
theorem mkp_lt {f : Nat → Nat} (h : ∀ k, f k < 256) {n : Nat} (hn : n < 4) : mkp f n < 16777216 := by
  have h0 := h 0; have h1 := h 1; have h2 := h 2
  have : n = 0 ∨ n = 1 ∨ n = 2 ∨ n = 3 := by omega
  rcases this with rfl | rfl | rfl | rfl <;> simp only [mkp] <;> omega
set_option maxHeartbeats 400000 in
theorem make29 (f : Nat → Int) (w : World) (hf : ∀ k, k < 4 → -1000000 ≤ f k ∧ f k ≤ 1000000) :
    Calls Tryz.prog 31 #[.agg (four f)] w fun e w' => e = .returned (.int .u32 (mk (fun k => rnd (f k)))) ∧ Below w.heap.size w w' := by
  have FF := hide hf
  have E : Hid (mk (fun k => rnd (f k)) = mkp (fun k => rnd (f k)) 4) := (mkp_four _).symm
  have BX := hide (Box.made w 86 (four f))
  have BL := hide ((Below.refl w.heap.size w).alloc (Nat.le_refl _) (.cells (four f) 86))
  clear hf
  go_enter Tryz.func31, Tryz.ntmps31
  go_wp2
  go_loopw [3, 4] (fun p k wr => ∃ j : Nat, j ≤ 4 ∧ k = .int .i64 j ∧ p = .int .u32 (mkp (fun k => rnd (f k)) j) ∧ wr = w.alloc (.cells (four f) 86)) (fun _ k _ => 4 - (intOf k).toNat)
  case atStart => exact ⟨0, by omega, rfl, rfl, rfl⟩
  case round =>
    obtain ⟨j, hj, rfl, rfl, hw⟩ := hrel
    have HW := hide hw
    by_cases hlt : j < 4
    · have hb := unhide FF j hlt
      have c : wr.cell? ⟨w.heap.size, j, none⟩ = some (.int .i64 (f j)) := by rw [hw]; exact ((unhide BX).cell j).trans (four_at f j hlt)
      have lp := mkp_lt (fun k => rnd_lt (f k)) hlt
      have lr := rnd_lt (f j)
      have ER := rnd_is (f j)
      have EN : Hid (mkp (fun k => rnd (f k)) (j + 1) = mkp (fun k => rnd (f k)) j * 256 + rnd (f j)) := rfl
      have ht1 : -256 < (f j).tmod 256 := Int.lt_tmod_of_pos _ (by omega)
      have ht2 : (f j).tmod 256 < 256 := Int.tmod_lt_of_pos _ (by omega)
      have hlt' : (j : Int) < 4 := by omega
      clear hw hb
      generalize mkp (fun k => rnd (f k)) j = m at *
      generalize rnd (f j) = r at *
      generalize f j = z at *
      generalize hm : z.tmod 256 = t at *
      go_wp2
      go_roundw
      case rel => exact ⟨j + 1, by omega, by go_num, by rw [unhide EN]; go_num, unhide HW⟩
      case measure => simp [intOf]; omega
    · obtain rfl : j = 4 := by omega
      clear hlt
      rw [← unhide E]
      go_wp2
      go_ret
      exact ⟨rfl, unhide BL⟩
end Go.Proofs.YtgjpcjnhggcfdaaGreatDoor.PRmk

namespace Go.Proofs.YtgjpcjnhggcfdaaGreatDoor.NRef
open Go.ChangeShapes Go.WideShapes Go.ChangeAt Go.RowKit Go.Proofs.YtgjpcjnhggcfdaaGreatDoor.Core Go.Proofs.YtgjpcjnhggcfdaaGreatDoor.NNum Go.Proofs.YtgjpcjnhggcfdaaGreatDoor.NPts

/-- A slice in a new block that holds the list. -/
structure Lst (w w' : World) : Prop where
  cell : ∀ j, j < 240 → w'.cell? ⟨w.heap.size, j, none⟩ = some (.int .i64 (T j))
  below : Below w.heap.size w w'

theorem Lst.made (w : World) : Lst w (w.alloc (.cells (tabL.map (Value.int .i64)).toArray 3)) := by
  refine ⟨fun j hj => ?_, (Below.refl _ _).alloc (Nat.le_refl _) _⟩
  rw [Box.cell (Box.made w 3 (tabL.map (Value.int .i64)).toArray) j, List.getElem?_toArray, List.getElem?_map, List.getElem?_eq_getElem (by rw [tabL_len]; omega)]
  unfold T
  rw [List.getD_eq_getElem?_getD, List.getElem?_eq_getElem (by rw [tabL_len]; omega)]
  rfl
/-- The body of points, by what its literal lists. -/
def bdy (p1 p2 p3 : String) (parts : Array (Nat × Operand)) : Code :=
  (Code.region 0 #[{ dst := some 0, op := Op.assign (Operand.const (Value.slice none 0 0)), type := 26, pos := p1, after := #[], guard := none }] false).seq
    ((Code.region 1 #[{ dst := some 1, op := Op.buildSlice 26 240 parts, type := 26, pos := p2, after := #[], guard := none },
      { dst := some 0, op := Op.assign (Operand.tmp 1), type := 26, pos := p3, after := #[{ on := 0, ground := Ground.data }, { on := 0, ground := Ground.phase }], guard := none }] false).seq Code.ret)
theorem body15 : ∃ p1 p2 p3 parts, Tryz.f72.body = some (bdy p1 p2 p3 parts) ∧ parts.toList = (tabL.zipIdx 0).map fun x => (x.2, Operand.const (Value.int .i64 x.1)) := ⟨_, _, _, _, rfl, by kernel_rfl⟩
set_option maxHeartbeats 400000 in
theorem pts15 (w : World) : Calls Tryz.prog 72 #[] w fun e w' => e = .returned (.slice (some ⟨w.heap.size, 0, none⟩) 240 240) ∧ Lst w w' := by
  obtain ⟨p1, p2, p3, parts, hb, hp⟩ := body15
  refine calls_of_wp Tryz.func72 hb ?_
  unfold bdy
  simp only [Tryz.ntmps72, List.size_toArray, List.length_nil, Nat.reduceSub, Array.replicate_succ, Array.replicate_zero, List.push_toArray, List.append_toArray, List.nil_append, List.cons_append]
  clear hb
  have HP := hide hp
  clear hp
  go_wp2_with (refine wpList_buildFlat rfl 26 3 240 _ rfl .i64 tabL Tryz.underlying26 (by kernel_rfl) (by kernel_rfl) (by rw [tabL_len]) (by omega) (by omega) (unhide HP) ?_)
  go_ret
  exact ⟨rfl, Lst.made w⟩

set_option maxHeartbeats 400000 in
theorem rpoint8_out (c : Int) (w : World) (h : c < 1 ∨ 120 < c) :
    Calls Tryz.prog 57 #[.int .i64 c] w fun e w' => e = .returned (.tuple #[.int .i64 0, .int .i64 0, .bool false]) ∧ Below w.heap.size w w' := by
  by_cases h1 : c < 1
  · clear h
    go_enter Tryz.func57, Tryz.ntmps57
    go_wp2_with (go_at_call 72; refine (pts15 w).mono ?_; rintro e w' ⟨rfl, hl⟩; have HL := hide hl; clear hl)
    go_ret3
    exact ⟨rfl, (unhide HL).below⟩
  · have h2 : 120 < c := by omega
    clear h
    go_enter Tryz.func57, Tryz.ntmps57
    go_wp2_with (go_at_call 72; refine (pts15 w).mono ?_; rintro e w' ⟨rfl, hl⟩; have HL := hide hl; clear hl)
    go_ret3
    exact ⟨rfl, (unhide HL).below⟩
set_option maxRecDepth 20000 in
set_option maxHeartbeats 400000 in
theorem rpoint8_in (m : Nat) (w : World) (hm : m < 120) :
    Calls Tryz.prog 57 #[.int .i64 ((m : Int) + 1)] w fun e w' => e = .returned (.tuple #[.int .i64 (px m), .int .i64 (py m), .bool true]) ∧ Below w.heap.size w w' := by
  have h1 : ¬ (m : Int) + 1 < 1 := by omega
  have h2 : ¬ 120 < (m : Int) + 1 := by omega
  go_enter Tryz.func57, Tryz.ntmps57
  go_wp2_with (go_at_call 72; refine (pts15 w).mono ?_; rintro e w' ⟨rfl, hl⟩; have HL := hide hl; have c1 : w'.cell? ⟨w.heap.size, 2 * m, none⟩ = some (.int .i64 (px m)) := hl.cell _ (by omega); have c2 : w'.cell? ⟨w.heap.size, 2 * m + 1, none⟩ = some (.int .i64 (py m)) := hl.cell _ (by omega); clear hl)
  have e1 : 2 * ((m : Int) + 1) - 2 = 2 * (m : Int) := by omega
  have e2 : 2 * ((m : Int) + 1) - 1 = 2 * (m : Int) + 1 := by omega
  go_quiet (fail)
  go_wp2
  go_ret3
  exact ⟨rfl, belowN (unhide HL).below _⟩
theorem rpoint8 (c : Int) (w : World) :
    Calls Tryz.prog 57 #[.int .i64 c] w fun e w' => e = .returned (.tuple #[.int .i64 (X c), .int .i64 (Y c), .bool (B c)]) ∧ Below w.heap.size w w' := by
  by_cases h : c < 1 ∨ 120 < c
  · rw [X_out h, Y_out h, B_out h]
    exact rpoint8_out c w h
  · obtain ⟨m, rfl, hm⟩ : ∃ m : Nat, c = (m : Int) + 1 ∧ m < 120 := ⟨(c - 1).toNat, by omega, by omega⟩
    rw [X_in m hm, Y_in m hm, B_in m hm]
    exact rpoint8_in m w hm
end Go.Proofs.YtgjpcjnhggcfdaaGreatDoor.NRef

namespace Go.Proofs.YtgjpcjnhggcfdaaGreatDoor.NRfd
open Go.ChangeShapes Go.WideShapes Go.ChangeAt Go.RowKit Go.Proofs.YtgjpcjnhggcfdaaGreatDoor.Core Go.Proofs.YtgjpcjnhggcfdaaGreatDoor.NNum Go.Proofs.YtgjpcjnhggcfdaaGreatDoor.NPts Go.Proofs.YtgjpcjnhggcfdaaGreatDoor.NRef

theorem more {k : Nat} {p : Nat → Prop} (h : ∀ m, m < k → p m) (hk : p k) : Hid (∀ m, m < k + 1 → p m) := fun m hm => by
  by_cases e : m = k
  · rw [e]; exact hk
  · exact h m (by omega)
set_option maxHeartbeats 400000 in
theorem rdist11_out (c v : Int) (w : World) (h : v < 1 ∨ 16384 < v ∨ c < 1 ∨ 1048576 < c) :
    Calls Tryz.prog 33 #[.int .i64 c, .int .i64 v] w fun e w' => e = .returned (.int .i64 0) ∧ w' = w := by
  by_cases h1 : v < 1
  · clear h
    go_enter Tryz.func33, Tryz.ntmps33
    go_wp2
    go_ret
    exact ⟨rfl, rfl⟩
  · by_cases h2 : 16384 < v
    · clear h
      go_enter Tryz.func33, Tryz.ntmps33
      go_wp2
      go_ret
      exact ⟨rfl, rfl⟩
    · by_cases h3 : c < 1
      · clear h
        go_enter Tryz.func33, Tryz.ntmps33
        go_wp2
        go_ret
        exact ⟨rfl, rfl⟩
      · have h4 : 1048576 < c := by omega
        clear h
        go_enter Tryz.func33, Tryz.ntmps33
        go_wp2
        go_ret
        exact ⟨rfl, rfl⟩
set_option maxHeartbeats 400000 in
theorem rdist11_far (c v : Int) (w : World) (h1 : ¬ v < 1) (h2 : ¬ 16384 < v) (h3 : ¬ c < 1) (h4 : ¬ 1048576 < c) (h5 : 120 < c) :
    Calls Tryz.prog 33 #[.int .i64 c, .int .i64 v] w fun e w' => e = .returned (.int .i64 (c - 120)) ∧ Below w.heap.size w w' := by
  have H := hide (rpoint8 c w)
  rw [B_out (.inr h5)] at H
  go_enter Tryz.func33, Tryz.ntmps33
  go_wp2_with (go_at_call 57; refine (unhide H).mono ?_; rintro e w' ⟨rfl, hb⟩; have HB := hide hb; clear hb)
  go_ret
  exact ⟨rfl, unhide HB⟩
set_option maxHeartbeats 400000 in
theorem rdist11_near (c : Int) (m : Nat) (v : Int) (w : World) (hc : Hid (c = (m : Int) + 1)) (hm : m < 120) (h1 : ¬ v < 1) (h2 : ¬ 16384 < v) :
    Calls Tryz.prog 33 #[.int .i64 c, .int .i64 v] w fun e w' => e = .returned (.int .i64 (dd m v)) ∧ Below w.heap.size w w' := by
  have h3 : ¬ c < 1 := by have := unhide hc; omega
  have h4 : ¬ 1048576 < c := by have := unhide hc; omega
  have H := hide (rpoint8 c w)
  rw [show X c = px m by rw [unhide hc]; exact X_in m hm, show Y c = py m by rw [unhide hc]; exact Y_in m hm, show B c = true by rw [unhide hc]; exact B_in m hm] at H
  obtain ⟨e1, e2⟩ := dd_wrap m v (wd_in ⟨by omega, by omega⟩)
  by_cases h5 : px m + py m * v < 1
  · have e : dd m v = 1 := by unfold dd cut; rw [if_pos h5]
    rw [e]
    clear e
    go_enter Tryz.func33, Tryz.ntmps33
    go_wp2_with (go_at_call 57; refine (unhide H).mono ?_; rintro e w' ⟨rfl, hb⟩; have HB := hide hb; clear hb)
    go_ret
    exact ⟨rfl, unhide HB⟩
  · have e : dd m v = px m + py m * v := by unfold dd cut; rw [if_neg h5]
    rw [e]
    clear e
    go_enter Tryz.func33, Tryz.ntmps33
    go_wp2_with (go_at_call 57; refine (unhide H).mono ?_; rintro e w' ⟨rfl, hb⟩; have HB := hide hb; clear hb)
    go_ret
    exact ⟨rfl, unhide HB⟩
theorem rdist11 (c v : Int) (w : World) :
    Calls Tryz.prog 33 #[.int .i64 c, .int .i64 v] w fun e w' => e = .returned (.int .i64 (D c v)) ∧ Below w.heap.size w w' := by
  by_cases h : v < 1 ∨ 16384 < v ∨ c < 1 ∨ 1048576 < c
  · rw [D_out (fun h' => by have := wd_is h'.2.2; omega)]
    exact (rdist11_out c v w h).mono fun e w' ⟨he, hw⟩ => ⟨he, hw ▸ Below.refl _ _⟩
  · have hv : wd v = true := wd_in ⟨by omega, by omega⟩
    by_cases h4 : 120 < c
    · rw [D_far h4 (by omega) hv]
      exact rdist11_far c v w (by omega) (by omega) (by omega) (by omega) h4
    · obtain ⟨m, rfl, hm⟩ : ∃ m : Nat, c = (m : Int) + 1 ∧ m < 120 := ⟨(c - 1).toNat, by omega, by omega⟩
      rw [D_near m v hm hv]
      exact rdist11_near _ m v w rfl hm (by omega) (by omega)

end Go.Proofs.YtgjpcjnhggcfdaaGreatDoor.NRfd
