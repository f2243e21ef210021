/- Contracts: the document's Add, Sub, Avg, Half, Full, Pick. Conditions: none on the numbers. -/
import Derived.Test.YtflmlbdcjjldgaaPRmk
import Derived.Laws.Rows
namespace Go.Proofs.Ytflmlbdcjjldgaa.PRfn
open Go.ChangeShapes Go.WideShapes Go.ChangeAt Go.RowKit Go.Proofs.Ytflmlbdcjjldgaa.Core Go.Proofs.Ytflmlbdcjjldgaa.PNum Go.Proofs.Ytflmlbdcjjldgaa.PPrt Go.Proofs.Ytflmlbdcjjldgaa.PRmk

/-- Four numbers in a new block, of which the first k are there. -/
structure Rowk (w : World) (f : Nat → Int) (k : Nat) (wr : World) : Prop where
  box : Box wr w.heap.size 49 (four (fun j => if j < k then f j else 0))
  on : Below w.heap.size w wr
theorem Rowk.start (w : World) (f : Nat → Int) : Rowk w f 0 (w.alloc (.cells (four (fun _ => 0)) 49)) :=
  ⟨Box.made w 49 _, (Below.refl _ _).alloc (Nat.le_refl _) _⟩
theorem Rowk.next {w wr : World} {f : Nat → Int} {k : Nat} (h : Rowk w f k wr) (hk : k < 4) {z : Int} (hz : f k = z) : Rowk w f (k + 1) (wr.setCell ⟨w.heap.size, k, none⟩ (.int .i64 z)) := by
  subst hz
  refine ⟨?_, h.on.setCell (p := ⟨w.heap.size, k, none⟩) (Nat.le_refl _) _⟩
  have := h.box.set k (.int .i64 (f k))
  rw [four_set _ k _ hk] at this
  rw [four_congr (g := fun j => if j = k then f k else if j < k then f j else 0)]
  · exact this
  · intro j _
    by_cases e : j = k
    · subst e; rw [if_pos (Nat.lt_succ_self _), if_pos rfl]
    · by_cases l : j < k
      · rw [if_pos (by omega), if_neg e, if_pos l]
      · rw [if_neg (by omega), if_neg e, if_neg l]
theorem Rowk.cell {w wr : World} {f : Nat → Int} {k : Nat} (h : Rowk w f k wr) (hk : k < 4) : wr.cell? ⟨w.heap.size, k, none⟩ = some (.int .i64 0) := by
  rw [h.box.cell k, four_at _ k hk, if_neg (Nat.lt_irrefl _)]
theorem Rowk.whole {w wr : World} {f : Nat → Int} (h : Rowk w f 4 wr) : Box wr w.heap.size 49 (four f) := by
  have := h.box
  rwa [four_congr (g := f) (fun j hj => if_pos hj)] at this
theorem info38 (f : Nat → Int) : (Try.prog.info? 49).map (·.size) = some (four f).size := by
  rw [four_size]; kernel_rfl
theorem rnd_nat (n : Nat) (h : n < 256) : rnd (n : Int) = n := by unfold rnd; omega
def addG (p q k : Nat) : Int := (pt p k : Int) + pt q k
theorem addG_in (p q k : Nat) : -1000000 ≤ addG p q k ∧ addG p q k ≤ 1000000 := by
  have := pt_lt p k; have := pt_lt q k; unfold addG; omega
theorem addG_mk (p q : Nat) : mk (fun k => rnd (addG p q k)) = addV p q := mk_congr fun k _ => by
  have := pt_lt p k; have := pt_lt q k; unfold rnd addG addF; omega
def subG (p q k : Nat) : Int := (pt p k : Int) - pt q k
theorem subG_in (p q k : Nat) : -1000000 ≤ subG p q k ∧ subG p q k ≤ 1000000 := by
  have := pt_lt p k; have := pt_lt q k; unfold subG; omega
theorem subG_mk (p q : Nat) : mk (fun k => rnd (subG p q k)) = subV p q := mk_congr fun k _ => by
  have := pt_lt p k; have := pt_lt q k; unfold rnd subG subF; omega
set_option maxHeartbeats 400000 in
theorem rsub15 (p q : Nat) (w : World) :
    Calls Try.prog 15 #[.int .u32 p, .int .u32 q] w fun e w' => e = .returned (.int .u32 (subV p q)) ∧ Below w.heap.size w w' := by
  have ST := hide (Rowk.start w (subG p q))
  rw [← subG_mk]
  go_enter Try.func15, Try.ntmps15
  go_wp2
  go_loopw [6] (fun k wr => ∃ j : Nat, j ≤ 4 ∧ k = .int .i64 j ∧ Rowk w (subG p q) j wr) (fun k _ => 4 - (intOf k).toNat)
  case atStart => exact ⟨0, by omega, rfl, unhide ST⟩
  case round =>
    obtain ⟨j, hj, rfl, hr⟩ := hrel
    have HR := hide hr
    by_cases hlt : j < 4
    · have HL := hide hlt
      have hlt' : (j : Int) < 4 := by omega
      have cc := hr.cell hlt
      have cf := hr.box.free j
      clear hr
      have l1 := pt_lt p j
      have l2 := pt_lt q j
      have P1 := hide (part10 p j hlt)
      have P2 := hide (part10 q j hlt)
      have EV : Hid (subG p q j = (pt p j : Int) - pt q j) := rfl
      generalize pt p j = x at *
      generalize pt q j = y at *
      go_wp2_with fail
      refine (unhide P1 _).mono ?_
      rintro e w1 ⟨rfl, rfl⟩
      go_wp2_with fail
      refine (unhide P2 _).mono ?_
      rintro e w1 ⟨rfl, rfl⟩
      go_wp2
      go_roundw
      case rel => exact ⟨j + 1, by omega, by go_num, (unhide HR).next (unhide HL) (by first | exact unhide EV | (rw [unhide EV]; go_num))⟩
      case measure => simp [intOf]; omega
    · obtain rfl : j = 4 := by omega
      have BX := hide hr.whole
      have BL := hide hr.on
      have BS := hide hr.on.size
      clear hr HR hlt
      go_wp2_with (first | (refine wpList_load_row rfl 49 (.tmp 5) rfl w.heap.size rfl 49 (four (subG p q)) (0, 0) _ (unhide BX) Try.underlying49 rfl (info38 _) ?_) | (go_at_call 28; refine (make29 (subG p q) _ (fun k _ => subG_in p q k)).mono ?_; rintro e w2 ⟨rfl, b2⟩; have B2 := hide b2; clear b2))
      go_ret
      exact ⟨rfl, (unhide BL).trans ((unhide B2).mono (unhide BS))⟩
def avgG (p q k : Nat) : Int := ((pt p k : Int) + pt q k) / 2
theorem avgG_in (p q k : Nat) : -1000000 ≤ avgG p q k ∧ avgG p q k ≤ 1000000 := by
  have := pt_lt p k; have := pt_lt q k; unfold avgG; omega
theorem avgG_mk (p q : Nat) : mk (fun k => rnd (avgG p q k)) = avgV p q := mk_congr fun k _ => by
  have := pt_lt p k; have := pt_lt q k; unfold rnd avgG avgF; omega
def halfG (p q k : Nat) : Int := (cutV ((pt p k : Int) + ((pt p k : Int) - pt q k).tdiv 2) : Nat)
theorem halfG_in (p q k : Nat) : -1000000 ≤ halfG p q k ∧ halfG p q k ≤ 1000000 := by
  have := cutV_lt ((pt p k : Int) + ((pt p k : Int) - pt q k).tdiv 2); unfold halfG; omega
theorem halfG_mk (p q : Nat) : mk (fun k => rnd (halfG p q k)) = halfV p q := mk_congr fun k _ => by
  unfold halfG halfF; exact rnd_nat _ (cutV_lt _)
def fullG (p q u k : Nat) : Int := (cutV ((pt p k : Int) + pt q k - pt u k) : Nat)
theorem fullG_in (p q u k : Nat) : -1000000 ≤ fullG p q u k ∧ fullG p q u k ≤ 1000000 := by
  have := cutV_lt ((pt p k : Int) + pt q k - pt u k); unfold fullG; omega
theorem fullG_mk (p q u : Nat) : mk (fun k => rnd (fullG p q u k)) = fullV p q u := mk_congr fun k _ => by
  unfold fullG fullF; exact rnd_nat _ (cutV_lt _)
theorem abs_pos {z : Int} (h : ¬ z < 0) : (z.natAbs : Int) = z := by omega
theorem abs_neg {z : Int} (h : z < 0) : (z.natAbs : Int) = -z := by omega
end Go.Proofs.Ytflmlbdcjjldgaa.PRfn
