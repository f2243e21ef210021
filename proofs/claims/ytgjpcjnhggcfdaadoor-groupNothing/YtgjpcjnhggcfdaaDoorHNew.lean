/- Contract: group.New where each code may be; a group in memory. Conditions: the cache may be, the lengths are complete. -/
import Derived.Test.YtgjpcjnhggcfdaaDoorHFiv
namespace Go.Proofs.YtgjpcjnhggcfdaaDoor.HNew
set_option linter.unusedVariables false
open Go.ChangeShapes Go.WideShapes Go.ChangeAt Go.RowKit Go.Proofs.YtgjpcjnhggcfdaaDoor.Core Go.Proofs.YtgjpcjnhggcfdaaDoor.Gnd Go.Proofs.YtgjpcjnhggcfdaaDoor.Math Go.Proofs.YtgjpcjnhggcfdaaDoor.Tre Go.Proofs.YtgjpcjnhggcfdaaDoor.HNum Go.Proofs.YtgjpcjnhggcfdaaDoor.HSiz Go.Proofs.YtgjpcjnhggcfdaaDoor.HFit Go.Proofs.YtgjpcjnhggcfdaaDoor.HFiv

theorem tr_wide {w : World} {lo hi g n lo' hi' : Nat} {c : Nat → Int} (h : Tr w lo hi g c n) (h1 : lo' ≤ lo) (h2 : hi ≤ hi') (h3 : hi' ≤ w.heap.size) : Tr w lo' hi' g c n := by
  obtain ⟨a1, a2, a3, tb, sb, le, b1, b2, b3, b4, r⟩ := h
  exact ⟨by omega, by omega, h3, tb, sb, le, by omega, by omega, by omega, by omega, r⟩
/-- The first i trees. -/
def tp (T : Nat → Nat) (i k : Nat) : Value := if k < i then .pointer (some ⟨T k, 0, none⟩) else .pointer none
/-- A group's cells. -/
def grc (u : Nat → Value) (p : Nat) : Array Value := #[u 0, u 1, u 2, u 3, u 4, .int .i64 p]
theorem grc_at (u : Nat → Value) (p i : Nat) (h : i < 5) : (grc u p)[i]? = some (u i) := by
  rcases lt5 h with rfl | rfl | rfl | rfl | rfl <;> rfl
theorem grc_5 (u : Nat → Value) (p : Nat) : (grc u p)[5]? = some (.int .i64 p) := rfl
theorem grc_set (u : Nat → Value) (p i : Nat) (h : i < 5) (v : Value) : (grc u p).setIfInBounds i v = grc (fun k => if k = i then v else u k) p := by
  rcases lt5 h with rfl | rfl | rfl | rfl | rfl <;> rfl
theorem grc_congr {u v : Nat → Value} (p : Nat) (h : ∀ i, i < 5 → u i = v i) : grc u p = grc v p := by
  unfold grc; rw [h 0 (by omega), h 1 (by omega), h 2 (by omega), h 3 (by omega), h 4 (by omega)]
/-- The first i codes of a group. -/
structure GrI (w : World) (lo hi g c i : Nat) (T : Nat → Nat) (f : Nat → Nat → Int) : Prop where
  box : Box w g 57 (grc (tp T i) (pl c))
  tr : ∀ k, k < i → Tr w (g + 1) hi (T k) (f k) (sz c k)
  low : lo ≤ g
  lt : g < hi
  hi_le : hi ≤ w.heap.size
theorem GrI.keep {S : Nat → Prop} {w w' : World} {lo hi g c i : Nat} {T : Nat → Nat} {f : Nat → Nat → Int} (h : GrI w lo hi g c i T f) (u : Upd S w w') (hs : ∀ k, lo ≤ k → k < hi → ¬ S k) : GrI w' lo hi g c i T f :=
  ⟨h.box.keep u (hs g h.low h.lt), fun k hk => (h.tr k hk).keep u (fun j h1 h2 => hs j (by have := h.low; omega) h2), h.low, h.lt, Nat.le_trans h.hi_le u.size⟩
theorem GrI.below {w w' : World} {lo hi g c i : Nat} {T : Nat → Nat} {f : Nat → Nat → Int} (h : GrI w lo hi g c i T f) (u : Below w.heap.size w w') : GrI w' lo hi g c i T f :=
  h.keep (Upd.ofBelow (S := fun _ => False) u) (fun _ _ _ h => h)
theorem GrI.next {w w' : World} {lo hi g c i t : Nat} {T : Nat → Nat} {f : Nat → Nat → Int} (h : GrI w lo hi g c i T f) (hi5 : i < 5) (u : Below w.heap.size w w') (ht : Tr w' w.heap.size w'.heap.size t (f i) (sz c i)) :
    GrI (w'.setCell ⟨g, i, none⟩ (.pointer (some ⟨t, 0, none⟩))) lo w'.heap.size g c (i + 1) (fun k => if k = i then t else T k) f := by
  have s := u.size
  have hl := h.lt
  have hh := h.hi_le
  have us : Upd (fun k => k = g) w' (w'.setCell ⟨g, i, none⟩ (.pointer (some ⟨t, 0, none⟩))) := (Upd.refl (fun k => k = g) w').setCell (p := ⟨g, i, none⟩) rfl _
  have h1 := h.below u
  refine ⟨?_, fun k hk => ?_, h.low, by omega, by simp [World.setCell]⟩
  · have b := h1.box.set i (.pointer (some ⟨t, 0, none⟩))
    rw [grc_set _ _ _ hi5] at b
    rw [grc_congr (v := tp (fun k => if k = i then t else T k) (i + 1)) _ (fun k _ => ?_)] at b
    · exact b
    · unfold tp
      by_cases e : k = i
      · subst e; simp
      · by_cases e2 : k < i
        · have e3 : k < i + 1 := by omega
          simp only [if_neg e, if_pos e2, if_pos e3]
        · have e3 : ¬ k < i + 1 := by omega
          simp only [if_neg e, if_neg e2, if_neg e3]
  · by_cases e : k = i
    · subst e
      simp only [if_true]
      exact tr_wide (ht.keep us (fun j a b => by omega)) (by omega) (Nat.le_refl _) (by simp [World.setCell])
    · simp only [if_neg e]
      exact tr_wide ((h1.tr k (by omega)).keep us (fun j a b => by omega)) (Nat.le_refl _) (by omega) (by simp [World.setCell])
/-- A group in memory. -/
def Gr (w : World) (lo hi g c : Nat) (T : Nat → Nat) (f : Nat → Nat → Int) : Prop := GrI w lo hi g c 5 T f
/-- What New answers. -/
structure NewR (w : World) (c : Nat) (f : Nat → Nat → Int) (e : Ending) (w' : World) : Prop where
  ex : ∃ g T, e = .returned (.tuple #[.pointer (some ⟨g, 0, none⟩), .int .i64 0]) ∧ Gr w' w.heap.size w'.heap.size g c T f
  bel : Below w.heap.size w w'
set_option maxHeartbeats 2000000 in
theorem new6 (a : Nat → Option Addr) (cp : Nat → Nat) (c : Nat) (h : c ≤ 11) (f : Nat → Nat → Int) (w : World) (src : ∀ i, i < 5 → Ints .i64 w (sl5 a (sz c) cp i) (sz c i) (f i)) (hch : ∀ i, i < 5 → chk (f i) (sz c i) = 0) :
    Calls Tryd.prog 6 #[.agg (fv (sl5 a (sz c) cp)), .int .i64 c] w fun e w' => NewR w c f e w' := by
  have FI := hide (fun w => fits16 a cp c h w)
  have SI := hide (fun w => sizes14 c h w)
  have PL := hide (fun w => places17 (sz c) (pl c) (by simp [sz]) (by have := pl_le c h; omega) w)
  have IX := hide (index_fv (sl5 a (sz c) cp))
  have SZ := hide (fun i => sz_bd c i h)
  have SRC := hide src
  have HCH := hide hch
  clear h src hch
  simp only [fv] at *
  go_enter Tryd.func6, Tryd.ntmps6
  go_wp2_with fail
  refine (unhide FI _).mono ?_
  rintro e w1 ⟨rfl, b1⟩
  have b0 := (Box.made w 27 #[sl5 a (sz c) cp 0, sl5 a (sz c) cp 1, sl5 a (sz c) cp 2, sl5 a (sz c) cp 3, sl5 a (sz c) cp 4]).below b1 (by simp)
  have B1 := hide ((bel_a1 w (.cells #[sl5 a (sz c) cp 0, sl5 a (sz c) cp 1, sl5 a (sz c) cp 2, sl5 a (sz c) cp 3, sl5 a (sz c) cp 4] 27)).trans (b1.mono (by simp)))
  have X1 := hide b0
  clear b1 b0
  go_wp2_with fail
  refine (unhide SI _).mono ?_
  rintro e w2 ⟨rfl, b2⟩
  have X2 := hide ((unhide X1).below b2 (unhide X1).lt)
  have B2 := hide (bel_into (unhide B1) b2)
  clear b2 X1 B1
  go_wp2_with fail
  refine (unhide PL _).mono ?_
  rintro e w3 ⟨rfl, b3⟩
  have X3 := hide ((unhide X2).below b3 (unhide X2).lt)
  have B3 := hide (bel_into (unhide B2) b3)
  clear b3 X2 B2
  have x0 : w3.cell? ⟨w.heap.size, 0, none⟩ = some (sl5 a (sz c) cp 0) := (unhide X3).cell 0
  have x1 : w3.cell? ⟨w.heap.size, 1, none⟩ = some (sl5 a (sz c) cp 1) := (unhide X3).cell 1
  have x2 : w3.cell? ⟨w.heap.size, 2, none⟩ = some (sl5 a (sz c) cp 2) := (unhide X3).cell 2
  have x3 : w3.cell? ⟨w.heap.size, 3, none⟩ = some (sl5 a (sz c) cp 3) := (unhide X3).cell 3
  have x4 : w3.cell? ⟨w.heap.size, 4, none⟩ = some (sl5 a (sz c) cp 4) := (unhide X3).cell 4
  have xl := (unhide X3).lt
  go_wp2
  have bz := (unhide B3).size
  have G0 : GrI (w3.alloc (.cells #[.pointer none, .pointer none, .pointer none, .pointer none, .pointer none, .int .i64 (pl c)] 57)) w.heap.size (w3.heap.size + 1) w3.heap.size c 0 (fun _ => 0) f :=
    ⟨Box.made w3 57 _, fun k hk => by omega, bz, by omega, by simp⟩
  have B4 := hide ((unhide B3).alloc bz (.cells #[.pointer none, .pointer none, .pointer none, .pointer none, .pointer none, .int .i64 (pl c)] 57))
  have GG := hide G0
  clear G0 x0 x1 x2 x3 x4 xl X3 B3 bz FI SI PL
  generalize w3.alloc (.cells #[.pointer none, .pointer none, .pointer none, .pointer none, .pointer none, .int .i64 (pl c)] 57) = w4 at *
  generalize w3.heap.size = g at *
  go_loopw [21] (fun x wr => ∃ (i hi : Nat) (T : Nat → Nat), i ≤ 5 ∧ x = .int .i64 i ∧ GrI wr w.heap.size hi g c i T f ∧ Below w.heap.size w wr) (fun x _ => 5 - (intOf x).toNat)
  case atStart => exact ⟨0, _, _, by omega, rfl, unhide GG, unhide B4⟩
  case round =>
    obtain ⟨i, hi, T, hi5, rfl, G1, be⟩ := hrel
    have GI := hide G1
    have BE := hide be
    clear GG B4
    by_cases hlt : i < 5
    · have hlt' : (i : Int) < 5 := by omega
      have ix := unhide IX i hlt
      have TN := hide (tnew (sl5 a (sz c) cp i) (sz c i) (f i) (by have := (unhide SZ i).2; omega) (unhide HCH i hlt) wr ((unhide SRC i hlt).keep be))
      clear G1 be
      go_wp2_with fail
      refine (unhide TN).mono ?_
      rintro e w5 ⟨t, rfl, ht, b5⟩
      have GN := hide (GrI.next (unhide GI) hlt b5 ht)
      have gx := (unhide GI).below b5
      have gl := gx.box.lt
      have gf := gx.box.free i
      have gc := (gx.box.cell i).trans (grc_at _ _ i hlt)
      have hg0 := (unhide GI).low
      have BN := hide ((bel_into (unhide BE) b5).setCell (p := ⟨g, i, none⟩) hg0 (.pointer (some ⟨t, 0, none⟩)))
      clear gx b5 ht TN hg0
      go_wp2
      go_roundw
      case rel => exact ⟨i + 1, _, _, by omega, by go_num, unhide GN, unhide BN⟩
      case measure => simp [intOf]; omega
    · obtain rfl : i = 5 := by omega
      have hh := G1.hi_le
      clear G1 be
      go_wp2
      go_ret2
      exact ⟨⟨_, T, rfl, ⟨(unhide GI).box, fun k hk => tr_wide ((unhide GI).tr k hk) (Nat.le_refl _) hh (Nat.le_refl _), (unhide GI).low, Nat.lt_of_lt_of_le (unhide GI).lt hh, Nat.le_refl _⟩⟩, unhide BE⟩
end Go.Proofs.YtgjpcjnhggcfdaaDoor.HNew
