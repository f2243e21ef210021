/-
  Contracts: code.Check and all that it calls. Conditions: the slice reads as integers, and they are few.
  Contracts: the first code of each length, by the program's own way. Conditions: the slice reads as lengths from 0 to 15 whose sum is not beyond 1.
  Contracts: code.Codes. Conditions: the slice reads as integers, and they are few.
  Numbers alone: bits in turned order, by halves of words; the bits of a number, the first one highest. No conditions.
  Plain facts: what a call leaves as it was, blocks of memory, slices of bytes that are read or appended. No conditions.
-/
import Derived.Test.YtaidboopcoaeeaaDoorC01
import Derived.WalkKit
import Derived.ProofKit
import Derived.OpenShut
import Derived.WalkSpells
import Derived.Laws.BitsAllLaws
import Derived.Laws.AppendOwnNone
import Derived.Deep.QuietTactic
import Derived.BigQuiet
import Derived.Below
import Derived.WalkSmall
namespace Go.Proofs.YtaidboopcoaeeaaDoor.Chk
open Go.ChangeShapes Go.WideShapes Go.ChangeAt Go.RowKit Go.Proofs.YtaidboopcoaeeaaDoor.Core Go.Proofs.YtaidboopcoaeeaaDoor.Gnd Go.Proofs.YtaidboopcoaeeaaDoor.Math Go.Proofs.YtaidboopcoaeeaaDoor.Each Go.Proofs.YtaidboopcoaeeaaDoor.One

theorem bad19 (x : Int) (w : World) : Calls Tryd.prog 33 #[.int .i64 x] w fun e w' => e = .returned (.bool (decide (x < 0 ∨ 15 < x))) ∧ w' = w := by
  by_cases h1 : x < 0
  · have hb : decide (x < 0 ∨ 15 < x) = true := by simp [h1]
    rw [hb]
    clear hb
    go_enter Tryd.func33, Tryd.ntmps33
    go_wp2
    go_ret
    exact ⟨rfl, rfl⟩
  · by_cases h2 : 15 < x
    · have hb : decide (x < 0 ∨ 15 < x) = true := by simp [h2]
      rw [hb]
      clear hb
      go_enter Tryd.func33, Tryd.ntmps33
      go_wp2
      go_ret
      exact ⟨rfl, rfl⟩
    · have hb : decide (x < 0 ∨ 15 < x) = false := by simp; omega
      rw [hb]
      clear hb
      go_enter Tryd.func33, Tryd.ntmps33
      go_wp2
      go_ret
      exact ⟨rfl, rfl⟩
theorem idx22 (v : Value) (len : Nat) (c : Nat → Int) (hl : len ≤ 100000) (w : World) (src : Ints .i64 w v len c) :
    Calls Tryd.prog 44 #[v, .func (.func 33) #[] #[]] w fun e w' => ∃ r : Int, e = .returned (.int .i64 r) ∧ decide (0 ≤ r) = !rngB c len ∧ w' = w := by
  obtain ⟨a, cap, rfl, hs⟩ := src
  have SRC := hide hs
  clear hs
  go_enter Tryd.func44, Tryd.ntmps44
  go_wp2
  go_loopw [8] (fun i wr => ∃ k : Nat, k ≤ len ∧ i = .int .i64 k ∧ Rng c k ∧ wr = w) (fun i _ => len - (intOf i).toNat)
  case atStart => exact ⟨0, Nat.zero_le _, rfl, fun j hj => by omega, rfl⟩
  case round =>
    obtain ⟨k, hk, rfl, good, rfl⟩ := hrel
    have GOOD := hide good
    clear good
    by_cases hlt : k < len
    · have hlt' : (k : Int) < (len : Int) := by omega
      obtain ⟨b, off, rfl, hcell⟩ := unhide SRC k hlt
      by_cases hx : c k < 0 ∨ 15 < c k
      · have hb : decide (c k < 0 ∨ 15 < c k) = true := by simp [hx]
        have HX := hide hx
        clear hx
        go_wp2_with (go_at_call 33; refine (bad19 (c k) _).mono ?_; rw [hb]; rintro e w1 ⟨rfl, rfl⟩)
        go_ret
        refine ⟨_, rfl, ?_, rfl⟩
        have h1 : rngB c len = false := by
          cases h2 : rngB c len
          · rfl
          · have := (rngB_iff c len).1 h2 k hlt
            have := unhide HX
            omega
        rw [h1]
        exact decide_eq_true (by omega)
      · have hb : decide (c k < 0 ∨ 15 < c k) = false := by simp [hx]
        have HX := hide hx
        clear hx
        go_wp2_with (go_at_call 33; refine (bad19 (c k) _).mono ?_; rw [hb]; rintro e w1 ⟨rfl, rfl⟩)
        go_roundw
        case rel =>
          refine ⟨k + 1, by omega, by go_num, fun j hj => ?_, by first | rfl | trivial⟩
          by_cases e : j = k
          · subst e
            have := unhide HX
            omega
          · exact unhide GOOD j (by omega)
        case measure => simp [intOf]; omega
    · obtain rfl : k = len := by omega
      go_wp2
      go_ret
      refine ⟨_, rfl, ?_, rfl⟩
      rw [(rngB_iff c k).2 (unhide GOOD)]
      rfl
theorem con18 (v : Value) (len : Nat) (c : Nat → Int) (hl : len ≤ 100000) (w : World) (src : Ints .i64 w v len c) :
    Calls Tryd.prog 32 #[v, .func (.func 33) #[] #[]] w fun e w' => e = .returned (.bool (!rngB c len)) ∧ w' = w := by
  have SRC := hide src
  clear src
  go_enter Tryd.func32, Tryd.ntmps32
  go_wp2_with (go_at_call 44; refine (idx22 v len c hl _ (unhide SRC)).mono ?_; rintro e w1 ⟨r, rfl, hr, rfl⟩; have HR := hide hr; clear hr)
  go_ret
  exact ⟨by rw [← unhide HR]; rfl, rfl⟩
theorem half (m : Nat) (h : m ≤ 15) : (32768 : Int) / 2 ^ m = ((2 ^ (15 - m) : Nat) : Int) := by
  have h1 := pow_split h
  have h2 : ((2 ^ m : Nat) : Int) = (2 : Int) ^ m := by simp
  have h3 : (32768 : Int) = (2 : Int) ^ m * ((2 ^ (15 - m) : Nat) : Int) := by
    rw [← h2, ← Int.natCast_mul, h1]
    rfl
  have h4 : (2 : Int) ^ m ≠ 0 := by
    have : 0 < 2 ^ m := Nat.pow_pos (by omega)
    omega
  rw [h3, Int.mul_ediv_cancel_left _ h4]
theorem u64_in (n : Int) (h : 0 ≤ n ∧ n ≤ 18446744073709551615) : IntKind.u64.wrap n = n := by
  simp [IntKind.wrap, IntKind.bits, IntKind.signed]
  omega
theorem pt2_of {x : Int} {m : Nat} (h : x = (m : Int)) (h0 : m ≠ 0) : pt2 x = 2 ^ (15 - m) := by
  unfold pt2
  rw [if_neg (by omega), h]
  rfl
theorem add20 (i s : Int) (m : Nat) (g : Nat) (w : World) (b1 : Box w g 49 #[.int .u64 s]) (hs0 : 0 ≤ s) (hs : s ≤ 4000000000) (hm : m ≤ 15) :
    Calls Tryd.prog 36 (#[.int .i64 i, .int .i64 m] ++ #[.pointer (some ⟨g, 0, none⟩)]) w fun e w' =>
      e = .returned (.tuple #[]) ∧ Box w' g 49 #[.int .u64 (s + (2 ^ (15 - m) : Nat))] ∧ Upd (fun k => k = g) w w' := by
  have c1 : w.cell? ⟨g, 0, none⟩ = some (.int .u64 s) := b1.cell 0
  have f1 := b1.free 0
  have BOX := hide b1
  clear b1
  go_enter Tryd.func36, Tryd.ntmps36
  go_region
  go_end0
  have hp : 2 ^ (15 - m) ≤ 2 ^ 15 := Nat.pow_le_pow_right (by omega) (by omega)
  have e1 : IntKind.u64.wrap (s + 32768 / 2 ^ m) = s + (2 ^ (15 - m) : Nat) := by
    rw [half m hm]
    generalize 2 ^ (15 - m) = p at *
    exact u64_in _ (by omega)
  rw [e1]
  exact ⟨rfl, (unhide BOX).set 0 _, ((Upd.refl (fun k => k = g) w).setCell (p := ⟨g, 0, none⟩) (show g = g from rfl) _).drewN 1⟩
theorem upd_last {a w w' : World} {g : Nat} (u : Upd (fun k => k = g) w w') (h : Below a.heap.size a w) (hB : a.heap.size ≤ g) : Below a.heap.size a w' :=
  h.trans ⟨u.os, u.tape, u.output, u.size, fun k hk => u.block k (by have := h.size; omega) (by omega)⟩
def InvSum (w : World) (c : Nat → Int) (i : Nat) (wr : World) : Prop :=
  Box wr w.heap.size 49 #[.int .u64 (kr c i : Int)] ∧ Below w.heap.size w wr
theorem check11 (v : Value) (len : Nat) (c : Nat → Int) (hl : len ≤ 100000) (w : World) (src : Ints .i64 w v len c) :
    Calls Tryd.prog 19 #[v] w fun e w' => e = .returned (.int .i64 (chk c len)) ∧ Below w.heap.size w w' := by
  have eg : ∀ args w, (callFunc 36 args).run Tryd.prog w = .ok (.enter 36 args) w := enters_of Tryd.func36 (by kernel_rfl) rfl
  have SRC := hide src
  clear src
  by_cases hg : Rng c len
  · have HG := hide hg
    have hb : (!rngB c len) = false := by rw [(rngB_iff c len).2 hg]; rfl
    clear hg
    go_enter Tryd.func19, Tryd.ntmps19
    go_wp2_with fail
    refine (con18 v len c hl _ (unhide SRC)).mono ?_
    rw [hb]
    rintro e w0 ⟨rfl, rfl⟩
    go_wp2_with fail
    refine (one8 v len c hl _ (unhide SRC)).mono ?_
    rintro e w1 ⟨rfl, bel⟩
    have BEL := hide bel
    clear bel hb
    by_cases hm : many c len = 1
    · have hd : decide (many c len = 1) = true := by simp [hm]
      rw [hd]
      have HM := hide hm
      clear hm hd
      go_wp2
      go_ret
      refine ⟨?_, unhide BEL⟩
      apply ret_int
      unfold chk
      rw [if_pos ((rngB_iff c len).2 (unhide HG)), if_pos (Or.inl (unhide HM))]
    · have hd : decide (many c len = 1) = false := by simp [hm]
      rw [hd]
      have HM := hide hm
      clear hm hd
      go_wp2_with fail
      refine (each14 36 eg _ v len c hl (InvSum w1 c) _ (fun i wr h => ((unhide SRC).keep (unhide BEL)).keep h.2) ⟨Box.made w1 49 _, (Below.refl _ w1).alloc (Nat.le_refl _) _⟩ ?_ ?_).mono ?_
      · intro i wr hi hc h
        unfold InvSum at *
        simp only [kr, pt2, hc, if_true, Nat.add_zero]
        exact h
      · intro i wr hi hc h
        have h1 := unhide HG i hi
        have h2 := kr_le c i
        obtain ⟨m, hcm⟩ : ∃ m : Nat, c i = (m : Int) := ⟨(c i).toNat, by omega⟩
        have hm0 : m ≠ 0 := by omega
        rw [hcm]
        refine (add20 i _ m _ wr h.1 (by omega) (by omega) (by omega)).mono fun e w' ⟨e1, e2, e3⟩ => ⟨e1, ?_, upd_last e3 h.2 (Nat.le_refl _)⟩
        have : (kr c (i + 1) : Int) = (kr c i : Int) + ((2 ^ (15 - m) : Nat) : Int) := by
          simp only [kr, pt2_of hcm hm0, Int.natCast_add]
        rw [this]
        exact e2
      · rintro e w' ⟨rfl, h1, h2⟩
        have c1 : w'.cell? ⟨w1.heap.size, 0, none⟩ = some (.int .u64 (kr c len : Int)) := h1.cell 0
        have BE2 := hide (show Below w0.heap.size w0 w' from (unhide BEL).trans (h2.mono (unhide BEL).size))
        clear h1 h2
        by_cases hk : kr c len = 32768
        · have hk' : (kr c len : Int) = 32768 := by omega
          have HK := hide hk
          clear hk
          go_wp2
          go_ret
          refine ⟨?_, unhide BE2⟩
          apply ret_int
          unfold chk
          rw [if_pos ((rngB_iff c len).2 (unhide HG)), if_pos (Or.inr (unhide HK))]
        · have hk' : ¬ (kr c len : Int) = 32768 := by omega
          have HK := hide hk
          clear hk
          go_wp2
          go_ret
          refine ⟨?_, unhide BE2⟩
          apply ret_int
          unfold chk
          rw [if_pos ((rngB_iff c len).2 (unhide HG)), if_neg (fun h => h.elim (unhide HM) (unhide HK))]
  · have HG := hide hg
    have hb : (!rngB c len) = true := by rw [show rngB c len = false from eq_false_of_ne_true (fun h => hg ((rngB_iff c len).1 h))]; rfl
    clear hg
    go_enter Tryd.func19, Tryd.ntmps19
    go_wp2_with (go_at_call 32; refine (con18 v len c hl _ (unhide SRC)).mono ?_; rw [hb]; rintro e w0 ⟨rfl, rfl⟩)
    go_ret
    refine ⟨?_, Below.refl _ _⟩
    apply ret_int
    unfold chk
    rw [if_neg (fun h => unhide HG ((rngB_iff c len).1 h))]
end Go.Proofs.YtaidboopcoaeeaaDoor.Chk

namespace Go.Proofs.YtaidboopcoaeeaaDoor.Fst
open Go.ChangeShapes Go.WideShapes Go.ChangeAt Go.RowKit Go.Proofs.YtaidboopcoaeeaaDoor.Core Go.Proofs.YtaidboopcoaeeaaDoor.Gnd Go.Proofs.YtaidboopcoaeeaaDoor.Math Go.Proofs.YtaidboopcoaeeaaDoor.Each Go.Proofs.YtaidboopcoaeeaaDoor.One Go.Proofs.YtaidboopcoaeeaaDoor.Chk

theorem inc21 (i : Int) (m g : Nat) (f : Nat → Nat) (w : World) (b1 : Box w g 123 (arr f)) (hm : m ≤ 15) (hf : f m ≤ 100000) :
    Calls Tryd.prog 88 (#[.int .i64 i, .int .i64 m] ++ #[.pointer (some ⟨g, 0, none⟩)]) w fun e w' =>
      e = .returned (.tuple #[]) ∧ w' = w.setCell ⟨g, m, none⟩ (.int .u32 ((f m + 1 : Nat) : Int)) := by
  have c1 : w.cell? ⟨g, m, none⟩ = some (.int .u32 (f m)) := (b1.cell m).trans (arr_at f m (by omega))
  have f1 := b1.free m
  clear b1
  go_enter Tryd.func88, Tryd.ntmps88
  go_wp2
  go_end0
  exact ⟨rfl, by simp⟩
/-- Three rows of sixteen numbers. -/
def Three (w : World) (f g : Nat → Nat) (wr : World) : Prop :=
  Box wr w.heap.size 123 (arr (fun _ => 0)) ∧ Box wr (w.heap.size + 1) 123 (arr f) ∧ Box wr (w.heap.size + 1 + 1) 123 (arr g) ∧ Below w.heap.size w wr
theorem three_start (w : World) (x : Array Value) (hx : x = arr (fun _ => 0)) : Three w (fun _ => 0) (fun _ => 0) (((w.alloc (.cells x 123)).alloc (.cells x 123)).alloc (.cells x 123)) := by
  subst hx
  obtain ⟨h1, h2, h3⟩ := two_start w 123 123 (arr (fun _ => 0)) (arr (fun _ => 0))
  refine ⟨h1.alloc _, h2.alloc _, ?_, h3.alloc (by simp; omega) _⟩
  have := Box.made ((w.alloc (.cells (arr (fun _ => 0)) 123)).alloc (.cells (arr (fun _ => 0)) 123)) 123 (arr (fun _ => 0))
  simpa using this
theorem Three.congr {w wr : World} {f g f' g' : Nat → Nat} (h : Three w f g wr) (hf : ∀ k, k < 16 → f k = f' k) (hg : ∀ k, k < 16 → g k = g' k) : Three w f' g' wr := by
  unfold Three
  rw [← arr_congr hf, ← arr_congr hg]
  exact h
theorem Three.left {w wr : World} {f g : Nat → Nat} (h : Three w f g wr) (m z : Nat) (hm : m < 16) : Three w (fun j => if j = m then z else f j) g (wr.setCell ⟨w.heap.size + 1, m, none⟩ (.int .u32 (z : Int))) := by
  obtain ⟨h1, h2, h3, h4⟩ := h
  refine ⟨h1.other (by simp) _, ?_, h3.other (by simp) _, h4.setCell (p := ⟨w.heap.size + 1, m, none⟩) (Nat.le_succ _) _⟩
  have := h2.set m (.int .u32 (z : Int))
  rwa [arr_set _ _ _ hm] at this
theorem Three.right {w wr : World} {f g : Nat → Nat} (h : Three w f g wr) (m z : Nat) (hm : m < 16) : Three w f (fun j => if j = m then z else g j) (wr.setCell ⟨w.heap.size + 1 + 1, m, none⟩ (.int .u32 (z : Int))) := by
  obtain ⟨h1, h2, h3, h4⟩ := h
  refine ⟨h1.other (by simp; omega) _, h2.other (by simp) _, ?_, h4.setCell (p := ⟨w.heap.size + 1 + 1, m, none⟩) (by show w.heap.size ≤ w.heap.size + 1 + 1; omega) _⟩
  have := h3.set m (.int .u32 (z : Int))
  rwa [arr_set _ _ _ hm] at this
theorem Three.drew {w wr : World} {f g : Nat → Nat} (h : Three w f g wr) : Three w f g wr.drew := ⟨h.1, h.2.1, h.2.2.1, h.2.2.2.drew⟩
theorem cnt_next (c : Nat → Int) (i m : Nat) (hc : c i = (m : Int)) (hm : m ≠ 0) (k : Nat) : (if k = m then cnt c m i + 1 else cnt c k i) = cnt c k (i + 1) := by
  have : cnt c k (i + 1) = cnt c k i + if c i = (k : Int) ∧ k ≠ 0 then 1 else 0 := rfl
  rw [this]
  by_cases e : k = m
  · subst e
    rw [if_pos rfl, if_pos ⟨hc, hm⟩]
  · rw [if_neg e, if_neg (fun h => e (by omega))]
    rfl
theorem cnt_skip (c : Nat → Int) (i : Nat) (hc : c i = 0) (k : Nat) : cnt c k (i + 1) = cnt c k i := by
  have : cnt c k (i + 1) = cnt c k i + if c i = (k : Int) ∧ k ≠ 0 then 1 else 0 := rfl
  rw [this, if_neg (fun h => h.2 (by omega))]
  rfl
theorem info38 (f : Nat → Nat) : (Tryd.prog.info? 123).map (·.size) = some (arr f).size := by
  rw [arr_size]
  kernel_rfl
theorem arr_ones (f : Nat → Nat) : (arr f).all (·.oneCell') = true :=
  Array.all_eq_true_iff_forall_mem.2 fun v hv => arr_one f v (by simpa using hv)
theorem box_row {w : World} {g : Nat} {T : TypeId} {vs : Array Value} (h : Box w g T vs) (us : Array Value) : Box (w.setRow g us) g T us := setRow_heap w g vs us T (0, 0) h
theorem below_setRow {B : Nat} {a w : World} (h : Below B a w) {g : Nat} (hg : B ≤ g) (us : Array Value) : Below B a (w.setRow g us) :=
  h.trans ⟨rfl, rfl, rfl, by simp [World.setRow], fun k hk => by
    simp only [World.setRow, Array.getElem?_modify]
    rw [if_neg (by omega)]⟩
set_option maxHeartbeats 1000000 in
theorem fst16 (v : Value) (len : Nat) (c : Nat → Int) (hl : len ≤ 100000) (hg : Rng c len) (hk : kr c len ≤ 32768) (w : World) (src : Ints .i64 w v len c) :
    Calls Tryd.prog 83 #[v] w fun e w' => e = .returned (.agg (arr (fst c len))) ∧ Below w.heap.size w w' := by
  have eg : ∀ args w, (callFunc 88 args).run Tryd.prog w = .ok (.enter 88 args) w := enters_of Tryd.func88 (by kernel_rfl) rfl
  have SRC := hide src
  have HG := hide hg
  have HK := hide hk
  clear src hg hk
  go_enter Tryd.func83, Tryd.ntmps83
  go_wp2_with fail
  refine (each14 88 eg _ v len c hl (fun i => Three w (fun m => cnt c m i) (fun _ => 0)) _ (fun i wr h => (unhide SRC).keep h.2.2.2) (three_start w _ rfl) ?_ ?_).mono ?_
  · intro i wr hi hc h
    exact h.congr (fun k _ => (cnt_skip c i hc k).symm) (fun _ _ => rfl)
  · intro i wr hi hc h
    have h1 := unhide HG i hi
    obtain ⟨m, hcm⟩ : ∃ m : Nat, c i = (m : Int) := ⟨(c i).toNat, by omega⟩
    have hm0 : m ≠ 0 := by omega
    have h2 := cnt_le c m i
    rw [hcm]
    refine (inc21 i m _ _ wr h.2.1 (by omega) (by omega)).mono fun e w' ⟨e1, e2⟩ => ⟨e1, ?_⟩
    rw [e2]
    exact (h.left m _ (by omega)).congr (fun k _ => cnt_next c i m hcm hm0 k) (fun _ _ => rfl)
  · rintro e w1 ⟨rfl, h1⟩
    have H1 := hide h1
    clear h1
    go_wp2
    go_loopw [5] (fun i wr => ∃ q : Nat, q ≤ 15 ∧ i = .int .i64 (q + 1) ∧ Three w (fun m => cnt c m len) (fun j => if j ≤ q then fst c len j else 0) wr) (fun i _ => 16 - (intOf i).toNat)
    case atStart =>
      refine ⟨0, by omega, rfl, (unhide H1).congr (fun _ _ => rfl) (fun k _ => ?_)⟩
      by_cases e : k ≤ 0
      · obtain rfl : k = 0 := by omega
        rfl
      · rw [if_neg e]
    case round =>
      obtain ⟨q, hq, rfl, h3⟩ := hrel
      have H3 := hide h3
      by_cases hlt : q < 15
      · have t1 := top_cap (unhide HG) (unhide HK) q (by omega)
        have c1 : wr.cell? ⟨w.heap.size + 1, q, none⟩ = some (.int .u32 (cnt c q len)) := (h3.2.1.cell q).trans (arr_at _ q (by omega))
        have c2 : wr.cell? ⟨w.heap.size + 1 + 1, q, none⟩ = some (.int .u32 (fst c len q)) := by
          rw [h3.2.2.1.cell q, arr_at _ q (by omega), if_pos (Nat.le_refl _)]
        have c3 : wr.cell? ⟨w.heap.size + 1 + 1, q + 1, none⟩ = some (.int .u32 0) := by
          rw [h3.2.2.1.cell (q + 1), arr_at _ (q + 1) (by omega), if_neg (by omega)]
          rfl
        have f3 := h3.2.2.1.free (q + 1)
        have FS : Hid (fst c len (q + 1) = (fst c len q + cnt c q len) * 2) := rfl
        clear h3
        generalize fst c len q = x at *
        generalize cnt c q len = y at *
        go_wp2
        go_region
        go_wp2
        go_roundw
        case rel =>
          refine ⟨q + 1, by omega, by go_num, ?_⟩
          have e1 : (((x + y) * 2 : Nat) : Int) = ((x : Int) + y) * 2 := by omega
          have h4 := (unhide H3).right (q + 1) ((x + y) * 2) (by omega)
          rw [e1] at h4
          refine (h4.congr (fun _ _ => rfl) (fun k _ => ?_)).drew
          by_cases e : k = q + 1
          · subst e
            rw [if_pos rfl, if_pos (Nat.le_refl _), unhide FS]
          · rw [if_neg e]
            by_cases e2 : k ≤ q
            · rw [if_pos e2, if_pos (by omega)]
            · rw [if_neg e2, if_neg (by omega)]
        case measure => simp [intOf]; omega
      · obtain rfl : q = 15 := by omega
        have hB : Box wr (w.heap.size + 1 + 1) 123 (arr (fst c len)) := by
          rw [← arr_congr (f := fun j => if j ≤ 15 then fst c len j else 0) (fun k hk => if_pos (by omega))]
          exact h3.2.2.1
        have B0 := hide h3.1
        have BB := hide hB
        have BEL := hide h3.2.2.2
        have hz : ¬ ((15 : Nat) : Int) + 1 ≤ 15 := by omega
        clear h3 hB H3 H1 hlt
        go_wp2_with (first | (refine wpList_load_row rfl 123 (.tmp 4) rfl (w.heap.size + 1 + 1) rfl 123 (arr (fst c len)) (0, 0) _ (unhide BB) Tryd.underlying123 rfl (info38 _) ?_) | (refine wpList_store_row rfl 123 (.tmp 2) (.tmp 25) rfl w.heap.size (arr (fst c len)) rfl rfl 123 (arr (fun _ => 0)) (unhide B0) (info38 _) (by rw [arr_size, arr_size]) (arr_ones _) ?_) | fail)
        refine bodyPost_ret (results_cell_row rfl _ _ w.heap.size 123 (arr (fst c len)) (0, 0) _ rfl (box_row (unhide B0) _) Tryd.underlying123 rfl (info38 _)) rfl ⟨rfl, below_setRow (unhide BEL) (Nat.le_refl _) _⟩
end Go.Proofs.YtaidboopcoaeeaaDoor.Fst

namespace Go.Proofs.YtaidboopcoaeeaaDoor.Cod
open Go.ChangeShapes Go.WideShapes Go.ChangeAt Go.RowKit Go.Proofs.YtaidboopcoaeeaaDoor.Core Go.Proofs.YtaidboopcoaeeaaDoor.Gnd Go.Proofs.YtaidboopcoaeeaaDoor.Math Go.Proofs.YtaidboopcoaeeaaDoor.Each Go.Proofs.YtaidboopcoaeeaaDoor.One Go.Proofs.YtaidboopcoaeeaaDoor.Chk Go.Proofs.YtaidboopcoaeeaaDoor.Fst

/-- Numbers in a block. -/
def row (f : Nat → Nat) (n : Nat) : Array Value := ((List.range n).map fun k => Value.int .u32 (f k)).toArray
theorem row_size (f : Nat → Nat) (n : Nat) : (row f n).size = n := by simp [row]
theorem row_at (f : Nat → Nat) (n k : Nat) (h : k < n) : (row f n)[k]? = some (.int .u32 (f k)) := by
  simp [row, h]
theorem row_ext {xs : Array Value} {f : Nat → Nat} {n : Nat} (hs : xs.size = n) (h : ∀ j, j < n → xs[j]? = some (.int .u32 (f j))) : xs = row f n := by
  apply Array.ext_getElem?
  intro j
  by_cases hj : j < n
  · rw [h j hj, row_at _ _ _ hj]
  · rw [Array.getElem?_eq_none (by omega), Array.getElem?_eq_none (by rw [row_size]; omega)]
theorem row_set (f : Nat → Nat) (n k z : Nat) : (row f n).setIfInBounds k (.int .u32 z) = row (fun j => if j = k then z else f j) n := by
  refine row_ext (by simp [row_size]) fun j hj => ?_
  rw [Array.getElem?_setIfInBounds, row_at _ _ _ hj, row_size]
  by_cases e : k = j
  · subst e; simp [hj]
  · have : ¬ j = k := fun h => e h.symm
    simp [e, this]
theorem row_congr {f g : Nat → Nat} {n : Nat} (h : ∀ k, k < n → f k = g k) : row f n = row g n :=
  row_ext (row_size _ _) fun j hj => by rw [row_at _ _ _ hj, h j hj]
theorem row_made (n : Nat) : madeCells #[.int .u32 0] n = row (fun _ => 0) n := by
  refine row_ext (by simp [size_madeCells]) fun j hj => ?_
  simp [madeCells, hj, Nat.mod_one]
theorem info30 : (Tryd.prog.info? 31).map (fun i => (i.zero, i.size, i.bytes)) = some (some (.int .u32 0), 1, 4) := by kernel_rfl
theorem make_row (w : World) (n : Nat) (hn : n ≤ 1000000) : (Instr.makeSlice 60 (.int .i64 n) (.int .i64 n)).run Tryd.prog w = .ok (.slice (some ⟨w.heap.size, 0, none⟩) n n) (w.alloc (.cells (row (fun _ => 0) n) 31)) := by
  obtain ⟨i0, hi, hz0, hz1, hz2⟩ := info_parts info30
  have := run_make (P := Tryd.prog) w 60 31 i0 (.int .u32 0) Tryd.underlying60 hi hz0 .i64 .i64 n n (by omega) (by omega) (by rw [hz2]; omega) (by omega)
  rw [hz1] at this
  rw [this]
  simp [Value.cells, row_made]
theorem put17 (i m len cap g g2 r : Nat) (f d : Nat → Nat) (w : World) (b1 : Box w g 123 (arr f)) (b2 : Box w g2 60 #[.slice (some ⟨r, 0, none⟩) len cap]) (b3 : Box w r 31 (row d len)) (hi : i < len) (hm : m ≤ 15) (hf : f m ≤ 100000)
    (hgr : g ≠ r) :
    Calls Tryd.prog 84 (#[.int .i64 i, .int .i64 m] ++ #[.pointer (some ⟨g, 0, none⟩), .pointer (some ⟨g2, 0, none⟩)]) w fun e w' =>
      e = .returned (.tuple #[]) ∧ w' = ((w.setCell ⟨r, i, none⟩ (.int .u32 (f m))).drew.setCell ⟨g, m, none⟩ (.int .u32 ((f m + 1 : Nat) : Int))) := by
  have c1 : w.cell? ⟨g, m, none⟩ = some (.int .u32 (f m)) := (b1.cell m).trans (arr_at f m (by omega))
  have c2 : w.cell? ⟨g2, 0, none⟩ = some (.slice (some ⟨r, 0, none⟩) len cap) := b2.cell 0
  have c3 : w.cell? ⟨r, i, none⟩ = some (.int .u32 (d i)) := (b3.cell i).trans (row_at d len i hi)
  have f3 := b3.free i
  have b4 := b1.other (p := ⟨r, i, none⟩) hgr (.int .u32 (f m))
  have c4 : ∀ u, (w.setCell ⟨r, i, none⟩ u).cell? ⟨g, m, none⟩ = some (.int .u32 (f m)) := fun u => ((b1.other (p := ⟨r, i, none⟩) hgr u).cell m).trans (arr_at f m (by omega))
  have f4 : ∀ u, (w.setCell ⟨r, i, none⟩ u).frozen? ⟨g, m, none⟩ = false := fun u => (b1.other (p := ⟨r, i, none⟩) hgr u).free m
  have hii : (i : Int) < len := by omega
  clear b1 b2 b3 b4
  go_enter Tryd.func84, Tryd.ntmps84
  go_wp2
  go_region
  go_wp2
  go_end0
  exact ⟨rfl, by simp; rfl⟩
/-- What Codes has made behind the first i lengths. -/
def InvCod (w : World) (n : Nat) (c : Nat → Int) (len i : Nat) (wr : World) : Prop :=
  Box wr n 123 (arr (fun m => fst c len m + cnt c m i)) ∧ Box wr (n + 1) 31 (row (fun k => if k < i then cod c len k else 0) len) ∧ Box wr (n + 1 + 1) 60 #[.slice (some ⟨n + 1, 0, none⟩) len len] ∧ Below w.heap.size w wr
theorem InvCod.next {w wr : World} {n len i m : Nat} {c : Nat → Int} (h : InvCod w n c len i wr) (hn : w.heap.size ≤ n) (hc : c i = (m : Int)) (h0 : m ≠ 0) (hm : m ≤ 15) :
    InvCod w n c len (i + 1) ((wr.setCell ⟨n + 1, i, none⟩ (.int .u32 ((fst c len m + cnt c m i : Nat) : Int))).drew.setCell ⟨n, m, none⟩ (.int .u32 ((fst c len m + cnt c m i + 1 : Nat) : Int))) := by
  obtain ⟨h1, h2, h3, h4⟩ := h
  refine ⟨?_, ?_, ?_, (h4.setCell (p := ⟨n + 1, i, none⟩) (by show w.heap.size ≤ n + 1; omega) _).drew.setCell (p := ⟨n, m, none⟩) hn _⟩
  · have h5 : Box (wr.setCell ⟨n + 1, i, none⟩ (.int .u32 ((fst c len m + cnt c m i : Nat) : Int))).drew n 123 (arr (fun m => fst c len m + cnt c m i)) := h1.other (p := ⟨n + 1, i, none⟩) (by simp) _
    have h6 := h5.set m (.int .u32 ((fst c len m + cnt c m i + 1 : Nat) : Int))
    rw [arr_set _ _ _ (by omega)] at h6
    rw [arr_congr (g := fun j => if j = m then fst c len m + cnt c m i + 1 else fst c len j + cnt c j i) (fun k _ => ?_)]
    · exact h6
    · have h7 := cnt_next c i m hc h0 k
      by_cases e : k = m
      · subst e
        rw [if_pos rfl] at h7 ⊢
        omega
      · rw [if_neg e] at h7 ⊢
        omega
  · have h5 : Box (wr.setCell ⟨n + 1, i, none⟩ (.int .u32 ((fst c len m + cnt c m i : Nat) : Int))).drew (n + 1) 31 ((row (fun k => if k < i then cod c len k else 0) len).setIfInBounds i (.int .u32 ((fst c len m + cnt c m i : Nat) : Int))) := h2.set i _
    rw [row_set] at h5
    have h6 := h5.other (p := ⟨n, m, none⟩) (by simp) (.int .u32 ((fst c len m + cnt c m i + 1 : Nat) : Int))
    rw [row_congr (g := fun j => if j = i then fst c len m + cnt c m i else if j < i then cod c len j else 0) (fun k _ => ?_)]
    · exact h6
    · by_cases e : k = i
      · subst e
        rw [if_pos rfl, if_pos (by omega), cod_of m hc h0]
      · rw [if_neg e]
        by_cases e2 : k < i
        · rw [if_pos e2, if_pos (by omega)]
        · rw [if_neg e2, if_neg (by omega)]
  · have h5 : Box (wr.setCell ⟨n + 1, i, none⟩ (.int .u32 ((fst c len m + cnt c m i : Nat) : Int))).drew (n + 1 + 1) 60 #[.slice (some ⟨n + 1, 0, none⟩) len len] := h3.other (p := ⟨n + 1, i, none⟩) (by simp) _
    exact h5.other (p := ⟨n, m, none⟩) (by simp; omega) _
theorem InvCod.skip {w wr : World} {n len i : Nat} {c : Nat → Int} (h : InvCod w n c len i wr) (hc : c i = 0) : InvCod w n c len (i + 1) wr := by
  obtain ⟨h1, h2, h3, h4⟩ := h
  refine ⟨?_, ?_, h3, h4⟩
  · rw [arr_congr (g := fun m => fst c len m + cnt c m i) (fun k _ => by rw [cnt_skip c i hc k])]
    exact h1
  · rw [row_congr (g := fun k => if k < i then cod c len k else 0) (fun k _ => ?_)]
    · exact h2
    · by_cases e : k = i
      · subst e
        rw [if_pos (by omega), if_neg (by omega)]
        unfold cod
        rw [if_pos hc]
      · by_cases e2 : k < i
        · rw [if_pos e2, if_pos (by omega)]
        · rw [if_neg e2, if_neg (by omega)]
theorem InvCod.ints {w wr : World} {n len : Nat} {c : Nat → Int} (h : InvCod w n c len len wr) : Ints .u32 wr (.slice (some ⟨n + 1, 0, none⟩) len len) len (fun k => (cod c len k : Int)) :=
  ⟨_, _, rfl, fun i hi => ⟨n + 1, 0, rfl, by
    rw [h.2.1.cell, Nat.zero_add, row_at _ _ _ hi, if_pos hi]⟩⟩
theorem codes_no (v : Value) (len : Nat) (c : Nat → Int) (hl : len ≤ 100000) (h : chk c len ≠ 0) (w : World) (src : Ints .i64 w v len c) :
    Calls Tryd.prog 74 #[v] w fun e w' => e = .returned (.slice none 0 0) ∧ Below w.heap.size w w' := by
  have SRC := hide src
  clear src
  go_enter Tryd.func74, Tryd.ntmps74
  go_wp2_with (go_at_call 19; refine (check11 v len c hl _ (unhide SRC)).mono ?_; rintro e w1 ⟨rfl, bel⟩; have BEL := hide bel; clear bel)
  go_ret
  exact ⟨rfl, unhide BEL⟩
set_option maxHeartbeats 1000000 in
theorem codes_new (v : Value) (len : Nat) (c : Nat → Int) (hl : len ≤ 100000) (h : chk c len = 0) (w : World) (src : Ints .i64 w v len c) :
    Calls Tryd.prog 74 #[v] w fun e w' => ∃ b, e = .returned (.slice (some ⟨b, 0, none⟩) len len) ∧ w.heap.size ≤ b ∧ Ints .u32 w' (.slice (some ⟨b, 0, none⟩) len len) len (fun k => (cod c len k : Int)) ∧ Below w.heap.size w w' := by
  have eg : ∀ args w, (callFunc 84 args).run Tryd.prog w = .ok (.enter 84 args) w := enters_of Tryd.func84 (by kernel_rfl) rfl
  obtain ⟨hg, _, hk⟩ := chk_zero h
  have HG := hide hg
  have HK := hide hk
  have SRC := hide src
  have hmk := fun w => make_row w len (by omega)
  obtain ⟨a, cap, rfl, _⟩ := src
  clear hg hk
  go_enter Tryd.func74, Tryd.ntmps74
  go_wp2_with fail
  refine (check11 _ len c hl _ (unhide SRC)).mono ?_
  rw [h]
  rintro e w1 ⟨rfl, b1⟩
  have B1 := hide b1
  clear b1 h
  go_wp2_with fail
  refine (fst16 _ len c hl (unhide HG) (unhide HK) _ ((unhide SRC).keep (unhide B1))).mono ?_
  rintro e w2 ⟨rfl, b2⟩
  have B2 := hide (show Below w.heap.size w w2 from (unhide B1).trans (b2.mono (unhide B1).size))
  clear b2 B1
  go_wp2_with (first | (refine wpList_store_row rfl 123 (.tmp 3) (.tmp 9) rfl w2.heap.size (arr (fst c len)) rfl rfl 123 (arr (fun _ => 0)) (Box.made w2 123 _) (info38 _) (by rw [arr_size, arr_size]) (arr_ones _) ?_) | fail)
  have hst : ∀ x : Array Value, x = arr (fun _ => 0) → InvCod w w2.heap.size c len 0 ((((w2.alloc (.cells x 123)).setRow w2.heap.size (arr (fst c len))).alloc (.cells (row (fun _ => 0) len) 31)).alloc (.cells #[.slice (some ⟨w2.heap.size + 1, 0, none⟩) len len] 60)) := by
    intro x hx
    subst hx
    have h1 := box_row (Box.made w2 123 (arr (fun _ => 0))) (arr (fst c len))
    have s1 : ((w2.alloc (.cells (arr (fun _ => 0)) 123)).setRow w2.heap.size (arr (fst c len))).heap.size = w2.heap.size + 1 := by simp
    have h2 := Box.made ((w2.alloc (.cells (arr (fun _ => 0)) 123)).setRow w2.heap.size (arr (fst c len))) 31 (row (fun _ => 0) len)
    rw [s1] at h2
    have s2 : (((w2.alloc (.cells (arr (fun _ => 0)) 123)).setRow w2.heap.size (arr (fst c len))).alloc (.cells (row (fun _ => 0) len) 31)).heap.size = w2.heap.size + 1 + 1 := by simp
    have h3 := Box.made (((w2.alloc (.cells (arr (fun _ => 0)) 123)).setRow w2.heap.size (arr (fst c len))).alloc (.cells (row (fun _ => 0) len) 31)) 60 #[.slice (some ⟨w2.heap.size + 1, 0, none⟩) len len]
    rw [s2] at h3
    have sz := (unhide B2).size
    refine ⟨?_, ?_, h3, ((below_setRow ((unhide B2).alloc sz _) sz _).alloc (by omega) _).alloc (by omega) _⟩
    · rw [arr_congr (g := fst c len) (fun k _ => rfl)]
      exact (h1.alloc _).alloc _
    · rw [row_congr (g := fun _ => 0) (fun k _ => if_neg (Nat.not_lt_zero _))]
      exact h2.alloc _
  refine (each14 84 eg _ _ len c hl (InvCod w w2.heap.size c len) _ (fun i wr h => (unhide SRC).keep h.2.2.2) (hst _ rfl) (fun i wr _ hc h => h.skip hc) ?_).mono ?_
  · intro i wr hi hc h
    have h1 := unhide HG i hi
    obtain ⟨m, hcm⟩ : ∃ m : Nat, c i = (m : Int) := ⟨(c i).toNat, by omega⟩
    have hm0 : m ≠ 0 := by omega
    have h2 := top_cap (unhide HG) (unhide HK) m (by omega)
    have h3 := cnt_lt c m hi hcm hm0
    rw [hcm]
    refine (put17 i m len len _ _ _ _ _ wr h.1 h.2.2.1 h.2.1 hi (by omega) (by omega) (by omega)).mono fun e w' ⟨e1, e2⟩ => ⟨e1, ?_⟩
    rw [e2]
    exact h.next (unhide B2).size hcm hm0 (by omega)
  · rintro e w3 ⟨rfl, h1⟩
    have c1 : w3.cell? ⟨w2.heap.size + 1 + 1, 0, none⟩ = some (.slice (some ⟨w2.heap.size + 1, 0, none⟩) len len) := h1.2.2.1.cell 0
    have H1 := hide h1
    clear h1 hst
    go_wp2
    go_ret
    exact ⟨_, rfl, by have := (unhide B2).size; omega, (unhide H1).ints, (unhide H1).2.2.2⟩
theorem codes10 (v : Value) (len : Nat) (c : Nat → Int) (hl : len ≤ 100000) (h : chk c len = 0) (w : World) (src : Ints .i64 w v len c) :
    Calls Tryd.prog 74 #[v] w fun e w' => ∃ v', e = .returned v' ∧ Ints .u32 w' v' len (fun k => (cod c len k : Int)) ∧ Below w.heap.size w w' :=
  (codes_new v len c hl h w src).mono fun _ _ ⟨_, e, _, h2, h3⟩ => ⟨_, e, h2, h3⟩
end Go.Proofs.YtaidboopcoaeeaaDoor.Cod

namespace Go.Proofs.YtaidboopcoaeeaaDoor.Rvm

/-- The lowest n bits of v, the last of them first. -/
def rv : Nat → Nat → Nat
  | 0, _ => 0
  | n + 1, v => v % 2 * 2 ^ n + rv n (v / 2)
theorem rv_lt : ∀ n v, rv n v < 2 ^ n
  | 0, _ => by simp [rv]
  | n + 1, v => by
    have h := rv_lt n (v / 2)
    have h2 : v % 2 * 2 ^ n ≤ 1 * 2 ^ n := Nat.mul_le_mul_right _ (by omega)
    simp only [rv]
    rw [Nat.pow_succ]
    omega
theorem rv_bit : ∀ n v i, (rv n v).testBit i = (decide (i < n) && v.testBit (n - 1 - i))
  | 0, v, i => by simp [rv]
  | n + 1, v, i => by
    have ih := rv_bit n (v / 2) i
    have hl := rv_lt n (v / 2)
    simp only [rv]
    rw [Nat.mul_comm, Nat.testBit_two_pow_mul_add _ hl]
    by_cases h : i < n
    · rw [if_pos h, ih]
      have e : n + 1 - 1 - i = (n - 1 - i) + 1 := by omega
      rw [e, Nat.testBit_succ]
      simp [h, show i < n + 1 by omega]
    · rw [if_neg h]
      by_cases h2 : i = n
      · subst h2
        have e : i + 1 - 1 - i = 0 := by omega
        rw [e, Nat.sub_self]
        simp only [Nat.testBit_zero]
        simp
      · have h3 : ¬ i < n + 1 := by omega
        rw [Nat.testBit_lt_two_pow (Nat.lt_of_lt_of_le (Nat.mod_lt v (by omega)) (show 2 ≤ 2 ^ (i - n) from Nat.pow_le_pow_right (n := 2) (i := 1) (by omega) (by omega)))]
        simp [h3]
theorem rv_top (n v : Nat) (h : n ≤ 32) : rv 32 v / 2 ^ (32 - n) = rv n v := by
  apply Nat.eq_of_testBit_eq
  intro i
  rw [← Nat.shiftRight_eq_div_pow, Nat.testBit_shiftRight, rv_bit, rv_bit]
  by_cases hi : i < n
  · simp only [hi, show 32 - n + i < 32 by omega, decide_true, Bool.true_and]
    congr 1
    omega
  · simp [hi, show ¬ 32 - n + i < 32 by omega]
theorem rv_rv (n v : Nat) (h : v < 2 ^ n) : rv n (rv n v) = v := by
  apply Nat.eq_of_testBit_eq
  intro i
  rw [rv_bit, rv_bit]
  by_cases hi : i < n
  · simp only [hi, show n - 1 - i < n by omega, decide_true, Bool.true_and]
    congr 1
    omega
  · rw [Nat.testBit_lt_two_pow (Nat.lt_of_lt_of_le h (Nat.pow_le_pow_right (by omega) (show n ≤ i by omega)))]
    simp [hi]
theorem rv_zero (n : Nat) : rv n 0 = 0 := by
  apply Nat.eq_of_testBit_eq
  intro i
  rw [rv_bit]
  simp
theorem rv_snoc (m x b : Nat) (hx : x < 2 ^ m) (hb : b ≤ 1) : rv (m + 1) (x + b * 2 ^ m) = 2 * rv m x + b := by
  apply Nat.eq_of_testBit_eq
  intro i
  rw [rv_bit, Nat.add_comm x, Nat.mul_comm b, Nat.testBit_two_pow_mul_add _ hx]
  have hl : b < 2 ^ 1 := by omega
  rw [show 2 * rv m x + b = 2 ^ 1 * rv m x + b from rfl, Nat.testBit_two_pow_mul_add _ hl, rv_bit]
  by_cases h0 : i = 0
  · subst h0
    rw [if_neg (by omega), if_pos (by omega)]
    simp
  · rw [if_neg (show ¬ i < 1 by omega)]
    by_cases hi : i < m + 1
    · rw [if_pos (by omega)]
      simp only [hi, show i - 1 < m by omega, decide_true, Bool.true_and]
      congr 1
      omega
    · simp [hi, show ¬ i - 1 < m by omega]

/-- Parts of s bits each, changed two by two. -/
def swp (s M x : Nat) : Nat := (x / 2 ^ s &&& M) ||| (x &&& M) * 2 ^ s
theorem swp_bit (s M x i : Nat) : (swp s M x).testBit i = ((x.testBit (s + i) && M.testBit i) || (decide (s ≤ i) && (x.testBit (i - s) && M.testBit (i - s)))) := by
  unfold swp
  rw [Nat.testBit_or, Nat.testBit_and, ← Nat.shiftRight_eq_div_pow, Nat.testBit_shiftRight, ← Nat.shiftLeft_eq, Nat.testBit_shiftLeft, Nat.testBit_and]
theorem swp_lt (s M x k : Nat) (h : M < 2 ^ k) (h2 : M * 2 ^ s < 2 ^ k) : swp s M x < 2 ^ k := by
  unfold swp
  refine Nat.or_lt_two_pow ?_ ?_
  · exact Nat.lt_of_le_of_lt Nat.and_le_right h
  · exact Nat.lt_of_le_of_lt (Nat.mul_le_mul_right _ Nat.and_le_right) h2
def rev32 (x : Nat) : Nat := swp 8 16711935 (swp 4 252645135 (swp 2 858993459 (swp 1 1431655765 x)))
def rev (x : Nat) : Nat := rev32 x / 65536 ||| rev32 x * 65536 % 4294967296
theorem m1 : ∀ i, i < 64 → (1431655765 : Nat).testBit i = (decide (i < 32) && decide (i % 2 = 0)) := by decide
theorem m2 : ∀ i, i < 64 → (858993459 : Nat).testBit i = (decide (i < 32) && decide (i / 2 % 2 = 0)) := by decide
theorem m4 : ∀ i, i < 64 → (252645135 : Nat).testBit i = (decide (i < 32) && decide (i / 4 % 2 = 0)) := by decide
theorem m8 : ∀ i, i < 64 → (16711935 : Nat).testBit i = (decide (i < 32) && decide (i / 8 % 2 = 0)) := by decide
theorem rev32_lt (x : Nat) : rev32 x < 4294967296 := swp_lt 8 16711935 _ 32 (by decide) (by decide)
theorem swp_at (s M x : Nat) (hM : ∀ i, i < 64 → M.testBit i = (decide (i < 32) && decide (i / s % 2 = 0))) (i : Nat) (hi : i < 32) (hs : 0 < s) : (swp s M x).testBit i = if i / s % 2 = 0 then x.testBit (i + s) else x.testBit (i - s) := by
  rw [swp_bit, hM i (by omega), hM (i - s) (by omega)]
  by_cases h : i / s % 2 = 0
  · simp only [hi, h, decide_true, Bool.and_true, if_true, Nat.add_comm s i]
    by_cases h2 : s ≤ i
    · have e : i / s = (i - s) / s + 1 := by
        rw [← Nat.add_div_right _ hs, Nat.sub_add_cancel h2]
      have h3 : ¬ (i - s) / s % 2 = 0 := by omega
      simp [h3]
    · simp [h2]
  · have h2 : s ≤ i := by
      rcases Nat.lt_or_ge i s with h3 | h3
      · rw [Nat.div_eq_of_lt h3] at h; omega
      · exact h3
    have e : i / s = (i - s) / s + 1 := by
      rw [← Nat.add_div_right _ hs, Nat.sub_add_cancel h2]
    have h3 : (i - s) / s % 2 = 0 := by omega
    simp [h, h2, h3, show i - s < 32 by omega]
theorem rev_eq (x : Nat) (_ : x < 4294967296) : rev x = rv 32 x := by
  apply Nat.eq_of_testBit_eq
  intro i
  rw [rv_bit]
  unfold rev
  rw [Nat.testBit_or, show rev32 x / 65536 = rev32 x >>> 16 from (Nat.shiftRight_eq_div_pow _ 16).symm, Nat.testBit_shiftRight, show rev32 x * 65536 % 4294967296 = (rev32 x <<< 16) % 2 ^ 32 by rw [Nat.shiftLeft_eq], Nat.testBit_mod_two_pow, Nat.testBit_shiftLeft]
  have hz : ∀ j, 32 ≤ j → (rev32 x).testBit j = false := fun j hj => Nat.testBit_lt_two_pow (Nat.lt_of_lt_of_le (rev32_lt x) (Nat.pow_le_pow_right (n := 2) (i := 32) (by omega) hj))
  have hb : ∀ j, j < 32 → (rev32 x).testBit j = x.testBit ((j / 16) * 16 + (15 - j % 16)) := by
    intro j hj
    unfold rev32
    have a8 := fun y k hk => swp_at 8 16711935 y m8 k hk (by omega)
    have a4 := fun y k hk => swp_at 4 252645135 y m4 k hk (by omega)
    have a2 := fun y k hk => swp_at 2 858993459 y m2 k hk (by omega)
    have a1 := fun y k hk => swp_at 1 1431655765 y (fun i hi => by rw [m1 i hi, Nat.div_one]) k hk (by omega)
    have b8 : ∀ y, (swp 8 16711935 y).testBit j = y.testBit (if j / 8 % 2 = 0 then j + 8 else j - 8) := fun y => by rw [a8 y j hj]; split <;> rfl
    rw [b8]
    generalize hk8 : (if j / 8 % 2 = 0 then j + 8 else j - 8) = j8
    have l8 : j8 < 32 := by rw [← hk8]; split <;> omega
    have b4 : ∀ y, (swp 4 252645135 y).testBit j8 = y.testBit (if j8 / 4 % 2 = 0 then j8 + 4 else j8 - 4) := fun y => by rw [a4 y j8 l8]; split <;> rfl
    rw [b4]
    generalize hk4 : (if j8 / 4 % 2 = 0 then j8 + 4 else j8 - 4) = j4
    have l4 : j4 < 32 := by rw [← hk4]; split <;> omega
    have b2 : ∀ y, (swp 2 858993459 y).testBit j4 = y.testBit (if j4 / 2 % 2 = 0 then j4 + 2 else j4 - 2) := fun y => by rw [a2 y j4 l4]; split <;> rfl
    rw [b2]
    generalize hk2 : (if j4 / 2 % 2 = 0 then j4 + 2 else j4 - 2) = j2
    have l2 : j2 < 32 := by rw [← hk2]; split <;> omega
    have b1 : ∀ y, (swp 1 1431655765 y).testBit j2 = y.testBit (if j2 / 1 % 2 = 0 then j2 + 1 else j2 - 1) := fun y => by rw [a1 y j2 l2]; split <;> rfl
    rw [b1]
    congr 1
    have key : ∀ j, j < 32 → (fun j2 => if j2 / 1 % 2 = 0 then j2 + 1 else j2 - 1) ((fun j4 => if j4 / 2 % 2 = 0 then j4 + 2 else j4 - 2) ((fun j8 => if j8 / 4 % 2 = 0 then j8 + 4 else j8 - 4) (if j / 8 % 2 = 0 then j + 8 else j - 8))) = (j / 16) * 16 + (15 - j % 16) := by decide
    have := key j hj
    rw [hk8] at this
    simp only [hk4, hk2] at this
    exact this
  by_cases hi : i < 32
  · by_cases h16 : i < 16
    · rw [hb (16 + i) (by omega)]
      have hn : ¬ 16 ≤ i := by omega
      have e : (16 + i) / 16 * 16 + (15 - (16 + i) % 16) = 32 - 1 - i := by omega
      rw [e]
      simp [hi, hn]
    · rw [hz (16 + i) (by omega), hb (i - 16) (by omega)]
      have e : (i - 16) / 16 * 16 + (15 - (i - 16) % 16) = 32 - 1 - i := by omega
      rw [e]
      simp [hi, show 16 ≤ i by omega]
  · rw [hz (16 + i) (by omega)]
    simp [hi]
end Go.Proofs.YtaidboopcoaeeaaDoor.Rvm

namespace Go.Proofs.YtaidboopcoaeeaaDoor.Core
open Go.ChangeShapes Go.WideShapes Go.ChangeAt Go.RowKit

/-- A slice of bytes that came in: nil, or somewhere, its bytes told by c. -/
def Src (w : World) (v : Value) (len : Nat) (c : Nat → Nat) : Prop :=
  (v = .slice none 0 0 ∧ len = 0) ∨ ∃ x cap, v = .slice (some x) len cap ∧ ∀ k, k < len → w.cell? (x.add k) = some (.int .u8 (c k))
theorem Src.keep {S : Nat → Prop} {w w' : World} {v : Value} {len : Nat} {c : Nat → Nat} (h : Src w v len c) (u : Upd S w w') (hs : ∀ k, S k → w.heap.size ≤ k) : Src w' v len c := by
  rcases h with h | ⟨x, cap, e, hc⟩
  · exact .inl h
  · exact .inr ⟨x, cap, e, fun k hk => (u.cell (lt_of_cell (hc k hk)) (fun h => by have := hs _ h; have := lt_of_cell (hc k hk); omega)).trans (hc k hk)⟩
theorem src_at {w : World} {a : Addr} {n : Nat} {c : Nat → Nat} (h : ∀ i, i < n → w.cell? (a.add i) = some (.int .u8 (c i))) (hp : 0 < n) :
    ∃ b off, a = ⟨b, off, none⟩ ∧ ∀ j, j < n → w.cell? ⟨b, off + j, none⟩ = some (.int .u8 (c j)) := by
  obtain ⟨b, off, spot⟩ := a
  have hspot : spot = none := by simpa [Addr.add] using World.cell?_spot (h 0 hp)
  subst hspot
  exact ⟨b, off, rfl, fun j hj => by rw [← Go.WideShapes.add_plain]; exact h j hj⟩
theorem src_of_row {w : World} {a : Option Addr} {len cap : Nat} {zs : List Int}
    (h : (a = none ∧ len = 0 ∧ cap = 0 ∧ zs = []) ∨
      ∃ x, a = some x ∧ len ≤ cap ∧ cap ≤ maxLen ∧ zs.length = cap ∧ (∀ i, i < zs.length → w.cell? (x.add i) = some (.int .u8 (zs.getD i 0))) ∧ ∀ n ∈ zs, (Lit.int .u8 n).wf = true) :
    ∃ c : Nat → Nat, (∀ k, c k ≤ 255) ∧ Src w (.slice a len cap) len c := by
  rcases h with ⟨rfl, rfl, rfl, _⟩ | ⟨x, rfl, h1, h2, hz, hc, hwf⟩
  · exact ⟨fun _ => 0, fun _ => Nat.zero_le _, .inl ⟨rfl, rfl⟩⟩
  · have hbd : ∀ k, 0 ≤ zs.getD k 0 ∧ zs.getD k 0 ≤ 255 := fun k => by
      by_cases hk : k < zs.length
      · have hx : zs.getD k 0 ∈ zs := by
          rw [List.getD_eq_getElem?_getD, List.getElem?_eq_getElem hk]; exact List.getElem_mem hk
        exact bounds_u8 (hwf _ hx)
      · rw [List.getD_eq_getElem?_getD, List.getElem?_eq_none (by omega)]; simp
    refine ⟨fun k => (zs.getD k 0).toNat, fun k => by have := hbd k; simp only; omega, .inr ⟨x, cap, rfl, fun k hk => ?_⟩⟩
    rw [hc k (by omega)]
    have e : (((zs.getD k 0).toNat : Nat) : Int) = zs.getD k 0 := by have := hbd k; omega
    simp only [e]
/-- Bytes as cells. -/
def cells (c : Nat → Nat) (n : Nat) : List Value := (List.range n).map fun k => .int .u8 (c k)
theorem cells_len (c : Nat → Nat) (n : Nat) : (cells c n).length = n := by simp [cells]
theorem cells_at (c : Nat → Nat) (n k : Nat) (h : k < n) : (cells c n)[k]? = some (.int .u8 (c k)) := by
  simp [cells, h]
theorem cells_one (c : Nat → Nat) (n : Nat) : ∀ u ∈ cells c n, u.oneCell' = true := by
  intro u hu
  obtain ⟨_, _, rfl⟩ := List.mem_map.1 hu
  rfl
theorem news_of {w : World} {n : Nat} {x : Addr} {c : Nat → Nat} (h : ∀ k, k < n → w.cell? (x.add k) = some (.int .u8 (c k))) :
    ∀ j u, (cells c n)[j]? = some u → w.cell? (x.add j) = some u := by
  intro j u hu
  have hj : j < n := by
    have := (List.getElem?_eq_some_iff.1 hu).1
    rwa [cells_len] at this
  rw [cells_at c n j hj] at hu
  rw [h j hj]
  exact hu

/-- What a copy hands back. -/
def Got (w : World) (lo : Nat) (v : Value) (len : Nat) (c : Nat → Nat) : Prop :=
  ∃ a cap, v = .slice a len cap ∧ (len = 0 ∨ ∃ b, a = some ⟨b, 0, none⟩ ∧ lo ≤ b ∧ b < w.heap.size ∧ ∀ k, k < len → w.cell? ⟨b, k, none⟩ = some (.int .u8 (c k)))

theorem got_of {w : World} {base : Nat} {v : Value} {len : Nat} {c : Nat → Nat} (h : w.ownsRow base 5 1 v len (cells c len)) : Got w base v len c := by
  have hlt := h.lt
  rcases h.2 with ⟨rfl, h0⟩ | ⟨g, cap, cur, rfl, _⟩
  · exact ⟨none, 0, by rw [h0], .inl h0⟩
  · exact ⟨_, cap, rfl, .inr ⟨g, rfl, (hlt g rfl).1, (hlt g rfl).2, fun k hk => (h.cellAt k (by omega)).trans (cells_at c len k hk)⟩⟩

theorem Tryd.info5 : (Tryd.prog.info? 5).map (fun i => (i.zero, i.size, i.bytes)) = some (some (.int .u8 0), 1, 1) := by kernel_rfl
theorem grown_refl (w : World) (row : Option Nat) : w.grownBy w row := ⟨rfl, rfl, rfl, Nat.le_refl _, fun _ _ _ => rfl⟩
theorem app_src {w : World} {ops : Array Oper} {rest : List Oper} {o : Oper} {a : Act} {Q : Exit → Act → World → Prop} (hgd : o.guard = none) (s x : Operand)
    (ho : o.op = .call { callee := .builtin .append, args := #[s, x], argTypes := #[34, 34] })
    (base : Nat) (v : Value) (n : Nat) (xs : List Value) (hs : a.eval s = v) (hown : w.ownsRow base 5 1 v n xs)
    (u : Value) (len : Nat) (c : Nat → Nat) (hx : a.eval x = u) (src : Src w u len c) (hn : n + len ≤ 1000000) (hbase : base ≤ w.heap.size)
    (h : ∀ v' w', w'.ownsRow base 5 1 v' (n + len) (xs ++ cells c len) → w.grownBy w' v.ownBlock → wpList Tryd.prog ops Q rest (a.put o.dst v') w') : wpList Tryd.prog ops Q (o :: rest) a w := by
  obtain ⟨i0, hi, hz0, hz1, hz2⟩ := info_parts Tryd.info5
  rcases src with ⟨rfl, rfl⟩ | ⟨ad, cap, rfl, hc⟩
  · refine wpList_append_own_none hgd s x 34 ho base 5 i0 1 Tryd.underlying34 hi v n xs hs hown hx (h v w ?_ (grown_refl _ _))
    rw [show cells c 0 = [] from rfl, List.append_nil]
    exact hown
  · exact wpList_append_own w hgd s x 34 ho base 5 i0 (.int .u8 0) 1 1 Tryd.underlying34 hi hz0 hz1 hz2 rfl (by decide) v n xs hs hown ad len cap (cells c len) hx (by rw [cells_len, Nat.mul_one])
      (news_of hc) (cells_one _ _) (by unfold maxLen; omega) (by omega) hbase (fun v' w' h1 h2 _ => h v' w' h1 h2)
theorem own_slice {w : World} {base n : Nat} {v : Value} {xs : List Value} (h : w.ownsRow base 5 1 v n xs) : ∃ a cap, v = .slice a n cap := by
  rcases h.2 with ⟨rfl, h0⟩ | ⟨g, cap, cur, rfl, _⟩
  · exact ⟨none, 0, by rw [h0]⟩
  · exact ⟨_, _, rfl⟩
theorem src_of_own {w : World} {base n : Nat} {v : Value} {c : Nat → Nat} (h : w.ownsRow base 5 1 v n (cells c n)) : Src w v n c := by
  rcases h.2 with ⟨rfl, h0⟩ | ⟨g, cap, cur, rfl, _⟩
  · exact .inl ⟨rfl, h0⟩
  · exact .inr ⟨_, cap, rfl, fun k hk => by rw [add_plain, Nat.zero_add]; exact (h.cellAt k (by omega)).trans (cells_at c n k hk)⟩
theorem cells_set (c : Nat → Nat) (n k z : Nat) : (cells c n).set k (.int .u8 z) = cells (fun j => if j = k then z else c j) n := by
  apply List.ext_getElem?
  intro j
  rw [List.getElem?_set]
  by_cases hj : j < n
  · rw [cells_at _ n j hj, cells_at _ n j hj, cells_len]
    by_cases e : k = j
    · subst e; simp [hj]
    · have : ¬ j = k := fun h => e h.symm
      simp [e, this]
  · rw [List.getElem?_eq_none (l := cells c n) (by rw [cells_len]; omega), List.getElem?_eq_none (l := cells _ n) (by rw [cells_len]; omega), cells_len]
    split
    · rw [if_neg (by omega)]
    · rfl
end Go.Proofs.YtaidboopcoaeeaaDoor.Core
