/-
  Contracts: code.One; slices.ContainsFunc over the lengths that may not be. Conditions: the slice reads as integers, and they are few.
  Contracts: code.Check and all that it calls. Conditions: the slice reads as integers, and they are few.
  Contracts: the first code of each length, by the program's own way. Conditions: the slice reads as lengths from 0 to 15 whose sum is not beyond 1.
  Contracts: code.Codes. Conditions: the slice reads as integers, and they are few.
-/
import Derived.Test.YtgjpcjnhggcfdaaGreatDoorC03
namespace Go.Proofs.YtgjpcjnhggcfdaaGreatDoor.One
open Go.ChangeShapes Go.WideShapes Go.ChangeAt Go.RowKit Go.Proofs.YtgjpcjnhggcfdaaGreatDoor.Core Go.Proofs.YtgjpcjnhggcfdaaGreatDoor.Gnd Go.Proofs.YtgjpcjnhggcfdaaGreatDoor.Math Go.Proofs.YtgjpcjnhggcfdaaGreatDoor.Each

theorem one15 (i l s m : Int) (g1 g2 : Nat) (hne : g1 ≠ g2) (w : World) (b1 : Box w g1 3 #[.int .i64 s]) (b2 : Box w g2 3 #[.int .i64 m]) (hm0 : 0 ≤ m) (hm : m ≤ 100000) :
    Calls Tryz.prog 77 (#[.int .i64 i, .int .i64 l] ++ #[.pointer (some ⟨g1, 0, none⟩), .pointer (some ⟨g2, 0, none⟩)]) w fun e w' =>
      e = .returned (.tuple #[]) ∧ w' = (w.setCell ⟨g1, 0, none⟩ (.int .i64 i)).setCell ⟨g2, 0, none⟩ (.int .i64 (m + 1)) := by
  have c1 : w.cell? ⟨g1, 0, none⟩ = some (.int .i64 s) := b1.cell 0
  have f1 := b1.free 0
  have b3 := b2.other (p := ⟨g1, 0, none⟩) hne.symm (.int .i64 i)
  have c2 : (w.setCell ⟨g1, 0, none⟩ (.int .i64 i)).cell? ⟨g2, 0, none⟩ = some (.int .i64 m) := b3.cell 0
  have f2 := b3.free 0
  clear b1 b2 b3
  go_enter Tryz.func77, Tryz.ntmps77
  go_wp2
  go_end0
  exact ⟨rfl, rfl⟩
/-- What One has found behind the first i lengths. -/
def InvOne (w : World) (c : Nat → Int) (i : Nat) (wr : World) : Prop :=
  Box wr w.heap.size 3 #[.int .i64 (sel c i : Int)] ∧ Box wr (w.heap.size + 1) 3 #[.int .i64 (many c i : Int)] ∧ Below w.heap.size w wr
theorem two_start (w : World) (T U : TypeId) (x y : Array Value) : Box ((w.alloc (.cells x T)).alloc (.cells y U)) w.heap.size T x ∧ Box ((w.alloc (.cells x T)).alloc (.cells y U)) (w.heap.size + 1) U y ∧ Below w.heap.size w ((w.alloc (.cells x T)).alloc (.cells y U)) := by
  refine ⟨(Box.made w T x).alloc _, ?_, ((Below.refl _ w).alloc (Nat.le_refl _) _).alloc (by simp) _⟩
  have := Box.made (w.alloc (.cells x T)) U y
  simpa using this
theorem InvOne.next {w wr : World} {c : Nat → Int} {i : Nat} (h : InvOne w c i wr) (hc : c i ≠ 0) :
    InvOne w c (i + 1) ((wr.setCell ⟨w.heap.size, 0, none⟩ (.int .i64 i)).setCell ⟨w.heap.size + 1, 0, none⟩ (.int .i64 ((many c i : Int) + 1))) := by
  obtain ⟨h1, h2, h3⟩ := h
  have e1 : sel c (i + 1) = i := by simp [sel, hc]
  have e2 : (many c (i + 1) : Int) = (many c i : Int) + 1 := by simp [many, hc]
  refine ⟨?_, ?_, (h3.setCell (p := ⟨w.heap.size, 0, none⟩) (Nat.le_refl _) _).setCell (p := ⟨w.heap.size + 1, 0, none⟩) (Nat.le_succ _) _⟩
  · rw [e1]
    exact (h1.set 0 _).other (by simp) _
  · rw [e2]
    exact (h2.other (by simp) _).set 0 _
theorem one8 (v : Value) (len : Nat) (c : Nat → Int) (hl : len ≤ 100000) (w : World) (src : Ints .i64 w v len c) :
    Calls Tryz.prog 64 #[v] w fun e w' => e = .returned (.tuple #[.int .i64 (if many c len = 1 then (sel c len : Int) else 0), .bool (decide (many c len = 1))]) ∧ Below w.heap.size w w' := by
  have eg : ∀ args w, (callFunc 77 args).run Tryz.prog w = .ok (.enter 77 args) w := enters_of Tryz.func77 (by kernel_rfl) rfl
  have SRC := hide src
  have ML := hide (many_le c len)
  clear src
  go_enter Tryz.func64, Tryz.ntmps64
  go_wp2_with fail
  refine (each14 77 eg _ v len c hl (InvOne w c) _ (fun i wr h => (unhide SRC).keep h.2.2) (two_start w 3 3 _ _) ?_ ?_).mono ?_
  · intro i wr hi hc h
    unfold InvOne at *
    simp only [sel, many, hc, if_true, Nat.add_zero]
    exact h
  · intro i wr hi hc h
    have := many_le c i
    exact (one15 i (c i) _ _ _ _ (by omega) wr h.1 h.2.1 (by omega) (by omega)).mono fun e w' ⟨e1, e2⟩ => ⟨e1, e2 ▸ h.next hc⟩
  · rintro e w' ⟨rfl, h1, h2, h3⟩
    have c1 : w'.cell? ⟨w.heap.size, 0, none⟩ = some (.int .i64 (sel c len : Int)) := h1.cell 0
    have c2 : w'.cell? ⟨w.heap.size + 1, 0, none⟩ = some (.int .i64 (many c len : Int)) := h2.cell 0
    have BEL := hide h3
    clear h1 h2 h3
    by_cases hm : many c len = 1
    · have hm' : (many c len : Int) = 1 := by omega
      go_wp2
      go_ret2
      refine ⟨?_, unhide BEL⟩
      simp
    · have hm' : ¬ (many c len : Int) = 1 := by omega
      go_wp2
      go_ret2
      refine ⟨?_, unhide BEL⟩
      simp
end Go.Proofs.YtgjpcjnhggcfdaaGreatDoor.One

namespace Go.Proofs.YtgjpcjnhggcfdaaGreatDoor.Chk
open Go.ChangeShapes Go.WideShapes Go.ChangeAt Go.RowKit Go.Proofs.YtgjpcjnhggcfdaaGreatDoor.Core Go.Proofs.YtgjpcjnhggcfdaaGreatDoor.Gnd Go.Proofs.YtgjpcjnhggcfdaaGreatDoor.Math Go.Proofs.YtgjpcjnhggcfdaaGreatDoor.Each Go.Proofs.YtgjpcjnhggcfdaaGreatDoor.One

theorem bad19 (x : Int) (w : World) : Calls Tryz.prog 63 #[.int .i64 x] w fun e w' => e = .returned (.bool (decide (x < 0 ∨ 15 < x))) ∧ w' = w := by
  by_cases h1 : x < 0
  · have hb : decide (x < 0 ∨ 15 < x) = true := by simp [h1]
    rw [hb]
    clear hb
    go_enter Tryz.func63, Tryz.ntmps63
    go_wp2
    go_ret
    exact ⟨rfl, rfl⟩
  · by_cases h2 : 15 < x
    · have hb : decide (x < 0 ∨ 15 < x) = true := by simp [h2]
      rw [hb]
      clear hb
      go_enter Tryz.func63, Tryz.ntmps63
      go_wp2
      go_ret
      exact ⟨rfl, rfl⟩
    · have hb : decide (x < 0 ∨ 15 < x) = false := by simp; omega
      rw [hb]
      clear hb
      go_enter Tryz.func63, Tryz.ntmps63
      go_wp2
      go_ret
      exact ⟨rfl, rfl⟩
theorem idx22 (v : Value) (len : Nat) (c : Nat → Int) (hl : len ≤ 100000) (w : World) (src : Ints .i64 w v len c) :
    Calls Tryz.prog 76 #[v, .func (.func 63) #[] #[]] w fun e w' => ∃ r : Int, e = .returned (.int .i64 r) ∧ decide (0 ≤ r) = !rngB c len ∧ w' = w := by
  obtain ⟨a, cap, rfl, hs⟩ := src
  have SRC := hide hs
  clear hs
  go_enter Tryz.func76, Tryz.ntmps76
  go_wp2
  go_loopw [8] (fun i wr => ∃ k : Nat, k ≤ len ∧ i = .int .i64 k ∧ Rng c k ∧ wr = w) (fun i _ => len - (intOf i).toNat)
  case atStart => exact ⟨0, Nat.zero_le _, rfl, fun j hj => by omega, rfl⟩
  case round =>
    obtain ⟨k, hk, rfl, good, rfl⟩ := hrel
    have GOOD := hide good
    clear good
    by_cases hlt : k < len
    · have hlt' : (k : Int) < (len : Int) := by omega
      obtain ⟨b, off, rfl, hcell⟩ := unhide SRC k hlt
      by_cases hx : c k < 0 ∨ 15 < c k
      · have hb : decide (c k < 0 ∨ 15 < c k) = true := by simp [hx]
        have HX := hide hx
        clear hx
        go_wp2_with (go_at_call 63; refine (bad19 (c k) _).mono ?_; rw [hb]; rintro e w1 ⟨rfl, rfl⟩)
        go_ret
        refine ⟨_, rfl, ?_, rfl⟩
        have h1 : rngB c len = false := by
          cases h2 : rngB c len
          · rfl
          · have := (rngB_iff c len).1 h2 k hlt
            have := unhide HX
            omega
        rw [h1]
        exact decide_eq_true (by omega)
      · have hb : decide (c k < 0 ∨ 15 < c k) = false := by simp [hx]
        have HX := hide hx
        clear hx
        go_wp2_with (go_at_call 63; refine (bad19 (c k) _).mono ?_; rw [hb]; rintro e w1 ⟨rfl, rfl⟩)
        go_roundw
        case rel =>
          refine ⟨k + 1, by omega, by go_num, fun j hj => ?_, by first | rfl | trivial⟩
          by_cases e : j = k
          · subst e
            have := unhide HX
            omega
          · exact unhide GOOD j (by omega)
        case measure => simp [intOf]; omega
    · obtain rfl : k = len := by omega
      go_wp2
      go_ret
      refine ⟨_, rfl, ?_, rfl⟩
      rw [(rngB_iff c k).2 (unhide GOOD)]
      rfl
theorem con18 (v : Value) (len : Nat) (c : Nat → Int) (hl : len ≤ 100000) (w : World) (src : Ints .i64 w v len c) :
    Calls Tryz.prog 62 #[v, .func (.func 63) #[] #[]] w fun e w' => e = .returned (.bool (!rngB c len)) ∧ w' = w := by
  have SRC := hide src
  clear src
  go_enter Tryz.func62, Tryz.ntmps62
  go_wp2_with (go_at_call 76; refine (idx22 v len c hl _ (unhide SRC)).mono ?_; rintro e w1 ⟨r, rfl, hr, rfl⟩; have HR := hide hr; clear hr)
  go_ret
  exact ⟨by rw [← unhide HR]; rfl, rfl⟩
theorem half (m : Nat) (h : m ≤ 15) : (32768 : Int) / 2 ^ m = ((2 ^ (15 - m) : Nat) : Int) := by
  have h1 := pow_split h
  have h2 : ((2 ^ m : Nat) : Int) = (2 : Int) ^ m := by simp
  have h3 : (32768 : Int) = (2 : Int) ^ m * ((2 ^ (15 - m) : Nat) : Int) := by
    rw [← h2, ← Int.natCast_mul, h1]
    rfl
  have h4 : (2 : Int) ^ m ≠ 0 := by
    have : 0 < 2 ^ m := Nat.pow_pos (by omega)
    omega
  rw [h3, Int.mul_ediv_cancel_left _ h4]
theorem u64_in (n : Int) (h : 0 ≤ n ∧ n ≤ 18446744073709551615) : IntKind.u64.wrap n = n := by
  simp [IntKind.wrap, IntKind.bits, IntKind.signed]
  omega
theorem pt2_of {x : Int} {m : Nat} (h : x = (m : Int)) (h0 : m ≠ 0) : pt2 x = 2 ^ (15 - m) := by
  unfold pt2
  rw [if_neg (by omega), h]
  rfl
theorem add20 (i s : Int) (m : Nat) (g : Nat) (w : World) (b1 : Box w g 70 #[.int .u64 s]) (hs0 : 0 ≤ s) (hs : s ≤ 4000000000) (hm : m ≤ 15) :
    Calls Tryz.prog 66 (#[.int .i64 i, .int .i64 m] ++ #[.pointer (some ⟨g, 0, none⟩)]) w fun e w' =>
      e = .returned (.tuple #[]) ∧ Box w' g 70 #[.int .u64 (s + (2 ^ (15 - m) : Nat))] ∧ Upd (fun k => k = g) w w' := by
  have c1 : w.cell? ⟨g, 0, none⟩ = some (.int .u64 s) := b1.cell 0
  have f1 := b1.free 0
  have BOX := hide b1
  clear b1
  go_enter Tryz.func66, Tryz.ntmps66
  go_region
  go_end0
  have hp : 2 ^ (15 - m) ≤ 2 ^ 15 := Nat.pow_le_pow_right (by omega) (by omega)
  have e1 : IntKind.u64.wrap (s + 32768 / 2 ^ m) = s + (2 ^ (15 - m) : Nat) := by
    rw [half m hm]
    generalize 2 ^ (15 - m) = p at *
    exact u64_in _ (by omega)
  rw [e1]
  exact ⟨rfl, (unhide BOX).set 0 _, ((Upd.refl (fun k => k = g) w).setCell (p := ⟨g, 0, none⟩) (show g = g from rfl) _).drewN 1⟩
theorem upd_last {a w w' : World} {g : Nat} (u : Upd (fun k => k = g) w w') (h : Below a.heap.size a w) (hB : a.heap.size ≤ g) : Below a.heap.size a w' :=
  h.trans ⟨u.os, u.tape, u.output, u.size, fun k hk => u.block k (by have := h.size; omega) (by omega)⟩
def InvSum (w : World) (c : Nat → Int) (i : Nat) (wr : World) : Prop :=
  Box wr w.heap.size 70 #[.int .u64 (kr c i : Int)] ∧ Below w.heap.size w wr
theorem check11 (v : Value) (len : Nat) (c : Nat → Int) (hl : len ≤ 100000) (w : World) (src : Ints .i64 w v len c) :
    Calls Tryz.prog 39 #[v] w fun e w' => e = .returned (.int .i64 (chk c len)) ∧ Below w.heap.size w w' := by
  have eg : ∀ args w, (callFunc 66 args).run Tryz.prog w = .ok (.enter 66 args) w := enters_of Tryz.func66 (by kernel_rfl) rfl
  have SRC := hide src
  clear src
  by_cases hg : Rng c len
  · have HG := hide hg
    have hb : (!rngB c len) = false := by rw [(rngB_iff c len).2 hg]; rfl
    clear hg
    go_enter Tryz.func39, Tryz.ntmps39
    go_wp2_with fail
    refine (con18 v len c hl _ (unhide SRC)).mono ?_
    rw [hb]
    rintro e w0 ⟨rfl, rfl⟩
    go_wp2_with fail
    refine (one8 v len c hl _ (unhide SRC)).mono ?_
    rintro e w1 ⟨rfl, bel⟩
    have BEL := hide bel
    clear bel hb
    by_cases hm : many c len = 1
    · have hd : decide (many c len = 1) = true := by simp [hm]
      rw [hd]
      have HM := hide hm
      clear hm hd
      go_wp2
      go_ret
      refine ⟨?_, unhide BEL⟩
      apply ret_int
      unfold chk
      rw [if_pos ((rngB_iff c len).2 (unhide HG)), if_pos (Or.inl (unhide HM))]
    · have hd : decide (many c len = 1) = false := by simp [hm]
      rw [hd]
      have HM := hide hm
      clear hm hd
      go_wp2_with fail
      refine (each14 66 eg _ v len c hl (InvSum w1 c) _ (fun i wr h => ((unhide SRC).keep (unhide BEL)).keep h.2) ⟨Box.made w1 70 _, (Below.refl _ w1).alloc (Nat.le_refl _) _⟩ ?_ ?_).mono ?_
      · intro i wr hi hc h
        unfold InvSum at *
        simp only [kr, pt2, hc, if_true, Nat.add_zero]
        exact h
      · intro i wr hi hc h
        have h1 := unhide HG i hi
        have h2 := kr_le c i
        obtain ⟨m, hcm⟩ : ∃ m : Nat, c i = (m : Int) := ⟨(c i).toNat, by omega⟩
        have hm0 : m ≠ 0 := by omega
        rw [hcm]
        refine (add20 i _ m _ wr h.1 (by omega) (by omega) (by omega)).mono fun e w' ⟨e1, e2, e3⟩ => ⟨e1, ?_, upd_last e3 h.2 (Nat.le_refl _)⟩
        have : (kr c (i + 1) : Int) = (kr c i : Int) + ((2 ^ (15 - m) : Nat) : Int) := by
          simp only [kr, pt2_of hcm hm0, Int.natCast_add]
        rw [this]
        exact e2
      · rintro e w' ⟨rfl, h1, h2⟩
        have c1 : w'.cell? ⟨w1.heap.size, 0, none⟩ = some (.int .u64 (kr c len : Int)) := h1.cell 0
        have BE2 := hide (show Below w0.heap.size w0 w' from (unhide BEL).trans (h2.mono (unhide BEL).size))
        clear h1 h2
        by_cases hk : kr c len = 32768
        · have hk' : (kr c len : Int) = 32768 := by omega
          have HK := hide hk
          clear hk
          go_wp2
          go_ret
          refine ⟨?_, unhide BE2⟩
          apply ret_int
          unfold chk
          rw [if_pos ((rngB_iff c len).2 (unhide HG)), if_pos (Or.inr (unhide HK))]
        · have hk' : ¬ (kr c len : Int) = 32768 := by omega
          have HK := hide hk
          clear hk
          go_wp2
          go_ret
          refine ⟨?_, unhide BE2⟩
          apply ret_int
          unfold chk
          rw [if_pos ((rngB_iff c len).2 (unhide HG)), if_neg (fun h => h.elim (unhide HM) (unhide HK))]
  · have HG := hide hg
    have hb : (!rngB c len) = true := by rw [show rngB c len = false from eq_false_of_ne_true (fun h => hg ((rngB_iff c len).1 h))]; rfl
    clear hg
    go_enter Tryz.func39, Tryz.ntmps39
    go_wp2_with (go_at_call 62; refine (con18 v len c hl _ (unhide SRC)).mono ?_; rw [hb]; rintro e w0 ⟨rfl, rfl⟩)
    go_ret
    refine ⟨?_, Below.refl _ _⟩
    apply ret_int
    unfold chk
    rw [if_neg (fun h => unhide HG ((rngB_iff c len).1 h))]
end Go.Proofs.YtgjpcjnhggcfdaaGreatDoor.Chk

namespace Go.Proofs.YtgjpcjnhggcfdaaGreatDoor.Fst
open Go.ChangeShapes Go.WideShapes Go.ChangeAt Go.RowKit Go.Proofs.YtgjpcjnhggcfdaaGreatDoor.Core Go.Proofs.YtgjpcjnhggcfdaaGreatDoor.Gnd Go.Proofs.YtgjpcjnhggcfdaaGreatDoor.Math Go.Proofs.YtgjpcjnhggcfdaaGreatDoor.Each Go.Proofs.YtgjpcjnhggcfdaaGreatDoor.One Go.Proofs.YtgjpcjnhggcfdaaGreatDoor.Chk

theorem inc21 (i : Int) (m g : Nat) (f : Nat → Nat) (w : World) (b1 : Box w g 139 (arr f)) (hm : m ≤ 15) (hf : f m ≤ 100000) :
    Calls Tryz.prog 87 (#[.int .i64 i, .int .i64 m] ++ #[.pointer (some ⟨g, 0, none⟩)]) w fun e w' =>
      e = .returned (.tuple #[]) ∧ w' = w.setCell ⟨g, m, none⟩ (.int .u32 ((f m + 1 : Nat) : Int)) := by
  have c1 : w.cell? ⟨g, m, none⟩ = some (.int .u32 (f m)) := (b1.cell m).trans (arr_at f m (by omega))
  have f1 := b1.free m
  clear b1
  go_enter Tryz.func87, Tryz.ntmps87
  go_wp2
  go_end0
  exact ⟨rfl, by simp⟩
/-- Three rows of sixteen numbers. -/
def Three (w : World) (f g : Nat → Nat) (wr : World) : Prop :=
  Box wr w.heap.size 139 (arr (fun _ => 0)) ∧ Box wr (w.heap.size + 1) 139 (arr f) ∧ Box wr (w.heap.size + 1 + 1) 139 (arr g) ∧ Below w.heap.size w wr
theorem three_start (w : World) (x : Array Value) (hx : x = arr (fun _ => 0)) : Three w (fun _ => 0) (fun _ => 0) (((w.alloc (.cells x 139)).alloc (.cells x 139)).alloc (.cells x 139)) := by
  subst hx
  obtain ⟨h1, h2, h3⟩ := two_start w 139 139 (arr (fun _ => 0)) (arr (fun _ => 0))
  refine ⟨h1.alloc _, h2.alloc _, ?_, h3.alloc (by simp; omega) _⟩
  have := Box.made ((w.alloc (.cells (arr (fun _ => 0)) 139)).alloc (.cells (arr (fun _ => 0)) 139)) 139 (arr (fun _ => 0))
  simpa using this
theorem Three.congr {w wr : World} {f g f' g' : Nat → Nat} (h : Three w f g wr) (hf : ∀ k, k < 16 → f k = f' k) (hg : ∀ k, k < 16 → g k = g' k) : Three w f' g' wr := by
  unfold Three
  rw [← arr_congr hf, ← arr_congr hg]
  exact h
theorem Three.left {w wr : World} {f g : Nat → Nat} (h : Three w f g wr) (m z : Nat) (hm : m < 16) : Three w (fun j => if j = m then z else f j) g (wr.setCell ⟨w.heap.size + 1, m, none⟩ (.int .u32 (z : Int))) := by
  obtain ⟨h1, h2, h3, h4⟩ := h
  refine ⟨h1.other (by simp) _, ?_, h3.other (by simp) _, h4.setCell (p := ⟨w.heap.size + 1, m, none⟩) (Nat.le_succ _) _⟩
  have := h2.set m (.int .u32 (z : Int))
  rwa [arr_set _ _ _ hm] at this
theorem Three.right {w wr : World} {f g : Nat → Nat} (h : Three w f g wr) (m z : Nat) (hm : m < 16) : Three w f (fun j => if j = m then z else g j) (wr.setCell ⟨w.heap.size + 1 + 1, m, none⟩ (.int .u32 (z : Int))) := by
  obtain ⟨h1, h2, h3, h4⟩ := h
  refine ⟨h1.other (by simp; omega) _, h2.other (by simp) _, ?_, h4.setCell (p := ⟨w.heap.size + 1 + 1, m, none⟩) (by show w.heap.size ≤ w.heap.size + 1 + 1; omega) _⟩
  have := h3.set m (.int .u32 (z : Int))
  rwa [arr_set _ _ _ hm] at this
theorem Three.drew {w wr : World} {f g : Nat → Nat} (h : Three w f g wr) : Three w f g wr.drew := ⟨h.1, h.2.1, h.2.2.1, h.2.2.2.drew⟩
theorem cnt_next (c : Nat → Int) (i m : Nat) (hc : c i = (m : Int)) (hm : m ≠ 0) (k : Nat) : (if k = m then cnt c m i + 1 else cnt c k i) = cnt c k (i + 1) := by
  have : cnt c k (i + 1) = cnt c k i + if c i = (k : Int) ∧ k ≠ 0 then 1 else 0 := rfl
  rw [this]
  by_cases e : k = m
  · subst e
    rw [if_pos rfl, if_pos ⟨hc, hm⟩]
  · rw [if_neg e, if_neg (fun h => e (by omega))]
    rfl
theorem cnt_skip (c : Nat → Int) (i : Nat) (hc : c i = 0) (k : Nat) : cnt c k (i + 1) = cnt c k i := by
  have : cnt c k (i + 1) = cnt c k i + if c i = (k : Int) ∧ k ≠ 0 then 1 else 0 := rfl
  rw [this, if_neg (fun h => h.2 (by omega))]
  rfl
theorem info38 (f : Nat → Nat) : (Tryz.prog.info? 139).map (·.size) = some (arr f).size := by
  rw [arr_size]
  kernel_rfl
theorem arr_ones (f : Nat → Nat) : (arr f).all (·.oneCell') = true :=
  Array.all_eq_true_iff_forall_mem.2 fun v hv => arr_one f v (by simpa using hv)
theorem box_row {w : World} {g : Nat} {T : TypeId} {vs : Array Value} (h : Box w g T vs) (us : Array Value) : Box (w.setRow g us) g T us := setRow_heap w g vs us T (0, 0) h
theorem below_setRow {B : Nat} {a w : World} (h : Below B a w) {g : Nat} (hg : B ≤ g) (us : Array Value) : Below B a (w.setRow g us) :=
  h.trans ⟨rfl, rfl, rfl, by simp [World.setRow], fun k hk => by
    simp only [World.setRow, Array.getElem?_modify]
    rw [if_neg (by omega)]⟩
set_option maxHeartbeats 1000000 in
theorem fst16 (v : Value) (len : Nat) (c : Nat → Int) (hl : len ≤ 100000) (hg : Rng c len) (hk : kr c len ≤ 32768) (w : World) (src : Ints .i64 w v len c) :
    Calls Tryz.prog 78 #[v] w fun e w' => e = .returned (.agg (arr (fst c len))) ∧ Below w.heap.size w w' := by
  have eg : ∀ args w, (callFunc 87 args).run Tryz.prog w = .ok (.enter 87 args) w := enters_of Tryz.func87 (by kernel_rfl) rfl
  have SRC := hide src
  have HG := hide hg
  have HK := hide hk
  clear src hg hk
  go_enter Tryz.func78, Tryz.ntmps78
  go_wp2_with fail
  refine (each14 87 eg _ v len c hl (fun i => Three w (fun m => cnt c m i) (fun _ => 0)) _ (fun i wr h => (unhide SRC).keep h.2.2.2) (three_start w _ rfl) ?_ ?_).mono ?_
  · intro i wr hi hc h
    exact h.congr (fun k _ => (cnt_skip c i hc k).symm) (fun _ _ => rfl)
  · intro i wr hi hc h
    have h1 := unhide HG i hi
    obtain ⟨m, hcm⟩ : ∃ m : Nat, c i = (m : Int) := ⟨(c i).toNat, by omega⟩
    have hm0 : m ≠ 0 := by omega
    have h2 := cnt_le c m i
    rw [hcm]
    refine (inc21 i m _ _ wr h.2.1 (by omega) (by omega)).mono fun e w' ⟨e1, e2⟩ => ⟨e1, ?_⟩
    rw [e2]
    exact (h.left m _ (by omega)).congr (fun k _ => cnt_next c i m hcm hm0 k) (fun _ _ => rfl)
  · rintro e w1 ⟨rfl, h1⟩
    have H1 := hide h1
    clear h1
    go_wp2
    go_loopw [5] (fun i wr => ∃ q : Nat, q ≤ 15 ∧ i = .int .i64 (q + 1) ∧ Three w (fun m => cnt c m len) (fun j => if j ≤ q then fst c len j else 0) wr) (fun i _ => 16 - (intOf i).toNat)
    case atStart =>
      refine ⟨0, by omega, rfl, (unhide H1).congr (fun _ _ => rfl) (fun k _ => ?_)⟩
      by_cases e : k ≤ 0
      · obtain rfl : k = 0 := by omega
        rfl
      · rw [if_neg e]
    case round =>
      obtain ⟨q, hq, rfl, h3⟩ := hrel
      have H3 := hide h3
      by_cases hlt : q < 15
      · have t1 := top_cap (unhide HG) (unhide HK) q (by omega)
        have c1 : wr.cell? ⟨w.heap.size + 1, q, none⟩ = some (.int .u32 (cnt c q len)) := (h3.2.1.cell q).trans (arr_at _ q (by omega))
        have c2 : wr.cell? ⟨w.heap.size + 1 + 1, q, none⟩ = some (.int .u32 (fst c len q)) := by
          rw [h3.2.2.1.cell q, arr_at _ q (by omega), if_pos (Nat.le_refl _)]
        have c3 : wr.cell? ⟨w.heap.size + 1 + 1, q + 1, none⟩ = some (.int .u32 0) := by
          rw [h3.2.2.1.cell (q + 1), arr_at _ (q + 1) (by omega), if_neg (by omega)]
          rfl
        have f3 := h3.2.2.1.free (q + 1)
        have FS : Hid (fst c len (q + 1) = (fst c len q + cnt c q len) * 2) := rfl
        clear h3
        generalize fst c len q = x at *
        generalize cnt c q len = y at *
        go_wp2
        go_region
        go_wp2
        go_roundw
        case rel =>
          refine ⟨q + 1, by omega, by go_num, ?_⟩
          have e1 : (((x + y) * 2 : Nat) : Int) = ((x : Int) + y) * 2 := by omega
          have h4 := (unhide H3).right (q + 1) ((x + y) * 2) (by omega)
          rw [e1] at h4
          refine (h4.congr (fun _ _ => rfl) (fun k _ => ?_)).drew
          by_cases e : k = q + 1
          · subst e
            rw [if_pos rfl, if_pos (Nat.le_refl _), unhide FS]
          · rw [if_neg e]
            by_cases e2 : k ≤ q
            · rw [if_pos e2, if_pos (by omega)]
            · rw [if_neg e2, if_neg (by omega)]
        case measure => simp [intOf]; omega
      · obtain rfl : q = 15 := by omega
        have hB : Box wr (w.heap.size + 1 + 1) 139 (arr (fst c len)) := by
          rw [← arr_congr (f := fun j => if j ≤ 15 then fst c len j else 0) (fun k hk => if_pos (by omega))]
          exact h3.2.2.1
        have B0 := hide h3.1
        have BB := hide hB
        have BEL := hide h3.2.2.2
        have hz : ¬ ((15 : Nat) : Int) + 1 ≤ 15 := by omega
        clear h3 hB H3 H1 hlt
        go_wp2_with (first | (refine wpList_load_row rfl 139 (.tmp 4) rfl (w.heap.size + 1 + 1) rfl 139 (arr (fst c len)) (0, 0) _ (unhide BB) Tryz.underlying139 rfl (info38 _) ?_) | (refine wpList_store_row rfl 139 (.tmp 2) (.tmp 25) rfl w.heap.size (arr (fst c len)) rfl rfl 139 (arr (fun _ => 0)) (unhide B0) (info38 _) (by rw [arr_size, arr_size]) (arr_ones _) ?_) | fail)
        refine bodyPost_ret (results_cell_row rfl _ _ w.heap.size 139 (arr (fst c len)) (0, 0) _ rfl (box_row (unhide B0) _) Tryz.underlying139 rfl (info38 _)) rfl ⟨rfl, below_setRow (unhide BEL) (Nat.le_refl _) _⟩
end Go.Proofs.YtgjpcjnhggcfdaaGreatDoor.Fst

namespace Go.Proofs.YtgjpcjnhggcfdaaGreatDoor.Cod
open Go.ChangeShapes Go.WideShapes Go.ChangeAt Go.RowKit Go.Proofs.YtgjpcjnhggcfdaaGreatDoor.Core Go.Proofs.YtgjpcjnhggcfdaaGreatDoor.Gnd Go.Proofs.YtgjpcjnhggcfdaaGreatDoor.Math Go.Proofs.YtgjpcjnhggcfdaaGreatDoor.Each Go.Proofs.YtgjpcjnhggcfdaaGreatDoor.One Go.Proofs.YtgjpcjnhggcfdaaGreatDoor.Chk Go.Proofs.YtgjpcjnhggcfdaaGreatDoor.Fst

/-- Numbers in a block. -/
def row (f : Nat → Nat) (n : Nat) : Array Value := ((List.range n).map fun k => Value.int .u32 (f k)).toArray
theorem row_size (f : Nat → Nat) (n : Nat) : (row f n).size = n := by simp [row]
theorem row_at (f : Nat → Nat) (n k : Nat) (h : k < n) : (row f n)[k]? = some (.int .u32 (f k)) := by
  simp [row, h]
theorem row_ext {xs : Array Value} {f : Nat → Nat} {n : Nat} (hs : xs.size = n) (h : ∀ j, j < n → xs[j]? = some (.int .u32 (f j))) : xs = row f n := by
  apply Array.ext_getElem?
  intro j
  by_cases hj : j < n
  · rw [h j hj, row_at _ _ _ hj]
  · rw [Array.getElem?_eq_none (by omega), Array.getElem?_eq_none (by rw [row_size]; omega)]
theorem row_set (f : Nat → Nat) (n k z : Nat) : (row f n).setIfInBounds k (.int .u32 z) = row (fun j => if j = k then z else f j) n := by
  refine row_ext (by simp [row_size]) fun j hj => ?_
  rw [Array.getElem?_setIfInBounds, row_at _ _ _ hj, row_size]
  by_cases e : k = j
  · subst e; simp [hj]
  · have : ¬ j = k := fun h => e h.symm
    simp [e, this]
theorem row_congr {f g : Nat → Nat} {n : Nat} (h : ∀ k, k < n → f k = g k) : row f n = row g n :=
  row_ext (row_size _ _) fun j hj => by rw [row_at _ _ _ hj, h j hj]
theorem row_made (n : Nat) : madeCells #[.int .u32 0] n = row (fun _ => 0) n := by
  refine row_ext (by simp [size_madeCells]) fun j hj => ?_
  simp [madeCells, hj, Nat.mod_one]
theorem info30 : (Tryz.prog.info? 42).map (fun i => (i.zero, i.size, i.bytes)) = some (some (.int .u32 0), 1, 4) := by kernel_rfl
theorem make_row (w : World) (n : Nat) (hn : n ≤ 1000000) : (Instr.makeSlice 110 (.int .i64 n) (.int .i64 n)).run Tryz.prog w = .ok (.slice (some ⟨w.heap.size, 0, none⟩) n n) (w.alloc (.cells (row (fun _ => 0) n) 42)) := by
  obtain ⟨i0, hi, hz0, hz1, hz2⟩ := info_parts info30
  have := run_make (P := Tryz.prog) w 110 42 i0 (.int .u32 0) Tryz.underlying110 hi hz0 .i64 .i64 n n (by omega) (by omega) (by rw [hz2]; omega) (by omega)
  rw [hz1] at this
  rw [this]
  simp [Value.cells, row_made]
theorem put17 (i m len cap g g2 r : Nat) (f d : Nat → Nat) (w : World) (b1 : Box w g 139 (arr f)) (b2 : Box w g2 110 #[.slice (some ⟨r, 0, none⟩) len cap]) (b3 : Box w r 42 (row d len)) (hi : i < len) (hm : m ≤ 15) (hf : f m ≤ 100000)
    (hgr : g ≠ r) :
    Calls Tryz.prog 79 (#[.int .i64 i, .int .i64 m] ++ #[.pointer (some ⟨g, 0, none⟩), .pointer (some ⟨g2, 0, none⟩)]) w fun e w' =>
      e = .returned (.tuple #[]) ∧ w' = ((w.setCell ⟨r, i, none⟩ (.int .u32 (f m))).drew.setCell ⟨g, m, none⟩ (.int .u32 ((f m + 1 : Nat) : Int))) := by
  have c1 : w.cell? ⟨g, m, none⟩ = some (.int .u32 (f m)) := (b1.cell m).trans (arr_at f m (by omega))
  have c2 : w.cell? ⟨g2, 0, none⟩ = some (.slice (some ⟨r, 0, none⟩) len cap) := b2.cell 0
  have c3 : w.cell? ⟨r, i, none⟩ = some (.int .u32 (d i)) := (b3.cell i).trans (row_at d len i hi)
  have f3 := b3.free i
  have b4 := b1.other (p := ⟨r, i, none⟩) hgr (.int .u32 (f m))
  have c4 : ∀ u, (w.setCell ⟨r, i, none⟩ u).cell? ⟨g, m, none⟩ = some (.int .u32 (f m)) := fun u => ((b1.other (p := ⟨r, i, none⟩) hgr u).cell m).trans (arr_at f m (by omega))
  have f4 : ∀ u, (w.setCell ⟨r, i, none⟩ u).frozen? ⟨g, m, none⟩ = false := fun u => (b1.other (p := ⟨r, i, none⟩) hgr u).free m
  have hii : (i : Int) < len := by omega
  clear b1 b2 b3 b4
  go_enter Tryz.func79, Tryz.ntmps79
  go_wp2
  go_region
  go_wp2
  go_end0
  exact ⟨rfl, by simp; rfl⟩
/-- What Codes has made behind the first i lengths. -/
def InvCod (w : World) (n : Nat) (c : Nat → Int) (len i : Nat) (wr : World) : Prop :=
  Box wr n 139 (arr (fun m => fst c len m + cnt c m i)) ∧ Box wr (n + 1) 42 (row (fun k => if k < i then cod c len k else 0) len) ∧ Box wr (n + 1 + 1) 110 #[.slice (some ⟨n + 1, 0, none⟩) len len] ∧ Below w.heap.size w wr
theorem InvCod.next {w wr : World} {n len i m : Nat} {c : Nat → Int} (h : InvCod w n c len i wr) (hn : w.heap.size ≤ n) (hc : c i = (m : Int)) (h0 : m ≠ 0) (hm : m ≤ 15) :
    InvCod w n c len (i + 1) ((wr.setCell ⟨n + 1, i, none⟩ (.int .u32 ((fst c len m + cnt c m i : Nat) : Int))).drew.setCell ⟨n, m, none⟩ (.int .u32 ((fst c len m + cnt c m i + 1 : Nat) : Int))) := by
  obtain ⟨h1, h2, h3, h4⟩ := h
  refine ⟨?_, ?_, ?_, (h4.setCell (p := ⟨n + 1, i, none⟩) (by show w.heap.size ≤ n + 1; omega) _).drew.setCell (p := ⟨n, m, none⟩) hn _⟩
  · have h5 : Box (wr.setCell ⟨n + 1, i, none⟩ (.int .u32 ((fst c len m + cnt c m i : Nat) : Int))).drew n 139 (arr (fun m => fst c len m + cnt c m i)) := h1.other (p := ⟨n + 1, i, none⟩) (by simp) _
    have h6 := h5.set m (.int .u32 ((fst c len m + cnt c m i + 1 : Nat) : Int))
    rw [arr_set _ _ _ (by omega)] at h6
    rw [arr_congr (g := fun j => if j = m then fst c len m + cnt c m i + 1 else fst c len j + cnt c j i) (fun k _ => ?_)]
    · exact h6
    · have h7 := cnt_next c i m hc h0 k
      by_cases e : k = m
      · subst e
        rw [if_pos rfl] at h7 ⊢
        omega
      · rw [if_neg e] at h7 ⊢
        omega
  · have h5 : Box (wr.setCell ⟨n + 1, i, none⟩ (.int .u32 ((fst c len m + cnt c m i : Nat) : Int))).drew (n + 1) 42 ((row (fun k => if k < i then cod c len k else 0) len).setIfInBounds i (.int .u32 ((fst c len m + cnt c m i : Nat) : Int))) := h2.set i _
    rw [row_set] at h5
    have h6 := h5.other (p := ⟨n, m, none⟩) (by simp) (.int .u32 ((fst c len m + cnt c m i + 1 : Nat) : Int))
    rw [row_congr (g := fun j => if j = i then fst c len m + cnt c m i else if j < i then cod c len j else 0) (fun k _ => ?_)]
    · exact h6
    · by_cases e : k = i
      · subst e
        rw [if_pos rfl, if_pos (by omega), cod_of m hc h0]
      · rw [if_neg e]
        by_cases e2 : k < i
        · rw [if_pos e2, if_pos (by omega)]
        · rw [if_neg e2, if_neg (by omega)]
  · have h5 : Box (wr.setCell ⟨n + 1, i, none⟩ (.int .u32 ((fst c len m + cnt c m i : Nat) : Int))).drew (n + 1 + 1) 110 #[.slice (some ⟨n + 1, 0, none⟩) len len] := h3.other (p := ⟨n + 1, i, none⟩) (by simp) _
    exact h5.other (p := ⟨n, m, none⟩) (by simp; omega) _
theorem InvCod.skip {w wr : World} {n len i : Nat} {c : Nat → Int} (h : InvCod w n c len i wr) (hc : c i = 0) : InvCod w n c len (i + 1) wr := by
  obtain ⟨h1, h2, h3, h4⟩ := h
  refine ⟨?_, ?_, h3, h4⟩
  · rw [arr_congr (g := fun m => fst c len m + cnt c m i) (fun k _ => by rw [cnt_skip c i hc k])]
    exact h1
  · rw [row_congr (g := fun k => if k < i then cod c len k else 0) (fun k _ => ?_)]
    · exact h2
    · by_cases e : k = i
      · subst e
        rw [if_pos (by omega), if_neg (by omega)]
        unfold cod
        rw [if_pos hc]
      · by_cases e2 : k < i
        · rw [if_pos e2, if_pos (by omega)]
        · rw [if_neg e2, if_neg (by omega)]
theorem InvCod.ints {w wr : World} {n len : Nat} {c : Nat → Int} (h : InvCod w n c len len wr) : Ints .u32 wr (.slice (some ⟨n + 1, 0, none⟩) len len) len (fun k => (cod c len k : Int)) :=
  ⟨_, _, rfl, fun i hi => ⟨n + 1, 0, rfl, by
    rw [h.2.1.cell, Nat.zero_add, row_at _ _ _ hi, if_pos hi]⟩⟩
theorem codes_no (v : Value) (len : Nat) (c : Nat → Int) (hl : len ≤ 100000) (h : chk c len ≠ 0) (w : World) (src : Ints .i64 w v len c) :
    Calls Tryz.prog 67 #[v] w fun e w' => e = .returned (.slice none 0 0) ∧ Below w.heap.size w w' := by
  have SRC := hide src
  clear src
  go_enter Tryz.func67, Tryz.ntmps67
  go_wp2_with (go_at_call 39; refine (check11 v len c hl _ (unhide SRC)).mono ?_; rintro e w1 ⟨rfl, bel⟩; have BEL := hide bel; clear bel)
  go_ret
  exact ⟨rfl, unhide BEL⟩
set_option maxHeartbeats 1000000 in
theorem codes_new (v : Value) (len : Nat) (c : Nat → Int) (hl : len ≤ 100000) (h : chk c len = 0) (w : World) (src : Ints .i64 w v len c) :
    Calls Tryz.prog 67 #[v] w fun e w' => ∃ b, e = .returned (.slice (some ⟨b, 0, none⟩) len len) ∧ w.heap.size ≤ b ∧ Ints .u32 w' (.slice (some ⟨b, 0, none⟩) len len) len (fun k => (cod c len k : Int)) ∧ Below w.heap.size w w' := by
  have eg : ∀ args w, (callFunc 79 args).run Tryz.prog w = .ok (.enter 79 args) w := enters_of Tryz.func79 (by kernel_rfl) rfl
  obtain ⟨hg, _, hk⟩ := chk_zero h
  have HG := hide hg
  have HK := hide hk
  have SRC := hide src
  have hmk := fun w => make_row w len (by omega)
  obtain ⟨a, cap, rfl, _⟩ := src
  clear hg hk
  go_enter Tryz.func67, Tryz.ntmps67
  go_wp2_with fail
  refine (check11 _ len c hl _ (unhide SRC)).mono ?_
  rw [h]
  rintro e w1 ⟨rfl, b1⟩
  have B1 := hide b1
  clear b1 h
  go_wp2_with fail
  refine (fst16 _ len c hl (unhide HG) (unhide HK) _ ((unhide SRC).keep (unhide B1))).mono ?_
  rintro e w2 ⟨rfl, b2⟩
  have B2 := hide (show Below w.heap.size w w2 from (unhide B1).trans (b2.mono (unhide B1).size))
  clear b2 B1
  go_wp2_with (first | (refine wpList_store_row rfl 139 (.tmp 3) (.tmp 9) rfl w2.heap.size (arr (fst c len)) rfl rfl 139 (arr (fun _ => 0)) (Box.made w2 139 _) (info38 _) (by rw [arr_size, arr_size]) (arr_ones _) ?_) | fail)
  have hst : ∀ x : Array Value, x = arr (fun _ => 0) → InvCod w w2.heap.size c len 0 ((((w2.alloc (.cells x 139)).setRow w2.heap.size (arr (fst c len))).alloc (.cells (row (fun _ => 0) len) 42)).alloc (.cells #[.slice (some ⟨w2.heap.size + 1, 0, none⟩) len len] 110)) := by
    intro x hx
    subst hx
    have h1 := box_row (Box.made w2 139 (arr (fun _ => 0))) (arr (fst c len))
    have s1 : ((w2.alloc (.cells (arr (fun _ => 0)) 139)).setRow w2.heap.size (arr (fst c len))).heap.size = w2.heap.size + 1 := by simp
    have h2 := Box.made ((w2.alloc (.cells (arr (fun _ => 0)) 139)).setRow w2.heap.size (arr (fst c len))) 42 (row (fun _ => 0) len)
    rw [s1] at h2
    have s2 : (((w2.alloc (.cells (arr (fun _ => 0)) 139)).setRow w2.heap.size (arr (fst c len))).alloc (.cells (row (fun _ => 0) len) 42)).heap.size = w2.heap.size + 1 + 1 := by simp
    have h3 := Box.made (((w2.alloc (.cells (arr (fun _ => 0)) 139)).setRow w2.heap.size (arr (fst c len))).alloc (.cells (row (fun _ => 0) len) 42)) 110 #[.slice (some ⟨w2.heap.size + 1, 0, none⟩) len len]
    rw [s2] at h3
    have sz := (unhide B2).size
    refine ⟨?_, ?_, h3, ((below_setRow ((unhide B2).alloc sz _) sz _).alloc (by omega) _).alloc (by omega) _⟩
    · rw [arr_congr (g := fst c len) (fun k _ => rfl)]
      exact (h1.alloc _).alloc _
    · rw [row_congr (g := fun _ => 0) (fun k _ => if_neg (Nat.not_lt_zero _))]
      exact h2.alloc _
  refine (each14 79 eg _ _ len c hl (InvCod w w2.heap.size c len) _ (fun i wr h => (unhide SRC).keep h.2.2.2) (hst _ rfl) (fun i wr _ hc h => h.skip hc) ?_).mono ?_
  · intro i wr hi hc h
    have h1 := unhide HG i hi
    obtain ⟨m, hcm⟩ : ∃ m : Nat, c i = (m : Int) := ⟨(c i).toNat, by omega⟩
    have hm0 : m ≠ 0 := by omega
    have h2 := top_cap (unhide HG) (unhide HK) m (by omega)
    have h3 := cnt_lt c m hi hcm hm0
    rw [hcm]
    refine (put17 i m len len _ _ _ _ _ wr h.1 h.2.2.1 h.2.1 hi (by omega) (by omega) (by omega)).mono fun e w' ⟨e1, e2⟩ => ⟨e1, ?_⟩
    rw [e2]
    exact h.next (unhide B2).size hcm hm0 (by omega)
  · rintro e w3 ⟨rfl, h1⟩
    have c1 : w3.cell? ⟨w2.heap.size + 1 + 1, 0, none⟩ = some (.slice (some ⟨w2.heap.size + 1, 0, none⟩) len len) := h1.2.2.1.cell 0
    have H1 := hide h1
    clear h1 hst
    go_wp2
    go_ret
    exact ⟨_, rfl, by have := (unhide B2).size; omega, (unhide H1).ints, (unhide H1).2.2.2⟩
theorem codes10 (v : Value) (len : Nat) (c : Nat → Int) (hl : len ≤ 100000) (h : chk c len = 0) (w : World) (src : Ints .i64 w v len c) :
    Calls Tryz.prog 67 #[v] w fun e w' => ∃ v', e = .returned v' ∧ Ints .u32 w' v' len (fun k => (cod c len k : Int)) ∧ Below w.heap.size w w' :=
  (codes_new v len c hl h w src).mono fun _ _ ⟨_, e, _, h2, h3⟩ => ⟨_, e, h2, h3⟩
end Go.Proofs.YtgjpcjnhggcfdaaGreatDoor.Cod
