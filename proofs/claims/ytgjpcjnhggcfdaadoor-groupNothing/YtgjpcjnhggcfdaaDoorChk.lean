/- Contracts: code.Check and all that it calls. Conditions: the slice reads as integers, and they are few. -/
import Derived.Test.YtgjpcjnhggcfdaaDoorOne
namespace Go.Proofs.YtgjpcjnhggcfdaaDoor.Chk
open Go.ChangeShapes Go.WideShapes Go.ChangeAt Go.RowKit Go.Proofs.YtgjpcjnhggcfdaaDoor.Core Go.Proofs.YtgjpcjnhggcfdaaDoor.Gnd Go.Proofs.YtgjpcjnhggcfdaaDoor.Math Go.Proofs.YtgjpcjnhggcfdaaDoor.Each Go.Proofs.YtgjpcjnhggcfdaaDoor.One

theorem bad19 (x : Int) (w : World) : Calls Tryd.prog 48 #[.int .i64 x] w fun e w' => e = .returned (.bool (decide (x < 0 ∨ 15 < x))) ∧ w' = w := by
  by_cases h1 : x < 0
  · have hb : decide (x < 0 ∨ 15 < x) = true := by simp [h1]
    rw [hb]
    clear hb
    go_enter Tryd.func48, Tryd.ntmps48
    go_wp2
    go_ret
    exact ⟨rfl, rfl⟩
  · by_cases h2 : 15 < x
    · have hb : decide (x < 0 ∨ 15 < x) = true := by simp [h2]
      rw [hb]
      clear hb
      go_enter Tryd.func48, Tryd.ntmps48
      go_wp2
      go_ret
      exact ⟨rfl, rfl⟩
    · have hb : decide (x < 0 ∨ 15 < x) = false := by simp; omega
      rw [hb]
      clear hb
      go_enter Tryd.func48, Tryd.ntmps48
      go_wp2
      go_ret
      exact ⟨rfl, rfl⟩
theorem idx22 (v : Value) (len : Nat) (c : Nat → Int) (hl : len ≤ 100000) (w : World) (src : Ints .i64 w v len c) :
    Calls Tryd.prog 63 #[v, .func (.func 48) #[] #[]] w fun e w' => ∃ r : Int, e = .returned (.int .i64 r) ∧ decide (0 ≤ r) = !rngB c len ∧ w' = w := by
  obtain ⟨a, cap, rfl, hs⟩ := src
  have SRC := hide hs
  clear hs
  go_enter Tryd.func63, Tryd.ntmps63
  go_wp2
  go_loopw [8] (fun i wr => ∃ k : Nat, k ≤ len ∧ i = .int .i64 k ∧ Rng c k ∧ wr = w) (fun i _ => len - (intOf i).toNat)
  case atStart => exact ⟨0, Nat.zero_le _, rfl, fun j hj => by omega, rfl⟩
  case round =>
    obtain ⟨k, hk, rfl, good, rfl⟩ := hrel
    have GOOD := hide good
    clear good
    by_cases hlt : k < len
    · have hlt' : (k : Int) < (len : Int) := by omega
      obtain ⟨b, off, rfl, hcell⟩ := unhide SRC k hlt
      by_cases hx : c k < 0 ∨ 15 < c k
      · have hb : decide (c k < 0 ∨ 15 < c k) = true := by simp [hx]
        have HX := hide hx
        clear hx
        go_wp2_with (go_at_call 48; refine (bad19 (c k) _).mono ?_; rw [hb]; rintro e w1 ⟨rfl, rfl⟩)
        go_ret
        refine ⟨_, rfl, ?_, rfl⟩
        have h1 : rngB c len = false := by
          cases h2 : rngB c len
          · rfl
          · have := (rngB_iff c len).1 h2 k hlt
            have := unhide HX
            omega
        rw [h1]
        exact decide_eq_true (by omega)
      · have hb : decide (c k < 0 ∨ 15 < c k) = false := by simp [hx]
        have HX := hide hx
        clear hx
        go_wp2_with (go_at_call 48; refine (bad19 (c k) _).mono ?_; rw [hb]; rintro e w1 ⟨rfl, rfl⟩)
        go_roundw
        case rel =>
          refine ⟨k + 1, by omega, by go_num, fun j hj => ?_, by first | rfl | trivial⟩
          by_cases e : j = k
          · subst e
            have := unhide HX
            omega
          · exact unhide GOOD j (by omega)
        case measure => simp [intOf]; omega
    · obtain rfl : k = len := by omega
      go_wp2
      go_ret
      refine ⟨_, rfl, ?_, rfl⟩
      rw [(rngB_iff c k).2 (unhide GOOD)]
      rfl
theorem con18 (v : Value) (len : Nat) (c : Nat → Int) (hl : len ≤ 100000) (w : World) (src : Ints .i64 w v len c) :
    Calls Tryd.prog 47 #[v, .func (.func 48) #[] #[]] w fun e w' => e = .returned (.bool (!rngB c len)) ∧ w' = w := by
  have SRC := hide src
  clear src
  go_enter Tryd.func47, Tryd.ntmps47
  go_wp2_with (go_at_call 63; refine (idx22 v len c hl _ (unhide SRC)).mono ?_; rintro e w1 ⟨r, rfl, hr, rfl⟩; have HR := hide hr; clear hr)
  go_ret
  exact ⟨by rw [← unhide HR]; rfl, rfl⟩
theorem half (m : Nat) (h : m ≤ 15) : (32768 : Int) / 2 ^ m = ((2 ^ (15 - m) : Nat) : Int) := by
  have h1 := pow_split h
  have h2 : ((2 ^ m : Nat) : Int) = (2 : Int) ^ m := by simp
  have h3 : (32768 : Int) = (2 : Int) ^ m * ((2 ^ (15 - m) : Nat) : Int) := by
    rw [← h2, ← Int.natCast_mul, h1]
    rfl
  have h4 : (2 : Int) ^ m ≠ 0 := by
    have : 0 < 2 ^ m := Nat.pow_pos (by omega)
    omega
  rw [h3, Int.mul_ediv_cancel_left _ h4]
theorem u64_in (n : Int) (h : 0 ≤ n ∧ n ≤ 18446744073709551615) : IntKind.u64.wrap n = n := by
  simp [IntKind.wrap, IntKind.bits, IntKind.signed]
  omega
theorem pt2_of {x : Int} {m : Nat} (h : x = (m : Int)) (h0 : m ≠ 0) : pt2 x = 2 ^ (15 - m) := by
  unfold pt2
  rw [if_neg (by omega), h]
  rfl
theorem add20 (i s : Int) (m : Nat) (g : Nat) (w : World) (b1 : Box w g 67 #[.int .u64 s]) (hs0 : 0 ≤ s) (hs : s ≤ 4000000000) (hm : m ≤ 15) :
    Calls Tryd.prog 51 (#[.int .i64 i, .int .i64 m] ++ #[.pointer (some ⟨g, 0, none⟩)]) w fun e w' =>
      e = .returned (.tuple #[]) ∧ Box w' g 67 #[.int .u64 (s + (2 ^ (15 - m) : Nat))] ∧ Upd (fun k => k = g) w w' := by
  have c1 : w.cell? ⟨g, 0, none⟩ = some (.int .u64 s) := b1.cell 0
  have f1 := b1.free 0
  have BOX := hide b1
  clear b1
  go_enter Tryd.func51, Tryd.ntmps51
  go_region
  go_end0
  have hp : 2 ^ (15 - m) ≤ 2 ^ 15 := Nat.pow_le_pow_right (by omega) (by omega)
  have e1 : IntKind.u64.wrap (s + 32768 / 2 ^ m) = s + (2 ^ (15 - m) : Nat) := by
    rw [half m hm]
    generalize 2 ^ (15 - m) = p at *
    exact u64_in _ (by omega)
  rw [e1]
  exact ⟨rfl, (unhide BOX).set 0 _, ((Upd.refl (fun k => k = g) w).setCell (p := ⟨g, 0, none⟩) (show g = g from rfl) _).drewN 1⟩
theorem upd_last {a w w' : World} {g : Nat} (u : Upd (fun k => k = g) w w') (h : Below a.heap.size a w) (hB : a.heap.size ≤ g) : Below a.heap.size a w' :=
  h.trans ⟨u.os, u.tape, u.output, u.size, fun k hk => u.block k (by have := h.size; omega) (by omega)⟩
def InvSum (w : World) (c : Nat → Int) (i : Nat) (wr : World) : Prop :=
  Box wr w.heap.size 67 #[.int .u64 (kr c i : Int)] ∧ Below w.heap.size w wr
theorem check11 (v : Value) (len : Nat) (c : Nat → Int) (hl : len ≤ 100000) (w : World) (src : Ints .i64 w v len c) :
    Calls Tryd.prog 28 #[v] w fun e w' => e = .returned (.int .i64 (chk c len)) ∧ Below w.heap.size w w' := by
  have eg : ∀ args w, (callFunc 51 args).run Tryd.prog w = .ok (.enter 51 args) w := enters_of Tryd.func51 (by kernel_rfl) rfl
  have SRC := hide src
  clear src
  by_cases hg : Rng c len
  · have HG := hide hg
    have hb : (!rngB c len) = false := by rw [(rngB_iff c len).2 hg]; rfl
    clear hg
    go_enter Tryd.func28, Tryd.ntmps28
    go_wp2_with fail
    refine (con18 v len c hl _ (unhide SRC)).mono ?_
    rw [hb]
    rintro e w0 ⟨rfl, rfl⟩
    go_wp2_with fail
    refine (one8 v len c hl _ (unhide SRC)).mono ?_
    rintro e w1 ⟨rfl, bel⟩
    have BEL := hide bel
    clear bel hb
    by_cases hm : many c len = 1
    · have hd : decide (many c len = 1) = true := by simp [hm]
      rw [hd]
      have HM := hide hm
      clear hm hd
      go_wp2
      go_ret
      refine ⟨?_, unhide BEL⟩
      apply ret_int
      unfold chk
      rw [if_pos ((rngB_iff c len).2 (unhide HG)), if_pos (Or.inl (unhide HM))]
    · have hd : decide (many c len = 1) = false := by simp [hm]
      rw [hd]
      have HM := hide hm
      clear hm hd
      go_wp2_with fail
      refine (each14 51 eg _ v len c hl (InvSum w1 c) _ (fun i wr h => ((unhide SRC).keep (unhide BEL)).keep h.2) ⟨Box.made w1 67 _, (Below.refl _ w1).alloc (Nat.le_refl _) _⟩ ?_ ?_).mono ?_
      · intro i wr hi hc h
        unfold InvSum at *
        simp only [kr, pt2, hc, if_true, Nat.add_zero]
        exact h
      · intro i wr hi hc h
        have h1 := unhide HG i hi
        have h2 := kr_le c i
        obtain ⟨m, hcm⟩ : ∃ m : Nat, c i = (m : Int) := ⟨(c i).toNat, by omega⟩
        have hm0 : m ≠ 0 := by omega
        rw [hcm]
        refine (add20 i _ m _ wr h.1 (by omega) (by omega) (by omega)).mono fun e w' ⟨e1, e2, e3⟩ => ⟨e1, ?_, upd_last e3 h.2 (Nat.le_refl _)⟩
        have : (kr c (i + 1) : Int) = (kr c i : Int) + ((2 ^ (15 - m) : Nat) : Int) := by
          simp only [kr, pt2_of hcm hm0, Int.natCast_add]
        rw [this]
        exact e2
      · rintro e w' ⟨rfl, h1, h2⟩
        have c1 : w'.cell? ⟨w1.heap.size, 0, none⟩ = some (.int .u64 (kr c len : Int)) := h1.cell 0
        have BE2 := hide (show Below w0.heap.size w0 w' from (unhide BEL).trans (h2.mono (unhide BEL).size))
        clear h1 h2
        by_cases hk : kr c len = 32768
        · have hk' : (kr c len : Int) = 32768 := by omega
          have HK := hide hk
          clear hk
          go_wp2
          go_ret
          refine ⟨?_, unhide BE2⟩
          apply ret_int
          unfold chk
          rw [if_pos ((rngB_iff c len).2 (unhide HG)), if_pos (Or.inr (unhide HK))]
        · have hk' : ¬ (kr c len : Int) = 32768 := by omega
          have HK := hide hk
          clear hk
          go_wp2
          go_ret
          refine ⟨?_, unhide BE2⟩
          apply ret_int
          unfold chk
          rw [if_pos ((rngB_iff c len).2 (unhide HG)), if_neg (fun h => h.elim (unhide HM) (unhide HK))]
  · have HG := hide hg
    have hb : (!rngB c len) = true := by rw [show rngB c len = false from eq_false_of_ne_true (fun h => hg ((rngB_iff c len).1 h))]; rfl
    clear hg
    go_enter Tryd.func28, Tryd.ntmps28
    go_wp2_with (go_at_call 47; refine (con18 v len c hl _ (unhide SRC)).mono ?_; rw [hb]; rintro e w0 ⟨rfl, rfl⟩)
    go_ret
    refine ⟨?_, Below.refl _ _⟩
    apply ret_int
    unfold chk
    rw [if_neg (fun h => unhide HG ((rngB_iff c len).1 h))]
end Go.Proofs.YtgjpcjnhggcfdaaDoor.Chk
