/- Contracts: lean's walk over all pixels, for whatever is done at each. Conditions: the image may be, the modes are in memory. -/
import Derived.Test.YtnfokdcoelignaaLSnd
namespace Go.Proofs.Ytnfokdcoelignaa.LEch
set_option linter.unusedVariables false
open Go.ChangeShapes Go.WideShapes Go.ChangeAt Go.RowKit Go.Sort Go.Proofs.Ytnfokdcoelignaa.Core Go.Proofs.Ytnfokdcoelignaa.PNum Go.Proofs.Ytnfokdcoelignaa.PFun Go.Proofs.Ytnfokdcoelignaa.PGoo Go.Proofs.Ytnfokdcoelignaa.GGue Go.Proofs.Ytnfokdcoelignaa.GImg Go.Proofs.Ytnfokdcoelignaa.GAro Go.Proofs.Ytnfokdcoelignaa.GAtt Go.Proofs.Ytnfokdcoelignaa.GCpy Go.Proofs.Ytnfokdcoelignaa.LBlk Go.Proofs.Ytnfokdcoelignaa.LMod Go.Proofs.Ytnfokdcoelignaa.LSnd

structure EchI (w : World) (W H k m cm mb mo n c : Nat) (a : Option Addr) (Inv : Nat → World → Prop) (j : Nat) (wr : World) : Prop where
  inv : Inv j wr
  b1 : Box wr w.heap.size 43 #[.int .i64 k, .int .i64 (bl W k), .slice (some ⟨mb, mo, none⟩) m cm]
  b2 : Box wr (w.heap.size + 1) 24 #[.int .i64 W, .int .i64 H, .slice a n c]
theorem two_boxes (w : World) (x y : Array Value) (T U : TypeId) : Box ((w.alloc (.cells x T)).alloc (.cells y U)) w.heap.size T x ∧ Box ((w.alloc (.cells x T)).alloc (.cells y U)) (w.heap.size + 1) U y := by
  refine ⟨(Box.made w T x).alloc _, ?_⟩
  have h := Box.made (w.alloc (.cells x T)) U y
  rw [show (w.alloc (.cells x T)).heap.size = w.heap.size + 1 by simp] at h
  exact h
theorem drewN_below (w : World) (n : Nat) : Below w.heap.size w (w.drewN n) := below_drew (Below.refl _ _) n
set_option maxHeartbeats 1000000 in
theorem each20 (K : Nat) (eg : ∀ args w, (callFunc K args).run Try.prog w = .ok (.enter K args) w) (caps : Array Value) {W H k m mb mo n : Nat} (cm c : Nat) (a : Option Addr) (md : Nat → Int) (S : Nat → Prop) (Inv : Nat → World → Prop) (w : World)
    (hW0 : 0 < W) (hW : W ≤ 16384) (hH : H ≤ 16384) (hn : n = W * H) (hk : k ≤ 9) (hm : m = bl W k * bl H k) (hS : ∀ j, S j → j < w.heap.size) (start : Inv 0 w)
    (keep : ∀ i wr w', Inv i wr → Below wr.heap.size wr w' → Inv i w') (modes : ∀ i wr, Inv i wr → Mds wr (some ⟨mb, mo, none⟩) m md)
    (ask : ∀ i X Y wr, i < n → X < W → Y < H → i = Y * W + X → Inv i wr → Calls Try.prog K (#[.int .i64 i, .int .i64 X, .int .i64 Y, .int .i64 (md (bk W k X Y))] ++ caps) wr fun e w' => e = .returned (.tuple #[]) ∧ Inv (i + 1) w' ∧ Upd S wr w') :
    Calls Try.prog 20 #[.agg #[.int .i64 k, .int .i64 (bl W k), .slice (some ⟨mb, mo, none⟩) m cm], .agg #[.int .i64 W, .int .i64 H, .slice a n c], .func (.func K) #[] caps] w fun e w' => e = .returned (.tuple #[]) ∧ Inv n w' := by
  have hnb : n ≤ 268435456 := hn ▸ size_le hW hH
  have ST : Hid (EchI w W H k m cm mb mo n c a Inv 0 ((w.alloc (.cells #[.int .i64 k, .int .i64 (bl W k), .slice (some ⟨mb, mo, none⟩) m cm] 43)).alloc (.cells #[.int .i64 W, .int .i64 H, .slice a n c] 24))) :=
    hide ⟨keep 0 w _ start (bel_a2 _ _ _), (two_boxes w _ _ 43 24).1, (two_boxes w _ _ 43 24).2⟩
  have MD := hide modes
  have KP := hide keep
  have ASK := hide ask
  have HS := hide hS
  have HN := hide hn
  have HM := hide hm
  clear modes keep ask hS start hn hm
  go_enter Try.func20, Try.ntmps20
  go_wp2_with fail
  go_loopw [12] (fun i wr => ∃ j : Nat, j ≤ n ∧ i = .int .i64 j ∧ EchI w W H k m cm mb mo n c a Inv j wr) (fun i _ => n - (intOf i).toNat)
  case atStart => exact ⟨0, Nat.zero_le _, rfl, unhide ST⟩
  case round =>
    obtain ⟨j, hj, rfl, E⟩ := hrel
    clear ST
    have d0 : wr.cell? ⟨w.heap.size, 0, none⟩ = some (.int .i64 k) := E.b1.cell 0
    have d1 : wr.cell? ⟨w.heap.size, 1, none⟩ = some (.int .i64 (bl W k)) := E.b1.cell 1
    have d2 : wr.cell? ⟨w.heap.size, 2, none⟩ = some (.slice (some ⟨mb, mo, none⟩) m cm) := E.b1.cell 2
    have c0 : wr.cell? ⟨w.heap.size + 1, 0, none⟩ = some (.int .i64 W) := E.b2.cell 0
    have c1 : wr.cell? ⟨w.heap.size + 1, 1, none⟩ = some (.int .i64 H) := E.b2.cell 1
    have c2 : wr.cell? ⟨w.heap.size + 1, 2, none⟩ = some (.slice a n c) := E.b2.cell 2
    have EE := hide E
    clear E
    by_cases hlt : j < n
    · have hlt' : (j : Int) < (n : Int) := by omega
      obtain ⟨X, Y, eX, eY, hX, hY, hkXY⟩ : ∃ X Y : Nat, ((j : Int)).tmod (W : Int) = (X : Int) ∧ ((j : Int)).tdiv (W : Int) = (Y : Int) ∧ X < W ∧ Y < H ∧ j = Y * W + X :=
        ⟨j % W, j / W, rfl, rfl, Nat.mod_lt _ hW0, Nat.div_lt_of_lt_mul (unhide HN ▸ hlt), (Nat.div_add_mod' j W).symm⟩
      have HX := hide hX
      have HY := hide hY
      have HK := hide hkXY
      clear hkXY
      go_wp2_with fail
      go_quiet (fail)
      rename_i nq
      have D0 : (wr.drewN nq).cell? ⟨w.heap.size, 0, none⟩ = some (.int .i64 k) := d0
      have D1 : (wr.drewN nq).cell? ⟨w.heap.size, 1, none⟩ = some (.int .i64 (bl W k)) := d1
      have D2 : (wr.drewN nq).cell? ⟨w.heap.size, 2, none⟩ = some (.slice (some ⟨mb, mo, none⟩) m cm) := d2
      have BB := hide (drewN_below wr nq)
      clear d0 d1 d2 c0 c1 c2
      generalize wr.drewN nq = wA at *
      go_wp2_with fail
      refine (of37 cm (unhide MD j _ (unhide KP j _ _ (unhide EE).inv (unhide BB))) (unhide HM) hW hH hk hX hY).mono ?_
      rintro e w1 ⟨rfl, b1⟩
      have B1 := hide (below_two (unhide BB) b1)
      clear b1 D0 D1 D2
      have NX := hide (unhide ASK j X Y w1 hlt hX hY (unhide HK) (unhide KP j _ _ (unhide EE).inv (unhide B1)))
      generalize md (bk W k X Y) = v at *
      go_wp2_with (go_at_fn K; refine (unhide NX).mono ?_; rintro e w2 ⟨rfl, i2, u2⟩)
      have E2 : Hid (EchI w W H k m cm mb mo n c a Inv (j + 1) w2) := hide ⟨i2, ((unhide EE).b1.below (unhide B1) (unhide EE).b1.lt).keep u2 (fun h => by have := unhide HS _ h; omega), ((unhide EE).b2.below (unhide B1) (unhide EE).b2.lt).keep u2 (fun h => by have := unhide HS _ h; omega)⟩
      clear i2 u2
      go_roundw
      case rel => exact ⟨j + 1, by omega, by go_num, unhide E2⟩
      case measure => simp [intOf]; omega
    · obtain rfl : j = n := by omega
      go_wp2
      go_end0
      exact ⟨rfl, (unhide EE).inv⟩
end Go.Proofs.Ytnfokdcoelignaa.LEch
