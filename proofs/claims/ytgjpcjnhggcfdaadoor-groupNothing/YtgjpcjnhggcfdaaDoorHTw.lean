/- Plain facts: a writer in memory, as it was and as it is now. Conditions: its bits are few. -/
import Derived.Test.YtgjpcjnhggcfdaaDoorBak
namespace Go.Proofs.YtgjpcjnhggcfdaaDoor.HTw
open Go.ChangeShapes Go.WideShapes Go.ChangeAt Go.RowKit Go.Proofs.YtgjpcjnhggcfdaaDoor.Core Go.Proofs.YtgjpcjnhggcfdaaDoor.Foot Go.Proofs.YtgjpcjnhggcfdaaDoor.Add Go.Proofs.YtgjpcjnhggcfdaaDoor.Wri

/-- A writer that lies in blocks from H on. -/
structure Nw (H : Nat) (w wr : World) (gw : Nat) (u : Value) (V N : Nat) : Prop where
  wri : Wr wr gw u V N
  ft : ∀ b, Ft gw u b → H ≤ b
  bel : Below H w wr
  hH : H ≤ w.heap.size
theorem Nw.put {H : Nat} {w wr w' : World} {gw : Nat} {u u' : Value} {V N V' N' m : Nat} (h : Nw H w wr gw u V N) (hw : Wr w' gw u' V' N') (t : Turn gw u u' m wr w') : Nw H w w' gw u' V' N' := by
  have hs := h.bel.size
  have hH := h.hH
  refine ⟨hw, fun b hb => ?_, h.bel.trans (t.upd.below H (by omega) h.ft), hH⟩
  rcases hb with rfl | hb
  · exact h.ft _ (.inl rfl)
  · rcases t.stays.foot b hb with h1 | h1
    · exact h.ft b (.inr h1)
    · omega
theorem Nw.keep {H : Nat} {w wr w' : World} {gw : Nat} {u : Value} {V N : Nat} (h : Nw H w wr gw u V N) (b : Below wr.heap.size wr w') : Nw H w w' gw u V N := by
  have hs := h.bel.size
  have hH := h.hH
  exact ⟨h.wri.keep (Upd.ofBelow (S := fun _ => False) b) (fun _ _ h => h), h.ft, h.bel.trans (b.mono (by omega)), hH⟩
theorem Nw.drewN {H : Nat} {w wr : World} {gw : Nat} {u : Value} {V N : Nat} (h : Nw H w wr gw u V N) (k : Nat) : Nw H w (wr.drewN k) gw u V N :=
  h.keep ⟨rfl, rfl, rfl, Nat.le_refl _, fun _ _ => rfl⟩
theorem nw_new (w : World) : Calls Tryd.prog 10 #[] w fun e w' => ∃ g u, e = .returned (.pointer (some ⟨g, 0, none⟩)) ∧ Nw w.heap.size w w' g u 0 0 := by
  refine (new8 w).mono ?_
  rintro e w' ⟨g, rfl, hg, wr, bel⟩
  exact ⟨g, _, rfl, wr, fun b hb => by rcases hb with rfl | hb; exact hg; simp [Value.ownBlock] at hb, bel, Nat.le_refl _⟩
theorem nw_bits {H : Nat} {w wr : World} {gw : Nat} {u : Value} {V N : Nat} (h : Nw H w wr gw u V N) (v n : Nat) (hn : n ≤ 32) (hv : v < 2 ^ n) (hN : N ≤ 1000000) :
    Calls Tryd.prog 27 #[.pointer (some ⟨gw, 0, none⟩), .int .u32 v, .int .i64 n] wr fun e w' => e = .returned (.bool true) ∧ ∃ u', Nw H w w' gw u' (V + v * 2 ^ N) (N + n) := by
  refine (bits_yes gw u V N v n wr h.wri hn hv hN).mono ?_
  rintro e w' ⟨rfl, u', hw, t⟩
  exact ⟨rfl, u', h.put hw t⟩

/-- A writer, as it was in w and as it is now. -/
structure Tw (w : World) (gw : Nat) (u : Value) (V0 N0 : Nat) (wr : World) (u' : Value) (V N : Nat) : Prop where
  base : Wr w gw u V0 N0
  wri : Wr wr gw u' V N
  turn : Turn gw u u' (N0 / 8) w wr
  le : N0 ≤ N
theorem Tw.refl {w : World} {gw : Nat} {u : Value} {V N : Nat} (h : Wr w gw u V N) : Tw w gw u V N w u V N := ⟨h, h, Turn.refl _ _ _ _, Nat.le_refl _⟩
theorem Tw.put {w wr w' : World} {gw : Nat} {u u1 u2 : Value} {V0 N0 V N V' N' : Nat} (h : Tw w gw u V0 N0 wr u1 V N) (hw : Wr w' gw u2 V' N') (t : Turn gw u1 u2 (N / 8) wr w') (hN : N ≤ N') : Tw w gw u V0 N0 w' u2 V' N' :=
  ⟨h.base, hw, h.turn.trans t (by have := h.le; omega) h.base.raw.ne (fun b hb => (h.base.raw.own.lt b hb).2), by have := h.le; omega⟩
theorem turn_below {w w' : World} (g : Nat) (v : Value) (n : Nat) (b : Below w.heap.size w w') (hlt : ∀ b, v.ownBlock = some b → b < w.heap.size) : Turn g v v n w w' :=
  ⟨Upd.ofBelow b, fun _ h => .inl h, fun c k hb _ => b.cell (p := ⟨c, k, none⟩) (hlt c hb)⟩
theorem Tw.below {w wr w' : World} {gw : Nat} {u u1 : Value} {V0 N0 V N : Nat} (h : Tw w gw u V0 N0 wr u1 V N) (b : Below wr.heap.size wr w') : Tw w gw u V0 N0 w' u1 V N :=
  h.put (h.wri.keep (Upd.ofBelow (S := fun _ => False) b) (fun _ _ h => h)) (turn_below _ _ _ b (fun c hc => (h.wri.raw.own.lt c hc).2)) (Nat.le_refl _)
theorem Tw.ft {w wr : World} {gw : Nat} {u u1 : Value} {V0 N0 V N : Nat} (h : Tw w gw u V0 N0 wr u1 V N) (b : Nat) (hb : Ft gw u1 b) : Ft gw u b ∨ w.heap.size ≤ b := by
  rcases hb with rfl | hb
  · exact .inl (.inl rfl)
  · rcases h.turn.stays.foot b hb with h1 | h1
    · exact .inl (.inr h1)
    · exact .inr h1
theorem Tw.trans {w w1 w2 : World} {gw : Nat} {u u1 u2 : Value} {V0 N0 V1 N1 V2 N2 : Nat} (h : Tw w gw u V0 N0 w1 u1 V1 N1) (k : Tw w1 gw u1 V1 N1 w2 u2 V2 N2) : Tw w gw u V0 N0 w2 u2 V2 N2 :=
  h.put k.wri k.turn k.le
theorem Tw.nw {H : Nat} {w0 w wr : World} {gw : Nat} {u u1 : Value} {V0 N0 V N : Nat} (h : Nw H w0 w gw u V0 N0) (k : Tw w gw u V0 N0 wr u1 V N) : Nw H w0 wr gw u1 V N := h.put k.wri k.turn
theorem tw_bits {w wr : World} {gw : Nat} {u u1 : Value} {V0 N0 V N : Nat} (h : Tw w gw u V0 N0 wr u1 V N) (v n : Nat) (hn : n ≤ 32) (hv : v < 2 ^ n) (hN : N ≤ 1000000) :
    Calls Tryd.prog 27 #[.pointer (some ⟨gw, 0, none⟩), .int .u32 v, .int .i64 n] wr fun e w' => e = .returned (.bool true) ∧ ∃ u2, Tw w gw u V0 N0 w' u2 (V + v * 2 ^ N) (N + n) := by
  refine (bits_yes gw u1 V N v n wr h.wri hn hv hN).mono ?_
  rintro e w' ⟨rfl, u2, hw, t⟩
  exact ⟨rfl, u2, h.put hw t (by omega)⟩
end Go.Proofs.YtgjpcjnhggcfdaaDoor.HTw
