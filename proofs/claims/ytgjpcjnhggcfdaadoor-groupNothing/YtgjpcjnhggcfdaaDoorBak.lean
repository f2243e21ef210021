/- Contracts: tree.Write; and what lies in memory while symbols are written: a writer, a row of those told. Conditions: they lie apart, few bits. -/
import Derived.Test.YtgjpcjnhggcfdaaDoorTrr
import Derived.Test.YtgjpcjnhggcfdaaDoorWri
namespace Go.Proofs.YtgjpcjnhggcfdaaDoor.Bak
open Go.ChangeShapes Go.WideShapes Go.ChangeAt Go.RowKit Go.Proofs.YtgjpcjnhggcfdaaDoor.Core Go.Proofs.YtgjpcjnhggcfdaaDoor.Math Go.Proofs.YtgjpcjnhggcfdaaDoor.Rvm Go.Proofs.YtgjpcjnhggcfdaaDoor.Dec Go.Proofs.YtgjpcjnhggcfdaaDoor.Wrd Go.Proofs.YtgjpcjnhggcfdaaDoor.Cou Go.Proofs.YtgjpcjnhggcfdaaDoor.Tre Go.Proofs.YtgjpcjnhggcfdaaDoor.Foot Go.Proofs.YtgjpcjnhggcfdaaDoor.Add Go.Proofs.YtgjpcjnhggcfdaaDoor.Wri Go.Proofs.YtgjpcjnhggcfdaaDoor.Bitin Go.Proofs.YtgjpcjnhggcfdaaDoor.Eyes

theorem write_no (lo hi g n : Nat) (c : Nat → Int) (hg : Rng c n) (k : Int) (p : Value) (w : World) (h : Tr w lo hi g c n) (hb : hasB c n k = false) : Calls Tryd.prog 26 #[.pointer (some ⟨g, 0, none⟩), p, .int .i64 k] w fun e w' => e = .returned (.bool false) ∧ w' = w := by
  have HA := has33 lo hi g n c hg k w h
  rw [hb] at HA
  have HH := hide HA
  clear HA h hb
  go_enter Tryd.func26, Tryd.ntmps26
  go_wp2_with fail
  refine (unhide HH).mono ?_
  rintro e w1 ⟨rfl, rfl⟩
  go_wp2
  go_ret
  exact ⟨rfl, rfl⟩
theorem turn_alloc {w : World} (g : Nat) (v : Value) (n : Nat) (o : Obj) (hlt : ∀ b, v.ownBlock = some b → b < w.heap.size) : Turn g v v n w (w.alloc o) :=
  ⟨(Upd.refl _ w).alloc o, fun _ h => .inl h, fun b k hb _ => ((Upd.refl (fun _ => False) w).alloc o).cell (p := ⟨b, k, none⟩) (hlt b hb) (fun h => h)⟩
set_option maxHeartbeats 400000 in
theorem write_yes (lo hi g n : Nat) (c : Nat → Int) (hg : Rng c n) (m : Nat) (hm : m < n) (hcm : c m ≠ 0) (gw : Nat) (u : Value) (V N : Nat) (w : World) (h : Tr w lo hi g c n) (hw : Wr w gw u V N) (hN : N ≤ 1000000) :
    Calls Tryd.prog 26 #[.pointer (some ⟨g, 0, none⟩), .pointer (some ⟨gw, 0, none⟩), .int .i64 m] w fun e w' => e = .returned (.bool true) ∧ ∃ u', Wr w' gw u' (V + uu c n m * 2 ^ N) (N + (qq c n m).toNat) ∧ Turn gw u u' (N / 8) w w' := by
  have hb : hasB c n (m : Int) = true := by
    unfold hasB
    rw [decide_eq_true_eq]
    exact ⟨by omega, by omega, hcm⟩
  have HA := has33 lo hi g n c hg m w h
  rw [hb] at HA
  have HH := hide HA
  have hq1 := qq_bd hg hm
  have hq0 := (qq_has hg hm).2 hcm
  obtain ⟨d, hd⟩ : ∃ d : Nat, qq c n m = (d : Int) := ⟨(qq c n m).toNat, by omega⟩
  have hu := uu_lt c n m
  rw [hd] at hu ⊢
  have hd15 : d ≤ 15 := by omega
  have hu2 : uu c n m ≤ 32768 := by
    have : 2 ^ d ≤ 2 ^ 15 := Nat.pow_le_pow_right (by omega) hd15
    have h3 : ((d : Int)).toNat = d := rfl
    rw [h3] at hu
    omega
  obtain ⟨h1, h2, h3, tb, sb, le, a1, a2, a3, a4, a5, a6, a7, a8, a9, a10⟩ := h
  have c0 := (a8.cell 0).trans (tc_0 _ _ _ _)
  have w0 := (a9.cell (m * 2)).trans (wrow_bits _ _ n m hm)
  have w1 := (a9.cell (m * 2 + 1)).trans (wrow_cnt _ _ n m hm)
  rw [hd] at w1
  have hmn : (m : Int) < (n : Int) := by omega
  have BY := hide (fun o => bits_yes gw u V N (uu c n m) d (w.alloc o) (hw.keep ((Upd.refl (fun _ => False) w).alloc o) (fun _ _ h => h)) (by omega) hu hN)
  have TA := hide (fun o => turn_alloc gw u (N / 8) o (fun b hb => (hw.raw.own.lt b hb).2))
  have NE := hide hw.raw.ne
  have LT := hide (fun b (hb : u.ownBlock = some b) => (hw.raw.own.lt b hb).2)
  have hdt : ((d : Int)).toNat = d := rfl
  rw [hdt]
  clear HA hb a8 a9 a10 a6 a7 hw hq0 hq1 hd hu hdt hcm
  generalize uu c n m = x at *
  go_enter Tryd.func26, Tryd.ntmps26
  go_wp2_with fail
  refine (unhide HH).mono ?_
  rintro e w2 ⟨rfl, rfl⟩
  go_wp2_with fail
  refine (unhide BY _).mono ?_
  rintro e w3 ⟨rfl, u', wr', t'⟩
  have WR := hide wr'
  have TU := hide ((unhide TA _).trans t' (Nat.le_refl _) (unhide NE) (unhide LT))
  clear wr' t' BY TA
  go_wp2
  go_ret
  exact ⟨rfl, u', unhide WR, unhide TU⟩
end Go.Proofs.YtgjpcjnhggcfdaaDoor.Bak
