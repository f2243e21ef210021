/-
  Contracts: package lens, writing: one symbol or two, by hand. Conditions: they are below 256, and lie in memory.
  Contract: lens.Write. Conditions: the slice reads as lengths, and they are few; the writer's bits are few.
  Contract: lens.Write, whole: what is written, and when nothing is. Conditions: the slice reads as integers, and they are few; the writer's bits are few.
  Plain numbers: lengths that are all one, or one alone; what is told of a step is small. No function of the program. Conditions: as each says.
-/
import Derived.Test.YtgjpcjnhggcfdaaGreatDoorC14
import Derived.Test.YtgjpcjnhggcfdaaGreatDoorC22
import Derived.Test.YtgjpcjnhggcfdaaGreatDoorC03
import Derived.Test.YtgjpcjnhggcfdaaGreatDoorC11
namespace Go.Proofs.YtgjpcjnhggcfdaaGreatDoor.Wrb
open Go.ChangeShapes Go.WideShapes Go.ChangeAt Go.RowKit Go.Proofs.YtgjpcjnhggcfdaaGreatDoor.Core Go.Proofs.YtgjpcjnhggcfdaaGreatDoor.Gnd Go.Proofs.YtgjpcjnhggcfdaaGreatDoor.Math Go.Proofs.YtgjpcjnhggcfdaaGreatDoor.Dec Go.Proofs.YtgjpcjnhggcfdaaGreatDoor.Ord Go.Proofs.YtgjpcjnhggcfdaaGreatDoor.Lsp Go.Proofs.YtgjpcjnhggcfdaaGreatDoor.Foot Go.Proofs.YtgjpcjnhggcfdaaGreatDoor.Add Go.Proofs.YtgjpcjnhggcfdaaGreatDoor.Wri Go.Proofs.YtgjpcjnhggcfdaaGreatDoor.Wra

/-- What simple answers. -/
structure Smp (w : World) (n a t : Nat) (two : Bool) (e : Ending) (w' : World) : Prop where
  ex : ∃ gw u V N, e = .returned (.pointer (some ⟨gw, 0, none⟩)) ∧ Nw w.heap.size w w' gw u V N ∧ Hand V 0 n a t N two ∧ N ≤ 100
theorem hand_f0 (n a t : Nat) (ha : a < 2) (han : a < n) : Hand (0 + 1 * 2 ^ 0 + 0 * 2 ^ (0 + 1) + 0 * 2 ^ (0 + 1 + 1) + a * 2 ^ (0 + 1 + 1 + 1)) 0 n a t (0 + 1 + 1 + 1 + 1) false := by
  have e1 : nb (0 + 1 * 2 ^ 0 + 0 * 2 ^ (0 + 1) + 0 * 2 ^ (0 + 1 + 1) + a * 2 ^ (0 + 1 + 1 + 1)) (0 + 2) 1 = 0 := by unfold nb; simp only [Nat.reducePow, Nat.reduceAdd]; omega
  refine ⟨?_, ?_, ?_, fun h => (by cases h), han, ?_⟩
  · unfold nb; simp only [Nat.reducePow, Nat.reduceAdd]; omega
  · unfold nb; simp only [Nat.reducePow, Nat.reduceAdd]; simp; omega
  · rw [e1]; unfold nb; simp only [Nat.reducePow, Nat.reduceAdd, Nat.reduceMul]; omega
  · rw [e1]; rfl
theorem hand_f1 (n a t : Nat) (ha : a < 256) (han : a < n) : Hand (0 + 1 * 2 ^ 0 + 0 * 2 ^ (0 + 1) + 1 * 2 ^ (0 + 1 + 1) + a * 2 ^ (0 + 1 + 1 + 1)) 0 n a t (0 + 1 + 1 + 1 + 8) false := by
  have e1 : nb (0 + 1 * 2 ^ 0 + 0 * 2 ^ (0 + 1) + 1 * 2 ^ (0 + 1 + 1) + a * 2 ^ (0 + 1 + 1 + 1)) (0 + 2) 1 = 1 := by unfold nb; simp only [Nat.reducePow, Nat.reduceAdd]; omega
  refine ⟨?_, ?_, ?_, fun h => (by cases h), han, ?_⟩
  · unfold nb; simp only [Nat.reducePow, Nat.reduceAdd]; omega
  · unfold nb; simp only [Nat.reducePow, Nat.reduceAdd]; simp; omega
  · rw [e1]; unfold nb; simp only [Nat.reducePow, Nat.reduceAdd, Nat.reduceMul]; omega
  · rw [e1]; rfl
theorem hand_t0 (n a t : Nat) (ha : a < 2) (han : a < n) (ht : t < 256) (htn : t < n) (hat : a ≠ t) : Hand (0 + 1 * 2 ^ 0 + 1 * 2 ^ (0 + 1) + 0 * 2 ^ (0 + 1 + 1) + a * 2 ^ (0 + 1 + 1 + 1) + t * 2 ^ (0 + 1 + 1 + 1 + 1)) 0 n a t (0 + 1 + 1 + 1 + 1 + 8) true := by
  have e1 : nb (0 + 1 * 2 ^ 0 + 1 * 2 ^ (0 + 1) + 0 * 2 ^ (0 + 1 + 1) + a * 2 ^ (0 + 1 + 1 + 1) + t * 2 ^ (0 + 1 + 1 + 1 + 1)) (0 + 2) 1 = 0 := by unfold nb; simp only [Nat.reducePow, Nat.reduceAdd]; omega
  refine ⟨?_, ?_, ?_, fun _ => ⟨?_, htn, hat⟩, han, ?_⟩
  · unfold nb; simp only [Nat.reducePow, Nat.reduceAdd]; omega
  · unfold nb; simp only [Nat.reducePow, Nat.reduceAdd]; simp; omega
  · rw [e1]; unfold nb; simp only [Nat.reducePow, Nat.reduceAdd, Nat.reduceMul]; omega
  · rw [e1]; unfold nb; simp only [Nat.reducePow, Nat.reduceAdd, Nat.reduceMul]; omega
  · rw [e1]; rfl
theorem hand_t1 (n a t : Nat) (ha : a < 256) (han : a < n) (ht : t < 256) (htn : t < n) (hat : a ≠ t) : Hand (0 + 1 * 2 ^ 0 + 1 * 2 ^ (0 + 1) + 1 * 2 ^ (0 + 1 + 1) + a * 2 ^ (0 + 1 + 1 + 1) + t * 2 ^ (0 + 1 + 1 + 1 + 8)) 0 n a t (0 + 1 + 1 + 1 + 8 + 8) true := by
  have e1 : nb (0 + 1 * 2 ^ 0 + 1 * 2 ^ (0 + 1) + 1 * 2 ^ (0 + 1 + 1) + a * 2 ^ (0 + 1 + 1 + 1) + t * 2 ^ (0 + 1 + 1 + 1 + 8)) (0 + 2) 1 = 1 := by unfold nb; simp only [Nat.reducePow, Nat.reduceAdd]; omega
  refine ⟨?_, ?_, ?_, fun _ => ⟨?_, htn, hat⟩, han, ?_⟩
  · unfold nb; simp only [Nat.reducePow, Nat.reduceAdd]; omega
  · unfold nb; simp only [Nat.reducePow, Nat.reduceAdd]; simp; omega
  · rw [e1]; unfold nb; simp only [Nat.reducePow, Nat.reduceAdd, Nat.reduceMul]; omega
  · rw [e1]; unfold nb; simp only [Nat.reducePow, Nat.reduceAdd, Nat.reduceMul]; omega
  · rw [e1]; rfl
set_option maxRecDepth 20000 in
set_option maxHeartbeats 1000000 in
theorem simple_w1 (g cap a n : Nat) (w : World) (hc : w.cell? ⟨g, 0, none⟩ = some (.int .i64 a)) (hcap : 1 ≤ cap) (ha : a < 256) (han : a < n) :
    Calls Tryz.prog 45 #[.slice (some ⟨g, 0, none⟩) 1 cap] w fun e w' => Smp w n a 0 false e w' := by
  have hg := lt_of_cell hc
  have HC := hide hc
  have ha' : (a : Int) ≤ 255 := by omega
  clear hc
  go_enter Tryz.func45, Tryz.ntmps45
  go_wp2_with fail
  refine (nw_new w).mono ?_
  rintro e w1 ⟨gw, u1, rfl, n1⟩
  have N1 := hide n1
  clear n1
  go_wp2_with fail
  refine (nw_bits (unhide N1) 1 1 (by omega) (by omega) (by omega)).mono ?_
  rintro e w2 ⟨rfl, u2, n2⟩
  have N2 := hide n2
  clear n2 N1
  go_wp2_with fail
  refine (nw_bits (unhide N2) 0 1 (by omega) (by omega) (by omega)).mono ?_
  rintro e w3 ⟨rfl, u3, n3⟩
  have c0 := (n3.bel.cell (p := ⟨g, 0, none⟩) hg).trans (unhide HC)
  have N3 := hide n3
  clear n3 N2
  by_cases hlt : a < 2
  · have hlt' : (a : Int) < 2 := by omega
    go_wp2_with fail
    refine (nw_bits (unhide N3) 0 1 (by omega) (by omega) (by omega)).mono ?_
    rintro e w4 ⟨rfl, u4, n4⟩
    have d0 := (n4.bel.cell (p := ⟨g, 0, none⟩) hg).trans (unhide HC)
    have N4 := hide n4
    clear n4 N3 c0
    go_wp2_with fail
    refine (nw_bits (unhide N4) a 1 (by omega) (by omega) (by omega)).mono ?_
    rintro e w5 ⟨rfl, u5, n5⟩
    have N5 := hide n5
    clear n5 N4 d0
    have hcap2 : (1 : Int) ≤ (cap : Int) := by omega
    by_cases hcap1 : cap = 1
    · subst hcap1
      go_wp2
      refine wp_loop_rounds 1 ?_
      rw [rounds_succ]
      go_wp2
      go_ret
      exact ⟨gw, u5, _, _, rfl, unhide N5, hand_f0 n a 0 (by omega) han, by omega⟩
    · go_wp2
      refine wp_loop_rounds 1 ?_
      rw [rounds_succ]
      go_wp2
      go_ret
      exact ⟨gw, u5, _, _, rfl, unhide N5, hand_f0 n a 0 (by omega) han, by omega⟩
  · have hlt' : ¬ (a : Int) < 2 := by omega
    have hlt2 : (2 : Int) ≤ (a : Int) := by omega
    go_wp2_with fail
    refine (nw_bits (unhide N3) 1 1 (by omega) (by omega) (by omega)).mono ?_
    rintro e w4 ⟨rfl, u4, n4⟩
    have d0 := (n4.bel.cell (p := ⟨g, 0, none⟩) hg).trans (unhide HC)
    have N4 := hide n4
    clear n4 N3 c0
    go_wp2_with fail
    refine (nw_bits (unhide N4) a 8 (by omega) (by omega) (by omega)).mono ?_
    rintro e w5 ⟨rfl, u5, n5⟩
    have N5 := hide n5
    clear n5 N4 d0
    have hcap2 : (1 : Int) ≤ (cap : Int) := by omega
    by_cases hcap1 : cap = 1
    · subst hcap1
      go_wp2
      refine wp_loop_rounds 1 ?_
      rw [rounds_succ]
      go_wp2
      go_ret
      exact ⟨gw, u5, _, _, rfl, unhide N5, hand_f1 n a 0 (by omega) han, by omega⟩
    · go_wp2
      refine wp_loop_rounds 1 ?_
      rw [rounds_succ]
      go_wp2
      go_ret
      exact ⟨gw, u5, _, _, rfl, unhide N5, hand_f1 n a 0 (by omega) han, by omega⟩
set_option maxRecDepth 20000 in
set_option maxHeartbeats 1000000 in
theorem simple_w2 (g cap a t n : Nat) (w : World) (hc : w.cell? ⟨g, 0, none⟩ = some (.int .i64 a)) (hd : w.cell? ⟨g, 1, none⟩ = some (.int .i64 t)) (hcap : 2 ≤ cap) (ha : a < 256) (han : a < n) (ht : t < 256) (htn : t < n) (hat : a ≠ t) :
    Calls Tryz.prog 45 #[.slice (some ⟨g, 0, none⟩) 2 cap] w fun e w' => Smp w n a t true e w' := by
  have hg := lt_of_cell hc
  have HC := hide hc
  have HD := hide hd
  have ht' : (t : Int) ≤ 255 := by omega
  clear hd
  have ha' : (a : Int) ≤ 255 := by omega
  clear hc
  go_enter Tryz.func45, Tryz.ntmps45
  go_wp2_with fail
  refine (nw_new w).mono ?_
  rintro e w1 ⟨gw, u1, rfl, n1⟩
  have N1 := hide n1
  clear n1
  go_wp2_with fail
  refine (nw_bits (unhide N1) 1 1 (by omega) (by omega) (by omega)).mono ?_
  rintro e w2 ⟨rfl, u2, n2⟩
  have N2 := hide n2
  clear n2 N1
  go_wp2_with fail
  refine (nw_bits (unhide N2) 1 1 (by omega) (by omega) (by omega)).mono ?_
  rintro e w3 ⟨rfl, u3, n3⟩
  have c0 := (n3.bel.cell (p := ⟨g, 0, none⟩) hg).trans (unhide HC)
  have N3 := hide n3
  clear n3 N2
  by_cases hlt : a < 2
  · have hlt' : (a : Int) < 2 := by omega
    go_wp2_with fail
    refine (nw_bits (unhide N3) 0 1 (by omega) (by omega) (by omega)).mono ?_
    rintro e w4 ⟨rfl, u4, n4⟩
    have d0 := (n4.bel.cell (p := ⟨g, 0, none⟩) hg).trans (unhide HC)
    have N4 := hide n4
    clear n4 N3 c0
    go_wp2_with fail
    refine (nw_bits (unhide N4) a 1 (by omega) (by omega) (by omega)).mono ?_
    rintro e w5 ⟨rfl, u5, n5⟩
    have N5 := hide n5
    have d1 := (n5.bel.cell (p := ⟨g, 1, none⟩) hg).trans (unhide HD)
    have hcap1 : ¬ cap = 1 := by omega
    have hcap2 : (1 : Int) ≤ (cap : Int) := by omega
    have hcap3 : (2 : Int) ≤ (cap : Int) := by omega
    clear n5 N4 d0
    go_wp2
    refine wp_loop_rounds 2 ?_
    rw [rounds_succ]
    go_wp2_with fail
    refine (nw_bits (unhide N5) t 8 (by omega) (by omega) (by omega)).mono ?_
    rintro e w6 ⟨rfl, u6, n6⟩
    have N6 := hide n6
    clear n6 N5
    go_wp2
    rw [rounds_succ]
    go_wp2
    go_ret
    exact ⟨gw, u6, _, _, rfl, unhide N6, hand_t0 n a t (by omega) han ht htn hat, by omega⟩
  · have hlt' : ¬ (a : Int) < 2 := by omega
    have hlt2 : (2 : Int) ≤ (a : Int) := by omega
    go_wp2_with fail
    refine (nw_bits (unhide N3) 1 1 (by omega) (by omega) (by omega)).mono ?_
    rintro e w4 ⟨rfl, u4, n4⟩
    have d0 := (n4.bel.cell (p := ⟨g, 0, none⟩) hg).trans (unhide HC)
    have N4 := hide n4
    clear n4 N3 c0
    go_wp2_with fail
    refine (nw_bits (unhide N4) a 8 (by omega) (by omega) (by omega)).mono ?_
    rintro e w5 ⟨rfl, u5, n5⟩
    have N5 := hide n5
    have d1 := (n5.bel.cell (p := ⟨g, 1, none⟩) hg).trans (unhide HD)
    have hcap1 : ¬ cap = 1 := by omega
    have hcap2 : (1 : Int) ≤ (cap : Int) := by omega
    have hcap3 : (2 : Int) ≤ (cap : Int) := by omega
    clear n5 N4 d0
    go_wp2
    refine wp_loop_rounds 2 ?_
    rw [rounds_succ]
    go_wp2_with fail
    refine (nw_bits (unhide N5) t 8 (by omega) (by omega) (by omega)).mono ?_
    rintro e w6 ⟨rfl, u6, n6⟩
    have N6 := hide n6
    clear n6 N5
    go_wp2
    rw [rounds_succ]
    go_wp2
    go_ret
    exact ⟨gw, u6, _, _, rfl, unhide N6, hand_t1 n a t (by omega) han ht htn hat, by omega⟩
end Go.Proofs.YtgjpcjnhggcfdaaGreatDoor.Wrb

namespace Go.Proofs.YtgjpcjnhggcfdaaGreatDoor.Wsl
open Go.ChangeShapes Go.WideShapes Go.ChangeAt Go.RowKit Go.Proofs.YtgjpcjnhggcfdaaGreatDoor.Core Go.Proofs.YtgjpcjnhggcfdaaGreatDoor.Gnd Go.Proofs.YtgjpcjnhggcfdaaGreatDoor.Math Go.Proofs.YtgjpcjnhggcfdaaGreatDoor.Dec Go.Proofs.YtgjpcjnhggcfdaaGreatDoor.Ord Go.Proofs.YtgjpcjnhggcfdaaGreatDoor.Lsp Go.Proofs.YtgjpcjnhggcfdaaGreatDoor.Lrh Go.Proofs.YtgjpcjnhggcfdaaGreatDoor.Foot Go.Proofs.YtgjpcjnhggcfdaaGreatDoor.Add Go.Proofs.YtgjpcjnhggcfdaaGreatDoor.Wri Go.Proofs.YtgjpcjnhggcfdaaGreatDoor.Joi Go.Proofs.YtgjpcjnhggcfdaaGreatDoor.Chk Go.Proofs.YtgjpcjnhggcfdaaGreatDoor.Wra Go.Proofs.YtgjpcjnhggcfdaaGreatDoor.Wrb Go.Proofs.YtgjpcjnhggcfdaaGreatDoor.Wse Go.Proofs.YtgjpcjnhggcfdaaGreatDoor.Wsf Go.Proofs.YtgjpcjnhggcfdaaGreatDoor.Wsg Go.Proofs.YtgjpcjnhggcfdaaGreatDoor.Rse Go.Proofs.YtgjpcjnhggcfdaaGreatDoor.Wsj Go.Proofs.YtgjpcjnhggcfdaaGreatDoor.Wsk

theorem join_new {w w3 w4 : World} {gw g2 H : Nat} {u u2 : Value} {V N V2 N2 : Nat} (h : Wr w gw u V N) (b : Below w.heap.size w w4) (nw : Nw H w3 w4 g2 u2 V2 N2) (hH : w.heap.size ≤ H) (hN : N + N2 ≤ 900000) :
    Calls Tryz.prog 23 #[.pointer (some ⟨gw, 0, none⟩), .pointer (some ⟨g2, 0, none⟩)] w4 fun e w5 => e = .returned (.tuple #[]) ∧ ∃ u', Tw w gw u V N w5 u' (V + V2 * 2 ^ N) (N + N2) := by
  have h4 := h.keep (Upd.ofBelow (S := fun _ => False) b) (fun _ _ h => h)
  refine (join_raw gw g2 u2 u V N V2 N2 w4 h4 nw.wri hN (fun c hc => ?_)).mono ?_
  · have h1 := nw.ft c (.inr hc)
    have h2 := h.raw.lt gw (.inl rfl)
    refine ⟨by omega, fun h3 => ?_⟩
    have := h.raw.lt c (.inr h3)
    omega
  · rintro e w5 ⟨rfl, v', hw, t⟩
    exact ⟨rfl, v', ((Tw.refl h).below b).put hw t (by omega)⟩
/-- How lengths are told. -/
def Tld (V n : Nat) (f : Nat → Nat) (q : Nat) : Prop :=
  (∃ s t two, Hand V 0 n s t q two ∧ ∀ j, j < n → f j = by_hand s t two j) ∨ (∃ K most p l, Norm V 0 n K most p l q ∧ ∀ j, j < n → got (told l 8) j = f j)
/-- What Write answers, if it writes. -/
structure Puts (w : World) (gw : Nat) (u : Value) (V N n : Nat) (f : Nat → Nat) (e : Ending) (w' : World) : Prop where
  ex : ∃ u' V2 N2, e = .returned (.bool true) ∧ Tw w gw u V N w' u' (V + V2 * 2 ^ N) (N + N2) ∧ Tld V2 n f N2 ∧ N2 ≤ 100 + 22 * n
theorem rw_box {w : World} {g n : Nat} {f : Nat → Nat} (h : Box w g 3 (nr f n).toArray) : Rw w (.slice (some ⟨g, 0, none⟩) n n) n f :=
  ⟨g, 0, n, rfl, Nat.le_refl _, h.lt, fun i hi => by rw [Nat.zero_add]; exact (h.cell i).trans (na_at _ _ _ hi)⟩
theorem many_bh (s : Nat) : ∀ n, many (fun k => (by_hand s 0 false k : Int)) n = if s < n then 1 else 0
  | 0 => rfl
  | n + 1 => by
    have e1 : many (fun k => (by_hand s 0 false k : Int)) (n + 1) = many (fun k => (by_hand s 0 false k : Int)) n + if (by_hand s 0 false n : Int) = 0 then 0 else 1 := rfl
    rw [e1, many_bh s n]
    unfold by_hand
    by_cases h : n = s
    · subst h; simp
    · by_cases h2 : s < n
      · simp [h, h2]; omega
      · simp [h, h2]; omega
theorem chk_bh (s n : Nat) (h : s < n) : chk (fun k => (by_hand s 0 false k : Int)) n = 0 := by
  unfold chk
  rw [if_pos ((rngB_iff _ n).2 (fun k _ => by
    show 0 ≤ (by_hand s 0 false k : Int) ∧ (by_hand s 0 false k : Int) ≤ 15
    unfold by_hand
    split <;> omega)), if_pos (.inl (by rw [many_bh, if_pos h]))]
theorem syms_one {w : World} {v : Value} {l : List Nat} {x : Nat} (h : Syms w v l) (hl : l = [x]) : ∃ g cap, v = .slice (some ⟨g, 0, none⟩) 1 cap ∧ 1 ≤ cap ∧ w.cell? ⟨g, 0, none⟩ = some (.int .i64 (x : Int)) := by
  subst hl
  rcases h with ⟨_, h⟩ | ⟨g, cap, h1, h2, h3⟩
  · cases h
  · exact ⟨g, cap, h1, h2, by simpa using h3 0 (by simp)⟩
theorem syms_two {w : World} {v : Value} {l : List Nat} {x y : Nat} (h : Syms w v l) (hl : l = [x, y]) : ∃ g cap, v = .slice (some ⟨g, 0, none⟩) 2 cap ∧ 2 ≤ cap ∧ w.cell? ⟨g, 0, none⟩ = some (.int .i64 (x : Int)) ∧ w.cell? ⟨g, 1, none⟩ = some (.int .i64 (y : Int)) := by
  subst hl
  rcases h with ⟨_, h⟩ | ⟨g, cap, h1, h2, h3⟩
  · cases h
  · exact ⟨g, cap, h1, h2, by simpa using h3 0 (by simp), by simpa using h3 1 (by simp)⟩
theorem syms_len {w : World} {v : Value} {l : List Nat} {m : Nat} (h : Syms w v l) (hl : l.length = m) : ∃ a cap, v = .slice a m cap := by
  rcases h with ⟨h, e⟩ | ⟨g, cap, h1, _⟩
  · subst e; subst hl; exact ⟨none, 0, h⟩
  · subst hl; exact ⟨_, cap, h1⟩
set_option maxRecDepth 20000 in
set_option maxHeartbeats 2000000 in
theorem write_zero (gw n : Nat) (u v : Value) (V N : Nat) (F : Nat → Nat) (w : World) (h : Wr w gw u V N) (hN : N ≤ 300000) (src : Rw w v n F) (hn1 : 1 ≤ n) (hn : n ≤ 4096) (hz : ∀ k, k < n → F k = 0) :
    Calls Tryz.prog 22 #[.pointer (some ⟨gw, 0, none⟩), v] w fun e w' => Puts w gw u V N n (by_hand 0 0 false) e w' := by
  have WR := hide h
  have SRC := hide src
  have WI := hide (with18 v n (fun k => (F k : Int)) (by omega) w src.ints)
  obtain ⟨b, off, cap, rfl, hcap, hb, hcells⟩ := src
  have h1n : ¬ (n : Int) < 1 := by omega
  have h1n' : (1 : Int) ≤ (n : Int) := by omega
  have h2n : (n : Int) ≤ 4096 := by omega
  have hav0 : hav (fun k => (F k : Int)) n = [] := by
    apply List.eq_nil_iff_forall_not_mem.2
    intro x hx
    obtain ⟨h1, h2⟩ := (hav_mem _ x n).1 hx
    exact h2 (by show (F x : Int) = 0; rw [hz x h1]; rfl)
  clear h hcells hz
  go_enter Tryz.func22, Tryz.ntmps22
  go_wp2_with fail
  refine (unhide WI).mono ?_
  rintro e w1 ⟨u1, rfl, sy1, b1⟩
  obtain ⟨a1, cap1, rfl⟩ := syms_len sy1 (show _ = 0 by rw [hav0]; rfl)
  have AL := hide (alone20 0 n (w1.alloc (.cells #[.int .i64 0] 3)) (by omega) (by omega))
  have B1 := hide (b1.alloc b1.size (.cells #[.int .i64 0] 3))
  have c0 : (w1.alloc (.cells #[.int .i64 0] 3)).cell? ⟨w1.heap.size, 0, none⟩ = some (.int .i64 ((0 : Nat) : Int)) := by simp
  have hl1 : w1.heap.size < (w1.alloc (.cells #[.int .i64 0] 3)).heap.size := by simp
  have C0 := hide c0
  have HL1 := hide hl1
  clear sy1 b1 WI hav0 c0 hl1
  go_wp2_with fail
  refine (unhide AL).mono ?_
  rintro e w3 ⟨g3, rfl, hg3, bx3, b3⟩
  have d0 := (b3.cell (p := ⟨w1.heap.size, 0, none⟩) (unhide HL1)).trans (unhide C0)
  have SM := hide (simple_w1 w1.heap.size 1 0 n w3 d0 (by omega) (by omega) (by omega))
  have B3 := hide ((unhide B1).trans (b3.mono (unhide B1).size))
  clear bx3 b3 AL B1
  go_wp2_with fail
  refine (unhide SM).mono ?_
  rintro e w4 ⟨g4, u4, V4, N4, rfl, nw4, hd4, nl4⟩
  have JO := hide (join_new (unhide WR) ((unhide B3).trans (nw4.bel.mono (unhide B3).size)) nw4 (unhide B3).size (by omega))
  have TL := hide (show Tld V4 n (by_hand 0 0 false) N4 from .inl ⟨0, 0, false, hd4, fun _ _ => rfl⟩)
  clear nw4 hd4 SM
  go_wp2_with fail
  refine (unhide JO).mono ?_
  rintro e w5 ⟨rfl, u5, t5⟩
  have T5 := hide t5
  clear t5 JO
  go_wp2
  go_ret
  exact ⟨u5, V4, N4, rfl, unhide T5, unhide TL, by omega⟩
set_option maxRecDepth 20000 in
set_option maxHeartbeats 2000000 in
theorem write_one (s : Nat) (gw n : Nat) (u v : Value) (V N : Nat) (F : Nat → Nat) (w : World) (h : Wr w gw u V N) (hN : N ≤ 300000) (src : Rw w v n F) (hn1 : 1 ≤ n) (hn : n ≤ 4096) (hch : chk (fun k => (F k : Int)) n = 0) (hv : hav (fun k => (F k : Int)) n = [s]) (hs : s < 256) :
    Calls Tryz.prog 22 #[.pointer (some ⟨gw, 0, none⟩), v] w fun e w' => Puts w gw u V N n (by_hand s 0 false) e w' := by
  have WR := hide h
  have SRC := hide src
  have WI := hide (with18 v n (fun k => (F k : Int)) (by omega) w src.ints)
  obtain ⟨b, off, cap, rfl, hcap, hb, hcells⟩ := src
  have h1n : ¬ (n : Int) < 1 := by omega
  have h1n' : (1 : Int) ≤ (n : Int) := by omega
  have h2n : (n : Int) ≤ 4096 := by omega
  have hsn : s < n := ((hav_mem (fun k => (F k : Int)) s n).1 (by rw [hv]; simp)).1
  have hs' : (s : Int) < 256 := by omega
  have hs2 : decide ((s : Int) < 256) = true := decide_eq_true (by omega)
  have CH := hide hch
  have HV := hide hv
  clear h hcells hch hv
  go_enter Tryz.func22, Tryz.ntmps22
  go_wp2_with fail
  refine (unhide WI).mono ?_
  rintro e w1 ⟨u1, rfl, sy1, b1⟩
  obtain ⟨g1, cap1, rfl, hc1, d1⟩ := syms_one sy1 (unhide HV)
  have hg1 := lt_of_cell d1
  have CK := hide (check11 _ n (fun k => (F k : Int)) (by omega) w1 ((unhide SRC).keep b1).ints)
  rw [unhide CH] at CK
  have B1 := hide b1
  clear sy1 b1 WI
  go_wp2_with fail
  refine (unhide CK).mono ?_
  rintro e w2 ⟨rfl, b2⟩
  have d2 := (b2.cell (p := ⟨g1, 0, none⟩) hg1).trans d1
  have hg2 : g1 < w2.heap.size := Nat.lt_of_lt_of_le hg1 b2.size
  have B2 := hide ((unhide B1).trans (b2.mono (unhide B1).size))
  clear b2 CK d1 B1
  go_wp2_with fail
  refine (alone20 s n w2 hsn (by omega)).mono ?_
  rintro e w3 ⟨g3, rfl, hg3, bx3, b3⟩
  have d3 := (b3.cell (p := ⟨g1, 0, none⟩) hg2).trans d2
  have B3 := hide ((unhide B2).trans (b3.mono (unhide B2).size))
  have SM := hide (simple_w1 g1 cap1 s n w3 d3 hc1 hs hsn)
  clear bx3 b3 B2 d2
  go_wp2_with fail
  refine (unhide SM).mono ?_
  rintro e w4 ⟨g4, u4, V4, N4, rfl, nw4, hd4, nl4⟩
  have TL := hide (show Tld V4 n (by_hand s 0 false) N4 from .inl ⟨s, 0, false, hd4, fun _ _ => rfl⟩)
  have nl5 : N4 ≤ 100 + 22 * n := by omega
  have JO := hide (join_new (unhide WR) ((unhide B3).trans (nw4.bel.mono (unhide B3).size)) nw4 (unhide B3).size (by omega))
  clear nw4 SM
  go_wp2_with fail
  refine (unhide JO).mono ?_
  rintro e w5 ⟨rfl, u5, t5⟩
  have T5 := hide t5
  clear t5 JO
  go_wp2
  go_ret
  exact ⟨u5, V4, N4, rfl, unhide T5, unhide TL, nl5⟩
set_option maxRecDepth 20000 in
set_option maxHeartbeats 2000000 in
theorem write_one_big (s : Nat) (gw n : Nat) (u v : Value) (V N : Nat) (F : Nat → Nat) (w : World) (h : Wr w gw u V N) (hN : N ≤ 300000) (src : Rw w v n F) (hn1 : 1 ≤ n) (hn : n ≤ 4096) (hch : chk (fun k => (F k : Int)) n = 0) (hv : hav (fun k => (F k : Int)) n = [s]) (hs : 256 ≤ s) (od : Ordr w) :
    Calls Tryz.prog 22 #[.pointer (some ⟨gw, 0, none⟩), v] w fun e w' => Puts w gw u V N n (by_hand s 0 false) e w' := by
  have WR := hide h
  have SRC := hide src
  have WI := hide (with18 v n (fun k => (F k : Int)) (by omega) w src.ints)
  obtain ⟨b, off, cap, rfl, hcap, hb, hcells⟩ := src
  have h1n : ¬ (n : Int) < 1 := by omega
  have h1n' : (1 : Int) ≤ (n : Int) := by omega
  have h2n : (n : Int) ≤ 4096 := by omega
  have hsn : s < n := ((hav_mem (fun k => (F k : Int)) s n).1 (by rw [hv]; simp)).1
  have hs' : ¬ (s : Int) < 256 := by omega
  have hs2 : decide ((s : Int) < 256) = false := decide_eq_false (by omega)
  have CH := hide hch
  have HV := hide hv
  have OD := hide od
  clear h hcells hch hv od
  go_enter Tryz.func22, Tryz.ntmps22
  go_wp2_with fail
  refine (unhide WI).mono ?_
  rintro e w1 ⟨u1, rfl, sy1, b1⟩
  obtain ⟨g1, cap1, rfl, hc1, d1⟩ := syms_one sy1 (unhide HV)
  have hg1 := lt_of_cell d1
  have CK := hide (check11 _ n (fun k => (F k : Int)) (by omega) w1 ((unhide SRC).keep b1).ints)
  rw [unhide CH] at CK
  have B1 := hide b1
  clear sy1 b1 WI
  go_wp2_with fail
  refine (unhide CK).mono ?_
  rintro e w2 ⟨rfl, b2⟩
  have d2 := (b2.cell (p := ⟨g1, 0, none⟩) hg1).trans d1
  have hg2 : g1 < w2.heap.size := Nat.lt_of_lt_of_le hg1 b2.size
  have B2 := hide ((unhide B1).trans (b2.mono (unhide B1).size))
  clear b2 CK d1 B1
  go_wp2_with fail
  refine (alone20 s n w2 hsn (by omega)).mono ?_
  rintro e w3 ⟨g3, rfl, hg3, bx3, b3⟩
  have d3 := (b3.cell (p := ⟨g1, 0, none⟩) hg2).trans d2
  have B3 := hide ((unhide B2).trans (b3.mono (unhide B2).size))
  have SM := hide (normal23 _ n (by_hand s 0 false) hn1 hn w3 (rw_box bx3) (chk_bh s n hsn) (fun h => by
    have h2 := h.2
    unfold by_hand at h2
    rw [if_neg (fun h3 => h3.elim (fun h4 => by omega) (fun h4 => by cases h4.1))] at h2
    exact h2 rfl) ((unhide OD).keep (Upd.ofBelow (S := fun _ => False) (unhide B3)) (fun h => h)))
  clear bx3 b3 B2 d2
  go_wp2_with fail
  refine (unhide SM).mono ?_
  rintro e w4 ⟨g4, u4, V4, N4, K4, m4, p4, l4, rfl, nw4, nm4, gt4, nl4⟩
  have TL := hide (show Tld V4 n (by_hand s 0 false) N4 from .inr ⟨K4, m4, p4, l4, nm4, gt4⟩)
  have nl5 : N4 ≤ 100 + 22 * n := by omega
  clear nm4 gt4
  have JO := hide (join_new (unhide WR) ((unhide B3).trans (nw4.bel.mono (unhide B3).size)) nw4 (unhide B3).size (by omega))
  clear nw4 SM
  go_wp2_with fail
  refine (unhide JO).mono ?_
  rintro e w5 ⟨rfl, u5, t5⟩
  have T5 := hide t5
  clear t5 JO
  go_wp2
  go_ret
  exact ⟨u5, V4, N4, rfl, unhide T5, unhide TL, nl5⟩
set_option maxRecDepth 20000 in
set_option maxHeartbeats 2000000 in
theorem write_two (s t : Nat) (gw n : Nat) (u v : Value) (V N : Nat) (F : Nat → Nat) (w : World) (h : Wr w gw u V N) (hN : N ≤ 300000) (src : Rw w v n F) (hn1 : 1 ≤ n) (hn : n ≤ 4096) (hch : chk (fun k => (F k : Int)) n = 0) (hv : hav (fun k => (F k : Int)) n = [s, t]) (hst : s < t) (ht : t < 256) :
    Calls Tryz.prog 22 #[.pointer (some ⟨gw, 0, none⟩), v] w fun e w' => Puts w gw u V N n (by_hand s t true) e w' := by
  have WR := hide h
  have SRC := hide src
  have WI := hide (with18 v n (fun k => (F k : Int)) (by omega) w src.ints)
  obtain ⟨b, off, cap, rfl, hcap, hb, hcells⟩ := src
  have h1n : ¬ (n : Int) < 1 := by omega
  have h1n' : (1 : Int) ≤ (n : Int) := by omega
  have h2n : (n : Int) ≤ 4096 := by omega
  have hsn : s < n := ((hav_mem (fun k => (F k : Int)) s n).1 (by rw [hv]; simp)).1
  have htn : t < n := ((hav_mem (fun k => (F k : Int)) t n).1 (by rw [hv]; simp)).1
  have ht' : (t : Int) < 256 := by omega
  have ht2 : decide ((t : Int) < 256) = true := decide_eq_true (by omega)
  have CH := hide hch
  have HV := hide hv
  clear h hcells hch hv
  go_enter Tryz.func22, Tryz.ntmps22
  go_wp2_with fail
  refine (unhide WI).mono ?_
  rintro e w1 ⟨u1, rfl, sy1, b1⟩
  obtain ⟨g1, cap1, rfl, hc1, d1, f1⟩ := syms_two sy1 (unhide HV)
  have hg1 : g1 < w1.heap.size := lt_of_cell d1
  have CK := hide (check11 _ n (fun k => (F k : Int)) (by omega) w1 ((unhide SRC).keep b1).ints)
  rw [unhide CH] at CK
  have B1 := hide b1
  clear sy1 b1 WI
  go_wp2_with fail
  refine (unhide CK).mono ?_
  rintro e w2 ⟨rfl, b2⟩
  have d2 := (b2.cell (p := ⟨g1, 0, none⟩) hg1).trans d1
  have f2 := (b2.cell (p := ⟨g1, 1, none⟩) hg1).trans f1
  clear d1 f1
  have B3 := hide ((unhide B1).trans (b2.mono (unhide B1).size))
  clear b2 CK B1
  have SM := hide (simple_w2 g1 cap1 s t n w2 d2 f2 hc1 (by omega) hsn ht htn (by omega))
  go_wp2_with fail
  refine (unhide SM).mono ?_
  rintro e w4 ⟨g4, u4, V4, N4, rfl, nw4, hd4, nl4⟩
  have TL := hide (show Tld V4 n (by_hand s t true) N4 from .inl ⟨s, t, true, hd4, fun _ _ => rfl⟩)
  have nl5 : N4 ≤ 100 + 22 * n := by omega
  have JO := hide (join_new (unhide WR) ((unhide B3).trans (nw4.bel.mono (unhide B3).size)) nw4 (unhide B3).size (by omega))
  clear nw4 SM
  go_wp2_with fail
  refine (unhide JO).mono ?_
  rintro e w5 ⟨rfl, u5, t5⟩
  have T5 := hide t5
  clear t5 JO
  go_wp2
  go_ret
  exact ⟨u5, V4, N4, rfl, unhide T5, unhide TL, nl5⟩
set_option maxRecDepth 20000 in
set_option maxHeartbeats 2000000 in
theorem write_two_big (s t : Nat) (gw n : Nat) (u v : Value) (V N : Nat) (F : Nat → Nat) (w : World) (h : Wr w gw u V N) (hN : N ≤ 300000) (src : Rw w v n F) (hn1 : 1 ≤ n) (hn : n ≤ 4096) (hch : chk (fun k => (F k : Int)) n = 0) (hv : hav (fun k => (F k : Int)) n = [s, t]) (ht : 256 ≤ t) (od : Ordr w) :
    Calls Tryz.prog 22 #[.pointer (some ⟨gw, 0, none⟩), v] w fun e w' => Puts w gw u V N n F e w' := by
  have WR := hide h
  have SRC := hide src
  have WI := hide (with18 v n (fun k => (F k : Int)) (by omega) w src.ints)
  obtain ⟨b, off, cap, rfl, hcap, hb, hcells⟩ := src
  have h1n : ¬ (n : Int) < 1 := by omega
  have h1n' : (1 : Int) ≤ (n : Int) := by omega
  have h2n : (n : Int) ≤ 4096 := by omega
  have hsn : s < n := ((hav_mem (fun k => (F k : Int)) s n).1 (by rw [hv]; simp)).1
  have htn : t < n := ((hav_mem (fun k => (F k : Int)) t n).1 (by rw [hv]; simp)).1
  have ht' : ¬ (t : Int) < 256 := by omega
  have ht2 : decide ((t : Int) < 256) = false := decide_eq_false (by omega)
  have CH := hide hch
  have HV := hide hv
  have OD := hide od
  clear h hcells hch hv od
  go_enter Tryz.func22, Tryz.ntmps22
  go_wp2_with fail
  refine (unhide WI).mono ?_
  rintro e w1 ⟨u1, rfl, sy1, b1⟩
  obtain ⟨g1, cap1, rfl, hc1, d1, f1⟩ := syms_two sy1 (unhide HV)
  have hg1 : g1 < w1.heap.size := lt_of_cell d1
  have CK := hide (check11 _ n (fun k => (F k : Int)) (by omega) w1 ((unhide SRC).keep b1).ints)
  rw [unhide CH] at CK
  have B1 := hide b1
  clear sy1 b1 WI
  go_wp2_with fail
  refine (unhide CK).mono ?_
  rintro e w2 ⟨rfl, b2⟩
  have d2 := (b2.cell (p := ⟨g1, 0, none⟩) hg1).trans d1
  have f2 := (b2.cell (p := ⟨g1, 1, none⟩) hg1).trans f1
  clear d1 f1
  have B3 := hide ((unhide B1).trans (b2.mono (unhide B1).size))
  clear b2 CK B1
  have SM := hide (normal23 _ n F hn1 hn w2 ((unhide SRC).keep (unhide B3)) (unhide CH) (fun hh => by
    have h := hh.1
    rw [← hav_len, unhide HV] at h
    simp at h) ((unhide OD).keep (Upd.ofBelow (S := fun _ => False) (unhide B3)) (fun h => h)))
  go_wp2_with fail
  refine (unhide SM).mono ?_
  rintro e w4 ⟨g4, u4, V4, N4, K4, m4, p4, l4, rfl, nw4, nm4, gt4, nl4⟩
  have TL := hide (show Tld V4 n F N4 from .inr ⟨K4, m4, p4, l4, nm4, gt4⟩)
  have nl5 : N4 ≤ 100 + 22 * n := by omega
  clear nm4 gt4
  have JO := hide (join_new (unhide WR) ((unhide B3).trans (nw4.bel.mono (unhide B3).size)) nw4 (unhide B3).size (by omega))
  clear nw4 SM
  go_wp2_with fail
  refine (unhide JO).mono ?_
  rintro e w5 ⟨rfl, u5, t5⟩
  have T5 := hide t5
  clear t5 JO
  go_wp2
  go_ret
  exact ⟨u5, V4, N4, rfl, unhide T5, unhide TL, nl5⟩
set_option maxRecDepth 20000 in
set_option maxHeartbeats 2000000 in
theorem write_more (gw n : Nat) (u v : Value) (V N : Nat) (F : Nat → Nat) (w : World) (h : Wr w gw u V N) (hN : N ≤ 300000) (src : Rw w v n F) (hn1 : 1 ≤ n) (hn : n ≤ 4096) (hch : chk (fun k => (F k : Int)) n = 0) (hv : 3 ≤ (hav (fun k => (F k : Int)) n).length) (od : Ordr w) :
    Calls Tryz.prog 22 #[.pointer (some ⟨gw, 0, none⟩), v] w fun e w' => Puts w gw u V N n F e w' := by
  have WR := hide h
  have SRC := hide src
  have WI := hide (with18 v n (fun k => (F k : Int)) (by omega) w src.ints)
  obtain ⟨b, off, cap, rfl, hcap, hb, hcells⟩ := src
  have h1n : ¬ (n : Int) < 1 := by omega
  have h1n' : (1 : Int) ≤ (n : Int) := by omega
  have h2n : (n : Int) ≤ 4096 := by omega
  obtain ⟨m, hm⟩ : ∃ m, (hav (fun k => (F k : Int)) n).length = m := ⟨_, rfl⟩
  have hm3 : 3 ≤ m := by omega
  have hm4 : decide ((m : Int) ≤ 2) = false := decide_eq_false (by omega)
  have hm5 : ((m : Int) == 1) = false := by simp; omega
  have hm6 : ((m : Int) == 0) = false := by simp; omega
  have CH := hide hch
  have HV := hide hm
  have OD := hide od
  clear h hcells hch hv hm od
  go_enter Tryz.func22, Tryz.ntmps22
  go_wp2_with fail
  refine (unhide WI).mono ?_
  rintro e w1 ⟨u1, rfl, sy1, b1⟩
  obtain ⟨a1, cap1, rfl⟩ := syms_len sy1 (unhide HV)
  have CK := hide (check11 _ n (fun k => (F k : Int)) (by omega) w1 ((unhide SRC).keep b1).ints)
  rw [unhide CH] at CK
  have B1 := hide b1
  clear sy1 b1 WI
  go_wp2_with fail
  refine (unhide CK).mono ?_
  rintro e w2 ⟨rfl, b2⟩
  have B3 := hide ((unhide B1).trans (b2.mono (unhide B1).size))
  clear b2 CK B1
  have SM := hide (normal23 _ n F hn1 hn w2 ((unhide SRC).keep (unhide B3)) (unhide CH) (fun hh => by
    have h := hh.1
    rw [← hav_len, unhide HV] at h
    omega) ((unhide OD).keep (Upd.ofBelow (S := fun _ => False) (unhide B3)) (fun h => h)))
  go_wp2_with fail
  refine (unhide SM).mono ?_
  rintro e w4 ⟨g4, u4, V4, N4, K4, m4, p4, l4, rfl, nw4, nm4, gt4, nl4⟩
  have TL := hide (show Tld V4 n F N4 from .inr ⟨K4, m4, p4, l4, nm4, gt4⟩)
  have nl5 : N4 ≤ 100 + 22 * n := by omega
  clear nm4 gt4
  have JO := hide (join_new (unhide WR) ((unhide B3).trans (nw4.bel.mono (unhide B3).size)) nw4 (unhide B3).size (by omega))
  clear nw4 SM
  go_wp2_with fail
  refine (unhide JO).mono ?_
  rintro e w5 ⟨rfl, u5, t5⟩
  have T5 := hide t5
  clear t5 JO
  go_wp2
  go_ret
  exact ⟨u5, V4, N4, rfl, unhide T5, unhide TL, nl5⟩
end Go.Proofs.YtgjpcjnhggcfdaaGreatDoor.Wsl

namespace Go.Proofs.YtgjpcjnhggcfdaaGreatDoor.Wsm
open Go.ChangeShapes Go.WideShapes Go.ChangeAt Go.RowKit Go.Proofs.YtgjpcjnhggcfdaaGreatDoor.Core Go.Proofs.YtgjpcjnhggcfdaaGreatDoor.Gnd Go.Proofs.YtgjpcjnhggcfdaaGreatDoor.Math Go.Proofs.YtgjpcjnhggcfdaaGreatDoor.Dec Go.Proofs.YtgjpcjnhggcfdaaGreatDoor.Ord Go.Proofs.YtgjpcjnhggcfdaaGreatDoor.Lsp Go.Proofs.YtgjpcjnhggcfdaaGreatDoor.Lrh Go.Proofs.YtgjpcjnhggcfdaaGreatDoor.Foot Go.Proofs.YtgjpcjnhggcfdaaGreatDoor.Add Go.Proofs.YtgjpcjnhggcfdaaGreatDoor.Wri Go.Proofs.YtgjpcjnhggcfdaaGreatDoor.Chk Go.Proofs.YtgjpcjnhggcfdaaGreatDoor.Wra Go.Proofs.YtgjpcjnhggcfdaaGreatDoor.Wse Go.Proofs.YtgjpcjnhggcfdaaGreatDoor.Wsg Go.Proofs.YtgjpcjnhggcfdaaGreatDoor.Rse Go.Proofs.YtgjpcjnhggcfdaaGreatDoor.Wsl

theorem hav_up (c : Nat → Int) : ∀ n, (hav c n).Pairwise (· < ·)
  | 0 => .nil
  | n + 1 => by
    have ih := hav_up c n
    unfold hav
    split
    · exact ih
    · refine List.pairwise_append.2 ⟨ih, List.pairwise_singleton _ _, fun a ha b hb => ?_⟩
      rw [List.mem_singleton] at hb
      have := ((hav_mem c a n).1 ha).1
      omega
theorem kr_hav (c : Nat → Int) : ∀ n, kr c n = ((hav c n).map (fun k => pt2 (c k))).sum
  | 0 => rfl
  | n + 1 => by
    have ih := kr_hav c n
    have e : hav c (n + 1) = if c n = 0 then hav c n else hav c n ++ [n] := rfl
    rw [kr, ih, e]
    by_cases h : c n = 0
    · rw [if_pos h, h]; simp [pt2]
    · rw [if_neg h, List.map_append, List.sum_append]; simp
theorem pt2_two {x y : Int} (hx : x ≠ 0) (hx0 : 0 ≤ x) (hx1 : x ≤ 15) (hy : y ≠ 0) (hy0 : 0 ≤ y) (hy1 : y ≤ 15) (h : pt2 x + pt2 y = 32768) : x = 1 ∧ y = 1 := by
  have key : ∀ z : Int, z ≠ 0 → 0 ≤ z → z ≤ 15 → (pt2 z ≤ 16384 ∧ (pt2 z = 16384 → z = 1)) := by
    intro z hz h0 h1
    obtain ⟨m, rfl⟩ : ∃ m : Nat, z = (m : Int) := ⟨z.toNat, by omega⟩
    have hm1 : 1 ≤ m := by omega
    have e : pt2 (m : Int) = 2 ^ (15 - m) := by unfold pt2; rw [if_neg hz]; rfl
    rw [e]
    by_cases h2 : m = 1
    · subst h2; simp
    · have : 2 ^ (15 - m) ≤ 2 ^ 13 := Nat.pow_le_pow_right (by omega) (by omega)
      exact ⟨by omega, fun h => by omega⟩
  obtain ⟨a1, a2⟩ := key x hx hx0 hx1
  obtain ⟨b1, b2⟩ := key y hy hy0 hy1
  exact ⟨a2 (by omega), b2 (by omega)⟩
/-- The lengths that are told. -/
def want (F : Nat → Nat) (n j : Nat) : Nat := if many (fun k => (F k : Int)) n = 0 then by_hand 0 0 false j else if many (fun k => (F k : Int)) n = 1 then (if F j = 0 then 0 else 1) else F j
theorem Tld.congr {V n q : Nat} {f g : Nat → Nat} (h : Tld V n f q) (e : ∀ j, j < n → f j = g j) : Tld V n g q := by
  rcases h with ⟨s, t, two, h1, h2⟩ | ⟨K, m, p, l, h1, h2⟩
  · exact .inl ⟨s, t, two, h1, fun j hj => by rw [← e j hj]; exact h2 j hj⟩
  · exact .inr ⟨K, m, p, l, h1, fun j hj => by rw [← e j hj]; exact h2 j hj⟩
theorem Puts.congr {w w' : World} {gw : Nat} {u : Value} {V N n : Nat} {f g : Nat → Nat} {e : Ending} (h : Puts w gw u V N n f e w') (hf : ∀ j, j < n → f j = g j) : Puts w gw u V N n g e w' := by
  obtain ⟨u', V2, N2, h1, h2, h3, h4⟩ := h.ex
  exact ⟨u', V2, N2, h1, h2, Tld.congr h3 hf, h4⟩
theorem bh_one_of {F : Nat → Nat} {n s : Nat} (hv : hav (fun k => (F k : Int)) n = [s]) (j : Nat) (hj : j < n) : by_hand s 0 false j = if F j = 0 then 0 else 1 := by
  have h1 := hav_mem (fun k => (F k : Int)) j n
  rw [hv, List.mem_singleton] at h1
  unfold by_hand
  by_cases h : j = s
  · have h2 : (F j : Int) ≠ 0 := (h1.1 h).2
    rw [if_pos (.inl h), if_neg (by omega)]
  · rw [if_neg (fun h2 => h2.elim h (fun h3 => by cases h3.1))]
    by_cases h2 : F j = 0
    · rw [if_pos h2]
    · exact absurd (h1.2 ⟨hj, by show (F j : Int) ≠ 0; omega⟩) h
theorem bh_two_of {F : Nat → Nat} {n s t : Nat} (hch : chk (fun k => (F k : Int)) n = 0) (hv : hav (fun k => (F k : Int)) n = [s, t]) (j : Nat) (hj : j < n) : by_hand s t true j = F j := by
  obtain ⟨hr, hk, _⟩ := chk_zero hch
  have hm : many (fun k => (F k : Int)) n = 2 := by rw [← hav_len, hv]; rfl
  have hkr : kr (fun k => (F k : Int)) n = 32768 := by omega
  rw [kr_hav, hv] at hkr
  obtain ⟨s1, s2⟩ := (hav_mem (fun k => (F k : Int)) s n).1 (by rw [hv]; simp)
  obtain ⟨t1, t2⟩ := (hav_mem (fun k => (F k : Int)) t n).1 (by rw [hv]; simp)
  simp only [List.map_cons, List.map_nil, List.sum_cons, List.sum_nil, Nat.add_zero] at hkr
  obtain ⟨e1, e2⟩ := pt2_two s2 (hr s s1).1 (hr s s1).2 t2 (hr t t1).1 (hr t t1).2 hkr
  have h1 := hav_mem (fun k => (F k : Int)) j n
  rw [hv] at h1
  simp only [List.mem_cons, List.mem_nil_iff, or_false] at h1
  unfold by_hand
  by_cases h : j = s
  · rw [if_pos (.inl h), h]; omega
  · by_cases h' : j = t
    · rw [if_pos (.inr ⟨rfl, h'⟩), h']; omega
    · rw [if_neg (fun h2 => h2.elim h (fun h3 => h' h3.2))]
      rcases Nat.eq_zero_or_pos (F j) with h2 | h2
      · exact h2.symm
      · exact absurd (h1.2 ⟨hj, by show (F j : Int) ≠ 0; omega⟩) (fun h3 => h3.elim h h')
theorem write_ok (gw n : Nat) (u v : Value) (V N : Nat) (F : Nat → Nat) (w : World) (h : Wr w gw u V N) (hN : N ≤ 300000) (src : Rw w v n F) (hn1 : 1 ≤ n) (hn : n ≤ 4096) (od : Ordr w) (hok : many (fun k => (F k : Int)) n = 0 ∨ chk (fun k => (F k : Int)) n = 0) :
    Calls Tryz.prog 22 #[.pointer (some ⟨gw, 0, none⟩), v] w fun e w' => Puts w gw u V N n (want F n) e w' := by
  have hlen := hav_len (fun k => (F k : Int)) n
  match hv : hav (fun k => (F k : Int)) n with
  | [] =>
    rw [hv] at hlen
    refine (write_zero gw n u v V N F w h hN src hn1 hn (fun k hk => ?_)).mono (fun e w' hp => Puts.congr hp (fun j _ => ?_))
    · rcases Nat.eq_zero_or_pos (F k) with h0 | h0
      · exact h0
      · have := (hav_mem (fun k => (F k : Int)) k n).2 ⟨hk, by show (F k : Int) ≠ 0; omega⟩
        rw [hv] at this
        cases this
    · have hm0 : many (fun k => (F k : Int)) n = 0 := hlen.symm
      unfold want; rw [if_pos hm0]
  | [s] =>
    rw [hv] at hlen
    have hm : many (fun k => (F k : Int)) n = 1 := hlen.symm
    have hch := hok.resolve_left (by omega)
    have hw : ∀ j, j < n → by_hand s 0 false j = want F n j := fun j hj => by
      unfold want; rw [if_neg (by omega), if_pos hm]; exact bh_one_of hv j hj
    by_cases hs : s < 256
    · exact (write_one s gw n u v V N F w h hN src hn1 hn hch hv hs).mono (fun e w' hp => Puts.congr hp hw)
    · exact (write_one_big s gw n u v V N F w h hN src hn1 hn hch hv (by omega) od).mono (fun e w' hp => Puts.congr hp hw)
  | [s, t] =>
    rw [hv] at hlen
    have hm : many (fun k => (F k : Int)) n = 2 := hlen.symm
    have hch := hok.resolve_left (by omega)
    have hw : ∀ j, F j = want F n j := fun j => by unfold want; rw [if_neg (by omega), if_neg (by omega)]
    have hup := hav_up (fun k => (F k : Int)) n
    rw [hv] at hup
    have hst : s < t := by simpa using hup
    by_cases ht : t < 256
    · exact (write_two s t gw n u v V N F w h hN src hn1 hn hch hv hst ht).mono (fun e w' hp => Puts.congr hp (fun j hj => (bh_two_of hch hv j hj).trans (hw j)))
    · exact (write_two_big s t gw n u v V N F w h hN src hn1 hn hch hv (by omega) od).mono (fun e w' hp => Puts.congr hp (fun j _ => hw j))
  | a :: b :: c :: r =>
    rw [hv] at hlen
    have hm : 3 ≤ many (fun k => (F k : Int)) n := by simp at hlen; omega
    have hch := hok.resolve_left (by omega)
    have hw : ∀ j, F j = want F n j := fun j => by unfold want; rw [if_neg (by omega), if_neg (by omega)]
    exact (write_more gw n u v V N F w h hN src hn1 hn hch (by rw [hv]; simp) od).mono (fun e w' hp => Puts.congr hp (fun j _ => hw j))
set_option maxRecDepth 20000 in
set_option maxHeartbeats 1000000 in
theorem write_no (gw n : Nat) (v : Value) (c : Nat → Int) (w : World) (src : Ints .i64 w v n c) (hn1 : 1 ≤ n) (hn : n ≤ 4096) (hm : many c n ≠ 0) (hch : chk c n ≠ 0) :
    Calls Tryz.prog 22 #[.pointer (some ⟨gw, 0, none⟩), v] w fun e w' => e = .returned (.bool false) ∧ Below w.heap.size w w' := by
  have SRC := hide src
  have WI := hide (with18 v n c (by omega) w src)
  obtain ⟨a, cap, rfl, _⟩ := src
  have h1n : ¬ (n : Int) < 1 := by omega
  have h1n' : (1 : Int) ≤ (n : Int) := by omega
  have h2n : (n : Int) ≤ 4096 := by omega
  obtain ⟨m, hmm⟩ : ∃ m, (hav c n).length = m := ⟨_, rfl⟩
  have hm0 : m ≠ 0 := by rw [← hmm, hav_len]; exact hm
  have hm6 : ((m : Int) == 0) = false := by simp; omega
  have HV := hide hmm
  have hch' : (chk c n != 0) = true := by simp [hch]
  clear hmm hm hch
  go_enter Tryz.func22, Tryz.ntmps22
  go_wp2_with fail
  refine (unhide WI).mono ?_
  rintro e w1 ⟨u1, rfl, sy1, b1⟩
  obtain ⟨a1, cap1, rfl⟩ := syms_len sy1 (unhide HV)
  have CK := hide (check11 _ n c (by omega) w1 ((unhide SRC).keep b1))
  have B1 := hide b1
  clear sy1 b1 WI
  generalize chk c n = z at *
  go_wp2_with fail
  refine (unhide CK).mono ?_
  rintro e w2 ⟨rfl, b2⟩
  have B2 := hide ((unhide B1).trans (b2.mono (unhide B1).size))
  clear b2 CK B1
  go_wp2
  go_ret
  exact ⟨rfl, unhide B2⟩
theorem write_none (gw cap : Nat) (a : Option Addr) (w : World) :
    Calls Tryz.prog 22 #[.pointer (some ⟨gw, 0, none⟩), .slice a 0 cap] w fun e w' => e = .returned (.bool false) ∧ w' = w := by
  go_enter Tryz.func22, Tryz.ntmps22
  go_wp2
  go_ret
  exact ⟨rfl, rfl⟩
end Go.Proofs.YtgjpcjnhggcfdaaGreatDoor.Wsm

namespace Go.Proofs.YtgjpcjnhggcfdaaGreatDoor.HGbn
set_option linter.unusedVariables false
open Go.Proofs.YtgjpcjnhggcfdaaGreatDoor.Core Go.Proofs.YtgjpcjnhggcfdaaGreatDoor.Math Go.Proofs.YtgjpcjnhggcfdaaGreatDoor.Dec Go.Proofs.YtgjpcjnhggcfdaaGreatDoor.Tre Go.Proofs.YtgjpcjnhggcfdaaGreatDoor.Sml Go.Proofs.YtgjpcjnhggcfdaaGreatDoor.VNum Go.Proofs.YtgjpcjnhggcfdaaGreatDoor.PNum Go.Proofs.YtgjpcjnhggcfdaaGreatDoor.HNum Go.Proofs.YtgjpcjnhggcfdaaGreatDoor.HHas Go.Proofs.YtgjpcjnhggcfdaaGreatDoor.HTel Go.Proofs.YtgjpcjnhggcfdaaGreatDoor.HVal

/-- Lengths that may be written, and are told as they are. -/
structure Gd (F : Nat → Nat) (n : Nat) : Prop where
  ch : chk (fun j => (F j : Int)) n = 0
  wa : ∀ j, j < n → Wsm.want F n j = F j
theorem gd_one (m n : Nat) (h : m < n) : Gd (f1 m 1) n := by
  have hm : many (fun k => (f1 m 1 k : Int)) n = 1 := (many1 m 1 (by omega) n).trans (if_pos h)
  refine ⟨chk1 m 1 n (by omega) (by omega) h, fun j _ => ?_⟩
  unfold Wsm.want
  rw [hm, if_neg (by omega), if_pos rfl]
  unfold f1
  by_cases e : j = m
  · simp [e]
  · simp [e]
theorem kr_all (c : Nat → Int) (b : Nat) (h0 : 1 ≤ b) : ∀ n, (∀ k, k < n → c k = 0 ∨ c k = (b : Int)) → Math.kr c n = 2 ^ (15 - b) * many c n
  | 0, _ => rfl
  | n + 1, h => by
    have ih := kr_all c b h0 n (fun k hk => h k (by omega))
    have e1 : many c (n + 1) = many c n + if c n = 0 then 0 else 1 := rfl
    rw [Math.kr, ih, e1]
    rcases h n (by omega) with e | e
    · rw [e]; simp [pt2]
    · have e2 : ¬ (b : Int) = 0 := by omega
      rw [e, if_neg e2, Nat.mul_add]
      unfold pt2
      rw [if_neg e2, Int.toNat_natCast, Nat.mul_one]
theorem gd_all (F : Nat → Nat) (n b : Nat) (h0 : 1 ≤ b) (h1 : b ≤ 15) (h : ∀ k, k < n → F k = 0 ∨ F k = b) (hm : many (fun k => (F k : Int)) n = 2 ^ b) : Gd F n := by
  have h2 : 2 ≤ 2 ^ b := Nat.pow_le_pow_right (n := 2) (i := 1) (by omega) h0
  have hr : Rng (fun k => (F k : Int)) n := fun k hk => by
    show 0 ≤ (F k : Int) ∧ (F k : Int) ≤ 15
    rcases h k hk with e | e <;> omega
  have hk := kr_all (fun k => (F k : Int)) b h0 n (fun k hk => by
    show (F k : Int) = 0 ∨ (F k : Int) = b
    rcases h k hk with e | e <;> omega)
  rw [hm, ← Nat.pow_add, show 15 - b + b = 15 by omega] at hk
  refine ⟨?_, fun j _ => ?_⟩
  · unfold chk
    rw [if_pos ((rngB_iff _ _).2 hr), if_pos (.inr hk)]
  · unfold Wsm.want
    rw [hm, if_neg (by omega), if_neg (by omega)]
theorem Gd.rng {F : Nat → Nat} {n : Nat} (h : Gd F n) : Rng (fun j => (F j : Int)) n := (chk_zero h.ch).1
theorem exn_le (s : Nat) (h : s < 40) : exn s ≤ 32 := (show ∀ s, s < 40 → exn s ≤ 32 by decide) s h
/-- The bits behind a symbol are few, and so is what they tell. -/
theorem q_bits (wd : Int) (h0 : 1 ≤ wd) (h1 : wd ≤ 16384) (c : Nat) (t : Tk) (i : Nat) : (qP wd c t i).ex < 2 ^ (qP wd c t i).bi ∧ (qP wd c t i).bi ≤ 32 := by
  have hn : nop.ex < 2 ^ nop.bi ∧ nop.bi ≤ 32 := by decide
  have hs : ∀ s, (sgl s).ex < 2 ^ (sgl s).bi ∧ (sgl s).bi ≤ 32 := fun s => by simp [sgl]
  unfold qP
  by_cases k1 : t.k = 1
  · rw [if_pos k1]
    unfold plit
    repeat' split
    all_goals first | exact hs _ | exact hn
  · rw [if_neg k1]
    by_cases hC : isC t = true
    · rw [if_pos hC]
      have hh := of_decide_eq_true hC
      obtain ⟨m, hm, m0, m1, _⟩ := K_in t.d wd ⟨hh.2.2.2.1, hh.2.2.2.2, NNum.wd_in ⟨h0, h1⟩⟩
      have a := sv_is t.n.toNat (by omega) (by omega)
      have b := sv_is m m0 m1
      rw [hm, Int.toNat_natCast]
      unfold pcp
      repeat' split
      · exact ⟨a.low, exn_le _ a.sym⟩
      · exact ⟨b.low, exn_le _ b.sym⟩
      · exact hn
    · rw [if_neg hC]
      by_cases hK : isK c t = true
      · rw [if_pos hK]
        unfold pkn
        split
        · exact hs _
        · exact hn
      · rw [if_neg hK]; exact hn
/-- The symbols are within the codes. -/
theorem q_sym (wd : Int) (h0 : 1 ≤ wd) (h1 : wd ≤ 16384) (c : Nat) (t : Tk) (ok : okP c t = true) (i : Nat) (hi : i < 5) (ht : (qP wd c t i).th = true) : (qP wd c t i).sy < sz c i := by
  have l0 := pt_lt t.a 0
  have l1 := pt_lt t.a 1
  have l2 := pt_lt t.a 2
  have l3 := pt_lt t.a 3
  unfold qP at ht ⊢
  unfold sz
  by_cases k1 : t.k = 1
  · rw [if_pos k1] at ht ⊢
    rcases lt5 hi with rfl | rfl | rfl | rfl | rfl
    all_goals simp [plit, sgl, nop] at ht ⊢
    all_goals omega
  · rw [if_neg k1] at ht ⊢
    by_cases hC : isC t = true
    · rw [if_pos hC] at ht ⊢
      have hh := of_decide_eq_true hC
      obtain ⟨m, hm, m0, m1, _⟩ := K_in t.d wd ⟨hh.2.2.2.1, hh.2.2.2.2, NNum.wd_in ⟨h0, h1⟩⟩
      have a := sv_len t.n.toNat (by omega) (by omega)
      have b := sv_lt m m0 m1
      rw [hm, Int.toNat_natCast] at ht ⊢
      rcases lt5 hi with rfl | rfl | rfl | rfl | rfl
      all_goals simp [pcp, nop] at ht ⊢
      all_goals omega
    · have hK : isK c t = true := by
        have hC' : isC t = false := by simpa using hC
        unfold okP at ok
        simpa [k1, hC'] using ok
      rw [if_neg hC, if_pos hK] at ht ⊢
      have hh := of_decide_eq_true hK
      rcases lt5 hi with rfl | rfl | rfl | rfl | rfl
      all_goals simp [pkn, sgl, nop] at ht ⊢
      all_goals omega
theorem qq_le {c : Nat → Int} {n m : Nat} (h : Rng c n) (hb : hasB c n m = true) : (qq c n m).toNat ≤ 15 := by
  have hb' := of_decide_eq_true hb
  have h2 := h m (by omega)
  unfold qq
  repeat' split
  all_goals omega
/-- A told step has few bits. -/
theorem tN_le (c : Nat) (F : Nat → Nat → Nat) (q : Nat → Pa) (N : Nat) (hr : ∀ i, i < 5 → Rng (fun j => (F i j : Int)) (sz c i)) (hq : ∀ i, i < 5 → (q i).bi ≤ 32) (ok : okA c (fun k j => (F k j : Int)) q = true) :
    N ≤ tN c (fun k j => (F k j : Int)) q N 5 ∧ tN c (fun k j => (F k j : Int)) q N 5 ≤ N + 235 := by
  have hl : ∀ i, i < 5 → ln c (fun k j => (F k j : Int)) q i ≤ 47 := fun i hi => by
    have hu := okA_at ok hi
    have hb := hq i hi
    unfold ln
    by_cases e : (q i).th = true
    · rw [if_pos e]
      unfold okU at hu
      rw [e] at hu
      have h2 : hasB (fun j => (F i j : Int)) (sz c i) (q i).sy = true := by simpa using hu
      have h3 : (qq (fun j => (F i j : Int)) (sz c i) (q i).sy).toNat ≤ 15 := qq_le (hr i hi) h2
      show (qq (fun j => (F i j : Int)) (sz c i) (q i).sy).toNat + (q i).bi ≤ 47
      omega
    · rw [if_neg e]; omega
  have a0 := hl 0 (by omega)
  have a1 := hl 1 (by omega)
  have a2 := hl 2 (by omega)
  have a3 := hl 3 (by omega)
  have a4 := hl 4 (by omega)
  simp only [tN]
  omega
end Go.Proofs.YtgjpcjnhggcfdaaGreatDoor.HGbn
