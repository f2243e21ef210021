/-
  Contracts: package lens, writing: one symbol or two, by hand. Conditions: they are below 256, and lie in memory.
  Contract: lens.Write. Conditions: the slice reads as lengths, and they are few; the writer's bits are few.
  Contract: lens.Write, whole: what is written, and when nothing is. Conditions: the slice reads as integers, and they are few; the writer's bits are few.
  Contracts: package lens, reading: one symbol or two, told by hand. Conditions: the bits are there.
  Contracts: package lens: Read. Conditions: the bits are there, and tell lengths well; or one symbol or two by hand, well or not.
-/
import Derived.Test.YtaidboopcoaeeaaDoorC09
import Derived.Test.YtaidboopcoaeeaaDoorC15
import Derived.Test.YtaidboopcoaeeaaDoorC08
import Derived.Test.YtaidboopcoaeeaaDoorC10
import Derived.Test.YtaidboopcoaeeaaDoorC02
namespace Go.Proofs.YtaidboopcoaeeaaDoor.Wrb
open Go.ChangeShapes Go.WideShapes Go.ChangeAt Go.RowKit Go.Proofs.YtaidboopcoaeeaaDoor.Core Go.Proofs.YtaidboopcoaeeaaDoor.Gnd Go.Proofs.YtaidboopcoaeeaaDoor.Math Go.Proofs.YtaidboopcoaeeaaDoor.Dec Go.Proofs.YtaidboopcoaeeaaDoor.Ord Go.Proofs.YtaidboopcoaeeaaDoor.Lsp Go.Proofs.YtaidboopcoaeeaaDoor.Foot Go.Proofs.YtaidboopcoaeeaaDoor.Add Go.Proofs.YtaidboopcoaeeaaDoor.Wri Go.Proofs.YtaidboopcoaeeaaDoor.Wra

/-- What simple answers. -/
structure Smp (w : World) (n a t : Nat) (two : Bool) (e : Ending) (w' : World) : Prop where
  ex : ∃ gw u V N, e = .returned (.pointer (some ⟨gw, 0, none⟩)) ∧ Nw w.heap.size w w' gw u V N ∧ Hand V 0 n a t N two ∧ N ≤ 100
theorem hand_f0 (n a t : Nat) (ha : a < 2) (han : a < n) : Hand (0 + 1 * 2 ^ 0 + 0 * 2 ^ (0 + 1) + 0 * 2 ^ (0 + 1 + 1) + a * 2 ^ (0 + 1 + 1 + 1)) 0 n a t (0 + 1 + 1 + 1 + 1) false := by
  have e1 : nb (0 + 1 * 2 ^ 0 + 0 * 2 ^ (0 + 1) + 0 * 2 ^ (0 + 1 + 1) + a * 2 ^ (0 + 1 + 1 + 1)) (0 + 2) 1 = 0 := by unfold nb; simp only [Nat.reducePow, Nat.reduceAdd]; omega
  refine ⟨?_, ?_, ?_, fun h => (by cases h), han, ?_⟩
  · unfold nb; simp only [Nat.reducePow, Nat.reduceAdd]; omega
  · unfold nb; simp only [Nat.reducePow, Nat.reduceAdd]; simp; omega
  · rw [e1]; unfold nb; simp only [Nat.reducePow, Nat.reduceAdd, Nat.reduceMul]; omega
  · rw [e1]; rfl
theorem hand_f1 (n a t : Nat) (ha : a < 256) (han : a < n) : Hand (0 + 1 * 2 ^ 0 + 0 * 2 ^ (0 + 1) + 1 * 2 ^ (0 + 1 + 1) + a * 2 ^ (0 + 1 + 1 + 1)) 0 n a t (0 + 1 + 1 + 1 + 8) false := by
  have e1 : nb (0 + 1 * 2 ^ 0 + 0 * 2 ^ (0 + 1) + 1 * 2 ^ (0 + 1 + 1) + a * 2 ^ (0 + 1 + 1 + 1)) (0 + 2) 1 = 1 := by unfold nb; simp only [Nat.reducePow, Nat.reduceAdd]; omega
  refine ⟨?_, ?_, ?_, fun h => (by cases h), han, ?_⟩
  · unfold nb; simp only [Nat.reducePow, Nat.reduceAdd]; omega
  · unfold nb; simp only [Nat.reducePow, Nat.reduceAdd]; simp; omega
  · rw [e1]; unfold nb; simp only [Nat.reducePow, Nat.reduceAdd, Nat.reduceMul]; omega
  · rw [e1]; rfl
theorem hand_t0 (n a t : Nat) (ha : a < 2) (han : a < n) (ht : t < 256) (htn : t < n) (hat : a ≠ t) : Hand (0 + 1 * 2 ^ 0 + 1 * 2 ^ (0 + 1) + 0 * 2 ^ (0 + 1 + 1) + a * 2 ^ (0 + 1 + 1 + 1) + t * 2 ^ (0 + 1 + 1 + 1 + 1)) 0 n a t (0 + 1 + 1 + 1 + 1 + 8) true := by
  have e1 : nb (0 + 1 * 2 ^ 0 + 1 * 2 ^ (0 + 1) + 0 * 2 ^ (0 + 1 + 1) + a * 2 ^ (0 + 1 + 1 + 1) + t * 2 ^ (0 + 1 + 1 + 1 + 1)) (0 + 2) 1 = 0 := by unfold nb; simp only [Nat.reducePow, Nat.reduceAdd]; omega
  refine ⟨?_, ?_, ?_, fun _ => ⟨?_, htn, hat⟩, han, ?_⟩
  · unfold nb; simp only [Nat.reducePow, Nat.reduceAdd]; omega
  · unfold nb; simp only [Nat.reducePow, Nat.reduceAdd]; simp; omega
  · rw [e1]; unfold nb; simp only [Nat.reducePow, Nat.reduceAdd, Nat.reduceMul]; omega
  · rw [e1]; unfold nb; simp only [Nat.reducePow, Nat.reduceAdd, Nat.reduceMul]; omega
  · rw [e1]; rfl
theorem hand_t1 (n a t : Nat) (ha : a < 256) (han : a < n) (ht : t < 256) (htn : t < n) (hat : a ≠ t) : Hand (0 + 1 * 2 ^ 0 + 1 * 2 ^ (0 + 1) + 1 * 2 ^ (0 + 1 + 1) + a * 2 ^ (0 + 1 + 1 + 1) + t * 2 ^ (0 + 1 + 1 + 1 + 8)) 0 n a t (0 + 1 + 1 + 1 + 8 + 8) true := by
  have e1 : nb (0 + 1 * 2 ^ 0 + 1 * 2 ^ (0 + 1) + 1 * 2 ^ (0 + 1 + 1) + a * 2 ^ (0 + 1 + 1 + 1) + t * 2 ^ (0 + 1 + 1 + 1 + 8)) (0 + 2) 1 = 1 := by unfold nb; simp only [Nat.reducePow, Nat.reduceAdd]; omega
  refine ⟨?_, ?_, ?_, fun _ => ⟨?_, htn, hat⟩, han, ?_⟩
  · unfold nb; simp only [Nat.reducePow, Nat.reduceAdd]; omega
  · unfold nb; simp only [Nat.reducePow, Nat.reduceAdd]; simp; omega
  · rw [e1]; unfold nb; simp only [Nat.reducePow, Nat.reduceAdd, Nat.reduceMul]; omega
  · rw [e1]; unfold nb; simp only [Nat.reducePow, Nat.reduceAdd, Nat.reduceMul]; omega
  · rw [e1]; rfl
set_option maxRecDepth 20000 in
set_option maxHeartbeats 1000000 in
theorem simple_w1 (g cap a n : Nat) (w : World) (hc : w.cell? ⟨g, 0, none⟩ = some (.int .i64 a)) (hcap : 1 ≤ cap) (ha : a < 256) (han : a < n) :
    Calls Tryd.prog 22 #[.slice (some ⟨g, 0, none⟩) 1 cap] w fun e w' => Smp w n a 0 false e w' := by
  have hg := lt_of_cell hc
  have HC := hide hc
  have ha' : (a : Int) ≤ 255 := by omega
  clear hc
  go_enter Tryd.func22, Tryd.ntmps22
  go_wp2_with fail
  refine (nw_new w).mono ?_
  rintro e w1 ⟨gw, u1, rfl, n1⟩
  have N1 := hide n1
  clear n1
  go_wp2_with fail
  refine (nw_bits (unhide N1) 1 1 (by omega) (by omega) (by omega)).mono ?_
  rintro e w2 ⟨rfl, u2, n2⟩
  have N2 := hide n2
  clear n2 N1
  go_wp2_with fail
  refine (nw_bits (unhide N2) 0 1 (by omega) (by omega) (by omega)).mono ?_
  rintro e w3 ⟨rfl, u3, n3⟩
  have c0 := (n3.bel.cell (p := ⟨g, 0, none⟩) hg).trans (unhide HC)
  have N3 := hide n3
  clear n3 N2
  by_cases hlt : a < 2
  · have hlt' : (a : Int) < 2 := by omega
    go_wp2_with fail
    refine (nw_bits (unhide N3) 0 1 (by omega) (by omega) (by omega)).mono ?_
    rintro e w4 ⟨rfl, u4, n4⟩
    have d0 := (n4.bel.cell (p := ⟨g, 0, none⟩) hg).trans (unhide HC)
    have N4 := hide n4
    clear n4 N3 c0
    go_wp2_with fail
    refine (nw_bits (unhide N4) a 1 (by omega) (by omega) (by omega)).mono ?_
    rintro e w5 ⟨rfl, u5, n5⟩
    have N5 := hide n5
    clear n5 N4 d0
    have hcap2 : (1 : Int) ≤ (cap : Int) := by omega
    by_cases hcap1 : cap = 1
    · subst hcap1
      go_wp2
      refine wp_loop_rounds 1 ?_
      rw [rounds_succ]
      go_wp2
      go_ret
      exact ⟨gw, u5, _, _, rfl, unhide N5, hand_f0 n a 0 (by omega) han, by omega⟩
    · go_wp2
      refine wp_loop_rounds 1 ?_
      rw [rounds_succ]
      go_wp2
      go_ret
      exact ⟨gw, u5, _, _, rfl, unhide N5, hand_f0 n a 0 (by omega) han, by omega⟩
  · have hlt' : ¬ (a : Int) < 2 := by omega
    have hlt2 : (2 : Int) ≤ (a : Int) := by omega
    go_wp2_with fail
    refine (nw_bits (unhide N3) 1 1 (by omega) (by omega) (by omega)).mono ?_
    rintro e w4 ⟨rfl, u4, n4⟩
    have d0 := (n4.bel.cell (p := ⟨g, 0, none⟩) hg).trans (unhide HC)
    have N4 := hide n4
    clear n4 N3 c0
    go_wp2_with fail
    refine (nw_bits (unhide N4) a 8 (by omega) (by omega) (by omega)).mono ?_
    rintro e w5 ⟨rfl, u5, n5⟩
    have N5 := hide n5
    clear n5 N4 d0
    have hcap2 : (1 : Int) ≤ (cap : Int) := by omega
    by_cases hcap1 : cap = 1
    · subst hcap1
      go_wp2
      refine wp_loop_rounds 1 ?_
      rw [rounds_succ]
      go_wp2
      go_ret
      exact ⟨gw, u5, _, _, rfl, unhide N5, hand_f1 n a 0 (by omega) han, by omega⟩
    · go_wp2
      refine wp_loop_rounds 1 ?_
      rw [rounds_succ]
      go_wp2
      go_ret
      exact ⟨gw, u5, _, _, rfl, unhide N5, hand_f1 n a 0 (by omega) han, by omega⟩
set_option maxRecDepth 20000 in
set_option maxHeartbeats 1000000 in
theorem simple_w2 (g cap a t n : Nat) (w : World) (hc : w.cell? ⟨g, 0, none⟩ = some (.int .i64 a)) (hd : w.cell? ⟨g, 1, none⟩ = some (.int .i64 t)) (hcap : 2 ≤ cap) (ha : a < 256) (han : a < n) (ht : t < 256) (htn : t < n) (hat : a ≠ t) :
    Calls Tryd.prog 22 #[.slice (some ⟨g, 0, none⟩) 2 cap] w fun e w' => Smp w n a t true e w' := by
  have hg := lt_of_cell hc
  have HC := hide hc
  have HD := hide hd
  have ht' : (t : Int) ≤ 255 := by omega
  clear hd
  have ha' : (a : Int) ≤ 255 := by omega
  clear hc
  go_enter Tryd.func22, Tryd.ntmps22
  go_wp2_with fail
  refine (nw_new w).mono ?_
  rintro e w1 ⟨gw, u1, rfl, n1⟩
  have N1 := hide n1
  clear n1
  go_wp2_with fail
  refine (nw_bits (unhide N1) 1 1 (by omega) (by omega) (by omega)).mono ?_
  rintro e w2 ⟨rfl, u2, n2⟩
  have N2 := hide n2
  clear n2 N1
  go_wp2_with fail
  refine (nw_bits (unhide N2) 1 1 (by omega) (by omega) (by omega)).mono ?_
  rintro e w3 ⟨rfl, u3, n3⟩
  have c0 := (n3.bel.cell (p := ⟨g, 0, none⟩) hg).trans (unhide HC)
  have N3 := hide n3
  clear n3 N2
  by_cases hlt : a < 2
  · have hlt' : (a : Int) < 2 := by omega
    go_wp2_with fail
    refine (nw_bits (unhide N3) 0 1 (by omega) (by omega) (by omega)).mono ?_
    rintro e w4 ⟨rfl, u4, n4⟩
    have d0 := (n4.bel.cell (p := ⟨g, 0, none⟩) hg).trans (unhide HC)
    have N4 := hide n4
    clear n4 N3 c0
    go_wp2_with fail
    refine (nw_bits (unhide N4) a 1 (by omega) (by omega) (by omega)).mono ?_
    rintro e w5 ⟨rfl, u5, n5⟩
    have N5 := hide n5
    have d1 := (n5.bel.cell (p := ⟨g, 1, none⟩) hg).trans (unhide HD)
    have hcap1 : ¬ cap = 1 := by omega
    have hcap2 : (1 : Int) ≤ (cap : Int) := by omega
    have hcap3 : (2 : Int) ≤ (cap : Int) := by omega
    clear n5 N4 d0
    go_wp2
    refine wp_loop_rounds 2 ?_
    rw [rounds_succ]
    go_wp2_with fail
    refine (nw_bits (unhide N5) t 8 (by omega) (by omega) (by omega)).mono ?_
    rintro e w6 ⟨rfl, u6, n6⟩
    have N6 := hide n6
    clear n6 N5
    go_wp2
    rw [rounds_succ]
    go_wp2
    go_ret
    exact ⟨gw, u6, _, _, rfl, unhide N6, hand_t0 n a t (by omega) han ht htn hat, by omega⟩
  · have hlt' : ¬ (a : Int) < 2 := by omega
    have hlt2 : (2 : Int) ≤ (a : Int) := by omega
    go_wp2_with fail
    refine (nw_bits (unhide N3) 1 1 (by omega) (by omega) (by omega)).mono ?_
    rintro e w4 ⟨rfl, u4, n4⟩
    have d0 := (n4.bel.cell (p := ⟨g, 0, none⟩) hg).trans (unhide HC)
    have N4 := hide n4
    clear n4 N3 c0
    go_wp2_with fail
    refine (nw_bits (unhide N4) a 8 (by omega) (by omega) (by omega)).mono ?_
    rintro e w5 ⟨rfl, u5, n5⟩
    have N5 := hide n5
    have d1 := (n5.bel.cell (p := ⟨g, 1, none⟩) hg).trans (unhide HD)
    have hcap1 : ¬ cap = 1 := by omega
    have hcap2 : (1 : Int) ≤ (cap : Int) := by omega
    have hcap3 : (2 : Int) ≤ (cap : Int) := by omega
    clear n5 N4 d0
    go_wp2
    refine wp_loop_rounds 2 ?_
    rw [rounds_succ]
    go_wp2_with fail
    refine (nw_bits (unhide N5) t 8 (by omega) (by omega) (by omega)).mono ?_
    rintro e w6 ⟨rfl, u6, n6⟩
    have N6 := hide n6
    clear n6 N5
    go_wp2
    rw [rounds_succ]
    go_wp2
    go_ret
    exact ⟨gw, u6, _, _, rfl, unhide N6, hand_t1 n a t (by omega) han ht htn hat, by omega⟩
end Go.Proofs.YtaidboopcoaeeaaDoor.Wrb

namespace Go.Proofs.YtaidboopcoaeeaaDoor.Wsl
open Go.ChangeShapes Go.WideShapes Go.ChangeAt Go.RowKit Go.Proofs.YtaidboopcoaeeaaDoor.Core Go.Proofs.YtaidboopcoaeeaaDoor.Gnd Go.Proofs.YtaidboopcoaeeaaDoor.Math Go.Proofs.YtaidboopcoaeeaaDoor.Dec Go.Proofs.YtaidboopcoaeeaaDoor.Ord Go.Proofs.YtaidboopcoaeeaaDoor.Lsp Go.Proofs.YtaidboopcoaeeaaDoor.Lrh Go.Proofs.YtaidboopcoaeeaaDoor.Foot Go.Proofs.YtaidboopcoaeeaaDoor.Add Go.Proofs.YtaidboopcoaeeaaDoor.Wri Go.Proofs.YtaidboopcoaeeaaDoor.Joi Go.Proofs.YtaidboopcoaeeaaDoor.Chk Go.Proofs.YtaidboopcoaeeaaDoor.Wra Go.Proofs.YtaidboopcoaeeaaDoor.Wrb Go.Proofs.YtaidboopcoaeeaaDoor.Wse Go.Proofs.YtaidboopcoaeeaaDoor.Wsf Go.Proofs.YtaidboopcoaeeaaDoor.Wsg Go.Proofs.YtaidboopcoaeeaaDoor.Rse Go.Proofs.YtaidboopcoaeeaaDoor.Wsj Go.Proofs.YtaidboopcoaeeaaDoor.Wsk

theorem join_new {w w3 w4 : World} {gw g2 H : Nat} {u u2 : Value} {V N V2 N2 : Nat} (h : Wr w gw u V N) (b : Below w.heap.size w w4) (nw : Nw H w3 w4 g2 u2 V2 N2) (hH : w.heap.size ≤ H) (hN : N + N2 ≤ 900000) :
    Calls Tryd.prog 21 #[.pointer (some ⟨gw, 0, none⟩), .pointer (some ⟨g2, 0, none⟩)] w4 fun e w5 => e = .returned (.tuple #[]) ∧ ∃ u', Tw w gw u V N w5 u' (V + V2 * 2 ^ N) (N + N2) := by
  have h4 := h.keep (Upd.ofBelow (S := fun _ => False) b) (fun _ _ h => h)
  refine (join_raw gw g2 u2 u V N V2 N2 w4 h4 nw.wri hN (fun c hc => ?_)).mono ?_
  · have h1 := nw.ft c (.inr hc)
    have h2 := h.raw.lt gw (.inl rfl)
    refine ⟨by omega, fun h3 => ?_⟩
    have := h.raw.lt c (.inr h3)
    omega
  · rintro e w5 ⟨rfl, v', hw, t⟩
    exact ⟨rfl, v', ((Tw.refl h).below b).put hw t (by omega)⟩
/-- How lengths are told. -/
def Tld (V n : Nat) (f : Nat → Nat) (q : Nat) : Prop :=
  (∃ s t two, Hand V 0 n s t q two ∧ ∀ j, j < n → f j = by_hand s t two j) ∨ (∃ K most p l, Norm V 0 n K most p l q ∧ ∀ j, j < n → got (told l 8) j = f j)
/-- What Write answers, if it writes. -/
structure Puts (w : World) (gw : Nat) (u : Value) (V N n : Nat) (f : Nat → Nat) (e : Ending) (w' : World) : Prop where
  ex : ∃ u' V2 N2, e = .returned (.bool true) ∧ Tw w gw u V N w' u' (V + V2 * 2 ^ N) (N + N2) ∧ Tld V2 n f N2 ∧ N2 ≤ 100 + 22 * n
theorem rw_box {w : World} {g n : Nat} {f : Nat → Nat} (h : Box w g 3 (nr f n).toArray) : Rw w (.slice (some ⟨g, 0, none⟩) n n) n f :=
  ⟨g, 0, n, rfl, Nat.le_refl _, h.lt, fun i hi => by rw [Nat.zero_add]; exact (h.cell i).trans (na_at _ _ _ hi)⟩
theorem many_bh (s : Nat) : ∀ n, many (fun k => (by_hand s 0 false k : Int)) n = if s < n then 1 else 0
  | 0 => rfl
  | n + 1 => by
    have e1 : many (fun k => (by_hand s 0 false k : Int)) (n + 1) = many (fun k => (by_hand s 0 false k : Int)) n + if (by_hand s 0 false n : Int) = 0 then 0 else 1 := rfl
    rw [e1, many_bh s n]
    unfold by_hand
    by_cases h : n = s
    · subst h; simp
    · by_cases h2 : s < n
      · simp [h, h2]; omega
      · simp [h, h2]; omega
theorem chk_bh (s n : Nat) (h : s < n) : chk (fun k => (by_hand s 0 false k : Int)) n = 0 := by
  unfold chk
  rw [if_pos ((rngB_iff _ n).2 (fun k _ => by
    show 0 ≤ (by_hand s 0 false k : Int) ∧ (by_hand s 0 false k : Int) ≤ 15
    unfold by_hand
    split <;> omega)), if_pos (.inl (by rw [many_bh, if_pos h]))]
theorem syms_one {w : World} {v : Value} {l : List Nat} {x : Nat} (h : Syms w v l) (hl : l = [x]) : ∃ g cap, v = .slice (some ⟨g, 0, none⟩) 1 cap ∧ 1 ≤ cap ∧ w.cell? ⟨g, 0, none⟩ = some (.int .i64 (x : Int)) := by
  subst hl
  rcases h with ⟨_, h⟩ | ⟨g, cap, h1, h2, h3⟩
  · cases h
  · exact ⟨g, cap, h1, h2, by simpa using h3 0 (by simp)⟩
theorem syms_two {w : World} {v : Value} {l : List Nat} {x y : Nat} (h : Syms w v l) (hl : l = [x, y]) : ∃ g cap, v = .slice (some ⟨g, 0, none⟩) 2 cap ∧ 2 ≤ cap ∧ w.cell? ⟨g, 0, none⟩ = some (.int .i64 (x : Int)) ∧ w.cell? ⟨g, 1, none⟩ = some (.int .i64 (y : Int)) := by
  subst hl
  rcases h with ⟨_, h⟩ | ⟨g, cap, h1, h2, h3⟩
  · cases h
  · exact ⟨g, cap, h1, h2, by simpa using h3 0 (by simp), by simpa using h3 1 (by simp)⟩
theorem syms_len {w : World} {v : Value} {l : List Nat} {m : Nat} (h : Syms w v l) (hl : l.length = m) : ∃ a cap, v = .slice a m cap := by
  rcases h with ⟨h, e⟩ | ⟨g, cap, h1, _⟩
  · subst e; subst hl; exact ⟨none, 0, h⟩
  · subst hl; exact ⟨_, cap, h1⟩
set_option maxRecDepth 20000 in
set_option maxHeartbeats 2000000 in
theorem write_zero (gw n : Nat) (u v : Value) (V N : Nat) (F : Nat → Nat) (w : World) (h : Wr w gw u V N) (hN : N ≤ 300000) (src : Rw w v n F) (hn1 : 1 ≤ n) (hn : n ≤ 4096) (hz : ∀ k, k < n → F k = 0) :
    Calls Tryd.prog 8 #[.pointer (some ⟨gw, 0, none⟩), v] w fun e w' => Puts w gw u V N n (by_hand 0 0 false) e w' := by
  have WR := hide h
  have SRC := hide src
  have WI := hide (with18 v n (fun k => (F k : Int)) (by omega) w src.ints)
  obtain ⟨b, off, cap, rfl, hcap, hb, hcells⟩ := src
  have h1n : ¬ (n : Int) < 1 := by omega
  have h1n' : (1 : Int) ≤ (n : Int) := by omega
  have h2n : (n : Int) ≤ 4096 := by omega
  have hav0 : hav (fun k => (F k : Int)) n = [] := by
    apply List.eq_nil_iff_forall_not_mem.2
    intro x hx
    obtain ⟨h1, h2⟩ := (hav_mem _ x n).1 hx
    exact h2 (by show (F x : Int) = 0; rw [hz x h1]; rfl)
  clear h hcells hz
  go_enter Tryd.func8, Tryd.ntmps8
  go_wp2_with fail
  refine (unhide WI).mono ?_
  rintro e w1 ⟨u1, rfl, sy1, b1⟩
  obtain ⟨a1, cap1, rfl⟩ := syms_len sy1 (show _ = 0 by rw [hav0]; rfl)
  have AL := hide (alone20 0 n (w1.alloc (.cells #[.int .i64 0] 3)) (by omega) (by omega))
  have B1 := hide (b1.alloc b1.size (.cells #[.int .i64 0] 3))
  have c0 : (w1.alloc (.cells #[.int .i64 0] 3)).cell? ⟨w1.heap.size, 0, none⟩ = some (.int .i64 ((0 : Nat) : Int)) := by simp
  have hl1 : w1.heap.size < (w1.alloc (.cells #[.int .i64 0] 3)).heap.size := by simp
  have C0 := hide c0
  have HL1 := hide hl1
  clear sy1 b1 WI hav0 c0 hl1
  go_wp2_with fail
  refine (unhide AL).mono ?_
  rintro e w3 ⟨g3, rfl, hg3, bx3, b3⟩
  have d0 := (b3.cell (p := ⟨w1.heap.size, 0, none⟩) (unhide HL1)).trans (unhide C0)
  have SM := hide (simple_w1 w1.heap.size 1 0 n w3 d0 (by omega) (by omega) (by omega))
  have B3 := hide ((unhide B1).trans (b3.mono (unhide B1).size))
  clear bx3 b3 AL B1
  go_wp2_with fail
  refine (unhide SM).mono ?_
  rintro e w4 ⟨g4, u4, V4, N4, rfl, nw4, hd4, nl4⟩
  have JO := hide (join_new (unhide WR) ((unhide B3).trans (nw4.bel.mono (unhide B3).size)) nw4 (unhide B3).size (by omega))
  have TL := hide (show Tld V4 n (by_hand 0 0 false) N4 from .inl ⟨0, 0, false, hd4, fun _ _ => rfl⟩)
  clear nw4 hd4 SM
  go_wp2_with fail
  refine (unhide JO).mono ?_
  rintro e w5 ⟨rfl, u5, t5⟩
  have T5 := hide t5
  clear t5 JO
  go_wp2
  go_ret
  exact ⟨u5, V4, N4, rfl, unhide T5, unhide TL, by omega⟩
set_option maxRecDepth 20000 in
set_option maxHeartbeats 2000000 in
theorem write_one (s : Nat) (gw n : Nat) (u v : Value) (V N : Nat) (F : Nat → Nat) (w : World) (h : Wr w gw u V N) (hN : N ≤ 300000) (src : Rw w v n F) (hn1 : 1 ≤ n) (hn : n ≤ 4096) (hch : chk (fun k => (F k : Int)) n = 0) (hv : hav (fun k => (F k : Int)) n = [s]) (hs : s < 256) :
    Calls Tryd.prog 8 #[.pointer (some ⟨gw, 0, none⟩), v] w fun e w' => Puts w gw u V N n (by_hand s 0 false) e w' := by
  have WR := hide h
  have SRC := hide src
  have WI := hide (with18 v n (fun k => (F k : Int)) (by omega) w src.ints)
  obtain ⟨b, off, cap, rfl, hcap, hb, hcells⟩ := src
  have h1n : ¬ (n : Int) < 1 := by omega
  have h1n' : (1 : Int) ≤ (n : Int) := by omega
  have h2n : (n : Int) ≤ 4096 := by omega
  have hsn : s < n := ((hav_mem (fun k => (F k : Int)) s n).1 (by rw [hv]; simp)).1
  have hs' : (s : Int) < 256 := by omega
  have hs2 : decide ((s : Int) < 256) = true := decide_eq_true (by omega)
  have CH := hide hch
  have HV := hide hv
  clear h hcells hch hv
  go_enter Tryd.func8, Tryd.ntmps8
  go_wp2_with fail
  refine (unhide WI).mono ?_
  rintro e w1 ⟨u1, rfl, sy1, b1⟩
  obtain ⟨g1, cap1, rfl, hc1, d1⟩ := syms_one sy1 (unhide HV)
  have hg1 := lt_of_cell d1
  have CK := hide (check11 _ n (fun k => (F k : Int)) (by omega) w1 ((unhide SRC).keep b1).ints)
  rw [unhide CH] at CK
  have B1 := hide b1
  clear sy1 b1 WI
  go_wp2_with fail
  refine (unhide CK).mono ?_
  rintro e w2 ⟨rfl, b2⟩
  have d2 := (b2.cell (p := ⟨g1, 0, none⟩) hg1).trans d1
  have hg2 : g1 < w2.heap.size := Nat.lt_of_lt_of_le hg1 b2.size
  have B2 := hide ((unhide B1).trans (b2.mono (unhide B1).size))
  clear b2 CK d1 B1
  go_wp2_with fail
  refine (alone20 s n w2 hsn (by omega)).mono ?_
  rintro e w3 ⟨g3, rfl, hg3, bx3, b3⟩
  have d3 := (b3.cell (p := ⟨g1, 0, none⟩) hg2).trans d2
  have B3 := hide ((unhide B2).trans (b3.mono (unhide B2).size))
  have SM := hide (simple_w1 g1 cap1 s n w3 d3 hc1 hs hsn)
  clear bx3 b3 B2 d2
  go_wp2_with fail
  refine (unhide SM).mono ?_
  rintro e w4 ⟨g4, u4, V4, N4, rfl, nw4, hd4, nl4⟩
  have TL := hide (show Tld V4 n (by_hand s 0 false) N4 from .inl ⟨s, 0, false, hd4, fun _ _ => rfl⟩)
  have nl5 : N4 ≤ 100 + 22 * n := by omega
  have JO := hide (join_new (unhide WR) ((unhide B3).trans (nw4.bel.mono (unhide B3).size)) nw4 (unhide B3).size (by omega))
  clear nw4 SM
  go_wp2_with fail
  refine (unhide JO).mono ?_
  rintro e w5 ⟨rfl, u5, t5⟩
  have T5 := hide t5
  clear t5 JO
  go_wp2
  go_ret
  exact ⟨u5, V4, N4, rfl, unhide T5, unhide TL, nl5⟩
set_option maxRecDepth 20000 in
set_option maxHeartbeats 2000000 in
theorem write_one_big (s : Nat) (gw n : Nat) (u v : Value) (V N : Nat) (F : Nat → Nat) (w : World) (h : Wr w gw u V N) (hN : N ≤ 300000) (src : Rw w v n F) (hn1 : 1 ≤ n) (hn : n ≤ 4096) (hch : chk (fun k => (F k : Int)) n = 0) (hv : hav (fun k => (F k : Int)) n = [s]) (hs : 256 ≤ s) (od : Ordr w) :
    Calls Tryd.prog 8 #[.pointer (some ⟨gw, 0, none⟩), v] w fun e w' => Puts w gw u V N n (by_hand s 0 false) e w' := by
  have WR := hide h
  have SRC := hide src
  have WI := hide (with18 v n (fun k => (F k : Int)) (by omega) w src.ints)
  obtain ⟨b, off, cap, rfl, hcap, hb, hcells⟩ := src
  have h1n : ¬ (n : Int) < 1 := by omega
  have h1n' : (1 : Int) ≤ (n : Int) := by omega
  have h2n : (n : Int) ≤ 4096 := by omega
  have hsn : s < n := ((hav_mem (fun k => (F k : Int)) s n).1 (by rw [hv]; simp)).1
  have hs' : ¬ (s : Int) < 256 := by omega
  have hs2 : decide ((s : Int) < 256) = false := decide_eq_false (by omega)
  have CH := hide hch
  have HV := hide hv
  have OD := hide od
  clear h hcells hch hv od
  go_enter Tryd.func8, Tryd.ntmps8
  go_wp2_with fail
  refine (unhide WI).mono ?_
  rintro e w1 ⟨u1, rfl, sy1, b1⟩
  obtain ⟨g1, cap1, rfl, hc1, d1⟩ := syms_one sy1 (unhide HV)
  have hg1 := lt_of_cell d1
  have CK := hide (check11 _ n (fun k => (F k : Int)) (by omega) w1 ((unhide SRC).keep b1).ints)
  rw [unhide CH] at CK
  have B1 := hide b1
  clear sy1 b1 WI
  go_wp2_with fail
  refine (unhide CK).mono ?_
  rintro e w2 ⟨rfl, b2⟩
  have d2 := (b2.cell (p := ⟨g1, 0, none⟩) hg1).trans d1
  have hg2 : g1 < w2.heap.size := Nat.lt_of_lt_of_le hg1 b2.size
  have B2 := hide ((unhide B1).trans (b2.mono (unhide B1).size))
  clear b2 CK d1 B1
  go_wp2_with fail
  refine (alone20 s n w2 hsn (by omega)).mono ?_
  rintro e w3 ⟨g3, rfl, hg3, bx3, b3⟩
  have d3 := (b3.cell (p := ⟨g1, 0, none⟩) hg2).trans d2
  have B3 := hide ((unhide B2).trans (b3.mono (unhide B2).size))
  have SM := hide (normal23 _ n (by_hand s 0 false) hn1 hn w3 (rw_box bx3) (chk_bh s n hsn) (fun h => by
    have h2 := h.2
    unfold by_hand at h2
    rw [if_neg (fun h3 => h3.elim (fun h4 => by omega) (fun h4 => by cases h4.1))] at h2
    exact h2 rfl) ((unhide OD).keep (Upd.ofBelow (S := fun _ => False) (unhide B3)) (fun h => h)))
  clear bx3 b3 B2 d2
  go_wp2_with fail
  refine (unhide SM).mono ?_
  rintro e w4 ⟨g4, u4, V4, N4, K4, m4, p4, l4, rfl, nw4, nm4, gt4, nl4⟩
  have TL := hide (show Tld V4 n (by_hand s 0 false) N4 from .inr ⟨K4, m4, p4, l4, nm4, gt4⟩)
  have nl5 : N4 ≤ 100 + 22 * n := by omega
  clear nm4 gt4
  have JO := hide (join_new (unhide WR) ((unhide B3).trans (nw4.bel.mono (unhide B3).size)) nw4 (unhide B3).size (by omega))
  clear nw4 SM
  go_wp2_with fail
  refine (unhide JO).mono ?_
  rintro e w5 ⟨rfl, u5, t5⟩
  have T5 := hide t5
  clear t5 JO
  go_wp2
  go_ret
  exact ⟨u5, V4, N4, rfl, unhide T5, unhide TL, nl5⟩
set_option maxRecDepth 20000 in
set_option maxHeartbeats 2000000 in
theorem write_two (s t : Nat) (gw n : Nat) (u v : Value) (V N : Nat) (F : Nat → Nat) (w : World) (h : Wr w gw u V N) (hN : N ≤ 300000) (src : Rw w v n F) (hn1 : 1 ≤ n) (hn : n ≤ 4096) (hch : chk (fun k => (F k : Int)) n = 0) (hv : hav (fun k => (F k : Int)) n = [s, t]) (hst : s < t) (ht : t < 256) :
    Calls Tryd.prog 8 #[.pointer (some ⟨gw, 0, none⟩), v] w fun e w' => Puts w gw u V N n (by_hand s t true) e w' := by
  have WR := hide h
  have SRC := hide src
  have WI := hide (with18 v n (fun k => (F k : Int)) (by omega) w src.ints)
  obtain ⟨b, off, cap, rfl, hcap, hb, hcells⟩ := src
  have h1n : ¬ (n : Int) < 1 := by omega
  have h1n' : (1 : Int) ≤ (n : Int) := by omega
  have h2n : (n : Int) ≤ 4096 := by omega
  have hsn : s < n := ((hav_mem (fun k => (F k : Int)) s n).1 (by rw [hv]; simp)).1
  have htn : t < n := ((hav_mem (fun k => (F k : Int)) t n).1 (by rw [hv]; simp)).1
  have ht' : (t : Int) < 256 := by omega
  have ht2 : decide ((t : Int) < 256) = true := decide_eq_true (by omega)
  have CH := hide hch
  have HV := hide hv
  clear h hcells hch hv
  go_enter Tryd.func8, Tryd.ntmps8
  go_wp2_with fail
  refine (unhide WI).mono ?_
  rintro e w1 ⟨u1, rfl, sy1, b1⟩
  obtain ⟨g1, cap1, rfl, hc1, d1, f1⟩ := syms_two sy1 (unhide HV)
  have hg1 : g1 < w1.heap.size := lt_of_cell d1
  have CK := hide (check11 _ n (fun k => (F k : Int)) (by omega) w1 ((unhide SRC).keep b1).ints)
  rw [unhide CH] at CK
  have B1 := hide b1
  clear sy1 b1 WI
  go_wp2_with fail
  refine (unhide CK).mono ?_
  rintro e w2 ⟨rfl, b2⟩
  have d2 := (b2.cell (p := ⟨g1, 0, none⟩) hg1).trans d1
  have f2 := (b2.cell (p := ⟨g1, 1, none⟩) hg1).trans f1
  clear d1 f1
  have B3 := hide ((unhide B1).trans (b2.mono (unhide B1).size))
  clear b2 CK B1
  have SM := hide (simple_w2 g1 cap1 s t n w2 d2 f2 hc1 (by omega) hsn ht htn (by omega))
  go_wp2_with fail
  refine (unhide SM).mono ?_
  rintro e w4 ⟨g4, u4, V4, N4, rfl, nw4, hd4, nl4⟩
  have TL := hide (show Tld V4 n (by_hand s t true) N4 from .inl ⟨s, t, true, hd4, fun _ _ => rfl⟩)
  have nl5 : N4 ≤ 100 + 22 * n := by omega
  have JO := hide (join_new (unhide WR) ((unhide B3).trans (nw4.bel.mono (unhide B3).size)) nw4 (unhide B3).size (by omega))
  clear nw4 SM
  go_wp2_with fail
  refine (unhide JO).mono ?_
  rintro e w5 ⟨rfl, u5, t5⟩
  have T5 := hide t5
  clear t5 JO
  go_wp2
  go_ret
  exact ⟨u5, V4, N4, rfl, unhide T5, unhide TL, nl5⟩
set_option maxRecDepth 20000 in
set_option maxHeartbeats 2000000 in
theorem write_two_big (s t : Nat) (gw n : Nat) (u v : Value) (V N : Nat) (F : Nat → Nat) (w : World) (h : Wr w gw u V N) (hN : N ≤ 300000) (src : Rw w v n F) (hn1 : 1 ≤ n) (hn : n ≤ 4096) (hch : chk (fun k => (F k : Int)) n = 0) (hv : hav (fun k => (F k : Int)) n = [s, t]) (ht : 256 ≤ t) (od : Ordr w) :
    Calls Tryd.prog 8 #[.pointer (some ⟨gw, 0, none⟩), v] w fun e w' => Puts w gw u V N n F e w' := by
  have WR := hide h
  have SRC := hide src
  have WI := hide (with18 v n (fun k => (F k : Int)) (by omega) w src.ints)
  obtain ⟨b, off, cap, rfl, hcap, hb, hcells⟩ := src
  have h1n : ¬ (n : Int) < 1 := by omega
  have h1n' : (1 : Int) ≤ (n : Int) := by omega
  have h2n : (n : Int) ≤ 4096 := by omega
  have hsn : s < n := ((hav_mem (fun k => (F k : Int)) s n).1 (by rw [hv]; simp)).1
  have htn : t < n := ((hav_mem (fun k => (F k : Int)) t n).1 (by rw [hv]; simp)).1
  have ht' : ¬ (t : Int) < 256 := by omega
  have ht2 : decide ((t : Int) < 256) = false := decide_eq_false (by omega)
  have CH := hide hch
  have HV := hide hv
  have OD := hide od
  clear h hcells hch hv od
  go_enter Tryd.func8, Tryd.ntmps8
  go_wp2_with fail
  refine (unhide WI).mono ?_
  rintro e w1 ⟨u1, rfl, sy1, b1⟩
  obtain ⟨g1, cap1, rfl, hc1, d1, f1⟩ := syms_two sy1 (unhide HV)
  have hg1 : g1 < w1.heap.size := lt_of_cell d1
  have CK := hide (check11 _ n (fun k => (F k : Int)) (by omega) w1 ((unhide SRC).keep b1).ints)
  rw [unhide CH] at CK
  have B1 := hide b1
  clear sy1 b1 WI
  go_wp2_with fail
  refine (unhide CK).mono ?_
  rintro e w2 ⟨rfl, b2⟩
  have d2 := (b2.cell (p := ⟨g1, 0, none⟩) hg1).trans d1
  have f2 := (b2.cell (p := ⟨g1, 1, none⟩) hg1).trans f1
  clear d1 f1
  have B3 := hide ((unhide B1).trans (b2.mono (unhide B1).size))
  clear b2 CK B1
  have SM := hide (normal23 _ n F hn1 hn w2 ((unhide SRC).keep (unhide B3)) (unhide CH) (fun hh => by
    have h := hh.1
    rw [← hav_len, unhide HV] at h
    simp at h) ((unhide OD).keep (Upd.ofBelow (S := fun _ => False) (unhide B3)) (fun h => h)))
  go_wp2_with fail
  refine (unhide SM).mono ?_
  rintro e w4 ⟨g4, u4, V4, N4, K4, m4, p4, l4, rfl, nw4, nm4, gt4, nl4⟩
  have TL := hide (show Tld V4 n F N4 from .inr ⟨K4, m4, p4, l4, nm4, gt4⟩)
  have nl5 : N4 ≤ 100 + 22 * n := by omega
  clear nm4 gt4
  have JO := hide (join_new (unhide WR) ((unhide B3).trans (nw4.bel.mono (unhide B3).size)) nw4 (unhide B3).size (by omega))
  clear nw4 SM
  go_wp2_with fail
  refine (unhide JO).mono ?_
  rintro e w5 ⟨rfl, u5, t5⟩
  have T5 := hide t5
  clear t5 JO
  go_wp2
  go_ret
  exact ⟨u5, V4, N4, rfl, unhide T5, unhide TL, nl5⟩
set_option maxRecDepth 20000 in
set_option maxHeartbeats 2000000 in
theorem write_more (gw n : Nat) (u v : Value) (V N : Nat) (F : Nat → Nat) (w : World) (h : Wr w gw u V N) (hN : N ≤ 300000) (src : Rw w v n F) (hn1 : 1 ≤ n) (hn : n ≤ 4096) (hch : chk (fun k => (F k : Int)) n = 0) (hv : 3 ≤ (hav (fun k => (F k : Int)) n).length) (od : Ordr w) :
    Calls Tryd.prog 8 #[.pointer (some ⟨gw, 0, none⟩), v] w fun e w' => Puts w gw u V N n F e w' := by
  have WR := hide h
  have SRC := hide src
  have WI := hide (with18 v n (fun k => (F k : Int)) (by omega) w src.ints)
  obtain ⟨b, off, cap, rfl, hcap, hb, hcells⟩ := src
  have h1n : ¬ (n : Int) < 1 := by omega
  have h1n' : (1 : Int) ≤ (n : Int) := by omega
  have h2n : (n : Int) ≤ 4096 := by omega
  obtain ⟨m, hm⟩ : ∃ m, (hav (fun k => (F k : Int)) n).length = m := ⟨_, rfl⟩
  have hm3 : 3 ≤ m := by omega
  have hm4 : decide ((m : Int) ≤ 2) = false := decide_eq_false (by omega)
  have hm5 : ((m : Int) == 1) = false := by simp; omega
  have hm6 : ((m : Int) == 0) = false := by simp; omega
  have CH := hide hch
  have HV := hide hm
  have OD := hide od
  clear h hcells hch hv hm od
  go_enter Tryd.func8, Tryd.ntmps8
  go_wp2_with fail
  refine (unhide WI).mono ?_
  rintro e w1 ⟨u1, rfl, sy1, b1⟩
  obtain ⟨a1, cap1, rfl⟩ := syms_len sy1 (unhide HV)
  have CK := hide (check11 _ n (fun k => (F k : Int)) (by omega) w1 ((unhide SRC).keep b1).ints)
  rw [unhide CH] at CK
  have B1 := hide b1
  clear sy1 b1 WI
  go_wp2_with fail
  refine (unhide CK).mono ?_
  rintro e w2 ⟨rfl, b2⟩
  have B3 := hide ((unhide B1).trans (b2.mono (unhide B1).size))
  clear b2 CK B1
  have SM := hide (normal23 _ n F hn1 hn w2 ((unhide SRC).keep (unhide B3)) (unhide CH) (fun hh => by
    have h := hh.1
    rw [← hav_len, unhide HV] at h
    omega) ((unhide OD).keep (Upd.ofBelow (S := fun _ => False) (unhide B3)) (fun h => h)))
  go_wp2_with fail
  refine (unhide SM).mono ?_
  rintro e w4 ⟨g4, u4, V4, N4, K4, m4, p4, l4, rfl, nw4, nm4, gt4, nl4⟩
  have TL := hide (show Tld V4 n F N4 from .inr ⟨K4, m4, p4, l4, nm4, gt4⟩)
  have nl5 : N4 ≤ 100 + 22 * n := by omega
  clear nm4 gt4
  have JO := hide (join_new (unhide WR) ((unhide B3).trans (nw4.bel.mono (unhide B3).size)) nw4 (unhide B3).size (by omega))
  clear nw4 SM
  go_wp2_with fail
  refine (unhide JO).mono ?_
  rintro e w5 ⟨rfl, u5, t5⟩
  have T5 := hide t5
  clear t5 JO
  go_wp2
  go_ret
  exact ⟨u5, V4, N4, rfl, unhide T5, unhide TL, nl5⟩
end Go.Proofs.YtaidboopcoaeeaaDoor.Wsl

namespace Go.Proofs.YtaidboopcoaeeaaDoor.Wsm
open Go.ChangeShapes Go.WideShapes Go.ChangeAt Go.RowKit Go.Proofs.YtaidboopcoaeeaaDoor.Core Go.Proofs.YtaidboopcoaeeaaDoor.Gnd Go.Proofs.YtaidboopcoaeeaaDoor.Math Go.Proofs.YtaidboopcoaeeaaDoor.Dec Go.Proofs.YtaidboopcoaeeaaDoor.Ord Go.Proofs.YtaidboopcoaeeaaDoor.Lsp Go.Proofs.YtaidboopcoaeeaaDoor.Lrh Go.Proofs.YtaidboopcoaeeaaDoor.Foot Go.Proofs.YtaidboopcoaeeaaDoor.Add Go.Proofs.YtaidboopcoaeeaaDoor.Wri Go.Proofs.YtaidboopcoaeeaaDoor.Chk Go.Proofs.YtaidboopcoaeeaaDoor.Wra Go.Proofs.YtaidboopcoaeeaaDoor.Wse Go.Proofs.YtaidboopcoaeeaaDoor.Wsg Go.Proofs.YtaidboopcoaeeaaDoor.Rse Go.Proofs.YtaidboopcoaeeaaDoor.Wsl

theorem hav_up (c : Nat → Int) : ∀ n, (hav c n).Pairwise (· < ·)
  | 0 => .nil
  | n + 1 => by
    have ih := hav_up c n
    unfold hav
    split
    · exact ih
    · refine List.pairwise_append.2 ⟨ih, List.pairwise_singleton _ _, fun a ha b hb => ?_⟩
      rw [List.mem_singleton] at hb
      have := ((hav_mem c a n).1 ha).1
      omega
theorem kr_hav (c : Nat → Int) : ∀ n, kr c n = ((hav c n).map (fun k => pt2 (c k))).sum
  | 0 => rfl
  | n + 1 => by
    have ih := kr_hav c n
    have e : hav c (n + 1) = if c n = 0 then hav c n else hav c n ++ [n] := rfl
    rw [kr, ih, e]
    by_cases h : c n = 0
    · rw [if_pos h, h]; simp [pt2]
    · rw [if_neg h, List.map_append, List.sum_append]; simp
theorem pt2_two {x y : Int} (hx : x ≠ 0) (hx0 : 0 ≤ x) (hx1 : x ≤ 15) (hy : y ≠ 0) (hy0 : 0 ≤ y) (hy1 : y ≤ 15) (h : pt2 x + pt2 y = 32768) : x = 1 ∧ y = 1 := by
  have key : ∀ z : Int, z ≠ 0 → 0 ≤ z → z ≤ 15 → (pt2 z ≤ 16384 ∧ (pt2 z = 16384 → z = 1)) := by
    intro z hz h0 h1
    obtain ⟨m, rfl⟩ : ∃ m : Nat, z = (m : Int) := ⟨z.toNat, by omega⟩
    have hm1 : 1 ≤ m := by omega
    have e : pt2 (m : Int) = 2 ^ (15 - m) := by unfold pt2; rw [if_neg hz]; rfl
    rw [e]
    by_cases h2 : m = 1
    · subst h2; simp
    · have : 2 ^ (15 - m) ≤ 2 ^ 13 := Nat.pow_le_pow_right (by omega) (by omega)
      exact ⟨by omega, fun h => by omega⟩
  obtain ⟨a1, a2⟩ := key x hx hx0 hx1
  obtain ⟨b1, b2⟩ := key y hy hy0 hy1
  exact ⟨a2 (by omega), b2 (by omega)⟩
/-- The lengths that are told. -/
def want (F : Nat → Nat) (n j : Nat) : Nat := if many (fun k => (F k : Int)) n = 0 then by_hand 0 0 false j else if many (fun k => (F k : Int)) n = 1 then (if F j = 0 then 0 else 1) else F j
theorem Tld.congr {V n q : Nat} {f g : Nat → Nat} (h : Tld V n f q) (e : ∀ j, j < n → f j = g j) : Tld V n g q := by
  rcases h with ⟨s, t, two, h1, h2⟩ | ⟨K, m, p, l, h1, h2⟩
  · exact .inl ⟨s, t, two, h1, fun j hj => by rw [← e j hj]; exact h2 j hj⟩
  · exact .inr ⟨K, m, p, l, h1, fun j hj => by rw [← e j hj]; exact h2 j hj⟩
theorem Puts.congr {w w' : World} {gw : Nat} {u : Value} {V N n : Nat} {f g : Nat → Nat} {e : Ending} (h : Puts w gw u V N n f e w') (hf : ∀ j, j < n → f j = g j) : Puts w gw u V N n g e w' := by
  obtain ⟨u', V2, N2, h1, h2, h3, h4⟩ := h.ex
  exact ⟨u', V2, N2, h1, h2, Tld.congr h3 hf, h4⟩
theorem bh_one_of {F : Nat → Nat} {n s : Nat} (hv : hav (fun k => (F k : Int)) n = [s]) (j : Nat) (hj : j < n) : by_hand s 0 false j = if F j = 0 then 0 else 1 := by
  have h1 := hav_mem (fun k => (F k : Int)) j n
  rw [hv, List.mem_singleton] at h1
  unfold by_hand
  by_cases h : j = s
  · have h2 : (F j : Int) ≠ 0 := (h1.1 h).2
    rw [if_pos (.inl h), if_neg (by omega)]
  · rw [if_neg (fun h2 => h2.elim h (fun h3 => by cases h3.1))]
    by_cases h2 : F j = 0
    · rw [if_pos h2]
    · exact absurd (h1.2 ⟨hj, by show (F j : Int) ≠ 0; omega⟩) h
theorem bh_two_of {F : Nat → Nat} {n s t : Nat} (hch : chk (fun k => (F k : Int)) n = 0) (hv : hav (fun k => (F k : Int)) n = [s, t]) (j : Nat) (hj : j < n) : by_hand s t true j = F j := by
  obtain ⟨hr, hk, _⟩ := chk_zero hch
  have hm : many (fun k => (F k : Int)) n = 2 := by rw [← hav_len, hv]; rfl
  have hkr : kr (fun k => (F k : Int)) n = 32768 := by omega
  rw [kr_hav, hv] at hkr
  obtain ⟨s1, s2⟩ := (hav_mem (fun k => (F k : Int)) s n).1 (by rw [hv]; simp)
  obtain ⟨t1, t2⟩ := (hav_mem (fun k => (F k : Int)) t n).1 (by rw [hv]; simp)
  simp only [List.map_cons, List.map_nil, List.sum_cons, List.sum_nil, Nat.add_zero] at hkr
  obtain ⟨e1, e2⟩ := pt2_two s2 (hr s s1).1 (hr s s1).2 t2 (hr t t1).1 (hr t t1).2 hkr
  have h1 := hav_mem (fun k => (F k : Int)) j n
  rw [hv] at h1
  simp only [List.mem_cons, List.mem_nil_iff, or_false] at h1
  unfold by_hand
  by_cases h : j = s
  · rw [if_pos (.inl h), h]; omega
  · by_cases h' : j = t
    · rw [if_pos (.inr ⟨rfl, h'⟩), h']; omega
    · rw [if_neg (fun h2 => h2.elim h (fun h3 => h' h3.2))]
      rcases Nat.eq_zero_or_pos (F j) with h2 | h2
      · exact h2.symm
      · exact absurd (h1.2 ⟨hj, by show (F j : Int) ≠ 0; omega⟩) (fun h3 => h3.elim h h')
theorem write_ok (gw n : Nat) (u v : Value) (V N : Nat) (F : Nat → Nat) (w : World) (h : Wr w gw u V N) (hN : N ≤ 300000) (src : Rw w v n F) (hn1 : 1 ≤ n) (hn : n ≤ 4096) (od : Ordr w) (hok : many (fun k => (F k : Int)) n = 0 ∨ chk (fun k => (F k : Int)) n = 0) :
    Calls Tryd.prog 8 #[.pointer (some ⟨gw, 0, none⟩), v] w fun e w' => Puts w gw u V N n (want F n) e w' := by
  have hlen := hav_len (fun k => (F k : Int)) n
  match hv : hav (fun k => (F k : Int)) n with
  | [] =>
    rw [hv] at hlen
    refine (write_zero gw n u v V N F w h hN src hn1 hn (fun k hk => ?_)).mono (fun e w' hp => Puts.congr hp (fun j _ => ?_))
    · rcases Nat.eq_zero_or_pos (F k) with h0 | h0
      · exact h0
      · have := (hav_mem (fun k => (F k : Int)) k n).2 ⟨hk, by show (F k : Int) ≠ 0; omega⟩
        rw [hv] at this
        cases this
    · have hm0 : many (fun k => (F k : Int)) n = 0 := hlen.symm
      unfold want; rw [if_pos hm0]
  | [s] =>
    rw [hv] at hlen
    have hm : many (fun k => (F k : Int)) n = 1 := hlen.symm
    have hch := hok.resolve_left (by omega)
    have hw : ∀ j, j < n → by_hand s 0 false j = want F n j := fun j hj => by
      unfold want; rw [if_neg (by omega), if_pos hm]; exact bh_one_of hv j hj
    by_cases hs : s < 256
    · exact (write_one s gw n u v V N F w h hN src hn1 hn hch hv hs).mono (fun e w' hp => Puts.congr hp hw)
    · exact (write_one_big s gw n u v V N F w h hN src hn1 hn hch hv (by omega) od).mono (fun e w' hp => Puts.congr hp hw)
  | [s, t] =>
    rw [hv] at hlen
    have hm : many (fun k => (F k : Int)) n = 2 := hlen.symm
    have hch := hok.resolve_left (by omega)
    have hw : ∀ j, F j = want F n j := fun j => by unfold want; rw [if_neg (by omega), if_neg (by omega)]
    have hup := hav_up (fun k => (F k : Int)) n
    rw [hv] at hup
    have hst : s < t := by simpa using hup
    by_cases ht : t < 256
    · exact (write_two s t gw n u v V N F w h hN src hn1 hn hch hv hst ht).mono (fun e w' hp => Puts.congr hp (fun j hj => (bh_two_of hch hv j hj).trans (hw j)))
    · exact (write_two_big s t gw n u v V N F w h hN src hn1 hn hch hv (by omega) od).mono (fun e w' hp => Puts.congr hp (fun j _ => hw j))
  | a :: b :: c :: r =>
    rw [hv] at hlen
    have hm : 3 ≤ many (fun k => (F k : Int)) n := by simp at hlen; omega
    have hch := hok.resolve_left (by omega)
    have hw : ∀ j, F j = want F n j := fun j => by unfold want; rw [if_neg (by omega), if_neg (by omega)]
    exact (write_more gw n u v V N F w h hN src hn1 hn hch (by rw [hv]; simp) od).mono (fun e w' hp => Puts.congr hp (fun j _ => hw j))
set_option maxRecDepth 20000 in
set_option maxHeartbeats 1000000 in
theorem write_no (gw n : Nat) (v : Value) (c : Nat → Int) (w : World) (src : Ints .i64 w v n c) (hn1 : 1 ≤ n) (hn : n ≤ 4096) (hm : many c n ≠ 0) (hch : chk c n ≠ 0) :
    Calls Tryd.prog 8 #[.pointer (some ⟨gw, 0, none⟩), v] w fun e w' => e = .returned (.bool false) ∧ Below w.heap.size w w' := by
  have SRC := hide src
  have WI := hide (with18 v n c (by omega) w src)
  obtain ⟨a, cap, rfl, _⟩ := src
  have h1n : ¬ (n : Int) < 1 := by omega
  have h1n' : (1 : Int) ≤ (n : Int) := by omega
  have h2n : (n : Int) ≤ 4096 := by omega
  obtain ⟨m, hmm⟩ : ∃ m, (hav c n).length = m := ⟨_, rfl⟩
  have hm0 : m ≠ 0 := by rw [← hmm, hav_len]; exact hm
  have hm6 : ((m : Int) == 0) = false := by simp; omega
  have HV := hide hmm
  have hch' : (chk c n != 0) = true := by simp [hch]
  clear hmm hm hch
  go_enter Tryd.func8, Tryd.ntmps8
  go_wp2_with fail
  refine (unhide WI).mono ?_
  rintro e w1 ⟨u1, rfl, sy1, b1⟩
  obtain ⟨a1, cap1, rfl⟩ := syms_len sy1 (unhide HV)
  have CK := hide (check11 _ n c (by omega) w1 ((unhide SRC).keep b1))
  have B1 := hide b1
  clear sy1 b1 WI
  generalize chk c n = z at *
  go_wp2_with fail
  refine (unhide CK).mono ?_
  rintro e w2 ⟨rfl, b2⟩
  have B2 := hide ((unhide B1).trans (b2.mono (unhide B1).size))
  clear b2 CK B1
  go_wp2
  go_ret
  exact ⟨rfl, unhide B2⟩
theorem write_none (gw cap : Nat) (a : Option Addr) (w : World) :
    Calls Tryd.prog 8 #[.pointer (some ⟨gw, 0, none⟩), .slice a 0 cap] w fun e w' => e = .returned (.bool false) ∧ w' = w := by
  go_enter Tryd.func8, Tryd.ntmps8
  go_wp2
  go_ret
  exact ⟨rfl, rfl⟩
end Go.Proofs.YtaidboopcoaeeaaDoor.Wsm

namespace Go.Proofs.YtaidboopcoaeeaaDoor.Rsg
open Go.ChangeShapes Go.WideShapes Go.ChangeAt Go.RowKit Go.Proofs.YtaidboopcoaeeaaDoor.Core Go.Proofs.YtaidboopcoaeeaaDoor.Gnd Go.Proofs.YtaidboopcoaeeaaDoor.Math Go.Proofs.YtaidboopcoaeeaaDoor.Bitin Go.Proofs.YtaidboopcoaeeaaDoor.Eyes Go.Proofs.YtaidboopcoaeeaaDoor.Dec Go.Proofs.YtaidboopcoaeeaaDoor.Ord Go.Proofs.YtaidboopcoaeeaaDoor.Lsp Go.Proofs.YtaidboopcoaeeaaDoor.Tre Go.Proofs.YtaidboopcoaeeaaDoor.Trr Go.Proofs.YtaidboopcoaeeaaDoor.Rsa Go.Proofs.YtaidboopcoaeeaaDoor.Rsb Go.Proofs.YtaidboopcoaeeaaDoor.Lrh

theorem so_hand {w : World} {rl rh r bl s b n tl last : Nat} {bc : Nat → Nat} {st : Option Nat} (h : So w rl rh r bl bc st s b n tl last (fun _ => 0)) (x y : Nat) (f' : Nat → Nat) (hf : ∀ j, j < n → f' j = if j = x ∨ j = y then 1 else 0) :
    So ((w.setCell ⟨b, x, none⟩ (.int .i64 1)).setCell ⟨b, y, none⟩ (.int .i64 1)) rl rh r bl bc st s b n tl last f' ∧ Upd (fun k => k = s ∨ k = b ∨ k = r) w ((w.setCell ⟨b, x, none⟩ (.int .i64 1)).setCell ⟨b, y, none⟩ (.int .i64 1)) := by
  have hne := h.ne
  have u : Upd (fun k => k = b) w ((w.setCell ⟨b, x, none⟩ (.int .i64 1)).setCell ⟨b, y, none⟩ (.int .i64 1)) := ((Upd.refl (fun k => k = b) w).setCell (p := ⟨b, x, none⟩) rfl _).setCell (p := ⟨b, y, none⟩) rfl _
  refine ⟨⟨h.box.keep u (by omega), ?_, h.rd.keep u (fun k h1 h2 h3 => by omega), hne⟩, u.mono (fun k _ hk => .inr (.inl hk))⟩
  have l1 := (h.lens.set x (.int .i64 ((1 : Nat) : Int))).set y (.int .i64 ((1 : Nat) : Int))
  rw [na_set, na_set, ← na_congr (f := f') (fun k hk => by
    rw [hf k hk]
    by_cases e1 : k = y
    · rw [if_pos (.inr e1), if_pos e1]
    · rw [if_neg e1]
      by_cases e2 : k = x
      · rw [if_pos (.inl e2), if_pos e2]
      · rw [if_neg (fun h => h.elim e2 e1), if_neg e2])] at l1
  exact l1
theorem bh_f (s t j : Nat) : by_hand s t false j = if j = s ∨ j = s then 1 else 0 := by
  unfold by_hand
  by_cases h : j = s
  · rw [if_pos (.inl h), if_pos (.inl h)]
  · rw [if_neg (fun h2 => h2.elim h (fun h3 => by cases h3.1)), if_neg (fun h2 => h2.elim h h)]
theorem bh_t (s t j : Nat) : by_hand s t true j = if j = s ∨ j = t then 1 else 0 := by
  unfold by_hand
  by_cases h : j = s ∨ j = t
  · rw [if_pos h, if_pos (h.elim .inl (fun h => .inr ⟨rfl, h⟩))]
  · rw [if_neg h, if_neg (fun h2 => h (h2.elim .inl (fun h => .inr h.2)))]
theorem bh_t' (s t j : Nat) : by_hand s t true j = if j = t ∨ j = s then 1 else 0 := by
  rw [bh_t]
  by_cases h : j = s ∨ j = t
  · rw [if_pos h, if_pos h.symm]
  · rw [if_neg h, if_neg (fun h2 => h h2.symm)]
set_option maxRecDepth 20000 in
set_option maxHeartbeats 2000000 in
theorem simple_one (rl rh r bl s b n i a wd : Nat) (bc : Nat → Nat) (hc : ∀ k, bc k ≤ 255) (hbl : bl ≤ 100000) (w : World) (h : So w rl rh r bl bc (some i) s b n 0 8 (fun _ => 0))
    (n2 : nb (num bc 0 bl) i 1 = 0) (hwd : nb (num bc 0 bl) (i + 1) 1 = wd) (n3 : nb (num bc 0 bl) (i + 2) (1 + 7 * wd) = a) (hq : i + 3 + 7 * wd ≤ 8 * bl) :
    Calls Tryd.prog 41 #[.pointer (some ⟨s, 0, none⟩)] w fun e w' => Upd (fun k => k = s ∨ k = b ∨ k = r) w w' ∧ (a < n → e = .returned (.int .i64 0) ∧ So w' rl rh r bl bc (some (i + 3 + 7 * wd)) s b n 0 8 (by_hand a 0 false)) ∧ (¬ a < n → e = .returned (.int .i64 3)) := by
  have hw2 : wd < 2 := by rw [← hwd]; exact nb_lt _ _ 1
  have R0 := hide (number_at rl rh r bl s b n 0 8 1 i 0 bc (fun _ => 0) hc (by omega) w h (by omega) (by omega) n2)
  have R1 := hide (fun w' h' => number_at rl rh r bl s b n 0 8 1 (i + 1) wd bc (fun _ => 0) hc (by omega) w' h' (by omega) (by omega) hwd)
  obtain ⟨m, hm⟩ : ∃ m, 1 + 7 * wd = m := ⟨_, rfl⟩
  rw [hm] at n3
  have R2 := hide (fun w' h' => number_at rl rh r bl s b n 0 8 m (i + 1 + 1) a bc (fun _ => 0) hc (by omega) w' h' (by omega) (by omega) n3)
  have hs8 : a < 256 := by
    rw [← n3]
    have h1 := nb_lt (num bc 0 bl) (i + 2) m
    have h2 : 2 ^ m ≤ 2 ^ 8 := Nat.pow_le_pow_right (by omega) (by omega)
    omega
  have HM := hide hm
  clear n2 hwd n3 h hm
  go_enter Tryd.func41, Tryd.ntmps41
  go_wp2_with fail
  refine (unhide R0).mono ?_
  rintro e w1 ⟨rfl, so1, u1⟩
  have U1 := hide (u1.mono (T := fun k => k = s ∨ k = b ∨ k = r) (fun k _ hk => .inr (.inr hk)))
  have S1 := hide so1
  clear so1 u1 R0
  go_wp2_with fail
  refine (unhide R1 _ (unhide S1)).mono ?_
  rintro e w2 ⟨rfl, so2, u2⟩
  have U2 := hide ((unhide U1).trans (u2.mono (T := fun k => k = s ∨ k = b ∨ k = r) (fun k _ hk => .inr (.inr hk))))
  have S2 := hide so2
  clear so2 u2 R1 S1 U1
  obtain rfl | rfl : wd = 0 ∨ wd = 1 := by omega
  · obtain rfl : m = 1 := by have := unhide HM; omega
    go_wp2_with fail
    refine (unhide R2 _ (unhide S2)).mono ?_
    rintro e w3 ⟨rfl, so3, u3⟩
    have U3 := hide ((unhide U2).trans (u3.mono (T := fun k => k = s ∨ k = b ∨ k = r) (fun k _ hk => .inr (.inr hk))))
    have S3 := hide so3
    clear so3 u3 R2 S2 U2
    have c0 := (unhide S3).box.cell 0
    have c1 := (unhide S3).box.cell 1
    go_wp2_with fail
    refine (over_step rl rh r bl _ bc w3 (unhide S3).rd).mono ?_
    rintro e w4 ⟨rfl, rfl⟩
    by_cases han : a < n
    · have h1 : decide ((n : Int) ≤ (a : Int)) = false := decide_eq_false (by omega)
      have h2 : decide (n ≤ a) = false := decide_eq_false (by omega)
      have h3 : (a : Int) < (n : Int) := by omega
      have d1 := ((unhide S3).lens.cell a).trans (na_at _ _ _ han)
      have d2 := (unhide S3).lens.free a
      have FIN := hide (so_hand (unhide S3) a a (by_hand a 0 false) (fun j _ => bh_f a 0 j))
      go_wp2
      go_region
      all_goals go_wp2
      all_goals go_ret
      all_goals exact ⟨(unhide U3).trans ((unhide FIN).2.drewN 1), fun _ => ⟨rfl, (unhide FIN).1.drewN 1⟩, fun h => absurd han h⟩
    · have h1 : decide ((n : Int) ≤ (a : Int)) = true := decide_eq_true (by omega)
      have h2 : decide (n ≤ a) = true := decide_eq_true (by omega)
      go_wp2
      go_ret
      exact ⟨unhide U3, fun h => absurd h han, fun _ => rfl⟩
  · obtain rfl : m = 8 := by have := unhide HM; omega
    go_wp2_with fail
    refine (unhide R2 _ (unhide S2)).mono ?_
    rintro e w3 ⟨rfl, so3, u3⟩
    have U3 := hide ((unhide U2).trans (u3.mono (T := fun k => k = s ∨ k = b ∨ k = r) (fun k _ hk => .inr (.inr hk))))
    have S3 := hide so3
    clear so3 u3 R2 S2 U2
    have c0 := (unhide S3).box.cell 0
    have c1 := (unhide S3).box.cell 1
    go_wp2_with fail
    refine (over_step rl rh r bl _ bc w3 (unhide S3).rd).mono ?_
    rintro e w4 ⟨rfl, rfl⟩
    by_cases han : a < n
    · have h1 : decide ((n : Int) ≤ (a : Int)) = false := decide_eq_false (by omega)
      have h2 : decide (n ≤ a) = false := decide_eq_false (by omega)
      have h3 : (a : Int) < (n : Int) := by omega
      have d1 := ((unhide S3).lens.cell a).trans (na_at _ _ _ han)
      have d2 := (unhide S3).lens.free a
      have FIN := hide (so_hand (unhide S3) a a (by_hand a 0 false) (fun j _ => bh_f a 0 j))
      go_wp2
      go_region
      all_goals go_wp2
      all_goals go_ret
      all_goals exact ⟨(unhide U3).trans ((unhide FIN).2.drewN 1), fun _ => ⟨rfl, (unhide FIN).1.drewN 1⟩, fun h => absurd han h⟩
    · have h1 : decide ((n : Int) ≤ (a : Int)) = true := decide_eq_true (by omega)
      have h2 : decide (n ≤ a) = true := decide_eq_true (by omega)
      go_wp2
      go_ret
      exact ⟨unhide U3, fun h => absurd h han, fun _ => rfl⟩
set_option maxRecDepth 20000 in
set_option maxHeartbeats 2000000 in
theorem simple_two (rl rh r bl s b n i a wd t : Nat) (bc : Nat → Nat) (hc : ∀ k, bc k ≤ 255) (hbl : bl ≤ 100000) (w : World) (h : So w rl rh r bl bc (some i) s b n 0 8 (fun _ => 0))
    (n2 : nb (num bc 0 bl) i 1 = 1) (hwd : nb (num bc 0 bl) (i + 1) 1 = wd) (n3 : nb (num bc 0 bl) (i + 2) (1 + 7 * wd) = a) (n4 : nb (num bc 0 bl) (i + 3 + 7 * wd) 8 = t) (hq : i + 3 + 7 * wd + 8 ≤ 8 * bl) :
    Calls Tryd.prog 41 #[.pointer (some ⟨s, 0, none⟩)] w fun e w' => Upd (fun k => k = s ∨ k = b ∨ k = r) w w' ∧ (a < n ∧ t < n ∧ a ≠ t → e = .returned (.int .i64 0) ∧ So w' rl rh r bl bc (some (i + 3 + 7 * wd + 8)) s b n 0 8 (by_hand a t true)) ∧ (¬ (a < n ∧ t < n ∧ a ≠ t) → e = .returned (.int .i64 3)) := by
  have hw2 : wd < 2 := by rw [← hwd]; exact nb_lt _ _ 1
  have R0 := hide (number_at rl rh r bl s b n 0 8 1 i 1 bc (fun _ => 0) hc (by omega) w h (by omega) (by omega) n2)
  have R1 := hide (fun w' h' => number_at rl rh r bl s b n 0 8 1 (i + 1) wd bc (fun _ => 0) hc (by omega) w' h' (by omega) (by omega) hwd)
  obtain ⟨m, hm⟩ : ∃ m, 1 + 7 * wd = m := ⟨_, rfl⟩
  rw [hm] at n3
  have R2 := hide (fun w' h' => number_at rl rh r bl s b n 0 8 m (i + 1 + 1) a bc (fun _ => 0) hc (by omega) w' h' (by omega) (by omega) n3)
  have R3 := hide (fun w' h' => number_at rl rh r bl s b n 0 8 8 (i + 1 + 1 + m) t bc (fun _ => 0) hc (by omega) w' h' (by omega) (by omega) (by rw [show i + 1 + 1 + m = i + 3 + 7 * wd by omega]; exact n4))
  have ht8 : t < 256 := by rw [← n4]; exact nb_lt _ _ 8
  clear n4
  have hs8 : a < 256 := by
    rw [← n3]
    have h1 := nb_lt (num bc 0 bl) (i + 2) m
    have h2 : 2 ^ m ≤ 2 ^ 8 := Nat.pow_le_pow_right (by omega) (by omega)
    omega
  have HM := hide hm
  clear n2 hwd n3 h hm
  go_enter Tryd.func41, Tryd.ntmps41
  go_wp2_with fail
  refine (unhide R0).mono ?_
  rintro e w1 ⟨rfl, so1, u1⟩
  have U1 := hide (u1.mono (T := fun k => k = s ∨ k = b ∨ k = r) (fun k _ hk => .inr (.inr hk)))
  have S1 := hide so1
  clear so1 u1 R0
  go_wp2_with fail
  refine (unhide R1 _ (unhide S1)).mono ?_
  rintro e w2 ⟨rfl, so2, u2⟩
  have U2 := hide ((unhide U1).trans (u2.mono (T := fun k => k = s ∨ k = b ∨ k = r) (fun k _ hk => .inr (.inr hk))))
  have S2 := hide so2
  clear so2 u2 R1 S1 U1
  obtain rfl | rfl : wd = 0 ∨ wd = 1 := by omega
  · obtain rfl : m = 1 := by have := unhide HM; omega
    go_wp2_with fail
    refine (unhide R2 _ (unhide S2)).mono ?_
    rintro e w3 ⟨rfl, so3, u3⟩
    have U3 := hide ((unhide U2).trans (u3.mono (T := fun k => k = s ∨ k = b ∨ k = r) (fun k _ hk => .inr (.inr hk))))
    have S3 := hide so3
    clear so3 u3 R2 S2 U2
    go_wp2_with fail
    refine (unhide R3 _ (unhide S3)).mono ?_
    rintro e w5 ⟨rfl, so5, u5⟩
    have U5 := hide ((unhide U3).trans (u5.mono (T := fun k => k = s ∨ k = b ∨ k = r) (fun k _ hk => .inr (.inr hk))))
    have S5 := hide so5
    clear so5 u5 R3 S3 U3
    have c0 := (unhide S5).box.cell 0
    have c1 := (unhide S5).box.cell 1
    go_wp2_with fail
    refine (over_step rl rh r bl _ bc w5 (unhide S5).rd).mono ?_
    rintro e w4 ⟨rfl, rfl⟩
    by_cases hlt : a < t
    · have hlt' : (a : Int) < (t : Int) := by omega
      by_cases han : a < n ∧ t < n
      · have h1 : decide ((n : Int) ≤ (t : Int)) = false := decide_eq_false (by omega)
        have h2 : decide (n ≤ t) = false := decide_eq_false (by omega)
        by_cases hat : a = t
        · omega
        have e1 : ((a : Int) == (t : Int)) = false := by simp; omega
        have h3 : (a : Int) < (n : Int) := by omega
        have h4 : (t : Int) < (n : Int) := by omega
        have d1 := ((unhide S5).lens.cell a).trans (na_at _ _ _ han.1)
        have d2 := (unhide S5).lens.free a
        have d3 := ((unhide S5).lens.cell t).trans (na_at _ _ _ han.2)
        have d4 := (unhide S5).lens.free t
        have FI1 := hide (so_hand (unhide S5) a t (by_hand a t true) (fun j _ => bh_t a t j))
        have FI2 := hide (so_hand (unhide S5) t a (by_hand a t true) (fun j _ => bh_t' a t j))
        go_wp2
        go_region
        all_goals go_wp2
        all_goals go_ret
        all_goals first | exact ⟨(unhide U5).trans ((unhide FI1).2.drewN 1), fun _ => ⟨rfl, (unhide FI1).1.drewN 1⟩, fun h => absurd ⟨han.1, han.2, hat⟩ h⟩ | exact ⟨(unhide U5).trans ((unhide FI2).2.drewN 1), fun _ => ⟨rfl, (unhide FI2).1.drewN 1⟩, fun h => absurd ⟨han.1, han.2, hat⟩ h⟩
      · have h1 : decide ((n : Int) ≤ (t : Int)) = true := decide_eq_true (by omega)
        have h2 : decide (n ≤ t) = true := decide_eq_true (by omega)
        go_wp2
        go_ret
        exact ⟨unhide U5, fun h => absurd ⟨h.1, h.2.1⟩ han, fun _ => rfl⟩
    · have hnl' : ¬ (a : Int) < (t : Int) := by omega
      by_cases han : a < n ∧ t < n
      · have h1 : decide ((n : Int) ≤ (a : Int)) = false := decide_eq_false (by omega)
        have h2 : decide (n ≤ a) = false := decide_eq_false (by omega)
        by_cases hat : a = t
        · subst hat
          have e1 : ((a : Int) == (a : Int)) = true := by simp
          go_wp2
          go_ret
          exact ⟨unhide U5, fun h => absurd rfl h.2.2, fun _ => rfl⟩
        have e1 : ((a : Int) == (t : Int)) = false := by simp; omega
        have h3 : (a : Int) < (n : Int) := by omega
        have h4 : (t : Int) < (n : Int) := by omega
        have d1 := ((unhide S5).lens.cell a).trans (na_at _ _ _ han.1)
        have d2 := (unhide S5).lens.free a
        have d3 := ((unhide S5).lens.cell t).trans (na_at _ _ _ han.2)
        have d4 := (unhide S5).lens.free t
        have FI1 := hide (so_hand (unhide S5) a t (by_hand a t true) (fun j _ => bh_t a t j))
        have FI2 := hide (so_hand (unhide S5) t a (by_hand a t true) (fun j _ => bh_t' a t j))
        go_wp2
        go_region
        all_goals go_wp2
        all_goals go_ret
        all_goals first | exact ⟨(unhide U5).trans ((unhide FI1).2.drewN 1), fun _ => ⟨rfl, (unhide FI1).1.drewN 1⟩, fun h => absurd ⟨han.1, han.2, hat⟩ h⟩ | exact ⟨(unhide U5).trans ((unhide FI2).2.drewN 1), fun _ => ⟨rfl, (unhide FI2).1.drewN 1⟩, fun h => absurd ⟨han.1, han.2, hat⟩ h⟩
      · have h1 : decide ((n : Int) ≤ (a : Int)) = true := decide_eq_true (by omega)
        have h2 : decide (n ≤ a) = true := decide_eq_true (by omega)
        go_wp2
        go_ret
        exact ⟨unhide U5, fun h => absurd ⟨h.1, h.2.1⟩ han, fun _ => rfl⟩
  · obtain rfl : m = 8 := by have := unhide HM; omega
    go_wp2_with fail
    refine (unhide R2 _ (unhide S2)).mono ?_
    rintro e w3 ⟨rfl, so3, u3⟩
    have U3 := hide ((unhide U2).trans (u3.mono (T := fun k => k = s ∨ k = b ∨ k = r) (fun k _ hk => .inr (.inr hk))))
    have S3 := hide so3
    clear so3 u3 R2 S2 U2
    go_wp2_with fail
    refine (unhide R3 _ (unhide S3)).mono ?_
    rintro e w5 ⟨rfl, so5, u5⟩
    have U5 := hide ((unhide U3).trans (u5.mono (T := fun k => k = s ∨ k = b ∨ k = r) (fun k _ hk => .inr (.inr hk))))
    have S5 := hide so5
    clear so5 u5 R3 S3 U3
    have c0 := (unhide S5).box.cell 0
    have c1 := (unhide S5).box.cell 1
    go_wp2_with fail
    refine (over_step rl rh r bl _ bc w5 (unhide S5).rd).mono ?_
    rintro e w4 ⟨rfl, rfl⟩
    by_cases hlt : a < t
    · have hlt' : (a : Int) < (t : Int) := by omega
      by_cases han : a < n ∧ t < n
      · have h1 : decide ((n : Int) ≤ (t : Int)) = false := decide_eq_false (by omega)
        have h2 : decide (n ≤ t) = false := decide_eq_false (by omega)
        by_cases hat : a = t
        · omega
        have e1 : ((a : Int) == (t : Int)) = false := by simp; omega
        have h3 : (a : Int) < (n : Int) := by omega
        have h4 : (t : Int) < (n : Int) := by omega
        have d1 := ((unhide S5).lens.cell a).trans (na_at _ _ _ han.1)
        have d2 := (unhide S5).lens.free a
        have d3 := ((unhide S5).lens.cell t).trans (na_at _ _ _ han.2)
        have d4 := (unhide S5).lens.free t
        have FI1 := hide (so_hand (unhide S5) a t (by_hand a t true) (fun j _ => bh_t a t j))
        have FI2 := hide (so_hand (unhide S5) t a (by_hand a t true) (fun j _ => bh_t' a t j))
        go_wp2
        go_region
        all_goals go_wp2
        all_goals go_ret
        all_goals first | exact ⟨(unhide U5).trans ((unhide FI1).2.drewN 1), fun _ => ⟨rfl, (unhide FI1).1.drewN 1⟩, fun h => absurd ⟨han.1, han.2, hat⟩ h⟩ | exact ⟨(unhide U5).trans ((unhide FI2).2.drewN 1), fun _ => ⟨rfl, (unhide FI2).1.drewN 1⟩, fun h => absurd ⟨han.1, han.2, hat⟩ h⟩
      · have h1 : decide ((n : Int) ≤ (t : Int)) = true := decide_eq_true (by omega)
        have h2 : decide (n ≤ t) = true := decide_eq_true (by omega)
        go_wp2
        go_ret
        exact ⟨unhide U5, fun h => absurd ⟨h.1, h.2.1⟩ han, fun _ => rfl⟩
    · have hnl' : ¬ (a : Int) < (t : Int) := by omega
      by_cases han : a < n ∧ t < n
      · have h1 : decide ((n : Int) ≤ (a : Int)) = false := decide_eq_false (by omega)
        have h2 : decide (n ≤ a) = false := decide_eq_false (by omega)
        by_cases hat : a = t
        · subst hat
          have e1 : ((a : Int) == (a : Int)) = true := by simp
          go_wp2
          go_ret
          exact ⟨unhide U5, fun h => absurd rfl h.2.2, fun _ => rfl⟩
        have e1 : ((a : Int) == (t : Int)) = false := by simp; omega
        have h3 : (a : Int) < (n : Int) := by omega
        have h4 : (t : Int) < (n : Int) := by omega
        have d1 := ((unhide S5).lens.cell a).trans (na_at _ _ _ han.1)
        have d2 := (unhide S5).lens.free a
        have d3 := ((unhide S5).lens.cell t).trans (na_at _ _ _ han.2)
        have d4 := (unhide S5).lens.free t
        have FI1 := hide (so_hand (unhide S5) a t (by_hand a t true) (fun j _ => bh_t a t j))
        have FI2 := hide (so_hand (unhide S5) t a (by_hand a t true) (fun j _ => bh_t' a t j))
        go_wp2
        go_region
        all_goals go_wp2
        all_goals go_ret
        all_goals first | exact ⟨(unhide U5).trans ((unhide FI1).2.drewN 1), fun _ => ⟨rfl, (unhide FI1).1.drewN 1⟩, fun h => absurd ⟨han.1, han.2, hat⟩ h⟩ | exact ⟨(unhide U5).trans ((unhide FI2).2.drewN 1), fun _ => ⟨rfl, (unhide FI2).1.drewN 1⟩, fun h => absurd ⟨han.1, han.2, hat⟩ h⟩
      · have h1 : decide ((n : Int) ≤ (a : Int)) = true := decide_eq_true (by omega)
        have h2 : decide (n ≤ a) = true := decide_eq_true (by omega)
        go_wp2
        go_ret
        exact ⟨unhide U5, fun h => absurd ⟨h.1, h.2.1⟩ han, fun _ => rfl⟩
end Go.Proofs.YtaidboopcoaeeaaDoor.Rsg

namespace Go.Proofs.YtaidboopcoaeeaaDoor.Rsh
open Go.ChangeShapes Go.WideShapes Go.ChangeAt Go.RowKit Go.Proofs.YtaidboopcoaeeaaDoor.Core Go.Proofs.YtaidboopcoaeeaaDoor.Gnd Go.Proofs.YtaidboopcoaeeaaDoor.Math Go.Proofs.YtaidboopcoaeeaaDoor.Bitin Go.Proofs.YtaidboopcoaeeaaDoor.Eyes Go.Proofs.YtaidboopcoaeeaaDoor.Dec Go.Proofs.YtaidboopcoaeeaaDoor.Ord Go.Proofs.YtaidboopcoaeeaaDoor.Lsp Go.Proofs.YtaidboopcoaeeaaDoor.Tre Go.Proofs.YtaidboopcoaeeaaDoor.Trr Go.Proofs.YtaidboopcoaeeaaDoor.Rsa Go.Proofs.YtaidboopcoaeeaaDoor.Rsb Go.Proofs.YtaidboopcoaeeaaDoor.Lrh Go.Proofs.YtaidboopcoaeeaaDoor.Rsc Go.Proofs.YtaidboopcoaeeaaDoor.Rse Go.Proofs.YtaidboopcoaeeaaDoor.Rsf Go.Proofs.YtaidboopcoaeeaaDoor.Rsg Go.Proofs.YtaidboopcoaeeaaDoor.Chk

/-- What a source's read leaves. -/
def Rdd (rl rh r bl : Nat) (bc : Nat → Nat) (q s b n : Nat) (f : Nat → Nat) (w' : World) : Prop :=
  ∃ tl last, So w' rl rh r bl bc (some q) s b n tl last f
set_option maxRecDepth 20000 in
set_option maxHeartbeats 1000000 in
theorem read_norm (rl rh r bl s b i n K most p q : Nat) (l : List (Nat × Nat)) (bc : Nat → Nat) (hc : ∀ k, bc k ≤ 255) (hbl : bl ≤ 100000) (hn : n ≤ 100000) (w : World) (h : So w rl rh r bl bc (some i) s b n 0 8 (fun _ => 0)) (od : Ordr w) (hrl : 0 < rl)
    (nm : Norm (num bc 0 bl) i n K most p l q) (hq : q ≤ 8 * bl) :
    Calls Tryd.prog 30 #[.pointer (some ⟨s, 0, none⟩)] w fun e w' => e = .returned (.int .i64 (chk (fun j => (got (told l 8) j : Int)) n)) ∧ Rdd rl rh r bl bc q s b n (got (told l 8)) w' ∧ Upd (fun k => k = s ∨ k = b ∨ k = r) w w' := by
  obtain ⟨n1, n2, n3, n4, n5, n6, n7, n8, n9, n10⟩ := nm
  have hle := n7.le
  have hp : i + 5 + 3 * K < p := by rcases n5 with h | h <;> omega
  have hne := h.ne
  have R0 := hide (number_at rl rh r bl s b n 0 8 1 i 0 bc (fun _ => 0) hc (by omega) w h (by omega) (by omega) n1)
  have SH := hide (fun w' h' o' => short42 rl rh r bl s b n (i + 1) K bc hc hbl w' h' o' hrl (by rw [← n2]) n3 (by rw [show i + 1 + 4 = i + 5 by omega]; exact n4) (by omega))
  rw [show i + 1 + 4 = i + 5 by omega] at SH
  have hsb : s < w.heap.size ∧ b < w.heap.size := ⟨h.box.lt, h.lens.lt⟩
  have OD := hide od
  have STP := hide (fun lo hi g w' h' tr hlo hs => steps_loop rl rh r bl s b n (i + 5 + 3 * K) q lo hi g most bc (fun s => (cl (num bc 0 bl) (i + 5) K s : Int)) hc hbl hn w' (told l 8) l rfl (by
    rcases n5 with ⟨a1, a2, a3⟩ | ⟨a1, a2, a3⟩
    · exact .inl ⟨a1, a2, a3 ▸ n7⟩
    · exact .inr ⟨a1, a2, a3 ▸ n7⟩) n6 n8 n9 n10 hq h' tr hlo hs)
  clear n1 n2 n3 n4 n5 n6 n7 n8 n9 n10 h od hp hle
  generalize got (told l 8) = f at *
  go_enter Tryd.func30, Tryd.ntmps30
  go_wp2_with fail
  refine (unhide R0).mono ?_
  rintro e w1 ⟨rfl, so1, u1⟩
  have O1 := hide ((unhide OD).keep u1 (by omega))
  have Z1 := hide u1.size
  have U1 := hide (u1.mono (T := fun k => k = s ∨ k = b ∨ k = r) (fun k _ hk => .inr (.inr hk)))
  have S1 := hide so1
  clear so1 u1 R0 OD
  go_wp2_with fail
  refine (unhide SH _ (unhide S1) (unhide O1)).mono ?_
  rintro e w2 ⟨g, lo, rfl, hlo, tr2, so2, u2⟩
  have U2 := hide ((unhide U1).trans (u2.mono (T := fun k => k = s ∨ k = b ∨ k = r) (fun k _ hk => .inr (.inr hk))))
  have S2 := hide so2
  have T2 := hide tr2
  have Z2 := hide (Nat.le_trans (unhide Z1) hlo)
  clear so2 u2 tr2 S1 O1 U1 SH Z1 hlo
  go_wp2_with fail
  refine (unhide STP lo _ g w2 (unhide S2) (unhide T2) (by have := unhide Z2; omega) (fun k h1 h2 => by have := unhide Z2; omega)).mono ?_
  rintro e w3 ⟨rfl, ⟨tl, last, so3⟩, u3⟩
  have U3 := hide ((unhide U2).trans u3)
  have c1 := so3.box.cell 1
  have S3 := hide so3
  clear so3 u3 S2 T2 U2 STP
  go_wp2_with fail
  refine (check11 _ n (fun k => (f k : Int)) hn w3 (ints_row (cap := n) (unhide S3).lens)).mono ?_
  rintro e w4 ⟨rfl, b4⟩
  have S4 := hide ((unhide S3).below b4)
  have U4 := hide ((unhide U3).trans (Upd.ofBelow (S := fun k => k = s ∨ k = b ∨ k = r) b4))
  clear b4 S3 U3 c1
  go_wp2
  go_ret
  exact ⟨rfl, ⟨tl, last, unhide S4⟩, unhide U4⟩
/-- What Read answers. -/
structure Gets (w : World) (rl rh r bl : Nat) (bc : Nat → Nat) (q n : Nat) (f : Nat → Nat) (e : Ending) (w' : World) : Prop where
  ex : ∃ b, e = .returned (.tuple #[.slice (some ⟨b, 0, none⟩) n n, .int .i64 0]) ∧ w.heap.size ≤ b ∧ Box w' b 3 (nr f n).toArray ∧ At w' rl rh r bc bl (some q) ∧ Upd (fun k => k = r) w w'
theorem so_new (w : World) (rl rh r bl n : Nat) (bc : Nat → Nat) (st : Option Nat) (at_ : At w rl rh r bc bl st) (hr : rl ≤ r ∧ r < rh ∧ rh ≤ w.heap.size) :
    So ((w.alloc (.cells (nr (fun _ => 0) n).toArray 3)).alloc (.cells #[.pointer (some ⟨r, 0, none⟩), .slice (some ⟨w.heap.size, 0, none⟩) n n, .int .i64 0, .int .i64 8] 64)) rl rh r bl bc st (w.heap.size + 1) w.heap.size n 0 8 (fun _ => 0) := by
  refine ⟨?_, (Box.made w 3 _).alloc _, at_.keep (S := fun _ => False) (((Upd.refl _ w).alloc _).alloc _) (fun _ _ _ h => h), by omega⟩
  have := Box.made (w.alloc (.cells (nr (fun _ => 0) n).toArray 3)) 64 #[.pointer (some ⟨r, 0, none⟩), .slice (some ⟨w.heap.size, 0, none⟩) n n, .int .i64 0, .int .i64 8]
  rw [show (w.alloc (.cells (nr (fun _ => 0) n).toArray 3)).heap.size = w.heap.size + 1 by simp] at this
  exact this
theorem hsz1 (w : World) (o : Obj) : (w.alloc o).heap.size = w.heap.size + 1 := by simp
set_option maxRecDepth 20000 in
set_option maxHeartbeats 1000000 in
theorem read16 (rl rh r bl n q : Nat) (f : Nat → Nat) (z : Int) (bc : Nat → Nat) (st : Option Nat) (w : World) (at_ : At w rl rh r bc bl st) (hr : rl ≤ r ∧ r < rh ∧ rh ≤ w.heap.size) (hn1 : 1 ≤ n) (hn : n ≤ 4096)
    (ask : ∀ w', So w' rl rh r bl bc st (w.heap.size + 1) w.heap.size n 0 8 (fun _ => 0) → Upd (fun _ => False) w w' → Calls Tryd.prog 30 #[.pointer (some ⟨w.heap.size + 1, 0, none⟩)] w' fun e w'' => e = .returned (.int .i64 z) ∧ (z = 0 → Rdd rl rh r bl bc q (w.heap.size + 1) w.heap.size n f w'') ∧ Upd (fun k => k = w.heap.size + 1 ∨ k = w.heap.size ∨ k = r) w' w'') :
    Calls Tryd.prog 16 #[.pointer (some ⟨r, 0, none⟩), .int .i64 n] w fun e w' => (z = 0 → Gets w rl rh r bl bc q n f e w') ∧ (z ≠ 0 → e = .returned (.tuple #[.slice none 0 0, .int .i64 z]) ∧ Upd (fun k => k = r) w w') := by
  have hmk := fun w => make_ints w n (by omega)
  have h1 : ¬ (n : Int) < 1 := by omega
  have h1' : (1 : Int) ≤ (n : Int) := by omega
  have h2 : (n : Int) ≤ 4096 := by omega
  have SO := hide (so_new w rl rh r bl n bc st at_ hr)
  have ASK := hide ask
  have hs1 := hsz1 w (.cells (nr (fun _ => 0) n).toArray 3)
  clear at_ ask
  go_enter Tryd.func16, Tryd.ntmps16
  go_wp2_with fail
  refine (unhide ASK _ (unhide SO) (((Upd.refl _ w).alloc _).alloc _)).mono ?_
  rintro e w1 ⟨rfl, rd1, u1⟩
  have U1 := hide (show Upd (fun k => k = r) w w1 from ⟨u1.os, u1.tape, u1.output, by have := u1.size; simp at this; omega, fun k hk hs => (u1.block k (by simp; omega) (by omega)).trans (((((Upd.refl (fun _ => False) w).alloc _).alloc _)).block k hk (fun h => h))⟩)
  have RD := hide rd1
  clear rd1 u1 SO ASK
  by_cases hz : z = 0
  · subst hz
    obtain ⟨tl, last, so⟩ := unhide RD rfl
    have c1 := so.box.cell 1
    have S2 := hide so
    clear so RD
    go_wp2
    go_ret2
    exact ⟨w.heap.size, rfl, Nat.le_refl _, (unhide S2).lens, (unhide S2).rd, unhide U1⟩
  · have hz' : (z != 0) = true := by simp; exact hz
    go_wp2
    go_ret2
    exact ⟨fun h => absurd h hz, fun _ => ⟨rfl, unhide U1⟩⟩
set_option maxHeartbeats 1000000 in
theorem read_hand (rl rh r bl s b i n : Nat) (z : Int) (q : Nat) (f : Nat → Nat) (bc : Nat → Nat) (hc : ∀ k, bc k ≤ 255) (hbl : bl ≤ 100000) (w : World) (h : So w rl rh r bl bc (some i) s b n 0 8 (fun _ => 0)) (n1 : nb (num bc 0 bl) i 1 = 1) (hi : i + 1 ≤ 8 * bl)
    (ask : ∀ w', So w' rl rh r bl bc (some (i + 1)) s b n 0 8 (fun _ => 0) → Calls Tryd.prog 41 #[.pointer (some ⟨s, 0, none⟩)] w' fun e w'' => e = .returned (.int .i64 z) ∧ (z = 0 → Rdd rl rh r bl bc q s b n f w'') ∧ Upd (fun k => k = s ∨ k = b ∨ k = r) w' w'') :
    Calls Tryd.prog 30 #[.pointer (some ⟨s, 0, none⟩)] w fun e w' => e = .returned (.int .i64 z) ∧ (z = 0 → Rdd rl rh r bl bc q s b n f w') ∧ Upd (fun k => k = s ∨ k = b ∨ k = r) w w' := by
  have R0 := hide (number_at rl rh r bl s b n 0 8 1 i 1 bc (fun _ => 0) hc (by omega) w h (by omega) (by omega) n1)
  have ASK := hide ask
  clear h n1 ask
  go_enter Tryd.func30, Tryd.ntmps30
  go_wp2_with fail
  refine (unhide R0).mono ?_
  rintro e w1 ⟨rfl, so1, u1⟩
  have U1 := hide (u1.mono (T := fun k => k = s ∨ k = b ∨ k = r) (fun k _ hk => .inr (.inr hk)))
  have S1 := hide so1
  clear so1 u1 R0
  go_wp2_with fail
  refine (unhide ASK _ (unhide S1)).mono ?_
  rintro e w2 ⟨rfl, r2, u2⟩
  have U2 := hide ((unhide U1).trans u2)
  have R2 := hide r2
  clear r2 u2 ASK S1 U1
  go_wp2
  go_ret
  exact ⟨rfl, unhide R2, unhide U2⟩
theorem hand_ok {V i n s t q : Nat} {two : Bool} (h : Hand V i n s t q two) : s < n ∧ (two = true → t < n ∧ s ≠ t) := ⟨h.lt, fun e => (h.snd e).2⟩
/-- Read, of one symbol, or two, by hand: well told. -/
theorem get_hand (rl rh r bl n i s t q : Nat) (two : Bool) (bc : Nat → Nat) (hc : ∀ k, bc k ≤ 255) (hbl : bl ≤ 100000) (w : World) (at_ : At w rl rh r bc bl (some i)) (hr : rl ≤ r ∧ r < rh ∧ rh ≤ w.heap.size) (hn1 : 1 ≤ n) (hn : n ≤ 4096)
    (nm : Hand (num bc 0 bl) i n s t q two) (hq : q ≤ 8 * bl) :
    Calls Tryd.prog 16 #[.pointer (some ⟨r, 0, none⟩), .int .i64 n] w fun e w' => Gets w rl rh r bl bc q n (by_hand s t two) e w' := by
  obtain ⟨n1, n2, n3, n4, n5, n6⟩ := nm
  refine (read16 rl rh r bl n q (by_hand s t two) 0 bc (some i) w at_ hr hn1 hn (fun w' so _ => read_hand rl rh r bl _ _ i n 0 q _ bc hc hbl w' so n1 (by rw [n6] at hq; omega) (fun w2 so2 => ?_))).mono (fun e w' h => h.1 rfl)
  cases two with
  | false =>
    simp only [Bool.false_eq_true, if_false, Nat.add_zero] at n2 n6
    subst n6
    refine (simple_one rl rh r bl _ _ n (i + 1) s _ bc hc hbl w2 so2 n2 rfl n3 (by omega)).mono (fun e w3 h3 => ?_)
    obtain ⟨u3, ok, _⟩ := h3
    obtain ⟨rfl, so3⟩ := ok n5
    refine ⟨rfl, fun _ => ⟨0, 8, ?_⟩, u3⟩
    rw [show i + 1 + 3 + 7 * nb (num bc 0 bl) (i + 1 + 1) 1 = i + 4 + 7 * nb (num bc 0 bl) (i + 2) 1 by rw [show i + 1 + 1 = i + 2 by omega]] at so3
    refine so3.congr (fun k _ => ?_)
    rw [bh_f, bh_f]
  | true =>
    simp only [if_true] at n2 n6
    obtain ⟨m1, m2, m3⟩ := n4 rfl
    subst n6
    refine (simple_two rl rh r bl _ _ n (i + 1) s _ t bc hc hbl w2 so2 n2 rfl n3 (by rw [show i + 1 + 3 + 7 * nb (num bc 0 bl) (i + 1 + 1) 1 = i + 4 + 7 * nb (num bc 0 bl) (i + 2) 1 by rw [show i + 1 + 1 = i + 2 by omega]]; exact m1) (by rw [show i + 1 + 1 = i + 2 by omega]; omega)).mono (fun e w3 h3 => ?_)
    obtain ⟨u3, ok, _⟩ := h3
    obtain ⟨rfl, so3⟩ := ok ⟨n5, m2, m3⟩
    refine ⟨rfl, fun _ => ⟨0, 8, ?_⟩, u3⟩
    rw [show i + 1 + 3 + 7 * nb (num bc 0 bl) (i + 1 + 1) 1 + 8 = i + 4 + 7 * nb (num bc 0 bl) (i + 2) 1 + 8 by rw [show i + 1 + 1 = i + 2 by omega]] at so3
    exact so3
/-- Read, of lengths told by steps. -/
theorem get_norm (rl rh r bl i n K most p q : Nat) (l : List (Nat × Nat)) (bc : Nat → Nat) (hc : ∀ k, bc k ≤ 255) (hbl : bl ≤ 100000) (w : World) (at_ : At w rl rh r bc bl (some i)) (hr : rl ≤ r ∧ r < rh ∧ rh ≤ w.heap.size) (hrl : 0 < rl) (od : Ordr w) (hn1 : 1 ≤ n) (hn : n ≤ 4096)
    (nm : Norm (num bc 0 bl) i n K most p l q) (hq : q ≤ 8 * bl) (hch : chk (fun j => (got (told l 8) j : Int)) n = 0) :
    Calls Tryd.prog 16 #[.pointer (some ⟨r, 0, none⟩), .int .i64 n] w fun e w' => Gets w rl rh r bl bc q n (got (told l 8)) e w' := by
  refine (read16 rl rh r bl n q (got (told l 8)) 0 bc (some i) w at_ hr hn1 hn (fun w' so u => ?_)).mono (fun e w' h => h.1 rfl)
  refine (read_norm rl rh r bl _ _ i n K most p q l bc hc hbl (by omega) w' so (od.keep u (fun h => h)) hrl nm hq).mono (fun e w2 h2 => ?_)
  obtain ⟨rfl, r2, u2⟩ := h2
  rw [hch]
  exact ⟨rfl, fun _ => r2, u2⟩
end Go.Proofs.YtaidboopcoaeeaaDoor.Rsh
