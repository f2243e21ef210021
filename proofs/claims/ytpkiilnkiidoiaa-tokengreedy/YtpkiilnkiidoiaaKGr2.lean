/- Contracts: places.enter. Conditions: at most a hundred thousand pixels; the place is the next one. -/
import Derived.Test.YtpkiilnkiidoiaaKGr1
namespace Go.Proofs.Ytpkiilnkiidoiaa.KGr2
set_option linter.unusedVariables false
open Go.ChangeShapes Go.WideShapes Go.ChangeAt Go.RowKit Go.Maps Go.Proofs.Ytpkiilnkiidoiaa.Core Go.Proofs.Ytpkiilnkiidoiaa.CNum Go.Proofs.Ytpkiilnkiidoiaa.KNum Go.Proofs.Ytpkiilnkiidoiaa.KMem Go.Proofs.Ytpkiilnkiidoiaa.KFit Go.Proofs.Ytpkiilnkiidoiaa.KGr0 Go.Proofs.Ytpkiilnkiidoiaa.KGr1

theorem box_ne_map {w : World} {g mb cnt : Nat} {T : TypeId} {vs : Array Value} {D : DataW Unit} (bx : Box w g T vs) (hown : w.ownsMap Try.prog 83 (plainElem Try.prog 3) mb cnt D) : g ≠ mb := by
  intro e
  obtain ⟨es, clock, h, _⟩ := hown
  subst e
  unfold Box at bx
  rw [bx] at h
  cases h
theorem bel_map {B mb : Nat} {w0 w w' : World} (h : Below B w0 w) (gr : w.grownBy w' (some mb)) (hm : B ≤ mb) (hB : B ≤ w.heap.size) : Below B w0 w' :=
  h.grown gr hB (fun k e => by cases e; exact hm)
set_option maxHeartbeats 1000000 in
theorem enter27_last {B g mb ab n c at1 : Nat} {a : Option Addr} {w : World} (h : Gr B w g mb ab n at1 a c) (k : Nat) (hk : k + 1 = n) (hn : n ≤ 1000000) :
    Calls Try.prog 27 #[.pointer (some ⟨g, 0, none⟩), .int .i64 k] w fun e w' => e = .returned (.tuple #[]) ∧ w' = w := by
  have c0 : w.cell? ⟨g, 0, none⟩ = some (.slice a n c) := (h.box.cell 0).trans rfl
  have i1 : (((k : Int) + 1) == (n : Int)) = true := by rw [beq_iff_eq]; omega
  have i2 : (k : Int) + 1 ≤ 1000000 := by omega
  clear h hk
  go_enter Try.func27, Try.ntmps27
  go_wp2
  exact bodyPost_ret (results_none rfl _ _ _) rfl ⟨rfl, rfl⟩
/-- Only the places' own blocks turn. -/
structure Two (ab mb : Nat) (w w' : World) : Prop where
  size : w.heap.size ≤ w'.heap.size
  blk : ∀ i, i < w.heap.size → i ≠ ab → i ≠ mb → w'.heap[i]? = w.heap[i]?
theorem Two.trans {ab mb : Nat} {a b c : World} (h : Two ab mb a b) (k : Two ab mb b c) : Two ab mb a c :=
  ⟨Nat.le_trans h.size k.size, fun i h1 h2 h3 => (k.blk i (Nat.lt_of_lt_of_le h1 h.size) h2 h3).trans (h.blk i h1 h2 h3)⟩
theorem Two.below {ab mb : Nat} {w w' : World} (u : Below w.heap.size w w') : Two ab mb w w' := ⟨u.size, fun i h1 _ _ => u.block i h1⟩
theorem Two.refl (ab mb : Nat) (w : World) : Two ab mb w w := ⟨Nat.le_refl _, fun _ _ _ _ => rfl⟩
/-- Places in memory, the map one place behind. -/
structure Mid (B : Nat) (w : World) (g mb ab n k : Nat) (a : Option Addr) (c : Nat) : Prop where
  box : Box w g 65 #[.slice a n c, .map (some mb), .slice (some ⟨ab, 0, none⟩) n n]
  map : ∃ cnt D, cnt ≤ k ∧ w.ownsMap Try.prog 83 (plainElem Try.prog 3) mb cnt D ∧ Lo D k
  row : ∃ F, Box w ab 3 (irow F n) ∧ ∀ i, i < k + 1 → -1 ≤ F i ∧ F i < i
  ne : g ≠ ab
  ne2 : mb ≠ ab
  g0 : B ≤ g
  a0 : B ≤ ab
  m0 : B ≤ mb
theorem Gr.mid {B g mb ab n k c : Nat} {a : Option Addr} {w w1 : World} {F : Nat → Int} (h : Gr B w g mb ab n k a c) (f1 : Box w ab 3 (irow F n)) (f2 : ∀ i, i < k → -1 ≤ F i ∧ F i < i) (u : Below w.heap.size w w1) {z : Int} (z0 : -1 ≤ z) (z1 : z < k) :
    Mid B (w1.setCell ⟨ab, k, none⟩ (.int .i64 z)) g mb ab n k a c ∧ Below B w (w1.setCell ⟨ab, k, none⟩ (.int .i64 z)) ∧ Two ab mb w (w1.setCell ⟨ab, k, none⟩ (.int .i64 z)) := by
  have h1 := h.keep u
  obtain ⟨cnt, D, m1, m2, m3⟩ := h1.map
  have r := (f1.below u f1.lt).set k (.int .i64 z)
  rw [irow_set] at r
  refine ⟨⟨h1.box.other (p := ⟨ab, k, none⟩) h.ne _, ⟨cnt, D, m1, m2.setCell (a := ⟨ab, k, none⟩) h.ne2 _, m3⟩, ⟨_, r, fun i hi => ?_⟩, h.ne, h.ne2, h.g0, h.a0, h.m0⟩, (u.mono h.lt).setCell (p := ⟨ab, k, none⟩) h.a0 _, ⟨by simp [World.setCell]; exact u.size, fun i h1 h2 _ => (Below.heap_setCell _ _ _ _ (by show i ≠ ab; exact h2)).trans (u.block i h1)⟩⟩
  unfold iupd
  by_cases e : i = k
  · rw [if_pos e]; subst e; exact ⟨z0, z1⟩
  · rw [if_neg e]; exact f2 i (by omega)
theorem Mid.fin {B g mb ab n k c cnt : Nat} {a : Option Addr} {w w4 w5 : World} {D D' : DataW Unit} (h : Mid B w g mb ab n k a c) (u : Below w.heap.size w w4) (m4 : w4.ownsMap Try.prog 83 (plainElem Try.prog 3) mb cnt D) (m5 : w5.ownsMap Try.prog 83 (plainElem Try.prog 3) mb (cnt + 1) D') (hc : cnt ≤ k) (lo : Lo D' (k + 1)) (gr : w4.grownBy w5 (some mb)) :
    Gr B w5 g mb ab n (k + 1) a c ∧ Below B w w5 ∧ Two ab mb w w5 := by
  obtain ⟨F, f1, f2⟩ := h.row
  have b4 := h.box.below u h.box.lt
  have r4 := f1.below u f1.lt
  have hne := box_ne_map b4 m4
  have hne2 := box_ne_map r4 m4
  have hB : B ≤ w.heap.size := by have := h.g0; have := h.box.lt; omega
  exact ⟨⟨(gr.block g b4.lt (fun e => hne (by cases e; rfl))).trans b4, ⟨cnt + 1, D', by omega, m5, lo⟩, ⟨F, (gr.block ab r4.lt (fun e => hne2 (by cases e; rfl))).trans r4, f2⟩, h.ne, h.ne2, h.g0, h.a0, h.m0⟩, bel_map (u.mono hB) gr h.m0 (Nat.le_trans hB u.size), ⟨Nat.le_trans u.size gr.size, fun i h1 _ h3 => (gr.block i (Nat.lt_of_lt_of_le h1 u.size) (fun e => h3 (by cases e; rfl))).trans (u.block i h1)⟩⟩
theorem Mid.keepMap {B g mb ab n k c : Nat} {a : Option Addr} {w w4 : World} (h : Mid B w g mb ab n k a c) (u : Below w.heap.size w w4) : ∃ cnt D, cnt ≤ k ∧ w4.ownsMap Try.prog 83 (plainElem Try.prog 3) mb cnt D ∧ Lo D k := by
  obtain ⟨cnt, D, m1, m2, m3⟩ := h.map
  exact ⟨cnt, D, m1, m2.kept (row := none) ⟨u.os, u.tape, u.output, u.size, fun k hk _ => u.block k hk⟩ (by simp), m3⟩
set_option maxHeartbeats 4000000 in
theorem enter27 {B g mb ab b off n c k : Nat} {w : World} {px : List Nat} (h : Gr B w g mb ab n k (some ⟨b, off, none⟩) c) (hp : Lst B w (some ⟨b, off, none⟩) px) (hpn : n = px.length) (hs : ∀ x ∈ px, x < 4294967296) (hk : k + 1 < n) (hn : n ≤ 100000) :
    Calls Try.prog 27 #[.pointer (some ⟨g, 0, none⟩), .int .i64 k] w fun e w' => e = .returned (.tuple #[]) ∧ Gr B w' g mb ab n (k + 1) (some ⟨b, off, none⟩) c ∧ Below B w w' ∧ Two ab mb w w' := by
  have c0 : w.cell? ⟨g, 0, none⟩ = some (.slice (some ⟨b, off, none⟩) n c) := (h.box.cell 0).trans rfl
  have c2 : w.cell? ⟨g, 2, none⟩ = some (.slice (some ⟨ab, 0, none⟩) n n) := (h.box.cell 2).trans rfl
  have gl := h.box.lt
  have i1 : (((k : Int) + 1) == (n : Int)) = false := by rw [beq_eq_false_iff_ne]; omega
  have i2 : (n : Int) ≤ 100000 := by omega
  have i3 : (k : Int) < (n : Int) := by omega
  have sm : ∀ i, px.getD i 0 < 4294967296 := fun i => by
    by_cases hi : i < px.length
    · rw [List.getD_eq_getElem?_getD, List.getElem?_eq_getElem hi]; exact hs _ (List.getElem_mem hi)
    · rw [List.getD_eq_getElem?_getD, List.getElem?_eq_none (by omega)]; simp
  obtain ⟨b1, o1, e1, hb1, q0⟩ := hp k _ (some_getD (by omega))
  cases e1
  obtain ⟨b2, o2, e2, hb2, q1⟩ := hp (k + 1) _ (some_getD (by omega))
  cases e2
  have hBw := h.lt
  have BF := hide (fun (wz : World) (u : Below w.heap.size w wz) => before36 (h.keep u) hk (by omega) ((u.cell (p := ⟨b, off + k, none⟩) (show b < w.heap.size by omega)).trans q0) ((u.cell (p := ⟨b, off + (k + 1), none⟩) (show b < w.heap.size by omega)).trans q1) (sm k) (sm (k + 1)) (by omega))
  obtain ⟨F, f1, f2⟩ := h.row
  have al := f1.lt
  have F1 := hide (fun (wz : World) (u : Below w.heap.size w wz) => And.intro ((f1.below u al).cell k |>.trans (irow_at F n k (by omega))) ((f1.below u al).free k))
  have HG := hide h
  have HP := hide (And.intro hp (And.intro q0 (And.intro q1 (And.intro hb1 hBw))))
  have HF := hide (And.intro f1 f2)
  have HK := hide (And.intro hk hn)
  have SMX := hide (sm k)
  have SMY := hide (sm (k + 1))
  generalize px.getD k 0 = x at *
  generalize px.getD (k + 1) 0 = y at *
  clear h hp hs q0 q1 f1 f2 hpn hk hn hb1 hb2 hBw sm
  go_enter Try.func27, Try.ntmps27
  go_wp2
  go_region_with (go_at_call 36; (with_reducible refine Calls.mono (unhide BF _ (bel_dr (Below.refl _ _))) ?_); (rintro e w1 ⟨⟨z, rfl, z0, z1⟩, B1⟩); have MM := hide (Gr.mid (unhide HG) (unhide HF).1 (unhide HF).2 (w1 := w1) ⟨B1.os, B1.tape, B1.output, B1.size, B1.block⟩ z0 z1); have d2 : w1.cell? ⟨g, 2, none⟩ = some (.slice (some ⟨ab, 0, none⟩) n n) := (B1.cell gl).trans c2; have dd := unhide F1 w1 ⟨B1.os, B1.tape, B1.output, B1.size, B1.block⟩; have d3 := dd.1; have d4 := dd.2; clear dd B1 z0 z1)
  all_goals
    obtain ⟨M3, B3, U3⟩ := unhide MM
    have U3H := hide U3
    have M3H := hide M3
    have B3H := hide B3
    clear MM M3 B3 U3 d2 d3 d4 c0 c2 F1 BF
    generalize w1.setCell ⟨ab, k, none⟩ (.int .i64 z) = w3 at *
    have g3 := (unhide M3H).box.lt
    have e1 : w3.cell? ⟨g, 1, none⟩ = some (.map (some mb)) := ((unhide M3H).box.cell 1).trans rfl
    have TW := hide (fun (wz : World) (u : Below w3.heap.size w3 wz) => two38 (m1 := undef) (m2 := undef) (x := x) (y := y) ((u.cell (p := ⟨g, 0, none⟩) g3).trans (((unhide M3H).box.cell 0).trans rfl)) (unhide HK).1 (by have := (unhide HK).2; omega)
      ((((unhide B3H).trans (u.mono (by have := (unhide M3H).g0; omega))).cell (p := ⟨b, off + k, none⟩) (unhide HP).2.2.2.1).trans (unhide HP).2.1) ((((unhide B3H).trans (u.mono (by have := (unhide M3H).g0; omega))).cell (p := ⟨b, off + (k + 1), none⟩) (unhide HP).2.2.2.1).trans (unhide HP).2.2.1))
    go_wp2
  all_goals go_region_with (go_at_call 38; (with_reducible refine Calls.mono (unhide TW _ (by first | exact bel_dr (Below.refl _ _) | exact bel_dr (bel_dr (Below.refl _ _)))) ?_); (rintro e w4 ⟨rfl, B4⟩); obtain ⟨cnt, D, m1, m2, m3⟩ := (unhide M3H).keepMap (w4 := w4) ⟨B4.os, B4.tape, B4.output, B4.size, B4.block⟩; obtain ⟨w5, D', hrun, m5, lo5, gr5⟩ := put83 m2 m3 (by have := (unhide HK); omega) (by have := (unhide HK); omega) x y (unhide SMX) (unhide SMY); have FN := hide ((unhide M3H).fin ⟨B4.os, B4.tape, B4.output, B4.size, B4.block⟩ m2 m5 m1 lo5 gr5); have d1 : w4.cell? ⟨g, 1, none⟩ = some (.map (some mb)) := (B4.cell g3).trans e1; clear B4 m1 m2 m3 m5 lo5 gr5)
  all_goals go_end0
  all_goals exact ⟨rfl, (unhide FN).1, (unhide B3H).trans (unhide FN).2.1, (unhide U3H).trans (unhide FN).2.2⟩
end Go.Proofs.Ytpkiilnkiidoiaa.KGr2
