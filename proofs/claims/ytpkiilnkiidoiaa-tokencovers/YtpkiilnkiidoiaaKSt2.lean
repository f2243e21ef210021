/- Contracts: told.step. Conditions: at most nine hundred thousand pixels. -/
import Derived.Test.YtpkiilnkiidoiaaKStp
namespace Go.Proofs.Ytpkiilnkiidoiaa.KSt2
set_option linter.unusedVariables false
open Go.ChangeShapes Go.WideShapes Go.ChangeAt Go.RowKit Go.Sort Go.Proofs.Ytpkiilnkiidoiaa.Core Go.Proofs.Ytpkiilnkiidoiaa.CNum Go.Proofs.Ytpkiilnkiidoiaa.KNum Go.Proofs.Ytpkiilnkiidoiaa.KMem Go.Proofs.Ytpkiilnkiidoiaa.KCch Go.Proofs.Ytpkiilnkiidoiaa.KAdd Go.Proofs.Ytpkiilnkiidoiaa.KStp

/-- A step is told, or it is none. -/
def TdS (B base : Nat) (w : World) (g b : Nat) (cp : Value) (r : Option (List Nat)) (e : Ending) (w' : World) : Prop :=
  match r with
  | some l => e = .returned (.bool true) ∧ TdN B base w g b cp l w'
  | none => e = .returned (.bool false) ∧ Below B w w'
theorem bel_fit {B : Nat} {w w1 w' : World} (hB : B ≤ w.heap.size) (h : Below w.heap.size w w1) (k : Below B w1 w') : Below B w w' := (h.mono hB).trans k
set_option maxHeartbeats 1000000 in
theorem step19_lit {B base g b m : Nat} {w : World} {cp v : Value} {l : List Nat} {t : Tk} (h : Td B base w g b cp v l (cf b l)) (hm : m ≤ 900000) (hl : l.length ≤ m) (hs : isLit m l t = true) :
    Calls Try.prog 19 #[.pointer (some ⟨g, 0, none⟩), .agg #[.int .i64 t.k, .int .i64 t.n, .int .i64 t.d, .int .i64 t.i, .int .u32 (t.a : Int)], .int .i64 ((m - l.length : Nat) : Int)] w fun e w' => TdS B base w g b cp (some (l ++ [t.a])) e w' := by
  obtain ⟨h1, h2⟩ := of_decide_eq_true hs
  obtain ⟨k, n, d, i, a⟩ := t
  simp only at h1
  subst h1
  have hB : B ≤ w.heap.size := by have := h.g0; have := h.g1; have := h.hb; omega
  have A := hide (fun (wz : World) (u : Below w.heap.size w wz) => add29 (h.keep u) (by omega) a)
  have HB := hide hB
  obtain ⟨r, hr⟩ : ∃ r, m - l.length = r := ⟨_, rfl⟩
  rw [hr]
  have hr1 : (1 : Int) ≤ (r : Int) := by omega
  clear h hs h2 hr hB
  go_enter Try.func19, Try.ntmps19
  go_wp2_with fail
  refine (unhide A _ (bel_a1 _ _)).mono ?_
  rintro e w2 ⟨rfl, TN⟩
  have TT := hide TN
  clear TN
  go_wp2
  go_ret
  exact ⟨rfl, (unhide TT).1, bel_fit (unhide HB) (bel_a1 _ _) (unhide TT).2⟩
set_option maxHeartbeats 1000000 in
theorem step19_cpy {B base g b m : Nat} {w : World} {cp v : Value} {l : List Nat} {t : Tk} (h : Td B base w g b cp v l (cf b l)) (hm : m ≤ 900000) (hl : l.length ≤ m) (hs : isCpy m l t = true) :
    Calls Try.prog 19 #[.pointer (some ⟨g, 0, none⟩), .agg #[.int .i64 t.k, .int .i64 t.n, .int .i64 t.d, .int .i64 t.i, .int .u32 (t.a : Int)], .int .i64 ((m - l.length : Nat) : Int)] w fun e w' => TdS B base w g b cp (some (cpy l t.d.toNat t.n.toNat)) e w' := by
  obtain ⟨h1, h2, h3, h4, h5, h6⟩ := of_decide_eq_true hs
  obtain ⟨k, n, d, i, a⟩ := t
  simp only at h1 h2 h3 h4 h5 h6
  subst h1
  obtain ⟨n, rfl⟩ := Int.eq_ofNat_of_zero_le (a := n) (by omega)
  obtain ⟨d, rfl⟩ := Int.eq_ofNat_of_zero_le (a := d) (by omega)
  have hB : B ≤ w.heap.size := by have := h.g0; have := h.g1; have := h.hb; omega
  have A := hide (fun (wz : World) (u : Below w.heap.size w wz) => copy30 (h.keep u) n d (by omega) (by omega) (by omega) (by omega) (by omega))
  have HB := hide hB
  obtain ⟨r, hr⟩ : ∃ r, m - l.length = r := ⟨_, rfl⟩
  rw [hr]
  have hr1 : (1 : Int) ≤ (r : Int) := by omega
  have hr2 : (n : Int) ≤ (r : Int) := by omega
  clear h hs h2 hr hB
  go_enter Try.func19, Try.ntmps19
  go_wp2_with fail
  refine (unhide A _ (bel_a1 _ _)).mono ?_
  rintro e w2 ⟨rfl, TN⟩
  have TT := hide TN
  clear TN
  go_wp2
  go_ret
  exact ⟨rfl, (unhide TT).1, bel_fit (unhide HB) (bel_a1 _ _) (unhide TT).2⟩
set_option maxHeartbeats 1000000 in
theorem step19_kno {B base g b m : Nat} {w : World} {cp v : Value} {l : List Nat} {t : Tk} (h : Td B base w g b cp v l (cf b l)) (hm : m ≤ 900000) (hl : l.length ≤ m) (hs : isKno b m l t = true) :
    Calls Try.prog 19 #[.pointer (some ⟨g, 0, none⟩), .agg #[.int .i64 t.k, .int .i64 t.n, .int .i64 t.d, .int .i64 t.i, .int .u32 (t.a : Int)], .int .i64 ((m - l.length : Nat) : Int)] w fun e w' => TdS B base w g b cp (some (l ++ [cf b l t.i.toNat])) e w' := by
  obtain ⟨h1, h2, h3, h4⟩ := of_decide_eq_true hs
  obtain ⟨k, n, d, i, a⟩ := t
  simp only at h1 h2 h3
  subst h1
  have hB : B ≤ w.heap.size := by have := h.g0; have := h.g1; have := h.hb; omega
  have A := hide (fun (wz : World) (u : Below w.heap.size w wz) => add29 (h.keep u) (by omega) (cf b l i.toNat))
  have G := hide (fun (wz : World) (u : Below w.heap.size w wz) => cget31_yes (h.keep u).ca i h2 h3)
  have c1 : w.cell? ⟨g, 1, none⟩ = some cp := (h.box.cell 1).trans rfl
  have gl := h.box.lt
  have HB := hide hB
  obtain ⟨r, hr⟩ : ∃ r, m - l.length = r := ⟨_, rfl⟩
  rw [hr]
  have hr1 : (1 : Int) ≤ (r : Int) := by omega
  generalize cf b l i.toNat = x at *
  clear h hs h2 hr hB h3
  go_enter Try.func19, Try.ntmps19
  go_wp2
  go_quiet ((go_at_call 31; with_reducible exact Calls.quiet_of_same (unhide G _ (bel_drN (bel_a1 _ _) _))))
  go_wp2_with fail
  refine (unhide A _ (bel_drN (bel_a1 _ _) _)).mono ?_
  rintro e w2 ⟨rfl, TN⟩
  have TT := hide TN
  clear TN
  go_wp2
  go_ret
  exact ⟨rfl, (unhide TT).1, bel_fit (unhide HB) (bel_drN (bel_a1 _ _) _) (unhide TT).2⟩
set_option maxHeartbeats 2000000 in
theorem step19_no {B base g b m : Nat} {w : World} {cp v : Value} {l : List Nat} {t : Tk} (h : Td B base w g b cp v l (cf b l)) (hm : m ≤ 900000) (hl : l.length ≤ m) (hs1 : isLit m l t = false) (hs2 : isCpy m l t = false) (hs3 : isKno b m l t = false) :
    Calls Try.prog 19 #[.pointer (some ⟨g, 0, none⟩), .agg #[.int .i64 t.k, .int .i64 t.n, .int .i64 t.d, .int .i64 t.i, .int .u32 (t.a : Int)], .int .i64 ((m - l.length : Nat) : Int)] w fun e w' => TdS B base w g b cp none e w' := by
  have h1 := of_decide_eq_false hs1
  have h2 := of_decide_eq_false hs2
  have h3 := of_decide_eq_false hs3
  obtain ⟨k, n, d, i, a⟩ := t
  simp only at h1 h2 h3
  have hB : B ≤ w.heap.size := by have := h.g0; have := h.g1; have := h.hb; omega
  obtain ⟨r, hr⟩ : ∃ r, m - l.length = r := ⟨_, rfl⟩
  rw [hr]
  have HB := hide hB
  have c1 : w.cell? ⟨g, 1, none⟩ = some cp := (h.box.cell 1).trans rfl
  have gl := h.box.lt
  clear hs1 hs2 hs3
  have cs : (r : Int) < 1 ∨ ((1 : Int) ≤ r ∧ k = 2 ∧ (r : Int) < n) ∨ ((1 : Int) ≤ r ∧ k = 2 ∧ n ≤ (r : Int) ∧ (n < 1 ∨ 4096 < n ∨ d < 1 ∨ (l.length : Int) < d)) ∨ ((1 : Int) ≤ r ∧ k = 3 ∧ (i < 0 ∨ (pl b : Int) ≤ i)) ∨ ((1 : Int) ≤ r ∧ k ≠ 1 ∧ k ≠ 2 ∧ k ≠ 3) := by omega
  rcases cs with g1 | ⟨g1, rfl, g2⟩ | ⟨g1, rfl, g2, g3⟩ | ⟨g1, rfl, g2⟩ | ⟨g1, g2, g3, g4⟩
  · clear h h1 h2 h3 hB
    go_enter Try.func19, Try.ntmps19
    go_wp2
    go_ret
    exact ⟨rfl, (bel_a1 _ _).mono (unhide HB)⟩
  · clear h h1 h2 h3 hB
    go_enter Try.func19, Try.ntmps19
    go_wp2
    go_ret
    exact ⟨rfl, (bel_a1 _ _).mono (unhide HB)⟩
  · have A := hide (fun (wz : World) (u : Below w.heap.size w wz) => copy30_no (h.keep u) n d g3)
    clear h h1 h2 h3 hB g3
    go_enter Try.func19, Try.ntmps19
    go_wp2_with fail
    refine (unhide A _ (bel_a1 _ _)).mono ?_
    rintro e w2 ⟨rfl, rfl⟩
    go_wp2
    go_ret
    exact ⟨rfl, (bel_a1 _ _).mono (unhide HB)⟩
  · have G := hide (fun (wz : World) (u : Below w.heap.size w wz) => cget31_no (h.keep u).ca i g2)
    clear h h1 h2 h3 hB g2
    go_enter Try.func19, Try.ntmps19
    go_wp2
    go_quiet ((go_at_call 31; with_reducible exact Calls.quiet_of_same (unhide G _ (bel_drN (bel_a1 _ _) _))))
    go_wp2
    go_ret
    exact ⟨rfl, (bel_drN (bel_a1 _ _) _).mono (unhide HB)⟩
  · have t1 : (k == 1) = false := beq_eq_false_iff_ne.2 g2
    have t2 : (k == 2) = false := beq_eq_false_iff_ne.2 g3
    have t3 : (k == 3) = false := beq_eq_false_iff_ne.2 g4
    clear h h1 h2 h3 hB
    go_enter Try.func19, Try.ntmps19
    go_wp2
    go_ret
    exact ⟨rfl, (bel_a1 _ _).mono (unhide HB)⟩
theorem step19 {B base g b m : Nat} {w : World} {cp v : Value} {l : List Nat} (t : Tk) (h : Td B base w g b cp v l (cf b l)) (hm : m ≤ 900000) (hl : l.length ≤ m) :
    Calls Try.prog 19 #[.pointer (some ⟨g, 0, none⟩), .agg #[.int .i64 t.k, .int .i64 t.n, .int .i64 t.d, .int .i64 t.i, .int .u32 (t.a : Int)], .int .i64 ((m - l.length : Nat) : Int)] w fun e w' => TdS B base w g b cp (stepP b m l t) e w' := by
  by_cases h1 : isLit m l t = true
  · rw [step_lit h1]; exact step19_lit h hm hl h1
  · by_cases h2 : isCpy m l t = true
    · rw [step_cpy h2]; exact step19_cpy h hm hl h2
    · by_cases h3 : isKno b m l t = true
      · rw [step_kno h3]; exact step19_kno h hm hl h3
      · rw [step_no (by simpa using h1) (by simpa using h2) (by simpa using h3)]
        exact step19_no h hm hl (by simpa using h1) (by simpa using h2) (by simpa using h3)
end Go.Proofs.Ytpkiilnkiidoiaa.KSt2
