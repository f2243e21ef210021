/- Contracts: token.Expand. Conditions: at most nine hundred thousand pixels and a million steps. -/
import Derived.Test.YtpkiilnkiidoiaaKSt2
namespace Go.Proofs.Ytpkiilnkiidoiaa.KExp
set_option linter.unusedVariables false
open Go.ChangeShapes Go.WideShapes Go.ChangeAt Go.RowKit Go.Sort Go.Proofs.Ytpkiilnkiidoiaa.Core Go.Proofs.Ytpkiilnkiidoiaa.CNum Go.Proofs.Ytpkiilnkiidoiaa.KNum Go.Proofs.Ytpkiilnkiidoiaa.KMem Go.Proofs.Ytpkiilnkiidoiaa.KCch Go.Proofs.Ytpkiilnkiidoiaa.KAdd Go.Proofs.Ytpkiilnkiidoiaa.KStp Go.Proofs.Ytpkiilnkiidoiaa.KSt2

/-- The pixels, or that there are none. -/
def XAns (w : World) (r : Option (List Nat)) (e : Ending) (w' : World) : Prop :=
  match r with
  | some l => (∃ a c, e = .returned (.tuple #[.slice a l.length c, .int .i64 0]) ∧ l.length ≤ c ∧ Lst w'.heap.size w' a l) ∧ Below w.heap.size w w'
  | none => e = .returned (.tuple #[.slice none 0 0, .int .i64 3]) ∧ Below w.heap.size w w'
theorem drop_step {α : Type} {ss : List α} {k : Nat} {s : α} (h : ss[k]? = some s) : ss.drop k = s :: ss.drop (k + 1) := by
  obtain ⟨hk, rfl⟩ := List.getElem?_eq_some_iff.1 h
  exact List.drop_eq_getElem_cons hk
set_option maxHeartbeats 1000000 in
theorem expand9_bad (a : Option Addr) (k c : Nat) (n b : Int) (w : World) (hn : n ≤ 5000) (h : n < 0 ∨ b < 0 ∨ 11 < b) :
    Calls Try.prog 9 #[.slice a k c, .int .i64 n, .int .i64 b] w fun e w' => e = .returned (.tuple #[.slice none 0 0, .int .i64 1]) ∧ w' = w := by
  by_cases hn0 : n < 0
  · clear h
    go_enter Try.func9, Try.ntmps9
    go_wp2
    go_ret2
    exact ⟨rfl, rfl⟩
  · have h' : b < 0 ∨ 11 < b := by omega
    have h2 : 0 ≤ n := by omega
    have H := hide h'
    clear h h' hn0
    go_enter Try.func9, Try.ntmps9
    go_wp2_with fail
    refine (may17_no _ _ (unhide H)).mono ?_
    rintro e w' ⟨rfl, rfl⟩
    go_wp2
    go_ret2
    exact ⟨rfl, rfl⟩
theorem new18p (b : Nat) (w : World) (h : b ≤ 11) : Calls Try.prog 18 #[.int .i64 b] w fun e w' => ∃ p, NewC w b e (.pointer p) w' := by
  rcases Nat.eq_zero_or_pos b with h0 | h0
  · subst h0
    exact (new18_zero w).mono fun e w' ⟨h1, h2⟩ => by subst h2; exact ⟨none, h1, .inl ⟨rfl, rfl⟩, Below.refl _ _⟩
  · exact (new18_pos b w h0 h).mono fun e w' h => ⟨some _, h⟩
/-- A new painting. -/
theorem td_start {w w1 : World} {b : Nat} {e : Ending} {p : Option Addr} (N : NewC w b e (.pointer p) w1) : Td w.heap.size (w1.heap.size + 1) (w1.alloc (.cells #[.slice none 0 0, .pointer p] 50)) w1.heap.size b (.pointer p) (.slice none 0 0) [] (cf b []) :=
  ⟨Box.made _ _ _, World.ownsRow_nil _ _ _ _, N.ca.same (fun k h1 h2 => Below.heap_alloc _ _ _ h2), N.bel.size, by omega, by simp⟩
set_option maxHeartbeats 2000000 in
theorem expand9 {B : Nat} {w : World} {a : Option Addr} {k c : Nat} {ts : List Tk} (m b : Nat) (h : Tks B w a ts) (hk : k = ts.length) (hkl : k ≤ 1000000) (hm : m ≤ 900000) (hb : b ≤ 11) (hB : B ≤ w.heap.size) :
    Calls Try.prog 9 #[.slice a k c, .int .i64 m, .int .i64 b] w fun e w' => XAns w (allP b m ts) e w' := by
  have TS := hide h
  have HK := hide hk
  have HB := hide hB
  have HBB := hide hb
  have hm' : (m : Int) ≤ 900000 := by omega
  have t1 : decide ((m : Int) < 0) = false := decide_eq_false (by omega)
  have t2 : decide ((268435456 : Int) < (m : Int)) = false := decide_eq_false (by omega)
  have HM := hide hm
  clear h hk hB hb hm
  go_enter Try.func9, Try.ntmps9
  go_wp2_with fail
  refine (may17_yes _ _ (by omega) (by have := unhide HBB; omega)).mono ?_
  rintro e w' ⟨rfl, rfl⟩
  go_wp2_with fail
  refine (new18p b _ (unhide HBB)).mono ?_
  rintro e w1 ⟨p, N⟩
  have er := N.ret
  subst er
  have T0 := hide (td_start N)
  have B0 := hide (N.bel.alloc N.bel.size (.cells #[.slice none 0 0, .pointer p] 50))
  clear N
  go_wp2
  generalize hw2 : w1.alloc (.cells #[.slice none 0 0, .pointer p] 50) = w2 at *
  generalize w1.heap.size = g at *
  clear hw2
  go_loopw [27] (fun x wr => ∃ (j : Nat) (l : List Nat) (v : Value), x = .int .i64 j ∧ j ≤ k ∧ l.length ≤ m ∧ Td w'.heap.size (g + 1) wr g b (.pointer p) v l (cf b l) ∧ Below w'.heap.size w' wr ∧ expP b m l (ts.drop j) = expP b m [] ts) (fun x _ => k - (intOf x).toNat)
  case atStart => exact ⟨0, [], _, rfl, by omega, by simp, unhide T0, unhide B0, rfl⟩
  case round =>
    obtain ⟨j, l, v, rfl, hj, hl, td, bel, eq⟩ := hrel
    obtain ⟨av, cv, rfl, hcv⟩ := own_shape td.own
    have c0 : wr.cell? ⟨g, 0, none⟩ = some (.slice av l.length cv) := (td.box.cell 0).trans rfl
    have gl := td.box.lt
    have TD := hide td
    have BB := hide bel
    have EE := hide eq
    clear td bel eq T0 B0
    by_cases hlt : j < k
    · have hlt' : (j : Int) < (k : Int) := by omega
      obtain ⟨t, ht⟩ : ∃ t, ts[j]? = some t := ⟨_, List.getElem?_eq_getElem (by have := unhide HK; omega)⟩
      obtain ⟨bb, off, rfl, hbb, q0, q1, q2, q3, q4⟩ := (unhide TS) j t ht
      have B1 := (unhide BB).mono (unhide HB)
      have d0 := (B1.cell (p := ⟨bb, off + j * 5, none⟩) hbb).trans q0
      have d1 := (B1.cell (p := ⟨bb, off + j * 5 + 1, none⟩) hbb).trans q1
      have d2 := (B1.cell (p := ⟨bb, off + j * 5 + 2, none⟩) hbb).trans q2
      have d3 := (B1.cell (p := ⟨bb, off + j * 5 + 3, none⟩) hbb).trans q3
      have d4 := (B1.cell (p := ⟨bb, off + j * 5 + 4, none⟩) hbb).trans q4
      have hbw : bb < wr.heap.size := lt_of_cell d0
      have HS := hide (drop_step ht)
      clear q0 q1 q2 q3 q4 ht B1
      have A := hide (fun (wz : World) (u : Below wr.heap.size wr wz) => step19 (m := m) t ((unhide TD).keep u) (unhide HM) hl)
      obtain ⟨r, hr⟩ : ∃ r, m - l.length = r := ⟨_, rfl⟩
      have hr1 : IntKind.i64.wrap ((m : Int) - (l.length : Int)) = (r : Int) := by
        simp [IntKind.wrap, IntKind.bits, IntKind.signed]; omega
      rw [hr] at A
      clear hr
      rcases hst : stepP b m l t with _ | l'
      · rw [hst] at A
        have HST := hide hst
        clear hst
        go_wp2_with fail
        refine (unhide A _ (bel_a1 _ _)).mono ?_
        rintro e w3 ⟨rfl, B3⟩
        have B4 := hide B3
        clear B3
        go_wp2
        go_ret2
        have en : expP b m [] ts = none := by rw [← unhide EE, unhide HS, exp_none (unhide HST)]
        rw [all_none en]
        exact ⟨rfl, ((unhide BB).trans ((bel_a1 wr _).mono (unhide BB).size)).trans (unhide B4)⟩
      · rw [hst] at A
        have HST := hide hst
        clear hst
        go_wp2_with fail
        refine (unhide A _ (bel_a1 _ _)).mono ?_
        rintro e w3 ⟨rfl, ⟨v3, T3⟩, B3⟩
        have B4 := hide B3
        have T4 := hide T3
        clear B3 T3
        go_wp2
        go_roundw
        case rel => exact ⟨j + 1, l', v3, by go_num, by omega, step_len (unhide HST), unhide T4, ((unhide BB).trans ((bel_a1 wr _).mono (unhide BB).size)).trans (unhide B4), by rw [← unhide EE, unhide HS, exp_some (unhide HST)]⟩
        case measure => simp [intOf]; omega
    · have e : j = k := by omega
      have hlt' : ¬ (j : Int) < (k : Int) := by omega
      have EF := hide (show expP b m [] ts = some l by rw [← unhide EE, List.drop_eq_nil_of_le (by have := unhide HK; omega)]; rfl)
      by_cases hlm : l.length < m
      · have hlm' : (l.length : Int) < (m : Int) := by omega
        have HL := hide hlm
        clear hlm
        go_wp2
        go_ret2
        rw [all_less (unhide EF) (unhide HL)]
        exact ⟨rfl, unhide BB⟩
      · have hlm' : ¬ (l.length : Int) < (m : Int) := by omega
        have HL := hide hlm
        clear hlm
        go_wp2
        go_ret2
        rw [all_some (unhide EF) (unhide HL)]
        obtain ⟨a3, c3, e3, h3, h4⟩ := own_lst (unhide TD).own
        cases e3
        exact ⟨⟨_, _, rfl, h3, h4⟩, unhide BB⟩
end Go.Proofs.Ytpkiilnkiidoiaa.KExp
