/- Contracts: the document's Pixels, slices.Equal, token.fits, token.Fits, the document's Fits. Conditions: at most a million pixels. -/
import Derived.Test.YtpkiilnkiidoiaaKCch
namespace Go.Proofs.Ytpkiilnkiidoiaa.KFit
set_option linter.unusedVariables false
open Go.ChangeShapes Go.WideShapes Go.ChangeAt Go.RowKit Go.Sort Go.Proofs.Ytpkiilnkiidoiaa.Core Go.Proofs.Ytpkiilnkiidoiaa.CNum Go.Proofs.Ytpkiilnkiidoiaa.KNum Go.Proofs.Ytpkiilnkiidoiaa.KMem

theorem ne_true {x y : Nat} (h : x ≠ y) : ((x : Int) != (y : Int)) = true := by rw [bne_iff_ne]; omega
theorem ne_false {x y : Nat} (h : x = y) : ((x : Int) != (y : Int)) = false := by subst h; simp
set_option maxHeartbeats 1000000 in
theorem pixels11 {B : Nat} {w : World} {a a' : Option Addr} {l : List Nat} {n : Nat} (c c' : Nat) (h : Lst B w a l) (h' : Lst B w a' l) (hn : n = l.length) (hl : l.length ≤ 1000000) (hB : B ≤ w.heap.size) :
    Calls Try.prog 11 #[.slice a n c, .slice a' n c'] w fun e w' => e = .returned (.bool true) ∧ Below w.heap.size w w' := by
  have L := hide h
  have L' := hide h'
  have HL := hide hn
  have hl' : n ≤ 1000000 := by omega
  clear h h' hl hn
  go_enter Try.func11, Try.ntmps11
  go_wp2
  go_loopw [5] (fun v wr => ∃ k : Nat, v = .int .i64 k ∧ k ≤ n ∧ Below w.heap.size w wr) (fun v _ => n - (intOf v).toNat)
  case atStart => exact ⟨0, rfl, by omega, Below.refl _ _⟩
  case round =>
    obtain ⟨k, rfl, hk, bel⟩ := hrel
    have BB := hide bel
    clear bel
    by_cases hlt : k < n
    · have hlt' : (k : Int) < (n : Int) := by omega
      obtain ⟨b, off, rfl, hb, c0⟩ := (unhide L) k _ (some_getD (by have := unhide HL; omega))
      obtain ⟨b', off', rfl, hb', c0'⟩ := (unhide L') k _ (some_getD (by have := unhide HL; omega))
      have c1 := ((unhide BB).cell (p := ⟨b, off + k, none⟩) (show b < w.heap.size by omega)).trans c0
      have c2 := ((unhide BB).cell (p := ⟨b', off' + k, none⟩) (show b' < w.heap.size by omega)).trans c0'
      clear c0 c0'
      generalize l.getD k 0 = x at *
      go_wp2
      go_quiet (fail)
      go_wp2
      go_roundw
      case rel => exact ⟨k + 1, by go_num, by omega, bel_drN (unhide BB) _⟩
      case measure => simp [intOf]; omega
    · have hlt' : ¬ (k : Int) < (n : Int) := by omega
      go_wp2
      go_ret
      exact ⟨rfl, unhide BB⟩
set_option maxHeartbeats 1000000 in
theorem equal35 {B : Nat} {w : World} {a a' : Option Addr} {l l' : List Nat} {n : Nat} (c c' : Nat) (h : Lst B w a l) (h' : Lst B w a' l') (hn : n = l.length) (hn' : n = l'.length) (hl : n ≤ 1000000) (hB : B ≤ w.heap.size) :
    Calls Try.prog 35 #[.slice a n c, .slice a' n c'] w fun e w' => e = .returned (.bool (decide (l = l'))) ∧ ∃ q, w' = w.drewN q := by
  have L := hide h
  have L' := hide h'
  have HL := hide hn
  have HL' := hide hn'
  clear h h' hn hn'
  go_enter Try.func35, Try.ntmps35
  go_wp2
  go_loopw [13] (fun v wr => ∃ k : Nat, v = .int .i64 k ∧ k ≤ n ∧ (∃ q, wr = w.drewN q) ∧ ∀ j, j < k → l.getD j 0 = l'.getD j 0) (fun v _ => n - (intOf v).toNat)
  case atStart => exact ⟨0, rfl, by omega, ⟨0, rfl⟩, fun j hj => by omega⟩
  case round =>
    obtain ⟨k, rfl, hk, ⟨q, hq⟩, eqs⟩ := hrel
    have EE := hide eqs
    have HQ := hide hq
    clear eqs hq
    by_cases hlt : k < n
    · have hlt' : (k : Int) < (n : Int) := by omega
      have s1 := some_getD (l := l) (i := k) (by have := unhide HL; omega)
      have s2 := some_getD (l := l') (i := k) (by have := unhide HL'; omega)
      obtain ⟨b, off, rfl, hb, c0⟩ := (unhide L) k _ s1
      obtain ⟨b', off', rfl, hb', c0'⟩ := (unhide L') k _ s2
      have c1 : wr.cell? ⟨b, off + k, none⟩ = some (.int .u32 (l.getD k 0 : Nat)) := by rw [unhide HQ]; exact c0
      have c2 : wr.cell? ⟨b', off' + k, none⟩ = some (.int .u32 (l'.getD k 0 : Nat)) := by rw [unhide HQ]; exact c0'
      clear c0 c0'
      have S1 := hide s1
      have S2 := hide s2
      clear s1 s2
      generalize hx : l.getD k 0 = x at *
      generalize hy : l'.getD k 0 = y at *
      have HX := hide (And.intro hx hy)
      clear hx hy
      by_cases hxy : x = y
      · have hne := ne_false hxy
        have HE := hide hxy
        clear hxy
        go_wp2
        go_quiet (fail)
        go_wp2
        go_roundw
        case rel => exact ⟨k + 1, by go_num, by omega, ⟨q + _, by rw [unhide HQ, World.drewN_drewN]⟩, fun j hj => by
          by_cases e : j = k
          · rw [e, (unhide HX).1, (unhide HX).2, unhide HE]
          · exact unhide EE j (by omega)⟩
        case measure => simp [intOf]; omega
      · have hne := ne_true hxy
        have HE := hide hxy
        clear hxy
        go_wp2
        go_quiet (fail)
        go_wp2
        go_ret
        refine ⟨ret_bool (decide_eq_false fun e => ?_).symm, ⟨q + _, by rw [unhide HQ, World.drewN_drewN]⟩⟩
        rw [e] at S1
        have := (unhide S1).symm.trans (unhide S2)
        exact unhide HE (Option.some.inj this)
    · have hlt' : ¬ (k : Int) < (n : Int) := by omega
      go_wp2
      go_ret
      refine ⟨ret_bool (decide_eq_true ?_).symm, ⟨q, unhide HQ⟩⟩
      apply List.ext_getElem?
      intro j
      have h1 := unhide HL
      have h2 := unhide HL'
      by_cases hj : j < n
      · rw [some_getD (by omega), some_getD (by omega), unhide EE j (by omega)]
      · rw [List.getElem?_eq_none (by omega), List.getElem?_eq_none (by omega)]
end Go.Proofs.Ytpkiilnkiidoiaa.KFit
