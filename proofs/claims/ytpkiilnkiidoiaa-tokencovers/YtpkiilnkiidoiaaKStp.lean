/- Contracts: told.copy. Conditions: at most a million pixels. -/
import Derived.Test.YtpkiilnkiidoiaaKAdd
namespace Go.Proofs.Ytpkiilnkiidoiaa.KStp
set_option linter.unusedVariables false
open Go.ChangeShapes Go.WideShapes Go.ChangeAt Go.RowKit Go.Sort Go.Proofs.Ytpkiilnkiidoiaa.Core Go.Proofs.Ytpkiilnkiidoiaa.CNum Go.Proofs.Ytpkiilnkiidoiaa.KNum Go.Proofs.Ytpkiilnkiidoiaa.KMem Go.Proofs.Ytpkiilnkiidoiaa.KCch Go.Proofs.Ytpkiilnkiidoiaa.KAdd

set_option maxHeartbeats 1000000 in
theorem copy30_no {B base g b : Nat} {w : World} {cp v : Value} {l : List Nat} (h : Td B base w g b cp v l (cf b l)) (n d : Int) (hn : n < 1 ∨ 4096 < n ∨ d < 1 ∨ (l.length : Int) < d) :
    Calls Try.prog 30 #[.pointer (some ⟨g, 0, none⟩), .int .i64 n, .int .i64 d] w fun e w' => e = .returned (.bool false) ∧ w' = w := by
  have c0 : w.cell? ⟨g, 0, none⟩ = some v := (h.box.cell 0).trans rfl
  obtain ⟨av, cv, rfl, _⟩ := own_shape h.own
  clear h
  have h2 : n < 1 ∨ (1 ≤ n ∧ 4096 < n) ∨ (1 ≤ n ∧ n ≤ 4096 ∧ d < 1) ∨ (1 ≤ n ∧ n ≤ 4096 ∧ 1 ≤ d ∧ (l.length : Int) < d) := by omega
  clear hn
  rcases h2 with h | ⟨h1, h2⟩ | ⟨h1, h2, h3⟩ | ⟨h1, h2, h3, h4⟩
  all_goals go_enter Try.func30, Try.ntmps30
  all_goals go_wp2
  all_goals go_ret
  all_goals exact ⟨rfl, rfl⟩
theorem cpy_next (l : List Nat) (d k : Nat) (hd : 1 ≤ d) (hl : d ≤ l.length) : cpy l d (k + 1) = cpy l d k ++ [(cpy l d k).getD (l.length + k - d) 0] := by
  rw [cpy, cpy_len]
theorem Td.dr {B base g b : Nat} {w : World} {cp v : Value} {l : List Nat} {f : Nat → Nat} (h : Td B base w g b cp v l f) : Td B base w.drew g b cp v l f :=
  ⟨h.box, ⟨h.own.1, h.own.2⟩, h.ca.same (fun _ _ _ => rfl), h.g0, h.g1, h.hb⟩
theorem bel_un {B : Nat} {w w' : World} (h : Below B w.drew w') : Below B w w' := ⟨h.os, h.tape, h.output, h.size, h.block⟩
theorem wrap_sub {x y q : Nat} (h : x = q + y) (hq : q ≤ 1000000) : IntKind.i64.wrap ((x : Int) - (y : Int)) = (q : Int) := by
  simp [IntKind.wrap, IntKind.bits, IntKind.signed]; omega
set_option maxHeartbeats 1000000 in
theorem copy30 {B base g b : Nat} {w : World} {cp v : Value} {l : List Nat} (h : Td B base w g b cp v l (cf b l)) (n d : Nat) (h1 : 1 ≤ n) (h2 : n ≤ 4096) (h3 : 1 ≤ d) (h4 : d ≤ l.length) (hm : l.length + n ≤ 900000) :
    Calls Try.prog 30 #[.pointer (some ⟨g, 0, none⟩), .int .i64 n, .int .i64 d] w fun e w' => e = .returned (.bool true) ∧ TdN B base w g b cp (cpy l d n) w' := by
  have c0 : w.cell? ⟨g, 0, none⟩ = some v := (h.box.cell 0).trans rfl
  obtain ⟨av, cv, rfl, _⟩ := own_shape h.own
  have T0 := hide h
  have i1 : decide ((n : Int) < 1) = false := decide_eq_false (by omega)
  have i2 : decide ((4096 : Int) < (n : Int)) = false := decide_eq_false (by omega)
  have i3 : decide ((d : Int) < 1) = false := decide_eq_false (by omega)
  have i4 : decide ((l.length : Int) < (d : Int)) = false := decide_eq_false (by omega)
  have i5 : decide (l.length < d) = false := decide_eq_false (by omega)
  have CL := hide (cpy_len l d)
  have CN := hide (fun k => cpy_next l d k h3 h4)
  clear h
  go_enter Try.func30, Try.ntmps30
  go_wp2
  go_loopw [27] (fun x wr => ∃ k : Nat, x = .int .i64 k ∧ k ≤ n ∧ TdN B base w g b cp (cpy l d k) wr) (fun x _ => n - (intOf x).toNat)
  case atStart => exact ⟨0, rfl, by omega, ⟨_, unhide T0⟩, Below.refl _ _⟩
  case round =>
    obtain ⟨k, rfl, hk, ⟨vk, Tk⟩, Bk⟩ := hrel
    clear c0
    have B1 := hide Bk
    clear Bk
    by_cases hlt : k < n
    · have hlt' : (k : Int) < (n : Int) := by omega
      have hlk : (cpy l d k).length = l.length + k := unhide CL k
      obtain ⟨q, hq⟩ : ∃ q : Nat, l.length + k = q + d := ⟨l.length + k - d, by omega⟩
      obtain ⟨gk, ck, rfl, _, _, _, cells⟩ := own_cell Tk.own (by omega)
      have e0 : wr.cell? ⟨g, 0, none⟩ = some (.slice (some ⟨gk, 0, none⟩) (cpy l d k).length ck) := (Tk.box.cell 0).trans rfl
      have e1 : wr.cell? ⟨gk, q, none⟩ = some (.int .u32 ((cpy l d k).getD q 0 : Nat)) := cells _ _ (cl_at (some_getD (by omega)))
      have TT := hide Tk
      have HX := hide (show (cpy l d k).getD (l.length + k - d) 0 = (cpy l d k).getD q 0 by congr 1; omega)
      have HLK := hide hlk
      have AD := hide (fun (wz : World) (T : Td B base wz g b cp (.slice (some ⟨gk, 0, none⟩) (cpy l d k).length ck) (cpy l d k) (cf b (cpy l d k))) => add29 T (by omega) ((cpy l d k).getD q 0))
      rw [hlk] at e0
      generalize (cpy l d k).getD q 0 = x at *
      have j1 : IntKind.i64.wrap (((l.length + k : Nat) : Int) - (d : Int)) = (q : Int) := wrap_sub hq (by omega)
      have j2 : (q : Int) < ((l.length + k : Nat) : Int) := by omega
      generalize hL : l.length + k = L at *
      have HL := hide hL
      clear hL
      clear cells Tk hlk hq
      go_wp2
      go_region_with (go_at_call 29; with_reducible refine Calls.mono (unhide AD wr.drew (Td.dr (unhide TT))) ?_; rintro e w' ⟨rfl, TN⟩)
      all_goals go_wp2
      all_goals go_roundw
      all_goals first
        | (simp [intOf]; done)
        | (simp [intOf]; omega)
        | exact ⟨k + 1, by go_num, by omega, by rw [unhide CN k, unhide HL, unhide HX]; exact ⟨TN.1, (unhide B1).trans (bel_un TN.2)⟩⟩
    · have e : k = n := by omega
      subst e
      have hlt' : ¬ (k : Int) < (k : Int) := by omega
      go_wp2
      go_ret
      exact ⟨rfl, ⟨_, Tk⟩, unhide B1⟩
end Go.Proofs.Ytpkiilnkiidoiaa.KStp
