/- Contracts: the document's Step. Conditions: at most nine hundred thousand pixels. -/
import Derived.Test.YtpkiilnkiidoiaaKRst
namespace Go.Proofs.Ytpkiilnkiidoiaa.KRs2
set_option linter.unusedVariables false
open Go.ChangeShapes Go.WideShapes Go.ChangeAt Go.RowKit Go.Sort Go.Proofs.Ytpkiilnkiidoiaa.Core Go.Proofs.Ytpkiilnkiidoiaa.CNum Go.Proofs.Ytpkiilnkiidoiaa.KNum Go.Proofs.Ytpkiilnkiidoiaa.KMem Go.Proofs.Ytpkiilnkiidoiaa.KCch Go.Proofs.Ytpkiilnkiidoiaa.KAdd Go.Proofs.Ytpkiilnkiidoiaa.KRad Go.Proofs.Ytpkiilnkiidoiaa.KRst

set_option maxHeartbeats 2000000 in
theorem rstep21_cpy {B base g b m n d : Nat} {w : World} {cs v : Value} {l : List Nat} {i a : Int} (h : Pt B base w g b cs v l (cf b l)) (hm : m ≤ 900000) (hl : l.length ≤ m) (hsm : Sm l) (h1 : 1 ≤ n) (h2 : n ≤ 4096) (h3 : 1 ≤ d) (h4 : d ≤ l.length) (h5 : n + l.length ≤ m) :
    Calls Try.prog 21 #[.pointer (some ⟨g, 0, none⟩), .agg #[.int .i64 2, .int .i64 n, .int .i64 d, .int .i64 i, .int .u32 a], .int .i64 m] w fun e w' => PtS B base w g b cs v (some (cpy l d n)) e w' := by
  have hB : B ≤ w.heap.size := by have := h.g0; have := h.g1; have := h.hb; omega
  have HB := hide hB
  have HW := hide (show base ≤ w.heap.size from h.hb)
  obtain ⟨av, cv, rfl, _⟩ := own_shape h.own
  have c0 : w.cell? ⟨g, 0, none⟩ = some (.slice av l.length cv) := (h.box.cell 0).trans rfl
  have gl := h.box.lt
  have T0 := hide (h.keep (bel_a1 w (.cells #[.int .i64 2, .int .i64 n, .int .i64 d, .int .i64 i, .int .u32 a] 37)))
  have V0 := hide (show (Value.slice av l.length cv).ownBlock ≠ some w.heap.size from fun e => by have := (h.own.lt _ e).2; omega)
  have BX0 := hide (Box.made w 37 #[.int .i64 2, .int .i64 n, .int .i64 d, .int .i64 i, .int .u32 a])
  have B0 := hide ((bel_a1 w (.cells #[.int .i64 2, .int .i64 n, .int .i64 d, .int .i64 i, .int .u32 a] 37)).mono hB)
  have SM := hide hsm
  have HH := hide (And.intro (And.intro h1 h3) (And.intro h4 (And.intro h5 hm)))
  have CN := hide (fun k => cpy_next l d k h3 h4)
  have i1 : (1 : Int) ≤ (n : Int) := by omega
  have i2 : (n : Int) ≤ 4096 := by omega
  have i3 : (1 : Int) ≤ (d : Int) := by omega
  have i4 : (d : Int) ≤ (l.length : Int) := by omega
  obtain ⟨r, hr⟩ : ∃ r, m = r + l.length := ⟨m - l.length, by omega⟩
  have i5 : IntKind.i64.wrap ((m : Int) - (l.length : Int)) = (r : Int) := wrap_sub hr (by omega)
  have i6 : (n : Int) ≤ (r : Int) := by omega
  clear h hB hsm h1 h2 h3 h4 h5 hm hl hr
  go_enter Try.func21, Try.ntmps21
  go_wp2
  go_quiet (fail)
  go_wp2
  generalize hw1 : w.alloc (.cells #[.int .i64 2, .int .i64 n, .int .i64 d, .int .i64 i, .int .u32 a] 37) = w1 at *
  have U1 := hide (show Below w.heap.size w w1 from hw1 ▸ bel_a1 w _)
  clear hw1
  go_loopw [7] (fun x wr => ∃ (k : Nat) (v : Value), x = .int .i64 k ∧ k ≤ n ∧ Pt B base wr g b cs v (cpy l d k) (cf b (cpy l d k)) ∧ Box wr w.heap.size 37 #[.int .i64 2, .int .i64 n, .int .i64 d, .int .i64 i, .int .u32 a] ∧ v.ownBlock ≠ some w.heap.size ∧ Below B w wr ∧ Frm base (.slice av l.length cv) v w1 wr ∧ w1.heap.size ≤ wr.heap.size) (fun x _ => n - (intOf x).toNat)
  case atStart => exact ⟨0, _, rfl, by omega, (unhide T0).drewN _, (unhide BX0).drewN _, unhide V0, bel_drN (unhide B0) _, ⟨fun _ _ _ _ => rfl, fun _ h => .inl h⟩, Nat.le_refl _⟩
  case round =>
    obtain ⟨k, v, rfl, hk, pt, bx, vb, bel, fr, hsz⟩ := hrel
    have FR := hide (And.intro fr hsz)
    clear fr hsz
    have k1 : wr.cell? ⟨w.heap.size, 1, none⟩ = some (.int .i64 n) := bx.cell 1
    have k2 : wr.cell? ⟨w.heap.size, 2, none⟩ = some (.int .i64 d) := bx.cell 2
    have BX := hide bx
    have VB := hide vb
    have BB := hide bel
    clear bx vb bel c0
    by_cases hlt : k < n
    · have hlt' : (k : Int) < (n : Int) := by omega
      obtain ⟨⟨h1, h3⟩, h4, h5, hm⟩ := unhide HH
      have hlk : (cpy l d k).length = l.length + k := cpy_len l d k
      obtain ⟨q, hq⟩ : ∃ q : Nat, l.length + k = q + d := ⟨l.length + k - d, by omega⟩
      obtain ⟨gk, ck, rfl, _, _, _, cells⟩ := own_cell pt.own (by omega)
      have e0 : wr.cell? ⟨g, 0, none⟩ = some (.slice (some ⟨gk, 0, none⟩) (cpy l d k).length ck) := (pt.box.cell 0).trans rfl
      have e1 : wr.cell? ⟨gk, q, none⟩ = some (.int .u32 ((cpy l d k).getD q 0 : Nat)) := cells _ _ (cl_at (some_getD (by omega)))
      have TT := hide pt
      have HX := hide (show (cpy l d k).getD (l.length + k - d) 0 = (cpy l d k).getD q 0 by congr 1; omega)
      have AD := hide (fun (wz : World) (T : Pt B base wz g b cs (.slice (some ⟨gk, 0, none⟩) (cpy l d k).length ck) (cpy l d k) (cf b (cpy l d k))) => raddf32 T (by omega) ((cpy l d k).getD q 0) (((unhide SM).cpy d k).at q))
      rw [hlk] at e0
      generalize (cpy l d k).getD q 0 = x at *
      have j1 : IntKind.i64.wrap (((l.length + k : Nat) : Int) - (d : Int)) = (q : Int) := wrap_sub hq (by omega)
      have j2 : (q : Int) < ((l.length + k : Nat) : Int) := by omega
      generalize hL : l.length + k = L at *
      have HL := hide hL
      clear hL cells pt hlk hq h1 h3 h4 h5 hm
      go_wp2
      go_region_with (go_at_call 32; (with_reducible refine Calls.mono (unhide AD wr.drew (Pt.dr (unhide TT))) ?_); (rintro e w' ⟨rfl, ⟨v9, P9, F9⟩, B9⟩))
      all_goals (have PP := hide (And.intro P9 (And.intro (F9.box (unhide BX) (unhide HW) (unhide VB)) (And.intro ((unhide BB).trans (bel_un B9)) (And.intro (Frm.next (unhide FR).1 (unhide FR).2 (Frm.und F9)) (Nat.le_trans (unhide FR).2 B9.size))))); clear P9 F9 B9)
      all_goals go_wp2
      all_goals go_roundw
      all_goals first
        | (simp [intOf]; done)
        | (simp [intOf]; omega)
        | exact ⟨k + 1, v9, by go_num, by omega, by rw [unhide CN k, unhide HL, unhide HX]; exact (unhide PP).1, (unhide PP).2.1.1, (unhide PP).2.1.2, (unhide PP).2.2.1, (unhide PP).2.2.2.1, (unhide PP).2.2.2.2⟩
    · have e : k = n := by omega
      subst e
      have hlt' : ¬ (k : Int) < (k : Int) := by omega
      go_wp2
      go_ret
      exact ⟨rfl, ⟨_, pt, Frm.pre (unhide U1) (unhide FR).1⟩, unhide BB⟩
end Go.Proofs.Ytpkiilnkiidoiaa.KRs2
