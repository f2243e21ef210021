/- Contracts: Pack beside the document's Packed, Unpack beside its Unpacked: one answer. Conditions: the pixels are at most 2000. -/
import Derived.Test.YtflmlbdcjjldgaaTRpk
import Derived.Test.YtflmlbdcjjldgaaTRno
import Derived.Test.YtflmlbdcjjldgaaTNil
import Derived.Test.YtflmlbdcjjldgaaLRef
namespace Go.Proofs.Ytflmlbdcjjldgaa.TBth
set_option linter.unusedVariables false
open Go.ChangeShapes Go.WideShapes Go.ChangeAt Go.RowKit Go.Maps Go.Sort Go.Proofs.Ytflmlbdcjjldgaa.Core Go.Proofs.Ytflmlbdcjjldgaa.LBlk Go.Proofs.Ytflmlbdcjjldgaa.PNum Go.Proofs.Ytflmlbdcjjldgaa.PPrt Go.Proofs.Ytflmlbdcjjldgaa.PGoo Go.Proofs.Ytflmlbdcjjldgaa.Ims Go.Proofs.Ytflmlbdcjjldgaa.LRef Go.Proofs.Ytflmlbdcjjldgaa.TNum Go.Proofs.Ytflmlbdcjjldgaa.TLea Go.Proofs.Ytflmlbdcjjldgaa.TPkn Go.Proofs.Ytflmlbdcjjldgaa.TPak Go.Proofs.Ytflmlbdcjjldgaa.TUnp Go.Proofs.Ytflmlbdcjjldgaa.TRpk Go.Proofs.Ytflmlbdcjjldgaa.TRun Go.Proofs.Ytflmlbdcjjldgaa.TRno Go.Proofs.Ytflmlbdcjjldgaa.TNil

/-- Pixels as a slice: none, or those in memory. -/
def Is (q : Option (Nat × (Nat → Nat))) (w : World) (s : Value) : Prop :=
  (q = none ∧ s = .slice none 0 0) ∨ ∃ n z g c, q = some (n, z) ∧ n ≤ 1000000 ∧ s = .slice (some ⟨g, 0, none⟩) n c ∧ Pixs w g 0 n z
theorem Is.below {q : Option (Nat × (Nat → Nat))} {w w' : World} {s : Value} (h : Is q w s) (u : Below w.heap.size w w') : Is q w' s := by
  rcases h with h | ⟨n, z, g, c, h1, h2, h3, h4⟩
  · exact .inl h
  · exact .inr ⟨n, z, g, c, h1, h2, h3, h4.below u⟩
theorem same21 {q : Option (Nat × (Nat → Nat))} {w : World} {s s' : Value} (W H : Int) (h : Is q w s) (h' : Is q w s') :
    Calls Try.prog 21 #[.agg #[.int .i64 W, .int .i64 H, s], .agg #[.int .i64 W, .int .i64 H, s']] w fun e w' => e = .returned (.bool true) ∧ Below w.heap.size w w' := by
  rcases h with ⟨rfl, rfl⟩ | ⟨n, z, g, c, rfl, h2, rfl, h4⟩
  · rcases h' with ⟨_, rfl⟩ | ⟨n, z, g, c, h1, _⟩
    · exact rsame_nil W H w
    · cases h1
  · rcases h' with ⟨h1, _⟩ | ⟨n', z', g', c', h1, h3, rfl, h5⟩
    · cases h1
    · cases h1
      exact rsame12 W H c c' h4 h5 h2
/-- One answer of two functions: an error's number and a yes or no; the same sides and pixels. -/
def Agree (f f' : Nat) (A : Array Value) (w0 : World) : Prop :=
  ∃ (E : Int) (ok : Bool) (W H : Int) (q : Option (Nat × (Nat → Nat))), ((E = 0 ∧ ok = true) ∨ (E = 1 ∧ ok = false)) ∧
    (∀ w, Below w0.heap.size w0 w → Calls Try.prog f A w fun e w' => ∃ a n c, e = .returned (.tuple #[.agg #[.int .i64 W, .int .i64 H, .slice a n c], .int .i64 E]) ∧ Is q w' (.slice a n c) ∧ Below w.heap.size w w') ∧
    (∀ w, Below w0.heap.size w0 w → Calls Try.prog f' A w fun e w' => ∃ a n c, e = .returned (.tuple #[.agg #[.int .i64 W, .int .i64 H, .slice a n c], .bool ok]) ∧ Is q w' (.slice a n c) ∧ Below w.heap.size w w')
theorem agree_no {f f' : Nat} {A : Array Value} {w0 : World} (h : ∀ w, Below w0.heap.size w0 w → Calls Try.prog f A w fun e w' => NoV w e w') (h' : ∀ w, Below w0.heap.size w0 w → Calls Try.prog f' A w fun e w' => RNo w e w') : Agree f f' A w0 :=
  ⟨1, false, 0, 0, none, .inr ⟨rfl, rfl⟩, fun w u => (h w u).mono fun e w' hk => ⟨_, _, _, hk.1, .inl ⟨rfl, rfl⟩, hk.2⟩, fun w u => (h' w u).mono fun e w' hk => ⟨_, _, _, hk.1, .inl ⟨rfl, rfl⟩, hk.2⟩⟩
theorem gives_is {w w' : World} {n g c : Nat} {f : Nat → Nat} (h : Gives w n g f w') (hn : n ≤ 1000000) : Is (some (n, f)) w' (.slice (some ⟨g, 0, none⟩) n c) := .inr ⟨n, f, g, c, rfl, hn, rfl, h.row.pixs⟩
def Row (w : World) (a : Option Addr) (len cap : Nat) (zs : List Int) : Prop := (a = none ∧ len = 0 ∧ cap = 0 ∧ zs = []) ∨ ∃ x, a = some x ∧ len ≤ cap ∧ cap ≤ maxLen ∧ zs.length = cap ∧ (∀ i, i < zs.length → w.cell? (x.add i) = some (.int .u32 (zs.getD i 0))) ∧ ∀ n ∈ zs, (Lit.int .u32 n).wf = true
theorem agree_pack {w : World} {W H : Int} {a a' : Option Addr} {n c n' c' : Nat} {zs zs' : List Int} (h : Row w a n c zs) (h' : Row w a' n' c' zs') (hn : n ≤ 2000) :
    Agree 17 18 #[.agg #[.int .i64 W, .int .i64 H, .slice a n c], .slice a' n' c'] w := by
  rcases Bool.eq_false_or_eq_true (gdV W H n) with hg | hg
  · rcases Bool.eq_false_or_eq_true (tbV n') with ht | ht
    · have htn : 1 ≤ n' ∧ n' ≤ 256 := of_decide_eq_true ht
      obtain ⟨b, off, z, W, H, rfl, rfl, rfl, I, hW1, hH1, zb⟩ := img_of h hg
      obtain ⟨tb, tq, t, rfl, T, tbd⟩ := pix_of h' (by omega)
      have N : bl W (bv n') * H ≤ 1000000 := by
        have h1 := Nat.mul_le_mul_right H (bl_le W (bv n'))
        have h3 := I.hn
        omega
      by_cases hf : ∀ i, i < n → nm t n' (z i) < n'
      · refine ⟨0, true, bl W (bv n'), H, some (bl W (bv n') * H, fun j => 4278190080 + 256 * gw t n' z W (bv n') j), .inl ⟨rfl, rfl⟩, fun w1 u => ?_, fun w1 u => ?_⟩
        · refine (pack17 c c' (I.below u) zb hW1 hH1 (by omega) (T.below u) tbd htn.1 htn.2).mono fun e w' hk => ?_
          unfold PakV at hk
          rw [if_pos hf] at hk
          obtain ⟨g, rfl, gv⟩ := hk
          refine ⟨_, _, _, rfl, gives_is ⟨gv.row.congr fun j hj => ?_, gv.new, gv.bel⟩ N, gv.bel⟩
          show pk t n' z W (bv n') n j = _
          unfold pk
          rw [I.hn, pg_end hW1 hj]
        · refine (rpacked18 c c' (I.below u) hW1 hH1 (by omega) (T.below u) htn.1 htn.2).mono fun e w' hk => ?_
          unfold RPakV at hk
          rw [if_pos hf] at hk
          obtain ⟨g, cp, rfl, gv⟩ := hk
          exact ⟨_, _, _, rfl, gives_is gv N, gv.bel⟩
      · refine agree_no (fun w1 u => ?_) fun w1 u => ?_
        · refine (pack17 c c' (I.below u) zb hW1 hH1 (by omega) (T.below u) tbd htn.1 htn.2).mono fun e w' hk => ?_
          unfold PakV at hk
          rw [if_neg hf] at hk
          exact hk
        · refine (rpacked18 c c' (I.below u) hW1 hH1 (by omega) (T.below u) htn.1 htn.2).mono fun e w' hk => ?_
          unfold RPakV at hk
          rw [if_neg hf] at hk
          exact hk
    · have htn : n' < 1 ∨ 256 < n' := by have : ¬ (1 ≤ n' ∧ n' ≤ 256) := of_decide_eq_false ht; omega
      exact agree_no (fun w1 _ => pack17_tab a a' n c n' c' w1 hg ht) fun w1 _ => rpacked18_tab a a' n c n' c' w1 hg htn
  · exact agree_no (fun w1 _ => pack17_img a a' n c n' c' w1 hg) fun w1 _ => rpacked18_img a a' n c n' c' w1 hg
theorem agree_unpack {w : World} {W H x : Int} {a a' : Option Addr} {n c n' c' : Nat} {zs zs' : List Int} (h : Row w a n c zs) (h' : Row w a' n' c' zs') (hn : n ≤ 2000) :
    Agree 19 20 #[.agg #[.int .i64 W, .int .i64 H, .slice a n c], .slice a' n' c', .int .i64 x] w := by
  rcases Bool.eq_false_or_eq_true (gdV W H n) with hg | hg
  · rcases Bool.eq_false_or_eq_true (tbV n') with ht | ht
    · have htn : 1 ≤ n' ∧ n' ≤ 256 := of_decide_eq_true ht
      by_cases hx1 : x < 1
      · exact agree_no (fun w1 _ => unpack19_wide a a' n c n' c' w1 hg ht (.inl hx1)) fun w1 _ => rno_thin a a' n c n' c' w1 hg htn.1 htn.2 hx1
      · by_cases hx2 : 16384 < x
        · exact agree_no (fun w1 _ => unpack19_wide a a' n c n' c' w1 hg ht (.inr hx2)) fun w1 _ => rno_wide a a' n c n' c' w1 hg htn.1 htn.2 hx2
        · obtain ⟨x', rfl⟩ := Int.eq_ofNat_of_zero_le (a := x) (by omega)
          by_cases hc : W = (bl x' (bv n') : Nat)
          · obtain ⟨b, off, z, W, H, rfl, rfl, rfl, I, hW1, hH1, zb⟩ := img_of h hg
            obtain ⟨tb, tq, t, rfl, T, tbd⟩ := pix_of h' (by omega)
            have hc' : W = bl x' (bv n') := by omega
            have N : x' * H ≤ 1000000 := by
              have h1 := Nat.mul_le_mul_right H (wide_le (bv_le _) hc')
              have h3 := I.hn
              rw [Nat.mul_assoc] at h1
              omega
            refine ⟨0, true, x', H, some (x' * H, uv t n' z W (bv n') x'), .inl ⟨rfl, rfl⟩, fun w1 u => ?_, fun w1 u => ?_⟩
            · refine (unpack19 c c' (I.below u) hW1 hH1 (by omega) (T.below u) htn.1 htn.2 (by omega) (by omega) hc').mono fun e w' hk => ?_
              obtain ⟨g, rfl, gv⟩ := hk
              exact ⟨_, _, _, rfl, gives_is gv N, gv.bel⟩
            · refine (runpacked20 c c' (I.below u) hW1 hH1 (by omega) (T.below u) htn.1 htn.2 (by omega) (by omega) hc').mono fun e w' hk => ?_
              obtain ⟨g, cp, rfl, gv⟩ := hk
              exact ⟨_, _, _, rfl, gives_is gv N, gv.bel⟩
          · exact agree_no (fun w1 _ => unpack19_cols a a' n c n' c' w1 hg ht (by omega) (by omega) hc) fun w1 _ => rno_cols a a' n c n' c' w1 hg htn.1 htn.2 (by omega) (by omega) hc
    · have htn : n' < 1 ∨ 256 < n' := by have : ¬ (1 ≤ n' ∧ n' ≤ 256) := of_decide_eq_false ht; omega
      rcases htn with h1 | h1
      · exact agree_no (fun w1 _ => unpack19_tab a a' n c n' c' w1 hg ht) fun w1 _ => rno_few a a' n c n' c' w1 hg h1
      · exact agree_no (fun w1 _ => unpack19_tab a a' n c n' c' w1 hg ht) fun w1 _ => rno_many a a' n c n' c' w1 hg h1
  · exact agree_no (fun w1 _ => unpack19_img a a' n c n' c' w1 hg) fun w1 _ => rno_img a a' n c n' c' w1 hg
end Go.Proofs.Ytflmlbdcjjldgaa.TBth
