/-
  What is proved: for every input the Go function BitoutJoins of the statements of layer 3 returns true, and its arguments read as before (a writer joined to another one, also to itself: the bits of both, one behind the other).
  Conditions: none.
-/
import Derived.Test.YtieaglncimfelaaRows
import Derived.Test.YtieaglncimfelaaQua
import Derived.WalkKit
import Derived.ProofKit
import Derived.OpenShut
import Derived.ShutString
import Derived.ChangeOld
import Derived.Below
import Derived.Deep.Grids
namespace Go.Proofs.Ytieaglncimfelaa.bitoutJoins
open Go.ChangeShapes Go.WideShapes Go.ChangeAt Go.RowKit
open Go.Proofs.Ytieaglncimfelaa.Core Go.Proofs.Ytieaglncimfelaa.Foot Go.Proofs.Ytieaglncimfelaa.Add Go.Proofs.Ytieaglncimfelaa.Wri Go.Proofs.Ytieaglncimfelaa.Byt Go.Proofs.Ytieaglncimfelaa.Sam Go.Proofs.Ytieaglncimfelaa.Joi Go.Proofs.Ytieaglncimfelaa.Sep Go.Proofs.Ytieaglncimfelaa.Ref Go.Proofs.Ytieaglncimfelaa.Two Go.Proofs.Ytieaglncimfelaa.Pai Go.Proofs.Ytieaglncimfelaa.Qua
open Go.ChangeMaps (open_string shut_string)
set_option linter.unusedVariables false

theorem own : ownKnob Try.prog.godebug = none := by kernel_rfl
theorem laidOut : laidOutB Try.prog = true := by kernel_rfl

/-- A slice of integers that came in: nil, or a row of cells, each fitting its kind. -/
def IsRow (k : IntKind) (w : World) (a : Option Addr) (len cap : Nat) (zs : List Int) : Prop :=
  (a = none ∧ len = 0 ∧ cap = 0 ∧ zs = []) ∨
  ∃ x, a = some x ∧ len ≤ cap ∧ cap ≤ maxLen ∧ zs.length = cap ∧ (∀ i, i < zs.length → w.cell? (x.add i) = some (.int k (zs.getD i 0))) ∧ ∀ n ∈ zs, (Lit.int k n).wf = true
/-- A slice of bools that came in. -/
def IsBools (w : World) (a : Option Addr) (len cap : Nat) (B : Nat → Bool) : Prop :=
  (a = none ∧ len = 0 ∧ cap = 0) ∨ ∃ x, a = some x ∧ len ≤ cap ∧ cap ≤ maxLen ∧ ∀ i, i < cap → w.cell? (x.add i) = some (.bool (B i))
theorem bools_at {w wr : World} {a : Option Addr} {len cap : Nat} {B : Nat → Bool} (h : IsBools w a len cap B) (bel : Below w.heap.size w wr) (i : Nat) (hi : i < len) :
    ∃ b off, a = some ⟨b, off, none⟩ ∧ wr.cell? ⟨b, off + i, none⟩ = some (.bool (B i)) := by
  rcases h with ⟨_, h0, _⟩ | ⟨x, rfl, h1, h2, hx⟩
  · omega
  · obtain ⟨b, off, spot⟩ := x
    have h0 := hx 0 (by omega)
    have hspot : spot = none := by simpa [Addr.add] using World.cell?_spot h0
    subst hspot
    have hb := hx i (by omega)
    rw [Go.WideShapes.add_plain] at hb
    exact ⟨b, off, rfl, (bel.cell (p := ⟨b, off + i, none⟩) (lt_of_cell hb)).trans hb⟩
set_option maxRecDepth 20000 in
set_option maxHeartbeats 1000000 in
theorem walk (a0 : Option Addr) (len0 cap0 : Nat) (z0 : Nat → Bool) (a1 : Option Addr) (len1 cap1 : Nat) (z1 : Nat → Bool) (a2 : Bool) (w : World) (w0 : IsBools w a0 len0 cap0 z0) (w1 : IsBools w a1 len1 cap1 z1) :
    Calls Try.prog 4 #[.slice a0 len0 cap0, .slice a1 len1 cap1, .bool a2] w fun e w' => e = .returned (.bool true) ∧ Below w.heap.size w w' := by
  by_cases hbig : 200 < len0
  · have hbig' : (200 : Int) < (len0 : Int) := by omega
    clear w0 w1
    go_enter Try.func4, Try.ntmps4
    go_wp2_with (go_at_call 7; refine (ans7 _).mono ?_; rintro e w1 ⟨rfl, bel⟩)
    go_ret
    exact ⟨rfl, bel⟩
  by_cases hbig2 : 200 < len1
  · have hbig' : (len0 : Int) ≤ 200 := by omega
    have hbig2' : (200 : Int) < (len1 : Int) := by omega
    clear w0 w1
    go_enter Try.func4, Try.ntmps4
    go_wp2_with (go_at_call 7; refine (ans7 _).mono ?_; rintro e w1 ⟨rfl, bel⟩)
    go_ret
    exact ⟨rfl, bel⟩
  have hlen : (len0 : Int) ≤ 200 := by omega
  have hlen1 : (len1 : Int) ≤ 200 := by omega
  have R0 := hide w0
  have R1 := hide w1
  have N2 := hide (two_new w)
  clear w0 w1
  go_enter Try.func4, Try.ntmps4
  go_wp2_with fail
  refine (unhide N2).mono ?_
  rintro e w1 ⟨g, rfl, bel1, next⟩
  have NX := hide next
  clear next bel1 N2
  go_wp2_with fail
  refine (unhide NX).mono ?_
  rintro e w2 ⟨h, rfl, bel2, two2⟩
  have Q2 := hide (Quad.of_two two2 (fun _ => 0) (fun _ => 0))
  have B2 := hide bel2
  clear two2 bel2 NX
  go_wp2
  go_loopw [9, 11] (fun l i wr => ∃ (k : Nat) (b : Nat → Nat), k ≤ len0 ∧ (∀ j, b j ≤ 1) ∧ i = .int .i64 k ∧ Quad wr w.heap.size g h l (.slice none 0 0) (sm b k) k 0 0 k 0 b (fun _ => 0) ∧ Below w.heap.size w wr) (fun _ i _ => len0 - (intOf i).toNat)
  case atStart => exact ⟨0, fun _ => 0, Nat.zero_le _, fun _ => Nat.zero_le _, rfl, unhide Q2, unhide B2⟩
  case round =>
    obtain ⟨k, b, hk, hb, rfl, quad, bel⟩ := hrel
    have Q3 := hide quad
    have B3 := hide bel
    have HB := hide hb
    clear Q2 B2 quad bel hb
    by_cases hlt : k < len0
    · have hlt' : (k : Int) < (len0 : Int) := by omega
      obtain ⟨b0, off0, rfl, cell0⟩ := bools_at (unhide R0) (unhide B3) k hlt
      have both : ∃ x : Nat, x ≤ 1 ∧ z0 k = decide (x = 1) := by
        cases z0 k
        · exact ⟨0, by omega, by simp⟩
        · exact ⟨1, by omega, by simp⟩
      obtain ⟨x, hx, hz⟩ := both
      rw [hz] at cell0
      clear hz
      have EX := hide (show ext b k x k = x by unfold ext; rw [if_neg (by omega), Nat.sub_self, Nat.pow_zero]; omega)
      have SE := hide (sm_ext b k x 1)
      rw [Nat.mod_eq_of_lt (show x < 2 ^ 1 by omega)] at SE
      rcases (show x = 0 ∨ x = 1 by omega) with rfl | rfl
      · go_wp2_with fail
        refine (quad_bits wr w.heap.size g h (sm b k) k 0 0 k 0 0 1 _ _ b (fun _ => 0) (unhide Q3) (by omega) (by decide) (by omega)).mono ?_
        rintro e w5 ⟨rfl, quad5, bel5⟩
        have Q5 := hide (quad5.ext (ext b k 0) (fun i hi => by simp [ext, hi]))
        have B5 := hide ((unhide B3).trans bel5)
        clear quad5 bel5 Q3 B3
        go_wp2_with (first | (at_builtin; refine list_app rfl (.tmp 39) (.tmp 42) rfl _ k (cells (ext b k 0) k) rfl ((unhide Q5).own.alloc _) ⟨w5.heap.size, 0, none⟩ 1 1 [.int .u8 0] rfl rfl (one_src _ _) (one_one _ _) (by omega) ?_; intro v7 w7 own7 grow7 stay7; obtain ⟨quad7, bel7⟩ := quad_one 0 (unhide Q5) (by rw [unhide EX]; rfl) own7 grow7 stay7; have Q7 := hide quad7; have B7 := hide ((unhide B5).trans bel7); clear own7 grow7 stay7 quad7 bel7) | fail)
        go_roundw
        case rel => exact ⟨k + 1, ext b k 0, by omega, ext_le b (unhide HB) k 0, by go_num, by rw [unhide SE]; exact unhide Q7, unhide B7⟩
        case measure => simp [intOf]; omega
      · go_wp2_with fail
        refine (quad_bits wr w.heap.size g h (sm b k) k 0 0 k 0 1 1 _ _ b (fun _ => 0) (unhide Q3) (by omega) (by decide) (by omega)).mono ?_
        rintro e w5 ⟨rfl, quad5, bel5⟩
        have Q5 := hide (quad5.ext (ext b k 1) (fun i hi => by simp [ext, hi]))
        have B5 := hide ((unhide B3).trans bel5)
        clear quad5 bel5 Q3 B3
        go_wp2_with (first | (at_builtin; refine list_app rfl (.tmp 39) (.tmp 42) rfl _ k (cells (ext b k 1) k) rfl ((unhide Q5).own.alloc _) ⟨w5.heap.size, 0, none⟩ 1 1 [.int .u8 1] rfl rfl (one_src _ _) (one_one _ _) (by omega) ?_; intro v7 w7 own7 grow7 stay7; obtain ⟨quad7, bel7⟩ := quad_one 1 (unhide Q5) (by rw [unhide EX]; rfl) own7 grow7 stay7; have Q7 := hide quad7; have B7 := hide ((unhide B5).trans bel7); clear own7 grow7 stay7 quad7 bel7) | fail)
        go_roundw
        case rel => exact ⟨k + 1, ext b k 1, by omega, ext_le b (unhide HB) k 1, by go_num, by rw [unhide SE]; exact unhide Q7, unhide B7⟩
        case measure => simp [intOf]; omega
    · obtain rfl : k = len0 := by omega
      go_wp2
      go_loopw [10, 13] (fun m i wr => ∃ (j : Nat) (c : Nat → Nat), j ≤ len1 ∧ (∀ i, c i ≤ 1) ∧ i = .int .i64 j ∧ Quad wr w.heap.size g h u9 m (sm b k) k (sm c j) j k j b c ∧ Below w.heap.size w wr) (fun _ i _ => len1 - (intOf i).toNat)
      case atStart => exact ⟨0, fun _ => 0, Nat.zero_le _, fun _ => Nat.zero_le _, rfl, unhide Q3, unhide B3⟩
      case round =>
        obtain ⟨j, c, hj, hc, rfl, quad5, bel5⟩ := hrel
        have Q5 := hide quad5
        have B5 := hide bel5
        have HC := hide hc
        clear Q3 B3 quad5 bel5 hc
        by_cases hlt1 : j < len1
        · have hlt1' : (j : Int) < (len1 : Int) := by omega
          obtain ⟨b1, off1, rfl, cell1⟩ := bools_at (unhide R1) (unhide B5) j hlt1
          have both : ∃ x : Nat, x ≤ 1 ∧ z1 j = decide (x = 1) := by
            cases z1 j
            · exact ⟨0, by omega, by simp⟩
            · exact ⟨1, by omega, by simp⟩
          obtain ⟨x, hx, hz⟩ := both
          rw [hz] at cell1
          clear hz
          have EX := hide (show ext c j x j = x by unfold ext; rw [if_neg (by omega), Nat.sub_self, Nat.pow_zero]; omega)
          have SE := hide (sm_ext c j x 1)
          rw [Nat.mod_eq_of_lt (show x < 2 ^ 1 by omega)] at SE
          rcases (show x = 0 ∨ x = 1 by omega) with rfl | rfl
          · go_wp2_with fail
            refine (quad_bits wr w.heap.size h g (sm c j) j (sm b k) k j k 0 1 _ _ c b (unhide Q5).symm (by omega) (by decide) (by omega)).mono ?_
            rintro e w6 ⟨rfl, quad6, bel6⟩
            have Q6 := hide (quad6.ext (ext c j 0) (fun i hi => by simp [ext, hi]))
            have B6 := hide ((unhide B5).trans bel6)
            clear quad6 bel6 Q5 B5
            go_wp2_with (first | (at_builtin; refine list_app rfl (.tmp 57) (.tmp 60) rfl _ j (cells (ext c j 0) j) rfl ((unhide Q6).own.alloc _) ⟨w6.heap.size, 0, none⟩ 1 1 [.int .u8 0] rfl rfl (one_src _ _) (one_one _ _) (by omega) ?_; intro v7 w7 own7 grow7 stay7; obtain ⟨quad7, bel7⟩ := quad_one 0 (unhide Q6) (by rw [unhide EX]; rfl) own7 grow7 stay7; have Q7 := hide quad7.symm; have B7 := hide ((unhide B6).trans bel7); clear own7 grow7 stay7 quad7 bel7) | fail)
            go_roundw
            case rel => exact ⟨j + 1, ext c j 0, by omega, ext_le c (unhide HC) j 0, by go_num, by rw [unhide SE]; exact unhide Q7, unhide B7⟩
            case measure => simp [intOf]; omega
          · go_wp2_with fail
            refine (quad_bits wr w.heap.size h g (sm c j) j (sm b k) k j k 1 1 _ _ c b (unhide Q5).symm (by omega) (by decide) (by omega)).mono ?_
            rintro e w6 ⟨rfl, quad6, bel6⟩
            have Q6 := hide (quad6.ext (ext c j 1) (fun i hi => by simp [ext, hi]))
            have B6 := hide ((unhide B5).trans bel6)
            clear quad6 bel6 Q5 B5
            go_wp2_with (first | (at_builtin; refine list_app rfl (.tmp 57) (.tmp 60) rfl _ j (cells (ext c j 1) j) rfl ((unhide Q6).own.alloc _) ⟨w6.heap.size, 0, none⟩ 1 1 [.int .u8 1] rfl rfl (one_src _ _) (one_one _ _) (by omega) ?_; intro v7 w7 own7 grow7 stay7; obtain ⟨quad7, bel7⟩ := quad_one 1 (unhide Q6) (by rw [unhide EX]; rfl) own7 grow7 stay7; have Q7 := hide quad7.symm; have B7 := hide ((unhide B6).trans bel7); clear own7 grow7 stay7 quad7 bel7) | fail)
            go_roundw
            case rel => exact ⟨j + 1, ext c j 1, by omega, ext_le c (unhide HC) j 1, by go_num, by rw [unhide SE]; exact unhide Q7, unhide B7⟩
            case measure => simp [intOf]; omega
        · obtain rfl : j = len1 := by omega
          obtain ⟨wc, rfl⟩ : ∃ wc : World, wc = wr := ⟨wr, rfl⟩
          cases a2
          · have Q8 := hide (unhide Q5)
            have B8 := hide (unhide B5)
            have HD := hide (unhide HB)
            clear Q5 B5
            obtain ⟨n, hn0⟩ : ∃ n, n = k := ⟨_, rfl⟩
            rw [← hn0] at Q8
            have hn1 : n ≤ 200 := by omega
            generalize hd : b = d at *
            clear hd hn0
            have hn : n ≤ 400 := by omega
            go_wp2_with fail
            refine (quad_join _ w.heap.size g h (sm d n) n (sm c j) j n j _ _ d c (unhide Q8) (by omega) (by omega)).mono ?_
            rintro e w9 ⟨rfl, quad9, bel9⟩
            have Q9 := hide quad9
            have B9 := hide ((unhide B8).trans bel9)
            have SC := hide (sm_cat d c n j)
            have CC := hide (cells_cat d c n j)
            clear quad9 bel9 Q8 B8
            go_wp2_with (first | (at_builtin; refine list_app_src rfl (.tmp 74) (.tmp 75) rfl _ n (cells d n) rfl (unhide Q9).own _ j c rfl (src_of_own (unhide Q9).symm.own) (by omega) ?_; intro vA wA ownA growA stayA; rw [unhide CC] at ownA; obtain ⟨quadA, belA⟩ := quad_more (unhide Q9) ownA growA stayA; rw [← unhide SC] at quadA; have QA := hide quadA; have BA := hide ((unhide B9).trans belA); obtain ⟨aA, capA, rfl⟩ := own_slice ownA; clear ownA growA stayA quadA belA Q9 B9) | fail)
            have HE := hide (cat_le d c (unhide HD) (unhide HC) n)
            generalize cat d n c = f at *
            have nj : n + j ≤ 600 := by omega
            generalize hN : n + j = N at *
            clear hN SC CC
            refine (ans7 _).mono ?_
            rintro e wB ⟨rfl, belB⟩
            have QB := hide ((unhide QA).below belB)
            have BB := hide ((unhide BA).trans (belB.mono (unhide BA).size))
            clear belB QA BA
            go_wp2_with fail
            refine (quad_len wB w.heap.size g h _ _ _ _ _ _ _ _ _ _ (unhide QB) (by omega)).mono ?_
            rintro e wC ⟨rfl, nC, rfl⟩
            have QC := hide ((unhide QB).drewN nC)
            have BC := hide (below_drewN (unhide BB) nC)
            clear QB BB
            generalize wB.drewN nC = wC at *
            go_wp2_with fail
            refine (quad_bytes wC w.heap.size g h _ _ _ _ _ _ _ _ _ _ (unhide QC) (by omega)).mono ?_
            rintro e wD ⟨vD, rfl, srcD, belD⟩
            have SD := hide srcD
            have QD := hide ((unhide QC).below belD)
            have BD := hide ((unhide BC).trans (belD.mono (unhide BC).size))
            clear srcD belD QC BC
            go_wp2_with fail
            refine (rbytes13 _ N f (unhide HE) wD (src_of_own (unhide QD).own) (by omega)).mono ?_
            rintro e wE ⟨vE, rfl, ownE, belE⟩
            have SE1 := hide (src_of_own ownE)
            have SE2 := hide ((unhide SD).keep (Upd.ofBelow (S := fun _ => False) belE) (fun _ h => h.elim))
            have QE := hide ((unhide QD).below belE)
            have BE := hide ((unhide BD).trans (belE.mono (unhide BD).size))
            clear ownE belE QD BD SD
            go_wp2_with fail
            refine (same12 vD vE _ _ wE (unhide SE2) (unhide SE1) (by omega)).mono ?_
            rintro e wF ⟨rfl, nF, rfl⟩
            have QF := hide ((unhide QE).drewN nF)
            have BF := hide (below_drewN (unhide BE) nF)
            clear QE BE SE1 SE2
            generalize wE.drewN nF = wF at *
            go_wp2_with fail
            refine (quad_bytes wF w.heap.size h g _ _ _ _ _ _ _ _ _ _ (unhide QF).symm (by omega)).mono ?_
            rintro e wG ⟨vG, rfl, srcG, belG⟩
            have SG := hide srcG
            have QG := hide ((unhide QF).below belG)
            have BG := hide ((unhide BF).trans (belG.mono (unhide BF).size))
            clear srcG belG QF BF
            go_wp2_with fail
            refine (rbytes13 _ j c (unhide HC) wG (src_of_own (unhide QG).symm.own) (by omega)).mono ?_
            rintro e wH ⟨vH, rfl, ownH, belH⟩
            have SH1 := hide (src_of_own ownH)
            have SH2 := hide ((unhide SG).keep (Upd.ofBelow (S := fun _ => False) belH) (fun _ h => h.elim))
            have BH := hide ((unhide BG).trans (belH.mono (unhide BG).size))
            clear ownH belH QG BG SG
            go_wp2_with fail
            refine (same12 vG vH _ _ wH (unhide SH2) (unhide SH1) (by omega)).mono ?_
            rintro e wI ⟨rfl, nI, rfl⟩
            go_wp2
            go_ret
            exact ⟨rfl, below_drewN (unhide BH) nI⟩
          · go_wp2_with fail
            refine (quad_join_self wc w.heap.size g h (sm b k) k (sm c j) j k j _ _ b c (unhide Q5) (by omega)).mono ?_
            rintro e w6 ⟨rfl, quad6, bel6⟩
            have Q6 := hide quad6
            have B6 := hide ((unhide B5).trans bel6)
            have SB := hide (sm_cat b b k k)
            have CB := hide (cells_cat b b k k)
            clear quad6 bel6 Q5 B5
            go_wp2_with (first | (at_builtin; refine list_app_src rfl (.tmp 67) (.tmp 68) rfl _ 0 [] rfl (World.ownsRow_lit w6 #[] 0 (Nat.zero_le _) (by decide) rfl) _ k b rfl (src_of_own ((unhide Q6).own.alloc _)) (by omega) ?_; intro vI wI ownI growI stayI; rw [Nat.zero_add, List.nil_append] at ownI; have belI : Below w6.heap.size w6 wI := ((Below.refl w6.heap.size w6).alloc (Nat.le_refl _) _).grown growI (by simp) (fun i hi => by cases hi; exact Nat.le_refl _); have QI := hide ((unhide Q6).below belI); have BI := hide ((unhide B6).trans (belI.mono (unhide B6).size)); have OI := hide ownI; clear ownI growI stayI belI Q6 B6) | (at_builtin; refine list_app_src rfl (.tmp 66) (.tmp 69) rfl _ k (cells b k) rfl (unhide QI).own _ k b rfl (src_of_own (unhide OI)) (by omega) ?_; intro vJ wJ ownJ growJ stayJ; rw [unhide CB] at ownJ; obtain ⟨quadJ, belJ⟩ := quad_more (unhide QI) ownJ growJ stayJ; rw [← unhide SB] at quadJ; have Q8 := hide quadJ; have B8 := hide ((unhide BI).trans belJ); clear ownJ growJ stayJ quadJ belJ QI BI OI) | fail)
            have HD := hide (cat_le b b (unhide HB) (unhide HB) k)
            clear SB CB
            generalize cat b k b = d at *
            have hn1 : k + k ≤ 400 := by omega
            generalize k + k = n at *
            have hn : n ≤ 400 := by omega
            refine (quad_join _ w.heap.size g h (sm d n) n (sm c j) j n j _ _ d c (unhide Q8) (by omega) (by omega)).mono ?_
            rintro e w9 ⟨rfl, quad9, bel9⟩
            have Q9 := hide quad9
            have B9 := hide ((unhide B8).trans bel9)
            have SC := hide (sm_cat d c n j)
            have CC := hide (cells_cat d c n j)
            clear quad9 bel9 Q8 B8
            go_wp2_with (first | (at_builtin; refine list_app_src rfl (.tmp 74) (.tmp 75) rfl _ n (cells d n) rfl (unhide Q9).own _ j c rfl (src_of_own (unhide Q9).symm.own) (by omega) ?_; intro vA wA ownA growA stayA; rw [unhide CC] at ownA; obtain ⟨quadA, belA⟩ := quad_more (unhide Q9) ownA growA stayA; rw [← unhide SC] at quadA; have QA := hide quadA; have BA := hide ((unhide B9).trans belA); obtain ⟨aA, capA, rfl⟩ := own_slice ownA; clear ownA growA stayA quadA belA Q9 B9) | fail)
            have HE := hide (cat_le d c (unhide HD) (unhide HC) n)
            generalize cat d n c = f at *
            have nj : n + j ≤ 600 := by omega
            generalize hN : n + j = N at *
            clear hN SC CC
            refine (ans7 _).mono ?_
            rintro e wB ⟨rfl, belB⟩
            have QB := hide ((unhide QA).below belB)
            have BB := hide ((unhide BA).trans (belB.mono (unhide BA).size))
            clear belB QA BA
            go_wp2_with fail
            refine (quad_len wB w.heap.size g h _ _ _ _ _ _ _ _ _ _ (unhide QB) (by omega)).mono ?_
            rintro e wC ⟨rfl, nC, rfl⟩
            have QC := hide ((unhide QB).drewN nC)
            have BC := hide (below_drewN (unhide BB) nC)
            clear QB BB
            generalize wB.drewN nC = wC at *
            go_wp2_with fail
            refine (quad_bytes wC w.heap.size g h _ _ _ _ _ _ _ _ _ _ (unhide QC) (by omega)).mono ?_
            rintro e wD ⟨vD, rfl, srcD, belD⟩
            have SD := hide srcD
            have QD := hide ((unhide QC).below belD)
            have BD := hide ((unhide BC).trans (belD.mono (unhide BC).size))
            clear srcD belD QC BC
            go_wp2_with fail
            refine (rbytes13 _ N f (unhide HE) wD (src_of_own (unhide QD).own) (by omega)).mono ?_
            rintro e wE ⟨vE, rfl, ownE, belE⟩
            have SE1 := hide (src_of_own ownE)
            have SE2 := hide ((unhide SD).keep (Upd.ofBelow (S := fun _ => False) belE) (fun _ h => h.elim))
            have QE := hide ((unhide QD).below belE)
            have BE := hide ((unhide BD).trans (belE.mono (unhide BD).size))
            clear ownE belE QD BD SD
            go_wp2_with fail
            refine (same12 vD vE _ _ wE (unhide SE2) (unhide SE1) (by omega)).mono ?_
            rintro e wF ⟨rfl, nF, rfl⟩
            have QF := hide ((unhide QE).drewN nF)
            have BF := hide (below_drewN (unhide BE) nF)
            clear QE BE SE1 SE2
            generalize wE.drewN nF = wF at *
            go_wp2_with fail
            refine (quad_bytes wF w.heap.size h g _ _ _ _ _ _ _ _ _ _ (unhide QF).symm (by omega)).mono ?_
            rintro e wG ⟨vG, rfl, srcG, belG⟩
            have SG := hide srcG
            have QG := hide ((unhide QF).below belG)
            have BG := hide ((unhide BF).trans (belG.mono (unhide BF).size))
            clear srcG belG QF BF
            go_wp2_with fail
            refine (rbytes13 _ j c (unhide HC) wG (src_of_own (unhide QG).symm.own) (by omega)).mono ?_
            rintro e wH ⟨vH, rfl, ownH, belH⟩
            have SH1 := hide (src_of_own ownH)
            have SH2 := hide ((unhide SG).keep (Upd.ofBelow (S := fun _ => False) belH) (fun _ h => h.elim))
            have BH := hide ((unhide BG).trans (belH.mono (unhide BG).size))
            clear ownH belH QG BG SG
            go_wp2_with fail
            refine (same12 vG vH _ _ wH (unhide SH2) (unhide SH1) (by omega)).mono ?_
            rintro e wI ⟨rfl, nI, rfl⟩
            go_wp2
            go_ret
            exact ⟨rfl, below_drewN (unhide BH) nI⟩

set_option maxRecDepth 100000 in
theorem lifted (os : Os) (started : os.Started) (H : Type) (enc : TypeId × Value → H) :
    ReturnsInHanded {} Try.checked os 4 .any (Rows.bitoutJoinsSpec.pre6 enc Try.prog Try.f4 Rows.bitoutJoinsRow.domain false) (Rows.bitoutJoinsSpec.post enc Try.prog Try.f4 false true false false) := by
  refine returnsInHanded_of_change (C := Try.checked) own started (by kernel_rfl) Try.func4
    (ChangeSpec.witness6 (enc := enc) (C := Try.checked) false ⟨#[], #[.slice none 0 0, .slice none 0 0, .bool false], []⟩ 8 (by kernel_rfl) (by kernel_rfl) (by kernel_rfl) (by kernel_rfl)) ?_
  intro W base args ds gs before hval0 hW hcnd _
  have hval : ∀ (j : Nat) t v, Try.f4.params[j]? = some t → args[j]? = some v → Value.okWide Try.prog W .any base t v := hval0
  have hW' := hW
  obtain ⟨p, q, hA0, hV, rfl, hfz, hnd⟩ := hW
  have hA : DataW.TrodAll enc Try.prog W 0 (fun _ => true) true Try.f4.params.toList args.toList ds p := hA0
  rw [Try.params4] at hA hval
  obtain ⟨v0, vs0, d0, ds0, p0, q0, hargs, rfl, rfl, h0, r0⟩ := trodAll_cons hA
  obtain ⟨v1, vs1, d1, ds1, p1, q1, rfl, rfl, rfl, h1, r1⟩ := trodAll_cons r0
  obtain ⟨v2, vs2, d2, ds2, p2, q2, rfl, rfl, rfl, h2, r2⟩ := trodAll_cons r1
  obtain ⟨rfl, rfl, rfl⟩ := trodAll_nil r2
  obtain rfl : args = #[v0, v1, v2] := by cases args; simp_all
  obtain ⟨rfl, rfl⟩ := trodVars_none hV
  obtain ⟨a0, len0, cap0, rfl⟩ := okWide_slice Try.underlying37 (hval 0 37 v0 rfl rfl)
  have k0 := h0
  have lt0 : ∀ x ∈ p0, x.block < W.heap.size := by obtain ⟨m, hm⟩ := k0; exact DataW.trod_lt m _ _ _ hm
  obtain ⟨z0, w0⟩ : ∃ zs, IsBools W a0 len0 cap0 zs := by
    obtain ⟨fuel, hf⟩ := h0
    rcases Go.Deep.open_bools Try.underlying37 Try.underlying4 (by kernel_rfl) hf with ⟨hcs, _⟩ | ⟨x, l, c, zs, hcs, _, hl, hm, _, hcell⟩
    · simp [Value.cells] at hcs
      obtain ⟨rfl, rfl, rfl⟩ := hcs
      exact ⟨fun _ => false, .inl ⟨rfl, rfl, rfl⟩⟩
    · simp [Value.cells] at hcs
      obtain ⟨rfl, rfl, rfl⟩ := hcs
      exact ⟨zs, .inr ⟨_, rfl, hl, hm, hcell⟩⟩
  obtain ⟨a1, len1, cap1, rfl⟩ := okWide_slice Try.underlying37 (hval 1 37 v1 rfl rfl)
  have k1 := h1
  have lt1 : ∀ x ∈ p1, x.block < W.heap.size := by obtain ⟨m, hm⟩ := k1; exact DataW.trod_lt m _ _ _ hm
  obtain ⟨z1, w1⟩ : ∃ zs, IsBools W a1 len1 cap1 zs := by
    obtain ⟨fuel, hf⟩ := h1
    rcases Go.Deep.open_bools Try.underlying37 Try.underlying4 (by kernel_rfl) hf with ⟨hcs, _⟩ | ⟨x, l, c, zs, hcs, _, hl, hm, _, hcell⟩
    · simp [Value.cells] at hcs
      obtain ⟨rfl, rfl, rfl⟩ := hcs
      exact ⟨fun _ => false, .inl ⟨rfl, rfl, rfl⟩⟩
    · simp [Value.cells] at hcs
      obtain ⟨rfl, rfl, rfl⟩ := hcs
      exact ⟨zs, .inr ⟨_, rfl, hl, hm, hcell⟩⟩
  obtain ⟨a2, rfl, rfl, rfl⟩ := open_bool Try.underlying4 (hval 2 4 v2 rfl rfl) h2
  clear hA0 hval0
  refine (walk a0 len0 cap0 z0 a1 len1 cap1 z1 a2 W w0 w1).mono fun e W' ⟨he, bel⟩ => ?_
  subst he
  exact ⟨_, rfl, _, _, _, [], _, [], hW', trodAll_mk1 (shut_bool Try.underlying4 _), (trodAll_cons_mk (Below.trod laidOut (by kernel_rfl) (of_decide_eq_true (by kernel_rfl)) k0 bel lt0) (trodAll_cons_mk (Below.trod laidOut (by kernel_rfl) (of_decide_eq_true (by kernel_rfl)) k1 bel lt1) (trodAll_cons_mk (shut_bool Try.underlying4 _) trodAll_mk0))), rfl, bel.frame _, fun h => by cases h⟩

theorem over : Rows.bitoutJoinsRow.holds Try.pinned (OpenSpec.ofChange Rows.bitoutJoinsSpec) :=
  OpenClaim.holds_of_wide 4 Try.f4 rfl rfl rfl rfl rfl rfl rfl ⟨rfl, rfl, rfl, rfl, rfl⟩ rfl rfl rfl rfl rfl (by kernel_rfl) Try.func4 (by kernel_rfl)
    (of_decide_eq_true (by kernel_rfl)) (by unfold Func.isWrapper; first | (rw [if_pos (by decide +kernel)]; kernel_rfl) | (rw [if_neg (by decide +kernel)]; exact ⟨rfl, rfl⟩))
    (fun os started H enc _ => lifted os started H enc)

/-- The statement. -/
theorem proved : Rows.BitoutJoinsSaid := over
#print axioms proved
end Go.Proofs.Ytieaglncimfelaa.bitoutJoins
