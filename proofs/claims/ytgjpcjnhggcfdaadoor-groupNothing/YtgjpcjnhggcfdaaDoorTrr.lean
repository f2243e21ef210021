/- Contracts: tree.Read by the state that the reader is in. Conditions: the tree and the reader lie apart in memory, the reader's bytes are few. -/
import Derived.Test.YtgjpcjnhggcfdaaDoorTre
namespace Go.Proofs.YtgjpcjnhggcfdaaDoor.Trr
open Go.ChangeShapes Go.WideShapes Go.ChangeAt Go.RowKit Go.Proofs.YtgjpcjnhggcfdaaDoor.Core Go.Proofs.YtgjpcjnhggcfdaaDoor.Math Go.Proofs.YtgjpcjnhggcfdaaDoor.Rvm Go.Proofs.YtgjpcjnhggcfdaaDoor.Rev Go.Proofs.YtgjpcjnhggcfdaaDoor.Dec Go.Proofs.YtgjpcjnhggcfdaaDoor.Wrd Go.Proofs.YtgjpcjnhggcfdaaDoor.Cou Go.Proofs.YtgjpcjnhggcfdaaDoor.Ord Go.Proofs.YtgjpcjnhggcfdaaDoor.Tre Go.Proofs.YtgjpcjnhggcfdaaDoor.Bitin Go.Proofs.YtgjpcjnhggcfdaaDoor.Eyes

theorem empty_nil (w : World) : Calls Tryd.prog 32 #[.pointer none] w fun e w' => e = .returned (.bool true) ∧ w' = w := by
  go_enter Tryd.func32, Tryd.ntmps32
  go_wp2
  go_ret
  exact ⟨rfl, rfl⟩
theorem empty28 (lo hi g n : Nat) (c : Nat → Int) (w : World) (h : Tr w lo hi g c n) : Calls Tryd.prog 32 #[.pointer (some ⟨g, 0, none⟩)] w fun e w' => e = .returned (.bool false) ∧ w' = w := by
  obtain ⟨h1, h2, h3, tb, sb, le, a1, a2, a3, a4, a5, a6, a7, a8, a9, a10⟩ := h
  have c1 := (a8.cell 1).trans (tc_1 _ _ _ _)
  have hpos : ¬ ((bel (qq c n) n 16 : Nat) : Int) = 0 := by
    have x1 : bel (qq c n) n (le + 1) = bel (qq c n) n le + cq (qq c n) le n := rfl
    have x2 := bel_mono (qq c n) n (show le + 1 ≤ 16 by omega)
    omega
  clear a8 a9 a10 a6 a7
  generalize bel (qq c n) n 16 = z at *
  go_enter Tryd.func32, Tryd.ntmps32
  go_wp2
  go_ret
  refine ⟨ret_bool ?_, rfl⟩
  simp
  omega
theorem read_nil (r : Value) (w : World) : Calls Tryd.prog 21 #[.pointer none, r] w fun e w' => e = .returned (.tuple #[.int .i64 0, .int .i64 1]) ∧ w' = w := by
  go_enter Tryd.func21, Tryd.ntmps21
  go_wp2_with fail
  refine (empty_nil w).mono ?_
  rintro e w1 ⟨rfl, rfl⟩
  go_wp2
  go_ret2
  exact ⟨rfl, rfl⟩
theorem read_off (lo hi g n : Nat) (c : Nat → Int) (rl rh r bl : Nat) (bc : Nat → Nat) (w : World) (h : Tr w lo hi g c n) (hr : At w rl rh r bc bl none) :
    Calls Tryd.prog 21 #[.pointer (some ⟨g, 0, none⟩), .pointer (some ⟨r, 0, none⟩)] w fun e w' => e = .returned (.tuple #[.int .i64 0, .int .i64 2]) ∧ w' = w := by
  have E := hide (empty28 lo hi g n c w h)
  have O := hide (over_step rl rh r bl none bc w hr)
  clear h hr
  go_enter Tryd.func21, Tryd.ntmps21
  go_wp2_with fail
  refine (unhide E).mono ?_
  rintro e w1 ⟨rfl, rfl⟩
  go_wp2_with fail
  refine (unhide O).mono ?_
  rintro e w1 ⟨rfl, rfl⟩
  go_wp2
  go_ret2
  exact ⟨rfl, rfl⟩
set_option maxHeartbeats 1000000 in
theorem read_one (lo hi g n : Nat) (c : Nat → Int) (rl rh r bl i : Nat) (bc : Nat → Nat) (hc : ∀ k, bc k ≤ 255) (hbl : bl ≤ 1000000) (w : World) (h : Tr w lo hi g c n) (hr : At w rl rh r bc bl (some i)) (hrg : r < lo ∨ hi ≤ r) (hm : many c n = 1) :
    Calls Tryd.prog 21 #[.pointer (some ⟨g, 0, none⟩), .pointer (some ⟨r, 0, none⟩)] w fun e w' => e = .returned (.tuple #[.int .i64 (sel c n), .int .i64 0]) ∧ At w' rl rh r bc bl (some i) ∧ Upd (fun k => k = r) w w' := by
  have E := hide (empty28 lo hi g n c w h)
  have O := hide (over_step rl rh r bl (some i) bc w hr)
  have BI := hide (bits_step rl rh r bl 0 (some i) bc hc w hr hbl (by omega))
  have hile := On.le hr.2.2.2
  have TR := hide h
  obtain ⟨h1, h2, h3, tb, sb, le, a1, a2, a3, a4, a5, a6, a7, a8, a9, a10⟩ := h
  obtain ⟨s1, s2, s3⟩ := (sel_one n).2 hm
  have hqs := qq_one hm s2
  have hc0 := cq_lt (m := 0) s1 hqs
  have hle : le = 0 := by
    rcases Nat.eq_zero_or_pos le with h | h
    · exact h
    · have := a7 0 h
      omega
  subst hle
  have hk0 : cq (qq c n) 0 (sel c n) = 0 := by
    have : ∀ j, j ≤ sel c n → cq (qq c n) 0 j = 0 := by
      intro j
      induction j with
      | zero => intro _; rfl
      | succ j ih =>
        intro hj
        have hz := s3 j (by omega) (by omega)
        have hq : qq c n j = -1 := by unfold qq; rw [if_pos hz]
        rw [cq_not (by rw [hq]; omega)]
        exact ih (by omega)
    exact this _ (Nat.le_refl _)
  have hps : ps (qq c n) n (sel c n) = 0 := by
    rw [ps_of (m := 0) hqs, hk0]
    rfl
  have cs := a10 (sel c n) s1 (by omega)
  rw [hps] at cs
  have c1 := (a8.cell 1).trans (tc_1 _ _ _ _)
  have c2 : w.cell? ⟨g, 2, none⟩ = some (.int .i64 (cq (qq c n) 0 n)) := (a8.cell (2 + 0)).trans (tc_at _ _ _ _ 0 (by omega))
  have c18 := (a8.cell 18).trans (tc_18 _ _ _ _)
  have hpos : 0 < bel (qq c n) n 16 := by
    have x1 : bel (qq c n) n (0 + 1) = bel (qq c n) n 0 + cq (qq c n) 0 n := rfl
    have x2 := bel_mono (qq c n) n (show 0 + 1 ≤ 16 by omega)
    omega
  have hc1 : (0 : Int) < ((cq (qq c n) 0 n : Nat) : Int) := by omega
  have hpos' : (0 : Int) < ((bel (qq c n) n 16 : Nat) : Int) := by omega
  clear a8 a9 a10 a6 a7 hr hps hk0 hqs s2 s3
  generalize cq (qq c n) 0 n = y at *
  generalize bel (qq c n) n 16 = z at *
  generalize sel c n = t at *
  go_enter Tryd.func21, Tryd.ntmps21
  go_wp2_with fail
  refine (unhide E).mono ?_
  rintro e w1 ⟨rfl, rfl⟩
  go_wp2_with fail
  refine (unhide O).mono ?_
  rintro e w1 ⟨rfl, rfl⟩
  go_wp2_with fail
  refine (unhide BI).mono ?_
  rintro e w2 ⟨rfl, at2, u2⟩
  have hv : resV bc bl (some i) 0 = 0 := by
    simp [resV, val, Nat.mod_one]
  have he : resE bl (some i) 0 = 0 := rfl
  have hs : stp bl (some i) 0 = some i := rfl
  rw [hs] at at2
  rw [hv, he]
  have hne : ∀ k, lo ≤ k → k < hi → ¬ k = r := fun k h4 h5 h6 => by omega
  have d1 := (u2.cell (p := ⟨g, 1, none⟩) (Nat.lt_of_lt_of_le h2 h3) (hne g h1 h2)).trans c1
  have d2 := (u2.cell (p := ⟨g, 2, none⟩) (Nat.lt_of_lt_of_le h2 h3) (hne g h1 h2)).trans c2
  have d18 := (u2.cell (p := ⟨g, 18, none⟩) (Nat.lt_of_lt_of_le h2 h3) (hne g h1 h2)).trans c18
  have ds := (u2.cell (p := ⟨sb, 0, none⟩) (Nat.lt_of_lt_of_le a4 h3) (hne sb a3 a4)).trans cs
  have AT := hide at2
  have U2 := hide u2
  clear at2 u2 c1 c2 c18 cs hne BI O E TR
  go_wp2_with fail
  refine (turned31 0 0 w2 (by omega) (by omega)).mono ?_
  rintro e w3 ⟨rfl, rfl⟩
  have hrv : rv 0 0 = 0 := rfl
  rw [hrv]
  go_wp2
  go_loopw [7, 8, 9, 10] (fun e a s l wr => e = .int .i64 0 ∧ a = .int .i64 0 ∧ s = .int .i64 0 ∧ l = .int .i64 0 ∧ wr = w3) (fun _ _ _ _ _ => 0)
  case atStart => exact ⟨rfl, rfl, rfl, rfl, rfl⟩
  case round =>
    obtain ⟨rfl, rfl, rfl, rfl, rfl⟩ := hrel
    go_wp2
    go_ret2
    exact ⟨rfl, unhide AT, unhide U2⟩
/-- What Read answers, and what state the reader is in, of symbol k by L bits. -/
def outV (bl i L k : Nat) : Int := if i + L ≤ 8 * bl then (k : Int) else 0
def outE (bl i L : Nat) : Int := if i + L ≤ 8 * bl then 0 else 2
def outS (bl i L : Nat) : Option Nat := if i + L ≤ 8 * bl then some (i + L) else none
theorem or_bit2 (x b : Nat) (hb : b ≤ 1) (hx : x ≤ 1000000) : bits .or .i64 ((x : Int) * 2) (b : Int) = ((2 * x + b : Nat) : Int) := by
  have e : (x : Int) * 2 = ((x * 2 : Nat) : Int) := by omega
  rw [e]
  show IntKind.i64.wrap ((BitVec.ofInt 64 ((x * 2 : Nat) : Int) ||| BitVec.ofInt 64 (b : Int)).toNat : Int) = _
  rw [BitVec.toNat_or, ofInt_u64 (x * 2) (by omega), ofInt_u64 b (by omega), nat_join 1 (x * 2) b (by omega) (by omega)]
  rw [IntKind.wrap_i64]
  omega
set_option maxHeartbeats 2000000 in
theorem read_many (lo hi g n : Nat) (c : Nat → Int) (rl rh r bl i L k : Nat) (bc : Nat → Nat) (hc : ∀ k, bc k ≤ 255) (hbl : bl ≤ 1000000) (w : World) (h : Tr w lo hi g c n) (hr : At w rl rh r bc bl (some i)) (hrg : r < lo ∨ hi ≤ r) (hn : n ≤ 100000)
    (hm : many c n ≠ 1) (st : Stop c n (fun j => bt bc (i + j)) L) (hk : k < n) (hck : c k = (L : Int)) (hcod : cod c n k = vm (fun j => bt bc (i + j)) L) :
    Calls Tryd.prog 21 #[.pointer (some ⟨g, 0, none⟩), .pointer (some ⟨r, 0, none⟩)] w fun e w' => e = .returned (.tuple #[.int .i64 (outV bl i L k), .int .i64 (outE bl i L)]) ∧ At w' rl rh r bc bl (outS bl i L) ∧ Upd (fun k => k = r) w w' := by
  have E := hide (empty28 lo hi g n c w h)
  have O := hide (over_step rl rh r bl (some i) bc w hr)
  have hile := On.le hr.2.2.2
  have TR := hide h
  obtain ⟨h1, h2, h3, tb, sb, le, a1, a2, a3, a4, a5, a6, a7, a8, a9, a10⟩ := h
  have BI := hide (bits_step rl rh r bl le (some i) bc hc w hr hbl (by omega))
  have hcq : ∀ m j, cq (qq c n) m j = cnt c m j := fun m j => cq_cnt hm m j
  have hlow : ∀ j, j < le → cnt c j n = 0 := fun j hj => by rw [← hcq]; exact a7 j hj
  have hleL := st.least hlow
  have hfst := fst_none hlow le (Nat.le_refl _)
  have hpk : ps (qq c n) n k = bel (qq c n) n L + (vm (fun j => bt bc (i + j)) L - fst c n L) := by
    have hq : qq c n k = (L : Int) := by rw [qq_many hm (by have := st.pos; omega)]; exact hck
    have e := cod_of (n := n) L hck (by have := st.pos; omega)
    rw [ps_of hq, hcq]
    omega
  have hpt := ps_tot (q := qq c n) hk (by rw [qq_many hm (by have := st.pos; omega)]; omega) (by rw [qq_many hm (by have := st.pos; omega)]; have := st.le; omega)
  have hsy := a10 k hk (by rw [qq_many hm (by have := st.pos; omega)]; omega)
  have c1 := (a8.cell 1).trans (tc_1 _ _ _ _)
  have cm : ∀ m, m < 16 → w.cell? ⟨g, 2 + m, none⟩ = some (.int .i64 (cnt c m n)) := fun m hm' => by
    rw [← hcq]
    exact (a8.cell (2 + m)).trans (tc_at _ _ _ _ m hm')
  have c18 := (a8.cell 18).trans (tc_18 _ _ _ _)
  have hle15 := st.le
  have hpos := st.pos
  have ST := hide st
  have BEL := hide (show ∀ m, bel (qq c n) n (m + 1) = bel (qq c n) n m + cnt c m n from fun m => by rw [← hcq]; rfl)
  have BLE := hide (fun m => bel_le (qq c n) n m)
  have hne : ∀ k, lo ≤ k → k < hi → ¬ k = r := fun k h4 h5 h6 => by omega
  have CM := hide cm
  have C1 := hide c1
  have HS := hide hsy
  have HP := hide hpk
  have HPT := hide hpt
  have HL := hide hlow
  have VRV := hide (vm_rv bc hc bl i le)
  have VLT := hide (fun m => vm_lt (b := fun j => bt bc (i + j)) (fun j => bt_le bc _) m)
  clear a8 a9 a10 a6 a7 hr hsy hpk hpt cm c1 st hcq hlow hck hcod
  go_enter Tryd.func21, Tryd.ntmps21
  go_wp2_with fail
  refine (unhide E).mono ?_
  rintro e w1 ⟨rfl, rfl⟩
  go_wp2_with fail
  refine (unhide O).mono ?_
  rintro e w1 ⟨rfl, rfl⟩
  go_wp2_with fail
  refine (unhide BI).mono ?_
  rintro e w2 ⟨rfl, at2, u2⟩
  have d18 := (u2.cell (p := ⟨g, 18, none⟩) (Nat.lt_of_lt_of_le h2 h3) (hne g h1 h2)).trans c18
  have AT := hide at2
  have U2 := hide u2
  have hvl : resV bc bl (some i) le < 4294967296 := by
    unfold resV
    simp only
    split
    · exact Nat.lt_of_lt_of_le (val_lt _ _ _ _) (Nat.pow_le_pow_right (n := 2) (j := 32) (by omega) (by omega))
    · omega
  have T := hide (turned31 (resV bc bl (some i) le) le w2 hvl (by omega))
  have RVL := hide (rv_lt le (resV bc bl (some i) le))
  have hrvb : rv le (resV bc bl (some i) le) ≤ 32768 := by
    have x1 := unhide RVL
    have x2 : 2 ^ le ≤ 2 ^ 15 := Nat.pow_le_pow_right (by omega) a5
    omega
  have HV : Hid (i + le ≤ 8 * bl → rv le (resV bc bl (some i) le) = vm (fun j => bt bc (i + j)) le) := fun hh => by
    rw [← unhide VRV hh]
    congr 1
    unfold resV
    simp only
    rw [if_pos hh]
  have HE : Hid (resE bl (some i) le = if i + le ≤ 8 * bl then 0 else 2) := by
    unfold Hid resE
    by_cases h0 : le = 0
    · subst h0
      rw [if_pos rfl, if_pos (by omega)]
    · rw [if_neg h0]
  have HSS : Hid (stp bl (some i) le = if i + le ≤ 8 * bl then some (i + le) else none) := by
    unfold Hid stp
    by_cases h0 : le = 0
    · subst h0
      rw [if_pos rfl, if_pos (by omega)]
      rfl
    · rw [if_neg h0]
  have hee : resE bl (some i) le = 0 ∨ resE bl (some i) le = 2 := by
    rw [unhide HE]
    split
    · exact .inl rfl
    · exact .inr rfl
  clear at2 u2 c18 BI O E TR RVL VRV
  generalize hX : rv le (resV bc bl (some i) le) = X at *
  clear hX
  generalize resV bc bl (some i) le = Y at *
  generalize resE bl (some i) le = Z at *
  generalize stp bl (some i) le = SS at *
  go_wp2_with fail
  refine (unhide T).mono ?_
  rintro e w3 ⟨rfl, rfl⟩
  go_wp2
  go_loopw [7, 8, 9, 10] (fun e a s l wr => ∃ (m E A : Nat), l = .int .i64 m ∧ e = .int .i64 E ∧ a = .int .i64 A ∧ s = .int .i64 (bel (qq c n) n m) ∧ le ≤ m ∧ (E = 0 ∨ E = 2) ∧ Upd (fun k => k = r) w1 wr ∧
    (E = 0 → m ≤ L ∧ i + m ≤ 8 * bl ∧ A + fst c n m = vm (fun j => bt bc (i + j)) m ∧ At wr rl rh r bc bl (some (i + m))) ∧ (E = 2 → 8 * bl < i + L ∧ At wr rl rh r bc bl none)) (fun _ _ _ l _ => 20 - (intOf l).toNat)
  case atStart =>
    refine ⟨le, Z, X, rfl, rfl, rfl, ?_, Nat.le_refl _, hee, unhide U2, fun h0 => ?_, fun h0 => ?_⟩
    · have hz : ∀ m, m ≤ le → bel (qq c n) n m = 0 := by
        intro m
        induction m with
        | zero => intro _; rfl
        | succ m ih =>
          intro hm'
          rw [unhide BEL m, ih (by omega), unhide HL m (by omega)]
      rw [hz le (Nat.le_refl _)]
      rfl
    · subst h0
      have e1 := unhide HE
      by_cases hh : i + le ≤ 8 * bl
      · have e2 := unhide HSS
        rw [if_pos hh] at e2
        refine ⟨hleL, hh, ?_, ?_⟩
        · rw [unhide HV hh, hfst]
          rfl
        · have := unhide AT
          rw [e2] at this
          exact this
      · rw [if_neg hh] at e1
        omega
    · subst h0
      have e1 := unhide HE
      by_cases hh : i + le ≤ 8 * bl
      · rw [if_pos hh] at e1
        omega
      · have e2 := unhide HSS
        rw [if_neg hh] at e2
        refine ⟨by omega, ?_⟩
        have := unhide AT
        rw [e2] at this
        exact this
  case round =>
    obtain ⟨m, E, A, rfl, rfl, rfl, rfl, hlm, hE, up, on, off⟩ := hrel
    have UP := hide up
    rcases hE with rfl | rfl
    · obtain ⟨m1, m2, m3, at3⟩ := on rfl
      have AT3 := hide at3
      have cw := (up.cell (p := ⟨g, 2 + m, none⟩) (Nat.lt_of_lt_of_le h2 h3) (hne g h1 h2)).trans (unhide CM m (by omega))
      have c1w := (up.cell (p := ⟨g, 1, none⟩) (Nat.lt_of_lt_of_le h2 h3) (hne g h1 h2)).trans (unhide C1)
      have csw := (up.cell (p := ⟨sb, ps (qq c n) n k, none⟩) (Nat.lt_of_lt_of_le a4 h3) (hne sb a3 a4)).trans (unhide HS)
      have hm16 : (m : Int) < 16 := by omega
      have hbb := unhide BLE m
      have hbm : m * n ≤ 15 * 100000 := Nat.mul_le_mul (by omega) hn
      have hcn := cnt_le c m n
      have vb := unhide VLT m
      have vb2 : 2 ^ m ≤ 2 ^ 15 := Nat.pow_le_pow_right (by omega) (by omega)
      clear up on off at3 d18 AT U2 T hee HE HSS HV hrvb hvl
      by_cases hmL : m = L
      · subst hmL
        have hlt := (unhide ST).lt
        have hA : (A : Int) < ((cnt c m n : Nat) : Int) := by omega
        have hidx : ps (qq c n) n k = bel (qq c n) n m + A := by rw [unhide HP]; omega
        have hpt := unhide HPT
        rw [hidx] at csw hpt
        clear hidx hlt
        generalize bel (qq c n) n m = x at *
        generalize bel (qq c n) n 16 = tot at *
        generalize cnt c m n = y at *
        have hxt : (x : Int) + (A : Int) < (tot : Int) := by omega
        have M2 := hide m2
        go_wp2
        go_ret2
        refine ⟨?_, ?_, unhide UP⟩
        · simp [outV, outE, unhide M2]
        · unfold outS
          rw [if_pos (unhide M2)]
          exact unhide AT3
      · have hge := (unhide ST).ge m (by omega)
        have hA : ((cnt c m n : Nat) : Int) ≤ (A : Int) := by omega
        have B1 := hide (bits_step rl rh r bl 1 (some (i + m)) bc hc wr (unhide AT3) hbl (by omega))
        have HB := hide (unhide BEL m)
        have HF := hide (show fst c n (m + 1) = (fst c n m + cnt c m n) * 2 from rfl)
        have HVM := hide (show vm (fun j => bt bc (i + j)) (m + 1) = 2 * vm (fun j => bt bc (i + j)) m + bt bc (i + m) from rfl)
        have hrv1 : resV bc bl (some (i + m)) 1 ≤ 1 := by
          unfold resV
          simp only
          split
          · have := val_lt bc bl (i + m) 1
            omega
          · omega
        have HRV : Hid (i + (m + 1) ≤ 8 * bl → resV bc bl (some (i + m)) 1 = bt bc (i + m)) := fun hh => by
          unfold resV
          simp only
          rw [if_pos (by omega), bt_val bc hc bl (i + m) (by omega)]
        have HRE : Hid (resE bl (some (i + m)) 1 = if i + (m + 1) ≤ 8 * bl then 0 else 2) := by
          unfold Hid resE
          rw [if_neg (by omega)]
          rfl
        have HRS : Hid (stp bl (some (i + m)) 1 = if i + (m + 1) ≤ 8 * bl then some (i + (m + 1)) else none) := by
          unfold Hid stp
          rw [if_neg (by omega)]
          rfl
        have hre : resE bl (some (i + m)) 1 = 0 ∨ resE bl (some (i + m)) 1 = 2 := by
          rw [unhide HRE]
          split
          · exact .inl rfl
          · exact .inr rfl
        have M3 := hide m3
        have hAb : A ≤ 32768 := by omega
        clear csw c1w m3 hge
        generalize resV bc bl (some (i + m)) 1 = b at *
        generalize resE bl (some (i + m)) 1 = E at *
        generalize stp bl (some (i + m)) 1 = s at *
        generalize hx : bel (qq c n) n m = x at *
        generalize hy : cnt c m n = y at *
        obtain ⟨d, hd⟩ : ∃ d : Nat, A = y + d := ⟨A - y, by omega⟩
        have hor := or_bit2 d b hrv1 (by omega)
        have hAd : (A : Int) - (y : Int) = (d : Int) := by omega
        have HD := hide hd
        clear hx hy hd
        go_wp2_with fail
        refine (unhide B1).mono ?_
        rintro e w4 ⟨rfl, at4, u4⟩
        have AT4 := hide at4
        have U4 := hide u4
        clear at4 u4 B1
        go_wp2
        go_roundw
        case rel =>
          refine ⟨m + 1, E, 2 * d + b, by go_num, rfl, rfl, by rw [unhide HB]; go_num, by omega, hre, (unhide UP).trans (unhide U4), fun h0 => ?_, fun h0 => ?_⟩
          · subst h0
            have e1 := unhide HRE
            by_cases hh : i + (m + 1) ≤ 8 * bl
            · have e2 := unhide HRS
              rw [if_pos hh] at e2
              refine ⟨by omega, hh, ?_, ?_⟩
              · have x1 := unhide HF
                have x2 := unhide HVM
                have x3 := unhide M3
                have x4 := unhide HRV hh
                have x5 := unhide HD
                rw [x1, x2]
                omega
              · have := unhide AT4
                rw [e2] at this
                exact this
            · rw [if_neg hh] at e1
              omega
          · subst h0
            have e1 := unhide HRE
            by_cases hh : i + (m + 1) ≤ 8 * bl
            · rw [if_pos hh] at e1
              omega
            · have e2 := unhide HRS
              rw [if_neg hh] at e2
              refine ⟨by omega, ?_⟩
              have := unhide AT4
              rw [e2] at this
              exact this
        case measure => simp [intOf]; omega
    · obtain ⟨o1, at3⟩ := off rfl
      have AT3 := hide at3
      have O1 := hide o1
      clear up on off at3 d18 AT U2 T hee HE HSS HV hrvb hvl o1
      go_wp2
      go_ret2
      have hno : ¬ i + L ≤ 8 * bl := by have := unhide O1; omega
      refine ⟨?_, ?_, unhide UP⟩
      · simp [outV, outE, hno]
      · unfold outS
        rw [if_neg hno]
        exact unhide AT3
theorem read13 (lo hi g n : Nat) (c : Nat → Int) (rl rh r bl i L k : Nat) (bc : Nat → Nat) (hc : ∀ k, bc k ≤ 255) (hbl : bl ≤ 1000000) (w : World) (h : Tr w lo hi g c n) (hr : At w rl rh r bc bl (some i)) (hrg : r < lo ∨ hi ≤ r) (hn : n ≤ 100000)
    (nx : Nx c n (fun j => bt bc (i + j)) L k) :
    Calls Tryd.prog 21 #[.pointer (some ⟨g, 0, none⟩), .pointer (some ⟨r, 0, none⟩)] w fun e w' => e = .returned (.tuple #[.int .i64 (outV bl i L k), .int .i64 (outE bl i L)]) ∧ At w' rl rh r bc bl (outS bl i L) ∧ Upd (fun k => k = r) w w' := by
  rcases nx with ⟨hm, rfl, rfl⟩ | ⟨hm, st, hk, hck, hcod⟩
  · have hile := On.le hr.2.2.2
    refine (read_one lo hi g n c rl rh r bl i bc hc hbl w h hr hrg hm).mono ?_
    rintro e w' ⟨rfl, a, u⟩
    refine ⟨?_, ?_, u⟩
    · simp [outV, outE, hile]
    · unfold outS
      rw [if_pos (by omega)]
      exact a
  · exact read_many lo hi g n c rl rh r bl i L k bc hc hbl w h hr hrg hn hm st hk hck hcod
end Go.Proofs.YtgjpcjnhggcfdaaDoor.Trr
