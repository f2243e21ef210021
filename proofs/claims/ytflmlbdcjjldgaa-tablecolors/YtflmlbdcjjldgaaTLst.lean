/- Contracts: lists of colours that may be nil or empty: the document's Pixels, slices.Clone, table.Forth, table.Back. Conditions: at most a million colours. -/
import Derived.Test.YtflmlbdcjjldgaaPFun
import Derived.Test.YtflmlbdcjjldgaaTNil
import Derived.Test.YtflmlbdcjjldgaaLRef
import Derived.Test.YtflmlbdcjjldgaaIApp
namespace Go.Proofs.Ytflmlbdcjjldgaa.TLst
set_option linter.unusedVariables false
open Go.ChangeShapes Go.WideShapes Go.ChangeAt Go.RowKit Go.Sort Go.Proofs.Ytflmlbdcjjldgaa.Core Go.Proofs.Ytflmlbdcjjldgaa.PNum Go.Proofs.Ytflmlbdcjjldgaa.PFun Go.Proofs.Ytflmlbdcjjldgaa.PGoo Go.Proofs.Ytflmlbdcjjldgaa.Ims Go.Proofs.Ytflmlbdcjjldgaa.IApp Go.Proofs.Ytflmlbdcjjldgaa.LRef Go.Proofs.Ytflmlbdcjjldgaa.TNil

/-- A list of colours in memory, which may be nil. -/
def Lst (w : World) (v : Value) (n : Nat) (t : Nat → Nat) : Prop :=
  (v = .slice none 0 0 ∧ n = 0) ∨ ∃ x c, v = .slice (some x) n c ∧ ∀ i, i < n → w.cell? (x.add i) = some (.int .u32 (t i))
theorem Lst.below {w w' : World} {v : Value} {n : Nat} {t : Nat → Nat} (h : Lst w v n t) (u : Below w.heap.size w w') : Lst w' v n t := by
  rcases h with h | ⟨x, c, e, hc⟩
  · exact .inl h
  · exact .inr ⟨x, c, e, fun i hi => (u.cell (lt_of_cell (hc i hi))).trans (hc i hi)⟩
theorem Lst.congr {w : World} {v : Value} {n : Nat} {t t' : Nat → Nat} (h : Lst w v n t) (e : ∀ i, i < n → t i = t' i) : Lst w v n t' := by
  rcases h with h | ⟨x, c, h1, hc⟩
  · exact .inl h
  · exact .inr ⟨x, c, h1, fun i hi => by rw [← e i hi]; exact hc i hi⟩
theorem Lst.pos {w : World} {v : Value} {n : Nat} {t : Nat → Nat} (h : Lst w v n t) (hn : 0 < n) : ∃ b off c, v = .slice (some ⟨b, off, none⟩) n c ∧ Pixs w b off n t := by
  rcases h with ⟨_, h⟩ | ⟨x, c, rfl, hc⟩
  · omega
  · obtain ⟨b, off, spot⟩ := x
    have hspot : spot = none := by
      have h0 := hc 0 hn
      simpa [Addr.add] using World.cell?_spot h0
    subst hspot
    exact ⟨b, off, c, rfl, fun i hi => by rw [← Go.WideShapes.add_plain]; exact hc i hi⟩
theorem Lst.zero {w : World} {v : Value} {t : Nat → Nat} (h : Lst w v 0 t) : ∃ a c, v = .slice a 0 c ∧ (a = none → c = 0) := by
  rcases h with ⟨rfl, _⟩ | ⟨x, c, rfl, _⟩
  · exact ⟨_, _, rfl, fun _ => rfl⟩
  · exact ⟨_, _, rfl, fun e => by cases e⟩
theorem Lst.shape {w : World} {v : Value} {n : Nat} {t : Nat → Nat} (h : Lst w v n t) : ∃ a c, v = .slice a n c := by
  rcases h with ⟨rfl, rfl⟩ | ⟨x, c, rfl, _⟩
  · exact ⟨_, _, rfl⟩
  · exact ⟨_, _, rfl⟩
theorem lst_of_pixs {w : World} {b off n c : Nat} {t : Nat → Nat} (h : Pixs w b off n t) : Lst w (.slice (some ⟨b, off, none⟩) n c) n t := .inr ⟨_, c, rfl, fun i hi => by rw [Go.WideShapes.add_plain]; exact h i hi⟩
theorem lst_empty {w : World} {a : Option Addr} {c : Nat} {t : Nat → Nat} (h : a = none → c = 0) : Lst w (.slice a 0 c) 0 t := by
  cases a with
  | none => rw [h rfl]; exact .inl ⟨rfl, rfl⟩
  | some x => exact .inr ⟨x, c, rfl, fun i hi => by omega⟩
theorem lst_of_row {w : World} {a : Option Addr} {len cap : Nat} {zs : List Int}
    (h : (a = none ∧ len = 0 ∧ cap = 0 ∧ zs = []) ∨ ∃ x, a = some x ∧ len ≤ cap ∧ cap ≤ maxLen ∧ zs.length = cap ∧ (∀ i, i < zs.length → w.cell? (x.add i) = some (.int .u32 (zs.getD i 0))) ∧ ∀ n ∈ zs, (Lit.int .u32 n).wf = true) :
    ∃ t : Nat → Nat, Lst w (.slice a len cap) len t ∧ ∀ i, i < len → t i < 4294967296 := by
  rcases Nat.eq_zero_or_pos len with h0 | h0
  · refine ⟨fun _ => 0, ?_, fun i hi => by omega⟩
    subst h0
    refine lst_empty fun e => ?_
    rcases h with ⟨_, _, h3, _⟩ | ⟨x, h1, _⟩
    · exact h3
    · rw [e] at h1; cases h1
  · obtain ⟨b, off, z, rfl, hp, hz⟩ := pix_of h h0
    exact ⟨z, lst_of_pixs hp, hz⟩
theorem rpix_zero (a a' : Option Addr) (c c' : Nat) (w : World) : Calls Try.prog 12 #[.slice a 0 c, .slice a' 0 c'] w fun e w' => e = .returned (.bool true) ∧ Below w.heap.size w w' := by
  go_enter Try.func12, Try.ntmps12
  go_wp2
  go_loopw [5] (fun i wr => i = .int .i64 0 ∧ Below w.heap.size w wr) (fun i _ => 0)
  case atStart => exact ⟨rfl, Below.refl _ _⟩
  case round =>
    obtain ⟨rfl, B⟩ := hrel
    have BB := hide B
    clear B
    go_wp2
    go_ret
    exact ⟨rfl, unhide BB⟩
theorem rpix_lst {w : World} {v v' : Value} {n : Nat} {t : Nat → Nat} (h : Lst w v n t) (h' : Lst w v' n t) (hn : n ≤ 1000000) : Calls Try.prog 12 #[v, v'] w fun e w' => e = .returned (.bool true) ∧ Below w.heap.size w w' := by
  rcases Nat.eq_zero_or_pos n with h0 | h0
  · subst h0
    obtain ⟨a, c, rfl, _⟩ := h.zero
    obtain ⟨a', c', rfl, _⟩ := h'.zero
    exact rpix_zero a a' c c' w
  · obtain ⟨b, off, c, rfl, p⟩ := h.pos h0
    obtain ⟨b', off', c', rfl, p'⟩ := h'.pos h0
    exact rpix14 c c' p p' hn
theorem eql_nil (w : World) : (binOp .eql 22 (.slice none 0 0) (.slice none 0 0)).run Try.prog w = .ok (.bool true) w := by kernel_rfl
theorem eql_some (w : World) (a : Addr) (n c : Nat) : (binOp .eql 22 (.slice (some a) n c) (.slice none 0 0)).run Try.prog w = .ok (.bool false) w := by kernel_rfl
theorem clone25_nil (w : World) : Calls Try.prog 25 #[.slice none 0 0] w fun e w' => e = .returned (.slice none 0 0) ∧ w' = w := by
  have hq := eql_nil
  go_enter Try.func25, Try.ntmps25
  go_wp2
  go_ret
  exact ⟨rfl, rfl⟩
theorem clone25_some {x : Addr} {n : Nat} {t : Nat → Nat} (c : Nat) {w : World} (h : ∀ i, i < n → w.cell? (x.add i) = some (.int .u32 (t i))) (hn : n ≤ 1000000) :
    Calls Try.prog 25 #[.slice (some x) n c] w fun e w' => ∃ v, e = .returned v ∧ w'.ownsRow w.heap.size 31 1 v n (pcells t n) ∧ v ≠ .slice none 0 0 ∧ Below w.heap.size w w' := by
  have hq := fun w => eql_some w x n c
  obtain ⟨i0, hi, hz0, hz1, hz2⟩ := info_parts info22
  have NW : ∀ j u, (pcells t n)[j]? = some u → (w.alloc (.cells #[] 31)).cell? (x.add j) = some u := by
    intro j u hu
    have hj : j < n := by
      have := (List.getElem?_eq_some_iff.1 hu).1
      rwa [pcells_len] at this
    rw [pcells_at t n j hj] at hu
    rw [← hu]
    exact ((bel_a1 w (.cells #[] 31)).cell (lt_of_cell (h j hj))).trans (h j hj)
  have EL : n = (pcells t n).length := (pcells_len t n).symm
  have HE := hide EL
  have OE := own_empty w
  clear h EL
  go_enter Try.func25, Try.ntmps25
  go_wp2_with (first
    | (at_builtin; refine wpList_append_own _ rfl (.tmp 5) (.tmp 6) 22 rfl w.heap.size 31 i0 (.int .u32 0) 1 4 Try.underlying22 hi hz0 hz1 hz2 rfl (by decide) (.slice (some ⟨w.heap.size, 0, none⟩) 0 0) 0 [] rfl OE x n c (pcells t n) rfl (by rw [pcells_len, Nat.mul_one]) NW (pc_one t n) (by unfold maxLen; omega) (by omega) (by simp) ?_; intro v' w3 hown' hg3 hnil3; go_frame)
    | go_in)
  go_ret
  rw [Nat.zero_add, List.nil_append] at hown'
  exact ⟨_, rfl, hown', fun e => by (have := (hnil3.1 e).1; cases this), (bel_a1 w _).grown hg3 (by simp) (fun k e => by cases e; exact Nat.le_refl _)⟩
/-- Each colour less the one ahead of it. -/
def foV (t : Nat → Nat) : Nat → Nat
  | 0 => t 0
  | k + 1 => subV (t (k + 1)) (t k)
/-- The table whose differences these are. -/
def baV (t : Nat → Nat) : Nat → Nat
  | 0 => t 0
  | k + 1 => addV (t (k + 1)) (baV t k)
theorem ba_fo {t : Nat → Nat} {n : Nat} (ht : ∀ i, i < n → t i < 4294967296) : ∀ i, i < n → baV (foV t) i = t i
  | 0, _ => rfl
  | k + 1, h => by
    show addV (subV (t (k + 1)) (t k)) (baV (foV t) k) = _
    rw [ba_fo ht k (by omega), add_sub _ (ht _ h)]
theorem fo_ba {t : Nat → Nat} {n : Nat} (ht : ∀ i, i < n → t i < 4294967296) : ∀ i, i < n → foV (baV t) i = t i
  | 0, _ => rfl
  | k + 1, h => by
    show subV (addV (t (k + 1)) (baV t k)) (baV t k) = _
    rw [sub_add _ (ht _ h)]
theorem clone25_pos {b off n : Nat} {t : Nat → Nat} (c : Nat) {w : World} (h : Pixs w b off n t) (h0 : 0 < n) (hn : n ≤ 1000000) :
    Calls Try.prog 25 #[.slice (some ⟨b, off, none⟩) n c] w fun e w' => ∃ g cap, e = .returned (.slice (some ⟨g, 0, none⟩) n cap) ∧ Pow w' g n t ∧ w.heap.size ≤ g ∧ Below w.heap.size w w' :=
  (clone25_some (t := t) c (fun i hi => by rw [Go.WideShapes.add_plain]; exact h i hi) hn).mono fun e w' hk => by
    obtain ⟨v, he, hr, _, hb⟩ := hk
    obtain ⟨g, cap, rfl, hp, h1, _⟩ := own_pow hr h0
    exact ⟨g, cap, he, hp, h1, hb⟩
theorem clone25_zero (a : Option Addr) (c : Nat) (w : World) (h : a = none → c = 0) :
    Calls Try.prog 25 #[.slice a 0 c] w fun e w' => ∃ a' c', e = .returned (.slice a' 0 c') ∧ (a' = none → c' = 0) ∧ Below w.heap.size w w' := by
  cases a with
  | none =>
    rw [h rfl]
    exact (clone25_nil w).mono fun e w' hk => ⟨_, _, hk.1, fun _ => rfl, by rw [hk.2]; exact Below.refl _ _⟩
  | some x =>
    refine (clone25_some (t := fun _ => 0) c (fun i hi => by omega) (by omega)).mono fun e w' hk => ?_
    obtain ⟨v, he, hr, hv, hb⟩ := hk
    rcases hr.2 with ⟨h1, _⟩ | ⟨g, cap, cur, rfl, _⟩
    · exact absurd h1 hv
    · exact ⟨_, _, he, fun e => (by cases e), hb⟩
theorem forth11_zero (a : Option Addr) (c : Nat) (w : World) (h : a = none → c = 0) :
    Calls Try.prog 11 #[.slice a 0 c] w fun e w' => ∃ a' c', e = .returned (.slice a' 0 c') ∧ (a' = none → c' = 0) ∧ Below w.heap.size w w' := by
  have K := hide (clone25_zero a c w h)
  go_enter Try.func11, Try.ntmps11
  go_wp2_with fail
  refine (unhide K).mono ?_
  rintro e w1 ⟨a1, c1, rfl, hc, b1⟩
  have HC := hide hc
  have B1 := hide b1
  clear hc b1 K
  go_wp2
  go_loopw [4] (fun i wr => i = .int .i64 1 ∧ Below w.heap.size w wr) (fun i _ => 0)
  case atStart => exact ⟨rfl, unhide B1⟩
  case round =>
    obtain ⟨rfl, B⟩ := hrel
    have BB := hide B
    clear B
    go_wp2
    go_ret
    exact ⟨_, _, rfl, unhide HC, unhide BB⟩
theorem back16_zero (a : Option Addr) (c : Nat) (w : World) (h : a = none → c = 0) :
    Calls Try.prog 16 #[.slice a 0 c] w fun e w' => ∃ a' c', e = .returned (.slice a' 0 c') ∧ (a' = none → c' = 0) ∧ Below w.heap.size w w' := by
  have K := hide (clone25_zero a c w h)
  go_enter Try.func16, Try.ntmps16
  go_wp2_with fail
  refine (unhide K).mono ?_
  rintro e w1 ⟨a1, c1, rfl, hc, b1⟩
  have HC := hide hc
  have B1 := hide b1
  clear hc b1 K
  go_wp2
  go_loopw [4] (fun i wr => i = .int .i64 1 ∧ Below w.heap.size w wr) (fun i _ => 0)
  case atStart => exact ⟨rfl, unhide B1⟩
  case round =>
    obtain ⟨rfl, B⟩ := hrel
    have BB := hide B
    clear B
    go_wp2
    go_ret
    exact ⟨_, _, rfl, unhide HC, unhide BB⟩
theorem set_kept1 {w : World} {gp b i j : Nat} {v u : Value} (h3 : b ≠ gp) (h : w.cell? ⟨b, j, none⟩ = some v) : (w.setCell ⟨gp, i, none⟩ u).cell? ⟨b, j, none⟩ = some v := by
  rw [cell_other h3]; exact h
/-- A row of which the first j are told by f, the others by t. -/
def mix (f t : Nat → Nat) (j i : Nat) : Nat := if i < j then f i else t i
theorem mix_one (t : Nat → Nat) (i : Nat) : t i = mix (foV t) t 1 i := by
  unfold mix
  by_cases h : i < 1
  · obtain rfl : i = 0 := by omega
    rw [if_pos h]; rfl
  · rw [if_neg h]
theorem mix_oneb (t : Nat → Nat) (i : Nat) : t i = mix (baV t) t 1 i := by
  unfold mix
  by_cases h : i < 1
  · obtain rfl : i = 0 := by omega
    rw [if_pos h]; rfl
  · rw [if_neg h]
theorem mix_set (f t : Nat → Nat) (j : Nat) : ∀ i, (if i = j then f j else mix f t j i) = mix f t (j + 1) i := by
  intro i
  unfold mix
  by_cases h : i = j
  · subst h; rw [if_pos rfl, if_pos (by omega)]
  · rw [if_neg h]
    by_cases h2 : i < j
    · rw [if_pos h2, if_pos (by omega)]
    · rw [if_neg h2, if_neg (by omega)]
theorem Pow.step {w w1 : World} {g n j v : Nat} {f t : Nat → Nat} (h : Pow w g n (mix f t j)) (u : Below w.heap.size w w1) (e : v = f j) : Pow (w1.setCell ⟨g, j, none⟩ (.int .u32 v)) g n (mix f t (j + 1)) := by
  subst e
  exact ((h.below u).set j (f j)).congr fun i _ => mix_set f t j i
set_option maxHeartbeats 1000000 in
theorem forth11_pos {b off n : Nat} {t : Nat → Nat} (c : Nat) {w : World} (h : Pixs w b off n t) (h0 : 0 < n) (hn : n ≤ 1000000) :
    Calls Try.prog 11 #[.slice (some ⟨b, off, none⟩) n c] w fun e w' => ∃ g cap, e = .returned (.slice (some ⟨g, 0, none⟩) n cap) ∧ Pow w' g n (foV t) ∧ Below w.heap.size w w' := by
  have K := hide (clone25_pos c h h0 hn)
  have PX := hide h
  have hb := h.lt h0
  clear h
  go_enter Try.func11, Try.ntmps11
  go_wp2_with fail
  refine (unhide K).mono ?_
  rintro e w1 ⟨g, cap, rfl, hp, hg, b1⟩
  have hne : b ≠ g := by omega
  have P1 := hide (show Pow w1 g n (mix (foV t) t 1) from hp.congr fun i hi => mix_one t i)
  have B1 := hide b1
  have HG := hide hg
  clear hp b1 K
  go_wp2
  go_loopw [4] (fun v wr => ∃ j : Nat, v = .int .i64 j ∧ 1 ≤ j ∧ j ≤ n ∧ Pow wr g n (mix (foV t) t j) ∧ Below w.heap.size w wr) (fun v _ => n - (intOf v).toNat)
  case atStart => exact ⟨1, rfl, Nat.le_refl _, h0, unhide P1, unhide B1⟩
  case round =>
    obtain ⟨j, rfl, hj1, hj, P, B⟩ := hrel
    have PP := hide P
    have BB := hide B
    clear P B P1 B1
    by_cases hlt : j < n
    · have hlt' : (j : Int) < (n : Int) := by omega
      obtain ⟨k, hk⟩ : ∃ k, j = k + 1 := ⟨j - 1, by omega⟩
      have HK := hide hk
      have EJ : IntKind.i64.wrap ((j : Int) - 1) = (k : Int) := by rw [hk]; simp [IntKind.wrap, IntKind.bits, IntKind.signed]; omega
      have hkn : (k : Int) < (n : Int) := by omega
      have c1 : wr.cell? ⟨b, off + j, none⟩ = some (.int .u32 (t j)) := (unhide PX).below (unhide BB) j hlt
      have c2 : wr.cell? ⟨b, off + k, none⟩ = some (.int .u32 (t k)) := (unhide PX).below (unhide BB) k (by omega)
      have hgl := lt_of_cell ((unhide PP) j hlt).1
      clear hk
      go_wp2_with fail
      go_region_held3 (fun w' => w'.cell? ⟨b, off + j, none⟩ = some (.int .u32 (t j)) ∧ w'.cell? ⟨b, off + k, none⟩ = some (.int .u32 (t k))) (first | exact ⟨set_kept1 hne k1, set_kept1 hne k2⟩ | exact ⟨k1, k2⟩ | go_keep) ((first | (go_at_call 26; refine (sub14 _ _ _).mono ?_; rintro e w5 ⟨rfl, b5⟩; have B5 := hide (bel_into (bel_dr (Below.refl _ _)) b5); have k1 := ((unhide B5).cell (p := ⟨b, off + j, none⟩) (lt_of_cell c1)).trans c1; have k2 := ((unhide B5).cell (p := ⟨b, off + k, none⟩) (lt_of_cell c2)).trans c2; have q := (((unhide PP).below (unhide B5)) j hlt).1; have qf := (((unhide PP).below (unhide B5)) j hlt).2; clear b5)))
      all_goals go_wp2
      all_goals go_roundw
      case rel => exact ⟨j + 1, by go_num, by omega, by omega, Pow.step (unhide PP) (unhide B5) (by rw [unhide HK]; rfl), (bel_into (unhide BB) (unhide B5)).setCell (p := ⟨g, j, none⟩) (unhide HG) _⟩
      case measure => simp [intOf]; omega
    · obtain rfl : j = n := by omega
      go_wp2
      go_ret
      exact ⟨g, cap, rfl, (unhide PP).congr fun i hi => by unfold mix; rw [if_pos hi], unhide BB⟩
theorem set_kept2 {w : World} {gp i j : Nat} {v u : Value} (h3 : j ≠ i) (h : w.cell? ⟨gp, j, none⟩ = some v) : (w.setCell ⟨gp, i, none⟩ u).cell? ⟨gp, j, none⟩ = some v := by
  rw [World.cell?_setCell_other _ _ _ _ (fun h => h3 (by cases h; rfl))]; exact h
set_option maxHeartbeats 1000000 in
theorem back16_pos {b off n : Nat} {t : Nat → Nat} (c : Nat) {w : World} (h : Pixs w b off n t) (h0 : 0 < n) (hn : n ≤ 1000000) :
    Calls Try.prog 16 #[.slice (some ⟨b, off, none⟩) n c] w fun e w' => ∃ g cap, e = .returned (.slice (some ⟨g, 0, none⟩) n cap) ∧ Pow w' g n (baV t) ∧ Below w.heap.size w w' := by
  have K := hide (clone25_pos c h h0 hn)
  have PX := hide h
  have hb := h.lt h0
  clear h
  go_enter Try.func16, Try.ntmps16
  go_wp2_with fail
  refine (unhide K).mono ?_
  rintro e w1 ⟨g, cap, rfl, hp, hg, b1⟩
  have hne : b ≠ g := by omega
  have P1 := hide (show Pow w1 g n (mix (baV t) t 1) from hp.congr fun i hi => mix_oneb t i)
  have B1 := hide b1
  have HG := hide hg
  clear hp b1 K
  go_wp2
  go_loopw [4] (fun v wr => ∃ j : Nat, v = .int .i64 j ∧ 1 ≤ j ∧ j ≤ n ∧ Pow wr g n (mix (baV t) t j) ∧ Below w.heap.size w wr) (fun v _ => n - (intOf v).toNat)
  case atStart => exact ⟨1, rfl, Nat.le_refl _, h0, unhide P1, unhide B1⟩
  case round =>
    obtain ⟨j, rfl, hj1, hj, P, B⟩ := hrel
    have PP := hide P
    have BB := hide B
    clear P B P1 B1
    by_cases hlt : j < n
    · have hlt' : (j : Int) < (n : Int) := by omega
      obtain ⟨k, hk⟩ : ∃ k, j = k + 1 := ⟨j - 1, by omega⟩
      have HK := hide hk
      have EJ : IntKind.i64.wrap ((j : Int) - 1) = (k : Int) := by rw [hk]; simp [IntKind.wrap, IntKind.bits, IntKind.signed]; omega
      have hkn : (k : Int) < (n : Int) := by omega
      have c1 : wr.cell? ⟨b, off + j, none⟩ = some (.int .u32 (t j)) := (unhide PX).below (unhide BB) j hlt
      have c2 : wr.cell? ⟨g, k, none⟩ = some (.int .u32 (baV t k)) := by have := ((unhide PP) k (by omega)).1; unfold mix at this; rwa [if_pos (by omega)] at this
      have hkj : k ≠ j := by omega
      have hgl := lt_of_cell ((unhide PP) j hlt).1
      clear hk
      go_wp2_with fail
      go_region_held3 (fun w' => w'.cell? ⟨b, off + j, none⟩ = some (.int .u32 (t j)) ∧ w'.cell? ⟨g, k, none⟩ = some (.int .u32 (baV t k))) (first | exact ⟨set_kept1 hne k1, set_kept2 hkj k2⟩ | exact ⟨k1, k2⟩ | go_keep) ((first | (go_at_call 29; refine (add12 _ _ _).mono ?_; rintro e w5 ⟨rfl, b5⟩; have B5 := hide (bel_into (bel_dr (Below.refl _ _)) b5); have k1 := ((unhide B5).cell (p := ⟨b, off + j, none⟩) (lt_of_cell c1)).trans c1; have k2 := ((unhide B5).cell (p := ⟨g, k, none⟩) (lt_of_cell c2)).trans c2; have q := (((unhide PP).below (unhide B5)) j hlt).1; have qf := (((unhide PP).below (unhide B5)) j hlt).2; clear b5)))
      all_goals go_wp2
      all_goals go_roundw
      case rel => exact ⟨j + 1, by go_num, by omega, by omega, Pow.step (unhide PP) (unhide B5) (by rw [unhide HK]; rfl), (bel_into (unhide BB) (unhide B5)).setCell (p := ⟨g, j, none⟩) (unhide HG) _⟩
      case measure => simp [intOf]; omega
    · obtain rfl : j = n := by omega
      go_wp2
      go_ret
      exact ⟨g, cap, rfl, (unhide PP).congr fun i hi => by unfold mix; rw [if_pos hi], unhide BB⟩
theorem forth11 {w : World} {v : Value} {n : Nat} {t : Nat → Nat} (h : Lst w v n t) (hn : n ≤ 1000000) :
    Calls Try.prog 11 #[v] w fun e w' => ∃ a c, e = .returned (.slice a n c) ∧ Lst w' (.slice a n c) n (foV t) ∧ Below w.heap.size w w' := by
  rcases Nat.eq_zero_or_pos n with h0 | h0
  · subst h0
    obtain ⟨a, c, rfl, hc⟩ := h.zero
    exact (forth11_zero a c w hc).mono fun e w' hk => by
      obtain ⟨a', c', he, hc', hb⟩ := hk
      exact ⟨_, _, he, lst_empty hc', hb⟩
  · obtain ⟨b, off, c, rfl, p⟩ := h.pos h0
    exact (forth11_pos c p h0 hn).mono fun e w' hk => by
      obtain ⟨g, cap, he, hp, hb⟩ := hk
      exact ⟨_, _, he, lst_of_pixs hp.pixs, hb⟩
theorem back16 {w : World} {v : Value} {n : Nat} {t : Nat → Nat} (h : Lst w v n t) (hn : n ≤ 1000000) :
    Calls Try.prog 16 #[v] w fun e w' => ∃ a c, e = .returned (.slice a n c) ∧ Lst w' (.slice a n c) n (baV t) ∧ Below w.heap.size w w' := by
  rcases Nat.eq_zero_or_pos n with h0 | h0
  · subst h0
    obtain ⟨a, c, rfl, hc⟩ := h.zero
    exact (back16_zero a c w hc).mono fun e w' hk => by
      obtain ⟨a', c', he, hc', hb⟩ := hk
      exact ⟨_, _, he, lst_empty hc', hb⟩
  · obtain ⟨b, off, c, rfl, p⟩ := h.pos h0
    exact (back16_pos c p h0 hn).mono fun e w' hk => by
      obtain ⟨g, cap, he, hp, hb⟩ := hk
      exact ⟨_, _, he, lst_of_pixs hp.pixs, hb⟩
end Go.Proofs.Ytflmlbdcjjldgaa.TLst
