/- Contract: the document's own bytes of bits (ref.Bytes). Conditions: the slice reads as bits, and they are few. -/
import Derived.Test.YtieaglncimfelaaSep
namespace Go.Proofs.Ytieaglncimfelaa.Ref
open Go.ChangeShapes Go.WideShapes Go.ChangeAt Go.RowKit Go.Proofs.Ytieaglncimfelaa.Core Go.Proofs.Ytieaglncimfelaa.Foot Go.Proofs.Ytieaglncimfelaa.Add Go.Proofs.Ytieaglncimfelaa.Wri Go.Proofs.Ytieaglncimfelaa.Byt Go.Proofs.Ytieaglncimfelaa.Sam Go.Proofs.Ytieaglncimfelaa.Joi Go.Proofs.Ytieaglncimfelaa.Sep

theorem own_pos {w : World} {base n : Nat} {v : Value} {c : Nat → Nat} (h : w.ownsRow base 5 1 v (n + 1) (cells c (n + 1))) : ∃ g cap, v = .slice (some ⟨g, 0, none⟩) (n + 1) cap ∧ w.cell? ⟨g, n, none⟩ = some (.int .u8 (c n)) ∧ w.frozen? ⟨g, n, none⟩ = false ∧ base ≤ g ∧ g < w.heap.size := by
  have hl := h.lt
  rcases h.2 with ⟨_, h0⟩ | ⟨g, cap, cur, rfl, _⟩
  · omega
  · exact ⟨g, cap, rfl, (h.cellAt n (by omega)).trans (cells_at c _ n (by omega)), h.frozenAt n, (hl g rfl).1, (hl g rfl).2⟩
theorem pow7 (p : Nat) (h : p < 8) : (1 : Int) ≤ 2 ^ p ∧ (2 : Int) ^ p ≤ 128 := by
  have h1 : (2 : Nat) ^ p ≤ 2 ^ 7 := Nat.pow_le_pow_right (by omega) (by omega)
  have h2 : 0 < (2 : Nat) ^ p := Nat.pow_pos (by omega)
  have h3 : ((2 ^ p : Nat) : Int) = (2 : Int) ^ p := by simp
  have h4 : (2 : Nat) ^ 7 = 128 := by decide
  omega
set_option maxRecDepth 20000 in
set_option maxHeartbeats 1000000 in
theorem rbytes13 (v : Value) (len : Nat) (b : Nat → Nat) (hb : ∀ k, b k ≤ 1) (w : World) (src : Src w v len b) (hl : len ≤ 100000) :
    Calls Try.prog 13 #[v] w fun e w' => ∃ v', e = .returned v' ∧ w'.ownsRow w.heap.size 5 1 v' ((len + 7) / 8) (cells (byt (sm b len)) ((len + 7) / 8)) ∧ Below w.heap.size w w' := by
  obtain ⟨a, cap, rfl, hs⟩ := src_slice src
  have SRC := hide hs
  clear src hs
  obtain ⟨i0, hi, hz0, hz1, hz2⟩ := info_parts Try.info5
  go_enter Try.func13, Try.ntmps13
  go_wp2
  go_loopw [3, 4] (fun s i wr => ∃ k : Nat, k ≤ len ∧ i = .int .i64 k ∧ wr.ownsRow w.heap.size 5 1 s ((k + 7) / 8) (cells (byt (sm b k)) ((k + 7) / 8)) ∧ Below w.heap.size w wr) (fun _ i _ => len - (intOf i).toNat)
  case atStart => exact ⟨0, Nat.zero_le _, rfl, World.ownsRow_nil _ _ _ _, Below.refl _ _⟩
  case round =>
    obtain ⟨k, hk, rfl, own, bel⟩ := hrel
    have OWN := hide own
    have BEL := hide bel
    by_cases hlt : k < len
    · have hlt' : (k : Int) < (len : Int) := by omega
      obtain ⟨bb, off, rfl, hc0⟩ := unhide SRC k hlt
      have hcell : wr.cell? ⟨bb, off + k, none⟩ = some (.int .u8 (b k)) := (bel.cell (p := ⟨bb, off + k, none⟩) (lt_of_cell hc0)).trans hc0
      have lbb := lt_of_cell hc0
      have VL := hide (sm_lt b hb k)
      have hbk := hb k
      have hsz := bel.size
      clear own bel hc0
      obtain ⟨K, hK⟩ : ∃ K, K = k / 8 := ⟨_, rfl⟩
      obtain ⟨p, hp⟩ : ∃ p, p = k % 8 := ⟨_, rfl⟩
      have hmod : (k : Int) % 8 = (p : Int) := by omega
      have hdiv : (k : Int) / 8 = (K : Int) := by omega
      obtain ⟨p1, p2⟩ := pow7 p (by omega)
      obtain ⟨ad1, ad2⟩ := byt_add (sm b k) k (unhide VL)
      rw [← hK, ← hp] at ad2
      have pp : ((2 ^ p : Nat) : Int) = (2 : Int) ^ p := by simp
      have SM : Hid (sm b (k + 1) = sm b k + b k * 2 ^ k) := rfl
      have LAST : Hid (∀ (w2 : World) (g cap2 : Nat), w2.ownsRow w.heap.size 5 1 (.slice (some ⟨g, 0, none⟩) (K + 1) cap2) (K + 1) (cells (byt (sm b k)) (K + 1)) → 
          ∀ x : Int, x = ((byt (sm b k) K + 2 ^ p : Nat) : Int) → (w2.setCell ⟨g, K, none⟩ (.int .u8 x)).ownsRow w.heap.size 5 1 (.slice (some ⟨g, 0, none⟩) (K + 1) cap2) (K + 1) (cells (byt (sm b k + 2 ^ k)) (K + 1))) := by
        intro w2 g cap2 own x hx
        have h := (own.stored K (.int .u8 x)).1
        rw [hx, cells_set, hK, hp, cells_bit _ _ (unhide VL), ← hK] at h
        rw [hx, hK, hp, ← hK]
        exact h
      have K7 := hide (show (k + 1 + 7) / 8 = K + 1 by omega)
      have AD2 := hide ad2
      have PP := hide pp
      have HK := hide hK
      have hKk : K ≤ k := by omega
      have hp7 : p < 8 := by omega
      have CS := hide (cells_succ (byt (sm b k)) K)
      by_cases h8 : k % 8 = 0
      · have hp0 : p = 0 := by omega
        have hmod0 : (k : Int) % 8 = 0 := by omega
        have e7 : (k + 7) / 8 = K := by omega
        rw [e7] at OWN
        have TOP := hide (byt_top (sm b k) K (by rw [hK, show 8 * (k / 8) = k by omega]; exact unhide VL))
        have hx : byt (sm b k) K = 0 := unhide TOP
        subst hp0
        clear hmod hK hp ad1 ad2 pp p1 p2 e7 h8 hx
        rcases (show b k = 0 ∨ b k = 1 by omega) with bk | bk
        all_goals
          rw [bk] at hcell
          have BK := hide bk
          clear bk hbk
        · go_wp2_with (first | (at_builtin; refine wpList_append_own _ rfl (.tmp 14) (.tmp 15) 27 rfl w.heap.size 5 i0 (.int .u8 0) 1 1 Try.underlying27 hi hz0 hz1 hz2 rfl (by decide) _ _ _ rfl ((unhide OWN).alloc _) ⟨wr.heap.size, 0, none⟩ 1 1 [.int .u8 0] rfl rfl (one_src _ _) (one_one _ _) (by unfold maxLen; omega) (by omega) (by simp; omega) ?_; intro v1 w1 own1 grow1 _; have bel1 : Below w.heap.size w w1 := ((unhide BEL).alloc hsz _).grown grow1 (by simp; omega) (fun g hg => ((unhide OWN).lt g hg).1); have hcell1 := (bel1.cell (p := ⟨bb, off + k, none⟩) lbb).trans ((unhide BEL).cell (p := ⟨bb, off + k, none⟩) lbb).symm; rw [hcell] at hcell1; have e0 : (Value.int .u8 0) = .int .u8 ((byt (sm b k) K : Nat) : Int) := (by rw [unhide TOP]; simp); rw [e0, ← unhide CS] at own1; obtain ⟨g1, cap1, rfl, gc, gf, lg, _⟩ := own_pos own1; rw [unhide TOP] at gc; have O2 := hide own1; have B2 := hide bel1; clear own1 grow1 bel1 e0 hcell) | fail)
          go_roundw
          case rel => exact ⟨k + 1, by omega, by go_num, by rw [unhide K7, unhide SM, unhide BK, Nat.zero_mul, Nat.add_zero]; exact unhide O2, unhide B2⟩
          case measure => simp [intOf]; omega
        · go_wp2_with (first | (at_builtin; refine wpList_append_own _ rfl (.tmp 14) (.tmp 15) 27 rfl w.heap.size 5 i0 (.int .u8 0) 1 1 Try.underlying27 hi hz0 hz1 hz2 rfl (by decide) _ _ _ rfl ((unhide OWN).alloc _) ⟨wr.heap.size, 0, none⟩ 1 1 [.int .u8 0] rfl rfl (one_src _ _) (one_one _ _) (by unfold maxLen; omega) (by omega) (by simp; omega) ?_; intro v1 w1 own1 grow1 _; have bel1 : Below w.heap.size w w1 := ((unhide BEL).alloc hsz _).grown grow1 (by simp; omega) (fun g hg => ((unhide OWN).lt g hg).1); have hcell1 := (bel1.cell (p := ⟨bb, off + k, none⟩) lbb).trans ((unhide BEL).cell (p := ⟨bb, off + k, none⟩) lbb).symm; rw [hcell] at hcell1; have e0 : (Value.int .u8 0) = .int .u8 ((byt (sm b k) K : Nat) : Int) := (by rw [unhide TOP]; simp); rw [e0, ← unhide CS] at own1; obtain ⟨g1, cap1, rfl, gc, gf, lg, _⟩ := own_pos own1; rw [unhide TOP] at gc; have O2 := hide own1; have B2 := hide bel1; clear own1 grow1 bel1 e0 hcell) | fail)
          go_roundw
          case rel => exact ⟨k + 1, by omega, by go_num, by rw [unhide K7, unhide SM, unhide BK, Nat.one_mul]; exact unhide LAST _ g1 cap1 (unhide O2) _ (by simp [unhide TOP]), (unhide B2).setCell (p := ⟨g1, K, none⟩) lg _⟩
          case measure => simp [intOf]; omega
      · have hmod0 : ¬ (k : Int) % 8 = 0 := by omega
        have hp0 : ¬ (p : Int) = 0 := by omega
        have e7 : (k + 7) / 8 = K + 1 := by omega
        rw [e7] at OWN
        obtain ⟨g1, cap1, rfl, gc, gf, lg, _⟩ := own_pos (unhide OWN)
        have XB := hide ad2
        generalize hx : byt (sm b k) K = x at *
        have xb : (x : Int) + 2 ^ p ≤ 255 := by omega
        clear hK hp ad1 ad2 pp e7 h8
        rcases (show b k = 0 ∨ b k = 1 by omega) with bk | bk
        all_goals
          rw [bk] at hcell
          have BK := hide bk
          clear bk hbk
        · go_wp2
          go_roundw
          case rel => exact ⟨k + 1, by omega, by go_num, by rw [unhide K7, unhide SM, unhide BK, Nat.zero_mul, Nat.add_zero]; exact unhide OWN, unhide BEL⟩
          case measure => simp [intOf]; omega
        · go_wp2
          go_roundw
          case rel => exact ⟨k + 1, by omega, by go_num, by rw [unhide K7, unhide SM, unhide BK, Nat.one_mul]; exact unhide LAST _ g1 cap1 (unhide OWN) _ (by simp), (unhide BEL).setCell (p := ⟨g1, K, none⟩) lg _⟩
          case measure => simp [intOf]; omega
    · obtain rfl : k = len := by omega
      go_wp2
      go_ret
      exact ⟨_, rfl, unhide OWN, unhide BEL⟩
end Go.Proofs.Ytieaglncimfelaa.Ref
