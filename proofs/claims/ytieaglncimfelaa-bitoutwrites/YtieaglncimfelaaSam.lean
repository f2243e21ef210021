/- Contracts: ref.Same says true of two slices of the same bytes; the laws' own trial call 'answers' says true. Conditions: both slices read as these bytes. -/
import Derived.Test.YtieaglncimfelaaByt
namespace Go.Proofs.Ytieaglncimfelaa.Sam
open Go.ChangeShapes Go.WideShapes Go.ChangeAt Go.RowKit Go.Proofs.Ytieaglncimfelaa.Core Go.Proofs.Ytieaglncimfelaa.Foot Go.Proofs.Ytieaglncimfelaa.Add Go.Proofs.Ytieaglncimfelaa.Wri Go.Proofs.Ytieaglncimfelaa.Byt

theorem src_slice {w : World} {v : Value} {n : Nat} {c : Nat → Nat} (h : Src w v n c) : ∃ a cap, v = .slice a n cap ∧ ∀ k, k < n → ∃ b off, a = some ⟨b, off, none⟩ ∧ w.cell? ⟨b, off + k, none⟩ = some (.int .u8 (c k)) := by
  rcases h with ⟨rfl, rfl⟩ | ⟨x, cap, rfl, hx⟩
  · exact ⟨none, 0, rfl, fun k hk => by omega⟩
  · refine ⟨some x, cap, rfl, fun k hk => ?_⟩
    obtain ⟨b, off, rfl, hb⟩ := src_at hx (by omega)
    exact ⟨b, off, rfl, hb k hk⟩
set_option maxHeartbeats 400000 in
theorem same12 (u v : Value) (n : Nat) (f : Nat → Nat) (w : World) (hu : Src w u n f) (hv : Src w v n f) (hn : n ≤ 1000000) :
    Calls Try.prog 12 #[u, v] w fun e w' => e = .returned (.bool true) ∧ ∃ k, w' = w.drewN k := by
  obtain ⟨a1, c1, rfl, h1⟩ := src_slice hu
  obtain ⟨a2, c2, rfl, h2⟩ := src_slice hv
  have H1 := hide h1
  have H2 := hide h2
  clear h1 h2 hu hv
  go_enter Try.func12, Try.ntmps12
  go_wp2
  go_loopw [5] (fun i wr => ∃ k : Nat, k ≤ n ∧ i = .int .i64 k ∧ ∃ m, wr = w.drewN m) (fun i _ => n - (intOf i).toNat)
  case atStart => exact ⟨0, Nat.zero_le _, rfl, 0, rfl⟩
  case round =>
    obtain ⟨k, hk, rfl, m, hm⟩ := hrel
    by_cases hlt : k < n
    · have hlt' : (k : Int) < (n : Int) := by omega
      obtain ⟨b1, o1, rfl, g1⟩ := unhide H1 k hlt
      obtain ⟨b2, o2, rfl, g2⟩ := unhide H2 k hlt
      have g1' : wr.cell? ⟨b1, o1 + k, none⟩ = some (.int .u8 (f k)) := by rw [hm]; exact g1
      have g2' : wr.cell? ⟨b2, o2 + k, none⟩ = some (.int .u8 (f k)) := by rw [hm]; exact g2
      have HM := hide hm
      clear g1 g2 hm
      go_wp2
      go_quiet (fail)
      go_wp2
      go_roundw
      case rel => exact ⟨k + 1, by omega, by go_num, m + nq, by rw [unhide HM, World.drewN_drewN]⟩
      case measure => simp [intOf]; omega
    · go_wp2
      go_ret
      exact ⟨rfl, m, rfl⟩
theorem byt5 : byt 5 0 = 5 := by decide
set_option maxHeartbeats 400000 in
theorem ans7 (w : World) :
    Calls Try.prog 7 #[] w fun e w' => e = .returned (.bool true) ∧ Below w.heap.size w w' := by
  go_enter Try.func7, Try.ntmps7
  go_wp2_with fail
  refine (new8 _).mono ?_
  rintro e w1 ⟨g, rfl, lg, wr1, bel1⟩
  have W1 := hide wr1
  have B1 := hide bel1
  clear wr1 bel1
  go_wp2_with fail
  refine (bits_yes g _ 0 0 1 1 _ (unhide W1) (by omega) (by decide) (by omega)).mono ?_
  rintro e w2 ⟨rfl, u2, wr2, t2⟩
  have W2 : Hid (Wr w2 g u2 1 1) := wr2
  have F2 : Hid (∀ k, Ft g u2 k → w.heap.size ≤ k) := fun k hk => by
    rcases hk with rfl | hk
    · exact lg
    · rcases t2.stays.foot k hk with h | h
      · simp [Value.ownBlock] at h
      · exact Nat.le_trans (unhide B1).size h
  have B2 := hide ((unhide B1).trans (t2.upd.below w.heap.size (unhide B1).size (fun k hk => by rcases hk with rfl | hk; exact lg; simp [Value.ownBlock] at hk)))
  clear wr2 t2 W1 B1
  go_wp2_with fail
  refine (bits_yes g _ 1 1 2 2 _ (unhide W2) (by omega) (by decide) (by omega)).mono ?_
  rintro e w3 ⟨rfl, u3, wr3, t3⟩
  have W3 : Hid (Wr w3 g u3 5 3) := wr3
  have B3 := hide ((unhide B2).trans (t3.upd.below w.heap.size (unhide B2).size (unhide F2)))
  clear wr3 t3 W2 B2 F2
  go_wp2_with fail
  refine (bytes_at g _ 5 3 _ (unhide W3) (by omega)).mono ?_
  rintro e w4 ⟨v, rfl, own4, bel4⟩
  have W4 := hide ((unhide W3).keep (Upd.ofBelow (S := fun _ => False) bel4) (fun _ _ h => h))
  have B4 := hide ((unhide B3).trans (bel4.mono (unhide B3).size))
  obtain ⟨b, cap, rfl, hcell⟩ : ∃ b cap, v = .slice (some ⟨b, 0, none⟩) 1 cap ∧ w4.cell? ⟨b, 0, none⟩ = some (.int .u8 5) := by
    rcases own4.2 with ⟨_, h0⟩ | ⟨b, cap, cur, rfl, _⟩
    · simp at h0
    · exact ⟨b, cap, rfl, by rw [own4.cellAt 0 (by omega)]; simp [cells, byt5]⟩
  clear own4 bel4 W3 B3
  go_wp2_with fail
  refine (len_at g _ 5 3 _ (unhide W4) (by omega)).mono ?_
  rintro e w5 ⟨rfl, k, rfl⟩
  go_wp2
  go_ret
  exact ⟨rfl, ⟨(unhide B4).os, (unhide B4).tape, (unhide B4).output, (unhide B4).size, (unhide B4).block⟩⟩
end Go.Proofs.Ytieaglncimfelaa.Sam
