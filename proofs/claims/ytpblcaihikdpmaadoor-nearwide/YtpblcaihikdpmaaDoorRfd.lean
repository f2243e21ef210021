/- Contracts: the document's own Dist and Code. Conditions: none. -/
import Derived.Test.YtpblcaihikdpmaaDoorRef
namespace Go.Proofs.YtpblcaihikdpmaaDoor.Rfd
open Go.ChangeShapes Go.WideShapes Go.ChangeAt Go.RowKit Go.Proofs.YtpblcaihikdpmaaDoor.Core Go.Proofs.YtpblcaihikdpmaaDoor.Num Go.Proofs.YtpblcaihikdpmaaDoor.Pts Go.Proofs.YtpblcaihikdpmaaDoor.Ref

theorem more {k : Nat} {p : Nat → Prop} (h : ∀ m, m < k → p m) (hk : p k) : Hid (∀ m, m < k + 1 → p m) := fun m hm => by
  by_cases e : m = k
  · rw [e]; exact hk
  · exact h m (by omega)
set_option maxHeartbeats 400000 in
theorem rdist11_out (c v : Int) (w : World) (h : v < 1 ∨ 16384 < v ∨ c < 1 ∨ 1048576 < c) :
    Calls Tryd.prog 11 #[.int .i64 c, .int .i64 v] w fun e w' => e = .returned (.int .i64 0) ∧ w' = w := by
  by_cases h1 : v < 1
  · clear h
    go_enter Tryd.func11, Tryd.ntmps11
    go_wp2
    go_ret
    exact ⟨rfl, rfl⟩
  · by_cases h2 : 16384 < v
    · clear h
      go_enter Tryd.func11, Tryd.ntmps11
      go_wp2
      go_ret
      exact ⟨rfl, rfl⟩
    · by_cases h3 : c < 1
      · clear h
        go_enter Tryd.func11, Tryd.ntmps11
        go_wp2
        go_ret
        exact ⟨rfl, rfl⟩
      · have h4 : 1048576 < c := by omega
        clear h
        go_enter Tryd.func11, Tryd.ntmps11
        go_wp2
        go_ret
        exact ⟨rfl, rfl⟩
set_option maxHeartbeats 400000 in
theorem rdist11_far (c v : Int) (w : World) (h1 : ¬ v < 1) (h2 : ¬ 16384 < v) (h3 : ¬ c < 1) (h4 : ¬ 1048576 < c) (h5 : 120 < c) :
    Calls Tryd.prog 11 #[.int .i64 c, .int .i64 v] w fun e w' => e = .returned (.int .i64 (c - 120)) ∧ Below w.heap.size w w' := by
  have H := hide (rpoint8 c w)
  rw [B_out (.inr h5)] at H
  go_enter Tryd.func11, Tryd.ntmps11
  go_wp2_with (go_at_call 8; refine (unhide H).mono ?_; rintro e w' ⟨rfl, hb⟩; have HB := hide hb; clear hb)
  go_ret
  exact ⟨rfl, unhide HB⟩
set_option maxHeartbeats 400000 in
theorem rdist11_near (c : Int) (m : Nat) (v : Int) (w : World) (hc : Hid (c = (m : Int) + 1)) (hm : m < 120) (h1 : ¬ v < 1) (h2 : ¬ 16384 < v) :
    Calls Tryd.prog 11 #[.int .i64 c, .int .i64 v] w fun e w' => e = .returned (.int .i64 (dd m v)) ∧ Below w.heap.size w w' := by
  have h3 : ¬ c < 1 := by have := unhide hc; omega
  have h4 : ¬ 1048576 < c := by have := unhide hc; omega
  have H := hide (rpoint8 c w)
  rw [show X c = px m by rw [unhide hc]; exact X_in m hm, show Y c = py m by rw [unhide hc]; exact Y_in m hm, show B c = true by rw [unhide hc]; exact B_in m hm] at H
  obtain ⟨e1, e2⟩ := dd_wrap m v (wd_in ⟨by omega, by omega⟩)
  by_cases h5 : px m + py m * v < 1
  · have e : dd m v = 1 := by unfold dd cut; rw [if_pos h5]
    rw [e]
    clear e
    go_enter Tryd.func11, Tryd.ntmps11
    go_wp2_with (go_at_call 8; refine (unhide H).mono ?_; rintro e w' ⟨rfl, hb⟩; have HB := hide hb; clear hb)
    go_ret
    exact ⟨rfl, unhide HB⟩
  · have e : dd m v = px m + py m * v := by unfold dd cut; rw [if_neg h5]
    rw [e]
    clear e
    go_enter Tryd.func11, Tryd.ntmps11
    go_wp2_with (go_at_call 8; refine (unhide H).mono ?_; rintro e w' ⟨rfl, hb⟩; have HB := hide hb; clear hb)
    go_ret
    exact ⟨rfl, unhide HB⟩
theorem rdist11 (c v : Int) (w : World) :
    Calls Tryd.prog 11 #[.int .i64 c, .int .i64 v] w fun e w' => e = .returned (.int .i64 (D c v)) ∧ Below w.heap.size w w' := by
  by_cases h : v < 1 ∨ 16384 < v ∨ c < 1 ∨ 1048576 < c
  · rw [D_out (fun h' => by have := wd_is h'.2.2; omega)]
    exact (rdist11_out c v w h).mono fun e w' ⟨he, hw⟩ => ⟨he, hw ▸ Below.refl _ _⟩
  · have hv : wd v = true := wd_in ⟨by omega, by omega⟩
    by_cases h4 : 120 < c
    · rw [D_far h4 (by omega) hv]
      exact rdist11_far c v w (by omega) (by omega) (by omega) (by omega) h4
    · obtain ⟨m, rfl, hm⟩ : ∃ m : Nat, c = (m : Int) + 1 ∧ m < 120 := ⟨(c - 1).toNat, by omega, by omega⟩
      rw [D_near m v hm hv]
      exact rdist11_near _ m v w rfl hm (by omega) (by omega)

set_option maxHeartbeats 400000 in
theorem rcode13_out (d v : Int) (w : World) (h : v < 1 ∨ 16384 < v ∨ d < 1 ∨ 1048456 < d) :
    Calls Tryd.prog 13 #[.int .i64 d, .int .i64 v] w fun e w' => e = .returned (.int .i64 0) ∧ w' = w := by
  by_cases h1 : v < 1
  · clear h
    go_enter Tryd.func13, Tryd.ntmps13
    go_wp2
    go_ret
    exact ⟨rfl, rfl⟩
  · by_cases h2 : 16384 < v
    · clear h
      go_enter Tryd.func13, Tryd.ntmps13
      go_wp2
      go_ret
      exact ⟨rfl, rfl⟩
    · by_cases h3 : d < 1
      · clear h
        go_enter Tryd.func13, Tryd.ntmps13
        go_wp2
        go_ret
        exact ⟨rfl, rfl⟩
      · have h4 : 1048456 < d := by omega
        clear h
        go_enter Tryd.func13, Tryd.ntmps13
        go_wp2
        go_ret
        exact ⟨rfl, rfl⟩
set_option maxRecDepth 20000 in
set_option maxHeartbeats 1000000 in
theorem rcode13_in (d v : Int) (w : World) (h1 : ¬ v < 1) (h2 : ¬ 16384 < v) (h3 : ¬ d < 1) (h4 : ¬ 1048456 < d) :
    Calls Tryd.prog 13 #[.int .i64 d, .int .i64 v] w fun e w' => e = .returned (.int .i64 (K d v)) ∧ Below w.heap.size w w' := by
  have hin : 1 ≤ d ∧ d ≤ 1048456 ∧ wd v = true := ⟨by omega, by omega, wd_in ⟨by omega, by omega⟩⟩
  have HI := hide hin
  clear hin
  go_enter Tryd.func13, Tryd.ntmps13
  go_wp2_with (go_at_call 15; refine (pts15 w).mono ?_; rintro e w' ⟨rfl, hl⟩; have HL := hide hl; clear hl)
  go_loopw [6] (fun i wr => ∃ k : Nat, k ≤ 120 ∧ i = .int .i64 ((k : Int) + 1) ∧ Hid (∀ m, m < k → dd m v ≠ d) ∧ Lst w wr) (fun i _ => 121 - (intOf i).toNat)
  case atStart => exact ⟨0, by omega, rfl, hide fun m h => by omega, unhide HL⟩
  case round =>
    obtain ⟨k, hk, rfl, HN, hl⟩ := hrel
    have HR := hide hl
    by_cases hlt : k < 120
    · have hle : (k : Int) + 1 ≤ 120 := by omega
      have c1 : wr.cell? ⟨w.heap.size, 2 * k, none⟩ = some (.int .i64 (px k)) := hl.cell _ (by omega)
      have c2 : wr.cell? ⟨w.heap.size, 2 * k + 1, none⟩ = some (.int .i64 (py k)) := hl.cell _ (by omega)
      have e1 : 2 * ((k : Int) + 1) - 2 = 2 * (k : Int) := by omega
      have e2 : 2 * ((k : Int) + 1) - 1 = 2 * (k : Int) + 1 := by omega
      obtain ⟨w1, w2⟩ := dd_wrap k v (wd_in ⟨by omega, by omega⟩)
      clear hl
      by_cases h5 : px k + py k * v < 1
      · skip
        have ez : dd k v = (1 : Int) := by unfold dd cut; rw [if_pos h5]
        have EZ := hide ez
        clear ez
        by_cases h6 : (1 : Int) = d
        · have b1 : ((1 : Int) == d) = true := by simpa using h6
          have HK := hide (K_at k (unhide HI) hlt (unhide HN) ((unhide EZ).trans h6))
          clear h6
          go_wp2
          go_quiet (fail)
          go_wp2
          go_ret
          exact ⟨ret_int (unhide HK).symm, belowN (unhide HR).below _⟩
        · have b1 : ((1 : Int) == d) = false := by simpa using h6
          have HK := hide (show dd k v ≠ d from fun e => h6 ((unhide EZ).symm.trans e))
          clear h6
          go_wp2
          go_quiet (fail)
          go_wp2
          go_roundw
          case rel => exact ⟨k + 1, by omega, by go_num, more (unhide HN) (unhide HK), (unhide HR).cell, belowN (unhide HR).below _⟩
          case measure => simp [intOf]; omega
      · skip
        have ez : dd k v = px k + py k * v := by unfold dd cut; rw [if_neg h5]
        have EZ := hide ez
        clear ez
        by_cases h6 : px k + py k * v = d
        · have b1 : (px k + py k * v == d) = true := by simpa using h6
          have HK := hide (K_at k (unhide HI) hlt (unhide HN) ((unhide EZ).trans h6))
          clear h6
          go_wp2
          go_quiet (fail)
          go_wp2
          go_ret
          exact ⟨ret_int (unhide HK).symm, belowN (unhide HR).below _⟩
        · have b1 : (px k + py k * v == d) = false := by simpa using h6
          have HK := hide (show dd k v ≠ d from fun e => h6 ((unhide EZ).symm.trans e))
          clear h6
          go_wp2
          go_quiet (fail)
          go_wp2
          go_roundw
          case rel => exact ⟨k + 1, by omega, by go_num, more (unhide HN) (unhide HK), (unhide HR).cell, belowN (unhide HR).below _⟩
          case measure => simp [intOf]; omega
    · have hke : k = 120 := by omega
      have hle : ¬ (k : Int) + 1 ≤ 120 := by omega
      have HK := hide (K_none (unhide HI) (fun m h => unhide HN m (by omega)))
      clear hl
      go_wp2
      go_ret
      exact ⟨ret_int (unhide HK).symm, (unhide HR).below⟩
theorem rcode13 (d v : Int) (w : World) :
    Calls Tryd.prog 13 #[.int .i64 d, .int .i64 v] w fun e w' => e = .returned (.int .i64 (K d v)) ∧ Below w.heap.size w w' := by
  by_cases h : v < 1 ∨ 16384 < v ∨ d < 1 ∨ 1048456 < d
  · rw [K_out (fun h' => by have := wd_is h'.2.2; omega)]
    exact (rcode13_out d v w h).mono fun e w' ⟨he, hw⟩ => ⟨he, hw ▸ Below.refl _ _⟩
  · exact rcode13_in d v w (by omega) (by omega) (by omega) (by omega)
end Go.Proofs.YtpblcaihikdpmaaDoor.Rfd
