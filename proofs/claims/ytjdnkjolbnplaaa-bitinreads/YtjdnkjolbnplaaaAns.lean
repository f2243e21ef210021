/- Contract: the laws' own trial call 'answers' says true, and turns nothing that was there. No conditions. -/
import Derived.Test.YtjdnkjolbnplaaaNew
namespace Go.Proofs.Ytjdnkjolbnplaaa.Ans
open Go.ChangeShapes Go.WideShapes Go.ChangeAt Go.RowKit Go.Proofs.Ytjdnkjolbnplaaa.Base Go.Proofs.Ytjdnkjolbnplaaa.Mem Go.Proofs.Ytjdnkjolbnplaaa.Rd Go.Proofs.Ytjdnkjolbnplaaa.New

def c5 : Nat → Nat := fun _ => 5
theorem c5_le (k : Nat) : c5 k ≤ 255 := by simp [c5]
theorem v1 : val c5 1 0 1 = 1 := by decide
theorem v2 : val c5 1 1 2 = 2 := by decide
theorem src_one (w : World) : Src (w.alloc (.cells #[.int .u8 5] 5)) (.slice (some ⟨w.heap.size, 0, none⟩) 1 1) 1 c5 := by
  refine .inr ⟨⟨w.heap.size, 0, none⟩, 1, rfl, fun k hk => ?_⟩
  have : k = 0 := by omega
  subst this
  simp [c5, Addr.add]
set_option maxHeartbeats 400000 in
theorem ans7 (w : World) :
    Calls Try.prog 7 #[] w fun e w' => e = .returned (.bool true) ∧ Below w.heap.size w w' := by
  go_enter Try.func7, Try.ntmps7
  go_wp2_with fail
  refine (new8 _ 1 c5 _ (src_one w) (by omega)).mono ?_
  rintro e w1 ⟨g, rfl, on1, bel1⟩
  have b1 := ((Below.refl w.heap.size w).alloc (Nat.le_refl _) (.cells #[.int .u8 5] 5)).trans (bel1.mono (by simp))
  have l1 : w.heap.size ≤ g := by
    obtain ⟨_, _, _, h, _⟩ := on1
    simp at h
    omega
  have B1 := hide b1
  have O1 := hide on1
  clear on1 bel1 b1
  go_wp2_with fail
  refine (bits_on _ _ g 1 0 1 c5 c5_le _ (unhide O1) (by omega) (by omega) (by omega) (by omega)).mono ?_
  rintro e w2 ⟨rfl, on2, u2⟩
  rw [v1]
  have O2 := hide on2
  have B2 := hide ((unhide B1).trans (u2.below w.heap.size (unhide B1).size (fun k hk => hk ▸ l1)))
  clear on2 u2 O1
  go_wp2_with fail
  refine (bits_on _ _ g 1 1 2 c5 c5_le _ (unhide O2) (by omega) (by omega) (by omega) (by omega)).mono ?_
  rintro e w3 ⟨rfl, on3, u3⟩
  rw [v2]
  have O3 := hide on3
  have B3 := hide ((unhide B2).trans (u3.below w.heap.size (unhide B2).size (fun k hk => hk ▸ l1)))
  clear on3 u3 O2
  go_wp2_with fail
  refine (left_on _ _ g 1 3 c5 _ (unhide O3) (by omega)).mono ?_
  rintro e w4 ⟨rfl, k, rfl⟩
  go_wp2
  go_ret
  exact ⟨rfl, below_drewN (unhide B3) _⟩
end Go.Proofs.Ytjdnkjolbnplaaa.Ans
