/- Contracts: the document's Around. Conditions: the image may be and is in memory, the place lies within. -/
import Derived.Test.YtnfokdcoelignaaGAtt
namespace Go.Proofs.Ytnfokdcoelignaa.GRar
set_option linter.unusedVariables false
open Go.ChangeShapes Go.WideShapes Go.ChangeAt Go.RowKit Go.Sort Go.Proofs.Ytnfokdcoelignaa.Core Go.Proofs.Ytnfokdcoelignaa.PNum Go.Proofs.Ytnfokdcoelignaa.PPrt Go.Proofs.Ytnfokdcoelignaa.PFun Go.Proofs.Ytnfokdcoelignaa.PGoo Go.Proofs.Ytnfokdcoelignaa.GGue Go.Proofs.Ytnfokdcoelignaa.GImg Go.Proofs.Ytnfokdcoelignaa.GAro


set_option maxHeartbeats 1000000 in
theorem ra_000 (W b off n c : Nat)  (w : World) (hb : b < w.heap.size) (hW : W ≤ 16384) (he : (0 == (W : Int) - 1) = false) :
    Calls Try.prog 47 #[.int .i64 W, .slice (some ⟨b, off, none⟩) n c, .int .i64 0, .int .i64 0] w fun e w' =>
      e = .returned (.agg #[.int .u32 0, .int .u32 0, .int .u32 0, .int .u32 0]) ∧ Below w.heap.size w w' := by
  go_enter Try.func47, Try.ntmps47
  go_wp2
  exact bodyPost_ret (results_cell_row rfl _ _ w.heap.size 66 #[.int .u32 0, .int .u32 0, .int .u32 0, .int .u32 0] (0, 0) _ rfl ((Box.made w 66 _).alloc _) Try.underlying66 rfl (by kernel_rfl)) rfl ⟨rfl, ((Below.refl _ _).alloc (Nat.le_refl _) _).alloc (by simp) _⟩
set_option maxHeartbeats 1000000 in
theorem ra_001 (W b off n c : Nat) (v3 : Int) (w : World) (hb : b < w.heap.size) (hW : W ≤ 16384) (lv3 : 0 < n) (cv3 : w.cell? ⟨b, off, none⟩ = some (.int .u32 v3)) (he : (0 == (W : Int) - 1) = true) :
    Calls Try.prog 47 #[.int .i64 W, .slice (some ⟨b, off, none⟩) n c, .int .i64 0, .int .i64 0] w fun e w' =>
      e = .returned (.agg #[.int .u32 0, .int .u32 0, .int .u32 0, .int .u32 v3]) ∧ Below w.heap.size w w' := by
  go_enter Try.func47, Try.ntmps47
  go_wp2
  exact bodyPost_ret (results_cell_row rfl _ _ w.heap.size 66 #[.int .u32 0, .int .u32 0, .int .u32 0, .int .u32 v3] (0, 0) _ rfl ((Box.made w 66 _).alloc _) Try.underlying66 rfl (by kernel_rfl)) rfl ⟨rfl, ((Below.refl _ _).alloc (Nat.le_refl _) _).alloc (by simp) _⟩
set_option maxHeartbeats 1000000 in
theorem ra_010 (Y p W b off n c : Nat) (v1 v3 : Int) (w : World) (hb : b < w.heap.size) (hn : n ≤ 268435456) (hW : W ≤ 16384) (hY : 0 < Y) (M : IntKind.i64.wrap ((Y : Int) * (W : Int)) = (p : Int) + (W : Int)) (hp : p ≤ 268435456) (lv1 : p < n) (cv1 : w.cell? ⟨b, off + (p), none⟩ = some (.int .u32 v1)) (lv3 : p + 1 < n) (cv3 : w.cell? ⟨b, off + (p + 1), none⟩ = some (.int .u32 v3)) (he : (0 == (W : Int) - 1) = false) :
    Calls Try.prog 47 #[.int .i64 W, .slice (some ⟨b, off, none⟩) n c, .int .i64 0, .int .i64 Y] w fun e w' =>
      e = .returned (.agg #[.int .u32 0, .int .u32 v1, .int .u32 0, .int .u32 v3]) ∧ Below w.heap.size w w' := by
  go_enter Try.func47, Try.ntmps47
  go_wp2
  exact bodyPost_ret (results_cell_row rfl _ _ w.heap.size 66 #[.int .u32 0, .int .u32 v1, .int .u32 0, .int .u32 v3] (0, 0) _ rfl ((Box.made w 66 _).alloc _) Try.underlying66 rfl (by kernel_rfl)) rfl ⟨rfl, ((Below.refl _ _).alloc (Nat.le_refl _) _).alloc (by simp) _⟩
set_option maxHeartbeats 1000000 in
theorem ra_011 (Y p W b off n c : Nat) (v1 v3 : Int) (w : World) (hb : b < w.heap.size) (hn : n ≤ 268435456) (hW : W ≤ 16384) (hY : 0 < Y) (M : IntKind.i64.wrap ((Y : Int) * (W : Int)) = (p : Int) + (W : Int)) (hp : p ≤ 268435456) (lv1 : p < n) (cv1 : w.cell? ⟨b, off + (p), none⟩ = some (.int .u32 v1)) (lv3 : p + W < n) (cv3 : w.cell? ⟨b, off + (p + W), none⟩ = some (.int .u32 v3)) (he : (0 == (W : Int) - 1) = true) :
    Calls Try.prog 47 #[.int .i64 W, .slice (some ⟨b, off, none⟩) n c, .int .i64 0, .int .i64 Y] w fun e w' =>
      e = .returned (.agg #[.int .u32 0, .int .u32 v1, .int .u32 0, .int .u32 v3]) ∧ Below w.heap.size w w' := by
  go_enter Try.func47, Try.ntmps47
  go_wp2
  exact bodyPost_ret (results_cell_row rfl _ _ w.heap.size 66 #[.int .u32 0, .int .u32 v1, .int .u32 0, .int .u32 v3] (0, 0) _ rfl ((Box.made w 66 _).alloc _) Try.underlying66 rfl (by kernel_rfl)) rfl ⟨rfl, ((Below.refl _ _).alloc (Nat.le_refl _) _).alloc (by simp) _⟩
set_option maxHeartbeats 1000000 in
theorem ra_100 (x W b off n c : Nat) (v0 : Int) (w : World) (hb : b < w.heap.size) (hn : n ≤ 268435456) (hW : W ≤ 16384) (hx : x < 16384) (lv0 : x < n) (cv0 : w.cell? ⟨b, off + (x), none⟩ = some (.int .u32 v0)) (he : (((x : Int) + 1) == (W : Int) - 1) = false) :
    Calls Try.prog 47 #[.int .i64 W, .slice (some ⟨b, off, none⟩) n c, .int .i64 ((x : Int) + 1), .int .i64 0] w fun e w' =>
      e = .returned (.agg #[.int .u32 v0, .int .u32 0, .int .u32 0, .int .u32 0]) ∧ Below w.heap.size w w' := by
  go_enter Try.func47, Try.ntmps47
  go_wp2
  exact bodyPost_ret (results_cell_row rfl _ _ w.heap.size 66 #[.int .u32 v0, .int .u32 0, .int .u32 0, .int .u32 0] (0, 0) _ rfl ((Box.made w 66 _).alloc _) Try.underlying66 rfl (by kernel_rfl)) rfl ⟨rfl, ((Below.refl _ _).alloc (Nat.le_refl _) _).alloc (by simp) _⟩
set_option maxHeartbeats 1000000 in
theorem ra_101 (x W b off n c : Nat) (v0 v3 : Int) (w : World) (hb : b < w.heap.size) (hn : n ≤ 268435456) (hW : W ≤ 16384) (hx : x < 16384) (lv0 : x < n) (cv0 : w.cell? ⟨b, off + (x), none⟩ = some (.int .u32 v0)) (lv3 : 0 < n) (cv3 : w.cell? ⟨b, off, none⟩ = some (.int .u32 v3)) (he : (((x : Int) + 1) == (W : Int) - 1) = true) :
    Calls Try.prog 47 #[.int .i64 W, .slice (some ⟨b, off, none⟩) n c, .int .i64 ((x : Int) + 1), .int .i64 0] w fun e w' =>
      e = .returned (.agg #[.int .u32 v0, .int .u32 0, .int .u32 0, .int .u32 v3]) ∧ Below w.heap.size w w' := by
  go_enter Try.func47, Try.ntmps47
  go_wp2
  exact bodyPost_ret (results_cell_row rfl _ _ w.heap.size 66 #[.int .u32 v0, .int .u32 0, .int .u32 0, .int .u32 v3] (0, 0) _ rfl ((Box.made w 66 _).alloc _) Try.underlying66 rfl (by kernel_rfl)) rfl ⟨rfl, ((Below.refl _ _).alloc (Nat.le_refl _) _).alloc (by simp) _⟩
set_option maxHeartbeats 1000000 in
theorem ra_110 (x Y p W b off n c : Nat) (v0 v1 v2 v3 : Int) (w : World) (hb : b < w.heap.size) (hn : n ≤ 268435456) (hW : W ≤ 16384) (hx : x < 16384) (hY : 0 < Y) (M : IntKind.i64.wrap ((Y : Int) * (W : Int)) = (p : Int) + (W : Int)) (hp : p ≤ 268435456) (lv0 : p + W + x < n) (cv0 : w.cell? ⟨b, off + (p + W + x), none⟩ = some (.int .u32 v0)) (lv1 : p + (x + 1) < n) (cv1 : w.cell? ⟨b, off + (p + (x + 1)), none⟩ = some (.int .u32 v1)) (lv2 : p + x < n) (cv2 : w.cell? ⟨b, off + (p + x), none⟩ = some (.int .u32 v2)) (lv3 : p + (x + 1) + 1 < n) (cv3 : w.cell? ⟨b, off + (p + (x + 1) + 1), none⟩ = some (.int .u32 v3)) (he : (((x : Int) + 1) == (W : Int) - 1) = false) :
    Calls Try.prog 47 #[.int .i64 W, .slice (some ⟨b, off, none⟩) n c, .int .i64 ((x : Int) + 1), .int .i64 Y] w fun e w' =>
      e = .returned (.agg #[.int .u32 v0, .int .u32 v1, .int .u32 v2, .int .u32 v3]) ∧ Below w.heap.size w w' := by
  go_enter Try.func47, Try.ntmps47
  go_wp2
  exact bodyPost_ret (results_cell_row rfl _ _ w.heap.size 66 #[.int .u32 v0, .int .u32 v1, .int .u32 v2, .int .u32 v3] (0, 0) _ rfl ((Box.made w 66 _).alloc _) Try.underlying66 rfl (by kernel_rfl)) rfl ⟨rfl, ((Below.refl _ _).alloc (Nat.le_refl _) _).alloc (by simp) _⟩
set_option maxHeartbeats 1000000 in
theorem ra_111 (x Y p W b off n c : Nat) (v0 v1 v2 v3 : Int) (w : World) (hb : b < w.heap.size) (hn : n ≤ 268435456) (hW : W ≤ 16384) (hx : x < 16384) (hY : 0 < Y) (M : IntKind.i64.wrap ((Y : Int) * (W : Int)) = (p : Int) + (W : Int)) (hp : p ≤ 268435456) (lv0 : p + W + x < n) (cv0 : w.cell? ⟨b, off + (p + W + x), none⟩ = some (.int .u32 v0)) (lv1 : p + (x + 1) < n) (cv1 : w.cell? ⟨b, off + (p + (x + 1)), none⟩ = some (.int .u32 v1)) (lv2 : p + x < n) (cv2 : w.cell? ⟨b, off + (p + x), none⟩ = some (.int .u32 v2)) (lv3 : p + W < n) (cv3 : w.cell? ⟨b, off + (p + W), none⟩ = some (.int .u32 v3)) (he : (((x : Int) + 1) == (W : Int) - 1) = true) :
    Calls Try.prog 47 #[.int .i64 W, .slice (some ⟨b, off, none⟩) n c, .int .i64 ((x : Int) + 1), .int .i64 Y] w fun e w' =>
      e = .returned (.agg #[.int .u32 v0, .int .u32 v1, .int .u32 v2, .int .u32 v3]) ∧ Below w.heap.size w w' := by
  go_enter Try.func47, Try.ntmps47
  go_wp2
  exact bodyPost_ret (results_cell_row rfl _ _ w.heap.size 66 #[.int .u32 v0, .int .u32 v1, .int .u32 v2, .int .u32 v3] (0, 0) _ rfl ((Box.made w 66 _).alloc _) Try.underlying66 rfl (by kernel_rfl)) rfl ⟨rfl, ((Below.refl _ _).alloc (Nat.le_refl _) _).alloc (by simp) _⟩

theorem up_q {W Y : Nat} (h : Y ≠ 0) : (Y * W - W) + W = Y * W := Nat.sub_add_cancel (row_ge W Y h)
theorem raround13 {W H b off n : Nat} {z : Nat → Nat} (c X Y : Nat) {w : World} (I : Img w W H b off n z) (hx : X < W) (hy : Y < H) :
    Calls Try.prog 47 #[.int .i64 W, .slice (some ⟨b, off, none⟩) n c, .int .i64 X, .int .i64 Y] w fun e w' =>
      e = .returned (.agg (fourV (lV W z X Y) (tV W z X Y) (uV W z X Y) (rV W z X Y))) ∧ Below w.heap.size w w' := by
  have hl := place_lt hx hy
  rw [← I.hn] at hl
  have hn : n ≤ 268435456 := I.hn ▸ size_le I.hW I.hH
  have hb : b < w.heap.size := I.px.lt (by omega)
  have hW := I.hW
  have px := I.px
  unfold fourV lV tV uV rV
  by_cases hX : X = 0
  · subst hX
    by_cases hY : Y = 0
    · subst hY
      rw [if_pos rfl, if_pos rfl, if_pos (.inl rfl)]
      by_cases he : 0 + 1 = W
      · rw [if_pos he, Nat.zero_mul]
        exact ra_001 W b off n c _ w hb hW (by omega) (px 0 (by omega)) (by simp; omega)
      · rw [if_neg he, if_pos rfl]
        exact ra_000 W b off n c w hb hW (by simp; omega)
    · rw [if_pos rfl, if_neg hY, if_pos (.inl rfl)]
      have M := row_wrap hW I.hH (Nat.le_of_lt hy)
      have e := up_q (W := W) hY
      have g := row_ge W Y hY
      rw [← e] at hl M ⊢
      generalize Y * W - W = p at *
      by_cases he : 0 + 1 = W
      · rw [if_pos he]
        exact ra_011 Y p W b off n c _ _ w hb hn hW (by omega) M (by omega) (by omega) (px.at (by omega) (by omega)) (by omega) (px.at (by omega) (by omega)) (by simp; omega)
      · rw [if_neg he, if_neg hY]
        exact ra_010 Y p W b off n c _ _ w hb hn hW (by omega) M (by omega) (by omega) (px.at (by omega) (by omega)) (by omega) (px.at (by omega) (by omega)) (by simp; omega)
  · obtain ⟨x, rfl⟩ : ∃ x, X = x + 1 := ⟨X - 1, by omega⟩
    by_cases hY : Y = 0
    · subst hY
      rw [if_neg hX, if_pos rfl, if_pos (.inr rfl), Nat.zero_mul]
      rw [Nat.zero_mul] at hl
      by_cases he : x + 1 + 1 = W
      · rw [if_pos he]
        exact ra_101 x W b off n c _ _ w hb hn hW (by omega) (by omega) (px.at (by omega) (by omega)) (by omega) (px 0 (by omega)) (by simp; omega)
      · rw [if_neg he, if_pos rfl]
        exact ra_100 x W b off n c _ w hb hn hW (by omega) (by omega) (px.at (by omega) (by omega)) (by simp; omega)
    · rw [if_neg hX, if_neg hY, if_neg (by omega)]
      have M := row_wrap hW I.hH (Nat.le_of_lt hy)
      have e := up_q (W := W) hY
      have g := row_ge W Y hY
      rw [← e] at hl M ⊢
      generalize Y * W - W = p at *
      by_cases he : x + 1 + 1 = W
      · rw [if_pos he]
        exact ra_111 x Y p W b off n c _ _ _ _ w hb hn hW (by omega) (by omega) M (by omega) (by omega) (px.at (by omega) (by omega)) (by omega) (px.at (by omega) (by omega)) (by omega) (px.at (by omega) (by omega)) (by omega) (px.at (by omega) (by omega)) (by simp; omega)
      · rw [if_neg he, if_neg hY]
        exact ra_110 x Y p W b off n c _ _ _ _ w hb hn hW (by omega) (by omega) M (by omega) (by omega) (px.at (by omega) (by omega)) (by omega) (px.at (by omega) (by omega)) (by omega) (px.at (by omega) (by omega)) (by omega) (px.at (by omega) (by omega)) (by simp; omega)
end Go.Proofs.Ytnfokdcoelignaa.GRar
