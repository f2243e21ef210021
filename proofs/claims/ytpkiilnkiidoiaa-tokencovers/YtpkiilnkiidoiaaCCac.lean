/- Contracts: cache.New, has, Get, Find, Add, by what lies in memory. Conditions: the cache lies in memory as New makes it, or is nil. -/
import Derived.Test.YtpkiilnkiidoiaaCSlo
namespace Go.Proofs.Ytpkiilnkiidoiaa.CCac
open Go.ChangeShapes Go.WideShapes Go.ChangeAt Go.RowKit Go.Proofs.Ytpkiilnkiidoiaa.Core Go.Proofs.Ytpkiilnkiidoiaa.CNum Go.Proofs.Ytpkiilnkiidoiaa.CSlo

/-- A cache of b bits, n places, in block g; its colours lie in block r. -/
structure Ca (w : World) (g r b n : Nat) (f : Nat → Nat) : Prop where
  top : Box w g 86 #[.int .i64 b, .slice (some ⟨r, 0, none⟩) n n]
  low : Box w r 35 (row f n)
  ne : g ≠ r
  num : n = 2 ^ b
  b0 : 1 ≤ b
  b1 : b ≤ 11
theorem Ca.le {w : World} {g r b n : Nat} {f : Nat → Nat} (h : Ca w g r b n f) : n ≤ 2048 := by rw [h.num]; exact pow_le b h.b1
theorem Ca.in {w : World} {g r b n : Nat} {f : Nat → Nat} (h : Ca w g r b n f) (a : Nat) : sl a b < n := by rw [h.num]; exact sl_lt a b (by have := h.b1; omega)
theorem Ca.keep {w w' : World} {g r b n : Nat} {f : Nat → Nat} (h : Ca w g r b n f) {B : Nat} (u : Below B w w') (hg : g < B) (hr : r < B) : Ca w' g r b n f :=
  ⟨h.top.below u hg, h.low.below u hr, h.ne, h.num, h.b0, h.b1⟩
theorem Ca.drewN {w : World} {g r b n : Nat} {f : Nat → Nat} (h : Ca w g r b n f) (m : Nat) : Ca (w.drewN m) g r b n f := ⟨h.top, h.low, h.ne, h.num, h.b0, h.b1⟩
theorem Ca.set {w : World} {g r b n : Nat} {f : Nat → Nat} (h : Ca w g r b n f) (k z : Nat) : Ca (w.setCell ⟨r, k, none⟩ (.int .u32 z)) g r b n (upd f k z) :=
  ⟨h.top.other (p := ⟨r, k, none⟩) h.ne _, by have := h.low.set k (.int .u32 z); rwa [row_set] at this, h.ne, h.num, h.b0, h.b1⟩
theorem Ca.other {w : World} {g r b n : Nat} {f : Nat → Nat} (h : Ca w g r b n f) (p : Addr) (hg : g ≠ p.block) (hr : r ≠ p.block) (v : Value) : Ca (w.setCell p v) g r b n f :=
  ⟨h.top.other hg v, h.low.other hr v, h.ne, h.num, h.b0, h.b1⟩
theorem Ca.alloc {w : World} {g r b n : Nat} {f : Nat → Nat} (h : Ca w g r b n f) (o : Obj) : Ca (w.alloc o) g r b n f :=
  ⟨h.top.alloc o, h.low.alloc o, h.ne, h.num, h.b0, h.b1⟩

theorem new7_no (b : Int) (w : World) (h : b < 1 ∨ 11 < b) :
    Calls Try.prog 28 #[.int .i64 b] w fun e w' => e = .returned (.tuple #[.pointer none, .int .i64 1]) ∧ w' = w := by
  have H := hide (mbV_no b h)
  clear h
  go_enter Try.func28, Try.ntmps28
  go_wp2_with fail
  refine (may14 _ _).mono ?_
  rintro e w' ⟨rfl, rfl⟩
  rw [unhide H]
  go_wp2
  go_ret2
  exact ⟨rfl, rfl⟩
set_option maxHeartbeats 1000000 in
theorem new7 (b : Nat) (w : World) (h0 : 1 ≤ b) (h1 : b ≤ 11) :
    Calls Try.prog 28 #[.int .i64 b] w fun e w' => e = .returned (.tuple #[.pointer (some ⟨w.heap.size + 1, 0, none⟩), .int .i64 0]) ∧ w'.heap.size = w.heap.size + 2 ∧ Ca w' (w.heap.size + 1) w.heap.size b (2 ^ b) (fun _ => 0) ∧ Below w.heap.size w w' := by
  have H := hide (mbV_yes b (by omega) (by omega))
  have hp := (pow_cast b).symm
  have hl := pow_le b h1
  have PN := hide (show 2 ^ b = 2 ^ b from rfl)
  generalize hn : 2 ^ b = n at hp hl ⊢
  have HN := hide hn
  have hmk := fun w => make_row w n (by omega)
  have hl' : (n : Int) ≤ 2048 := by omega
  clear hn PN
  go_enter Try.func28, Try.ntmps28
  go_wp2_with fail
  refine (may14 _ _).mono ?_
  rintro e w' ⟨rfl, rfl⟩
  rw [unhide H]
  go_wp2
  go_ret2
  refine ⟨rfl, ?_, ?_, ?_⟩
  · simp
  · have s1 : (w'.alloc (.cells (row (fun _ => 0) n) 35)).heap.size = w'.heap.size + 1 := by simp
    have h3 := Box.made (w'.alloc (.cells (row (fun _ => 0) n) 35)) 86 #[.int .i64 b, .slice (some ⟨w'.heap.size, 0, none⟩) n n]
    rw [s1] at h3
    exact ⟨h3, (Box.made w' 35 _).alloc _, by omega, (unhide HN).symm, h0, h1⟩
  · exact ((Below.refl _ _).alloc (Nat.le_refl _) _).alloc (by simp) _
theorem has15_nil (i : Int) (w : World) :
    Calls Try.prog 40 #[.pointer none, .int .i64 i] w fun e w' => e = .returned (.bool false) ∧ w' = w := by
  go_enter Try.func40, Try.ntmps40
  go_wp2
  go_ret
  exact ⟨rfl, rfl⟩
theorem has15 (g r b n : Nat) (f : Nat → Nat) (i : Int) (w : World) (C : Ca w g r b n f) :
    Calls Try.prog 40 #[.pointer (some ⟨g, 0, none⟩), .int .i64 i] w fun e w' => e = .returned (.bool (hsV n i)) ∧ w' = w := by
  have c1 : w.cell? ⟨g, 1, none⟩ = some (.slice (some ⟨r, 0, none⟩) n n) := C.top.cell 1
  clear C
  by_cases h0 : 0 ≤ i
  · by_cases h1 : i < n
    · have H := hide (hsV_yes n i h0 h1)
      go_enter Try.func40, Try.ntmps40
      go_wp2
      go_ret
      exact ⟨ret_bool (unhide H).symm, rfl⟩
    · have H := hide (hsV_no n i (by omega))
      go_enter Try.func40, Try.ntmps40
      go_wp2
      go_ret
      exact ⟨ret_bool (unhide H).symm, rfl⟩
  · have H := hide (hsV_no n i (by omega))
    go_enter Try.func40, Try.ntmps40
    go_wp2
    go_ret
    exact ⟨ret_bool (unhide H).symm, rfl⟩
theorem get12_nil (i : Int) (w : World) :
    Calls Try.prog 31 #[.pointer none, .int .i64 i] w fun e w' => e = .returned (.tuple #[.int .u32 0, .bool false]) ∧ w' = w := by
  go_enter Try.func31, Try.ntmps31
  go_wp2_with fail
  refine (has15_nil _ _).mono ?_
  rintro e w' ⟨rfl, rfl⟩
  go_wp2
  go_ret2
  exact ⟨rfl, rfl⟩
theorem get12_no (g r b n : Nat) (f : Nat → Nat) (i : Int) (w : World) (C : Ca w g r b n f) (h : i < 0 ∨ n ≤ i) :
    Calls Try.prog 31 #[.pointer (some ⟨g, 0, none⟩), .int .i64 i] w fun e w' => e = .returned (.tuple #[.int .u32 0, .bool false]) ∧ w' = w := by
  have H := hide (hsV_no n i h)
  have CC := hide C
  clear C h
  go_enter Try.func31, Try.ntmps31
  go_wp2_with fail
  refine (has15 _ _ _ _ _ _ _ (unhide CC)).mono ?_
  rintro e w' ⟨rfl, rfl⟩
  rw [unhide H]
  go_wp2
  go_ret2
  exact ⟨rfl, rfl⟩
theorem get12 (g r b n : Nat) (f : Nat → Nat) (i : Nat) (w : World) (C : Ca w g r b n f) (h : i < n) :
    Calls Try.prog 31 #[.pointer (some ⟨g, 0, none⟩), .int .i64 i] w fun e w' => e = .returned (.tuple #[.int .u32 (f i), .bool true]) ∧ w' = w := by
  have H := hide (hsV_yes n i (by omega) (by omega))
  have c1 : w.cell? ⟨g, 1, none⟩ = some (.slice (some ⟨r, 0, none⟩) n n) := C.top.cell 1
  have c2 : w.cell? ⟨r, i, none⟩ = some (.int .u32 (f i)) := (C.low.cell i).trans (row_at f n i h)
  have hI : (i : Int) < n := by omega
  have CC := hide C
  clear C
  go_enter Try.func31, Try.ntmps31
  go_wp2_with fail
  refine (has15 _ _ _ _ _ _ _ (unhide CC)).mono ?_
  rintro e w' ⟨rfl, rfl⟩
  rw [unhide H]
  go_wp2
  go_ret2
  exact ⟨rfl, rfl⟩
theorem find9_nil (a : Int) (w : World) :
    Calls Try.prog 33 #[.pointer none, .int .u32 a] w fun e w' => e = .returned (.tuple #[.int .i64 0, .bool false]) ∧ w' = w := by
  go_enter Try.func33, Try.ntmps33
  go_wp2
  go_ret2
  exact ⟨rfl, rfl⟩
theorem find9_yes (g r b n : Nat) (f : Nat → Nat) (a : Nat) (w : World) (C : Ca w g r b n f) (h : f (sl a b) = a) :
    Calls Try.prog 33 #[.pointer (some ⟨g, 0, none⟩), .int .u32 a] w fun e w' => e = .returned (.tuple #[.int .i64 (sl a b : Nat), .bool true]) ∧ w' = w := by
  have c1 : w.cell? ⟨g, 0, none⟩ = some (.int .i64 b) := C.top.cell 0
  have CC := hide C
  have HH := hide h
  clear C h
  go_enter Try.func33, Try.ntmps33
  go_wp2_with fail
  refine (slot13_in _ _ _ (unhide CC).b0 (unhide CC).b1).mono ?_
  rintro e w' ⟨rfl, rfl⟩
  go_wp2_with fail
  refine (get12 _ _ _ _ _ _ _ (unhide CC) ((unhide CC).in a)).mono ?_
  rintro e w' ⟨rfl, rfl⟩
  rw [unhide HH]
  go_wp2
  go_ret2
  exact ⟨rfl, rfl⟩
theorem find9_no (g r b n : Nat) (f : Nat → Nat) (a : Nat) (w : World) (C : Ca w g r b n f) (h : f (sl a b) ≠ a) :
    Calls Try.prog 33 #[.pointer (some ⟨g, 0, none⟩), .int .u32 a] w fun e w' => e = .returned (.tuple #[.int .i64 0, .bool false]) ∧ w' = w := by
  have c1 : w.cell? ⟨g, 0, none⟩ = some (.int .i64 b) := C.top.cell 0
  have CC := hide C
  have h2 : ((f (sl a b) : Int) != (a : Int)) = true := by rw [bne_iff_ne]; omega
  clear C h
  go_enter Try.func33, Try.ntmps33
  go_wp2_with fail
  refine (slot13_in _ _ _ (unhide CC).b0 (unhide CC).b1).mono ?_
  rintro e w' ⟨rfl, rfl⟩
  go_wp2_with fail
  refine (get12 _ _ _ _ _ _ _ (unhide CC) ((unhide CC).in a)).mono ?_
  rintro e w' ⟨rfl, rfl⟩
  go_wp2
  go_ret2
  exact ⟨rfl, rfl⟩
theorem add11_nil (a : Int) (w : World) :
    Calls Try.prog 34 #[.pointer none, .int .u32 a] w fun e w' => e = .returned (.tuple #[]) ∧ w' = w := by
  go_enter Try.func34, Try.ntmps34
  go_wp2
  exact bodyPost_ret (results_none rfl _ _ _) rfl ⟨rfl, rfl⟩
theorem add11 (g r b n : Nat) (f : Nat → Nat) (a : Nat) (w : World) (C : Ca w g r b n f) :
    Calls Try.prog 34 #[.pointer (some ⟨g, 0, none⟩), .int .u32 a] w fun e w' => e = .returned (.tuple #[]) ∧ w' = w.setCell ⟨r, sl a b, none⟩ (.int .u32 a) := by
  have c1 : w.cell? ⟨g, 0, none⟩ = some (.int .i64 b) := C.top.cell 0
  have c2 : w.cell? ⟨g, 1, none⟩ = some (.slice (some ⟨r, 0, none⟩) n n) := C.top.cell 1
  have hI := C.in a
  have H := hide (hsV_yes n (sl a b : Nat) (by omega) (by omega))
  have c3 : w.cell? ⟨r, sl a b, none⟩ = some (.int .u32 (f (sl a b))) := (C.low.cell _).trans (row_at f n _ hI)
  have f3 := C.low.free (sl a b)
  have hI' : ((sl a b : Nat) : Int) < n := by omega
  have CC := hide C
  clear C
  go_enter Try.func34, Try.ntmps34
  go_wp2_with fail
  refine (slot13_in _ _ _ (unhide CC).b0 (unhide CC).b1).mono ?_
  rintro e w' ⟨rfl, rfl⟩
  go_wp2_with fail
  refine (has15 _ _ _ _ _ _ _ (unhide CC)).mono ?_
  rintro e w' ⟨rfl, rfl⟩
  rw [unhide H]
  go_wp2
  go_end0
  exact ⟨rfl, rfl⟩
end Go.Proofs.Ytpkiilnkiidoiaa.CCac
