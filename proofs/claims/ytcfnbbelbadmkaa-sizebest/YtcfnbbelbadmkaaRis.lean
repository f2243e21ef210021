/- Contracts: size.good and all that it calls; size.rising. Conditions: the slice reads as integers, and they are few. -/
import Derived.Test.YtcfnbbelbadmkaaStb
import Derived.Maps.AppendAt
namespace Go.Proofs.Ytcfnbbelbadmkaa.Ris
open Go.ChangeShapes Go.WideShapes Go.ChangeAt Go.RowKit Go.Proofs.Ytcfnbbelbadmkaa.Core Go.Proofs.Ytcfnbbelbadmkaa.Gnd Go.Proofs.Ytcfnbbelbadmkaa.Srt Go.Proofs.Ytcfnbbelbadmkaa.Stb

/-- Counts that may be. -/
def Okc (c : Nat → Int) (n : Nat) : Prop := ∀ k, k < n → 0 ≤ c k ∧ c k ≤ 4294967296
def okB (c : Nat → Int) : Nat → Bool
  | 0 => true
  | n + 1 => okB c n && decide (0 ≤ c n ∧ c n ≤ 4294967296)
theorem okB_iff (c : Nat → Int) : ∀ n, okB c n = true ↔ Okc c n
  | 0 => ⟨fun _ k hk => by omega, fun _ => rfl⟩
  | n + 1 => by
    rw [okB, Bool.and_eq_true, okB_iff c n, decide_eq_true_iff]
    constructor
    · rintro ⟨h1, h2⟩ k hk
      by_cases e : k = n
      · subst e; exact h2
      · exact h1 k (by omega)
    · intro h
      exact ⟨fun k hk => h k (by omega), h n (by omega)⟩
theorem bad19 (x : Int) (w : World) : Calls Try.prog 20 #[.int .i64 x] w fun e w' => e = .returned (.bool (decide (x < 0 ∨ 4294967296 < x))) ∧ w' = w := by
  by_cases h1 : x < 0
  · have hb : decide (x < 0 ∨ 4294967296 < x) = true := by simp [h1]
    rw [hb]
    clear hb
    go_enter Try.func20, Try.ntmps20
    go_wp2
    go_ret
    exact ⟨rfl, rfl⟩
  · by_cases h2 : 4294967296 < x
    · have hb : decide (x < 0 ∨ 4294967296 < x) = true := by simp [h2]
      rw [hb]
      clear hb
      go_enter Try.func20, Try.ntmps20
      go_wp2
      go_ret
      exact ⟨rfl, rfl⟩
    · have hb : decide (x < 0 ∨ 4294967296 < x) = false := by simp; omega
      rw [hb]
      clear hb
      go_enter Try.func20, Try.ntmps20
      go_wp2
      go_ret
      exact ⟨rfl, rfl⟩
theorem idx22 (v : Value) (len : Nat) (c : Nat → Int) (hl : len ≤ 100000) (w : World) (src : Ints .i64 w v len c) :
    Calls Try.prog 26 #[v, .func (.func 20) #[] #[]] w fun e w' => ∃ r : Int, e = .returned (.int .i64 r) ∧ decide (0 ≤ r) = !okB c len ∧ w' = w := by
  obtain ⟨a, cap, rfl, hs⟩ := src
  have SRC := hide hs
  clear hs
  go_enter Try.func26, Try.ntmps26
  go_wp2
  go_loopw [8] (fun i wr => ∃ k : Nat, k ≤ len ∧ i = .int .i64 k ∧ Okc c k ∧ wr = w) (fun i _ => len - (intOf i).toNat)
  case atStart => exact ⟨0, Nat.zero_le _, rfl, fun j hj => by omega, rfl⟩
  case round =>
    obtain ⟨k, hk, rfl, good, rfl⟩ := hrel
    have GOOD := hide good
    clear good
    by_cases hlt : k < len
    · have hlt' : (k : Int) < (len : Int) := by omega
      obtain ⟨b, off, rfl, hcell⟩ := unhide SRC k hlt
      by_cases hx : c k < 0 ∨ 4294967296 < c k
      · have hb : decide (c k < 0 ∨ 4294967296 < c k) = true := by simp [hx]
        have HX := hide hx
        clear hx
        go_wp2_with (go_at_call 20; refine (bad19 (c k) _).mono ?_; rw [hb]; rintro e w1 ⟨rfl, rfl⟩)
        go_ret
        refine ⟨_, rfl, ?_, rfl⟩
        have h1 : okB c len = false := by
          cases h2 : okB c len
          · rfl
          · have := (okB_iff c len).1 h2 k hlt
            have := unhide HX
            omega
        rw [h1]
        exact decide_eq_true (by omega)
      · have hb : decide (c k < 0 ∨ 4294967296 < c k) = false := by simp [hx]
        have HX := hide hx
        clear hx
        go_wp2_with (go_at_call 20; refine (bad19 (c k) _).mono ?_; rw [hb]; rintro e w1 ⟨rfl, rfl⟩)
        go_roundw
        case rel =>
          refine ⟨k + 1, by omega, by go_num, fun j hj => ?_, by first | rfl | trivial⟩
          by_cases e : j = k
          · subst e
            have := unhide HX
            omega
          · exact unhide GOOD j (by omega)
        case measure => simp [intOf]; omega
    · obtain rfl : k = len := by omega
      go_wp2
      go_ret
      refine ⟨_, rfl, ?_, rfl⟩
      rw [(okB_iff c k).2 (unhide GOOD)]
      rfl
theorem con18 (v : Value) (len : Nat) (c : Nat → Int) (hl : len ≤ 100000) (w : World) (src : Ints .i64 w v len c) :
    Calls Try.prog 19 #[v, .func (.func 20) #[] #[]] w fun e w' => e = .returned (.bool (!okB c len)) ∧ w' = w := by
  have SRC := hide src
  clear src
  go_enter Try.func19, Try.ntmps19
  go_wp2_with (go_at_call 26; refine (idx22 v len c hl _ (unhide SRC)).mono ?_; rintro e w1 ⟨r, rfl, hr, rfl⟩; have HR := hide hr; clear hr)
  go_ret
  exact ⟨by rw [← unhide HR]; rfl, rfl⟩
theorem good13 (v : Value) (len : Nat) (c : Nat → Int) (hl : len ≤ 4096) (w : World) (src : Ints .i64 w v len c) :
    Calls Try.prog 13 #[v] w fun e w' => e = .returned (.bool (okB c len)) ∧ w' = w := by
  have SRC := hide src
  obtain ⟨a, cap, rfl, _⟩ := src
  have hl' : (len : Int) ≤ 4096 := by omega
  go_enter Try.func13, Try.ntmps13
  go_wp2_with (go_at_call 19; refine (con18 _ len c (by omega) _ (unhide SRC)).mono ?_; rintro e w1 ⟨rfl, rfl⟩)
  go_ret
  exact ⟨by simp, rfl⟩
/-- The function that compares two symbols by their counts. -/
theorem cmp22 (B : Nat) (v : Value) (len : Nat) (c : Nat → Int) (x y : Nat) (W : World) (hb : W.cell? ⟨B, 0, none⟩ = some v) (src : Ints .i64 W v len c) (ok : Okc c len) (hx : x < len) (hy : y < len) :
    Calls Try.prog 22 (#[.int .i64 x, .int .i64 y] ++ #[.pointer (some ⟨B, 0, none⟩)]) W fun e W' => e = .returned (.int .i64 (c x - c y)) ∧ ∃ q, W' = W.drewN q := by
  obtain ⟨a, cap, rfl, hs⟩ := src
  obtain ⟨b, off, rfl, c1⟩ := hs x hx
  obtain ⟨b2, off2, e2, c2⟩ := hs y hy
  cases e2
  have o1 := ok x hx
  have o2 := ok y hy
  have hx' : (x : Int) < (len : Int) := by omega
  have hy' : (y : Int) < (len : Int) := by omega
  clear hs ok
  go_enter Try.func22, Try.ntmps22
  go_wp2
  go_quiet ((fail))
  go_wp2
  go_ret
  exact ⟨rfl, _, rfl⟩
/-- The places of counts above 0, in their order. -/
def pos (c : Nat → Int) : Nat → List Nat
  | 0 => []
  | n + 1 => if 0 < c n then pos c n ++ [n] else pos c n
theorem pos_len (c : Nat → Int) : ∀ n, (pos c n).length ≤ n
  | 0 => Nat.le_refl _
  | n + 1 => by
    have := pos_len c n
    unfold pos
    split
    · rw [List.length_append]; simp; omega
    · omega
theorem pos_mem (c : Nat → Int) (x : Nat) : ∀ n, x ∈ pos c n ↔ x < n ∧ 0 < c x
  | 0 => by simp [pos]
  | n + 1 => by
    unfold pos
    have := pos_mem c x n
    split
    · next h =>
      rw [List.mem_append, this, List.mem_singleton]
      constructor
      · rintro (⟨h1, h2⟩ | rfl)
        · exact ⟨by omega, h2⟩
        · exact ⟨by omega, h⟩
      · rintro ⟨h1, h2⟩
        by_cases e : x = n
        · exact .inr e
        · exact .inl ⟨by omega, h2⟩
    · next h =>
      rw [this]
      constructor
      · rintro ⟨h1, h2⟩
        exact ⟨by omega, h2⟩
      · rintro ⟨h1, h2⟩
        by_cases e : x = n
        · subst e; exact absurd h2 h
        · exact ⟨by omega, h2⟩
def ncells (l : List Nat) : List Value := l.map fun (k : Nat) => Value.int .i64 (k : Int)
theorem info3 : (Try.prog.info? 3).map (fun i => (i.zero, i.size, i.bytes)) = some (some (.int .i64 0), 1, 8) := by kernel_rfl
theorem ins29_nil (a : Nat) (cf : Value) (w : World) (ha : a ≤ 100) : Calls Try.prog 29 #[.slice none 0 0, .int .i64 a, .int .i64 0, cf] w fun e w' => e = .returned (.tuple #[]) ∧ w' = w := by
  have h1 : ¬ (a : Int) + 1 < 0 := by omega
  go_enter Try.func29, Try.ntmps29
  go_wp2
  refine wp_loop_rounds 1 ?_
  rw [rounds_succ]
  go_wp2
  go_end0
  exact ⟨rfl, rfl⟩
theorem stb27_nil (cf : Value) (w : World) : Calls Try.prog 27 #[.slice none 0 0, .int .i64 0, cf] w fun e w' => e = .returned (.tuple #[]) ∧ w' = w := by
  go_enter Try.func27, Try.ntmps27
  go_wp2
  refine wp_loop_rounds 1 ?_
  rw [rounds_succ]
  go_wp2_with (go_at_call 29; refine (ins29_nil 0 cf _ (by omega)).mono ?_; rintro e w1 ⟨rfl, rfl⟩)
  refine wp_loop_rounds 1 ?_
  rw [rounds_succ]
  go_wp2
  go_end0
  exact ⟨rfl, rfl⟩
theorem sta21_nil (cf : Value) (w : World) : Calls Try.prog 21 #[.slice none 0 0, cf] w fun e w' => e = .returned (.tuple #[]) ∧ w' = w := by
  go_enter Try.func21, Try.ntmps21
  go_wp2_with (go_at_call 27; refine (stb27_nil cf _).mono ?_; rintro e w1 ⟨rfl, rfl⟩)
  go_end0
  exact ⟨rfl, rfl⟩
end Go.Proofs.Ytcfnbbelbadmkaa.Ris
