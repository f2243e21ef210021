/- Contract: slices.symMergeCmpFunc. Conditions: the places lie in the row. -/
import Derived.Test.YtcfnbbelbadmkaaSyr
import Derived.Test.YtcfnbbelbadmkaaRot
namespace Go.Proofs.Ytcfnbbelbadmkaa.Sym
open Go.ChangeShapes Go.WideShapes Go.ChangeAt Go.RowKit Go.Proofs.Ytcfnbbelbadmkaa.Core Go.Proofs.Ytcfnbbelbadmkaa.Gnd Go.Proofs.Ytcfnbbelbadmkaa.Srt Go.Proofs.Ytcfnbbelbadmkaa.Ins Go.Proofs.Ytcfnbbelbadmkaa.Syl Go.Proofs.Ytcfnbbelbadmkaa.Syr Go.Proofs.Ytcfnbbelbadmkaa.Rot

/-- Where the two rows are cut: s is the cut of the first, mid + m - s that of the second. -/
structure Cut (c : Nat → Int) (f : Nat → Nat) (a m b mid s : Nat) : Prop where
  low : s = a ∨ mid + m - s = b ∨ (a < s ∧ mid + m - s < b ∧ c (f (s - 1)) ≤ c (f (mid + m - s)))
  high : s = m ∨ mid = s ∨ (s < m ∧ m < mid + m - s ∧ c (f (mid + m - s - 1)) < c (f s))
theorem ro_at {a m b k : Nat} (h1 : a ≤ k) (h2 : k < a + (b - m)) (hb : k < b) : ro a m b k = k + (m - a) := by unfold ro; rw [if_pos ⟨h1, hb⟩, if_pos h2]
theorem ro_le {a m b k : Nat} (h1 : a ≤ k) (h2 : ¬ k < a + (b - m)) (hb : k < b) : ro a m b k = k - (b - m) := by unfold ro; rw [if_pos ⟨h1, hb⟩, if_neg h2]
theorem ro_out {a m b k : Nat} (h : k < a ∨ b ≤ k) : ro a m b k = k := by unfold ro; rw [if_neg (by omega)]
theorem ro_re (a m b : Nat) (f : Nat → Nat) (h1 : a ≤ m) (h2 : m ≤ b) : Re a b f (fun k => f (ro a m b k)) := by
  refine ⟨ro a m b, ro a (a + (b - m)) b, fun k => ?_, fun k hk => ?_, fun k hk hl => ?_, fun _ => rfl⟩
  · by_cases e : a ≤ k ∧ k < b
    · constructor
      · by_cases e1 : k < a + (b - (a + (b - m)))
        · rw [ro_at (m := a + (b - m)) e.1 e1 e.2, ro_le (by omega) (by omega) (by omega)]
          omega
        · rw [ro_le (m := a + (b - m)) e.1 e1 e.2, ro_at (by omega) (by omega) (by omega)]
          omega
      · by_cases e1 : k < a + (b - m)
        · rw [ro_at (m := m) e.1 e1 e.2, ro_le (by omega) (by omega) (by omega)]
          omega
        · rw [ro_le (m := m) e.1 e1 e.2, ro_at (by omega) (by omega) (by omega)]
          omega
    · rw [ro_out (m := a + (b - m)) (by omega), ro_out (m := m) (k := k) (by omega), ro_out (by omega)]
      exact ⟨rfl, rfl⟩
  · exact ⟨ro_out hk, ro_out hk⟩
  · by_cases e1 : k < a + (b - m)
    · rw [ro_at hk e1 hl]
      by_cases e2 : k < a + (b - (a + (b - m)))
      · rw [ro_at hk e2 hl]; omega
      · rw [ro_le hk e2 hl]; omega
    · rw [ro_le hk e1 hl]
      by_cases e2 : k < a + (b - (a + (b - m)))
      · rw [ro_at hk e2 hl]; omega
      · rw [ro_le hk e2 hl]; omega
/-- Behind the turn: what stands ahead of mid is not above what stands behind it, and each half is two rows that rise. -/
structure Half (c : Nat → Int) (f : Nat → Nat) (a s mid e b : Nat) : Prop where
  l1 : Up c f a s
  l2 : Up c f s mid
  r1 : Up c f mid e
  r2 : Up c f e b
  all : ∀ x y, a ≤ x → x < mid → mid ≤ y → y < b → c (f x) ≤ c (f y)
theorem half_of {c : Nat → Int} {f : Nat → Nat} {a m b mid s : Nat} (u1 : Up c f a m) (u2 : Up c f m b) (hs : a ≤ s) (hsm : s ≤ m) (hsd : s ≤ mid) (he : mid + m - s ≤ b) (cut : Cut c f a m b mid s) :
    Half c (fun k => f (ro s m (mid + m - s) k)) a s mid (mid + m - s) b := by
  have A : ∀ x, a ≤ x → x < s → ro s m (mid + m - s) x = x := fun x h1 h2 => ro_out (by omega)
  have B : ∀ x, s ≤ x → x < mid → ro s m (mid + m - s) x = x + (m - s) := fun x h1 h2 => ro_at h1 (by omega) (by omega)
  have C : ∀ x, mid ≤ x → x < mid + m - s → ro s m (mid + m - s) x = x - (mid - s) := fun x h1 h2 => by rw [ro_le (by omega) (by omega) h2]; omega
  have D : ∀ x, mid + m - s ≤ x → ro s m (mid + m - s) x = x := fun x h1 => ro_out (by omega)
  have le1 : ∀ i j, a ≤ i → i ≤ j → j < m → c (f i) ≤ c (f j) := fun i j h1 h2 h3 => by
    by_cases e : i = j
    · subst e; exact Int.le_refl _
    · exact u1 i j h1 (by omega) h3
  have le2 : ∀ i j, m ≤ i → i ≤ j → j < b → c (f i) ≤ c (f j) := fun i j h1 h2 h3 => by
    by_cases e : i = j
    · subst e; exact Int.le_refl _
    · exact u2 i j h1 (by omega) h3
  refine ⟨fun x y h1 h2 h3 => ?_, fun x y h1 h2 h3 => ?_, fun x y h1 h2 h3 => ?_, fun x y h1 h2 h3 => ?_, fun x y h1 h2 h3 h4 => ?_⟩
  · show c (f _) ≤ c (f _)
    rw [A x h1 (by omega), A y (by omega) h3]
    exact u1 _ _ h1 h2 (by omega)
  · show c (f _) ≤ c (f _)
    rw [B x h1 (by omega), B y (by omega) h3]
    exact u2 _ _ (by omega) (by omega) (by omega)
  · show c (f _) ≤ c (f _)
    rw [C x h1 (by omega), C y (by omega) h3]
    exact u1 _ _ (by omega) (by omega) (by omega)
  · show c (f _) ≤ c (f _)
    rw [D x h1, D y (by omega)]
    exact u2 _ _ (by omega) h2 h3
  · show c (f _) ≤ c (f _)
    by_cases ex : x < s
    · rw [A x h1 ex]
      by_cases ey : y < mid + m - s
      · rw [C y h3 ey]
        exact le1 _ _ h1 (by omega) (by omega)
      · rw [D y (by omega)]
        rcases cut.low with h | h | ⟨p1, p2, p3⟩
        · omega
        · omega
        · have q1 := le1 x (s - 1) h1 (by omega) (by omega)
          have q2 := le2 (mid + m - s) y (by omega) (by omega) h4
          omega
    · rw [B x (by omega) h2]
      by_cases ey : y < mid + m - s
      · rw [C y h3 ey]
        rcases cut.high with h | h | ⟨p1, p2, p3⟩
        · omega
        · omega
        · have q1 := le2 (x + (m - s)) (mid + m - s - 1) (by omega) (by omega) (by omega)
          have q2 := le1 s (y - (mid - s)) (by omega) (by omega) (by omega)
          omega
      · rw [D y (by omega)]
        exact le2 _ _ (by omega) (by omega) h4
/-- Two halves that rise, the first not above the second. -/
theorem up_join {c : Nat → Int} {f f1 f2 : Nat → Nat} {a mid b : Nat} (all : ∀ x y, a ≤ x → x < mid → mid ≤ y → y < b → c (f x) ≤ c (f y)) (r1 : Re a mid f f1) (u1 : Up c f1 a mid) (r2 : Re mid b f1 f2) (u2 : Up c f2 mid b) : Up c f2 a b := fun x y h1 h2 h3 => by
  by_cases ey : y < mid
  · rw [r2.out x (by omega), r2.out y (by omega)]
    exact u1 x y h1 h2 ey
  · by_cases ex : x < mid
    · rw [r2.out x (by omega)]
      obtain ⟨i, i1, i2, i3⟩ := r1.into x h1 ex
      obtain ⟨j, j1, j2, j3⟩ := r2.into y (by omega) h3
      rw [i3, j3, r1.out j (by omega)]
      exact all i j i1 i2 j1 j2
    · exact u2 x y (by omega) h2 h3
theorem ro_same {s m e k : Nat} (h : s = m ∨ e = m) : ro s m e k = k := by
  by_cases h1 : s ≤ k ∧ k < e
  · by_cases h2 : k < s + (e - m)
    · rw [ro_at h1.1 h2 h1.2]; omega
    · rw [ro_le h1.1 h2 h1.2]; omega
  · exact ro_out (by omega)
theorem Up.same {c : Nat → Int} {f f' : Nat → Nat} {a b : Nat} (h : Up c f a b) (e : ∀ k, a ≤ k → k < b → f' k = f k) : Up c f' a b := fun x y h1 h2 h3 => by
  rw [e x h1 (by omega), e y (by omega) h3]
  exact h x y h1 h2 h3
/-- What the search knows. -/
structure Find (c : Nat → Int) (f : Nat → Nat) (N lo hi s r : Nat) : Prop where
  b1 : lo ≤ s
  b2 : s ≤ r
  b3 : r ≤ hi
  low : ∀ x, lo ≤ x → x < s → c (f x) ≤ c (f (N - 1 - x))
  high : ∀ x, r ≤ x → x < hi → c (f (N - 1 - x)) < c (f x)
theorem Find.start (c : Nat → Int) (f : Nat → Nat) (N lo hi : Nat) (h : lo ≤ hi) : Find c f N lo hi lo hi := ⟨Nat.le_refl _, h, Nat.le_refl _, fun x _ _ => by omega, fun x _ _ => by omega⟩
theorem Find.up {c : Nat → Int} {f : Nat → Nat} {a m b N lo hi s r h : Nat} (t : Find c f N lo hi s r) (u1 : Up c f a m) (u2 : Up c f m b) (h1 : a ≤ lo) (h2 : hi ≤ m) (h3 : N ≤ lo + b) (h4 : hi + m ≤ N) (hs : s ≤ h) (hr : h < r) (q : c (f h) ≤ c (f (N - 1 - h))) : Find c f N lo hi (h + 1) r := by
  have := t.b3
  refine ⟨by have := t.b1; omega, by omega, t.b3, fun x x1 x2 => ?_, t.high⟩
  by_cases e : x = h
  · subst e; exact q
  · have a1 := u1 x h (by omega) (by omega) (by omega)
    have a2 := u2 (N - 1 - h) (N - 1 - x) (by omega) (by omega) (by omega)
    omega
theorem Find.down {c : Nat → Int} {f : Nat → Nat} {a m b N lo hi s r h : Nat} (t : Find c f N lo hi s r) (u1 : Up c f a m) (u2 : Up c f m b) (h1 : a ≤ lo) (h2 : hi ≤ m) (h3 : N ≤ lo + b) (h4 : hi + m ≤ N) (hs : s ≤ h) (hr : h < r) (q : c (f (N - 1 - h)) < c (f h)) : Find c f N lo hi s h := by
  have := t.b3
  have := t.b1
  refine ⟨t.b1, hs, by omega, t.low, fun x x1 x2 => ?_⟩
  by_cases e : x = h
  · subst e; exact q
  · have a1 := u1 h x (by omega) (by omega) (by omega)
    have a2 := u2 (N - 1 - x) (N - 1 - h) (by omega) (by omega) (by omega)
    omega
theorem Find.cut {c : Nat → Int} {f : Nat → Nat} {a m b mid lo hi s : Nat} (t : Find c f (mid + m) lo hi s s) (h : (m > mid ∧ lo = mid + m - b ∧ hi = mid) ∨ (m ≤ mid ∧ lo = a ∧ hi = m)) (ha : a ≤ lo) (hb : mid + m ≤ lo + b) (hm : m < b) (hM : mid < m → b ≤ mid + m) : Cut c f a m b mid s := by
  have b1 := t.b1
  have b3 := t.b3
  constructor
  · by_cases e : s = lo
    · rcases h with ⟨h1, h2, h3⟩ | ⟨h1, h2, h3⟩
      · exact .inr (.inl (by omega))
      · exact .inl (by omega)
    · have := t.low (s - 1) (by omega) (by omega)
      rw [show mid + m - 1 - (s - 1) = mid + m - s by omega] at this
      exact .inr (.inr ⟨by omega, by omega, this⟩)
  · by_cases e : s = hi
    · rcases h with ⟨h1, h2, h3⟩ | ⟨h1, h2, h3⟩
      · exact .inr (.inl (by omega))
      · exact .inl (by omega)
    · have := t.high s (Nat.le_refl _) (by omega)
      rw [show mid + m - 1 - s = mid + m - s - 1 by omega] at this
      exact .inr (.inr ⟨by omega, by omega, this⟩)
set_option maxRecDepth 20000 in
set_option maxHeartbeats 8000000 in
theorem sym30 (K : Nat) (eg : ∀ args w, (callFunc K args).run Try.prog w = .ok (.enter K args) w) (cb : Array Value) (g n cap len : Nat) (c : Nat → Int) (hn : n ≤ 100000) : ∀ (d a m b : Nat) (f : Nat → Nat) (w : World), b - a ≤ d → a < m → m < b → b ≤ n →
    Row w g n f → Rg f n len → Asks K cb w g len c → Up c f a m → Up c f m b →
    Calls Try.prog 30 #[.slice (some ⟨g, 0, none⟩) n cap, .int .i64 a, .int .i64 m, .int .i64 b, .func (.func K) #[] cb] w fun e w' => e = .returned (.tuple #[]) ∧ ∃ f', Re a b f f' ∧ Up c f' a b ∧ Row w' g n f' ∧ Upd (fun k => k = g) w w' := by
  intro d
  induction d with
  | zero => intro a m b f w h0 h1 h2; omega
  | succ d ih =>
    intro a m b f w h0 h1 h2 h3 hr rg ask up1 up2
    have IH := hide ih
    clear ih
    by_cases hl : m = a + 1
    · rw [hl] at up2 ⊢
      exact syl30 K eg cb g n cap a (a + 1) b len f c w hr rg ask rfl (by omega) h3 hn up2
    by_cases hb : b = m + 1
    · exact syr30 K eg cb g n cap a m b len f c w hr rg ask hb hl h1 h3 hn up1
    have RR := hide hr
    have RG := hide rg
    have ASK := hide ask
    have UP1 := hide up1
    have UP2 := hide up2
    have e1 : ((m : Int) - a == 1) = false := beq_eq_false_iff_ne.2 (by omega)
    have e2 : ((b : Int) - m == 1) = false := beq_eq_false_iff_ne.2 (by omega)
    obtain ⟨mid, hmid⟩ : ∃ x, x = (a + b) / 2 := ⟨_, rfl⟩
    have em : ((a : Int) + b) / 2 = (mid : Int) := by omega
    have k1 : a < mid := by omega
    have k2 : mid < b := by omega
    have HMID := hide hmid
    obtain ⟨N, hN⟩ : ∃ x, x = mid + m := ⟨_, rfl⟩
    have eN : (mid : Int) + m = (N : Int) := by omega
    obtain ⟨p, hp⟩ : ∃ x, x = N - 1 := ⟨_, rfl⟩
    have eP : (N : Int) - 1 = (p : Int) := by omega
    have HN := hide hN
    have HP := hide hp
    have kN : N ≤ 200000 := by omega
    clear hr rg ask up1 up2 hl hb hmid
    by_cases hg : mid < m
    · have hg' : (mid : Int) < (m : Int) := by omega
      obtain ⟨lo, hlo⟩ : ∃ x, x = N - b := ⟨_, rfl⟩
      have eS : (N : Int) - b = (lo : Int) := by have := unhide HMID; omega
      have k3 : a ≤ lo := by have := unhide HMID; omega
      have k4 : lo ≤ mid := by omega
      have k5 : N ≤ lo + b := by omega
      have HLO := hide hlo
      clear hN hp hlo
      go_enter Try.func30, Try.ntmps30
      go_wp2
      go_loopw [20, 21] (fun x y wr => ∃ (s r : Nat), x = .int .i64 s ∧ y = .int .i64 r ∧ Find c f N lo mid s r ∧ Row wr g n f ∧ Upd (fun k => k = g) w wr) (fun x y _ => (intOf y).toNat - (intOf x).toNat)
      case atStart => exact ⟨lo, mid, rfl, rfl, Find.start _ _ _ _ _ (by omega), unhide RR, Upd.refl _ w⟩
      case round =>
        obtain ⟨s, r, rfl, rfl, find, row, u⟩ := hrel
        have FIND := hide find
        have ROW := hide row
        have UU := hide u
        have b1 := find.b1
        have b2 := find.b2
        have b3 := find.b3
        have hN := unhide HN
        have hp := unhide HP
        have hlo := unhide HLO
        by_cases hlt : s < r
        · have hlt' : (s : Int) < (r : Int) := by omega
          obtain ⟨h, hh⟩ : ∃ h, h = (s + r) / 2 := ⟨_, rfl⟩
          have hh' : ((s : Int) + r) / 2 = (h : Int) := by omega
          have hih : s ≤ h := by omega
          have hhj : h < r := by omega
          clear hh
          obtain ⟨q, hq⟩ : ∃ x, x = N - 1 - h := ⟨_, rfl⟩
          have eQ : (p : Int) - h = (q : Int) := by omega
          obtain ⟨d1, p1⟩ := row h (by omega)
          obtain ⟨d2, p2⟩ := row q (by omega)
          have g1 := unhide RG h (by omega)
          have g2 := unhide RG q (by omega)
          have AK := hide (fun z => (unhide ASK).2 (wr.drewN z) (u.drewN z) _ _ g2 g1)
          have v1 := (unhide ASK).1 _ g1
          have v2 := (unhide ASK).1 _ g2
          have hx : (h : Int) < n := by omega
          have hy : (q : Int) < n := by omega
          by_cases hc : c (f q) < c (f h)
          · have hc' : c (f q) - c (f h) < 0 := by omega
            have LN := hide (find.down (unhide UP1) (unhide UP2) (by omega) (by omega) (by omega) (by omega) hih hhj (by rw [← hq]; exact hc))
            clear row u find hq hN hp hlo
            go_wp2
            go_quiet ((go_at_fn K; exact Calls.quiet_of (unhide AK _)))
            rename_i nq
            have RQ := hide ((unhide ROW).drewN nq)
            have UQ := hide ((unhide UU).drewN nq)
            clear d1 d2 p1 p2 AK
            generalize wr.drewN nq = wq at *
            go_wp2
            go_roundw
            case rel => exact ⟨s, h, rfl, by go_num, unhide LN, unhide RQ, unhide UQ⟩
            case measure => simp [intOf]; omega
          · have hc' : decide (c (f q) - c (f h) < 0) = false := decide_eq_false (by omega)
            have LN := hide (find.up (unhide UP1) (unhide UP2) (by omega) (by omega) (by omega) (by omega) hih hhj (by rw [← hq]; omega))
            clear row u find hq hN hp hlo
            go_wp2
            go_quiet ((go_at_fn K; exact Calls.quiet_of (unhide AK _)))
            rename_i nq
            have RQ := hide ((unhide ROW).drewN nq)
            have UQ := hide ((unhide UU).drewN nq)
            clear d1 d2 p1 p2 AK
            generalize wr.drewN nq = wq at *
            go_wp2
            go_roundw
            case rel => exact ⟨h + 1, r, by go_num, rfl, unhide LN, unhide RQ, unhide UQ⟩
            case measure => simp [intOf]; omega
        · obtain rfl : s = r := by omega
          clear row u find hlt b1 b2 b3
          have hnl : ¬ (s : Int) < (s : Int) := by omega
          obtain ⟨q, hq⟩ : ∃ x, x = N - s := ⟨_, rfl⟩
          have f0 := unhide FIND
          have fb1 := f0.b1
          have fb3 := f0.b3
          have eE : (N : Int) - s = (q : Int) := by omega
          have kas : a ≤ s := by omega
          have ksm : s ≤ m := by omega
          have ksd : s ≤ mid := by omega
          have kqb : q ≤ b := by omega
          have kmq : m ≤ q := by omega
          have kdq : mid ≤ q := by omega
          have QE := hide (show q = mid + m - s by omega)
          have HF := hide (show Half c (fun k => f (ro s m q k)) a s mid q b from by
            rw [unhide QE]
            refine half_of (unhide UP1) (unhide UP2) kas ksm ksd (by omega) ?_
            have f1 := f0
            rw [hN] at f1
            exact f1.cut (by first | exact .inl ⟨by omega, by omega, rfl⟩ | exact .inr ⟨by omega, rfl, rfl⟩) (by omega) (by omega) h2 (by have := unhide HMID; omega))
          have RO := hide (ro_re s m q f ksm kmq)
          have SQ := hide hq
          have rgF : Rg (fun k => f (ro s m q k)) n len := (unhide RO).rg (by omega) (unhide RG)
          have RGF := hide rgF
          clear f0 fb1 fb3 hq rgF hN hp
          by_cases c1 : s < m
          · have c1' : (s : Int) < (m : Int) := by omega
            have c4' : (mid : Int) < (q : Int) := by omega
            by_cases c2 : s < mid
            · have c2' : (s : Int) < (mid : Int) := by omega
              have c3' : (m : Int) < (q : Int) := by omega
              go_wp2_with fail
              refine (rot32 g n cap s m q f _ _ (unhide ROW) c1 (by omega) (by omega) hn).mono ?_
              rintro e wt ⟨rfl, rt, ut⟩
              have RF := hide rt
              have UF := hide ((unhide UU).trans ut)
              clear rt ut
              by_cases c5 : a < s
              · have c5' : (a : Int) < (s : Int) := by omega
                go_wp2_with fail
                refine (unhide IH a s mid _ _ (by omega) (by omega) (by omega) (by omega) (unhide RF) (unhide RGF) ((unhide ASK).keep (unhide UF)) (unhide HF).l1 (unhide HF).l2).mono ?_
                rintro e wl ⟨rfl, f1, re1, up3, r1, u1⟩
                have RE1 := hide re1
                have U3 := hide up3
                have R1 := hide r1
                have UL := hide ((unhide UF).trans u1)
                clear re1 up3 r1 u1
                by_cases c6 : q < b
                · have c6' : (q : Int) < (b : Int) := by omega
                  have x1 := hide (Up.same (unhide HF).r1 (fun k x1 _ => (unhide RE1).out k (.inr x1)))
                  have x2 := hide (Up.same (unhide HF).r2 (fun k x1 _ => (unhide RE1).out k (.inr (by omega))))
                  have x3 := hide ((unhide RE1).rg (n := n) (by omega) (unhide RGF))
                  go_wp2_with fail
                  refine (unhide IH mid q b _ _ (by omega) (by omega) (by omega) h3 (unhide R1) (unhide x3) ((unhide ASK).keep (unhide UL)) (unhide x1) (unhide x2)).mono ?_
                  rintro e wr2 ⟨rfl, f2, re2, up4, r2, u2⟩
                  have RE2 := hide re2
                  have U4 := hide up4
                  have R2 := hide r2
                  have UR := hide ((unhide UL).trans u2)
                  clear re2 up4 r2 u2
                  go_wp2
                  go_end0
                  exact ⟨rfl, f2, (((unhide RO).wide kas kqb).trans ((unhide RE1).wide (Nat.le_refl _) (by omega))).trans ((unhide RE2).wide (by omega) (Nat.le_refl _)), up_join (unhide HF).all (unhide RE1) (unhide U3) (unhide RE2) (unhide U4), unhide R2, unhide UR⟩
                · have c6' : ¬ (q : Int) < (b : Int) := by omega
                  go_wp2
                  go_end0
                  refine ⟨rfl, _, ((unhide RO).wide kas kqb).trans ((unhide RE1).wide (Nat.le_refl _) (by omega)), up_join (unhide HF).all (unhide RE1) (unhide U3) (Re.refl mid b _) ?_, unhide R1, unhide UL⟩
                  refine Up.same (f := fun k => f (ro s m q k)) ?_ (fun k x1 _ => (unhide RE1).out k (.inr x1))
                  have ee : q = b := by omega
                  have hf := (unhide HF).r1
                  rw [ee] at hf ⊢
                  exact hf
              · have c5' : ¬ (a : Int) < (s : Int) := by omega
                have RE1 := hide (Re.refl a mid (fun k => f (ro s m q k)))
                have U3 := hide (show Up c (fun k => f (ro s m q k)) a mid from by
                  have ee : s = a := by omega
                  have hf := (unhide HF).l2
                  rw [ee] at hf ⊢
                  exact hf)
                have R1 := hide (unhide RF)
                have UL := hide (unhide UF)
                by_cases c6 : q < b
                · have c6' : (q : Int) < (b : Int) := by omega
                  have x1 := hide (Up.same (unhide HF).r1 (fun k x1 _ => (unhide RE1).out k (.inr x1)))
                  have x2 := hide (Up.same (unhide HF).r2 (fun k x1 _ => (unhide RE1).out k (.inr (by omega))))
                  have x3 := hide ((unhide RE1).rg (n := n) (by omega) (unhide RGF))
                  go_wp2_with fail
                  refine (unhide IH mid q b _ _ (by omega) (by omega) (by omega) h3 (unhide R1) (unhide x3) ((unhide ASK).keep (unhide UL)) (unhide x1) (unhide x2)).mono ?_
                  rintro e wr2 ⟨rfl, f2, re2, up4, r2, u2⟩
                  have RE2 := hide re2
                  have U4 := hide up4
                  have R2 := hide r2
                  have UR := hide ((unhide UL).trans u2)
                  clear re2 up4 r2 u2
                  go_wp2
                  go_end0
                  exact ⟨rfl, f2, (((unhide RO).wide kas kqb).trans ((unhide RE1).wide (Nat.le_refl _) (by omega))).trans ((unhide RE2).wide (by omega) (Nat.le_refl _)), up_join (unhide HF).all (unhide RE1) (unhide U3) (unhide RE2) (unhide U4), unhide R2, unhide UR⟩
                · have c6' : ¬ (q : Int) < (b : Int) := by omega
                  go_wp2
                  go_end0
                  refine ⟨rfl, _, ((unhide RO).wide kas kqb).trans ((unhide RE1).wide (Nat.le_refl _) (by omega)), up_join (unhide HF).all (unhide RE1) (unhide U3) (Re.refl mid b _) ?_, unhide R1, unhide UL⟩
                  refine Up.same (f := fun k => f (ro s m q k)) ?_ (fun k x1 _ => (unhide RE1).out k (.inr x1))
                  have ee : q = b := by omega
                  have hf := (unhide HF).r1
                  rw [ee] at hf ⊢
                  exact hf
            · have c2' : ¬ (s : Int) < (mid : Int) := by omega
              have c3' : ¬ (m : Int) < (q : Int) := by omega
              have c5' : (a : Int) < (s : Int) := by omega
              have c6' : (q : Int) < (b : Int) := by omega
              have RF := hide ((unhide ROW).congr (f' := fun k => f (ro s m q k)) (fun k _ => by rw [ro_same (.inr (by omega))]))
              have UF := hide (unhide UU)
              have RE1 := hide (Re.refl a mid (fun k => f (ro s m q k)))
              have U3 := hide (show Up c (fun k => f (ro s m q k)) a mid from by
                have ee : s = mid := by omega
                have hf := (unhide HF).l1
                rw [ee] at hf ⊢
                exact hf)
              have R1 := hide (unhide RF)
              have UL := hide (unhide UF)
              have x1 := hide (Up.same (unhide HF).r1 (fun k x1 _ => (unhide RE1).out k (.inr x1)))
              have x2 := hide (Up.same (unhide HF).r2 (fun k x1 _ => (unhide RE1).out k (.inr (by omega))))
              have x3 := hide ((unhide RE1).rg (n := n) (by omega) (unhide RGF))
              go_wp2_with fail
              refine (unhide IH mid q b _ _ (by omega) (by omega) (by omega) h3 (unhide R1) (unhide x3) ((unhide ASK).keep (unhide UL)) (unhide x1) (unhide x2)).mono ?_
              rintro e wr2 ⟨rfl, f2, re2, up4, r2, u2⟩
              have RE2 := hide re2
              have U4 := hide up4
              have R2 := hide r2
              have UR := hide ((unhide UL).trans u2)
              clear re2 up4 r2 u2
              go_wp2
              go_end0
              exact ⟨rfl, f2, (((unhide RO).wide kas kqb).trans ((unhide RE1).wide (Nat.le_refl _) (by omega))).trans ((unhide RE2).wide (by omega) (Nat.le_refl _)), up_join (unhide HF).all (unhide RE1) (unhide U3) (unhide RE2) (unhide U4), unhide R2, unhide UR⟩
          · exfalso; omega
    · have hg' : ¬ (mid : Int) < (m : Int) := by omega
      have k5 : N ≤ a + b := by have := unhide HMID; omega
      clear hN hp
      go_enter Try.func30, Try.ntmps30
      go_wp2
      go_loopw [20, 21] (fun x y wr => ∃ (s r : Nat), x = .int .i64 s ∧ y = .int .i64 r ∧ Find c f N a m s r ∧ Row wr g n f ∧ Upd (fun k => k = g) w wr) (fun x y _ => (intOf y).toNat - (intOf x).toNat)
      case atStart => exact ⟨a, m, rfl, rfl, Find.start _ _ _ _ _ (by omega), unhide RR, Upd.refl _ w⟩
      case round =>
        obtain ⟨s, r, rfl, rfl, find, row, u⟩ := hrel
        have FIND := hide find
        have ROW := hide row
        have UU := hide u
        have b1 := find.b1
        have b2 := find.b2
        have b3 := find.b3
        have hN := unhide HN
        have hp := unhide HP
        have hlo : True := trivial
        by_cases hlt : s < r
        · have hlt' : (s : Int) < (r : Int) := by omega
          obtain ⟨h, hh⟩ : ∃ h, h = (s + r) / 2 := ⟨_, rfl⟩
          have hh' : ((s : Int) + r) / 2 = (h : Int) := by omega
          have hih : s ≤ h := by omega
          have hhj : h < r := by omega
          clear hh
          obtain ⟨q, hq⟩ : ∃ x, x = N - 1 - h := ⟨_, rfl⟩
          have eQ : (p : Int) - h = (q : Int) := by omega
          obtain ⟨d1, p1⟩ := row h (by omega)
          obtain ⟨d2, p2⟩ := row q (by omega)
          have g1 := unhide RG h (by omega)
          have g2 := unhide RG q (by omega)
          have AK := hide (fun z => (unhide ASK).2 (wr.drewN z) (u.drewN z) _ _ g2 g1)
          have v1 := (unhide ASK).1 _ g1
          have v2 := (unhide ASK).1 _ g2
          have hx : (h : Int) < n := by omega
          have hy : (q : Int) < n := by omega
          by_cases hc : c (f q) < c (f h)
          · have hc' : c (f q) - c (f h) < 0 := by omega
            have LN := hide (find.down (unhide UP1) (unhide UP2) (by omega) (by omega) (by omega) (by omega) hih hhj (by rw [← hq]; exact hc))
            clear row u find hq hN hp hlo
            go_wp2
            go_quiet ((go_at_fn K; exact Calls.quiet_of (unhide AK _)))
            rename_i nq
            have RQ := hide ((unhide ROW).drewN nq)
            have UQ := hide ((unhide UU).drewN nq)
            clear d1 d2 p1 p2 AK
            generalize wr.drewN nq = wq at *
            go_wp2
            go_roundw
            case rel => exact ⟨s, h, rfl, by go_num, unhide LN, unhide RQ, unhide UQ⟩
            case measure => simp [intOf]; omega
          · have hc' : decide (c (f q) - c (f h) < 0) = false := decide_eq_false (by omega)
            have LN := hide (find.up (unhide UP1) (unhide UP2) (by omega) (by omega) (by omega) (by omega) hih hhj (by rw [← hq]; omega))
            clear row u find hq hN hp hlo
            go_wp2
            go_quiet ((go_at_fn K; exact Calls.quiet_of (unhide AK _)))
            rename_i nq
            have RQ := hide ((unhide ROW).drewN nq)
            have UQ := hide ((unhide UU).drewN nq)
            clear d1 d2 p1 p2 AK
            generalize wr.drewN nq = wq at *
            go_wp2
            go_roundw
            case rel => exact ⟨h + 1, r, by go_num, rfl, unhide LN, unhide RQ, unhide UQ⟩
            case measure => simp [intOf]; omega
        · obtain rfl : s = r := by omega
          clear row u find hlt b1 b2 b3
          have hnl : ¬ (s : Int) < (s : Int) := by omega
          obtain ⟨q, hq⟩ : ∃ x, x = N - s := ⟨_, rfl⟩
          have f0 := unhide FIND
          have fb1 := f0.b1
          have fb3 := f0.b3
          have eE : (N : Int) - s = (q : Int) := by omega
          have kas : a ≤ s := by omega
          have ksm : s ≤ m := by omega
          have ksd : s ≤ mid := by omega
          have kqb : q ≤ b := by omega
          have kmq : m ≤ q := by omega
          have kdq : mid ≤ q := by omega
          have QE := hide (show q = mid + m - s by omega)
          have HF := hide (show Half c (fun k => f (ro s m q k)) a s mid q b from by
            rw [unhide QE]
            refine half_of (unhide UP1) (unhide UP2) kas ksm ksd (by omega) ?_
            have f1 := f0
            rw [hN] at f1
            exact f1.cut (by first | exact .inl ⟨by omega, by omega, rfl⟩ | exact .inr ⟨by omega, rfl, rfl⟩) (by omega) (by omega) h2 (by have := unhide HMID; omega))
          have RO := hide (ro_re s m q f ksm kmq)
          have SQ := hide hq
          have rgF : Rg (fun k => f (ro s m q k)) n len := (unhide RO).rg (by omega) (unhide RG)
          have RGF := hide rgF
          clear f0 fb1 fb3 hq rgF hN hp
          by_cases c1 : s < m
          · have c1' : (s : Int) < (m : Int) := by omega
            have c4' : (mid : Int) < (q : Int) := by omega
            by_cases c2 : s < mid
            · have c2' : (s : Int) < (mid : Int) := by omega
              have c3' : (m : Int) < (q : Int) := by omega
              go_wp2_with fail
              refine (rot32 g n cap s m q f _ _ (unhide ROW) c1 (by omega) (by omega) hn).mono ?_
              rintro e wt ⟨rfl, rt, ut⟩
              have RF := hide rt
              have UF := hide ((unhide UU).trans ut)
              clear rt ut
              by_cases c5 : a < s
              · have c5' : (a : Int) < (s : Int) := by omega
                go_wp2_with fail
                refine (unhide IH a s mid _ _ (by omega) (by omega) (by omega) (by omega) (unhide RF) (unhide RGF) ((unhide ASK).keep (unhide UF)) (unhide HF).l1 (unhide HF).l2).mono ?_
                rintro e wl ⟨rfl, f1, re1, up3, r1, u1⟩
                have RE1 := hide re1
                have U3 := hide up3
                have R1 := hide r1
                have UL := hide ((unhide UF).trans u1)
                clear re1 up3 r1 u1
                by_cases c6 : q < b
                · have c6' : (q : Int) < (b : Int) := by omega
                  have x1 := hide (Up.same (unhide HF).r1 (fun k x1 _ => (unhide RE1).out k (.inr x1)))
                  have x2 := hide (Up.same (unhide HF).r2 (fun k x1 _ => (unhide RE1).out k (.inr (by omega))))
                  have x3 := hide ((unhide RE1).rg (n := n) (by omega) (unhide RGF))
                  go_wp2_with fail
                  refine (unhide IH mid q b _ _ (by omega) (by omega) (by omega) h3 (unhide R1) (unhide x3) ((unhide ASK).keep (unhide UL)) (unhide x1) (unhide x2)).mono ?_
                  rintro e wr2 ⟨rfl, f2, re2, up4, r2, u2⟩
                  have RE2 := hide re2
                  have U4 := hide up4
                  have R2 := hide r2
                  have UR := hide ((unhide UL).trans u2)
                  clear re2 up4 r2 u2
                  go_wp2
                  go_end0
                  exact ⟨rfl, f2, (((unhide RO).wide kas kqb).trans ((unhide RE1).wide (Nat.le_refl _) (by omega))).trans ((unhide RE2).wide (by omega) (Nat.le_refl _)), up_join (unhide HF).all (unhide RE1) (unhide U3) (unhide RE2) (unhide U4), unhide R2, unhide UR⟩
                · have c6' : ¬ (q : Int) < (b : Int) := by omega
                  go_wp2
                  go_end0
                  refine ⟨rfl, _, ((unhide RO).wide kas kqb).trans ((unhide RE1).wide (Nat.le_refl _) (by omega)), up_join (unhide HF).all (unhide RE1) (unhide U3) (Re.refl mid b _) ?_, unhide R1, unhide UL⟩
                  refine Up.same (f := fun k => f (ro s m q k)) ?_ (fun k x1 _ => (unhide RE1).out k (.inr x1))
                  have ee : q = b := by omega
                  have hf := (unhide HF).r1
                  rw [ee] at hf ⊢
                  exact hf
              · have c5' : ¬ (a : Int) < (s : Int) := by omega
                have RE1 := hide (Re.refl a mid (fun k => f (ro s m q k)))
                have U3 := hide (show Up c (fun k => f (ro s m q k)) a mid from by
                  have ee : s = a := by omega
                  have hf := (unhide HF).l2
                  rw [ee] at hf ⊢
                  exact hf)
                have R1 := hide (unhide RF)
                have UL := hide (unhide UF)
                by_cases c6 : q < b
                · have c6' : (q : Int) < (b : Int) := by omega
                  have x1 := hide (Up.same (unhide HF).r1 (fun k x1 _ => (unhide RE1).out k (.inr x1)))
                  have x2 := hide (Up.same (unhide HF).r2 (fun k x1 _ => (unhide RE1).out k (.inr (by omega))))
                  have x3 := hide ((unhide RE1).rg (n := n) (by omega) (unhide RGF))
                  go_wp2_with fail
                  refine (unhide IH mid q b _ _ (by omega) (by omega) (by omega) h3 (unhide R1) (unhide x3) ((unhide ASK).keep (unhide UL)) (unhide x1) (unhide x2)).mono ?_
                  rintro e wr2 ⟨rfl, f2, re2, up4, r2, u2⟩
                  have RE2 := hide re2
                  have U4 := hide up4
                  have R2 := hide r2
                  have UR := hide ((unhide UL).trans u2)
                  clear re2 up4 r2 u2
                  go_wp2
                  go_end0
                  exact ⟨rfl, f2, (((unhide RO).wide kas kqb).trans ((unhide RE1).wide (Nat.le_refl _) (by omega))).trans ((unhide RE2).wide (by omega) (Nat.le_refl _)), up_join (unhide HF).all (unhide RE1) (unhide U3) (unhide RE2) (unhide U4), unhide R2, unhide UR⟩
                · have c6' : ¬ (q : Int) < (b : Int) := by omega
                  go_wp2
                  go_end0
                  refine ⟨rfl, _, ((unhide RO).wide kas kqb).trans ((unhide RE1).wide (Nat.le_refl _) (by omega)), up_join (unhide HF).all (unhide RE1) (unhide U3) (Re.refl mid b _) ?_, unhide R1, unhide UL⟩
                  refine Up.same (f := fun k => f (ro s m q k)) ?_ (fun k x1 _ => (unhide RE1).out k (.inr x1))
                  have ee : q = b := by omega
                  have hf := (unhide HF).r1
                  rw [ee] at hf ⊢
                  exact hf
            · have c2' : ¬ (s : Int) < (mid : Int) := by omega
              have c3' : ¬ (m : Int) < (q : Int) := by omega
              have c5' : (a : Int) < (s : Int) := by omega
              have c6' : (q : Int) < (b : Int) := by omega
              have RF := hide ((unhide ROW).congr (f' := fun k => f (ro s m q k)) (fun k _ => by rw [ro_same (.inr (by omega))]))
              have UF := hide (unhide UU)
              have RE1 := hide (Re.refl a mid (fun k => f (ro s m q k)))
              have U3 := hide (show Up c (fun k => f (ro s m q k)) a mid from by
                have ee : s = mid := by omega
                have hf := (unhide HF).l1
                rw [ee] at hf ⊢
                exact hf)
              have R1 := hide (unhide RF)
              have UL := hide (unhide UF)
              have x1 := hide (Up.same (unhide HF).r1 (fun k x1 _ => (unhide RE1).out k (.inr x1)))
              have x2 := hide (Up.same (unhide HF).r2 (fun k x1 _ => (unhide RE1).out k (.inr (by omega))))
              have x3 := hide ((unhide RE1).rg (n := n) (by omega) (unhide RGF))
              go_wp2_with fail
              refine (unhide IH mid q b _ _ (by omega) (by omega) (by omega) h3 (unhide R1) (unhide x3) ((unhide ASK).keep (unhide UL)) (unhide x1) (unhide x2)).mono ?_
              rintro e wr2 ⟨rfl, f2, re2, up4, r2, u2⟩
              have RE2 := hide re2
              have U4 := hide up4
              have R2 := hide r2
              have UR := hide ((unhide UL).trans u2)
              clear re2 up4 r2 u2
              go_wp2
              go_end0
              exact ⟨rfl, f2, (((unhide RO).wide kas kqb).trans ((unhide RE1).wide (Nat.le_refl _) (by omega))).trans ((unhide RE2).wide (by omega) (Nat.le_refl _)), up_join (unhide HF).all (unhide RE1) (unhide U3) (unhide RE2) (unhide U4), unhide R2, unhide UR⟩
          · have c1' : ¬ (s : Int) < (m : Int) := by omega
            have c4' : ¬ (mid : Int) < (q : Int) := by omega
            have c5' : (a : Int) < (s : Int) := by omega
            have RF := hide ((unhide ROW).congr (f' := fun k => f (ro s m q k)) (fun k _ => by rw [ro_same (.inl (by omega))]))
            have UF := hide (unhide UU)
            by_cases c2 : s < mid
            · have c2' : (s : Int) < (mid : Int) := by omega
              go_wp2_with fail
              refine (unhide IH a s mid _ _ (by omega) (by omega) (by omega) (by omega) (unhide RF) (unhide RGF) ((unhide ASK).keep (unhide UF)) (unhide HF).l1 (unhide HF).l2).mono ?_
              rintro e wl ⟨rfl, f1, re1, up3, r1, u1⟩
              have RE1 := hide re1
              have U3 := hide up3
              have R1 := hide r1
              have UL := hide ((unhide UF).trans u1)
              clear re1 up3 r1 u1
              go_wp2
              go_end0
              refine ⟨rfl, _, ((unhide RO).wide kas kqb).trans ((unhide RE1).wide (Nat.le_refl _) (by omega)), up_join (unhide HF).all (unhide RE1) (unhide U3) (Re.refl mid b _) ?_, unhide R1, unhide UL⟩
              refine Up.same (f := fun k => f (ro s m q k)) ?_ (fun k x1 _ => (unhide RE1).out k (.inr x1))
              have ee : q = mid := by omega
              have hf := (unhide HF).r2
              rw [ee] at hf ⊢
              exact hf
            · have c2' : ¬ (s : Int) < (mid : Int) := by omega
              have RE1 := hide (Re.refl a mid (fun k => f (ro s m q k)))
              have U3 := hide (show Up c (fun k => f (ro s m q k)) a mid from by
                have ee : s = mid := by omega
                have hf := (unhide HF).l1
                rw [ee] at hf ⊢
                exact hf)
              have R1 := hide (unhide RF)
              have UL := hide (unhide UF)
              go_wp2
              go_end0
              refine ⟨rfl, _, ((unhide RO).wide kas kqb).trans ((unhide RE1).wide (Nat.le_refl _) (by omega)), up_join (unhide HF).all (unhide RE1) (unhide U3) (Re.refl mid b _) ?_, unhide R1, unhide UL⟩
              refine Up.same (f := fun k => f (ro s m q k)) ?_ (fun k x1 _ => (unhide RE1).out k (.inr x1))
              have ee : q = mid := by omega
              have hf := (unhide HF).r2
              rw [ee] at hf ⊢
              exact hf
end Go.Proofs.Ytcfnbbelbadmkaa.Sym
