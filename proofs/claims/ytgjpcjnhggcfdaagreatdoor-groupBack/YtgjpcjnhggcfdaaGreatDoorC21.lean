/-
  Plain facts: what the lengths that size.Best answers are, place by place. Conditions: as each says.
  Plain facts: what the lengths that size.Best answers are to code.Check and ref.Check. Conditions: as each says.
  Contract: the iterator of size.pairs. Conditions: the slice reads as items, and they are few.
  Contract: size.paired. Conditions: the slice reads as items, and they are few.
-/
import Derived.Test.YtgjpcjnhggcfdaaGreatDoorC20
import Derived.Test.YtgjpcjnhggcfdaaGreatDoorC03
import Derived.RangeFuncNested
import Derived.RangeFuncBound
import Derived.RangeFuncCalls
import Derived.RangeFuncLeaves
import Derived.RangeFuncFrom
import Derived.Shelf.Abstract
import Derived.Shelf.RegionOpen
import Derived.WalkKit
import Derived.OwnWalkIn
import Derived.TacticsInMore
import Derived.LoopNIn
import Derived.LoopIn
import Derived.Test.YtgjpcjnhggcfdaaGreatDoorC17
import Derived.RangeFuncWrites
import Derived.RangeFuncBox
namespace Go.Proofs.YtgjpcjnhggcfdaaGreatDoor.ZUse
open Go.RowKit Go.WideShapes Go.Shelf Go.ChangeShapes Go.ChangeAt
open Go.Proofs.YtgjpcjnhggcfdaaGreatDoor.ZSrt Go.Proofs.YtgjpcjnhggcfdaaGreatDoor.ZRis Go.Proofs.YtgjpcjnhggcfdaaGreatDoor.ZRis2 Go.Proofs.YtgjpcjnhggcfdaaGreatDoor.ZItm Go.Proofs.YtgjpcjnhggcfdaaGreatDoor.ZMrg Go.Proofs.YtgjpcjnhggcfdaaGreatDoor.ZPur Go.Proofs.YtgjpcjnhggcfdaaGreatDoor.ZSpr Go.Proofs.YtgjpcjnhggcfdaaGreatDoor.ZBst Go.Proofs.YtgjpcjnhggcfdaaGreatDoor.ZFin Go.Proofs.YtgjpcjnhggcfdaaGreatDoor.Math

theorem re_surj {c : Nat → Int} {n : Nat} {s : Nat → Nat} (h : Re 0 (pos c n).length (fun i => (pos c n).getD i 0) s) {x : Nat} (hx : x < n) (hc : 0 < c x) : ∃ p, p < (pos c n).length ∧ s p = x := by
  have hm := (pos_mem c x n).2 ⟨hx, hc⟩
  obtain ⟨j, hj, e⟩ := List.getElem_of_mem hm
  obtain ⟨p, q, h1, _, h3, h4⟩ := h
  have a := h3 j (Nat.zero_le _) hj
  refine ⟨q j, a.2.2.2, ?_⟩
  rw [h4, (h1 j).1]
  show (pos c n).getD j 0 = x
  rw [List.getD_eq_getElem?_getD, List.getElem?_eq_getElem hj]
  exact e
theorem sumZ_upd (g : Nat → Int) (k : Nat) : ∀ n, (k < n → sumZ g n = sumZ (fun x => if x = k then 0 else g x) n + g k) ∧ (n ≤ k → sumZ g n = sumZ (fun x => if x = k then 0 else g x) n)
  | 0 => ⟨fun h => by omega, fun _ => rfl⟩
  | n + 1 => by
    obtain ⟨h1, h2⟩ := sumZ_upd g k n
    refine ⟨fun h => ?_, fun h => ?_⟩
    · simp only [sumZ]
      by_cases e : k = n
      · subst e
        rw [h2 (Nat.le_refl _), if_pos rfl]
        omega
      · rw [h1 (by omega), if_neg (fun e2 => e e2.symm)]
        omega
    · simp only [sumZ]
      rw [h2 (by omega), if_neg (by omega)]
/-- A sum over all places is one over those that count. -/
theorem sumZ_re {s : Nat → Nat} {len : Nat} : ∀ (n : Nat) (g : Nat → Int), (∀ p, p < n → s p < len) → (∀ p q, p < n → q < n → s p = s q → p = q) → (∀ x, x < len → (∀ p, p < n → s p ≠ x) → g x = 0) → sumZ g len = sumZ (fun p => g (s p)) n
  | 0, g, _, _, h0 => by
    rw [sumZ_congr len (h := fun _ => 0) (fun k hk => h0 k hk (fun p hp => absurd hp (Nat.not_lt_zero _)))]
    exact sumZ_zero len
  | n + 1, g, hl, hi, h0 => by
    have ih := sumZ_re n (fun x => if x = s n then 0 else g x) (fun p hp => hl p (by omega)) (fun p q hp hq => hi p q (by omega) (by omega)) (fun x hx hn => by
      by_cases e : x = s n
      · rw [if_pos e]
      · show (if x = s n then 0 else g x) = 0
        rw [if_neg e]
        exact h0 x hx (fun p hp => by
          by_cases e2 : p = n
          · subst e2; exact fun h => e h.symm
          · exact hn p (by omega)))
    rw [(sumZ_upd g (s n) len).1 (hl n (by omega)), ih]
    show _ = sumZ (fun p => g (s p)) n + g (s n)
    rw [sumZ_congr n (g := fun p => if s p = s n then 0 else g (s p)) (h := fun p => g (s p)) (fun p hp => if_neg (fun e => by have := hi p n (by omega) (by omega) e; omega))]
theorem sumN_cast (g : Nat → Nat) : ∀ n, ((sumN g n : Nat) : Int) = sumZ (fun k => (g k : Int)) n
  | 0 => rfl
  | n + 1 => by rw [sumN, sumZ, Int.natCast_add, sumN_cast g n]
theorem kr_sum (M : Nat → Nat) : ∀ n, kr (fun i => (M i : Int)) n = sumN (fun x => pt2 (M x : Int)) n
  | 0 => rfl
  | n + 1 => by rw [kr, sumN, kr_sum M n]
/-- The lengths of two symbols and more. -/
theorem lns_good {c : Nat → Int} {len m : Nat} {s M : Nat → Nat} (h : Lns c len m s M) (h2 : 2 ≤ (pos c len).length) (hm : 1 ≤ m) (hn : (pos c len).length ≤ 2 ^ m) :
    Good6 (pos c len).length m (fun p => c (s p)) (fun p => M (s p)) (wsum ((rowI (wts c (fun i => (s i : Int)) (pos c len).length) (m - 1)).take (2 * (pos c len).length - 2))) := by
  have g := good6 (sym_of h.re h.up) m (by rw [wts_len]; exact h2) hm (by rw [wts_len]; exact hn)
  simp only [wts_len] at g
  have e : ∀ p, p < (pos c len).length → M (s p) = sumN (fun r => if p < sprd (wts c (fun i => (s i : Int)) (pos c len).length) (m - 1) (2 * (pos c len).length - 2) r then 1 else 0) m := h.more (by omega)
  have e2 : ∀ p, p < (pos c len).length → (at_ (wts c (fun i => (s i : Int)) (pos c len).length) p).1 = c (s p) := fun p hp => by rw [wts_at _ _ _ _ hp]; rfl
  refine ⟨fun p hp => ?_, fun p q hpq hq => ?_, ?_, ?_⟩
  · rw [e p hp]; exact g.pos p hp
  · rw [e p (by omega), e q hq]; exact g.ord p q hpq hq
  · rw [← g.full]; exact sumN_congr _ (fun p hp => by rw [e p hp])
  · rw [← g.cost]; exact sumZ_congr _ (fun p hp => by rw [e p hp, e2 p hp])
theorem lns_sum {c : Nat → Int} {len m : Nat} {s M : Nat → Nat} (h : Lns c len m s M) : sumZ (fun x => c x * (M x : Int)) len = sumZ (fun p => c (s p) * (M (s p) : Int)) (pos c len).length :=
  sumZ_re _ (fun x => c x * (M x : Int)) (fun p hp => (re_pos h.re hp).1) (fun p q hp hq e => re_inj h.re hp hq e) (fun x hx hn => by rw [h.none x hx hn]; simp)
theorem lns_kr {c : Nat → Int} {len m : Nat} {s M : Nat → Nat} (h : Lns c len m s M) (h2 : 2 ≤ (pos c len).length) (hm : 1 ≤ m) (hm2 : m ≤ 15) (hn : (pos c len).length ≤ 2 ^ m) : kr (fun i => (M i : Int)) len = 32768 := by
  have g := lns_good h h2 hm hn
  have e1 : ((kr (fun i => (M i : Int)) len : Nat) : Int) = sumZ (fun p => ((pt2 (M (s p) : Int) : Nat) : Int)) (pos c len).length := by
    rw [kr_sum, sumN_cast]
    exact sumZ_re _ (fun x => ((pt2 (M x : Int) : Nat) : Int)) (fun p hp => (re_pos h.re hp).1) (fun p q hp hq e => re_inj h.re hp hq e) (fun x hx hn => by rw [h.none x hx hn]; rfl)
  rw [← sumN_cast, sumN_congr (pos c len).length (h := fun p => 2 ^ (m - M (s p)) * 2 ^ (15 - m)) (fun p hp => by
    have : 1 ≤ M (s p) ∧ M (s p) ≤ m := g.pos p hp
    unfold pt2
    rw [if_neg (by omega), ← Nat.pow_add]
    congr 1
    omega), sumN_mul, g.full, ← Nat.pow_add, show m + (15 - m) = 15 by omega] at e1
  omega
end Go.Proofs.YtgjpcjnhggcfdaaGreatDoor.ZUse

namespace Go.Proofs.YtgjpcjnhggcfdaaGreatDoor.ZLns
open Go.RowKit Go.WideShapes Go.Shelf Go.ChangeShapes Go.ChangeAt Go.Proofs.YtgjpcjnhggcfdaaGreatDoor.Math Go.Proofs.YtgjpcjnhggcfdaaGreatDoor.ZSrt Go.Proofs.YtgjpcjnhggcfdaaGreatDoor.ZRis Go.Proofs.YtgjpcjnhggcfdaaGreatDoor.ZRis2 Go.Proofs.YtgjpcjnhggcfdaaGreatDoor.ZItm Go.Proofs.YtgjpcjnhggcfdaaGreatDoor.ZMrg Go.Proofs.YtgjpcjnhggcfdaaGreatDoor.ZPur Go.Proofs.YtgjpcjnhggcfdaaGreatDoor.ZSpr Go.Proofs.YtgjpcjnhggcfdaaGreatDoor.ZBst Go.Proofs.YtgjpcjnhggcfdaaGreatDoor.ZFin Go.Proofs.YtgjpcjnhggcfdaaGreatDoor.ZUse

theorem lns_le {c : Nat → Int} {len m : Nat} {s M : Nat → Nat} (h : Lns c len m s M) (hm : 1 ≤ m) (hn : (pos c len).length ≤ 2 ^ m) (x : Nat) (hx : x < len) : M x ≤ m := by
  by_cases e : ∃ p, p < (pos c len).length ∧ s p = x
  · obtain ⟨p, hp, rfl⟩ := e
    by_cases h1 : (pos c len).length = 1
    · rw [show p = 0 by omega, h.one h1]
      exact hm
    · exact ((lns_good h (by omega) hm hn).pos p hp).2
  · rw [h.none x hx (fun p hp e2 => e ⟨p, hp, e2⟩)]
    exact Nat.zero_le _
theorem many_sum (M : Nat → Nat) : ∀ n, many (fun i => (M i : Int)) n = sumN (fun x => if M x = 0 then 0 else 1) n
  | 0 => rfl
  | n + 1 => by
    have e : many (fun i => (M i : Int)) (n + 1) = many (fun i => (M i : Int)) n + (if ((M n : Nat) : Int) = 0 then 0 else 1) := rfl
    rw [e, sumN, many_sum M n]
    by_cases h : M n = 0
    · rw [if_pos h, if_pos (by omega)]
    · rw [if_neg h, if_neg (by omega)]
theorem lns_pos {c : Nat → Int} {len m : Nat} {s M : Nat → Nat} (h : Lns c len m s M) (hm : 1 ≤ m) (hn : (pos c len).length ≤ 2 ^ m) (p : Nat) (hp : p < (pos c len).length) : 1 ≤ M (s p) := by
  by_cases h1 : (pos c len).length = 1
  · rw [show p = 0 by omega, h.one h1]
    exact Nat.le_refl _
  · exact ((lns_good h (by omega) hm hn).pos p hp).1
/-- Some for each that comes, none for the others. -/
theorem lns_some {c : Nat → Int} {len m : Nat} {s M : Nat → Nat} (h : Lns c len m s M) (hm : 1 ≤ m) (hn : (pos c len).length ≤ 2 ^ m) (x : Nat) (hx : x < len) : 0 < M x ↔ 0 < c x := by
  constructor
  · intro h0
    by_cases e : ∃ p, p < (pos c len).length ∧ s p = x
    · obtain ⟨p, hp, rfl⟩ := e
      exact (re_pos h.re hp).2
    · have := h.none x hx (fun p hp e2 => e ⟨p, hp, e2⟩)
      omega
  · intro h0
    obtain ⟨p, hp, rfl⟩ := re_surj h.re hx h0
    exact lns_pos h hm hn p hp
theorem lns_one {c : Nat → Int} {len m : Nat} {s M : Nat → Nat} (h : Lns c len m s M) (h1 : (pos c len).length = 1) (x : Nat) (hx : x < len) : M x ≤ 1 := by
  by_cases e : s 0 = x
  · rw [← e, h.one h1]
    exact Nat.le_refl _
  · rw [h.none x hx (fun p hp => by rw [show p = 0 by omega]; exact e)]
    omega
theorem lns_chk {c : Nat → Int} {len m : Nat} {s M : Nat → Nat} (h : Lns c len m s M) (hm : 1 ≤ m) (hm2 : m ≤ 15) (hn : (pos c len).length ≤ 2 ^ m) (h0 : (pos c len).length ≠ 0) : chk (fun i => (M i : Int)) len = 0 := by
  unfold chk
  rw [if_pos ((rngB_iff _ len).2 (fun k hk => by have := lns_le h hm hn k hk; exact ⟨Int.natCast_nonneg _, by show (M k : Int) ≤ 15; omega⟩))]
  by_cases h1 : (pos c len).length = 1
  · have e1 : ((many (fun i => (M i : Int)) len : Nat) : Int) = sumZ (fun p => (((if M (s p) = 0 then 0 else 1 : Nat)) : Int)) (pos c len).length := by
      rw [many_sum, sumN_cast]
      exact sumZ_re _ (fun x => (((if M x = 0 then 0 else 1 : Nat)) : Int)) (fun p hp => (re_pos h.re hp).1) (fun p q hp hq e => re_inj h.re hp hq e) (fun x hx hn => by rw [h.none x hx hn]; rfl)
    rw [h1] at e1
    simp only [sumZ, h.one h1] at e1
    have e2 : many (fun i => (M i : Int)) len = 1 := by
      simp at e1
      omega
    rw [if_pos (.inl e2)]
  · rw [if_pos (.inr (lns_kr h (by omega) hm hm2 hn))]
theorem okB_succ (c : Nat → Int) (n : Nat) : okB c (n + 1) = (okB c n && decide (0 ≤ c n ∧ c n ≤ 4294967296)) := rfl
theorem pos_yes {c : Nat → Int} {n : Nat} (h : 0 < c n) : (pos c (n + 1)).length = (pos c n).length + 1 := by
  show (if 0 < c n then _ else _ : List Nat).length = _
  rw [if_pos h, List.length_append]
  rfl
theorem pos_no {c : Nat → Int} {n : Nat} (h : ¬ 0 < c n) : (pos c (n + 1)).length = (pos c n).length := by
  show (if 0 < c n then _ else _ : List Nat).length = _
  rw [if_neg h]
end Go.Proofs.YtgjpcjnhggcfdaaGreatDoor.ZLns

namespace Go.Proofs.YtgjpcjnhggcfdaaGreatDoor.ZPai
open Go.ChangeShapes Go.WideShapes Go.ChangeAt Go.RowKit Go.Shelf Go.Proofs.YtgjpcjnhggcfdaaGreatDoor.Core Go.Proofs.YtgjpcjnhggcfdaaGreatDoor.Gnd Go.Proofs.YtgjpcjnhggcfdaaGreatDoor.ZItm Go.Proofs.YtgjpcjnhggcfdaaGreatDoor.ZMrg Go.Proofs.YtgjpcjnhggcfdaaGreatDoor.ZPur
attribute [local go_sem] Oper.semAt_some

/-- The blocks of P stay. -/
def Bp (P : Nat → Prop) (W W' : World) : Prop := ∀ k, P k → W'.heap[k]? = W.heap[k]?
theorem Bp.cell {P : Nat → Prop} {W W' : World} (h : Bp P W W') {p : Addr} (hp : P p.block) : W'.cell? p = W.cell? p := World.cell?_of_block (h p.block hp)
theorem Bp.trans {P : Nat → Prop} {A B C : World} (h : Bp P A B) (k : Bp P B C) : Bp P A C := fun i hi => (k i hi).trans (h i hi)
abbrev ag (x : It) : Value := .agg #[.int .i64 x.1, .bool x.2]
abbrev en2 (p : It × It) : Array Value := #[ag p.1, ag p.2]
def two (xs : List It) (m : Nat) : List (It × It) := (List.range m).map fun i => (at_ xs (2 * i), at_ xs (2 * i + 1))
theorem two_succ (xs : List It) (m : Nat) : two xs (m + 1) = two xs m ++ [(at_ xs (2 * m), at_ xs (2 * m + 1))] := by simp [two, List.range_succ]
theorem two_len (xs : List It) (m : Nat) : (two xs m).length = m := by simp [two]

set_option maxRecDepth 100000 in
set_option maxHeartbeats 2000000 in
theorem pai31 (n : Nat) (hn : 1 ≤ n) (l B1 len c1 : Nat) (P : Nat → Prop) (a1 : Option Addr) (xs : List It) (hlen : xs.length = len) (hB1 : P B1) (hl1 : len ≤ 100000) (J Jx : List (It × It) → World → Prop)
    (hJ : ∀ pre W, J pre W → J pre W.drew)
    (hY : ∀ pre x W, J pre W → pre.length < len / 2 → YieldAt Fence.wide (n - 1) Tryz.prog l (en2 x) W fun e W' =>
      (e = .returned (.bool true) ∧ J (pre ++ [x]) W' ∧ Bp P W W') ∨ (e = .returned (.bool false) ∧ Jx (pre ++ [x]) W'))
    (W : World) (hc1 : W.cell? ⟨B1, 0, none⟩ = some (.slice a1 len c1))
    (d1 : ∀ i, i < len → ∃ b o, a1 = some ⟨b, o, none⟩ ∧ P b ∧ W.cell? ⟨b, o + i * 2, none⟩ = some (.int .i64 (at_ xs i).1) ∧ W.cell? ⟨b, o + i * 2 + 1, none⟩ = some (.bool (at_ xs i).2)) (h0 : J [] W) :
    CallsIn Fence.wide n Tryz.prog 104 #[.func (.yield l) #[] #[], .pointer (some ⟨B1, 0, none⟩)] W fun e W' => (∃ v, e = .returned v) ∧
      ((∃ ys, ys = two xs (len / 2) ∧ J ys W') ∨ (∃ pre, True ∧ Jx pre W')) := by
  have hmx : Tryz.prog.follows .mixedOrders = true := by kernel_rfl
  have YY := hide hY
  have JW := hide hJ
  have D1 := hide d1
  have HL := hide hlen
  clear hY hJ d1 hlen
  refine callsIn_of_wp Tryz.func104 rfl trivial ?_ rfl
  simp only [Tryz.ntmps104, List.size_toArray, List.length_cons, List.length_nil, Nat.reduceAdd, Nat.reduceSub, Array.replicate_succ, Array.replicate_zero, List.push_toArray, List.append_toArray, List.nil_append, List.cons_append]
  gi_wp2
  gi_loopw [3] (fun i wr => ∃ k q : Nat, k ≤ len / 2 ∧ Hid (q = 2 * k) ∧ i = .int .i64 ((q : Int) + 1) ∧ J (two xs k) wr ∧ Bp P W wr) (fun i _ => len + 1 - (intOf i).toNat)
  case atStart => exact ⟨0, 0, Nat.zero_le _, rfl, rfl, h0, fun _ _ => rfl⟩
  case round =>
    obtain ⟨k, q, hk, HQ2, rfl, hJs, hnx⟩ := hrel
    have JJ := hide hJs
    have NX := hide hnx
    have hq := unhide HQ2
    have y1 := (hnx.cell (p := ⟨B1, 0, none⟩) hB1).trans hc1
    by_cases hlt : q + 1 < len
    · have hlt' : (q : Int) + 1 < (len : Int) := by omega
      have hql : (q : Int) < (len : Int) := by omega
      obtain ⟨b, o, rfl, q1, e1, e2⟩ := unhide D1 q (by omega)
      obtain ⟨b', o', e, q2, e3, e4⟩ := unhide D1 (q + 1) (by omega)
      cases e
      have x1 := (hnx.cell (p := ⟨b, o + q * 2, none⟩) q1).trans e1
      have x2 := (hnx.cell (p := ⟨b, o + q * 2 + 1, none⟩) q1).trans e2
      have x3 := (hnx.cell (p := ⟨b, o + (q + 1) * 2, none⟩) q1).trans e3
      have x4 := (hnx.cell (p := ⟨b, o + (q + 1) * 2 + 1, none⟩) q1).trans e4
      have TS := hide (show two xs (k + 1) = two xs k ++ [(at_ xs q, at_ xs (q + 1))] from by rw [two_succ, hq])
      obtain ⟨u, hu⟩ : ∃ u, at_ xs q = u := ⟨_, rfl⟩
      obtain ⟨v, hv⟩ : ∃ v, at_ xs (q + 1) = v := ⟨_, rfl⟩
      rw [hu] at x1 x2
      rw [hv] at x3 x4
      rw [hu, hv] at TS
      obtain ⟨u1, u2⟩ := u
      obtain ⟨v1, v2⟩ := v
      simp only at x1 x2 x3 x4
      obtain ⟨fn, tmps, assign, body, hy, hR⟩ := unhide YY _ ((u1, u2), (v1, v2)) wr.drew (unhide JW _ _ (unhide JJ)) (by rw [two_len]; omega)
      dsimp only [en2, ag] at hy
      have HR := hide (hR.mono (R' := fun e W' => ∃ b : Bool, e = .returned (.bool b) ∧ ((b = true ∧ J (two xs k ++ [((u1, u2), (v1, v2))]) W' ∧ Bp P wr.drew W') ∨ (b = false ∧ Jx (two xs k ++ [((u1, u2), (v1, v2))]) W'))) (fun e W' h => by
        rcases h with ⟨e1, e2, e3⟩ | ⟨e1, e2⟩
        · exact ⟨true, e1, .inl ⟨rfl, e2, e3⟩⟩
        · exact ⟨false, e1, .inr ⟨rfl, e2⟩⟩))
      have hk1 : k + 1 ≤ len / 2 := by omega
      have hql2 : q ≤ 100000 := by omega
      clear hJs hnx e1 e2 e3 e4 hc1 q1 q2 hR hu hv hq
      gi_wp2
      rename_i Q1 Q2 K1 h1K K hK
      have HK : ∀ (t : Bool) (W3 : World), ((t = true ∧ J (two xs k ++ [((u1, u2), (v1, v2))]) W3 ∧ Bp P wr.drew W3) ∨ (t = false ∧ Jx (two xs k ++ [((u1, u2), (v1, v2))]) W3)) → K { tmps := #[.func (.yield l) #[] #[], .pointer (some ⟨B1, 0, none⟩), undef, .int .i64 ((q : Int) + 1), .int .i64 ((q : Int) + 1), .slice (some ⟨b, o, none⟩) len c1, .int .i64 len, .bool true, u8, u9, .func (.yield l) #[] #[], .slice (some ⟨b, o, none⟩) len c1, .int .i64 ((q : Int) + 1), .int .i64 q, .pointer (some ⟨b, o + q * 2, none⟩), .agg #[.int .i64 u1, .bool u2], .slice (some ⟨b, o, none⟩) len c1, .int .i64 ((q : Int) + 1), .pointer (some ⟨b, o + (q + 1) * 2, none⟩), .agg #[.int .i64 v1, .bool v2], .bool t, .bool (!t)], defers := [] } W3 := by
        intro t W3 h3
        have H3 := hide h3
        clear h3
        refine hK _ _ ?_
        cases t
        · gi_wp2
          refine bodyPost_ret (results_none rfl _ _ _) rfl ?_
          rcases unhide H3 with ⟨e1, _⟩ | ⟨_, e2⟩
          · cases e1
          · exact ⟨⟨_, rfl⟩, .inr ⟨_, e2⟩⟩
        · gi_wp2
          go_roundw
          case rel =>
            rcases unhide H3 with ⟨_, e2, e3⟩ | ⟨e1, _⟩
            · exact ⟨k + 1, q + 2, hk1, (show q + 2 = 2 * (k + 1) by have := unhide HQ2; omega), by go_num, by rw [unhide TS]; exact e2, (unhide NX).trans (fun i h1 => (e3 i h1))⟩
            · cases e1
          case measure => simp [intOf]; omega
      refine (fun key : ∀ QQ : Act → World → Prop, (∀ (t : Bool) (W3 : World), ((t = true ∧ J (two xs k ++ [((u1, u2), (v1, v2))]) W3 ∧ Bp P wr.drew W3) ∨ (t = false ∧ Jx (two xs k ++ [((u1, u2), (v1, v2))]) W3)) → QQ { tmps := #[.func (.yield l) #[] #[], .pointer (some ⟨B1, 0, none⟩), undef, .int .i64 ((q : Int) + 1), .int .i64 ((q : Int) + 1), .slice (some ⟨b, o, none⟩) len c1, .int .i64 len, .bool true, u8, u9, .func (.yield l) #[] #[], .slice (some ⟨b, o, none⟩) len c1, .int .i64 ((q : Int) + 1), .int .i64 q, .pointer (some ⟨b, o + q * 2, none⟩), .agg #[.int .i64 u1, .bool u2], .slice (some ⟨b, o, none⟩) len c1, .int .i64 ((q : Int) + 1), .pointer (some ⟨b, o + (q + 1) * 2, none⟩), .agg #[.int .i64 v1, .bool v2], .bool t, .bool (!t)], defers := [] } W3) → Code.wpIn Fence.wide n Tryz.prog _ (Exit.then QQ (fun _ _ _ => False)) _ wr => Code.wpIn_mono (fun e a w h => by cases e <;> first | exact h | exact False.elim h) (key _ (fun t W3 h => HK t W3 h))) ?_
      clear hK h1K HK K K1 Q2 Q1 YY JW D1 JJ NX h0 hB1 hk hk1 HQ2 TS HL hlt
      have e10 : IntKind.i64.wrap (q : Int) = (q : Int) := by simp [IntKind.wrap, IntKind.bits, IntKind.signed]; omega
      have h00 : (0 : Int) ≤ (q : Int) := by omega
      intro QQ hq
      have HQ := hide hq
      clear hq
      gi_region_with_o (refine (unhide HR).mono ?_; rintro e W3 ⟨t, rfl, h3⟩; have H3 := hide h3; clear h3)
      all_goals first | exact unhide HQ _ _ (unhide H3) | (rw [e10]; exact unhide HQ _ _ (unhide H3))
    · have hnl : ¬ (q : Int) + 1 < (len : Int) := by omega
      have hke : k = len / 2 := by omega
      clear hJs hnx hq
      gi_wp2
      go_end0
      refine ⟨⟨_, rfl⟩, .inl ?_⟩
      rw [← hke]
      exact unhide JJ
end Go.Proofs.YtgjpcjnhggcfdaaGreatDoor.ZPai

namespace Go.Proofs.YtgjpcjnhggcfdaaGreatDoor.ZPar
open Go.Proofs.YtgjpcjnhggcfdaaGreatDoor.ZShr (its_slice)
open Go.ChangeShapes Go.WideShapes Go.ChangeAt Go.RowKit Go.Shelf Go.Proofs.YtgjpcjnhggcfdaaGreatDoor.Core Go.Proofs.YtgjpcjnhggcfdaaGreatDoor.Gnd Go.Proofs.YtgjpcjnhggcfdaaGreatDoor.ZItm Go.Proofs.YtgjpcjnhggcfdaaGreatDoor.ZMrg Go.Proofs.YtgjpcjnhggcfdaaGreatDoor.ZPur Go.Proofs.YtgjpcjnhggcfdaaGreatDoor.ZPai
attribute [local go_sem] Oper.semAt_some

theorem pai28 (n l1 c1 : Nat) (a1 : Option Addr) (w : World) :
    CallsIn Fence.wide n Tryz.prog 101 #[.slice a1 l1 c1] w fun e w' => e = .returned (.func (.func 104) #[] #[.pointer (some ⟨w.heap.size, 0, none⟩)]) ∧ w' = w.alloc (.cells #[.slice a1 l1 c1] 156) := by
  refine callsIn_of_wp Tryz.func101 rfl trivial ?_ rfl
  simp only [Tryz.ntmps101, List.size_toArray, List.length_cons, List.length_nil, Nat.reduceAdd, Nat.reduceSub, Array.replicate_succ, Array.replicate_zero, List.push_toArray, List.append_toArray, List.nil_append, List.cons_append]
  gi_wp2
  go_ret
  exact ⟨rfl, rfl⟩
theorem pai_stops (n : Nat) (hn : 1 ≤ n) (B1 len c1 : Nat) (P : Nat → Prop) (a1 : Option Addr) (xs : List It) (hlen : xs.length = len) (hB1 : P B1) (hl1 : len ≤ 100000) (w : World) (hP : ∀ k, P k → k < w.heap.size)
    (hc1 : w.cell? ⟨B1, 0, none⟩ = some (.slice a1 len c1))
    (d1 : ∀ i, i < len → ∃ b o, a1 = some ⟨b, o, none⟩ ∧ P b ∧ w.cell? ⟨b, o + i * 2, none⟩ = some (.int .i64 (at_ xs i).1) ∧ w.cell? ⟨b, o + i * 2 + 1, none⟩ = some (.bool (at_ xs i).2)) :
    SeqStopsK Fence.wide n Tryz.prog 104 #[.pointer (some ⟨B1, 0, none⟩)] en2 (Bp P) (fun ys => ys = two xs (len / 2)) (fun _ => True) (len / 2) w := fun l J Jx W hW hJ _ hY h0 => by
  refine pai31 n hn l B1 len c1 P a1 xs hlen hB1 hl1 J Jx (fun pre W h => hJ pre W W.drew none h ⟨rfl, rfl, rfl, Nat.le_refl _, fun _ _ _ => rfl⟩ (fun r e => by cases e)) hY W ?_ ?_ h0
  · exact (hW.cell (p := ⟨B1, 0, none⟩) (hP _ hB1)).trans hc1
  · intro i hi
    obtain ⟨b, o, e, h1, h2, h3⟩ := d1 i hi
    exact ⟨b, o, e, h1, (hW.cell (p := ⟨b, o + i * 2, none⟩) (hP _ h1)).trans h2, (hW.cell (p := ⟨b, o + i * 2 + 1, none⟩) (hP _ h1)).trans h3⟩
def jn (p : It × It) : It := (wrap64 (p.1.1 + p.2.1), false)
set_option maxRecDepth 100000 in
set_option maxHeartbeats 2000000 in
theorem par24_in (n len c1 : Nat) (a1 : Option Addr) (xs : List It) (w : World) (hn : 3 ≤ n) (hlen : xs.length = len) (hl1 : len ≤ 20000) (s1 : Its w (.slice a1 len c1) xs) :
    CallsIn Fence.wide n Tryz.prog 99 #[.slice a1 len c1] w fun e w' => ∃ r, e = .returned r ∧ Its w' r ((two xs (len / 2)).map jn) ∧ Below w.heap.size w w' := by
  have h1 : 1 ≤ n := by omega
  have hmk : ∀ w, (Instr.makeSlice 156 (.int .i64 0) (.int .i64 ((len : Int) / 2))).run Tryz.prog w = .ok (.slice (some ⟨w.heap.size, 0, none⟩) 0 (len / 2)) (w.alloc (.cells (irow (fun _ => 0) (fun _ => false) (len / 2)) 163)) := fun w => by
    have := make_room w (len / 2) (by omega)
    rw [show ((len / 2 : Nat) : Int) = (len : Int) / 2 by omega] at this
    exact this
  refine callsIn_of_wp_marks Tryz.func99 rfl trivial ?_ rfl
  simp only [Tryz.ntmps99, List.size_toArray, List.length_cons, List.length_nil, Nat.reduceAdd, Nat.reduceSub, Array.replicate_succ, Array.replicate_zero, List.push_toArray, List.append_toArray, List.nil_append, List.cons_append]
  have ht28 : Fence.wide.fn 101 := trivial
  gi_wp2_with (gi_at_call 101; refine (pai28 _ _ _ _ _).mono ?_; rintro e w' ⟨rfl, rfl⟩)
  obtain ⟨i0, hi, hz0, hz1, hz2⟩ := info_parts info56
  obtain ⟨W0, hW0⟩ : ∃ W0, ((w.alloc (.cells (irow (fun _ => 0) (fun _ => false) (len / 2)) 163)).alloc (.cells #[.slice (some ⟨w.heap.size, 0, none⟩) 0 (len / 2)] 156)).alloc (.cells #[.slice a1 len c1] 156) = W0 := ⟨_, rfl⟩
  have bJ : Boxed W0 (w.heap.size + 1) 156 (.slice (some ⟨w.heap.size, 0, none⟩) 0 (len / 2)) := by
    rw [← hW0]
    have := Boxed.new (w.alloc (.cells (irow (fun _ => 0) (fun _ => false) (len / 2)) 163)) 156 (.slice (some ⟨w.heap.size, 0, none⟩) 0 (len / 2))
    rw [World.size_alloc] at this
    exact this.alloc _
  have bS : Boxed W0 (w.heap.size + 2) 156 (.slice a1 len c1) := by
    rw [← hW0]
    have := Boxed.new ((w.alloc (.cells (irow (fun _ => 0) (fun _ => false) (len / 2)) 163)).alloc (.cells #[.slice (some ⟨w.heap.size, 0, none⟩) 0 (len / 2)] 156)) 156 (.slice a1 len c1)
    rw [World.size_alloc, World.size_alloc] at this
    exact this
  have oJ : W0.ownsRow w.heap.size 163 2 (.slice (some ⟨w.heap.size, 0, none⟩) 0 (len / 2)) 0 [] := by
    rw [← hW0]
    exact ((World.ownsRow_made w _ _ (Nat.le_refl _) (by unfold maxLen; omega) (irow_size _ _ _)).alloc _).alloc _
  have hsz : W0.heap.size = w.heap.size + 3 := by rw [← hW0]; simp
  have hB0 : Below w.heap.size w W0 := by rw [← hW0]; exact (((Below.refl _ w).alloc (Nat.le_refl _) _).alloc (by simp) _).alloc (by simp; omega) _
  rw [hW0]
  have k1 : ∀ i, i < len → ∃ b o, a1 = some ⟨b, o, none⟩ ∧ (b < w.heap.size ∨ b = w.heap.size + 2) ∧ W0.cell? ⟨b, o + i * 2, none⟩ = some (.int .i64 (at_ xs i).1) ∧ W0.cell? ⟨b, o + i * 2 + 1, none⟩ = some (.bool (at_ xs i).2) := fun i hi => by
    rcases s1 with ⟨_, e⟩ | ⟨b, o, cap, e, _, h⟩
    · subst e; simp at hlen; omega
    · cases e
      obtain ⟨x1, x2⟩ := h i (by omega)
      have hb := lt_of_cell x1
      exact ⟨b, o, rfl, .inl hb, (hB0.cell hb).trans x1, (hB0.cell (p := ⟨b, o + (i * 2 + 1), none⟩) hb).trans x2⟩
  refine wpIn_rangeFunc_ownH rfl h1 (gf := 104) (lb := #[.pointer (some ⟨w.heap.size + 1 + 1, 0, none⟩)]) rfl trivial (enters_of Tryz.func104 (by kernel_rfl) rfl)
    (pai_stops (n - 1) (by omega) (w.heap.size + 2) len c1 (fun k => k < w.heap.size ∨ k = w.heap.size + 2) a1 xs hlen (.inr rfl) (by omega) W0 (fun k hk => by omega) bS.cell k1) Bp.trans (fun W l o o' hl h2 _ _ k hk => World.putObj_heap_other (fun e => by omega)) (Below.refl _ _) (fun _ => rfl)
    (fun pre W => (∃ v, Boxed W (w.heap.size + 1) 156 v ∧ W.ownsRow w.heap.size 163 2 v pre.length (mcells (pre.map jn)) ∧ True) ∧ (Boxed W (w.heap.size + 2) 156 (.slice a1 len c1) ∧ Below w.heap.size w W))
    (fun _ _ _ => False)
    (OwnFrom.and (Own.from (holdsRow_own w.heap.size (w.heap.size + 1) 156 163 2 (fun pre : List (It × It) => pre.length) (fun pre => mcells (pre.map jn)) (fun _ _ => True)) _) (OwnFrom.and (Own.from (boxed_own _ _ _) _) (ownFrom_below (Nat.le_refl _) (by omega))))
    (fun _ _ _ _ _ hs _ _ => hs)
    ⟨⟨_, bJ, oJ, trivial⟩, bS, hB0⟩
    (fun x a' W => ∃ Ba Bb, Box W Ba 163 #[.int .i64 x.1.1, .bool x.1.2] ∧ Box W Bb 163 #[.int .i64 x.2.1, .bool x.2.2] ∧ a' = { tmps := #[.slice a1 len c1, undef, .slice none 0 0, .pointer (some ⟨w.heap.size + 1, 0, none⟩), .pointer (some ⟨Ba, 0, none⟩), .pointer (some ⟨Bb, 0, none⟩), .slice a1 len c1, .int .i64 len, .int .i64 ((len : Int) / 2), .slice (some ⟨w.heap.size, 0, none⟩) 0 (len / 2), .slice a1 len c1, .func (.func 104) #[] #[.pointer (some ⟨w.heap.size + 1 + 1, 0, none⟩)], ag x.1, ag x.2, undef, undef, undef, undef, undef, undef, undef, undef, undef, undef], defers := [] })
    (fun x a' => by
      rintro _ A B row ⟨Ba, Bb, xa, xb, e⟩ hg hr
      refine ⟨Ba, Bb, (hg.block Ba xa.lt (fun e2 => ?_)).trans xa, (hg.block Bb xb.lt (fun e2 => ?_)).trans xb, e⟩
      · obtain ⟨_, o, ho, hc⟩ := hr Ba e2.symm
        rw [show A.heap[Ba]? = _ from xa] at ho; cases ho; cases hc
      · obtain ⟨_, o, ho, hc⟩ := hr Bb e2.symm
        rw [show A.heap[Bb]? = _ from xb] at ho; cases ho; cases hc) ?assign ?body ?done ?stop
  case assign =>
    rintro l pre ⟨⟨p1, p2⟩, ⟨q1, q2⟩⟩ W K ⟨⟨v, hv, hrow, _⟩, hb2, hB⟩ hK
    gi_wp2
    refine hK _ _ (((KeepsOthers.alloc W _).trans (KeepsOthers.alloc _ _)).from _) (fun k hk => ?_) ⟨⟨v, (hv.alloc _).alloc _, (hrow.alloc _).alloc _, trivial⟩, (hb2.alloc _).alloc _, (hB.alloc hB.size _).alloc (by have := hB.size; simp; omega) _⟩ ⟨W.heap.size, W.heap.size + 1, (Box.made W 163 _).alloc _, ?_, rfl⟩
    · have hlt : k < W.heap.size := by
        have := hb2.lt
        have := hB.size
        omega
      exact (Below.heap_alloc _ _ _ (by simp; omega)).trans (Below.heap_alloc _ _ _ hlt)
    · have := Box.made (W.alloc (.cells #[.int .i64 p1, .bool p2] 163)) 163 #[.int .i64 q1, .bool q2]
      rw [World.size_alloc] at this
      exact this
  case body =>
    rintro l pre ⟨⟨p1, p2⟩, ⟨q1, q2⟩⟩ a' W hl ⟨r, hr⟩ ⟨⟨v, hv, hrow, _⟩, hb2, hB⟩ ⟨Ba, Bb, xa, xb, rfl⟩ hlt
    have d1 : W.cell? ⟨Ba, 0, none⟩ = some (.int .i64 p1) := xa.cell 0
    have d2 : W.cell? ⟨Bb, 0, none⟩ = some (.int .i64 q1) := xb.cell 0
    have d3 := hv.cell
    have HV := hide hv
    have HR := hide hrow
    have HB2 := hide hb2
    have HBB := hide hB
    have hvl := hv.lt
    clear hv hrow hb2 hB xa xb hr s1 bJ bS oJ hB0 hmk k1
    gi_wp2_with (first | (gi_at_builtin; refine wpListIn_append_own _ rfl (.tmp 14) (.tmp 21) 156 rfl w.heap.size 163 i0 _ 2 16 Tryz.underlying156 hi hz0 hz1 hz2 rfl (by decide) v pre.length (mcells (pre.map jn)) rfl ((unhide HR).alloc _) ⟨W.heap.size, 0, none⟩ 1 1 (mcells [(wrap64 (p1 + q1), false)]) rfl rfl (it_src _ _) (mcells_one _) (by unfold maxLen; omega) (by omega) (by have := (unhide HBB).size; simp; omega) ?_; intro v1 w1 own1 gr1 _; obtain ⟨g', cap', rfl⟩ := ownsRow_succ own1; obtain ⟨hv1, hv2, hr2, hk2, hb3⟩ := (unhide HV).appended (by decide) (unhide HR) (unhide HBB).size (Nat.le_succ _) own1 gr1; have hc1 := hv1.cell; have hf1 := hv1.frozen; have HV2 := hide hv2; have HR2 := hide hr2; have HK2 := hide hk2; have HB3 := hide hb3; have HS2 := hide (((unhide HB2).alloc _).kept gr1 ((unhide HB2).not_row (by decide) (unhide HR))); clear hv1 hv2 hr2 hk2 hb3 own1 gr1) | fail)
    have hs3 := (unhide HS2).other (show w.heap.size + 2 ≠ w.heap.size + 1 by omega) (.slice (some ⟨g', 0, none⟩) (pre.length + 1) cap')
    refine ⟨(unhide HK2).from _, fun k hk => ?_, ⟨_, unhide HV2, ?_, trivial⟩, hs3, (unhide HBB).trans (unhide HB3)⟩
    · rcases hk with hk | hk
      · exact (unhide HB3).block k hk
      · subst hk
        exact (show _ = _ from hs3).trans (show _ = _ from unhide HB2).symm
    · rw [List.map_append, mcells_app, List.length_append]
      exact unhide HR2
  case done =>
    rintro D ys W hD rfl ⟨⟨v, hv, hrow, _⟩, hb2, hB⟩ hK
    have hc := hv.cell
    have HR := hide hrow
    have HB := hide hB
    obtain ⟨va, vx, vy, rfl⟩ : ∃ a x y, v = .slice a x y := its_slice (own_its (xs := (two xs (len / 2)).map jn) (by rw [List.length_map]; exact hrow))
    clear hrow hB hb2 hv
    gi_wp2
    refine ⟨by simp, .inl ⟨_, _, rfl, run_takeDeferred hK, ?_⟩⟩
    refine ⟨_, results_tmp rfl _ _ _, _, rfl, ?_, (unhide HB).trans (belowK_b (w := w) (Nat.le_refl _) W D _ _ (by omega) hK rfl rfl)⟩
    have := ownsRow_putObj (unhide HR) (.deferred none) hK rfl
    refine own_its (base := w.heap.size) ?_
    rw [List.length_map]
    exact this
  case stop =>
    rintro D c pre W _ _ h _
    exact h.elim
theorem two_prs : ∀ (xs : List It), (∀ x ∈ xs, 0 < x.1 ∧ x.1 ≤ 4000000000000000000) → (two xs (xs.length / 2)).map jn = prs xs := fun xs hx => by
  apply List.ext_getElem
  · rw [List.length_map, two_len, prs_len]
  · intro i h1 h2
    rw [List.length_map, two_len] at h1
    have e1 := prs_at xs i h1
    rw [at_get (by rw [prs_len]; exact h1)] at e1
    rw [e1]
    have a1 := hx _ (at_mem (show 2 * i < xs.length by omega))
    have a2 := hx _ (at_mem (show 2 * i + 1 < xs.length by omega))
    simp only [two, List.getElem_map, List.getElem_range, jn]
    congr 1
    simp [wrap64]
    omega
theorem par24 : Go.Proofs.YtgjpcjnhggcfdaaGreatDoor.ZBst.ParOk := fun v xs w src hl hx => by
  obtain ⟨a, y, rfl, _⟩ := Go.Proofs.YtgjpcjnhggcfdaaGreatDoor.ZShr.its_len src
  have h := (callsIn_wide (n := 3)).1 (par24_in 3 xs.length y a xs w (Nat.le_refl _) rfl hl src)
  rw [two_prs xs hx] at h
  exact h
end Go.Proofs.YtgjpcjnhggcfdaaGreatDoor.ZPar
