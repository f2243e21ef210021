/- Plain facts: a row of numbers in a block, two of them exchanged; rows that are put in another order. Conditions: as each says. -/
import Derived.Test.YtcfnbbelbadmkaaGnd
namespace Go.Proofs.Ytcfnbbelbadmkaa.Srt
open Go.ChangeShapes Go.WideShapes Go.ChangeAt Go.RowKit Go.Proofs.Ytcfnbbelbadmkaa.Core Go.Proofs.Ytcfnbbelbadmkaa.Gnd

/-- n numbers in a block, none frozen. -/
def Row (w : World) (g n : Nat) (f : Nat → Nat) : Prop := ∀ i, i < n → w.cell? ⟨g, i, none⟩ = some (.int .i64 (f i)) ∧ w.frozen? ⟨g, i, none⟩ = false
theorem Row.congr {w : World} {g n : Nat} {f f' : Nat → Nat} (h : Row w g n f) (e : ∀ i, i < n → f i = f' i) : Row w g n f' := fun i hi => by
  rw [← e i hi]
  exact h i hi
theorem Row.set {w : World} {g n : Nat} {f : Nat → Nat} (h : Row w g n f) (k z : Nat) : Row (w.setCell ⟨g, k, none⟩ (.int .i64 z)) g n (fun j => if j = k then z else f j) := fun i hi => by
  refine ⟨?_, by rw [World.frozen?_setCell]; exact (h i hi).2⟩
  by_cases e : i = k
  · subst e
    simp only [if_true]
    exact World.cell?_setCell_same _ _ _ (h i hi).1
  · simp only [if_neg e]
    rw [World.cell?_setCell_other _ _ _ _ (fun h => e (by cases h; rfl))]
    exact (h i hi).1
def sw (i j k : Nat) : Nat := if k = i then j else if k = j then i else k
theorem Row.swap {w : World} {g n : Nat} {f : Nat → Nat} (h : Row w g n f) (i j : Nat) : Row ((w.setCell ⟨g, i, none⟩ (.int .i64 (f j))).setCell ⟨g, j, none⟩ (.int .i64 (f i))) g n (fun k => f (sw i j k)) := by
  refine ((h.set i (f j)).set j (f i)).congr fun k _ => ?_
  unfold sw
  by_cases e1 : k = j
  · subst e1
    by_cases e2 : k = i
    · subst e2; simp
    · simp [e2]
  · by_cases e2 : k = i
    · subst e2; simp [e1]
    · simp [e1, e2]
theorem Row.drewN {w : World} {g n : Nat} {f : Nat → Nat} (h : Row w g n f) (q : Nat) : Row (w.drewN q) g n f := h

/-- The places from a to b are put in another order. -/
def Re (a b : Nat) (f f' : Nat → Nat) : Prop :=
  ∃ p q : Nat → Nat, (∀ k, p (q k) = k ∧ q (p k) = k) ∧ (∀ k, (k < a ∨ b ≤ k) → p k = k ∧ q k = k) ∧ (∀ k, a ≤ k → k < b → a ≤ p k ∧ p k < b ∧ a ≤ q k ∧ q k < b) ∧ ∀ k, f' k = f (p k)
theorem Re.refl (a b : Nat) (f : Nat → Nat) : Re a b f f := ⟨id, id, fun _ => ⟨rfl, rfl⟩, fun _ _ => ⟨rfl, rfl⟩, fun _ h1 h2 => ⟨h1, h2, h1, h2⟩, fun _ => rfl⟩
theorem Re.trans {a b : Nat} {f f1 f2 : Nat → Nat} (h : Re a b f f1) (k : Re a b f1 f2) : Re a b f f2 := by
  obtain ⟨p, q, h1, h2, h3, h4⟩ := h
  obtain ⟨p', q', k1, k2, k3, k4⟩ := k
  refine ⟨fun x => p (p' x), fun x => q' (q x), fun x => ⟨?_, ?_⟩, fun x hx => ⟨?_, ?_⟩, fun x hx hy => ?_, fun x => ?_⟩
  · show p (p' (q' (q x))) = x
    rw [(k1 _).1, (h1 _).1]
  · show q' (q (p (p' x))) = x
    rw [(h1 _).2, (k1 _).2]
  · show p (p' x) = x
    rw [(k2 x hx).1, (h2 x hx).1]
  · show q' (q x) = x
    rw [(h2 x hx).2, (k2 x hx).2]
  · obtain ⟨u1, u2, _, _⟩ := k3 x hx hy
    obtain ⟨v1, v2, _, _⟩ := h3 _ u1 u2
    obtain ⟨_, _, s1, s2⟩ := h3 x hx hy
    obtain ⟨_, _, t1, t2⟩ := k3 _ s1 s2
    exact ⟨v1, v2, t1, t2⟩
  · rw [k4, h4]
theorem Re.wide {a b a' b' : Nat} {f f' : Nat → Nat} (h : Re a b f f') (ha : a' ≤ a) (hb : b ≤ b') : Re a' b' f f' := by
  obtain ⟨p, q, h1, h2, h3, h4⟩ := h
  refine ⟨p, q, h1, fun k hk => h2 k (by omega), fun k hk hl => ?_, h4⟩
  by_cases e : a ≤ k ∧ k < b
  · have := h3 k e.1 e.2
    omega
  · have := h2 k (by omega)
    omega
theorem Re.congr {a b : Nat} {f f' f2 : Nat → Nat} (h : Re a b f f') (e : ∀ k, f2 k = f' k) : Re a b f f2 := by
  obtain ⟨p, q, h1, h2, h3, h4⟩ := h
  exact ⟨p, q, h1, h2, h3, fun k => by rw [e, h4]⟩
theorem sw_sw (i j k : Nat) : sw i j (sw i j k) = k := by
  unfold sw
  by_cases e1 : k = i
  · subst e1
    by_cases e2 : j = k
    · simp [e2]
    · simp [e2]
  · by_cases e2 : k = j
    · subst e2; simp [e1]
    · simp [e1, e2]
theorem sw_in (i j k a b : Nat) (h1 : a ≤ i ∧ i < b) (h2 : a ≤ j ∧ j < b) (hk : a ≤ k ∧ k < b) : a ≤ sw i j k ∧ sw i j k < b := by
  unfold sw
  split
  · exact h2
  · split
    · exact h1
    · exact hk
theorem Re.swap (a b i j : Nat) (f : Nat → Nat) (h1 : a ≤ i ∧ i < b) (h2 : a ≤ j ∧ j < b) : Re a b f (fun k => f (sw i j k)) :=
  ⟨sw i j, sw i j, fun k => ⟨sw_sw i j k, sw_sw i j k⟩, fun k hk => by
      have : sw i j k = k := by
        unfold sw
        rw [if_neg (by omega), if_neg (by omega)]
      exact ⟨this, this⟩,
    fun k h3 h4 => by
      have := sw_in i j k a b h1 h2 ⟨h3, h4⟩
      exact ⟨this.1, this.2, this.1, this.2⟩, fun _ => rfl⟩
theorem Re.out {a b : Nat} {f f' : Nat → Nat} (h : Re a b f f') (k : Nat) (hk : k < a ∨ b ≤ k) : f' k = f k := by
  obtain ⟨p, q, _, h2, _, h4⟩ := h
  rw [h4, (h2 k hk).1]
theorem Re.into {a b : Nat} {f f' : Nat → Nat} (h : Re a b f f') (k : Nat) (h1 : a ≤ k) (h2 : k < b) : ∃ j, a ≤ j ∧ j < b ∧ f' k = f j := by
  obtain ⟨p, q, _, _, h3, h4⟩ := h
  have := h3 k h1 h2
  exact ⟨p k, this.1, this.2.1, h4 k⟩
def Rg (f : Nat → Nat) (n len : Nat) : Prop := ∀ i, i < n → f i < len
theorem Re.rg {a b n len : Nat} {f f' : Nat → Nat} (h : Re a b f f') (hb : b ≤ n) (r : Rg f n len) : Rg f' n len := fun i hi => by
  by_cases e : a ≤ i ∧ i < b
  · obtain ⟨j, h1, h2, h3⟩ := h.into i e.1 e.2
    rw [h3]
    exact r j (by omega)
  · rw [h.out i (by omega)]
    exact r i hi
/-- What stands at the places from a to b rises. -/
def Up (c : Nat → Int) (f : Nat → Nat) (a b : Nat) : Prop := ∀ i j, a ≤ i → i < j → j < b → c (f i) ≤ c (f j)
/-- What is asked of a function that compares: it may draw, and turns nothing. -/
def Asks (K : Nat) (cb : Array Value) (w : World) (g len : Nat) (c : Nat → Int) : Prop :=
  (∀ x, x < len → 0 ≤ c x ∧ c x ≤ 4294967296) ∧
  ∀ W, Upd (fun k => k = g) w W → ∀ x y : Nat, x < len → y < len → Calls Try.prog K (#[.int .i64 x, .int .i64 y] ++ cb) W fun e W' => e = .returned (.int .i64 (c x - c y)) ∧ ∃ q, W' = W.drewN q
theorem Asks.keep {K : Nat} {cb : Array Value} {w w' : World} {g len : Nat} {c : Nat → Int} (h : Asks K cb w g len c) (u : Upd (fun k => k = g) w w') : Asks K cb w' g len c :=
  ⟨h.1, fun W uW => h.2 W (u.trans uW)⟩
/-- Two rows exchanged. -/
def sr (a b m k : Nat) : Nat := if a ≤ k ∧ k < a + m then k - a + b else if b ≤ k ∧ k < b + m then k - b + a else k
theorem sr_step (a b m k : Nat) (h : a + m < b) : sr a b (m + 1) k = sr a b m (sw (a + m) (b + m) k) := by
  by_cases e1 : k = a + m
  · have hs : sw (a + m) (b + m) k = b + m := by unfold sw; rw [if_pos e1]
    rw [hs]
    unfold sr
    rw [if_pos (by omega), if_neg (by omega), if_neg (by omega)]
    omega
  · by_cases e2 : k = b + m
    · have hs : sw (a + m) (b + m) k = a + m := by unfold sw; rw [if_neg e1, if_pos e2]
      rw [hs]
      unfold sr
      rw [if_neg (by omega), if_pos (by omega), if_neg (by omega), if_neg (by omega)]
      omega
    · have hs : sw (a + m) (b + m) k = k := by unfold sw; rw [if_neg e1, if_neg e2]
      rw [hs]
      unfold sr
      by_cases h1 : a ≤ k ∧ k < a + m
      · rw [if_pos (by omega), if_pos h1]
      · rw [if_neg (by omega), if_neg h1]
        by_cases h2 : b ≤ k ∧ k < b + m
        · rw [if_pos (by omega), if_pos h2]
        · rw [if_neg (by omega), if_neg h2]
theorem sr_zero (a b k : Nat) : sr a b 0 k = k := by
  unfold sr
  rw [if_neg (by omega), if_neg (by omega)]
/-- A row turned: what stood from m on comes first. -/
def ro (a m b k : Nat) : Nat := if a ≤ k ∧ k < b then (if k < a + (b - m) then k + (m - a) else k - (b - m)) else k
end Go.Proofs.Ytcfnbbelbadmkaa.Srt
