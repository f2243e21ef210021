/- Plain facts: a copy by append of a slice that may be nil; what the lengths are to ref.Check. Conditions: few elements. -/
import Derived.Test.YtcfnbbelbadmkaaLst
import Derived.Test.YtcfnbbelbadmkaaBad
namespace Go.Proofs.Ytcfnbbelbadmkaa.Cpy
open Go.ChangeShapes Go.WideShapes Go.ChangeAt Go.RowKit Go.Proofs.Ytcfnbbelbadmkaa.Core Go.Proofs.Ytcfnbbelbadmkaa.Gnd Go.Proofs.Ytcfnbbelbadmkaa.Math Go.Proofs.Ytcfnbbelbadmkaa.Ris Go.Proofs.Ytcfnbbelbadmkaa.Spr Go.Proofs.Ytcfnbbelbadmkaa.Bst Go.Proofs.Ytcfnbbelbadmkaa.Fin Go.Proofs.Ytcfnbbelbadmkaa.Use Go.Proofs.Ytcfnbbelbadmkaa.Wid Go.Proofs.Ytcfnbbelbadmkaa.Gth Go.Proofs.Ytcfnbbelbadmkaa.Srd

def From (w : World) (u : Value) (len : Nat) (c : Nat → Int) : Prop :=
  (u = .slice none 0 0 ∧ len = 0) ∨ ∃ ad cap, u = .slice (some ad) len cap ∧ ∀ k, k < len → w.cell? (ad.add k) = some (.int .i64 (c k))
theorem from_of_row {w : World} {a : Option Addr} {len cap : Nat} {zs : List Int}
    (h : (a = none ∧ len = 0 ∧ cap = 0 ∧ zs = []) ∨
      ∃ x, a = some x ∧ len ≤ cap ∧ cap ≤ maxLen ∧ zs.length = cap ∧ (∀ i, i < zs.length → w.cell? (x.add i) = some (.int .i64 (zs.getD i 0))) ∧ ∀ n ∈ zs, (Lit.int .i64 n).wf = true) :
    From w (.slice a len cap) len (fun k => zs.getD k 0) := by
  rcases h with ⟨rfl, rfl, rfl, rfl⟩ | ⟨x, rfl, h1, h2, hz, hc, hwf⟩
  · exact .inl ⟨rfl, rfl⟩
  · exact .inr ⟨x, cap, rfl, fun k hk => hc k (by omega)⟩
theorem From.keep {w w' : World} {u : Value} {len : Nat} {c : Nat → Int} (h : From w u len c) (b : Below w.heap.size w w') : From w' u len c := by
  rcases h with h | ⟨ad, cap, e, hc⟩
  · exact .inl h
  · exact .inr ⟨ad, cap, e, fun k hk => (b.cell (lt_of_cell (hc k hk))).trans (hc k hk)⟩
theorem app_both {w : World} {ops : Array Oper} {rest : List Oper} {o : Oper} {a : Act} {Q : Exit → Act → World → Prop} (hgd : o.guard = none) (s x : Operand)
    (ho : o.op = .call { callee := .builtin .append, args := #[s, x], argTypes := #[22, 22] })
    (base : Nat) (v : Value) (hs : a.eval s = v) (hown : w.ownsRow base 3 1 v 0 [])
    (u : Value) (len : Nat) (c : Nat → Int) (hx : a.eval x = u) (src : From w u len c) (hn : len ≤ 1000000) (hbase : base ≤ w.heap.size)
    (h : ∀ v' w', w'.ownsRow base 3 1 v' len (cells c len) → w.grownBy w' v.ownBlock → wpList Try.prog ops Q rest (a.put o.dst v') w') : wpList Try.prog ops Q (o :: rest) a w := by
  obtain ⟨i0, hi, hz0, hz1, hz2⟩ := info_parts Gth.info3
  rcases src with ⟨rfl, rfl⟩ | ⟨ad, cap, rfl, hc⟩
  · exact wpList_append_own_none hgd s x 22 ho base 3 i0 1 Try.underlying22 hi v 0 [] hs hown hx (h v w hown ⟨rfl, rfl, rfl, Nat.le_refl _, fun _ _ _ => rfl⟩)
  · refine wpList_append_own w hgd s x 22 ho base 3 i0 (.int .i64 0) 1 8 Try.underlying22 hi hz0 hz1 hz2 rfl (by decide) v 0 [] hs hown ad len cap (cells c len) hx (by rw [cells_len, Nat.mul_one])
      (news_of hc) (cells_one _ _) (by unfold maxLen; omega) (by omega) hbase (fun v' w' h1 h2 _ => ?_)
    rw [Nat.zero_add, List.nil_append] at h1
    exact h v' w' h1 h2
theorem own_ints {w : World} {base n : Nat} {v : Value} {c : Nat → Int} (h : w.ownsRow base 3 1 v n (cells c n)) : Ints .i64 w v n c := by
  rcases h.2 with ⟨rfl, h0⟩ | ⟨g, cap, cur, rfl, _⟩
  · subst h0
    exact ⟨_, _, rfl, fun i hi => by omega⟩
  · exact ⟨_, cap, rfl, fun i hi => ⟨g, 0, rfl, by rw [Nat.zero_add]; exact (h.cellAt i (by omega)).trans (cells_at c n i hi)⟩⟩
theorem many_sum (M : Nat → Nat) : ∀ n, many (fun i => (M i : Int)) n = sumN (fun x => if M x = 0 then 0 else 1) n
  | 0 => rfl
  | n + 1 => by
    have e : many (fun i => (M i : Int)) (n + 1) = many (fun i => (M i : Int)) n + (if ((M n : Nat) : Int) = 0 then 0 else 1) := rfl
    rw [e, sumN, many_sum M n]
    by_cases h : M n = 0
    · rw [if_pos h, if_pos (by omega)]
    · rw [if_neg h, if_neg (by omega)]
theorem lns_pos {c : Nat → Int} {len m : Nat} {s M : Nat → Nat} (h : Lns c len m s M) (hm : 1 ≤ m) (hn : (pos c len).length ≤ 2 ^ m) (p : Nat) (hp : p < (pos c len).length) : 1 ≤ M (s p) := by
  by_cases h1 : (pos c len).length = 1
  · rw [show p = 0 by omega, h.one h1]
    exact Nat.le_refl _
  · exact ((lns_good h (by omega) hm hn).pos p hp).1
/-- Some for each that comes, none for the others. -/
theorem lns_some {c : Nat → Int} {len m : Nat} {s M : Nat → Nat} (h : Lns c len m s M) (hm : 1 ≤ m) (hn : (pos c len).length ≤ 2 ^ m) (x : Nat) (hx : x < len) : 0 < M x ↔ 0 < c x := by
  constructor
  · intro h0
    by_cases e : ∃ p, p < (pos c len).length ∧ s p = x
    · obtain ⟨p, hp, rfl⟩ := e
      exact (re_pos h.re hp).2
    · have := h.none x hx (fun p hp e2 => e ⟨p, hp, e2⟩)
      omega
  · intro h0
    obtain ⟨p, hp, rfl⟩ := re_surj h.re hx h0
    exact lns_pos h hm hn p hp
theorem lns_one {c : Nat → Int} {len m : Nat} {s M : Nat → Nat} (h : Lns c len m s M) (h1 : (pos c len).length = 1) (x : Nat) (hx : x < len) : M x ≤ 1 := by
  by_cases e : s 0 = x
  · rw [← e, h.one h1]
    exact Nat.le_refl _
  · rw [h.none x hx (fun p hp => by rw [show p = 0 by omega]; exact e)]
    omega
theorem lns_chk {c : Nat → Int} {len m : Nat} {s M : Nat → Nat} (h : Lns c len m s M) (hm : 1 ≤ m) (hm2 : m ≤ 15) (hn : (pos c len).length ≤ 2 ^ m) (h0 : (pos c len).length ≠ 0) : chk (fun i => (M i : Int)) len = 0 := by
  unfold chk
  rw [if_pos ((rngB_iff _ len).2 (fun k hk => by have := lns_le h hm hn k hk; exact ⟨Int.natCast_nonneg _, by show (M k : Int) ≤ 15; omega⟩))]
  by_cases h1 : (pos c len).length = 1
  · have e1 : ((many (fun i => (M i : Int)) len : Nat) : Int) = sumZ (fun p => (((if M (s p) = 0 then 0 else 1 : Nat)) : Int)) (pos c len).length := by
      rw [many_sum, sumN_cast]
      exact sumZ_re _ (fun x => (((if M x = 0 then 0 else 1 : Nat)) : Int)) (fun p hp => (re_pos h.re hp).1) (fun p q hp hq e => re_inj h.re hp hq e) (fun x hx hn => by rw [h.none x hx hn]; rfl)
    rw [h1] at e1
    simp only [sumZ, h.one h1] at e1
    have e2 : many (fun i => (M i : Int)) len = 1 := by
      simp at e1
      omega
    rw [if_pos (.inl e2)]
  · rw [if_pos (.inr (lns_kr h (by omega) hm hm2 hn))]
theorem okB_succ (c : Nat → Int) (n : Nat) : okB c (n + 1) = (okB c n && decide (0 ≤ c n ∧ c n ≤ 4294967296)) := rfl
theorem pos_yes {c : Nat → Int} {n : Nat} (h : 0 < c n) : (pos c (n + 1)).length = (pos c n).length + 1 := by
  show (if 0 < c n then _ else _ : List Nat).length = _
  rw [if_pos h, List.length_append]
  rfl
theorem pos_no {c : Nat → Int} {n : Nat} (h : ¬ 0 < c n) : (pos c (n + 1)).length = (pos c n).length := by
  show (if 0 < c n then _ else _ : List Nat).length = _
  rw [if_neg h]
end Go.Proofs.Ytcfnbbelbadmkaa.Cpy
