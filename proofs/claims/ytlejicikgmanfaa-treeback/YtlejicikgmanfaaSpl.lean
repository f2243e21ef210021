/- Plain facts: a copy of lengths by append, and what becomes of the sum where one length is another. Conditions: as each says. -/
import Derived.Test.YtlejicikgmanfaaCnt
namespace Go.Proofs.Ytlejicikgmanfaa.Spl
open Go.ChangeShapes Go.WideShapes Go.ChangeAt Go.RowKit Go.Proofs.Ytlejicikgmanfaa.Core Go.Proofs.Ytlejicikgmanfaa.Gnd Go.Proofs.Ytlejicikgmanfaa.Math Go.Proofs.Ytlejicikgmanfaa.Cnt

def cells (c : Nat → Int) (n : Nat) : List Value := (List.range n).map fun k => .int .i64 (c k)
theorem cells_len (c : Nat → Int) (n : Nat) : (cells c n).length = n := by simp [cells]
theorem cells_at (c : Nat → Int) (n k : Nat) (h : k < n) : (cells c n)[k]? = some (.int .i64 (c k)) := by
  simp [cells, h]
theorem cells_one (c : Nat → Int) (n : Nat) : ∀ u ∈ cells c n, u.oneCell' = true := by
  intro u hu
  obtain ⟨_, _, rfl⟩ := List.mem_map.1 hu
  rfl
def upd (c : Nat → Int) (k : Nat) (z : Int) (j : Nat) : Int := if j = k then z else c j
theorem cells_set (c : Nat → Int) (n k : Nat) (z : Int) : (cells c n).set k (.int .i64 z) = cells (upd c k z) n := by
  apply List.ext_getElem?
  intro j
  rw [List.getElem?_set]
  by_cases hj : j < n
  · rw [cells_at _ n j hj, cells_at _ n j hj, cells_len]
    by_cases e : k = j
    · subst e; simp [hj, upd]
    · have : ¬ j = k := fun h => e h.symm
      simp [e, this, upd]
  · rw [List.getElem?_eq_none (l := cells c n) (by rw [cells_len]; omega), List.getElem?_eq_none (l := cells _ n) (by rw [cells_len]; omega), cells_len]
    split
    · rw [if_neg (by omega)]
    · rfl
theorem news_of {w : World} {n : Nat} {x : Addr} {c : Nat → Int} (h : ∀ k, k < n → w.cell? (x.add k) = some (.int .i64 (c k))) :
    ∀ j u, (cells c n)[j]? = some u → w.cell? (x.add j) = some u := by
  intro j u hu
  have hj : j < n := by
    have := (List.getElem?_eq_some_iff.1 hu).1
    rwa [cells_len] at this
  rw [cells_at c n j hj] at hu
  rw [h j hj]
  exact hu
theorem info3 : (Try.prog.info? 3).map (fun i => (i.zero, i.size, i.bytes)) = some (some (.int .i64 0), 1, 8) := by kernel_rfl
theorem empty_own (w : World) (base : Nat) (h : base ≤ w.heap.size) : (w.alloc (.cells #[] 3)).ownsRow base 3 1 (.slice (some ⟨w.heap.size, 0, none⟩) 0 0) 0 [] :=
  ⟨rfl, .inr ⟨w.heap.size, 0, #[], rfl, h, Box.made w 3 #[], Nat.le_refl _, Nat.zero_le _, rfl, rfl⟩⟩
theorem empty_at (w : World) (base n : Nat) (hn : w.heap.size = n) (h : base ≤ n) : (w.alloc (.cells #[] 3)).ownsRow base 3 1 (.slice (some ⟨n, 0, none⟩) 0 0) 0 [] := by
  subst hn
  exact empty_own w base h
theorem app_copy {w : World} {ops : Array Oper} {rest : List Oper} {o : Oper} {a : Act} {Q : Exit → Act → World → Prop} (hgd : o.guard = none) (s x : Operand)
    (ho : o.op = .call { callee := .builtin .append, args := #[s, x], argTypes := #[22, 22] })
    (base : Nat) (v : Value) (hs : a.eval s = v) (hown : w.ownsRow base 3 1 v 0 [])
    (ad : Addr) (len cap : Nat) (c : Nat → Int) (hx : a.eval x = .slice (some ad) len cap) (src : ∀ k, k < len → w.cell? (ad.add k) = some (.int .i64 (c k))) (hn : len ≤ 1000000) (hbase : base ≤ w.heap.size)
    (h : ∀ v' w', w'.ownsRow base 3 1 v' len (cells c len) → w.grownBy w' v.ownBlock → wpList Try.prog ops Q rest (a.put o.dst v') w') : wpList Try.prog ops Q (o :: rest) a w := by
  obtain ⟨i0, hi, hz0, hz1, hz2⟩ := info_parts info3
  refine wpList_append_own w hgd s x 22 ho base 3 i0 (.int .i64 0) 1 8 Try.underlying22 hi hz0 hz1 hz2 rfl (by decide) v 0 [] hs hown ad len cap (cells c len) hx (by rw [cells_len, Nat.mul_one])
      (news_of src) (cells_one _ _) (by unfold maxLen; omega) (by omega) hbase (fun v' w' h1 h2 _ => ?_)
  rw [Nat.zero_add, List.nil_append] at h1
  exact h v' w' h1 h2
theorem own_ints {w : World} {base n : Nat} {v : Value} {c : Nat → Int} (h : w.ownsRow base 3 1 v n (cells c n)) : Ints .i64 w v n c := by
  rcases h.2 with ⟨rfl, h0⟩ | ⟨g, cap, cur, rfl, _⟩
  · subst h0
    exact ⟨_, _, rfl, fun i hi => by omega⟩
  · exact ⟨_, cap, rfl, fun i hi => ⟨g, 0, rfl, by rw [Nat.zero_add]; exact (h.cellAt i (by omega)).trans (cells_at c n i hi)⟩⟩
theorem own_pos {w : World} {base n : Nat} {v : Value} {c : Nat → Int} (h : w.ownsRow base 3 1 v n (cells c n)) (hn : 0 < n) :
    ∃ g cap, v = .slice (some ⟨g, 0, none⟩) n cap ∧ (∀ k, k < n → w.cell? ⟨g, k, none⟩ = some (.int .i64 (c k)) ∧ w.frozen? ⟨g, k, none⟩ = false) ∧ base ≤ g ∧ g < w.heap.size := by
  have hl := h.lt
  rcases h.2 with ⟨_, h0⟩ | ⟨g, cap, cur, rfl, _⟩
  · omega
  · exact ⟨g, cap, rfl, fun k hk => ⟨(h.cellAt k (by omega)).trans (cells_at c _ k hk), h.frozenAt k⟩, (hl g rfl).1, (hl g rfl).2⟩
theorem own_set {w : World} {base n g cap k : Nat} {c : Nat → Int} (h : w.ownsRow base 3 1 (.slice (some ⟨g, 0, none⟩) n cap) n (cells c n)) (z : Int) :
    (w.setCell ⟨g, k, none⟩ (.int .i64 z)).ownsRow base 3 1 (.slice (some ⟨g, 0, none⟩) n cap) n (cells (upd c k z) n) := by
  have h1 := (h.stored k (.int .i64 z)).1
  rwa [cells_set] at h1
theorem kr_upd (c : Nat → Int) (i : Nat) (z : Int) : ∀ n, (n ≤ i → kr (upd c i z) n = kr c n) ∧ (i < n → kr (upd c i z) n + pt2 (c i) = kr c n + pt2 z)
  | 0 => ⟨fun _ => rfl, fun h => by omega⟩
  | n + 1 => by
    obtain ⟨h1, h2⟩ := kr_upd c i z n
    refine ⟨fun h => ?_, fun h => ?_⟩
    · have e : upd c i z n = c n := if_neg (by omega)
      simp only [kr, e]
      have := h1 (by omega)
      omega
    · by_cases e : i = n
      · subst e
        have e2 : upd c i z i = z := if_pos rfl
        have := h1 (Nat.le_refl _)
        simp only [kr, e2]
        omega
      · have e2 : upd c i z n = c n := if_neg (fun h => e h.symm)
        have := h2 (by omega)
        simp only [kr, e2]
        omega
theorem rng_upd {c : Nat → Int} {n : Nat} (h : Rng c n) (i : Nat) (z : Int) (h0 : 0 ≤ z) (h1 : z ≤ 15) : Rng (upd c i z) n := fun k hk => by
  unfold upd
  split
  · exact ⟨h0, h1⟩
  · exact h k hk
/-- One code is split in two. -/
theorem chk_split {c : Nat → Int} {n i k : Nat} (h : chk c n = 0) (hm : many c n ≠ 1) (hi : i < n) (hk : k < n) (m : Nat) (hc : c i = (m : Int)) (h0 : m ≠ 0) (h14 : m ≤ 14) (hck : c k = 0) :
    chk (upd (upd c i (m + 1)) k (m + 1)) n = 0 := by
  obtain ⟨hg, h1, _⟩ := chk_zero h
  have hs : kr c n = 32768 := by
    rcases h1 with h1 | h1
    · exact absurd h1 hm
    · exact h1
  have k1 := (kr_upd c i (m + 1) n).2 hi
  have k2 := (kr_upd (upd c i (m + 1)) k (m + 1) n).2 hk
  have ek : upd c i (m + 1) k = 0 := by
    unfold upd
    rw [if_neg (fun e => by rw [e] at hck; omega)]
    exact hck
  have p0 : pt2 (upd c i (m + 1) k) = 0 := by rw [ek]; rfl
  have p1 : pt2 (c i) = 2 ^ (15 - m) := by
    unfold pt2
    rw [if_neg (by omega), hc]
    rfl
  have p2 : pt2 ((m : Int) + 1) = 2 ^ (15 - (m + 1)) := by
    unfold pt2
    rw [if_neg (by omega), show ((m : Int) + 1).toNat = m + 1 by omega]
  have p3 : 2 ^ (15 - m) = 2 ^ (15 - (m + 1)) * 2 := by
    rw [← Nat.pow_succ]
    congr 1
    omega
  unfold chk
  rw [if_pos ((rngB_iff _ n).2 (rng_upd (rng_upd hg i (m + 1) (by omega) (by omega)) k (m + 1) (by omega) (by omega))), if_pos (Or.inr (by omega))]
/-- One code is left out. -/
theorem chk_less {c : Nat → Int} {n i : Nat} (h : chk c n = 0) (hm : many c n ≠ 1) (hi : i < n) (hc : c i ≠ 0) (hl : many (upd c i 0) n ≠ 1) : chk (upd c i 0) n = 3 := by
  obtain ⟨hg, h1, _⟩ := chk_zero h
  have hs : kr c n = 32768 := by
    rcases h1 with h1 | h1
    · exact absurd h1 hm
    · exact h1
  have k1 := (kr_upd c i 0 n).2 hi
  have p0 : pt2 0 = 0 := rfl
  have p1 : 0 < pt2 (c i) := by
    unfold pt2
    rw [if_neg hc]
    exact Nat.pow_pos (by omega)
  unfold chk
  rw [if_pos ((rngB_iff _ n).2 (rng_upd hg i 0 (by omega) (by omega))), if_neg (fun h => h.elim hl (by omega))]
end Go.Proofs.Ytlejicikgmanfaa.Spl
