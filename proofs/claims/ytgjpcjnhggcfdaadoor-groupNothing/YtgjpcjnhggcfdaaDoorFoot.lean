/- Plain facts: append onto a row of the call's own, and in which blocks it may lie behind it; bits and bytes of a number. No conditions. -/
import Derived.Test.YtgjpcjnhggcfdaaDoorCore
import Derived.Deep.RegionLaw
import Derived.Laws.MathBits
namespace Go.Proofs.YtgjpcjnhggcfdaaDoor.Foot
open Go.ChangeShapes Go.WideShapes Go.ChangeAt Go.RowKit Go.Proofs.YtgjpcjnhggcfdaaDoor.Core

theorem own_weak {w : World} {base n : Nat} {v : Value} {xs : List Value} (h : w.ownsRow base 5 1 v n xs) : w.ownsRow 0 5 1 v n xs := by
  refine ⟨h.1, ?_⟩
  rcases h.2 with h | ⟨g, cap, cur, e, _, r⟩
  · exact .inl h
  · exact .inr ⟨g, cap, cur, e, Nat.zero_le _, r⟩
theorem grown_weak {w w' : World} (h : w.grownBy w' none) (row : Option Nat) : w.grownBy w' row :=
  ⟨h.os, h.tape, h.output, h.size, fun k hk _ => h.block k hk (by simp)⟩
/-- In which blocks a slice may lie behind an append, and what of it stays. -/
structure Stays (w w' : World) (v v' : Value) (n : Nat) : Prop where
  foot : ∀ k, v'.ownBlock = some k → v.ownBlock = some k ∨ w.heap.size ≤ k
  kept : ∀ b k, v.ownBlock = some b → k < n → w'.cell? ⟨b, k, none⟩ = w.cell? ⟨b, k, none⟩
theorem run_app (w : World) (ty : TypeId) (v : Value) (n : Nat) (xs : List Value) (hown : w.ownsRow 0 5 1 v n xs) (ad : Addr) (m c : Nat) (news : List Value)
    (hl : news.length = m) (hnews : ∀ j u, news[j]? = some u → w.cell? (ad.add j) = some u) (h1 : ∀ u ∈ news, u.oneCell' = true) (hn : n + m ≤ 1000000) :
    ∃ v' w', (Builtin.append_ #[23, 23] ty #[v, .slice (some ad) m c]).run Tryd.prog w = .ok v' w' ∧ w'.ownsRow 0 5 1 v' (n + m) (xs ++ news) ∧ w.grownBy w' v.ownBlock ∧ Stays w w' v v' n := by
  obtain ⟨i0, hi, hz0, hz1, hz2⟩ := info_parts Tryd.info5
  have hl' : news.length = m * 1 := by omega
  have b1 : n + m ≤ maxLen := by unfold maxLen; omega
  have b2 : (n + m) * 1 ≤ 140737488355328 := by omega
  rcases hown.2 with ⟨rfl, rfl⟩ | ⟨g, cap, cur, rfl, _⟩
  · have hx : xs = [] := List.eq_nil_of_length_eq_zero (by simpa using hown.1)
    subst hx
    obtain ⟨v', w', hr, r1, r2, _⟩ := run_append_own (P := Tryd.prog) w w.heap.size 23 ty 5 i0 (.int .u8 0) 1 1 Tryd.underlying23 hi hz0 hz1 hz2 rfl (by decide) (.slice none 0 0) 0 [] (World.ownsRow_nil w _ 5 1) ad m c news hl' hnews h1 b1 b2 (Nat.le_refl _)
    exact ⟨v', w', hr, own_weak r1, r2, fun k hk => .inr (r1.lt k hk).1, fun b k hb _ => by simp [Value.ownBlock] at hb⟩
  · by_cases hroom : n + m ≤ cap
    · obtain ⟨w', hr, r1, r2⟩ := run_append_fits (P := Tryd.prog) w 0 23 ty 5 i0 1 Tryd.underlying23 hi hz1 g n cap xs hown ad m c news hl' hnews h1 hroom
      refine ⟨_, w', hr, r1, r2, fun k hk => .inl hk, fun b k hb hk => ?_⟩
      have hb' : g = b := by simpa [Value.ownBlock] using hb
      subst hb'
      rw [r1.cellAt k (by omega), hown.cellAt k (by omega), List.getElem?_append_left (by rw [hown.1]; omega)]
    · obtain ⟨v', w', hr, r1, r2⟩ := run_append_arg_grows (P := Tryd.prog) w 23 ty 5 i0 (.int .u8 0) 1 1 Tryd.underlying23 hi hz0 hz1 hz2 rfl (by decide) ⟨g, 0, none⟩ n cap xs hown.1 (hown.cells (g := g) rfl) ad m c news hl' hnews (by omega) b1 b2
      refine ⟨v', w', hr, own_weak r1, grown_weak r2 _, fun k hk => .inr (r1.lt k hk).1, fun b k hb hk => ?_⟩
      have hb' : g = b := by simpa [Value.ownBlock] using hb
      subst hb'
      exact World.cell?_of_block (r2.block g (hown.lt g rfl).2 (by simp))
theorem step_app {ops : Array Oper} {o : Oper} {a : Act} {w : World} {K : Act → World → Prop} {Q : Exit → Act → World → Prop} {E : Prop}
    (hg : o.guard = none) (s x : Operand) (hop : o.op = Op.call { callee := Callee.builtin Builtin.append, args := #[s, x], argTypes := #[23, 23] })
    (v : Value) (n : Nat) (xs : List Value) (hs : a.eval s = v) (hown : w.ownsRow 0 5 1 v n xs) (ad : Addr) (m c : Nat) (news : List Value) (hx : a.eval x = .slice (some ad) m c)
    (hl : news.length = m) (hnews : ∀ j u, news[j]? = some u → w.cell? (ad.add j) = some u) (h1 : ∀ u ∈ news, u.oneCell' = true) (hn : n + m ≤ 1000000)
    (hK : ∀ v' w', w'.ownsRow 0 5 1 v' (n + m) (xs ++ news) → w.grownBy w' v.ownBlock → Stays w w' v v' n → K (a.put o.dst v') w') :
    if Region.wanted o (yielded ops a.tmps) = true then Oper.wp Tryd.prog o a w K Q else E := by
  have hw : Region.wanted o (yielded ops a.tmps) = true := by simp [Region.wanted, hg]
  rw [if_pos hw]
  obtain ⟨v', w', hr, r1, r2, r3⟩ := run_app w o.type v n xs hown ad m c news hl hnews h1 hn
  unfold Oper.wp
  simp [execOp, hop, resolve, invoke, builtin, hs, hx, hr, Result.andThen]
  exact hK v' w' r1 r2 r3
theorem list_app {w : World} {ops : Array Oper} {rest : List Oper} {o : Oper} {a : Act} {Q : Exit → Act → World → Prop} (hg : o.guard = none) (s x : Operand)
    (hop : o.op = .call { callee := .builtin .append, args := #[s, x], argTypes := #[23, 23] })
    (v : Value) (n : Nat) (xs : List Value) (hs : a.eval s = v) (hown : w.ownsRow 0 5 1 v n xs) (ad : Addr) (m c : Nat) (news : List Value) (hx : a.eval x = .slice (some ad) m c)
    (hl : news.length = m) (hnews : ∀ j u, news[j]? = some u → w.cell? (ad.add j) = some u) (h1 : ∀ u ∈ news, u.oneCell' = true) (hn : n + m ≤ 1000000)
    (hK : ∀ v' w', w'.ownsRow 0 5 1 v' (n + m) (xs ++ news) → w.grownBy w' v.ownBlock → Stays w w' v v' n → wpList Tryd.prog ops Q rest (a.put o.dst v') w') : wpList Tryd.prog ops Q (o :: rest) a w := by
  refine wpList_plain hg fun K hK' => ?_
  obtain ⟨v', w', hr, r1, r2, r3⟩ := run_app w o.type v n xs hown ad m c news hl hnews h1 hn
  unfold Oper.wp
  simp [execOp, hop, resolve, invoke, builtin, hs, hx, hr, Result.andThen]
  exact hK' _ _ (hK v' w' r1 r2 r3)
theorem one_src (w : World) (x : Value) : ∀ j u, ([x] : List Value)[j]? = some u → (w.alloc (.cells #[x] 5)).cell? ((⟨w.heap.size, 0, none⟩ : Addr).add j) = some u := by
  intro j u hj
  match j, hj with
  | 0, hj => simp at hj; subst hj; simp [Addr.add]
theorem one_one (k : IntKind) (x : Int) : ∀ u ∈ [Value.int k x], u.oneCell' = true := by
  intro u hu; simp at hu; subst hu; rfl

/-- Byte k of a number. -/
def byt (V k : Nat) : Nat := V / 2 ^ (8 * k) % 256
theorem byt_le (V k : Nat) : byt V k ≤ 255 := by unfold byt; omega
theorem pow_pos2 (n : Nat) : 0 < 2 ^ n := Nat.pow_pos (by omega)
theorem cells_succ (c : Nat → Nat) (n : Nat) : cells c (n + 1) = cells c n ++ [.int .u8 (c n)] := by
  simp [cells, List.range_succ]
theorem cells_congr (c d : Nat → Nat) (n : Nat) (h : ∀ k, k < n → c k = d k) : cells c n = cells d n := by
  unfold cells
  apply List.map_congr_left
  intro k hk
  rw [h k (List.mem_range.1 hk)]
theorem byt_keep (V v N k : Nat) (h : 8 * k + 8 ≤ N) : byt (V + v * 2 ^ N) k = byt V k := by
  unfold byt
  obtain ⟨t, rfl⟩ : ∃ t, N = 8 * k + (8 + t) := ⟨N - 8 * k - 8, by omega⟩
  rw [show v * 2 ^ (8 * k + (8 + t)) = 2 ^ (8 * k) * (256 * (v * 2 ^ t)) by rw [Nat.pow_add, Nat.pow_add, show (2 : Nat) ^ 8 = 256 from rfl]; simp only [Nat.mul_comm, Nat.mul_left_comm, Nat.mul_assoc],
    Nat.add_mul_div_left _ _ (pow_pos2 _), Nat.add_mul_mod_self_left]
theorem rest_add (V v N : Nat) : (V + v * 2 ^ N) / 2 ^ (8 * (N / 8)) = V / 2 ^ (8 * (N / 8)) + v * 2 ^ (N % 8) := by
  have e : v * 2 ^ N = 2 ^ (8 * (N / 8)) * (v * 2 ^ (N % 8)) := by
    rw [Nat.mul_left_comm, ← Nat.pow_add, show 8 * (N / 8) + N % 8 = N by omega]
  rw [e, Nat.add_mul_div_left _ _ (pow_pos2 _)]
theorem rest_lt (V N : Nat) (h : V < 2 ^ N) : V / 2 ^ (8 * (N / 8)) < 2 ^ (N % 8) := by
  rw [Nat.div_lt_iff_lt_mul (pow_pos2 _), ← Nat.pow_add, show N % 8 + 8 * (N / 8) = N by omega]
  exact h
theorem sum_lt (V v N n : Nat) (h : V < 2 ^ N) (hv : v < 2 ^ n) : V + v * 2 ^ N < 2 ^ (N + n) := by
  rw [Nat.pow_add, Nat.mul_comm (2 ^ N)]
  have h1 : (v + 1) * 2 ^ N ≤ 2 ^ n * 2 ^ N := Nat.mul_le_mul_right _ hv
  rw [Nat.add_mul, Nat.one_mul] at h1
  omega
theorem half (V K : Nat) : V / 2 ^ (8 * K) / 256 = V / 2 ^ (8 * (K + 1)) := by
  rw [Nat.div_div_eq_div_mul, show 8 * (K + 1) = 8 * K + 8 by omega, Nat.pow_add]
end Go.Proofs.YtgjpcjnhggcfdaaDoor.Foot
