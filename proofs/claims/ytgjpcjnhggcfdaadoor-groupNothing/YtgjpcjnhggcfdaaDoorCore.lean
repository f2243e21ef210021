/- Plain facts: what a call leaves as it was, blocks of memory, slices of bytes that are read or appended. No conditions. -/
import Derived.Test.YtgjpcjnhggcfdaaDoorBase
import Derived.WalkKit
import Derived.ProofKit
import Derived.OpenShut
import Derived.WalkSpells
import Derived.Laws.BitsAllLaws
import Derived.Laws.AppendOwnNone
import Derived.Deep.QuietTactic
import Derived.BigQuiet
import Derived.Below
import Derived.WalkSmall
namespace Go.Proofs.YtgjpcjnhggcfdaaDoor.Core
open Go.ChangeShapes Go.WideShapes Go.ChangeAt Go.RowKit

/-- A slice of bytes that came in: nil, or somewhere, its bytes told by c. -/
def Src (w : World) (v : Value) (len : Nat) (c : Nat → Nat) : Prop :=
  (v = .slice none 0 0 ∧ len = 0) ∨ ∃ x cap, v = .slice (some x) len cap ∧ ∀ k, k < len → w.cell? (x.add k) = some (.int .u8 (c k))
theorem Src.keep {S : Nat → Prop} {w w' : World} {v : Value} {len : Nat} {c : Nat → Nat} (h : Src w v len c) (u : Upd S w w') (hs : ∀ k, S k → w.heap.size ≤ k) : Src w' v len c := by
  rcases h with h | ⟨x, cap, e, hc⟩
  · exact .inl h
  · exact .inr ⟨x, cap, e, fun k hk => (u.cell (lt_of_cell (hc k hk)) (fun h => by have := hs _ h; have := lt_of_cell (hc k hk); omega)).trans (hc k hk)⟩
theorem src_at {w : World} {a : Addr} {n : Nat} {c : Nat → Nat} (h : ∀ i, i < n → w.cell? (a.add i) = some (.int .u8 (c i))) (hp : 0 < n) :
    ∃ b off, a = ⟨b, off, none⟩ ∧ ∀ j, j < n → w.cell? ⟨b, off + j, none⟩ = some (.int .u8 (c j)) := by
  obtain ⟨b, off, spot⟩ := a
  have hspot : spot = none := by simpa [Addr.add] using World.cell?_spot (h 0 hp)
  subst hspot
  exact ⟨b, off, rfl, fun j hj => by rw [← Go.WideShapes.add_plain]; exact h j hj⟩
theorem src_of_row {w : World} {a : Option Addr} {len cap : Nat} {zs : List Int}
    (h : (a = none ∧ len = 0 ∧ cap = 0 ∧ zs = []) ∨
      ∃ x, a = some x ∧ len ≤ cap ∧ cap ≤ maxLen ∧ zs.length = cap ∧ (∀ i, i < zs.length → w.cell? (x.add i) = some (.int .u8 (zs.getD i 0))) ∧ ∀ n ∈ zs, (Lit.int .u8 n).wf = true) :
    ∃ c : Nat → Nat, (∀ k, c k ≤ 255) ∧ Src w (.slice a len cap) len c := by
  rcases h with ⟨rfl, rfl, rfl, _⟩ | ⟨x, rfl, h1, h2, hz, hc, hwf⟩
  · exact ⟨fun _ => 0, fun _ => Nat.zero_le _, .inl ⟨rfl, rfl⟩⟩
  · have hbd : ∀ k, 0 ≤ zs.getD k 0 ∧ zs.getD k 0 ≤ 255 := fun k => by
      by_cases hk : k < zs.length
      · have hx : zs.getD k 0 ∈ zs := by
          rw [List.getD_eq_getElem?_getD, List.getElem?_eq_getElem hk]; exact List.getElem_mem hk
        exact bounds_u8 (hwf _ hx)
      · rw [List.getD_eq_getElem?_getD, List.getElem?_eq_none (by omega)]; simp
    refine ⟨fun k => (zs.getD k 0).toNat, fun k => by have := hbd k; simp only; omega, .inr ⟨x, cap, rfl, fun k hk => ?_⟩⟩
    rw [hc k (by omega)]
    have e : (((zs.getD k 0).toNat : Nat) : Int) = zs.getD k 0 := by have := hbd k; omega
    simp only [e]
/-- Bytes as cells. -/
def cells (c : Nat → Nat) (n : Nat) : List Value := (List.range n).map fun k => .int .u8 (c k)
theorem cells_len (c : Nat → Nat) (n : Nat) : (cells c n).length = n := by simp [cells]
theorem cells_at (c : Nat → Nat) (n k : Nat) (h : k < n) : (cells c n)[k]? = some (.int .u8 (c k)) := by
  simp [cells, h]
theorem cells_one (c : Nat → Nat) (n : Nat) : ∀ u ∈ cells c n, u.oneCell' = true := by
  intro u hu
  obtain ⟨_, _, rfl⟩ := List.mem_map.1 hu
  rfl
theorem news_of {w : World} {n : Nat} {x : Addr} {c : Nat → Nat} (h : ∀ k, k < n → w.cell? (x.add k) = some (.int .u8 (c k))) :
    ∀ j u, (cells c n)[j]? = some u → w.cell? (x.add j) = some u := by
  intro j u hu
  have hj : j < n := by
    have := (List.getElem?_eq_some_iff.1 hu).1
    rwa [cells_len] at this
  rw [cells_at c n j hj] at hu
  rw [h j hj]
  exact hu

/-- What a copy hands back. -/
def Got (w : World) (lo : Nat) (v : Value) (len : Nat) (c : Nat → Nat) : Prop :=
  ∃ a cap, v = .slice a len cap ∧ (len = 0 ∨ ∃ b, a = some ⟨b, 0, none⟩ ∧ lo ≤ b ∧ b < w.heap.size ∧ ∀ k, k < len → w.cell? ⟨b, k, none⟩ = some (.int .u8 (c k)))

theorem got_of {w : World} {base : Nat} {v : Value} {len : Nat} {c : Nat → Nat} (h : w.ownsRow base 5 1 v len (cells c len)) : Got w base v len c := by
  have hlt := h.lt
  rcases h.2 with ⟨rfl, h0⟩ | ⟨g, cap, cur, rfl, _⟩
  · exact ⟨none, 0, by rw [h0], .inl h0⟩
  · exact ⟨_, cap, rfl, .inr ⟨g, rfl, (hlt g rfl).1, (hlt g rfl).2, fun k hk => (h.cellAt k (by omega)).trans (cells_at c len k hk)⟩⟩

theorem Tryd.info5 : (Tryd.prog.info? 5).map (fun i => (i.zero, i.size, i.bytes)) = some (some (.int .u8 0), 1, 1) := by kernel_rfl
theorem grown_refl (w : World) (row : Option Nat) : w.grownBy w row := ⟨rfl, rfl, rfl, Nat.le_refl _, fun _ _ _ => rfl⟩
theorem app_src {w : World} {ops : Array Oper} {rest : List Oper} {o : Oper} {a : Act} {Q : Exit → Act → World → Prop} (hgd : o.guard = none) (s x : Operand)
    (ho : o.op = .call { callee := .builtin .append, args := #[s, x], argTypes := #[23, 23] })
    (base : Nat) (v : Value) (n : Nat) (xs : List Value) (hs : a.eval s = v) (hown : w.ownsRow base 5 1 v n xs)
    (u : Value) (len : Nat) (c : Nat → Nat) (hx : a.eval x = u) (src : Src w u len c) (hn : n + len ≤ 1000000) (hbase : base ≤ w.heap.size)
    (h : ∀ v' w', w'.ownsRow base 5 1 v' (n + len) (xs ++ cells c len) → w.grownBy w' v.ownBlock → wpList Tryd.prog ops Q rest (a.put o.dst v') w') : wpList Tryd.prog ops Q (o :: rest) a w := by
  obtain ⟨i0, hi, hz0, hz1, hz2⟩ := info_parts Tryd.info5
  rcases src with ⟨rfl, rfl⟩ | ⟨ad, cap, rfl, hc⟩
  · refine wpList_append_own_none hgd s x 23 ho base 5 i0 1 Tryd.underlying23 hi v n xs hs hown hx (h v w ?_ (grown_refl _ _))
    rw [show cells c 0 = [] from rfl, List.append_nil]
    exact hown
  · exact wpList_append_own w hgd s x 23 ho base 5 i0 (.int .u8 0) 1 1 Tryd.underlying23 hi hz0 hz1 hz2 rfl (by decide) v n xs hs hown ad len cap (cells c len) hx (by rw [cells_len, Nat.mul_one])
      (news_of hc) (cells_one _ _) (by unfold maxLen; omega) (by omega) hbase (fun v' w' h1 h2 _ => h v' w' h1 h2)
theorem own_slice {w : World} {base n : Nat} {v : Value} {xs : List Value} (h : w.ownsRow base 5 1 v n xs) : ∃ a cap, v = .slice a n cap := by
  rcases h.2 with ⟨rfl, h0⟩ | ⟨g, cap, cur, rfl, _⟩
  · exact ⟨none, 0, by rw [h0]⟩
  · exact ⟨_, _, rfl⟩
theorem src_of_own {w : World} {base n : Nat} {v : Value} {c : Nat → Nat} (h : w.ownsRow base 5 1 v n (cells c n)) : Src w v n c := by
  rcases h.2 with ⟨rfl, h0⟩ | ⟨g, cap, cur, rfl, _⟩
  · exact .inl ⟨rfl, h0⟩
  · exact .inr ⟨_, cap, rfl, fun k hk => by rw [add_plain, Nat.zero_add]; exact (h.cellAt k (by omega)).trans (cells_at c n k hk)⟩
theorem cells_set (c : Nat → Nat) (n k z : Nat) : (cells c n).set k (.int .u8 z) = cells (fun j => if j = k then z else c j) n := by
  apply List.ext_getElem?
  intro j
  rw [List.getElem?_set]
  by_cases hj : j < n
  · rw [cells_at _ n j hj, cells_at _ n j hj, cells_len]
    by_cases e : k = j
    · subst e; simp [hj]
    · have : ¬ j = k := fun h => e h.symm
      simp [e, this]
  · rw [List.getElem?_eq_none (l := cells c n) (by rw [cells_len]; omega), List.getElem?_eq_none (l := cells _ n) (by rw [cells_len]; omega), cells_len]
    split
    · rw [if_neg (by omega)]
    · rfl
end Go.Proofs.YtgjpcjnhggcfdaaDoor.Core
