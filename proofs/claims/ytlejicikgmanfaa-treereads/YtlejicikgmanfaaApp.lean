/- Plain facts: a copy by append of a slice that may be nil. Conditions: few elements. -/
import Derived.Test.YtlejicikgmanfaaRcd
import Derived.Laws.AppendOwnNone
namespace Go.Proofs.Ytlejicikgmanfaa.App
open Go.ChangeShapes Go.WideShapes Go.ChangeAt Go.RowKit Go.Proofs.Ytlejicikgmanfaa.Core Go.Proofs.Ytlejicikgmanfaa.Gnd Go.Proofs.Ytlejicikgmanfaa.Spl

def From (w : World) (u : Value) (len : Nat) (c : Nat → Int) : Prop :=
  (u = .slice none 0 0 ∧ len = 0) ∨ ∃ ad cap, u = .slice (some ad) len cap ∧ ∀ k, k < len → w.cell? (ad.add k) = some (.int .i64 (c k))
theorem from_of_row {w : World} {a : Option Addr} {len cap : Nat} {zs : List Int}
    (h : (a = none ∧ len = 0 ∧ cap = 0 ∧ zs = []) ∨
      ∃ x, a = some x ∧ len ≤ cap ∧ cap ≤ maxLen ∧ zs.length = cap ∧ (∀ i, i < zs.length → w.cell? (x.add i) = some (.int .i64 (zs.getD i 0))) ∧ ∀ n ∈ zs, (Lit.int .i64 n).wf = true) :
    From w (.slice a len cap) len (fun k => zs.getD k 0) := by
  rcases h with ⟨rfl, rfl, rfl, rfl⟩ | ⟨x, rfl, h1, h2, hz, hc, hwf⟩
  · exact .inl ⟨rfl, rfl⟩
  · exact .inr ⟨x, cap, rfl, fun k hk => hc k (by omega)⟩
theorem From.keep {w w' : World} {u : Value} {len : Nat} {c : Nat → Int} (h : From w u len c) (b : Below w.heap.size w w') : From w' u len c := by
  rcases h with h | ⟨ad, cap, e, hc⟩
  · exact .inl h
  · exact .inr ⟨ad, cap, e, fun k hk => (b.cell (lt_of_cell (hc k hk))).trans (hc k hk)⟩
theorem grown_refl (w : World) (row : Option Nat) : w.grownBy w row := ⟨rfl, rfl, rfl, Nat.le_refl _, fun _ _ _ => rfl⟩
theorem app_both {w : World} {ops : Array Oper} {rest : List Oper} {o : Oper} {a : Act} {Q : Exit → Act → World → Prop} (hgd : o.guard = none) (s x : Operand)
    (ho : o.op = .call { callee := .builtin .append, args := #[s, x], argTypes := #[22, 22] })
    (base : Nat) (v : Value) (hs : a.eval s = v) (hown : w.ownsRow base 3 1 v 0 [])
    (u : Value) (len : Nat) (c : Nat → Int) (hx : a.eval x = u) (src : From w u len c) (hn : len ≤ 1000000) (hbase : base ≤ w.heap.size)
    (h : ∀ v' w', w'.ownsRow base 3 1 v' len (cells c len) → w.grownBy w' v.ownBlock → wpList Try.prog ops Q rest (a.put o.dst v') w') : wpList Try.prog ops Q (o :: rest) a w := by
  obtain ⟨i0, hi, hz0, hz1, hz2⟩ := info_parts info3
  rcases src with ⟨rfl, rfl⟩ | ⟨ad, cap, rfl, hc⟩
  · exact wpList_append_own_none hgd s x 22 ho base 3 i0 1 Try.underlying22 hi v 0 [] hs hown hx (h v w hown (grown_refl _ _))
  · exact app_copy hgd s x ho base v hs hown ad len cap c hx hc hn hbase h
end Go.Proofs.Ytlejicikgmanfaa.App
