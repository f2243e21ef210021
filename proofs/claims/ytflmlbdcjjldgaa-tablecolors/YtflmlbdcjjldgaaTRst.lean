/- Plain facts: one colour put into a copy of a list, step by step, in a region that draws its order. No function of the program. Conditions: the list is short. -/
import Derived.Test.YtflmlbdcjjldgaaTRcn
namespace Go.Proofs.Ytflmlbdcjjldgaa.TRst
set_option linter.unusedVariables false
open Go.ChangeShapes Go.WideShapes Go.ChangeAt Go.RowKit Go.Sort Go.Proofs.Ytflmlbdcjjldgaa.Core Go.Proofs.Ytflmlbdcjjldgaa.PNum Go.Proofs.Ytflmlbdcjjldgaa.PGoo Go.Proofs.Ytflmlbdcjjldgaa.Ims Go.Proofs.Ytflmlbdcjjldgaa.IApp Go.Proofs.Ytflmlbdcjjldgaa.TSet Go.Proofs.Ytflmlbdcjjldgaa.TCol Go.Proofs.Ytflmlbdcjjldgaa.TLst Go.Proofs.Ytflmlbdcjjldgaa.TRcn

/-- The list so far, ahead of the first one it is none. -/
def So (w : World) (l : List Nat) (v : Value) : Prop := (v = .slice none 0 0 ∧ l = []) ∨ ∃ b off c, v = .slice (some ⟨b, off, none⟩) l.length c ∧ 0 < l.length ∧ l.length ≤ c ∧ Pixs w b off l.length (fun j => l.getD j 0)
theorem So.below {w w' : World} {l : List Nat} {v : Value} (h : So w l v) (u : Below w.heap.size w w') : So w' l v := by
  rcases h with h | ⟨b, off, c, h1, h2, h4, h3⟩
  · exact .inl h
  · exact .inr ⟨b, off, c, h1, h2, h4, h3.below u⟩
theorem So.lst {w : World} {l : List Nat} {v : Value} (h : So w l v) : ∃ a c, v = .slice a l.length c ∧ Lst w (.slice a l.length c) l.length (fun j => l.getD j 0) := by
  rcases h with ⟨rfl, rfl⟩ | ⟨b, off, c, rfl, _, _, h3⟩
  · exact ⟨_, _, rfl, .inl ⟨rfl, rfl⟩⟩
  · exact ⟨_, _, rfl, lst_of_pixs h3⟩
theorem So.of {w : World} {base m : Nat} {l : List Nat} {v : Value} (h : w.ownsRow base 31 1 v m (vs l)) (hm : m = l.length) (h0 : 0 < m) : So w l v := by
  subst hm
  rcases h.2 with ⟨_, hz⟩ | ⟨g, cap, cur, rfl, _, _, h3, _⟩
  · omega
  · refine .inr ⟨g, 0, cap, rfl, h0, by omega, fun i hi => ?_⟩
    rw [Nat.zero_add, h.cellAt i (by omega), vs_at hi]
theorem own_one {w : World} {base m : Nat} {xs : List Value} {v : Value} (h : w.ownsRow base 31 1 v m xs) (h0 : 0 < m) : ∃ g cap, v = .slice (some ⟨g, 0, none⟩) m cap := by
  rcases h.2 with ⟨_, hz⟩ | ⟨g, cap, cur, rfl, _⟩
  · omega
  · exact ⟨g, cap, rfl⟩
theorem bel_own {wr wa w' : World} {base n : Nat} {v : Value} {xs : List Value} (B : Below wr.heap.size wr wa) (own : wa.ownsRow base 31 1 v n xs) (hb : wr.heap.size ≤ base) (gr : wa.grownBy w' v.ownBlock) : Below wr.heap.size wr w' :=
  B.grown gr B.size (fun k e => Nat.le_trans hb (own.lt k e).1)
theorem news_b (w : World) (x : Int) : ∀ j u, [Value.int .u32 x][j]? = some u → ((w.alloc (.cells #[] 31)).alloc (.cells #[.int .u32 x] 31)).cell? ((⟨w.heap.size + 1, 0, none⟩ : Addr).add j) = some u := by
  have h := cell_one_new (w.alloc (.cells #[] 31)) (.int .u32 x) 31
  rw [show (w.alloc (.cells #[] 31)).heap.size = w.heap.size + 1 by simp] at h
  exact h
theorem news_a (w : World) (x : Int) : ∀ j u, [Value.int .u32 x][j]? = some u → ((w.alloc (.cells #[.int .u32 x] 31)).alloc (.cells #[] 31)).cell? ((⟨w.heap.size, 0, none⟩ : Addr).add j) = some u := by
  intro j u hu
  have h := cell_one_new w (.int .u32 x) 31 j u hu
  exact ((bel_a1 (w.alloc (.cells #[.int .u32 x] 31)) (.cells #[] 31)).cell (lt_of_cell h)).trans h
theorem news_gr {w w' : World} {base n p : Nat} {v : Value} {xs : List Value} {x : Int} (own : w.ownsRow base 31 1 v n xs) (gr : w.grownBy w' v.ownBlock) (hp : v.ownBlock ≠ some p)
    (h : ∀ j u, [Value.int .u32 x][j]? = some u → w.cell? ((⟨p, 0, none⟩ : Addr).add j) = some u) : ∀ j u, [Value.int .u32 x][j]? = some u → w'.cell? ((⟨p, 0, none⟩ : Addr).add j) = some u := by
  intro j u hu
  have hc := h j u hu
  rw [Go.WideShapes.add_plain] at hc ⊢
  exact (World.cell?_of_block (w := w) (a := ⟨p, 0 + j, none⟩) (gr.block p (lt_of_cell hc) (fun e => hp e.symm))).trans hc
theorem step_take {ops : Array Oper} {o : Oper} {a : Act} {w : World} {K : Act → World → Prop} {Q : Exit → Act → World → Prop} {E : Prop}
    (hg : o.guard = none) (s x : Operand) (hop : o.op = Op.call { callee := Callee.builtin Builtin.append, args := #[s, x], argTypes := #[22, 22] })
    (base : Nat) (v : Value) (hs : a.eval s = v) (hown : w.ownsRow base 31 1 v 0 []) (ob oo k c : Nat) (l : List Nat) (hx : a.eval x = .slice (some ⟨ob, oo, none⟩) k c) (hk : k ≤ l.length) (hl : l.length ≤ 1000)
    (P : Pixs w ob oo l.length (fun j => l.getD j 0)) (hb : base ≤ w.heap.size)
    (hK : ∀ v' w', w'.ownsRow base 31 1 v' k (vs (l.take k)) → w.grownBy w' v.ownBlock → base ≤ w'.heap.size → K (a.put o.dst v') w') :
    if Region.wanted o (yielded ops a.tmps) = true then Oper.wp Try.prog o a w K Q else E :=
  step_app hg s x hop base v 0 [] hs hown ⟨ob, oo, none⟩ k c (vs (l.take k)) hx (by rw [vs_len, List.length_take]; omega) (news_take hk P) (vs_one _) (by omega) hb (fun v' w' r1 r2 => hK v' w' (by rwa [Nat.zero_add, List.nil_append] at r1) r2 (Nat.le_trans hb r2.size))
theorem step_one {ops : Array Oper} {o : Oper} {a : Act} {w : World} {K : Act → World → Prop} {Q : Exit → Act → World → Prop} {E : Prop}
    (hg : o.guard = none) (s x : Operand) (hop : o.op = Op.call { callee := Callee.builtin Builtin.append, args := #[s, x], argTypes := #[22, 22] })
    (base : Nat) (v : Value) (n : Nat) (xs : List Value) (hs : a.eval s = v) (hown : w.ownsRow base 31 1 v n xs) (p : Nat) (X : Int) (hx : a.eval x = .slice (some ⟨p, 0, none⟩) 1 1) (hn : n ≤ 1000)
    (h : ∀ j u, [Value.int .u32 X][j]? = some u → w.cell? ((⟨p, 0, none⟩ : Addr).add j) = some u) (hb : base ≤ w.heap.size)
    (hK : ∀ v' w', w'.ownsRow base 31 1 v' (n + 1) (xs ++ [.int .u32 X]) → w.grownBy w' v.ownBlock → base ≤ w'.heap.size → K (a.put o.dst v') w') :
    if Region.wanted o (yielded ops a.tmps) = true then Oper.wp Try.prog o a w K Q else E :=
  step_app hg s x hop base v n xs hs hown ⟨p, 0, none⟩ 1 1 [.int .u32 X] hx rfl h (one_one _ _) (by omega) hb (fun v' w' r1 r2 => hK v' w' r1 r2 (Nat.le_trans hb r2.size))
theorem step_drop {ops : Array Oper} {o : Oper} {a : Act} {w : World} {K : Act → World → Prop} {Q : Exit → Act → World → Prop} {E : Prop}
    (hg : o.guard = none) (s x : Operand) (hop : o.op = Op.call { callee := Callee.builtin Builtin.append, args := #[s, x], argTypes := #[22, 22] })
    (base : Nat) (v : Value) (n : Nat) (xs : List Value) (hs : a.eval s = v) (hown : w.ownsRow base 31 1 v n xs) (ob oo k r c : Nat) (l : List Nat) (hx : a.eval x = .slice (some ⟨ob, oo + k, none⟩) r c) (hk : k + r = l.length) (hl : l.length ≤ 1000) (hn : n ≤ 2000)
    (P : Pixs w ob oo l.length (fun j => l.getD j 0)) (hb : base ≤ w.heap.size)
    (hK : ∀ v' w', w'.ownsRow base 31 1 v' (n + r) (xs ++ vs (l.drop k)) → w.grownBy w' v.ownBlock → base ≤ w'.heap.size → K (a.put o.dst v') w') :
    if Region.wanted o (yielded ops a.tmps) = true then Oper.wp Try.prog o a w K Q else E :=
  step_app hg s x hop base v n xs hs hown ⟨ob, oo + k, none⟩ r c (vs (l.drop k)) hx (by rw [vs_len, List.length_drop]; omega) (news_drop (by omega) P) (vs_one _) (by omega) hb (fun v' w' r1 r2 => hK v' w' r1 r2 (Nat.le_trans hb r2.size))
/-- Behind the last one nothing is left. -/
theorem step_rest {ops : Array Oper} {o : Oper} {a : Act} {w : World} {K : Act → World → Prop} {Q : Exit → Act → World → Prop} {E : Prop}
    (hg : o.guard = none) (s x : Operand) (hop : o.op = Op.call { callee := Callee.builtin Builtin.append, args := #[s, x], argTypes := #[22, 22] })
    (base : Nat) (v : Value) (n : Nat) (xs : List Value) (hs : a.eval s = v) (hown : w.ownsRow base 31 1 v n xs) (ad : Addr) (c : Nat) (hx : a.eval x = .slice (some ad) 0 c) (hn : n ≤ 2000) (hb : base ≤ w.heap.size)
    (hK : ∀ v' w', w'.ownsRow base 31 1 v' n xs → w.grownBy w' v.ownBlock → base ≤ w'.heap.size → K (a.put o.dst v') w') :
    if Region.wanted o (yielded ops a.tmps) = true then Oper.wp Try.prog o a w K Q else E :=
  step_app hg s x hop base v n xs hs hown ad 0 c [] hx rfl (fun j u h => by simp at h) (fun u h => by simp at h) (by omega) hb (fun v' w' r1 r2 => hK v' w' (by rwa [Nat.add_zero, List.append_nil] at r1) r2 (Nat.le_trans hb r2.size))
theorem lit_b {wz w2 : World} {x : Int} (gr : ((wz.alloc (.cells #[] 31)).alloc (.cells #[.int .u32 x] 31)).drew.grownBy w2 (some wz.heap.size)) : ∀ j u, [Value.int .u32 x][j]? = some u → w2.cell? ((⟨wz.heap.size + 1, 0, none⟩ : Addr).add j) = some u := by
  have H := hide ((own_empty wz).alloc (.cells #[.int .u32 x] 31)).drew
  exact news_gr (unhide H) gr (by simp [Value.ownBlock]) (fun j u hu => news_b wz x j u hu)
theorem lit_a {wz w2 : World} {x : Int} (gr : ((wz.alloc (.cells #[.int .u32 x] 31)).alloc (.cells #[] 31)).drew.grownBy w2 (some (wz.heap.size + 1))) : ∀ j u, [Value.int .u32 x][j]? = some u → w2.cell? ((⟨wz.heap.size, 0, none⟩ : Addr).add j) = some u := by
  have H := hide (own_empty1 wz (.cells #[.int .u32 x] 31)).drew
  exact news_gr (unhide H) gr (by simp [Value.ownBlock]) (fun j u hu => news_a wz x j u hu)
theorem a2_size (w : World) (o o' : Obj) : w.heap.size ≤ ((w.alloc o).alloc o').drew.heap.size := (bel_dr (bel_a2 w o o')).size
theorem a2_size1 (w : World) (o o' : Obj) : w.heap.size + 1 ≤ ((w.alloc o).alloc o').drew.heap.size := by
  have h := (bel_dr (bel_a1 (w.alloc o) o')).size
  rwa [show (w.alloc o).heap.size = w.heap.size + 1 by simp] at h
/-- None is put behind. -/
theorem step_none {ops : Array Oper} {o : Oper} {a : Act} {w : World} {K : Act → World → Prop} {Q : Exit → Act → World → Prop} {E : Prop}
    (hg : o.guard = none) (s x : Operand) (hop : o.op = Op.call { callee := Callee.builtin Builtin.append, args := #[s, x], argTypes := #[22, 22] })
    (base : Nat) (v : Value) (n : Nat) (xs : List Value) (hs : a.eval s = v) (hown : w.ownsRow base 31 1 v n xs) (hx : a.eval x = .slice none 0 0)
    (hK : K (a.put o.dst v) w) :
    if Region.wanted o (yielded ops a.tmps) = true then Oper.wp Try.prog o a w K Q else E := by
  have hw : Region.wanted o (yielded ops a.tmps) = true := by simp [Region.wanted, hg]
  rw [if_pos hw]
  obtain ⟨i0, hi, hz0, hz1, hz2⟩ := info_parts info22
  have hrun := run_append_owned_none (P := Try.prog) (w := w) base 22 o.type 31 i0 1 Try.underlying22 hi v n xs hown
  unfold Oper.wp
  simp [execOp, hop, resolve, invoke, builtin, hs, hx, hrun, Result.andThen]
  exact hK
end Go.Proofs.Ytflmlbdcjjldgaa.TRst
