/- Contract: size.merged. Conditions: the slices read as items, and they are few. -/
import Derived.Test.YtcfnbbelbadmkaaItm
namespace Go.Proofs.Ytcfnbbelbadmkaa.Mrg
open Go.ChangeShapes Go.WideShapes Go.ChangeAt Go.RowKit Go.Proofs.Ytcfnbbelbadmkaa.Core Go.Proofs.Ytcfnbbelbadmkaa.Gnd Go.Proofs.Ytcfnbbelbadmkaa.Itm

def mcells (xs : List It) : List Value := xs.flatMap fun x => [.int .i64 x.1, .bool x.2]
theorem mcells_app (xs ys : List It) : mcells (xs ++ ys) = mcells xs ++ mcells ys := by simp [mcells]
theorem mcells_len : ∀ xs : List It, (mcells xs).length = xs.length * 2
  | [] => rfl
  | x :: xs => by
    have := mcells_len xs
    simp [mcells] at *
    omega
theorem at_cons (x : It) (xs : List It) (i : Nat) : at_ (x :: xs) (i + 1) = at_ xs i := by simp [at_]
theorem mcells_at : ∀ (xs : List It) (i : Nat), i < xs.length → (mcells xs)[i * 2]? = some (.int .i64 (at_ xs i).1) ∧ (mcells xs)[i * 2 + 1]? = some (.bool (at_ xs i).2)
  | [], i, h => by simp at h
  | x :: xs, 0, _ => by simp [mcells, at_]
  | x :: xs, i + 1, h => by
    have := mcells_at xs i (by simpa using h)
    rw [at_cons]
    have e : mcells (x :: xs) = .int .i64 x.1 :: .bool x.2 :: mcells xs := by simp [mcells]
    rw [e, show (i + 1) * 2 = i * 2 + 1 + 1 by omega, List.getElem?_cons_succ, List.getElem?_cons_succ, List.getElem?_cons_succ, List.getElem?_cons_succ]
    exact this
theorem mcells_one (xs : List It) : ∀ u ∈ mcells xs, u.oneCell' = true := by
  intro u hu
  simp only [mcells, List.mem_flatMap] at hu
  obtain ⟨x, _, h⟩ := hu
  simp at h
  rcases h with rfl | rfl <;> rfl
theorem own_its {w : World} {base : Nat} {v : Value} {xs : List It} (h : w.ownsRow base 56 2 v xs.length (mcells xs)) : Its w v xs := by
  rcases h.2 with ⟨rfl, h0⟩ | ⟨g, cap, cur, rfl, _, _, h3, _⟩
  · exact .inl ⟨rfl, List.eq_nil_of_length_eq_zero h0⟩
  · refine .inr ⟨g, 0, cap, rfl, h3, fun i hi => ?_⟩
    obtain ⟨m1, m2⟩ := mcells_at xs i hi
    rw [Nat.zero_add, Nat.zero_add]
    exact ⟨(h.cellAt (i * 2) (by omega)).trans m1, (h.cellAt (i * 2 + 1) (by omega)).trans m2⟩
theorem src_of {w : World} {b off : Nat} {xs : List It} (h : ∀ i, i < xs.length → w.cell? ⟨b, off + i * 2, none⟩ = some (.int .i64 (at_ xs i).1) ∧ w.cell? ⟨b, off + (i * 2 + 1), none⟩ = some (.bool (at_ xs i).2)) :
    ∀ j u, (mcells xs)[j]? = some u → w.cell? ((⟨b, off, none⟩ : Addr).add j) = some u := by
  intro j u hu
  have hj : j < xs.length * 2 := by
    have := (List.getElem?_eq_some_iff.1 hu).1
    rwa [mcells_len] at this
  obtain ⟨m1, m2⟩ := mcells_at xs (j / 2) (by omega)
  obtain ⟨h1, h2⟩ := h (j / 2) (by omega)
  rw [add_plain]
  rcases Nat.mod_two_eq_zero_or_one j with e | e
  · rw [show j / 2 * 2 = j by omega] at m1 h1
    rw [m1] at hu
    rw [h1]
    exact hu
  · rw [show j / 2 * 2 + 1 = j by omega] at m2 h2
    rw [m2] at hu
    rw [h2]
    exact hu
theorem app_its {w : World} {ops : Array Oper} {rest : List Oper} {o : Oper} {a : Act} {Q : Exit → Act → World → Prop} (hgd : o.guard = none) (s x : Operand)
    (ho : o.op = .call { callee := .builtin .append, args := #[s, x], argTypes := #[42, 42] })
    (base : Nat) (v : Value) (ys : List It) (hs : a.eval s = v) (hown : w.ownsRow base 56 2 v ys.length (mcells ys))
    (u : Value) (xs : List It) (hx : a.eval x = u) (src : Its w u xs) (hn : ys.length + xs.length ≤ 1000000) (hbase : base ≤ w.heap.size)
    (h : ∀ v' w', w'.ownsRow base 56 2 v' (ys ++ xs).length (mcells (ys ++ xs)) → w.grownBy w' v.ownBlock → wpList Try.prog ops Q rest (a.put o.dst v') w') : wpList Try.prog ops Q (o :: rest) a w := by
  obtain ⟨i0, hi, hz0, hz1, hz2⟩ := info_parts info56
  rcases src with ⟨rfl, rfl⟩ | ⟨b, off, cap, rfl, _, hc⟩
  · refine wpList_append_own_none hgd s x 42 ho base 56 i0 2 Try.underlying42 hi v ys.length (mcells ys) hs hown hx (h v w ?_ ⟨rfl, rfl, rfl, Nat.le_refl _, fun _ _ _ => rfl⟩)
    rw [List.append_nil]
    exact hown
  · refine wpList_append_own w hgd s x 42 ho base 56 i0 _ 2 16 Try.underlying42 hi hz0 hz1 hz2 rfl (by decide) v ys.length (mcells ys) hs hown ⟨b, off, none⟩ xs.length cap (mcells xs) hx (mcells_len xs) (src_of hc) (mcells_one xs) (by unfold maxLen; omega) (by omega) hbase (fun v' w' h1 h2 _ => ?_)
    rw [← mcells_app, ← List.length_append] at h1
    exact h v' w' h1 h2
theorem step_it {ops : Array Oper} {o : Oper} {a : Act} {w : World} {K : Act → World → Prop} {Q : Exit → Act → World → Prop} {E : Prop}
    (hg : o.guard = none) (s x : Operand) (hop : o.op = Op.call { callee := Callee.builtin Builtin.append, args := #[s, x], argTypes := #[42, 42] })
    (base : Nat) (v : Value) (ys : List It) (hs : a.eval s = v) (hown : w.ownsRow base 56 2 v ys.length (mcells ys)) (ad : Addr) (c : Nat) (y : It) (hx : a.eval x = .slice (some ad) 1 c)
    (hnews : ∀ j u, (mcells [y])[j]? = some u → w.cell? (ad.add j) = some u) (hn : ys.length + 1 ≤ 1000000) (hbase : base ≤ w.heap.size)
    (hK : ∀ v' w', w'.ownsRow base 56 2 v' (ys ++ [y]).length (mcells (ys ++ [y])) → w.grownBy w' v.ownBlock → K (a.put o.dst v') w') :
    if Region.wanted o (yielded ops a.tmps) = true then Oper.wp Try.prog o a w K Q else E := by
  have hw : Region.wanted o (yielded ops a.tmps) = true := by simp [Region.wanted, hg]
  rw [if_pos hw]
  obtain ⟨i0, hi, hz0, hz1, hz2⟩ := info_parts info56
  obtain ⟨v', w', hr, r1, r2, _⟩ := run_append_own (P := Try.prog) w base 42 o.type 56 i0 _ 2 16 Try.underlying42 hi hz0 hz1 hz2 rfl (by decide) v ys.length (mcells ys) hown ad 1 c (mcells [y]) (mcells_len [y]) hnews (mcells_one _) (by unfold maxLen; omega) (by omega) hbase
  unfold Oper.wp
  simp [execOp, hop, resolve, invoke, builtin, hs, hx, hr, Result.andThen]
  rw [← mcells_app] at r1
  refine hK v' w' ?_ r2
  rw [List.length_append]
  exact r1
def leI (x y : It) : Bool := decide (x.1 ≤ y.1)
/-- What is merged so far. -/
structure Mer (w wr : World) (r : Value) (done : List It) : Prop where
  own : wr.ownsRow w.heap.size 56 2 r done.length (mcells done)
  bel : Below w.heap.size w wr
theorem Mer.app {w wr w1 : World} {r r1 : Value} {done : List It} {y : It} {o : Obj} (h : Mer w wr r done) (own : w1.ownsRow w.heap.size 56 2 r1 (done ++ [y]).length (mcells (done ++ [y]))) (gr : (wr.alloc o).grownBy w1 r.ownBlock) : Mer w w1 r1 (done ++ [y]) :=
  ⟨own, (h.bel.alloc h.bel.size o).grown gr (by have := h.bel.size; simp; omega) (fun k e => (h.own.lt k e).1)⟩
theorem below_drewN {B : Nat} {w wr : World} (h : Below B w wr) (q : Nat) : Below B w (wr.drewN q) := ⟨h.os, h.tape, h.output, h.size, h.block⟩
theorem Mer.appd {w wr w1 : World} {r r1 : Value} {done : List It} {y : It} {o : Obj} {q : Nat} (h : Mer w wr r done) (own : w1.ownsRow w.heap.size 56 2 r1 (done ++ [y]).length (mcells (done ++ [y]))) (gr : ((wr.drewN q).alloc o).grownBy w1 r.ownBlock) : Mer w w1 r1 (done ++ [y]) :=
  Mer.app (wr := wr.drewN q) ⟨h.own, below_drewN h.bel q⟩ own gr
def vl : Value → Nat
  | .slice _ n _ => n
  | _ => 0
theorem it_src (w : World) (x : It) : ∀ j u, (mcells [x])[j]? = some u → (w.alloc (.cells #[.int .i64 x.1, .bool x.2] 56)).cell? ((⟨w.heap.size, 0, none⟩ : Addr).add j) = some u := by
  intro j u hu
  rw [add_plain, Nat.zero_add]
  match j, hu with
  | 0, hu => simp [mcells] at hu; subst hu; simp
  | 1, hu => simp [mcells] at hu; subst hu; simp
theorem at_head (x : It) (xs : List It) : at_ (x :: xs) 0 = x := rfl
theorem its_cons {w : World} {v : Value} {x : It} {xs : List It} (h : Its w v (x :: xs)) : ∃ b off cap, v = .slice (some ⟨b, off, none⟩) (xs.length + 1) cap ∧ xs.length + 1 ≤ cap ∧ w.cell? ⟨b, off, none⟩ = some (.int .i64 x.1) ∧ w.cell? ⟨b, off + 1, none⟩ = some (.bool x.2) ∧ ∀ p, (if cap = 1 then some (⟨b, off, none⟩ : Addr) else some ⟨b, off + 2, none⟩) = p → Its w (.slice p xs.length (cap - 1)) xs := by
  rcases h with ⟨_, h⟩ | ⟨b, off, cap, rfl, hl, hc⟩
  · cases h
  · obtain ⟨h1, h2⟩ := hc 0 (by simp)
    simp only [List.length_cons] at hl
    refine ⟨b, off, cap, rfl, hl, h1, h2, fun p hp => ?_⟩
    subst hp
    by_cases e : cap = 1
    · have h0 : xs = [] := List.eq_nil_of_length_eq_zero (by omega)
      subst h0
      rw [if_pos e]
      exact .inr ⟨b, off, cap - 1, rfl, Nat.zero_le _, fun _ h => absurd h (Nat.not_lt_zero _)⟩
    · rw [if_neg e]
      refine .inr ⟨b, off + 2, cap - 1, rfl, by omega, fun i hi => ?_⟩
      obtain ⟨h3, h4⟩ := hc (i + 1) (by simp; omega)
      rw [at_cons] at h3 h4
      rw [show off + 2 + i * 2 = off + (i + 1) * 2 by omega, show off + 2 + (i * 2 + 1) = off + ((i + 1) * 2 + 1) by omega]
      exact ⟨h3, h4⟩
set_option maxHeartbeats 2000000 in
theorem mrg23 (va vb : Value) (xs ys : List It) (w : World) (sa : Its w va xs) (sb : Its w vb ys) (hn : xs.length + ys.length ≤ 100000) :
    Calls Try.prog 23 #[va, vb] w fun e w' => ∃ r, e = .returned r ∧ Its w' r (xs.merge ys leI) ∧ Below w.heap.size w w' := by
  have SA := hide sa
  have SB := hide sb
  obtain ⟨pa, ca, ea⟩ : ∃ a cap, va = .slice a xs.length cap := by
    rcases sa with ⟨e, e2⟩ | ⟨b, off, cap, e, _⟩
    · exact ⟨none, 0, by rw [e, e2]; rfl⟩
    · exact ⟨_, cap, e⟩
  obtain ⟨pb, cb, eb⟩ : ∃ a cap, vb = .slice a ys.length cap := by
    rcases sb with ⟨e, e2⟩ | ⟨b, off, cap, e, _⟩
    · exact ⟨none, 0, by rw [e, e2]; rfl⟩
    · exact ⟨_, cap, e⟩
  subst ea; subst eb
  have LEN := hide (List.length_merge leI xs ys)
  clear sa sb
  generalize hla : xs.length = la at *
  generalize hlb : ys.length = lb at *
  have HLA := hide hla
  have HLB := hide hlb
  clear hla hlb
  have hmk : ∀ w, (Instr.makeSlice 42 (.int .i64 0) (.int .i64 ((la : Int) + (lb : Int)))).run Try.prog w = .ok (.slice (some ⟨w.heap.size, 0, none⟩) 0 (la + lb)) (w.alloc (.cells (irow (fun _ => 0) (fun _ => false) (la + lb)) 56)) := fun w => by
    have := make_room w (la + lb) (by omega)
    rw [Int.natCast_add] at this
    exact this
  go_enter Try.func23, Try.ntmps23
  go_wp2
  go_loopw [0, 1, 5] (fun va' vb' r wr => ∃ xs' ys' done, Its w va' xs' ∧ Its w vb' ys' ∧ Mer w wr r done ∧ done ++ xs'.merge ys' leI = xs.merge ys leI) (fun va' vb' _ _ => vl va' + vl vb')
  case atStart =>
    refine ⟨xs, ys, [], unhide SA, unhide SB, ⟨?_, (Below.refl _ w).alloc (Nat.le_refl _) _⟩, rfl⟩
    exact World.ownsRow_made w _ _ (Nat.le_refl _) (by unfold maxLen; omega) (irow_size _ _ _)
  case round =>
    clear SA SB
    obtain ⟨xs', ys', done, sa, sb, mer, eq⟩ := hrel
    have MER := hide mer
    have EQ := hide eq
    have hdl : done.length + (xs'.length + ys'.length) = la + lb := by
      have := congrArg List.length eq
      rw [List.length_append, List.length_merge, unhide LEN] at this
      exact this
    have HDL := hide hdl
    cases xs' with
    | nil =>
      rcases sa with ⟨rfl, _⟩ | ⟨b, off, cp, rfl, _⟩
      · have sa := Its.nil w
        have SA := hide sa
        have SB := hide sb
        have HB := hide mer.bel
        clear sa sb mer eq
        go_wp2_with (first | (at_builtin; refine app_its rfl (.tmp 45) (.tmp 46) rfl w.heap.size u5 done rfl (unhide MER).own _ [] rfl ((unhide SA).keep (unhide HB)) (by simp only [List.length_nil] at hdl ⊢; omega) (unhide HB).size ?_; intro v1 w1 own1 gr1; have M1 := hide (show Mer w w1 v1 (done ++ []) from ⟨own1, (unhide HB).grown gr1 (unhide HB).size (fun k e => ((unhide MER).own.lt k e).1)⟩); clear own1 gr1) | (at_builtin; refine app_its rfl (.tmp 47) (.tmp 48) rfl w.heap.size v1 (done ++ []) rfl (unhide M1).own _ ys' rfl ((unhide SB).keep (unhide M1).bel) (by rw [List.length_append]; simp only [List.length_nil] at hdl ⊢; omega) (unhide M1).bel.size ?_; intro v2 w2 own2 gr2; have M2 := hide (show Mer w w2 v2 (done ++ [] ++ ys') from ⟨own2, (unhide M1).bel.grown gr2 (unhide M1).bel.size (fun k e => ((unhide M1).own.lt k e).1)⟩); clear own2 gr2) | fail)
        go_ret
        refine ⟨_, rfl, ?_, (unhide M2).bel⟩
        have h := own_its (unhide M2).own
        rw [List.append_assoc] at h
        have he := unhide EQ
        first
          | rw [List.nil_merge] at he
          | rw [List.merge_right] at he
        rw [← he]
        simpa using h
      · have sa : Its w (.slice (some ⟨b, off, none⟩) 0 cp) [] := .inr ⟨b, off, cp, rfl, Nat.zero_le _, fun _ h => absurd h (Nat.not_lt_zero _)⟩
        have SA := hide sa
        have SB := hide sb
        have HB := hide mer.bel
        clear sa sb mer eq
        go_wp2_with (first | (at_builtin; refine app_its rfl (.tmp 45) (.tmp 46) rfl w.heap.size u5 done rfl (unhide MER).own _ [] rfl ((unhide SA).keep (unhide HB)) (by simp only [List.length_nil] at hdl ⊢; omega) (unhide HB).size ?_; intro v1 w1 own1 gr1; have M1 := hide (show Mer w w1 v1 (done ++ []) from ⟨own1, (unhide HB).grown gr1 (unhide HB).size (fun k e => ((unhide MER).own.lt k e).1)⟩); clear own1 gr1) | (at_builtin; refine app_its rfl (.tmp 47) (.tmp 48) rfl w.heap.size v1 (done ++ []) rfl (unhide M1).own _ ys' rfl ((unhide SB).keep (unhide M1).bel) (by rw [List.length_append]; simp only [List.length_nil] at hdl ⊢; omega) (unhide M1).bel.size ?_; intro v2 w2 own2 gr2; have M2 := hide (show Mer w w2 v2 (done ++ [] ++ ys') from ⟨own2, (unhide M1).bel.grown gr2 (unhide M1).bel.size (fun k e => ((unhide M1).own.lt k e).1)⟩); clear own2 gr2) | fail)
        go_ret
        refine ⟨_, rfl, ?_, (unhide M2).bel⟩
        have h := own_its (unhide M2).own
        rw [List.append_assoc] at h
        have he := unhide EQ
        first
          | rw [List.nil_merge] at he
          | rw [List.merge_right] at he
        rw [← he]
        simpa using h
    | cons x xs' =>
      cases ys' with
      | nil =>
        have sa0 := sa
        obtain ⟨b1, o1, cp1, rfl, hc1, _⟩ := its_cons sa0
        simp only [List.length_cons] at hdl
        rcases sb with ⟨rfl, _⟩ | ⟨b, off, cp, rfl, _⟩
        · have sb := Its.nil w
          clear sa0
          have SA := hide sa
          have SB := hide sb
          have HB := hide mer.bel
          clear sa sb mer eq
          go_wp2_with (first | (at_builtin; refine app_its rfl (.tmp 45) (.tmp 46) rfl w.heap.size u5 done rfl (unhide MER).own _ (x :: xs') rfl ((unhide SA).keep (unhide HB)) (by simp only [List.length_nil, List.length_cons] at hdl ⊢; omega) (unhide HB).size ?_; intro v1 w1 own1 gr1; have M1 := hide (show Mer w w1 v1 (done ++ (x :: xs')) from ⟨own1, (unhide HB).grown gr1 (unhide HB).size (fun k e => ((unhide MER).own.lt k e).1)⟩); clear own1 gr1) | (at_builtin; refine app_its rfl (.tmp 47) (.tmp 48) rfl w.heap.size v1 (done ++ (x :: xs')) rfl (unhide M1).own _ [] rfl ((unhide SB).keep (unhide M1).bel) (by rw [List.length_append]; simp only [List.length_nil, List.length_cons] at hdl ⊢; omega) (unhide M1).bel.size ?_; intro v2 w2 own2 gr2; have M2 := hide (show Mer w w2 v2 (done ++ (x :: xs') ++ []) from ⟨own2, (unhide M1).bel.grown gr2 (unhide M1).bel.size (fun k e => ((unhide M1).own.lt k e).1)⟩); clear own2 gr2) | fail)
          go_ret
          refine ⟨_, rfl, ?_, (unhide M2).bel⟩
          have h := own_its (unhide M2).own
          rw [List.append_assoc] at h
          have he := unhide EQ
          first
            | rw [List.nil_merge] at he
            | rw [List.merge_right] at he
          rw [← he]
          simpa using h
        · have sb : Its w (.slice (some ⟨b, off, none⟩) 0 cp) [] := .inr ⟨b, off, cp, rfl, Nat.zero_le _, fun _ h => absurd h (Nat.not_lt_zero _)⟩
          clear sa0
          have SA := hide sa
          have SB := hide sb
          have HB := hide mer.bel
          clear sa sb mer eq
          go_wp2_with (first | (at_builtin; refine app_its rfl (.tmp 45) (.tmp 46) rfl w.heap.size u5 done rfl (unhide MER).own _ (x :: xs') rfl ((unhide SA).keep (unhide HB)) (by simp only [List.length_nil, List.length_cons] at hdl ⊢; omega) (unhide HB).size ?_; intro v1 w1 own1 gr1; have M1 := hide (show Mer w w1 v1 (done ++ (x :: xs')) from ⟨own1, (unhide HB).grown gr1 (unhide HB).size (fun k e => ((unhide MER).own.lt k e).1)⟩); clear own1 gr1) | (at_builtin; refine app_its rfl (.tmp 47) (.tmp 48) rfl w.heap.size v1 (done ++ (x :: xs')) rfl (unhide M1).own _ [] rfl ((unhide SB).keep (unhide M1).bel) (by rw [List.length_append]; simp only [List.length_nil, List.length_cons] at hdl ⊢; omega) (unhide M1).bel.size ?_; intro v2 w2 own2 gr2; have M2 := hide (show Mer w w2 v2 (done ++ (x :: xs') ++ []) from ⟨own2, (unhide M1).bel.grown gr2 (unhide M1).bel.size (fun k e => ((unhide M1).own.lt k e).1)⟩); clear own2 gr2) | fail)
          go_ret
          refine ⟨_, rfl, ?_, (unhide M2).bel⟩
          have h := own_its (unhide M2).own
          rw [List.append_assoc] at h
          have he := unhide EQ
          first
            | rw [List.nil_merge] at he
            | rw [List.merge_right] at he
          rw [← he]
          simpa using h
      | cons y ys' =>
        obtain ⟨b1, o1, cp1, rfl, hc1, d1, d2, t1⟩ := its_cons sa
        obtain ⟨b2, o2, cp2, rfl, hc2, d3, d4, t2⟩ := its_cons sb
        have e1 := (mer.bel.cell (p := ⟨b1, o1, none⟩) (lt_of_cell d1)).trans d1
        have e2 := (mer.bel.cell (p := ⟨b1, o1 + 1, none⟩) (lt_of_cell d2)).trans d2
        have e3 := (mer.bel.cell (p := ⟨b2, o2, none⟩) (lt_of_cell d3)).trans d3
        have e4 := (mer.bel.cell (p := ⟨b2, o2 + 1, none⟩) (lt_of_cell d4)).trans d4
        have T1 := hide t1
        have T2 := hide t2
        have SA := hide sa
        have SB := hide sb
        have hlt1 := lt_of_cell e1
        have hlt3 := lt_of_cell e3
        clear d1 d2 d3 d4 t1 t2 sa sb mer eq
        simp only [List.length_cons] at hdl
        generalize hm1 : xs'.length = m1 at *
        generalize hm2 : ys'.length = m2 at *
        have HM1 := hide hm1
        have HM2 := hide hm2
        clear hm1 hm2
        obtain ⟨x1, x2⟩ := x
        obtain ⟨y1, y2⟩ := y
        simp only at e1 e2 e3 e4
        by_cases hle : x1 ≤ y1
        · have hle' : ¬ y1 < x1 := by omega
          have NX := hide (show (done ++ [(x1, x2)]) ++ xs'.merge ((y1, y2) :: ys') leI = xs.merge ys leI from by
            rw [← unhide EQ, List.cons_merge_cons_pos leI _ _ (decide_eq_true (by exact hle))]
            simp)
          go_wp2
          go_quiet ((fail))
          rename_i nq
          have M1 := hide (show Mer w (wr.drewN nq) u5 done from ⟨(unhide MER).own, below_drewN (unhide MER).bel nq⟩)
          have q1 : (wr.drewN nq).cell? ⟨b1, o1, none⟩ = some (.int .i64 x1) := e1
          have q2 : (wr.drewN nq).cell? ⟨b1, o1 + 1, none⟩ = some (.bool x2) := e2
          have q3 : (wr.drewN nq).cell? ⟨b2, o2, none⟩ = some (.int .i64 y1) := e3
          have q4 : (wr.drewN nq).cell? ⟨b2, o2 + 1, none⟩ = some (.bool y2) := e4
          clear e1 e2 e3 e4 hlt1 hlt3 MER
          generalize wr.drewN nq = wq at *
          have hlt1 := lt_of_cell q1
          have hlt3 := lt_of_cell q3
          go_wp2
          have hone : (1 : Int) ≤ (m1 : Int) + 1 := by omega
          by_cases hcp : cp1 = 1
          · subst hcp
            go_region_law (refine step_it rfl (.tmp 29) (.tmp 33) rfl w.heap.size u5 done (by simp [Act.eval]) ((unhide M1).own.drew.alloc _) ⟨wq.heap.size, 0, none⟩ 1 (x1, x2) (by simp [Act.eval]) (it_src _ _) (by omega) (by have := (unhide M1).bel.size; simp; omega) ?_; intro v1 w1 own1 gr1; have M2 := hide (Mer.appd (q := 1) (unhide M1) own1 gr1); clear own1 gr1)
            go_simp
            go_wp2
            go_roundw
            case rel => exact ⟨xs', (y1, y2) :: ys', done ++ [(x1, x2)], by have := unhide T1 _ rfl; rw [show m1 = 0 by omega] at this; simpa using this, unhide SB, unhide M2, unhide NX⟩
            case measure => simp [vl]
          · skip
            go_region_law (refine step_it rfl (.tmp 29) (.tmp 33) rfl w.heap.size u5 done (by simp [Act.eval]) ((unhide M1).own.drew.alloc _) ⟨wq.heap.size, 0, none⟩ 1 (x1, x2) (by simp [Act.eval]) (it_src _ _) (by omega) (by have := (unhide M1).bel.size; simp; omega) ?_; intro v1 w1 own1 gr1; have M2 := hide (Mer.appd (q := 1) (unhide M1) own1 gr1); clear own1 gr1)
            go_simp
            go_wp2
            go_roundw
            case rel => exact ⟨xs', (y1, y2) :: ys', done ++ [(x1, x2)], by have := unhide T1 _ rfl; rw [if_neg hcp] at this; exact this, unhide SB, unhide M2, unhide NX⟩
            case measure => simp [vl]
        · have hle' : decide (x1 ≤ y1) = false := decide_eq_false (by omega)
          have NX := hide (show (done ++ [(y1, y2)]) ++ ((x1, x2) :: xs').merge ys' leI = xs.merge ys leI from by
            rw [← unhide EQ, List.cons_merge_cons_neg leI _ _ (by simp [leI]; omega)]
            simp)
          go_wp2
          go_quiet ((fail))
          rename_i nq
          have M1 := hide (show Mer w (wr.drewN nq) u5 done from ⟨(unhide MER).own, below_drewN (unhide MER).bel nq⟩)
          have q1 : (wr.drewN nq).cell? ⟨b1, o1, none⟩ = some (.int .i64 x1) := e1
          have q2 : (wr.drewN nq).cell? ⟨b1, o1 + 1, none⟩ = some (.bool x2) := e2
          have q3 : (wr.drewN nq).cell? ⟨b2, o2, none⟩ = some (.int .i64 y1) := e3
          have q4 : (wr.drewN nq).cell? ⟨b2, o2 + 1, none⟩ = some (.bool y2) := e4
          clear e1 e2 e3 e4 hlt1 hlt3 MER
          generalize wr.drewN nq = wq at *
          have hlt1 := lt_of_cell q1
          have hlt3 := lt_of_cell q3
          go_wp2
          have hone : (1 : Int) ≤ (m2 : Int) + 1 := by omega
          by_cases hcp : cp2 = 1
          · subst hcp
            go_region_law (refine step_it rfl (.tmp 37) (.tmp 41) rfl w.heap.size u5 done (by simp [Act.eval]) ((unhide M1).own.drew.alloc _) ⟨wq.heap.size, 0, none⟩ 1 (y1, y2) (by simp [Act.eval]) (it_src _ _) (by omega) (by have := (unhide M1).bel.size; simp; omega) ?_; intro v1 w1 own1 gr1; have M2 := hide (Mer.appd (q := 1) (unhide M1) own1 gr1); clear own1 gr1)
            go_simp
            go_wp2
            go_roundw
            case rel => exact ⟨(x1, x2) :: xs', ys', done ++ [(y1, y2)], unhide SA, by have := unhide T2 _ rfl; rw [show m2 = 0 by omega] at this; simpa using this, unhide M2, unhide NX⟩
            case measure => simp [vl]
          · skip
            go_region_law (refine step_it rfl (.tmp 37) (.tmp 41) rfl w.heap.size u5 done (by simp [Act.eval]) ((unhide M1).own.drew.alloc _) ⟨wq.heap.size, 0, none⟩ 1 (y1, y2) (by simp [Act.eval]) (it_src _ _) (by omega) (by have := (unhide M1).bel.size; simp; omega) ?_; intro v1 w1 own1 gr1; have M2 := hide (Mer.appd (q := 1) (unhide M1) own1 gr1); clear own1 gr1)
            go_simp
            go_wp2
            go_roundw
            case rel => exact ⟨(x1, x2) :: xs', ys', done ++ [(y1, y2)], unhide SA, by have := unhide T2 _ rfl; rw [if_neg hcp] at this; exact this, unhide M2, unhide NX⟩
            case measure => simp [vl]
end Go.Proofs.Ytcfnbbelbadmkaa.Mrg
