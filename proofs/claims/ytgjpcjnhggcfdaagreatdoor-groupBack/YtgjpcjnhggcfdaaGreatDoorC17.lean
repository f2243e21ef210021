/-
  Contract: size.merged. Conditions: the slices read as items, and they are few.
  Plain facts: rows of items, joined two by two; what the first of them cost, and how many are symbols. Conditions: as each says.
  Plain facts: how many symbols are taken of each row; what they cost, how wide they are. Conditions: as each says.
  Contract: size.shares. Conditions: the slice reads as items that rise, and they are few.
-/
import Derived.Test.YtgjpcjnhggcfdaaGreatDoorC16
namespace Go.Proofs.YtgjpcjnhggcfdaaGreatDoor.ZMrg
open Go.ChangeShapes Go.WideShapes Go.ChangeAt Go.RowKit Go.Proofs.YtgjpcjnhggcfdaaGreatDoor.Core Go.Proofs.YtgjpcjnhggcfdaaGreatDoor.Gnd Go.Proofs.YtgjpcjnhggcfdaaGreatDoor.ZItm

def mcells (xs : List It) : List Value := xs.flatMap fun x => [.int .i64 x.1, .bool x.2]
theorem mcells_app (xs ys : List It) : mcells (xs ++ ys) = mcells xs ++ mcells ys := by simp [mcells]
theorem mcells_len : ∀ xs : List It, (mcells xs).length = xs.length * 2
  | [] => rfl
  | x :: xs => by
    have := mcells_len xs
    simp [mcells] at *
    omega
theorem at_cons (x : It) (xs : List It) (i : Nat) : at_ (x :: xs) (i + 1) = at_ xs i := by simp [at_]
theorem mcells_at : ∀ (xs : List It) (i : Nat), i < xs.length → (mcells xs)[i * 2]? = some (.int .i64 (at_ xs i).1) ∧ (mcells xs)[i * 2 + 1]? = some (.bool (at_ xs i).2)
  | [], i, h => by simp at h
  | x :: xs, 0, _ => by simp [mcells, at_]
  | x :: xs, i + 1, h => by
    have := mcells_at xs i (by simpa using h)
    rw [at_cons]
    have e : mcells (x :: xs) = .int .i64 x.1 :: .bool x.2 :: mcells xs := by simp [mcells]
    rw [e, show (i + 1) * 2 = i * 2 + 1 + 1 by omega, List.getElem?_cons_succ, List.getElem?_cons_succ, List.getElem?_cons_succ, List.getElem?_cons_succ]
    exact this
theorem mcells_one (xs : List It) : ∀ u ∈ mcells xs, u.oneCell' = true := by
  intro u hu
  simp only [mcells, List.mem_flatMap] at hu
  obtain ⟨x, _, h⟩ := hu
  simp at h
  rcases h with rfl | rfl <;> rfl
theorem own_its {w : World} {base : Nat} {v : Value} {xs : List It} (h : w.ownsRow base 163 2 v xs.length (mcells xs)) : Its w v xs := by
  rcases h.2 with ⟨rfl, h0⟩ | ⟨g, cap, cur, rfl, _, _, h3, _⟩
  · exact .inl ⟨rfl, List.eq_nil_of_length_eq_zero h0⟩
  · refine .inr ⟨g, 0, cap, rfl, h3, fun i hi => ?_⟩
    obtain ⟨m1, m2⟩ := mcells_at xs i hi
    rw [Nat.zero_add, Nat.zero_add]
    exact ⟨(h.cellAt (i * 2) (by omega)).trans m1, (h.cellAt (i * 2 + 1) (by omega)).trans m2⟩
theorem src_of {w : World} {b off : Nat} {xs : List It} (h : ∀ i, i < xs.length → w.cell? ⟨b, off + i * 2, none⟩ = some (.int .i64 (at_ xs i).1) ∧ w.cell? ⟨b, off + (i * 2 + 1), none⟩ = some (.bool (at_ xs i).2)) :
    ∀ j u, (mcells xs)[j]? = some u → w.cell? ((⟨b, off, none⟩ : Addr).add j) = some u := by
  intro j u hu
  have hj : j < xs.length * 2 := by
    have := (List.getElem?_eq_some_iff.1 hu).1
    rwa [mcells_len] at this
  obtain ⟨m1, m2⟩ := mcells_at xs (j / 2) (by omega)
  obtain ⟨h1, h2⟩ := h (j / 2) (by omega)
  rw [add_plain]
  rcases Nat.mod_two_eq_zero_or_one j with e | e
  · rw [show j / 2 * 2 = j by omega] at m1 h1
    rw [m1] at hu
    rw [h1]
    exact hu
  · rw [show j / 2 * 2 + 1 = j by omega] at m2 h2
    rw [m2] at hu
    rw [h2]
    exact hu
theorem app_its {w : World} {ops : Array Oper} {rest : List Oper} {o : Oper} {a : Act} {Q : Exit → Act → World → Prop} (hgd : o.guard = none) (s x : Operand)
    (ho : o.op = .call { callee := .builtin .append, args := #[s, x], argTypes := #[156, 156] })
    (base : Nat) (v : Value) (ys : List It) (hs : a.eval s = v) (hown : w.ownsRow base 163 2 v ys.length (mcells ys))
    (u : Value) (xs : List It) (hx : a.eval x = u) (src : Its w u xs) (hn : ys.length + xs.length ≤ 1000000) (hbase : base ≤ w.heap.size)
    (h : ∀ v' w', w'.ownsRow base 163 2 v' (ys ++ xs).length (mcells (ys ++ xs)) → w.grownBy w' v.ownBlock → wpList Tryz.prog ops Q rest (a.put o.dst v') w') : wpList Tryz.prog ops Q (o :: rest) a w := by
  obtain ⟨i0, hi, hz0, hz1, hz2⟩ := info_parts info56
  rcases src with ⟨rfl, rfl⟩ | ⟨b, off, cap, rfl, _, hc⟩
  · refine wpList_append_own_none hgd s x 156 ho base 163 i0 2 Tryz.underlying156 hi v ys.length (mcells ys) hs hown hx (h v w ?_ ⟨rfl, rfl, rfl, Nat.le_refl _, fun _ _ _ => rfl⟩)
    rw [List.append_nil]
    exact hown
  · refine wpList_append_own w hgd s x 156 ho base 163 i0 _ 2 16 Tryz.underlying156 hi hz0 hz1 hz2 rfl (by decide) v ys.length (mcells ys) hs hown ⟨b, off, none⟩ xs.length cap (mcells xs) hx (mcells_len xs) (src_of hc) (mcells_one xs) (by unfold maxLen; omega) (by omega) hbase (fun v' w' h1 h2 _ => ?_)
    rw [← mcells_app, ← List.length_append] at h1
    exact h v' w' h1 h2
theorem step_it {ops : Array Oper} {o : Oper} {a : Act} {w : World} {K : Act → World → Prop} {Q : Exit → Act → World → Prop} {E : Prop}
    (hg : o.guard = none) (s x : Operand) (hop : o.op = Op.call { callee := Callee.builtin Builtin.append, args := #[s, x], argTypes := #[156, 156] })
    (base : Nat) (v : Value) (ys : List It) (hs : a.eval s = v) (hown : w.ownsRow base 163 2 v ys.length (mcells ys)) (ad : Addr) (c : Nat) (y : It) (hx : a.eval x = .slice (some ad) 1 c)
    (hnews : ∀ j u, (mcells [y])[j]? = some u → w.cell? (ad.add j) = some u) (hn : ys.length + 1 ≤ 1000000) (hbase : base ≤ w.heap.size)
    (hK : ∀ v' w', w'.ownsRow base 163 2 v' (ys ++ [y]).length (mcells (ys ++ [y])) → w.grownBy w' v.ownBlock → K (a.put o.dst v') w') :
    if Region.wanted o (yielded ops a.tmps) = true then Oper.wp Tryz.prog o a w K Q else E := by
  have hw : Region.wanted o (yielded ops a.tmps) = true := by simp [Region.wanted, hg]
  rw [if_pos hw]
  obtain ⟨i0, hi, hz0, hz1, hz2⟩ := info_parts info56
  obtain ⟨v', w', hr, r1, r2, _⟩ := run_append_own (P := Tryz.prog) w base 156 o.type 163 i0 _ 2 16 Tryz.underlying156 hi hz0 hz1 hz2 rfl (by decide) v ys.length (mcells ys) hown ad 1 c (mcells [y]) (mcells_len [y]) hnews (mcells_one _) (by unfold maxLen; omega) (by omega) hbase
  unfold Oper.wp
  simp [execOp, hop, resolve, invoke, builtin, hs, hx, hr, Result.andThen]
  rw [← mcells_app] at r1
  refine hK v' w' ?_ r2
  rw [List.length_append]
  exact r1
def leI (x y : It) : Bool := decide (x.1 ≤ y.1)
/-- What is merged so far. -/
structure Mer (w wr : World) (r : Value) (done : List It) : Prop where
  own : wr.ownsRow w.heap.size 163 2 r done.length (mcells done)
  bel : Below w.heap.size w wr
theorem Mer.app {w wr w1 : World} {r r1 : Value} {done : List It} {y : It} {o : Obj} (h : Mer w wr r done) (own : w1.ownsRow w.heap.size 163 2 r1 (done ++ [y]).length (mcells (done ++ [y]))) (gr : (wr.alloc o).grownBy w1 r.ownBlock) : Mer w w1 r1 (done ++ [y]) :=
  ⟨own, (h.bel.alloc h.bel.size o).grown gr (by have := h.bel.size; simp; omega) (fun k e => (h.own.lt k e).1)⟩
theorem below_drewN {B : Nat} {w wr : World} (h : Below B w wr) (q : Nat) : Below B w (wr.drewN q) := ⟨h.os, h.tape, h.output, h.size, h.block⟩
theorem Mer.appd {w wr w1 : World} {r r1 : Value} {done : List It} {y : It} {o : Obj} {q : Nat} (h : Mer w wr r done) (own : w1.ownsRow w.heap.size 163 2 r1 (done ++ [y]).length (mcells (done ++ [y]))) (gr : ((wr.drewN q).alloc o).grownBy w1 r.ownBlock) : Mer w w1 r1 (done ++ [y]) :=
  Mer.app (wr := wr.drewN q) ⟨h.own, below_drewN h.bel q⟩ own gr
def vl : Value → Nat
  | .slice _ n _ => n
  | _ => 0
theorem it_src (w : World) (x : It) : ∀ j u, (mcells [x])[j]? = some u → (w.alloc (.cells #[.int .i64 x.1, .bool x.2] 163)).cell? ((⟨w.heap.size, 0, none⟩ : Addr).add j) = some u := by
  intro j u hu
  rw [add_plain, Nat.zero_add]
  match j, hu with
  | 0, hu => simp [mcells] at hu; subst hu; simp
  | 1, hu => simp [mcells] at hu; subst hu; simp
theorem at_head (x : It) (xs : List It) : at_ (x :: xs) 0 = x := rfl
theorem its_cons {w : World} {v : Value} {x : It} {xs : List It} (h : Its w v (x :: xs)) : ∃ b off cap, v = .slice (some ⟨b, off, none⟩) (xs.length + 1) cap ∧ xs.length + 1 ≤ cap ∧ w.cell? ⟨b, off, none⟩ = some (.int .i64 x.1) ∧ w.cell? ⟨b, off + 1, none⟩ = some (.bool x.2) ∧ ∀ p, (if cap = 1 then some (⟨b, off, none⟩ : Addr) else some ⟨b, off + 2, none⟩) = p → Its w (.slice p xs.length (cap - 1)) xs := by
  rcases h with ⟨_, h⟩ | ⟨b, off, cap, rfl, hl, hc⟩
  · cases h
  · obtain ⟨h1, h2⟩ := hc 0 (by simp)
    simp only [List.length_cons] at hl
    refine ⟨b, off, cap, rfl, hl, h1, h2, fun p hp => ?_⟩
    subst hp
    by_cases e : cap = 1
    · have h0 : xs = [] := List.eq_nil_of_length_eq_zero (by omega)
      subst h0
      rw [if_pos e]
      exact .inr ⟨b, off, cap - 1, rfl, Nat.zero_le _, fun _ h => absurd h (Nat.not_lt_zero _)⟩
    · rw [if_neg e]
      refine .inr ⟨b, off + 2, cap - 1, rfl, by omega, fun i hi => ?_⟩
      obtain ⟨h3, h4⟩ := hc (i + 1) (by simp; omega)
      rw [at_cons] at h3 h4
      rw [show off + 2 + i * 2 = off + (i + 1) * 2 by omega, show off + 2 + (i * 2 + 1) = off + ((i + 1) * 2 + 1) by omega]
      exact ⟨h3, h4⟩
set_option maxHeartbeats 2000000 in
theorem mrg23 (va vb : Value) (xs ys : List It) (w : World) (sa : Its w va xs) (sb : Its w vb ys) (hn : xs.length + ys.length ≤ 100000) :
    Calls Tryz.prog 98 #[va, vb] w fun e w' => ∃ r, e = .returned r ∧ Its w' r (xs.merge ys leI) ∧ Below w.heap.size w w' := by
  have SA := hide sa
  have SB := hide sb
  obtain ⟨pa, ca, ea⟩ : ∃ a cap, va = .slice a xs.length cap := by
    rcases sa with ⟨e, e2⟩ | ⟨b, off, cap, e, _⟩
    · exact ⟨none, 0, by rw [e, e2]; rfl⟩
    · exact ⟨_, cap, e⟩
  obtain ⟨pb, cb, eb⟩ : ∃ a cap, vb = .slice a ys.length cap := by
    rcases sb with ⟨e, e2⟩ | ⟨b, off, cap, e, _⟩
    · exact ⟨none, 0, by rw [e, e2]; rfl⟩
    · exact ⟨_, cap, e⟩
  subst ea; subst eb
  have LEN := hide (List.length_merge leI xs ys)
  clear sa sb
  generalize hla : xs.length = la at *
  generalize hlb : ys.length = lb at *
  have HLA := hide hla
  have HLB := hide hlb
  clear hla hlb
  have hmk : ∀ w, (Instr.makeSlice 156 (.int .i64 0) (.int .i64 ((la : Int) + (lb : Int)))).run Tryz.prog w = .ok (.slice (some ⟨w.heap.size, 0, none⟩) 0 (la + lb)) (w.alloc (.cells (irow (fun _ => 0) (fun _ => false) (la + lb)) 163)) := fun w => by
    have := make_room w (la + lb) (by omega)
    rw [Int.natCast_add] at this
    exact this
  go_enter Tryz.func98, Tryz.ntmps98
  go_wp2
  go_loopw [0, 1, 5] (fun va' vb' r wr => ∃ xs' ys' done, Its w va' xs' ∧ Its w vb' ys' ∧ Mer w wr r done ∧ done ++ xs'.merge ys' leI = xs.merge ys leI) (fun va' vb' _ _ => vl va' + vl vb')
  case atStart =>
    refine ⟨xs, ys, [], unhide SA, unhide SB, ⟨?_, (Below.refl _ w).alloc (Nat.le_refl _) _⟩, rfl⟩
    exact World.ownsRow_made w _ _ (Nat.le_refl _) (by unfold maxLen; omega) (irow_size _ _ _)
  case round =>
    clear SA SB
    obtain ⟨xs', ys', done, sa, sb, mer, eq⟩ := hrel
    have MER := hide mer
    have EQ := hide eq
    have hdl : done.length + (xs'.length + ys'.length) = la + lb := by
      have := congrArg List.length eq
      rw [List.length_append, List.length_merge, unhide LEN] at this
      exact this
    have HDL := hide hdl
    cases xs' with
    | nil =>
      rcases sa with ⟨rfl, _⟩ | ⟨b, off, cp, rfl, _⟩
      · have sa := Its.nil w
        have SA := hide sa
        have SB := hide sb
        have HB := hide mer.bel
        clear sa sb mer eq
        go_wp2_with (first | (at_builtin; refine app_its rfl (.tmp 45) (.tmp 46) rfl w.heap.size u5 done rfl (unhide MER).own _ [] rfl ((unhide SA).keep (unhide HB)) (by simp only [List.length_nil] at hdl ⊢; omega) (unhide HB).size ?_; intro v1 w1 own1 gr1; have M1 := hide (show Mer w w1 v1 (done ++ []) from ⟨own1, (unhide HB).grown gr1 (unhide HB).size (fun k e => ((unhide MER).own.lt k e).1)⟩); clear own1 gr1) | (at_builtin; refine app_its rfl (.tmp 47) (.tmp 48) rfl w.heap.size v1 (done ++ []) rfl (unhide M1).own _ ys' rfl ((unhide SB).keep (unhide M1).bel) (by rw [List.length_append]; simp only [List.length_nil] at hdl ⊢; omega) (unhide M1).bel.size ?_; intro v2 w2 own2 gr2; have M2 := hide (show Mer w w2 v2 (done ++ [] ++ ys') from ⟨own2, (unhide M1).bel.grown gr2 (unhide M1).bel.size (fun k e => ((unhide M1).own.lt k e).1)⟩); clear own2 gr2) | fail)
        go_ret
        refine ⟨_, rfl, ?_, (unhide M2).bel⟩
        have h := own_its (unhide M2).own
        rw [List.append_assoc] at h
        have he := unhide EQ
        first
          | rw [List.nil_merge] at he
          | rw [List.merge_right] at he
        rw [← he]
        simpa using h
      · have sa : Its w (.slice (some ⟨b, off, none⟩) 0 cp) [] := .inr ⟨b, off, cp, rfl, Nat.zero_le _, fun _ h => absurd h (Nat.not_lt_zero _)⟩
        have SA := hide sa
        have SB := hide sb
        have HB := hide mer.bel
        clear sa sb mer eq
        go_wp2_with (first | (at_builtin; refine app_its rfl (.tmp 45) (.tmp 46) rfl w.heap.size u5 done rfl (unhide MER).own _ [] rfl ((unhide SA).keep (unhide HB)) (by simp only [List.length_nil] at hdl ⊢; omega) (unhide HB).size ?_; intro v1 w1 own1 gr1; have M1 := hide (show Mer w w1 v1 (done ++ []) from ⟨own1, (unhide HB).grown gr1 (unhide HB).size (fun k e => ((unhide MER).own.lt k e).1)⟩); clear own1 gr1) | (at_builtin; refine app_its rfl (.tmp 47) (.tmp 48) rfl w.heap.size v1 (done ++ []) rfl (unhide M1).own _ ys' rfl ((unhide SB).keep (unhide M1).bel) (by rw [List.length_append]; simp only [List.length_nil] at hdl ⊢; omega) (unhide M1).bel.size ?_; intro v2 w2 own2 gr2; have M2 := hide (show Mer w w2 v2 (done ++ [] ++ ys') from ⟨own2, (unhide M1).bel.grown gr2 (unhide M1).bel.size (fun k e => ((unhide M1).own.lt k e).1)⟩); clear own2 gr2) | fail)
        go_ret
        refine ⟨_, rfl, ?_, (unhide M2).bel⟩
        have h := own_its (unhide M2).own
        rw [List.append_assoc] at h
        have he := unhide EQ
        first
          | rw [List.nil_merge] at he
          | rw [List.merge_right] at he
        rw [← he]
        simpa using h
    | cons x xs' =>
      cases ys' with
      | nil =>
        have sa0 := sa
        obtain ⟨b1, o1, cp1, rfl, hc1, _⟩ := its_cons sa0
        simp only [List.length_cons] at hdl
        rcases sb with ⟨rfl, _⟩ | ⟨b, off, cp, rfl, _⟩
        · have sb := Its.nil w
          clear sa0
          have SA := hide sa
          have SB := hide sb
          have HB := hide mer.bel
          clear sa sb mer eq
          go_wp2_with (first | (at_builtin; refine app_its rfl (.tmp 45) (.tmp 46) rfl w.heap.size u5 done rfl (unhide MER).own _ (x :: xs') rfl ((unhide SA).keep (unhide HB)) (by simp only [List.length_nil, List.length_cons] at hdl ⊢; omega) (unhide HB).size ?_; intro v1 w1 own1 gr1; have M1 := hide (show Mer w w1 v1 (done ++ (x :: xs')) from ⟨own1, (unhide HB).grown gr1 (unhide HB).size (fun k e => ((unhide MER).own.lt k e).1)⟩); clear own1 gr1) | (at_builtin; refine app_its rfl (.tmp 47) (.tmp 48) rfl w.heap.size v1 (done ++ (x :: xs')) rfl (unhide M1).own _ [] rfl ((unhide SB).keep (unhide M1).bel) (by rw [List.length_append]; simp only [List.length_nil, List.length_cons] at hdl ⊢; omega) (unhide M1).bel.size ?_; intro v2 w2 own2 gr2; have M2 := hide (show Mer w w2 v2 (done ++ (x :: xs') ++ []) from ⟨own2, (unhide M1).bel.grown gr2 (unhide M1).bel.size (fun k e => ((unhide M1).own.lt k e).1)⟩); clear own2 gr2) | fail)
          go_ret
          refine ⟨_, rfl, ?_, (unhide M2).bel⟩
          have h := own_its (unhide M2).own
          rw [List.append_assoc] at h
          have he := unhide EQ
          first
            | rw [List.nil_merge] at he
            | rw [List.merge_right] at he
          rw [← he]
          simpa using h
        · have sb : Its w (.slice (some ⟨b, off, none⟩) 0 cp) [] := .inr ⟨b, off, cp, rfl, Nat.zero_le _, fun _ h => absurd h (Nat.not_lt_zero _)⟩
          clear sa0
          have SA := hide sa
          have SB := hide sb
          have HB := hide mer.bel
          clear sa sb mer eq
          go_wp2_with (first | (at_builtin; refine app_its rfl (.tmp 45) (.tmp 46) rfl w.heap.size u5 done rfl (unhide MER).own _ (x :: xs') rfl ((unhide SA).keep (unhide HB)) (by simp only [List.length_nil, List.length_cons] at hdl ⊢; omega) (unhide HB).size ?_; intro v1 w1 own1 gr1; have M1 := hide (show Mer w w1 v1 (done ++ (x :: xs')) from ⟨own1, (unhide HB).grown gr1 (unhide HB).size (fun k e => ((unhide MER).own.lt k e).1)⟩); clear own1 gr1) | (at_builtin; refine app_its rfl (.tmp 47) (.tmp 48) rfl w.heap.size v1 (done ++ (x :: xs')) rfl (unhide M1).own _ [] rfl ((unhide SB).keep (unhide M1).bel) (by rw [List.length_append]; simp only [List.length_nil, List.length_cons] at hdl ⊢; omega) (unhide M1).bel.size ?_; intro v2 w2 own2 gr2; have M2 := hide (show Mer w w2 v2 (done ++ (x :: xs') ++ []) from ⟨own2, (unhide M1).bel.grown gr2 (unhide M1).bel.size (fun k e => ((unhide M1).own.lt k e).1)⟩); clear own2 gr2) | fail)
          go_ret
          refine ⟨_, rfl, ?_, (unhide M2).bel⟩
          have h := own_its (unhide M2).own
          rw [List.append_assoc] at h
          have he := unhide EQ
          first
            | rw [List.nil_merge] at he
            | rw [List.merge_right] at he
          rw [← he]
          simpa using h
      | cons y ys' =>
        obtain ⟨b1, o1, cp1, rfl, hc1, d1, d2, t1⟩ := its_cons sa
        obtain ⟨b2, o2, cp2, rfl, hc2, d3, d4, t2⟩ := its_cons sb
        have e1 := (mer.bel.cell (p := ⟨b1, o1, none⟩) (lt_of_cell d1)).trans d1
        have e2 := (mer.bel.cell (p := ⟨b1, o1 + 1, none⟩) (lt_of_cell d2)).trans d2
        have e3 := (mer.bel.cell (p := ⟨b2, o2, none⟩) (lt_of_cell d3)).trans d3
        have e4 := (mer.bel.cell (p := ⟨b2, o2 + 1, none⟩) (lt_of_cell d4)).trans d4
        have T1 := hide t1
        have T2 := hide t2
        have SA := hide sa
        have SB := hide sb
        have hlt1 := lt_of_cell e1
        have hlt3 := lt_of_cell e3
        clear d1 d2 d3 d4 t1 t2 sa sb mer eq
        simp only [List.length_cons] at hdl
        generalize hm1 : xs'.length = m1 at *
        generalize hm2 : ys'.length = m2 at *
        have HM1 := hide hm1
        have HM2 := hide hm2
        clear hm1 hm2
        obtain ⟨x1, x2⟩ := x
        obtain ⟨y1, y2⟩ := y
        simp only at e1 e2 e3 e4
        by_cases hle : x1 ≤ y1
        · have hle' : ¬ y1 < x1 := by omega
          have NX := hide (show (done ++ [(x1, x2)]) ++ xs'.merge ((y1, y2) :: ys') leI = xs.merge ys leI from by
            rw [← unhide EQ, List.cons_merge_cons_pos leI _ _ (decide_eq_true (by exact hle))]
            simp)
          go_wp2
          go_quiet ((fail))
          rename_i nq
          have M1 := hide (show Mer w (wr.drewN nq) u5 done from ⟨(unhide MER).own, below_drewN (unhide MER).bel nq⟩)
          have q1 : (wr.drewN nq).cell? ⟨b1, o1, none⟩ = some (.int .i64 x1) := e1
          have q2 : (wr.drewN nq).cell? ⟨b1, o1 + 1, none⟩ = some (.bool x2) := e2
          have q3 : (wr.drewN nq).cell? ⟨b2, o2, none⟩ = some (.int .i64 y1) := e3
          have q4 : (wr.drewN nq).cell? ⟨b2, o2 + 1, none⟩ = some (.bool y2) := e4
          clear e1 e2 e3 e4 hlt1 hlt3 MER
          generalize wr.drewN nq = wq at *
          have hlt1 := lt_of_cell q1
          have hlt3 := lt_of_cell q3
          go_wp2
          have hone : (1 : Int) ≤ (m1 : Int) + 1 := by omega
          by_cases hcp : cp1 = 1
          · subst hcp
            go_region_law (refine step_it rfl (.tmp 29) (.tmp 33) rfl w.heap.size u5 done (by simp [Act.eval]) ((unhide M1).own.drew.alloc _) ⟨wq.heap.size, 0, none⟩ 1 (x1, x2) (by simp [Act.eval]) (it_src _ _) (by omega) (by have := (unhide M1).bel.size; simp; omega) ?_; intro v1 w1 own1 gr1; have M2 := hide (Mer.appd (q := 1) (unhide M1) own1 gr1); clear own1 gr1)
            go_simp
            go_wp2
            go_roundw
            case rel => exact ⟨xs', (y1, y2) :: ys', done ++ [(x1, x2)], by have := unhide T1 _ rfl; rw [show m1 = 0 by omega] at this; simpa using this, unhide SB, unhide M2, unhide NX⟩
            case measure => simp [vl]
          · skip
            go_region_law (refine step_it rfl (.tmp 29) (.tmp 33) rfl w.heap.size u5 done (by simp [Act.eval]) ((unhide M1).own.drew.alloc _) ⟨wq.heap.size, 0, none⟩ 1 (x1, x2) (by simp [Act.eval]) (it_src _ _) (by omega) (by have := (unhide M1).bel.size; simp; omega) ?_; intro v1 w1 own1 gr1; have M2 := hide (Mer.appd (q := 1) (unhide M1) own1 gr1); clear own1 gr1)
            go_simp
            go_wp2
            go_roundw
            case rel => exact ⟨xs', (y1, y2) :: ys', done ++ [(x1, x2)], by have := unhide T1 _ rfl; rw [if_neg hcp] at this; exact this, unhide SB, unhide M2, unhide NX⟩
            case measure => simp [vl]
        · have hle' : decide (x1 ≤ y1) = false := decide_eq_false (by omega)
          have NX := hide (show (done ++ [(y1, y2)]) ++ ((x1, x2) :: xs').merge ys' leI = xs.merge ys leI from by
            rw [← unhide EQ, List.cons_merge_cons_neg leI _ _ (by simp [leI]; omega)]
            simp)
          go_wp2
          go_quiet ((fail))
          rename_i nq
          have M1 := hide (show Mer w (wr.drewN nq) u5 done from ⟨(unhide MER).own, below_drewN (unhide MER).bel nq⟩)
          have q1 : (wr.drewN nq).cell? ⟨b1, o1, none⟩ = some (.int .i64 x1) := e1
          have q2 : (wr.drewN nq).cell? ⟨b1, o1 + 1, none⟩ = some (.bool x2) := e2
          have q3 : (wr.drewN nq).cell? ⟨b2, o2, none⟩ = some (.int .i64 y1) := e3
          have q4 : (wr.drewN nq).cell? ⟨b2, o2 + 1, none⟩ = some (.bool y2) := e4
          clear e1 e2 e3 e4 hlt1 hlt3 MER
          generalize wr.drewN nq = wq at *
          have hlt1 := lt_of_cell q1
          have hlt3 := lt_of_cell q3
          go_wp2
          have hone : (1 : Int) ≤ (m2 : Int) + 1 := by omega
          by_cases hcp : cp2 = 1
          · subst hcp
            go_region_law (refine step_it rfl (.tmp 37) (.tmp 41) rfl w.heap.size u5 done (by simp [Act.eval]) ((unhide M1).own.drew.alloc _) ⟨wq.heap.size, 0, none⟩ 1 (y1, y2) (by simp [Act.eval]) (it_src _ _) (by omega) (by have := (unhide M1).bel.size; simp; omega) ?_; intro v1 w1 own1 gr1; have M2 := hide (Mer.appd (q := 1) (unhide M1) own1 gr1); clear own1 gr1)
            go_simp
            go_wp2
            go_roundw
            case rel => exact ⟨(x1, x2) :: xs', ys', done ++ [(y1, y2)], unhide SA, by have := unhide T2 _ rfl; rw [show m2 = 0 by omega] at this; simpa using this, unhide M2, unhide NX⟩
            case measure => simp [vl]
          · skip
            go_region_law (refine step_it rfl (.tmp 37) (.tmp 41) rfl w.heap.size u5 done (by simp [Act.eval]) ((unhide M1).own.drew.alloc _) ⟨wq.heap.size, 0, none⟩ 1 (y1, y2) (by simp [Act.eval]) (it_src _ _) (by omega) (by have := (unhide M1).bel.size; simp; omega) ?_; intro v1 w1 own1 gr1; have M2 := hide (Mer.appd (q := 1) (unhide M1) own1 gr1); clear own1 gr1)
            go_simp
            go_wp2
            go_roundw
            case rel => exact ⟨(x1, x2) :: xs', ys', done ++ [(y1, y2)], unhide SA, by have := unhide T2 _ rfl; rw [if_neg hcp] at this; exact this, unhide M2, unhide NX⟩
            case measure => simp [vl]
end Go.Proofs.YtgjpcjnhggcfdaaGreatDoor.ZMrg

namespace Go.Proofs.YtgjpcjnhggcfdaaGreatDoor.ZPur
open Go.Proofs.YtgjpcjnhggcfdaaGreatDoor.ZItm Go.Proofs.YtgjpcjnhggcfdaaGreatDoor.ZMrg

/-- Items joined two by two. -/
def prs : List It → List It
  | a :: b :: t => (a.1 + b.1, false) :: prs t
  | _ => []
theorem prs_len : ∀ xs : List It, (prs xs).length = xs.length / 2
  | [] => rfl
  | [_] => by simp [prs]
  | _ :: _ :: t => by
    have := prs_len t
    simp only [prs, List.length_cons]
    omega
def wsum (xs : List It) : Int := (xs.map (·.1)).sum
theorem wsum_nil : wsum [] = 0 := rfl
theorem wsum_cons (x : It) (xs : List It) : wsum (x :: xs) = x.1 + wsum xs := by simp [wsum]
theorem wsum_app (xs ys : List It) : wsum (xs ++ ys) = wsum xs + wsum ys := by simp [wsum]
theorem prs_take : ∀ (xs : List It) (j : Nat), j ≤ xs.length / 2 → wsum ((prs xs).take j) = wsum (xs.take (2 * j))
  | _, 0, _ => by simp
  | [], j + 1, h => by simp at h
  | [_], j + 1, h => by simp at h
  | a :: b :: t, j + 1, h => by
    have := prs_take t j (by simp only [List.length_cons] at h; omega)
    simp only [prs, List.take_succ_cons, wsum_cons, show 2 * (j + 1) = 2 * j + 1 + 1 by omega]
    omega
/-- Weights that rise. -/
def Ris (xs : List It) : Prop := ∀ i j, i < j → j < xs.length → (at_ xs i).1 ≤ (at_ xs j).1
def cntS (xs : List It) (k : Nat) : Nat := (xs.take k).countP (·.2)
theorem at_get {xs : List It} {i : Nat} (h : i < xs.length) : at_ xs i = xs[i] := by simp [at_, h]
/-- The first k of two rows merged: the first ones of each. -/
theorem mrg_take : ∀ (xs ys : List It) (k : Nat), Ris xs → k ≤ xs.length + ys.length → ∃ t j, t + j = k ∧ t ≤ xs.length ∧ j ≤ ys.length ∧ ((xs.merge ys leI).take k).Perm (xs.take t ++ ys.take j) ∧ (t < xs.length → 0 < j → (at_ ys (j - 1)).1 < (at_ xs t).1)
  | _, _, 0, _, _ => ⟨0, 0, rfl, Nat.zero_le _, Nat.zero_le _, by simp, fun _ h => absurd h (Nat.lt_irrefl _)⟩
  | [], ys, k + 1, _, h => ⟨0, k + 1, by omega, Nat.le_refl _, by simpa using h, by rw [List.nil_merge]; simp, fun h => absurd h (Nat.lt_irrefl _)⟩
  | x :: xs, [], k + 1, _, h => ⟨k + 1, 0, rfl, by simpa using h, Nat.le_refl _, by rw [List.merge_right]; simp, fun _ h => absurd h (Nat.lt_irrefl _)⟩
  | x :: xs, y :: ys, k + 1, hr, h => by
    by_cases hle : leI x y = true
    · obtain ⟨t, j, e1, e2, e3, e4, e5⟩ := mrg_take xs (y :: ys) k (fun i j h1 h2 => by
        have := hr (i + 1) (j + 1) (by omega) (by simp; omega)
        rwa [at_cons, at_cons] at this) (by simp at h ⊢; omega)
      refine ⟨t + 1, j, by omega, by simp; omega, e3, ?_, fun h1 h2 => ?_⟩
      · rw [List.cons_merge_cons_pos leI _ _ hle, List.take_succ_cons, List.take_succ_cons, List.cons_append]
        exact e4.cons x
      · rw [at_cons]
        exact e5 (by simpa using h1) h2
    · obtain ⟨t, j, e1, e2, e3, e4, e5⟩ := mrg_take (x :: xs) ys k hr (by simp at h ⊢; omega)
      refine ⟨t, j + 1, by omega, e2, by simp; omega, ?_, fun h1 _ => ?_⟩
      · rw [List.cons_merge_cons_neg leI _ _ hle, List.take_succ_cons, List.take_succ_cons]
        refine (e4.cons y).trans ?_
        exact List.perm_middle.symm
      · have hlt : y.1 < x.1 := by simpa [leI] using hle
        cases j with
        | zero =>
          show (at_ (y :: ys) 0).1 < _
          rw [at_head]
          cases t with
          | zero => exact hlt
          | succ t =>
            have := hr 0 (t + 1) (by omega) h1
            rw [at_head] at this
            omega
        | succ j =>
          have := e5 h1 (by omega)
          rw [show j + 1 + 1 - 1 = j + 1 by omega, at_cons]
          simpa using this
theorem prs_at : ∀ (xs : List It) (j : Nat), j < xs.length / 2 → at_ (prs xs) j = ((at_ xs (2 * j)).1 + (at_ xs (2 * j + 1)).1, false)
  | [], j, h => by simp at h
  | [_], j, h => by simp at h
  | a :: b :: t, 0, _ => rfl
  | a :: b :: t, j + 1, h => by
    have := prs_at t j (by simp only [List.length_cons] at h; omega)
    simp only [prs]
    rw [at_cons, this, show 2 * (j + 1) = 2 * j + 1 + 1 by omega, at_cons, at_cons, show 2 * j + 1 + 1 + 1 = (2 * j + 1) + 1 + 1 by omega, at_cons, at_cons]
theorem prs_false : ∀ (xs : List It), ∀ y ∈ prs xs, y.2 = false
  | [], y, h => by simp [prs] at h
  | [_], y, h => by simp [prs] at h
  | a :: b :: t, y, h => by
    simp only [prs, List.mem_cons] at h
    rcases h with rfl | h
    · rfl
    · exact prs_false t y h
def Pos (xs : List It) : Prop := ∀ x ∈ xs, 0 < x.1
theorem prs_pos : ∀ (xs : List It), Pos xs → Pos (prs xs)
  | [], _ => fun y h => by simp [prs] at h
  | [_], _ => fun y h => by simp [prs] at h
  | a :: b :: t, hp => fun y h => by
    simp only [prs, List.mem_cons] at h
    rcases h with rfl | h
    · have h1 := hp a (by simp)
      have h2 := hp b (by simp)
      show 0 < a.1 + b.1
      omega
    · exact prs_pos t (fun x hx => hp x (by simp [hx])) y h
theorem at_mem {xs : List It} {i : Nat} (h : i < xs.length) : at_ xs i ∈ xs := by
  rw [at_get h]
  exact List.getElem_mem h
theorem mem_at {xs : List It} {x : It} (h : x ∈ xs) : ∃ i, i < xs.length ∧ at_ xs i = x := by
  obtain ⟨i, hi, e⟩ := List.getElem_of_mem h
  exact ⟨i, hi, by rw [at_get hi]; exact e⟩
theorem ris_iff (xs : List It) : Ris xs ↔ xs.Pairwise (fun a b => leI a b = true) := by
  rw [List.pairwise_iff_getElem]
  constructor
  · intro h i j hi hj hij
    have := h i j hij hj
    rw [at_get hi, at_get hj] at this
    exact decide_eq_true this
  · intro h i j hij hj
    have := h i j (by omega) hj hij
    rw [at_get (by omega), at_get hj]
    exact of_decide_eq_true this
theorem ris_merge {xs ys : List It} (h1 : Ris xs) (h2 : Ris ys) : Ris (xs.merge ys leI) :=
  (ris_iff _).2 (List.pairwise_merge (fun a b c h1 h2 => by
      have := of_decide_eq_true h1
      have := of_decide_eq_true h2
      exact decide_eq_true (by omega)) (fun a b => by
      rcases Int.le_total a.1 b.1 with h | h
      · simp [leI, h]
      · simp [leI, h]) _ _ ((ris_iff _).1 h1) ((ris_iff _).1 h2))
theorem Ris.le {xs : List It} (h : Ris xs) {i j : Nat} (hij : i ≤ j) (hj : j < xs.length) : (at_ xs i).1 ≤ (at_ xs j).1 := by
  by_cases e : i = j
  · subst e; exact Int.le_refl _
  · exact h i j (by omega) hj
theorem ris_prs {xs : List It} (h : Ris xs) : Ris (prs xs) := fun i j hij hj => by
  rw [prs_len] at hj
  rw [prs_at _ _ (by omega), prs_at _ _ hj]
  have h1 := h.le (i := 2 * i) (j := 2 * j) (by omega) (by omega)
  have h2 := h.le (i := 2 * i + 1) (j := 2 * j + 1) (by omega) (by omega)
  show (at_ xs (2 * i)).1 + (at_ xs (2 * i + 1)).1 ≤ (at_ xs (2 * j)).1 + (at_ xs (2 * j + 1)).1
  omega
/-- The rows. -/
def rowI (S : List It) : Nat → List It
  | 0 => S
  | i + 1 => S.merge (prs (rowI S i)) leI
def joi (S : List It) : Nat → List It
  | 0 => []
  | i + 1 => prs (rowI S i)
theorem rowI_eq (S : List It) : ∀ i, rowI S i = S.merge (joi S i) leI
  | 0 => by simp [rowI, joi]
  | _ + 1 => rfl
structure Sym (S : List It) : Prop where
  ris : Ris S
  pos : Pos S
  all : ∀ x ∈ S, x.2 = true
theorem row_ris {S : List It} (h : Sym S) : ∀ i, Ris (rowI S i)
  | 0 => h.ris
  | i + 1 => ris_merge h.ris (ris_prs (row_ris h i))
theorem joi_ris {S : List It} (h : Sym S) : ∀ i, Ris (joi S i)
  | 0 => fun _ _ _ hj => absurd hj (Nat.not_lt_zero _)
  | i + 1 => ris_prs (row_ris h i)
theorem row_mem {S : List It} {i : Nat} {x : It} : x ∈ rowI S i ↔ x ∈ S ∨ x ∈ joi S i := by
  rw [rowI_eq, (List.merge_perm_append leI).mem_iff, List.mem_append]
theorem row_pos {S : List It} (h : Sym S) : ∀ i, Pos (rowI S i)
  | 0 => h.pos
  | i + 1 => fun x hx => by
    rcases row_mem.1 hx with h1 | h1
    · exact h.pos x h1
    · exact prs_pos _ (row_pos h i) x h1
theorem joi_false (S : List It) : ∀ i, ∀ y ∈ joi S i, y.2 = false
  | 0 => fun y h => by simp [joi] at h
  | i + 1 => prs_false _
theorem row_len (S : List It) (i : Nat) : (rowI S i).length = S.length + (joi S i).length := by
  rw [rowI_eq, List.length_merge]
theorem joi_len (S : List It) (i : Nat) : (joi S (i + 1)).length = (rowI S i).length / 2 := prs_len _
/-- How many of the first k of a row are symbols. -/
def tk (S : List It) (i k : Nat) : Nat := cntS (rowI S i) k
theorem row_take {S : List It} (h : Sym S) (i k : Nat) (hk : k ≤ (rowI S i).length) : tk S i k ≤ S.length ∧ tk S i k ≤ k ∧ k - tk S i k ≤ (joi S i).length ∧ ((rowI S i).take k).Perm (S.take (tk S i k) ++ (joi S i).take (k - tk S i k)) ∧ (tk S i k < S.length → tk S i k < k → (at_ (joi S i) (k - tk S i k - 1)).1 < (at_ S (tk S i k)).1) := by
  obtain ⟨t, j, e1, e2, e3, e4, e5⟩ := mrg_take S (joi S i) k h.ris (by rw [← row_len]; exact hk)
  rw [← rowI_eq] at e4
  have et : tk S i k = t := by
    unfold tk cntS
    rw [e4.countP_eq, List.countP_append, List.countP_eq_length.2 (fun x hx => h.all x (List.mem_of_mem_take hx)), List.countP_eq_zero.2 (fun x hx => by rw [joi_false S i x (List.mem_of_mem_take hx)]; simp), List.length_take]
    omega
  rw [et]
  obtain rfl : j = k - t := by omega
  exact ⟨e2, by omega, e3, e4, fun h1 h2 => e5 h1 (by omega)⟩
end Go.Proofs.YtgjpcjnhggcfdaaGreatDoor.ZPur

namespace Go.Proofs.YtgjpcjnhggcfdaaGreatDoor.ZSpr
open Go.Proofs.YtgjpcjnhggcfdaaGreatDoor.ZItm Go.Proofs.YtgjpcjnhggcfdaaGreatDoor.ZMrg Go.Proofs.YtgjpcjnhggcfdaaGreatDoor.ZPur

def sumN (g : Nat → Nat) : Nat → Nat
  | 0 => 0
  | n + 1 => sumN g n + g n
def sumZ (g : Nat → Int) : Nat → Int
  | 0 => 0
  | n + 1 => sumZ g n + g n
theorem sumN_congr {g h : Nat → Nat} : ∀ n, (∀ k, k < n → g k = h k) → sumN g n = sumN h n
  | 0, _ => rfl
  | n + 1, e => by rw [sumN, sumN, sumN_congr n (fun k hk => e k (by omega)), e n (by omega)]
theorem sumZ_congr {g h : Nat → Int} : ∀ n, (∀ k, k < n → g k = h k) → sumZ g n = sumZ h n
  | 0, _ => rfl
  | n + 1, e => by rw [sumZ, sumZ, sumZ_congr n (fun k hk => e k (by omega)), e n (by omega)]
/-- How many symbols are taken of row r, where the first k of row i are taken. -/
def sprd (S : List It) : Nat → Nat → Nat → Nat
  | 0, k, _ => tk S 0 k
  | i + 1, k, r => if r = i + 1 then tk S (i + 1) k else sprd S i (2 * (k - tk S (i + 1) k)) r
theorem sprd_top (S : List It) (i k : Nat) : sprd S i k i = tk S i k := by
  cases i with
  | zero => rfl
  | succ i => unfold sprd; rw [if_pos rfl]
theorem sprd_low (S : List It) (i k r : Nat) (h : r ≤ i) : sprd S (i + 1) k r = sprd S i (2 * (k - tk S (i + 1) k)) r := by
  show (if r = i + 1 then _ else _) = _
  rw [if_neg (by omega)]
theorem next_ok {S : List It} (h : Sym S) (i k : Nat) (hk : k ≤ (rowI S (i + 1)).length) : 2 * (k - tk S (i + 1) k) ≤ (rowI S i).length := by
  have := (row_take h (i + 1) k hk).2.2.1
  rw [joi_len] at this
  omega
def pre (S : List It) (t : Nat) : Int := wsum (S.take t)
theorem wsum_perm {xs ys : List It} (h : xs.Perm ys) : wsum xs = wsum ys := by
  unfold wsum
  have h1 := h.map (·.1)
  generalize xs.map (·.1) = a at h1
  generalize ys.map (·.1) = b at h1
  clear h
  induction h1 with
  | nil => rfl
  | cons x _ ih => simp [ih]
  | swap x y l => simp; omega
  | trans _ _ ih1 ih2 => exact ih1.trans ih2
theorem tk_zero {S : List It} (h : Sym S) (k : Nat) (hk : k ≤ S.length) : tk S 0 k = k := by
  obtain ⟨h1, h2, h3, _⟩ := row_take h 0 k hk
  simp [joi] at h3
  omega
theorem spr_cost {S : List It} (h : Sym S) : ∀ (i k : Nat), k ≤ (rowI S i).length → wsum ((rowI S i).take k) = sumZ (fun r => pre S (sprd S i k r)) (i + 1)
  | 0, k, hk => by
    have h1 := (row_take h 0 k hk).2.2.2.1
    have h2 := wsum_perm h1
    rw [tk_zero h k hk] at h2
    simp only [joi, List.take_nil, List.append_nil] at h2
    show _ = 0 + pre S (sprd S 0 k 0)
    rw [sprd_top, tk_zero h k hk, h2]
    simp [pre]
  | i + 1, k, hk => by
    obtain ⟨h1, h2, h3, h4, _⟩ := row_take h (i + 1) k hk
    have h5 := wsum_perm h4
    rw [wsum_app] at h5
    have h6 : wsum ((joi S (i + 1)).take (k - tk S (i + 1) k)) = wsum ((rowI S i).take (2 * (k - tk S (i + 1) k))) := prs_take _ _ (by rw [joi_len] at h3; exact h3)
    rw [h6, spr_cost h i _ (next_ok h i k hk)] at h5
    show _ = sumZ _ (i + 1) + pre S (sprd S (i + 1) k (i + 1))
    rw [sprd_top, h5, sumZ_congr (g := fun r => pre S (sprd S (i + 1) k r)) (h := fun r => pre S (sprd S i (2 * (k - tk S (i + 1) k)) r)) (i + 1) (fun r hr => by rw [sprd_low _ _ _ _ (by omega)])]
    show pre S _ + _ = _
    omega
theorem spr_le {S : List It} (h : Sym S) : ∀ (i k r : Nat), k ≤ (rowI S i).length → r ≤ i → sprd S i k r ≤ S.length
  | 0, k, r, hk, _ => (row_take h 0 k hk).1
  | i + 1, k, r, hk, hr => by
    by_cases e : r = i + 1
    · subst e
      rw [sprd_top]
      exact (row_take h (i + 1) k hk).1
    · rw [sprd_low _ _ _ _ (by omega)]
      exact spr_le h i _ r (next_ok h i k hk) (by omega)
theorem spr_wide {S : List It} (h : Sym S) : ∀ (i k : Nat), k ≤ (rowI S i).length → sumN (fun r => sprd S i k r * 2 ^ r) (i + 1) = k * 2 ^ i
  | 0, k, hk => by
    show 0 + sprd S 0 k 0 * 2 ^ 0 = _
    rw [sprd_top, tk_zero h k hk]
    simp
  | i + 1, k, hk => by
    show sumN _ (i + 1) + sprd S (i + 1) k (i + 1) * 2 ^ (i + 1) = _
    rw [sprd_top, sumN_congr (g := fun r => sprd S (i + 1) k r * 2 ^ r) (h := fun r => sprd S i (2 * (k - tk S (i + 1) k)) r * 2 ^ r) (i + 1) (fun r hr => by rw [sprd_low _ _ _ _ (by omega)]), spr_wide h i _ (next_ok h i k hk)]
    have h2 := (row_take h (i + 1) k hk).2.1
    generalize tk S (i + 1) k = t at *
    obtain ⟨j, rfl⟩ : ∃ j, k = t + j := ⟨k - t, by omega⟩
    rw [show t + j - t = j by omega, Nat.pow_succ, Nat.add_mul]
    have e1 : 2 * j * 2 ^ i = j * (2 ^ i * 2) := by rw [Nat.mul_comm 2 j, Nat.mul_assoc, Nat.mul_comm 2]
    omega
/-- The symbols that are taken of a row are taken of the next one, too. -/
theorem tk_step {S : List It} (h : Sym S) (i k : Nat) (hk : k ≤ (rowI S (i + 1)).length) : tk S i (2 * (k - tk S (i + 1) k)) ≤ tk S (i + 1) k := by
  obtain ⟨h1, h2, h3, h4, h5⟩ := row_take h (i + 1) k hk
  have hn := next_ok h i k hk
  obtain ⟨g1, g2, g3, g4, _⟩ := row_take h i _ hn
  generalize ht : tk S (i + 1) k = t at *
  generalize hu : tk S i (2 * (k - t)) = u at *
  rcases Nat.lt_or_ge t u with hlt | hge
  · exfalso
    have h6 := h5 (by omega) (by omega)
    rw [joi_len] at h3
    have e := prs_at (rowI S i) (k - t - 1) (by omega)
    rw [show joi S (i + 1) = prs (rowI S i) from rfl, e] at h6
    have hmem : at_ S t ∈ (rowI S i).take (2 * (k - t)) := by
      rw [g4.mem_iff, List.mem_append]
      refine .inl ?_
      rw [at_get (by omega)]
      exact List.mem_take_iff_getElem.2 ⟨t, by omega, rfl⟩
    obtain ⟨q, hq, eq⟩ := List.mem_take_iff_getElem.1 hmem
    have hle := (row_ris h i).le (i := q) (j := 2 * (k - t - 1) + 1) (by omega) (by omega)
    rw [at_get (show q < (rowI S i).length by omega), eq] at hle
    have hp := row_pos h i _ (at_mem (show 2 * (k - t - 1) < (rowI S i).length by omega))
    simp only at h6
    omega
  · exact hge
theorem spr_mono {S : List It} (h : Sym S) : ∀ (i k r : Nat), k ≤ (rowI S i).length → r < i → sprd S i k r ≤ sprd S i k (r + 1)
  | 0, k, r, _, hr => by omega
  | i + 1, k, r, hk, hr => by
    by_cases e : r = i
    · subst e
      rw [sprd_low _ _ _ _ (Nat.le_refl _), sprd_top, sprd_top]
      exact tk_step h r k hk
    · rw [sprd_low _ _ _ _ (by omega), sprd_low _ _ _ _ (by omega)]
      exact spr_mono h i _ r (next_ok h i k hk) (by omega)
theorem row_up {S : List It} (h0 : 0 < S.length) : ∀ i, (rowI S i).length + 1 ≤ 2 * S.length
  | 0 => by show S.length + 1 ≤ _; omega
  | i + 1 => by
    have := row_up h0 i
    rw [row_len, joi_len]
    omega
theorem row_low (S : List It) (m : Nat) (hm : S.length ≤ 2 ^ m) : ∀ i, i ≤ m → 2 * S.length ≤ (rowI S i).length + 2 ^ (m - i)
  | 0, _ => by show 2 * S.length ≤ S.length + _; rw [Nat.sub_zero]; omega
  | i + 1, hi => by
    have h1 := row_low S m hm i (by omega)
    have e : 2 ^ (m - i) = 2 * 2 ^ (m - (i + 1)) := by
      rw [show m - i = m - (i + 1) + 1 by omega, Nat.pow_succ, Nat.mul_comm]
    rw [row_len, joi_len]
    generalize 2 ^ (m - (i + 1)) = z at *
    omega
/-- There are enough of them. -/
theorem row_enough (S : List It) (i : Nat) (hm : S.length ≤ 2 ^ (i + 1)) : 2 * S.length - 2 ≤ (rowI S i).length := by
  have := row_low S (i + 1) hm i (by omega)
  rw [show i + 1 - i = 1 by omega] at this
  omega
/-- Each symbol is taken. -/
theorem tk_all {S : List It} (h : Sym S) (h2 : 2 ≤ S.length) : ∀ i, 2 * S.length - 2 ≤ (rowI S i).length → tk S i (2 * S.length - 2) = S.length
  | 0, hi => by
    have : (rowI S 0).length = S.length := rfl
    rw [tk_zero h _ (by omega)]
    omega
  | i + 1, hi => by
    obtain ⟨h1, _, h3, h4, h5⟩ := row_take h (i + 1) _ hi
    have hu := row_up (S := S) (by omega) (i + 1)
    have hl : (joi S (i + 1)).length ≤ S.length - 1 := by rw [row_len] at hu; omega
    rcases Nat.lt_or_ge (tk S (i + 1) (2 * S.length - 2)) S.length with hlt | hge
    · exfalso
      have h6 := h5 hlt (by omega)
      have et : tk S (i + 1) (2 * S.length - 2) = S.length - 1 := by omega
      rw [et] at h6
      rw [joi_len] at h3 hl
      have hr : 2 * S.length - 2 ≤ (rowI S i).length := by omega
      have ih := tk_all h h2 i hr
      obtain ⟨_, _, _, g4, _⟩ := row_take h i _ hr
      rw [ih] at g4
      have hmem : at_ S (S.length - 1) ∈ (rowI S i).take (2 * S.length - 2) := by
        rw [g4.mem_iff, List.mem_append]
        refine .inl ?_
        rw [List.take_length]
        exact at_mem (by omega)
      obtain ⟨q, hq, eq⟩ := List.mem_take_iff_getElem.1 hmem
      have e := prs_at (rowI S i) (2 * S.length - 2 - (S.length - 1) - 1) (by omega)
      rw [show joi S (i + 1) = prs (rowI S i) from rfl, e] at h6
      have hle := (row_ris h i).le (i := q) (j := 2 * (2 * S.length - 2 - (S.length - 1) - 1) + 1) (by omega) (by omega)
      rw [at_get (show q < (rowI S i).length by omega), eq] at hle
      have hp := row_pos h i _ (at_mem (show 2 * (2 * S.length - 2 - (S.length - 1) - 1) < (rowI S i).length by omega))
      simp only at h6
      omega
    · omega
end Go.Proofs.YtgjpcjnhggcfdaaGreatDoor.ZSpr

namespace Go.Proofs.YtgjpcjnhggcfdaaGreatDoor.ZShr
open Go.ChangeShapes Go.WideShapes Go.ChangeAt Go.RowKit Go.Proofs.YtgjpcjnhggcfdaaGreatDoor.Core Go.Proofs.YtgjpcjnhggcfdaaGreatDoor.Gnd Go.Proofs.YtgjpcjnhggcfdaaGreatDoor.ZItm Go.Proofs.YtgjpcjnhggcfdaaGreatDoor.ZMrg Go.Proofs.YtgjpcjnhggcfdaaGreatDoor.ZPur Go.Proofs.YtgjpcjnhggcfdaaGreatDoor.ZSpr

theorem info42 : (Tryz.prog.info? 156).map (fun i => (i.zero, i.size, i.bytes)) = some (some (.slice none 0 0), 1, 24) := by kernel_rfl
theorem info3 : (Tryz.prog.info? 3).map (fun i => (i.zero, i.size, i.bytes)) = some (some (.int .i64 0), 1, 8) := by kernel_rfl
def sRow (f : Nat → Value) (n : Nat) : Array Value := ((List.range n).map f).toArray
theorem sRow_size (f : Nat → Value) (n : Nat) : (sRow f n).size = n := by simp [sRow]
theorem sRow_at (f : Nat → Value) (n k : Nat) (h : k < n) : (sRow f n)[k]? = some (f k) := by simp [sRow, h]
theorem sRow_ext {xs : Array Value} {f : Nat → Value} {n : Nat} (hs : xs.size = n) (h : ∀ j, j < n → xs[j]? = some (f j)) : xs = sRow f n := by
  apply Array.ext_getElem?
  intro j
  by_cases hj : j < n
  · rw [h j hj, sRow_at f n j hj]
  · rw [Array.getElem?_eq_none (by omega), Array.getElem?_eq_none (by rw [sRow_size]; omega)]
theorem sRow_set (f : Nat → Value) (n k : Nat) (z : Value) : (sRow f n).setIfInBounds k z = sRow (fun j => if j = k then z else f j) n := by
  refine sRow_ext (by simp [sRow_size]) fun j hj => ?_
  rw [Array.getElem?_setIfInBounds, sRow_at _ _ _ hj, sRow_size]
  by_cases e : k = j
  · subst e; simp [hj]
  · have : ¬ j = k := fun h => e h.symm
    simp [e, this]
theorem sRow_congr {f g : Nat → Value} {n : Nat} (h : ∀ k, k < n → f k = g k) : sRow f n = sRow g n :=
  sRow_ext (sRow_size _ _) fun j hj => by rw [sRow_at _ _ _ hj, h j hj]
theorem sRow_made (z : Value) (n : Nat) : madeCells #[z] n = sRow (fun _ => z) n := by
  refine sRow_ext (by simp [size_madeCells]) fun j hj => ?_
  simp [madeCells, hj, Nat.mod_one]
theorem make_ints (w : World) (n : Nat) (hn : n ≤ 10000000) : (Instr.makeSlice 26 (.int .i64 n) (.int .i64 n)).run Tryz.prog w = .ok (.slice (some ⟨w.heap.size, 0, none⟩) n n) (w.alloc (.cells (sRow (fun _ => .int .i64 0) n) 3)) := by
  obtain ⟨i0, hi, hz0, hz1, hz2⟩ := info_parts info3
  have := run_make (P := Tryz.prog) w 26 3 i0 (.int .i64 0) Tryz.underlying26 hi hz0 .i64 .i64 n n (by omega) (by omega) (by rw [hz2]; omega) (by omega)
  rw [hz1] at this
  rw [this]
  simp [Value.cells, sRow_made]
theorem make_rows (w : World) (n : Nat) (hn : n ≤ 10000000) : (Instr.makeSlice 159 (.int .i64 n) (.int .i64 n)).run Tryz.prog w = .ok (.slice (some ⟨w.heap.size, 0, none⟩) n n) (w.alloc (.cells (sRow (fun _ => .slice none 0 0) n) 156)) := by
  obtain ⟨i0, hi, hz0, hz1, hz2⟩ := info_parts info42
  have := run_make (P := Tryz.prog) w 159 156 i0 (.slice none 0 0) Tryz.underlying159 hi hz0 .i64 .i64 n n (by omega) (by omega) (by rw [hz2]; omega) (by omega)
  rw [hz1] at this
  rw [this]
  simp [Value.cells, sRow_made]
/-- A store where a slice stood turns no item. -/
theorem its_set {w : World} {v u : Value} {xs : List It} {p : Addr} {a : Option Addr} {x y : Nat} (h : Its w v xs) (hp : w.cell? p = some (.slice a x y)) : Its (w.setCell p u) v xs := by
  rcases h with h | ⟨b, off, cap, e, hl, hc⟩
  · exact .inl h
  · refine .inr ⟨b, off, cap, e, hl, fun i hi => ?_⟩
    obtain ⟨h2, h3⟩ := hc i hi
    constructor
    · rw [World.cell?_setCell_other _ _ _ _ (fun e => by rw [e] at hp; rw [hp] at h2; cases h2)]
      exact h2
    · rw [World.cell?_setCell_other _ _ _ _ (fun e => by rw [e] at hp; rw [hp] at h3; cases h3)]
      exact h3
/-- The rows so far. -/
structure Rws (w wr : World) (most k : Nat) (S : List It) (j : Value) (vs : Nat → Value) : Prop where
  box : Box wr w.heap.size 156 (sRow vs most)
  sl : ∀ i, ∃ a x y, vs i = .slice a x y
  its : ∀ i, i < k → Its wr (vs i) (rowI S i)
  joined : Its wr j (joi S k)
  bel : Below w.heap.size w wr
theorem Rws.keep {w wr w' : World} {most k : Nat} {S : List It} {j : Value} {vs : Nat → Value} (h : Rws w wr most k S j vs) (u : Below wr.heap.size wr w') : Rws w w' most k S j vs :=
  ⟨h.box.below u h.box.lt, h.sl, fun i hi => (h.its i hi).keep u, h.joined.keep u, h.bel.trans (u.mono h.bel.size)⟩
/-- A row is laid. -/
theorem Rws.put {w wr : World} {most k : Nat} {S : List It} {j r : Value} {vs : Nat → Value} (h : Rws w wr most k S j vs) (hk : k < most) (ir : Its wr r (rowI S k)) (hr : ∃ a x y, r = .slice a x y) :
    Box (wr.setCell ⟨w.heap.size, k, none⟩ r) w.heap.size 156 (sRow (fun i => if i = k then r else vs i) most) ∧ (∀ i, i < k + 1 → Its (wr.setCell ⟨w.heap.size, k, none⟩ r) (if i = k then r else vs i) (rowI S i)) ∧ (∀ i, ∃ a x y, (if i = k then r else vs i) = .slice a x y) ∧ Below w.heap.size w (wr.setCell ⟨w.heap.size, k, none⟩ r) := by
  obtain ⟨a, x, y, e⟩ := h.sl k
  have hc : wr.cell? ⟨w.heap.size, k, none⟩ = some (.slice a x y) := by rw [h.box.cell, sRow_at _ _ _ hk, e]
  refine ⟨?_, fun i hi => ?_, fun i => ?_, h.bel.setCell (p := ⟨w.heap.size, k, none⟩) (Nat.le_refl _) _⟩
  · have := h.box.set k r
    rwa [sRow_set] at this
  · by_cases e2 : i = k
    · subst e2
      rw [if_pos rfl]
      exact its_set ir hc
    · rw [if_neg e2]
      exact its_set (h.its i (by omega)) hc
  · by_cases e2 : i = k
    · rw [if_pos e2]; exact hr
    · rw [if_neg e2]; exact h.sl i
theorem its_slice {w : World} {v : Value} {xs : List It} (h : Its w v xs) : ∃ a x y, v = .slice a x y := by
  rcases h with ⟨e, _⟩ | ⟨b, off, cap, e, _⟩
  · exact ⟨none, 0, 0, e⟩
  · exact ⟨_, _, _, e⟩
theorem its_len {w : World} {v : Value} {xs : List It} (h : Its w v xs) : ∃ a y, v = .slice a xs.length y ∧ xs.length ≤ y := by
  rcases h with ⟨e, e2⟩ | ⟨b, off, cap, e, hl, _⟩
  · subst e2; exact ⟨none, 0, e, Nat.le_refl _⟩
  · exact ⟨_, _, e, hl⟩
theorem cntS_succ (xs : List It) (k : Nat) (h : k < xs.length) : cntS xs (k + 1) = cntS xs k + (if (at_ xs k).2 then 1 else 0) := by
  unfold cntS
  rw [List.take_succ_eq_append_getElem h, List.countP_append, at_get h]
  congr 1
  simp [List.countP_cons]
theorem cntS_le (xs : List It) (k : Nat) : cntS xs k ≤ k := by
  unfold cntS
  refine Nat.le_trans List.countP_le_length ?_
  rw [List.length_take]
  omega
end Go.Proofs.YtgjpcjnhggcfdaaGreatDoor.ZShr
