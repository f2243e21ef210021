/- Contract: the iterator of size.pairs. Conditions: the slice reads as items, and they are few. -/
import Derived.Test.YtcfnbbelbadmkaaTot
import Derived.Test.YtcfnbbelbadmkaaPur
namespace Go.Proofs.Ytcfnbbelbadmkaa.Pai
open Go.ChangeShapes Go.WideShapes Go.ChangeAt Go.RowKit Go.Shelf Go.Proofs.Ytcfnbbelbadmkaa.Core Go.Proofs.Ytcfnbbelbadmkaa.Gnd Go.Proofs.Ytcfnbbelbadmkaa.Itm Go.Proofs.Ytcfnbbelbadmkaa.Mrg Go.Proofs.Ytcfnbbelbadmkaa.Pur Go.Proofs.Ytcfnbbelbadmkaa.Tot
attribute [local go_sem] Oper.semAt_some

/-- The blocks of P stay. -/
def Bp (P : Nat → Prop) (W W' : World) : Prop := ∀ k, P k → W'.heap[k]? = W.heap[k]?
theorem Bp.cell {P : Nat → Prop} {W W' : World} (h : Bp P W W') {p : Addr} (hp : P p.block) : W'.cell? p = W.cell? p := World.cell?_of_block (h p.block hp)
theorem Bp.trans {P : Nat → Prop} {A B C : World} (h : Bp P A B) (k : Bp P B C) : Bp P A C := fun i hi => (k i hi).trans (h i hi)
abbrev ag (x : It) : Value := .agg #[.int .i64 x.1, .bool x.2]
abbrev en2 (p : It × It) : Array Value := #[ag p.1, ag p.2]
def two (xs : List It) (m : Nat) : List (It × It) := (List.range m).map fun i => (at_ xs (2 * i), at_ xs (2 * i + 1))
theorem two_succ (xs : List It) (m : Nat) : two xs (m + 1) = two xs m ++ [(at_ xs (2 * m), at_ xs (2 * m + 1))] := by simp [two, List.range_succ]
theorem two_len (xs : List It) (m : Nat) : (two xs m).length = m := by simp [two]

set_option maxRecDepth 100000 in
set_option maxHeartbeats 2000000 in
theorem pai31 (n : Nat) (hn : 1 ≤ n) (l B1 len c1 : Nat) (P : Nat → Prop) (a1 : Option Addr) (xs : List It) (hlen : xs.length = len) (hB1 : P B1) (hl1 : len ≤ 100000) (J Jx : List (It × It) → World → Prop)
    (hJ : ∀ pre W, J pre W → J pre W.drew)
    (hY : ∀ pre x W, J pre W → pre.length < len / 2 → YieldAt Fence.wide (n - 1) Try.prog l (en2 x) W fun e W' =>
      (e = .returned (.bool true) ∧ J (pre ++ [x]) W' ∧ Bp P W W') ∨ (e = .returned (.bool false) ∧ Jx (pre ++ [x]) W'))
    (W : World) (hc1 : W.cell? ⟨B1, 0, none⟩ = some (.slice a1 len c1))
    (d1 : ∀ i, i < len → ∃ b o, a1 = some ⟨b, o, none⟩ ∧ P b ∧ W.cell? ⟨b, o + i * 2, none⟩ = some (.int .i64 (at_ xs i).1) ∧ W.cell? ⟨b, o + i * 2 + 1, none⟩ = some (.bool (at_ xs i).2)) (h0 : J [] W) :
    CallsIn Fence.wide n Try.prog 31 #[.func (.yield l) #[] #[], .pointer (some ⟨B1, 0, none⟩)] W fun e W' => (∃ v, e = .returned v) ∧
      ((∃ ys, ys = two xs (len / 2) ∧ J ys W') ∨ (∃ pre, True ∧ Jx pre W')) := by
  have hmx : Try.prog.follows .mixedOrders = true := by kernel_rfl
  have YY := hide hY
  have JW := hide hJ
  have D1 := hide d1
  have HL := hide hlen
  clear hY hJ d1 hlen
  refine callsIn_of_wp Try.func31 rfl trivial ?_ rfl
  simp only [Try.ntmps31, List.size_toArray, List.length_cons, List.length_nil, Nat.reduceAdd, Nat.reduceSub, Array.replicate_succ, Array.replicate_zero, List.push_toArray, List.append_toArray, List.nil_append, List.cons_append]
  gi_wp2
  gi_loopw [3] (fun i wr => ∃ k q : Nat, k ≤ len / 2 ∧ Hid (q = 2 * k) ∧ i = .int .i64 ((q : Int) + 1) ∧ J (two xs k) wr ∧ Bp P W wr) (fun i _ => len + 1 - (intOf i).toNat)
  case atStart => exact ⟨0, 0, Nat.zero_le _, rfl, rfl, h0, fun _ _ => rfl⟩
  case round =>
    obtain ⟨k, q, hk, HQ2, rfl, hJs, hnx⟩ := hrel
    have JJ := hide hJs
    have NX := hide hnx
    have hq := unhide HQ2
    have y1 := (hnx.cell (p := ⟨B1, 0, none⟩) hB1).trans hc1
    by_cases hlt : q + 1 < len
    · have hlt' : (q : Int) + 1 < (len : Int) := by omega
      have hql : (q : Int) < (len : Int) := by omega
      obtain ⟨b, o, rfl, q1, e1, e2⟩ := unhide D1 q (by omega)
      obtain ⟨b', o', e, q2, e3, e4⟩ := unhide D1 (q + 1) (by omega)
      cases e
      have x1 := (hnx.cell (p := ⟨b, o + q * 2, none⟩) q1).trans e1
      have x2 := (hnx.cell (p := ⟨b, o + q * 2 + 1, none⟩) q1).trans e2
      have x3 := (hnx.cell (p := ⟨b, o + (q + 1) * 2, none⟩) q1).trans e3
      have x4 := (hnx.cell (p := ⟨b, o + (q + 1) * 2 + 1, none⟩) q1).trans e4
      have TS := hide (show two xs (k + 1) = two xs k ++ [(at_ xs q, at_ xs (q + 1))] from by rw [two_succ, hq])
      obtain ⟨u, hu⟩ : ∃ u, at_ xs q = u := ⟨_, rfl⟩
      obtain ⟨v, hv⟩ : ∃ v, at_ xs (q + 1) = v := ⟨_, rfl⟩
      rw [hu] at x1 x2
      rw [hv] at x3 x4
      rw [hu, hv] at TS
      obtain ⟨u1, u2⟩ := u
      obtain ⟨v1, v2⟩ := v
      simp only at x1 x2 x3 x4
      obtain ⟨fn, tmps, assign, body, hy, hR⟩ := unhide YY _ ((u1, u2), (v1, v2)) wr.drew (unhide JW _ _ (unhide JJ)) (by rw [two_len]; omega)
      dsimp only [en2, ag] at hy
      have HR := hide (hR.mono (R' := fun e W' => ∃ b : Bool, e = .returned (.bool b) ∧ ((b = true ∧ J (two xs k ++ [((u1, u2), (v1, v2))]) W' ∧ Bp P wr.drew W') ∨ (b = false ∧ Jx (two xs k ++ [((u1, u2), (v1, v2))]) W'))) (fun e W' h => by
        rcases h with ⟨e1, e2, e3⟩ | ⟨e1, e2⟩
        · exact ⟨true, e1, .inl ⟨rfl, e2, e3⟩⟩
        · exact ⟨false, e1, .inr ⟨rfl, e2⟩⟩))
      have hk1 : k + 1 ≤ len / 2 := by omega
      have hql2 : q ≤ 100000 := by omega
      clear hJs hnx e1 e2 e3 e4 hc1 q1 q2 hR hu hv hq
      gi_wp2
      rename_i Q1 Q2 K1 h1K K hK
      have HK : ∀ (t : Bool) (W3 : World), ((t = true ∧ J (two xs k ++ [((u1, u2), (v1, v2))]) W3 ∧ Bp P wr.drew W3) ∨ (t = false ∧ Jx (two xs k ++ [((u1, u2), (v1, v2))]) W3)) → K { tmps := #[.func (.yield l) #[] #[], .pointer (some ⟨B1, 0, none⟩), undef, .int .i64 ((q : Int) + 1), .int .i64 ((q : Int) + 1), .slice (some ⟨b, o, none⟩) len c1, .int .i64 len, .bool true, u8, u9, .func (.yield l) #[] #[], .slice (some ⟨b, o, none⟩) len c1, .int .i64 ((q : Int) + 1), .int .i64 q, .pointer (some ⟨b, o + q * 2, none⟩), .agg #[.int .i64 u1, .bool u2], .slice (some ⟨b, o, none⟩) len c1, .int .i64 ((q : Int) + 1), .pointer (some ⟨b, o + (q + 1) * 2, none⟩), .agg #[.int .i64 v1, .bool v2], .bool t, .bool (!t)], defers := [] } W3 := by
        intro t W3 h3
        have H3 := hide h3
        clear h3
        refine hK _ _ ?_
        cases t
        · gi_wp2
          refine bodyPost_ret (results_none rfl _ _ _) rfl ?_
          rcases unhide H3 with ⟨e1, _⟩ | ⟨_, e2⟩
          · cases e1
          · exact ⟨⟨_, rfl⟩, .inr ⟨_, e2⟩⟩
        · gi_wp2
          go_roundw
          case rel =>
            rcases unhide H3 with ⟨_, e2, e3⟩ | ⟨e1, _⟩
            · exact ⟨k + 1, q + 2, hk1, (show q + 2 = 2 * (k + 1) by have := unhide HQ2; omega), by go_num, by rw [unhide TS]; exact e2, (unhide NX).trans (fun i h1 => (e3 i h1))⟩
            · cases e1
          case measure => simp [intOf]; omega
      refine (fun key : ∀ QQ : Act → World → Prop, (∀ (t : Bool) (W3 : World), ((t = true ∧ J (two xs k ++ [((u1, u2), (v1, v2))]) W3 ∧ Bp P wr.drew W3) ∨ (t = false ∧ Jx (two xs k ++ [((u1, u2), (v1, v2))]) W3)) → QQ { tmps := #[.func (.yield l) #[] #[], .pointer (some ⟨B1, 0, none⟩), undef, .int .i64 ((q : Int) + 1), .int .i64 ((q : Int) + 1), .slice (some ⟨b, o, none⟩) len c1, .int .i64 len, .bool true, u8, u9, .func (.yield l) #[] #[], .slice (some ⟨b, o, none⟩) len c1, .int .i64 ((q : Int) + 1), .int .i64 q, .pointer (some ⟨b, o + q * 2, none⟩), .agg #[.int .i64 u1, .bool u2], .slice (some ⟨b, o, none⟩) len c1, .int .i64 ((q : Int) + 1), .pointer (some ⟨b, o + (q + 1) * 2, none⟩), .agg #[.int .i64 v1, .bool v2], .bool t, .bool (!t)], defers := [] } W3) → Code.wpIn Fence.wide n Try.prog _ (Exit.then QQ (fun _ _ _ => False)) _ wr => Code.wpIn_mono (fun e a w h => by cases e <;> first | exact h | exact False.elim h) (key _ (fun t W3 h => HK t W3 h))) ?_
      clear hK h1K HK K K1 Q2 Q1 YY JW D1 JJ NX h0 hB1 hk hk1 HQ2 TS HL hlt
      have e10 : IntKind.i64.wrap (q : Int) = (q : Int) := by simp [IntKind.wrap, IntKind.bits, IntKind.signed]; omega
      have h00 : (0 : Int) ≤ (q : Int) := by omega
      intro QQ hq
      have HQ := hide hq
      clear hq
      gi_region_with_o (refine (unhide HR).mono ?_; rintro e W3 ⟨t, rfl, h3⟩; have H3 := hide h3; clear h3)
      all_goals first | exact unhide HQ _ _ (unhide H3) | (rw [e10]; exact unhide HQ _ _ (unhide H3))
    · have hnl : ¬ (q : Int) + 1 < (len : Int) := by omega
      have hke : k = len / 2 := by omega
      clear hJs hnx hq
      gi_wp2
      go_end0
      refine ⟨⟨_, rfl⟩, .inl ?_⟩
      rw [← hke]
      exact unhide JJ
end Go.Proofs.Ytcfnbbelbadmkaa.Pai
