/-
  Contract: group.Write of lengths that may be written, behind nothing. Conditions: the lengths are complete; the writer is new.
  Plain facts: how often symbols are told, and the lengths that are made of it, in memory. No function of the program. No conditions.
  Contracts: the document's NewGroup, ReadGroup. Conditions: the bits are there, and few.
  Contract: the document's ReadGroup, where lengths are told. Conditions: the bits are there, and few.
-/
import Derived.Test.YtgjpcjnhggcfdaaGreatDoorC26
import Derived.Test.YtgjpcjnhggcfdaaGreatDoorC08
import Derived.Test.YtgjpcjnhggcfdaaGreatDoorC11
import Derived.Test.YtgjpcjnhggcfdaaGreatDoorC14
import Derived.Test.YtgjpcjnhggcfdaaGreatDoorC23
import Derived.Test.YtgjpcjnhggcfdaaGreatDoorC24
import Derived.Test.YtgjpcjnhggcfdaaGreatDoorC25
import Derived.Test.YtgjpcjnhggcfdaaGreatDoorC12
import Derived.Deep.RegionHeld3
namespace Go.Proofs.YtgjpcjnhggcfdaaGreatDoor.HWri
set_option linter.unusedVariables false
open Go.ChangeShapes Go.WideShapes Go.ChangeAt Go.RowKit Go.Proofs.YtgjpcjnhggcfdaaGreatDoor.Core Go.Proofs.YtgjpcjnhggcfdaaGreatDoor.Gnd Go.Proofs.YtgjpcjnhggcfdaaGreatDoor.Math Go.Proofs.YtgjpcjnhggcfdaaGreatDoor.Ord Go.Proofs.YtgjpcjnhggcfdaaGreatDoor.Foot Go.Proofs.YtgjpcjnhggcfdaaGreatDoor.Add Go.Proofs.YtgjpcjnhggcfdaaGreatDoor.HTw Go.Proofs.YtgjpcjnhggcfdaaGreatDoor.HNum Go.Proofs.YtgjpcjnhggcfdaaGreatDoor.HSiz Go.Proofs.YtgjpcjnhggcfdaaGreatDoor.HFit Go.Proofs.YtgjpcjnhggcfdaaGreatDoor.HFiv Go.Proofs.YtgjpcjnhggcfdaaGreatDoor.HLns Go.Proofs.YtgjpcjnhggcfdaaGreatDoor.Rse

/-- The lengths of the first k codes are told from bit 0 to bit q. -/
def LT (V c : Nat) (F : Nat → Nat → Nat) : Nat → Nat → Prop
  | 0, q => q = 0
  | k + 1, q => ∃ p, LT V c F k p ∧ p ≤ q ∧ TldAt V p (sz c k) (F k) q
theorem LT.same {V V' M c : Nat} {F : Nat → Nat → Nat} (e : V % 2 ^ M = V' % 2 ^ M) : ∀ {k q : Nat}, LT V c F k q → q ≤ M → LT V' c F k q
  | 0, _, h, _ => h
  | k + 1, q, h, hq => by
    obtain ⟨p, h1, h2, h3⟩ := h
    exact ⟨p, LT.same e h1 (by omega), h2, h3.same e hq⟩
theorem join_go (g h : Nat) (u v : Value) (U M : Nat) (w : World) (hv : Wr w g v 0 0) (hu : Wr w h u U M) (hN : M ≤ 900000)
    (hb : ∀ b, u.ownBlock = some b → b ≠ g ∧ (v.ownBlock = some b → M / 8 ≤ 0 / 8)) :
    Calls Tryz.prog 23 #[.pointer (some ⟨g, 0, none⟩), .pointer (some ⟨h, 0, none⟩)] w fun e w' => e = .returned (.tuple #[]) ∧ ∃ v', Wr w' g v' U M ∧ Turn g v v' (0 / 8) w w' := by
  have j := Joi.join_raw g h u v 0 0 U M w hv hu (by omega) hb
  rw [Nat.pow_zero, Nat.mul_one, Nat.zero_add, Nat.zero_add] at j
  exact j
/-- What Write leaves behind. -/
structure WrR (w : World) (gw : Nat) (u : Value) (c : Nat) (F : Nat → Nat → Nat) (e : Ending) (w' : World) : Prop where
  ret : e = .returned (.bool true)
  tw : ∃ u' V N, Tw w gw u 0 0 w' u' V N ∧ LT V c F 5 N ∧ N ≤ 300000
set_option maxHeartbeats 2000000 in
theorem write9 {w : World} {gw c lo : Nat} {u : Value} {G : Nat → Nat} {F : Nat → Nat → Nat} (hc : c ≤ 11) (hw : Wr w gw u 0 0) (rws : Rws lo w G c 5 F) (od : Ordr w) (hch : ∀ i, i < 5 → chk (fun j => (F i j : Int)) (sz c i) = 0)
    (hwa : ∀ i, i < 5 → ∀ j, j < sz c i → Wsm.want (F i) (sz c i) j = F i j) :
    Calls Tryz.prog 9 #[.pointer (some ⟨gw, 0, none⟩), .agg (fv (gs G c)), .int .i64 c] w fun e w' => WrR w gw u c F e w' := by
  have FI := hide (fun w => fits16 (fun i => some ⟨G i, 0, none⟩) (sz c) c hc w)
  rw [show (fv (sl5 (fun i => some ⟨G i, 0, none⟩) (sz c) (sz c))) = fv (gs G c) from rfl] at FI
  have IX := hide (index_fv (gs G c))
  have SZ := hide (fun i => sz_bd c i hc)
  have RW := hide rws
  have OD := hide od
  have HCH := hide hch
  have HWA := hide hwa
  have WW := hide hw
  clear hw rws od hch hwa hc
  simp only [fv] at *
  go_enter Tryz.func9, Tryz.ntmps9
  go_wp2_with fail
  refine (unhide FI _).mono ?_
  rintro e w1 ⟨rfl, b1⟩
  have bx := (Box.made w 30 #[gs G c 0, gs G c 1, gs G c 2, gs G c 3, gs G c 4]).below b1 (by simp)
  have B1 := hide ((bel_a1 w (.cells #[gs G c 0, gs G c 1, gs G c 2, gs G c 3, gs G c 4] 30)).trans (b1.mono (by simp)))
  have X1 := hide bx
  clear b1 bx FI
  go_wp2_with fail
  refine (nw_new _).mono ?_
  rintro e w2 ⟨ga, ua, rfl, n2⟩
  have bx := (unhide X1).below n2.bel (unhide X1).lt
  have x0 : w2.cell? ⟨w.heap.size, 0, none⟩ = some (gs G c 0) := bx.cell 0
  have x1 : w2.cell? ⟨w.heap.size, 1, none⟩ = some (gs G c 1) := bx.cell 1
  have x2 : w2.cell? ⟨w.heap.size, 2, none⟩ = some (gs G c 2) := bx.cell 2
  have x3 : w2.cell? ⟨w.heap.size, 3, none⟩ = some (gs G c 3) := bx.cell 3
  have x4 : w2.cell? ⟨w.heap.size, 4, none⟩ = some (gs G c 4) := bx.cell 4
  have xl := bx.lt
  have N2 := hide n2
  clear n2 bx
  go_wp2
  clear x0 x1 x2 x3 x4 xl
  have hs1 := hide (unhide B1).size
  go_loopw [20] (fun x wr => ∃ (i V N : Nat) (u' : Value), i ≤ 5 ∧ x = .int .i64 i ∧ Nw w1.heap.size w1 wr ga u' V N ∧ LT V c F i N ∧ N ≤ 55000 * i) (fun x _ => 5 - (intOf x).toNat)
  case atStart => exact ⟨0, 0, 0, ua, by omega, rfl, unhide N2, rfl, by omega⟩
  case round =>
    obtain ⟨i, V, N, u', hi5, rfl, n3, lt3, hN⟩ := hrel
    have N3 := hide n3
    have L3 := hide lt3
    clear n3 lt3 N2
    by_cases hlt : i < 5
    · have hlt' : (i : Int) < 5 := by omega
      have ix := unhide IX i hlt
      have B3 := bel_into (unhide B1) (unhide N3).bel
      have RWI := (((unhide RW).row i hlt).below B3 ((unhide RW).row i hlt).lt)
      have WO := hide (Wsm.write_ok ga (sz c i) u' (gs G c i) V N (F i) wr (unhide N3).wri (by omega) (Wsl.rw_box RWI) (by have := (unhide SZ i).1; omega) (by have := (unhide SZ i).2; omega) ((unhide OD).below B3) (.inr (unhide HCH i hlt)))
      have hz := hide (unhide SZ i).2
      clear B3 RWI
      go_wp2_with fail
      refine (unhide WO).mono ?_
      rintro e w5 ⟨u5, V2, N2', rfl, tw, tld, hb⟩
      have N5 := hide (Nw.put (unhide N3) tw.wri tw.turn)
      have hV := (unhide N3).wri.lt
      have L5 := hide (show LT (V + V2 * 2 ^ N) c F (i + 1) (N + N2') from ⟨N, (unhide L3).same (Lsp.nb_old V N V2).symm (Nat.le_refl _), by omega, tld_up hV (Wsm.Tld.congr tld (fun j hj => unhide HWA i hlt j hj))⟩)
      have HNN := hide (show N + N2' ≤ 55000 * (i + 1) by have := unhide hz; omega)
      clear tw tld hb hV WO ix
      generalize V + V2 * 2 ^ N = V5 at *
      generalize N + N2' = N5' at *
      go_wp2
      go_roundw
      case rel => exact ⟨i + 1, V5, N5', u5, by omega, by go_num, unhide N5, unhide L5, unhide HNN⟩
      case measure => simp [intOf]; omega
    · obtain rfl : i = 5 := by omega
      have B3 := bel_into (unhide B1) (unhide N3).bel
      have WT := (unhide WW).keep (Upd.ofBelow (S := fun _ => False) B3) (fun _ _ h => h)
      have JO := hide (join_go gw ga u' u V N wr WT (unhide N3).wri (by omega) (fun b hb => by
        have h1 := (unhide N3).ft b (.inr hb)
        have h2 := (unhide WW).raw.lt gw (.inl rfl)
        have h3 := unhide hs1
        refine ⟨by omega, fun h4 => ?_⟩
        have h5 := (unhide WW).raw.lt b (.inr h4)
        omega))
      have T3 := hide ((Tw.refl (unhide WW)).below B3)
      clear B3 WT
      go_wp2_with fail
      refine (unhide JO).mono ?_
      rintro e w7 ⟨rfl, v', wr', tu⟩
      have T7 := hide (Tw.put (unhide T3) wr' tu (Nat.zero_le _))
      clear wr' tu T3 JO
      go_wp2
      go_ret
      exact ⟨rfl, v', V, N, unhide T7, unhide L3, by omega⟩
end Go.Proofs.YtgjpcjnhggcfdaaGreatDoor.HWri

namespace Go.Proofs.YtgjpcjnhggcfdaaGreatDoor.HGme
set_option linter.unusedVariables false
open Go.ChangeShapes Go.WideShapes Go.ChangeAt Go.RowKit Go.Proofs.YtgjpcjnhggcfdaaGreatDoor.Core Go.Proofs.YtgjpcjnhggcfdaaGreatDoor.Gnd Go.Proofs.YtgjpcjnhggcfdaaGreatDoor.Math Go.Proofs.YtgjpcjnhggcfdaaGreatDoor.Ord Go.Proofs.YtgjpcjnhggcfdaaGreatDoor.Sml Go.Proofs.YtgjpcjnhggcfdaaGreatDoor.HNum Go.Proofs.YtgjpcjnhggcfdaaGreatDoor.HSiz Go.Proofs.YtgjpcjnhggcfdaaGreatDoor.HFit Go.Proofs.YtgjpcjnhggcfdaaGreatDoor.HFiv Go.Proofs.YtgjpcjnhggcfdaaGreatDoor.HCnt Go.Proofs.YtgjpcjnhggcfdaaGreatDoor.HGbn

/-- Counts C behind row X, lengths F behind row Y. -/
structure LI (w0 wr : World) (X Y : Nat) (G1 G2 : Nat → Nat) (c : Nat) (C F : Nat → Nat → Nat) : Prop where
  r1 : Rws w0.heap.size wr G1 c 5 C
  x : Box wr X 27 (fv (gs G1 c))
  l1 : ∀ k, k < 5 → G1 k < X
  r2 : Rws (X + 1) wr G2 c 5 F
  y : Box wr Y 30 (fv (gs G2 c))
  l2 : ∀ k, k < 5 → G2 k < Y
  bel : Below w0.heap.size w0 wr
  hX : w0.heap.size ≤ X
theorem LI.below {w0 wr w' : World} {X Y : Nat} {G1 G2 : Nat → Nat} {c : Nat} {C F : Nat → Nat → Nat} (h : LI w0 wr X Y G1 G2 c C F) (u : Below wr.heap.size wr w') : LI w0 w' X Y G1 G2 c C F :=
  ⟨⟨h.r1.low, h.r1.rise, fun k hk => (h.r1.row k hk).below u (h.r1.row k hk).lt⟩, h.x.below u h.x.lt, h.l1, ⟨h.r2.low, h.r2.rise, fun k hk => (h.r2.row k hk).below u (h.r2.row k hk).lt⟩, h.y.below u h.y.lt, h.l2, h.bel.trans (u.mono h.bel.size), h.hX⟩
theorem LI.congr {w0 wr : World} {X Y : Nat} {G1 G2 : Nat → Nat} {c : Nat} {C F F' : Nat → Nat → Nat} (h : LI w0 wr X Y G1 G2 c C F) (e : ∀ k, k < 5 → ∀ s, s < sz c k → F k s = F' k s) : LI w0 wr X Y G1 G2 c C F' :=
  ⟨h.r1, h.x, h.l1, rws_congr h.r2 e, h.y, h.l2, h.bel, h.hX⟩
/-- One length is set. -/
def upd2 (F : Nat → Nat → Nat) (i s z : Nat) (k j : Nat) : Nat := if k = i then (if j = s then z else F i j) else F k j
theorem LI.set {w0 wr : World} {X Y : Nat} {G1 G2 : Nat → Nat} {c i s : Nat} {C F : Nat → Nat → Nat} (h : LI w0 wr X Y G1 G2 c C F) (hi : i < 5) (z : Nat) (v : Value) (hv : v = .int .i64 z) : LI w0 (wr.setCell ⟨G2 i, s, none⟩ v) X Y G1 G2 c C (upd2 F i s z) := by
  subst hv
  have a1 := h.r2.low i hi
  have a2 := h.l2 i hi
  have a3 := h.hX
  refine ⟨⟨h.r1.low, h.r1.rise, fun k hk => (h.r1.row k hk).other (p := ⟨G2 i, s, none⟩) (by have := h.l1 k hk; show G1 k ≠ G2 i; omega) _⟩, h.x.other (p := ⟨G2 i, s, none⟩) (by show X ≠ G2 i; omega) _, h.l1, ⟨h.r2.low, h.r2.rise, fun k hk => ?_⟩, h.y.other (p := ⟨G2 i, s, none⟩) (by show Y ≠ G2 i; omega) _, h.l2, h.bel.setCell (p := ⟨G2 i, s, none⟩) (by show w0.heap.size ≤ G2 i; omega) _, h.hX⟩
  by_cases ek : k = i
  · subst ek
    have b := (h.r2.row k hk).set s (.int .i64 z)
    rw [na_set] at b
    have e : upd2 F k s z k = fun j => if j = s then z else F k j := by funext j; unfold upd2; rw [if_pos rfl]
    rw [e]
    exact b
  · have e : upd2 F i s z k = F k := by funext j; unfold upd2; rw [if_neg ek]
    rw [e]
    exact (h.r2.row k hk).other (p := ⟨G2 i, s, none⟩) (by show G2 k ≠ G2 i; exact rws_inj h.r2 hk hi ek) _
theorem LI.cX {w0 wr : World} {X Y : Nat} {G1 G2 : Nat → Nat} {c : Nat} {C F : Nat → Nat → Nat} (h : LI w0 wr X Y G1 G2 c C F) (i : Nat) (hi : i < 5) : wr.cell? ⟨X, i, none⟩ = some (.slice (some ⟨G1 i, 0, none⟩) (sz c i) (sz c i)) := (h.x.cell i).trans (fv_at (gs G1 c) i hi)
theorem LI.cY {w0 wr : World} {X Y : Nat} {G1 G2 : Nat → Nat} {c : Nat} {C F : Nat → Nat → Nat} (h : LI w0 wr X Y G1 G2 c C F) (i : Nat) (hi : i < 5) : wr.cell? ⟨Y, i, none⟩ = some (.slice (some ⟨G2 i, 0, none⟩) (sz c i) (sz c i)) := (h.y.cell i).trans (fv_at (gs G2 c) i hi)
theorem LI.cC {w0 wr : World} {X Y : Nat} {G1 G2 : Nat → Nat} {c : Nat} {C F : Nat → Nat → Nat} (h : LI w0 wr X Y G1 G2 c C F) (i : Nat) (hi : i < 5) (k : Nat) (hk : k < sz c i) : wr.cell? ⟨G1 i, k, none⟩ = some (.int .i64 (C i k)) := ((h.r1.row i hi).cell k).trans (na_at _ _ _ hk)
theorem LI.cF {w0 wr : World} {X Y : Nat} {G1 G2 : Nat → Nat} {c : Nat} {C F : Nat → Nat → Nat} (h : LI w0 wr X Y G1 G2 c C F) (i : Nat) (hi : i < 5) (k : Nat) (hk : k < sz c i) : wr.cell? ⟨G2 i, k, none⟩ = some (.int .i64 (F i k)) := ((h.r2.row i hi).cell k).trans (na_at _ _ _ hk)
/-- All lengths may be written. -/
def Gds (c : Nat) (F : Nat → Nat → Nat) : Prop := ∀ k, k < 5 → Gd (F k) (sz c k)
/-- The lengths of the first k symbols of code i are laid. -/
def Laid (C F F0 : Nat → Nat → Nat) (i n k : Nat) : Prop := (∀ j, j ≠ i → F j = F0 j) ∧ ∀ j, j < k → F i j = if C i j = 0 then 0 else n
/-- Of code i, symbols from k on are as laid; all are 0 or n. -/
def Filled (C F F0 : Nat → Nat → Nat) (i n z k l : Nat) : Prop := (∀ j, j ≠ i → F j = F0 j) ∧ (∀ j, j < z → F i j = 0 ∨ F i j = n) ∧ (∀ j, k ≤ j → j < z → F i j = if C i j = 0 then 0 else n) ∧ many (fun j => (F i j : Int)) z + l = 2 ^ n
theorem Laid.zero {C F : Nat → Nat → Nat} {i n : Nat} : Laid C F F i n 0 := ⟨fun _ _ => rfl, fun j hj => by omega⟩
theorem Laid.next {C F F0 : Nat → Nat → Nat} {i n k : Nat} (h : Laid C F F0 i n k) (z : Nat) (hz : z = if C i k = 0 then 0 else n) : Laid C (upd2 F i k z) F0 i n (k + 1) := by
  refine ⟨fun j hj => ?_, fun j hj => ?_⟩
  · rw [← h.1 j hj]; funext s; unfold upd2; rw [if_neg hj]
  · unfold upd2
    rw [if_pos rfl]
    by_cases e : j = k
    · subst e; rw [if_pos rfl, hz]
    · rw [if_neg e]; exact h.2 j (by omega)
theorem upd2_twice (F : Nat → Nat → Nat) (i s y z : Nat) : upd2 (upd2 F i s y) i s z = upd2 F i s z := by
  funext k j
  unfold upd2
  repeat' split
  all_goals first | rfl | (exfalso; omega) | simp_all
theorem many_if (C : Nat → Nat) (n : Nat) (hn : n ≠ 0) : ∀ z, many (fun j => ((if C j = 0 then 0 else n : Nat) : Int)) z = many (fun j => (C j : Int)) z
  | 0 => rfl
  | z + 1 => by
    have ih := many_if C n hn z
    rw [many, ih, many]
    by_cases e : C z = 0
    · simp [e]
    · have : ¬ (n : Int) = 0 := by omega
      have : ¬ (C z : Int) = 0 := by omega
      simp [*]
theorem many_upd (f g : Nat → Nat) (s : Nat) (h0 : f s = 0) (h1 : g s ≠ 0) (h : ∀ j, j ≠ s → g j = f j) : ∀ z, many (fun j => (g j : Int)) z = many (fun j => (f j : Int)) z + if s < z then 1 else 0
  | 0 => by simp [many]
  | z + 1 => by
    have ih := many_upd f g s h0 h1 h z
    rw [many, ih, many]
    by_cases e : z = s
    · subst e
      rw [h0, if_neg (by omega), if_neg (by omega), if_pos (by simp), if_pos (by omega)]
    · rw [h z e]
      by_cases h2 : s < z
      · rw [if_pos h2, if_pos (show s < z + 1 by omega)]; omega
      · rw [if_neg h2, if_neg (show ¬ s < z + 1 by omega)]; omega
theorem Laid.filled {C F F0 : Nat → Nat → Nat} {i n z m l : Nat} (h : Laid C F F0 i n z) (hn : n ≠ 0) (hm : many (fun j => (C i j : Int)) z = m) (hl : m + l = 2 ^ n) : Filled C F F0 i n z 0 l := by
  refine ⟨h.1, fun j hj => ?_, fun j _ hj => h.2 j hj, ?_⟩
  · rw [h.2 j hj]; split <;> simp
  · rw [Wsh.many_congr z (d := fun j => ((if C i j = 0 then 0 else n : Nat) : Int)) (fun k hk => by simp only [h.2 k hk]), many_if _ _ hn, hm]; exact hl
theorem Filled.skip {C F F0 : Nat → Nat → Nat} {i n z k l : Nat} (h : Filled C F F0 i n z k l) : Filled C F F0 i n z (k + 1) l := ⟨h.1, h.2.1, fun j h1 h2 => h.2.2.1 j (by omega) h2, h.2.2.2⟩
theorem Filled.put {C F F0 : Nat → Nat → Nat} {i n z k l : Nat} (h : Filled C F F0 i n z k (l + 1)) (hk : k < z) (hn : n ≠ 0) (hc : C i k = 0) : Filled C (upd2 F i k n) F0 i n z (k + 1) l := by
  have h0 : F i k = 0 := by rw [h.2.2.1 k (Nat.le_refl _) hk, if_pos hc]
  have e1 : upd2 F i k n i k = n := by simp [upd2]
  have e2 : ∀ j, j ≠ k → upd2 F i k n i j = F i j := fun j hj => by simp [upd2, hj]
  refine ⟨fun j hj => ?_, fun j hj => ?_, fun j h1 h2 => ?_, ?_⟩
  · rw [← h.1 j hj]; funext s; unfold upd2; rw [if_neg hj]
  · by_cases e : j = k
    · subst e; exact .inr e1
    · rw [e2 j e]; exact h.2.1 j hj
  · rw [e2 j (by omega)]; exact h.2.2.1 j (by omega) h2
  · have := many_upd (F i) (upd2 F i k n i) k h0 (by rw [e1]; exact hn) e2 z
    rw [if_pos hk] at this
    have := h.2.2.2
    omega
theorem Filled.gds {C F F0 : Nat → Nat → Nat} {c i n k : Nat} (h : Filled C F F0 i n (sz c i) k 0) (h0 : 1 ≤ n) (h1 : n ≤ 15) (g : Gds c F0) : Gds c F := fun j hj => by
  by_cases e : j = i
  · subst e
    exact gd_all (F j) (sz c j) n h0 h1 h.2.1 h.2.2.2
  · rw [h.1 j e]; exact g j hj
/-- Lengths F behind row Y. -/
structure YI (w wx : World) (Y c : Nat) (G : Nat → Nat) (F : Nat → Nat → Nat) : Prop where
  r : Rws w.heap.size wx G c 5 F
  y : Box wx Y 30 (fv (gs G c))
  l : ∀ k, k < 5 → G k < Y
  bel : Below w.heap.size w wx
  g : Gds c F
theorem LI.yi {w w0 wr : World} {X Y : Nat} {G1 G2 : Nat → Nat} {c : Nat} {C F : Nat → Nat → Nat} (h : LI w0 wr X Y G1 G2 c C F) (b : Below w.heap.size w w0) (g : Gds c F) : YI w wr Y c G2 F := by
  have h1 := b.size
  have h2 := h.hX
  exact ⟨⟨fun k hk => by have := h.r2.low k hk; omega, h.r2.rise, h.r2.row⟩, h.y, h.l2, bel_into b h.bel, g⟩
theorem info27 {V : Nat → Value} : (Tryz.prog.info? 27).map (·.size) = some (fv V).size := by
  rw [show (fv V).size = 5 from rfl]; kernel_rfl
theorem info30 {V : Nat → Value} : (Tryz.prog.info? 30).map (·.size) = some (fv V).size := by
  rw [show (fv V).size = 5 from rfl]; kernel_rfl
theorem gs_one (G : Nat → Nat) (c : Nat) : (fv (gs G c)).all (·.oneCell') = true := by simp [fv, gs, Value.oneCell']
/-- What Count answers, in one. -/
theorem cnt_one {w w' : World} {c : Nat} {ok : Prop} {f : Nat → Nat → Nat} {e : Ending} (h : HCou.CntR w c ok f e w') : ∃ (V : Nat → Value) (b : Bool), e = .returned (.tuple #[.agg (fv V), .bool b]) ∧ (fv V).all (·.oneCell') = true ∧ (b = true → ∃ G, V = gs G c ∧ Rws w.heap.size w' G c 5 f) := by
  by_cases hok : ok
  · obtain ⟨G, h1, h2⟩ := h.yes hok
    exact ⟨gs G c, true, h1, gs_one G c, fun _ => ⟨G, rfl, h2⟩⟩
  · exact ⟨_, false, h.no hok, by simp [fv, Value.oneCell'], fun h => by cases h⟩
theorem f1_gds (c : Nat) (hc : c ≤ 11) (s : Nat → Nat) : Gds c (fun i => f1 (s i % sz c i) 1) := fun k _ => gd_one _ _ (Nat.mod_lt _ (by have := (sz_bd c k hc).1; omega))
/-- Where count and lengths lie, once both are made. -/
theorem li_start {wA w1 w2 w3 w4 : World} {G1 G2 : Nat → Nat} {c : Nat} {C F : Nat → Nat → Nat} (r1 : Rws wA.heap.size w1 G1 c 5 C) (b1 : Below wA.heap.size wA w1) (b2 : Below w1.heap.size w1 w2) (s2 : w2.heap.size = w1.heap.size + 1) (x : Box w2 w1.heap.size 27 (fv (gs G1 c)))
    (r2 : Rws w2.heap.size w3 G2 c 5 F) (b3 : Below w2.heap.size w2 w3) (b4 : Below w3.heap.size w3 w4) (y : Box w4 w3.heap.size 30 (fv (gs G2 c))) : LI wA w4 w1.heap.size w3.heap.size G1 G2 c C F := by
  have h13 : Below w1.heap.size w1 w3 := bel_into b2 b3
  have h14 : Below w1.heap.size w1 w4 := bel_into h13 b4
  have h24 : Below w2.heap.size w2 w4 := bel_into b3 b4
  exact ⟨⟨r1.low, r1.rise, fun k hk => (r1.row k hk).below h14 (r1.row k hk).lt⟩, x.below h24 x.lt, fun k hk => (r1.row k hk).lt, ⟨fun k hk => by have := r2.low k hk; omega, r2.rise, fun k hk => (r2.row k hk).below b4 (r2.row k hk).lt⟩, y, fun k hk => (r2.row k hk).lt, bel_into b1 h14, b1.size⟩
/-- The same, where count answered nothing. -/
theorem yi_start {wA w1 w2 w3 w4 : World} {G2 : Nat → Nat} {c : Nat} {F : Nat → Nat → Nat} (b1 : Below wA.heap.size wA w1) (b2 : Below w1.heap.size w1 w2)
    (r2 : Rws w2.heap.size w3 G2 c 5 F) (b3 : Below w2.heap.size w2 w3) (b4 : Below w3.heap.size w3 w4) (y : Box w4 w3.heap.size 30 (fv (gs G2 c))) (g : Gds c F) : YI wA w4 w3.heap.size c G2 F := by
  have h12 := bel_into b1 b2
  exact ⟨⟨fun k hk => by have := r2.low k hk; have := h12.size; omega, r2.rise, fun k hk => (r2.row k hk).below b4 (r2.row k hk).lt⟩, y, fun k hk => (r2.row k hk).lt, bel_into (bel_into h12 b3) b4, g⟩
theorem YI.from {w w0 wr : World} {Y c : Nat} {G : Nat → Nat} {F : Nat → Nat → Nat} (h : YI w0 wr Y c G F) (b : Below w.heap.size w w0) : YI w wr Y c G F :=
  ⟨⟨fun k hk => by have := h.r.low k hk; have := b.size; omega, h.r.rise, h.r.row⟩, h.y, h.l, bel_into b h.bel, h.g⟩
end Go.Proofs.YtgjpcjnhggcfdaaGreatDoor.HGme

namespace Go.Proofs.YtgjpcjnhggcfdaaGreatDoor.HRgr
set_option linter.unusedVariables false
open Go.ChangeShapes Go.WideShapes Go.ChangeAt Go.RowKit Go.Proofs.YtgjpcjnhggcfdaaGreatDoor.Core Go.Proofs.YtgjpcjnhggcfdaaGreatDoor.Gnd Go.Proofs.YtgjpcjnhggcfdaaGreatDoor.Math Go.Proofs.YtgjpcjnhggcfdaaGreatDoor.Ord Go.Proofs.YtgjpcjnhggcfdaaGreatDoor.Sml Go.Proofs.YtgjpcjnhggcfdaaGreatDoor.Foot Go.Proofs.YtgjpcjnhggcfdaaGreatDoor.Add Go.Proofs.YtgjpcjnhggcfdaaGreatDoor.Bitin Go.Proofs.YtgjpcjnhggcfdaaGreatDoor.Eyes Go.Proofs.YtgjpcjnhggcfdaaGreatDoor.HNum Go.Proofs.YtgjpcjnhggcfdaaGreatDoor.HSiz Go.Proofs.YtgjpcjnhggcfdaaGreatDoor.HFit Go.Proofs.YtgjpcjnhggcfdaaGreatDoor.HFiv Go.Proofs.YtgjpcjnhggcfdaaGreatDoor.HLns Go.Proofs.YtgjpcjnhggcfdaaGreatDoor.HWri

/-- Ten slices. -/
def rgc (u v : Nat → Value) : Array Value := #[u 0, u 1, u 2, u 3, u 4, v 0, v 1, v 2, v 3, v 4]
theorem rgc_u (u v : Nat → Value) (i : Nat) (h : i < 5) : (rgc u v)[i]? = some (u i) := by
  rcases lt5 h with rfl | rfl | rfl | rfl | rfl <;> rfl
theorem rgc_v (u v : Nat → Value) (i : Nat) (h : i < 5) : (rgc u v)[5 + i]? = some (v i) := by
  rcases lt5 h with rfl | rfl | rfl | rfl | rfl <;> rfl
theorem rgc_set (u v : Nat → Value) (i : Nat) (h : i < 5) (x : Value) : (rgc u v).setIfInBounds (5 + i) x = rgc u (fun k => if k = i then x else v k) := by
  rcases lt5 h with rfl | rfl | rfl | rfl | rfl <;> rfl
theorem rgc_congr {u v v' : Nat → Value} (h : ∀ i, i < 5 → v i = v' i) : rgc u v = rgc u v' := by
  unfold rgc; rw [h 0 (by omega), h 1 (by omega), h 2 (by omega), h 3 (by omega), h 4 (by omega)]
/-- The codes' cells. -/
def Cds (w : World) (b n : Nat) (F : Nat → Nat) : Prop := ∀ j, j < n → w.cell? ⟨b, j, none⟩ = some (.int .u32 (cod (fun j => (F j : Int)) n j : Nat))
/-- The document's group, of which the first i codes are known. -/
structure RGI (w : World) (lo g c i : Nat) (L C : Nat → Nat) (F : Nat → Nat → Nat) : Prop where
  box : Box w g 115 (rgc (gs L c) (fu C c i))
  len : ∀ k, k < 5 → lo ≤ L k ∧ Box w (L k) 3 (nr (F k) (sz c k)).toArray
  cds : ∀ k, k < i → lo ≤ C k ∧ C k < w.heap.size ∧ Cds w (C k) (sz c k) (F k)
  low : lo ≤ g
theorem RGI.keep {S : Nat → Prop} {w w' : World} {lo g c i : Nat} {L C : Nat → Nat} {F : Nat → Nat → Nat} (h : RGI w lo g c i L C F) (u : Upd S w w') (hs : ∀ k, lo ≤ k → k < w.heap.size → ¬ S k) : RGI w' lo g c i L C F :=
  ⟨h.box.keep u (hs g h.low h.box.lt), fun k hk => ⟨(h.len k hk).1, (h.len k hk).2.keep u (hs _ (h.len k hk).1 (h.len k hk).2.lt)⟩,
    fun k hk => by
      obtain ⟨a, b, d⟩ := h.cds k hk
      exact ⟨a, Nat.lt_of_lt_of_le b u.size, fun j hj => (u.cell (p := ⟨C k, j, none⟩) b (hs _ a b)).trans (d j hj)⟩, h.low⟩
theorem RGI.below {w w' : World} {lo g c i : Nat} {L C : Nat → Nat} {F : Nat → Nat → Nat} (h : RGI w lo g c i L C F) (u : Below w.heap.size w w') : RGI w' lo g c i L C F :=
  h.keep (Upd.ofBelow (S := fun _ => False) u) (fun _ _ _ h => h)
theorem RGI.next {w w' : World} {lo g c i b : Nat} {L C : Nat → Nat} {F : Nat → Nat → Nat} (h : RGI w lo g c i L C F) (hi : i < 5) (u : Below w.heap.size w w') (hb : w.heap.size ≤ b) (hb2 : b < w'.heap.size) (hl : lo ≤ w.heap.size) (hc : Cds w' b (sz c i) (F i)) (hne : ∀ k, k < 5 → L k ≠ g) (hnc : ∀ k, k < i → C k ≠ g) :
    RGI (w'.setCell ⟨g, 5 + i, none⟩ (.slice (some ⟨b, 0, none⟩) (sz c i) (sz c i))) lo g c (i + 1) L (fun k => if k = i then b else C k) F := by
  have h1 := h.below u
  have hg := h.box.lt
  have us : Upd (fun k => k = g) w' (w'.setCell ⟨g, 5 + i, none⟩ (.slice (some ⟨b, 0, none⟩) (sz c i) (sz c i))) := (Upd.refl (fun k => k = g) w').setCell (p := ⟨g, 5 + i, none⟩) rfl _
  refine ⟨?_, fun k hk => ⟨(h1.len k hk).1, (h1.len k hk).2.keep us (hne k hk)⟩, fun k hk => ?_, h.low⟩
  · have bx := h1.box.set (5 + i) (.slice (some ⟨b, 0, none⟩) (sz c i) (sz c i))
    rw [rgc_set _ _ _ hi, rgc_congr (v' := fu (fun k => if k = i then b else C k) c (i + 1)) (fun k _ => by
      unfold fu gs
      by_cases e : k = i
      · subst e; simp
      · by_cases e2 : k < i
        · have e3 : k < i + 1 := by omega
          simp only [if_neg e, if_pos e2, if_pos e3]
        · have e3 : ¬ k < i + 1 := by omega
          simp only [if_neg e, if_neg e2, if_neg e3])] at bx
    exact bx
  · by_cases e : k = i
    · subst e
      simp only [if_true]
      exact ⟨by omega, Nat.lt_of_lt_of_le hb2 us.size, fun j hj => (us.cell (p := ⟨b, j, none⟩) hb2 (by show ¬ b = g; omega)).trans (hc j hj)⟩
    · simp only [if_neg e]
      obtain ⟨a, b', d⟩ := h1.cds k (by omega)
      exact ⟨a, Nat.lt_of_lt_of_le b' us.size, fun j hj => (us.cell (p := ⟨C k, j, none⟩) b' (hnc k (by omega))).trans (d j hj)⟩
theorem cds_of {w : World} {b n : Nat} {F : Nat → Nat} (h : Ints .u32 w (.slice (some ⟨b, 0, none⟩) n n) n (fun k => (cod (fun j => (F j : Int)) n k : Int))) : Cds w b n F := fun j hj => by
  obtain ⟨a, cap, e, hc⟩ := h
  cases e
  obtain ⟨b', off, e2, h2⟩ := hc j hj
  cases e2
  rw [Nat.zero_add] at h2
  exact h2
theorem keep_set {w : World} {p a : Addr} {v : Value} (h : w.cell? p = some v) (hne : p.block ≠ a.block) (x : Value) : (w.setCell a x).cell? p = some v :=
  ((Upd.refl (fun k => k = a.block) w).setCell (p := a) rfl x).cell (lt_of_cell h) hne |>.trans h
theorem thru {w1 wz w5 : World} {p : Addr} {v : Value} (b1 : Below w1.heap.size w1 wz) (b5 : Below wz.heap.size wz w5) (h : w1.cell? p = some v) : w5.cell? p = some v :=
  (b5.cell (Nat.lt_of_lt_of_le (lt_of_cell h) b1.size)).trans ((b1.cell (lt_of_cell h)).trans h)
theorem bel_d0 (w : World) : Below w.heap.size w w.drew := bel_dr (Below.refl _ _)
/-- What NewGroup answers. -/
structure NgR (w : World) (lo c : Nat) (L : Nat → Nat) (F : Nat → Nat → Nat) (e : Ending) (w' : World) : Prop where
  ex : ∃ g C, e = .returned (.pointer (some ⟨g, 0, none⟩)) ∧ RGI w' lo g c 5 L C F
  bel : Below w.heap.size w w'
set_option maxHeartbeats 2000000 in
theorem newg29 {w : World} {lo c : Nat} {L : Nat → Nat} {F : Nat → Nat → Nat} (hc : c ≤ 11) (hl : lo ≤ w.heap.size) (len : ∀ k, k < 5 → lo ≤ L k ∧ Box w (L k) 3 (nr (F k) (sz c k)).toArray) (hch : ∀ i, i < 5 → chk (fun j => (F i j : Int)) (sz c i) = 0) :
    Calls Tryz.prog 29 #[.agg (fv (gs L c))] w fun e w' => NgR w lo c L F e w' := by
  have SZ := hide (fun i => sz_bd c i hc)
  have LEN := hide len
  have HCH := hide hch
  have HL := hide hl
  clear len hch hc hl
  simp only [fv] at *
  go_enter Tryz.func29, Tryz.ntmps29
  go_wp2
  have bA := (Box.made w 30 #[gs L c 0, gs L c 1, gs L c 2, gs L c 3, gs L c 4]).alloc (.cells #[gs L c 0, gs L c 1, gs L c 2, gs L c 3, gs L c 4, .slice none 0 0, .slice none 0 0, .slice none 0 0, .slice none 0 0, .slice none 0 0] 115)
  have bG := Box.made (w.alloc (.cells #[gs L c 0, gs L c 1, gs L c 2, gs L c 3, gs L c 4] 30)) 115 #[gs L c 0, gs L c 1, gs L c 2, gs L c 3, gs L c 4, .slice none 0 0, .slice none 0 0, .slice none 0 0, .slice none 0 0, .slice none 0 0]
  rw [size_a] at bG
  have bb := (bel_a1 w (.cells #[gs L c 0, gs L c 1, gs L c 2, gs L c 3, gs L c 4] 30)).alloc (by simp) (.cells #[gs L c 0, gs L c 1, gs L c 2, gs L c 3, gs L c 4, .slice none 0 0, .slice none 0 0, .slice none 0 0, .slice none 0 0, .slice none 0 0] 115)
  have hl := unhide HL
  have I0 : RGI ((w.alloc (.cells #[gs L c 0, gs L c 1, gs L c 2, gs L c 3, gs L c 4] 30)).alloc (.cells #[gs L c 0, gs L c 1, gs L c 2, gs L c 3, gs L c 4, .slice none 0 0, .slice none 0 0, .slice none 0 0, .slice none 0 0, .slice none 0 0] 115)) lo (w.heap.size + 1) c 0 L (fun _ => 0) F :=
    ⟨bG, fun k hk => ⟨(unhide LEN k hk).1, ((unhide LEN k hk).2.alloc _).alloc _⟩, fun k hk => by omega, by omega⟩
  have I1 := hide I0
  have A1 := hide (show Box _ w.heap.size 30 (fv (gs L c)) from bA)
  have B1 := hide bb
  have HLT := hide (show ∀ k, k < 5 → L k < w.heap.size from fun k hk => (unhide LEN k hk).2.lt)
  clear bA bG bb hl I0
  generalize (w.alloc (.cells #[gs L c 0, gs L c 1, gs L c 2, gs L c 3, gs L c 4] 30)).alloc (.cells #[gs L c 0, gs L c 1, gs L c 2, gs L c 3, gs L c 4, .slice none 0 0, .slice none 0 0, .slice none 0 0, .slice none 0 0, .slice none 0 0] 115) = w2 at *
  go_loopw [4] (fun x wr => ∃ (i : Nat) (C : Nat → Nat), i ≤ 5 ∧ x = .int .i64 i ∧ RGI wr lo (w.heap.size + 1) c i L C F ∧ Box wr w.heap.size 30 (fv (gs L c)) ∧ Below w.heap.size w wr ∧ ∀ k, k < i → w.heap.size + 1 < C k) (fun x _ => 5 - (intOf x).toNat)
  case atStart => exact ⟨0, _, by omega, rfl, unhide I1, unhide A1, unhide B1, fun k hk => by omega⟩
  case round =>
    obtain ⟨i, C, hi5, rfl, I2, a2, b2, hC⟩ := hrel
    have IR := hide I2
    have A2 := hide a2
    have B2 := hide b2
    have CL := hide hC
    clear I1 A1 B1 hC b2
    by_cases hlt : i < 5
    · have hlt' : (i : Int) < 5 := by omega
      have ca := (a2.cell i).trans (fv_at _ i hlt)
      rw [show gs L c i = .slice (some ⟨L i, 0, none⟩) (sz c i) (sz c i) from rfl] at ca
      have gl := I2.box.lt
      have gf := I2.box.free (5 + i)
      have gc := (I2.box.cell (5 + i)).trans (rgc_v _ _ i hlt)
      have al := a2.lt
      obtain ⟨hg, _, hk⟩ := chk_zero (unhide HCH i hlt)
      have CD := hide (fun (w' : World) (b : Below wr.heap.size wr w') => Rcd.rcodes_new (.slice (some ⟨L i, 0, none⟩) (sz c i) (sz c i)) (sz c i) (fun j => (F i j : Int)) (by have := (unhide SZ i).2; omega) hg (hk : kr _ _ ≤ 32768) w' (ints_row ((I2.len i hlt).2.below b (I2.len i hlt).2.lt)))
      have NX := hide (fun (w' : World) (b : Below wr.heap.size wr w') (hb2 : wr.heap.size < w'.heap.size) (hc : Cds w' wr.heap.size (sz c i) (F i)) => RGI.next (b := wr.heap.size) (unhide IR) hlt b (Nat.le_refl _) hb2 (by have := unhide HL; have := (unhide B2).size; omega) hc (fun k hk => by have := unhide HLT k hk; omega) (fun k hk => by have := unhide CL k hk; omega))
      have hgl2 := hide gl
      have hz0 := (unhide SZ i).1
      have hne : w.heap.size ≠ w.heap.size + 1 := by omega
      clear I2 a2 hg hk
      generalize hzz : sz c i = z at *
      generalize L i = li at *
      have CL2 := hide (fun (b : Nat) => show ∀ k, k < i + 1 → w.heap.size + 1 < (if k = i then wr.heap.size else C k) from fun k hk => by
        by_cases e : k = i
        · rw [if_pos e]; exact unhide hgl2
        · rw [if_neg e]; exact unhide CL k (by omega))
      go_wp2_with fail
      go_region_held3 (fun w' => w'.cell? ⟨w.heap.size, i, none⟩ = some (.slice (some ⟨li, 0, none⟩) z z)) (first | exact z1 | exact keep_set z1 hne _ | go_keep) ((go_at_call 53; (with_reducible refine Calls.mono (unhide CD _ (by first | exact bel_d0 _ | exact Below.refl _ _)) ?_); rintro e w5 ⟨rfl, ic, b5⟩; have B5 := hide (show Below wr.heap.size wr w5 from bel_into (by first | exact bel_d0 wr | exact Below.refl _ wr) b5); have IC := hide (show Cds w5 wr.heap.size z (F i) from cds_of ic); have LT5 := hide (show wr.heap.size < w5.heap.size from lt_of_cell (p := ⟨wr.heap.size, 0, none⟩) ((unhide IC : Cds w5 wr.heap.size z (F i)) 0 (by omega))); have z1 := thru (Below.refl _ _) (unhide B5) ca; have I5 := (unhide IR).below (unhide B5); have gl5 := I5.box.lt; have gf5 := I5.box.free (5 + i); have gc5 := (I5.box.cell (5 + i)).trans (rgc_v _ _ i hlt); have IN := hide (unhide NX w5 (unhide B5) (unhide LT5) (unhide IC)); have A5 := hide (((unhide A2).below (unhide B5) (unhide A2).lt).other (p := ⟨w.heap.size + 1, 5 + i, none⟩) hne (.slice (some ⟨wr.heap.size, 0, none⟩) z z)); have BB5 := hide ((bel_into (unhide B2) (unhide B5)).setCell (p := ⟨w.heap.size + 1, 5 + i, none⟩) (Nat.le_succ _) (.slice (some ⟨wr.heap.size, 0, none⟩) z z)); clear ic b5 I5))
      all_goals go_wp2_with fail
      all_goals go_roundw
      all_goals first
        | exact ⟨i + 1, _, by omega, by go_num, unhide IN, unhide A5, unhide BB5, unhide CL2 0⟩
        | (simp [intOf]; omega)
    · obtain rfl : i = 5 := by omega
      clear I2 a2
      go_wp2
      go_ret
      exact ⟨⟨_, C, rfl, unhide IR⟩, unhide B2⟩
end Go.Proofs.YtgjpcjnhggcfdaaGreatDoor.HRgr

namespace Go.Proofs.YtgjpcjnhggcfdaaGreatDoor.HRdg
set_option linter.unusedVariables false
open Go.ChangeShapes Go.WideShapes Go.ChangeAt Go.RowKit Go.Proofs.YtgjpcjnhggcfdaaGreatDoor.Core Go.Proofs.YtgjpcjnhggcfdaaGreatDoor.Gnd Go.Proofs.YtgjpcjnhggcfdaaGreatDoor.Math Go.Proofs.YtgjpcjnhggcfdaaGreatDoor.Ord Go.Proofs.YtgjpcjnhggcfdaaGreatDoor.Bitin Go.Proofs.YtgjpcjnhggcfdaaGreatDoor.Eyes Go.Proofs.YtgjpcjnhggcfdaaGreatDoor.HNum Go.Proofs.YtgjpcjnhggcfdaaGreatDoor.HSiz Go.Proofs.YtgjpcjnhggcfdaaGreatDoor.HFit Go.Proofs.YtgjpcjnhggcfdaaGreatDoor.HFiv Go.Proofs.YtgjpcjnhggcfdaaGreatDoor.HLns Go.Proofs.YtgjpcjnhggcfdaaGreatDoor.HWri Go.Proofs.YtgjpcjnhggcfdaaGreatDoor.HRgr

theorem LT.pos {V c : Nat} {F : Nat → Nat → Nat} : ∀ {k q : Nat}, LT V c F k q → ∃ P : Nat → Nat, P 0 = 0 ∧ P k = q ∧ ∀ j, j < k → P j ≤ q ∧ P (j + 1) ≤ q ∧ TldAt V (P j) (sz c j) (F j) (P (j + 1))
  | 0, q, h => ⟨fun _ => 0, rfl, h.symm, fun j hj => by omega⟩
  | k + 1, q, h => by
    obtain ⟨p, h1, h2, h3⟩ := h
    obtain ⟨P, a, b, d⟩ := LT.pos h1
    refine ⟨fun j => if j ≤ k then P j else q, by simp [a], if_neg (by omega), fun j hj => ?_⟩
    have e1 : j ≤ k := by omega
    rcases Nat.lt_or_ge j k with e | e
    · obtain ⟨x, y, z⟩ := d j e
      have e2 : j + 1 ≤ k := by omega
      simp only [if_pos e1, if_pos e2]
      exact ⟨by omega, by omega, z⟩
    · obtain rfl : j = k := by omega
      have e2 : ¬ j + 1 ≤ j := by omega
      simp only [if_pos e1, if_neg e2]
      rw [b]
      exact ⟨h2, Nat.le_refl _, h3⟩
/-- What ReadGroup has read. -/
structure RdI (w wr : World) (elo ehi e bl c i p Z : Nat) (bc : Nat → Nat) (L : Nat → Nat) (F : Nat → Nat → Nat) : Prop where
  box : Box wr w.heap.size 30 (fv (fu L c i))
  siz : Box wr Z 55 (fvn (sz c))
  len : ∀ k, k < i → w.heap.size < L k ∧ Z < L k ∧ Box wr (L k) 3 (nr (F k) (sz c k)).toArray
  eye : Eyes wr elo ehi e bc bl (some p)
  upd : Upd (fun k => k = e) w wr
theorem RdI.next {w wr w' : World} {elo ehi e bl c i p p' Z b : Nat} {bc : Nat → Nat} {L : Nat → Nat} {F : Nat → Nat → Nat} (h : RdI w wr elo ehi e bl c i p Z bc L F) (hi : i < 5) (u : Upd (fun k => k = e) wr w') (hb : wr.heap.size ≤ b) (bx : Box w' b 3 (nr (F i) (sz c i)).toArray) (ey : Eyes w' elo ehi e bc bl (some p'))
    (he : e < w.heap.size) (heh : ehi ≤ w.heap.size) (hZ : w.heap.size < Z) :
    RdI w (w'.setCell ⟨w.heap.size, i, none⟩ (.slice (some ⟨b, 0, none⟩) (sz c i) (sz c i))) elo ehi e bl c (i + 1) p' Z bc (fun k => if k = i then b else L k) F := by
  have hB := h.box.lt
  have hZl := h.siz.lt
  have us : Upd (fun k => k = w.heap.size) w' (w'.setCell ⟨w.heap.size, i, none⟩ (.slice (some ⟨b, 0, none⟩) (sz c i) (sz c i))) := (Upd.refl (fun k => k = w.heap.size) w').setCell (p := ⟨w.heap.size, i, none⟩) rfl _
  refine ⟨?_, (h.siz.keep u (show ¬ Z = e by omega)).keep us (show ¬ Z = w.heap.size by omega), fun k hk => ?_, ey.keep us (fun k _ h2 => by show ¬ k = w.heap.size; omega), upd_new (h.upd.trans u) (p := ⟨w.heap.size, i, none⟩) (Nat.le_refl _) _⟩
  · have b1 := (h.box.keep u (show ¬ w.heap.size = e by omega)).set i (.slice (some ⟨b, 0, none⟩) (sz c i) (sz c i))
    rw [fu_next _ _ _ _ hi] at b1
    exact b1
  · by_cases ek : k = i
    · subst ek
      simp only [if_true]
      exact ⟨by omega, by omega, bx.keep us (show ¬ b = w.heap.size by omega)⟩
    · simp only [if_neg ek]
      obtain ⟨a1, a2, a3⟩ := h.len k (by omega)
      exact ⟨a1, a2, (a3.keep u (show ¬ L k = e by omega)).keep us (show ¬ L k = w.heap.size by omega)⟩
/-- What ReadGroup answers. -/
structure RdR (w : World) (elo ehi e bl c q : Nat) (bc : Nat → Nat) (F : Nat → Nat → Nat) (r : Ending) (w' : World) : Prop where
  ex : ∃ g L C, r = .returned (.tuple #[.pointer (some ⟨g, 0, none⟩), .int .i64 0]) ∧ RGI w' w.heap.size g c 5 L C F
  eye : Eyes w' elo ehi e bc bl (some q)
  upd : Upd (fun k => k = e) w w'
set_option maxHeartbeats 2000000 in
theorem read14 {w : World} {elo ehi e bl c q V : Nat} {bc : Nat → Nat} {F : Nat → Nat → Nat} (hc : c ≤ 11) (hbc : ∀ k, bc k ≤ 255) (hbl : bl ≤ 100000) (ey : Eyes w elo ehi e bc bl (some 0)) (hlo : elo ≤ e ∧ e < ehi ∧ ehi ≤ w.heap.size)
    (hV : num bc 0 bl = V) (hq : q ≤ 8 * bl) (lt : LT V c F 5 q) (hch : ∀ i, i < 5 → chk (fun j => (F i j : Int)) (sz c i) = 0) :
    Calls Tryz.prog 14 #[.pointer (some ⟨e, 0, none⟩), .int .i64 c] w fun r w' => RdR w elo ehi e bl c q bc F r w' := by
  obtain ⟨PP, p0, p5, ps⟩ := LT.pos lt
  have SI := hide (fun w => sizes15 c hc w)
  have SZ := hide (fun i => sz_bd c i hc)
  have RA := hide (fun (i : Nat) (hi : i < 5) (wr : World) (ey : Eyes wr elo ehi e bc bl (some (PP i))) (hl : ehi ≤ wr.heap.size) => ref_at elo ehi e bl (PP i) (sz c i) (PP (i + 1)) V (F i) bc hbc hbl wr ey ⟨hlo.1, hlo.2.1, hl⟩ (by have := (sz_bd c i hc).1; omega) (by have := (sz_bd c i hc).2; omega) hV (by have := (ps i hi).2.1; omega) (ps i hi).2.2 (hch i hi))
  have NG := hide (fun (wr : World) (L : Nat → Nat) (hl : w.heap.size ≤ wr.heap.size) (len : ∀ k, k < 5 → w.heap.size ≤ L k ∧ Box wr (L k) 3 (nr (F k) (sz c k)).toArray) => newg29 hc hl len hch)
  have EY := hide ey
  have HLO := hide hlo
  have P05 := hide (And.intro p0 p5)
  clear ey hlo ps hch lt hV hc p0 p5
  unfold fvn at SI
  simp only [fv] at NG
  go_enter Tryz.func14, Tryz.ntmps14
  go_wp2_with fail
  refine (unhide SI _).mono ?_
  rintro r1 w1 ⟨rfl, b1⟩
  have bF := (Box.made w 30 (fv (fun _ => .slice none 0 0))).below b1 (Box.made w 30 _).lt
  have B1 := hide (bel_into (bel_a1 w (.cells (fv (fun _ => .slice none 0 0)) 30)) b1)
  have BF := hide bF
  clear b1 bF SI
  go_wp2
  have I0 : RdI w (w1.alloc (.cells #[.int .i64 (sz c 0 : Nat), .int .i64 (sz c 1 : Nat), .int .i64 (sz c 2 : Nat), .int .i64 (sz c 3 : Nat), .int .i64 (sz c 4 : Nat)] 55)) elo ehi e bl c 0 (PP 0) w1.heap.size bc (fun _ => 0) F := by
    have hb := (unhide B1).alloc (unhide B1).size (.cells #[.int .i64 (sz c 0 : Nat), .int .i64 (sz c 1 : Nat), .int .i64 (sz c 2 : Nat), .int .i64 (sz c 3 : Nat), .int .i64 (sz c 4 : Nat)] 55)
    refine ⟨(unhide BF).alloc _, Box.made w1 55 _, fun k hk => by omega, ?_, Upd.ofBelow hb⟩
    rw [(unhide P05).1]
    exact (unhide EY).keep (Upd.ofBelow (S := fun _ => False) hb) (fun _ _ _ h => h)
  have hZ := hide (unhide BF).lt
  have II := hide I0
  clear I0 EY BF B1
  generalize w1.alloc (.cells #[.int .i64 (sz c 0 : Nat), .int .i64 (sz c 1 : Nat), .int .i64 (sz c 2 : Nat), .int .i64 (sz c 3 : Nat), .int .i64 (sz c 4 : Nat)] 55) = w2 at *
  generalize w1.heap.size = Z at *
  go_loopw [8] (fun x wr => ∃ (i : Nat) (L : Nat → Nat), i ≤ 5 ∧ x = .int .i64 i ∧ RdI w wr elo ehi e bl c i (PP i) Z bc L F) (fun x _ => 5 - (intOf x).toNat)
  case atStart => exact ⟨0, _, by omega, rfl, unhide II⟩
  case round =>
    obtain ⟨i, L, hi5, rfl, I1⟩ := hrel
    have IR := hide I1
    clear II
    by_cases hlt : i < 5
    · have hlt' : (i : Int) < 5 := by omega
      have cz := (I1.siz.cell i).trans (fvn_at (sz c) i hlt)
      have RL := hide (unhide RA i hlt wr I1.eye (by have := (unhide HLO).2.2; have := I1.upd.size; omega))
      have zl := I1.siz.lt
      clear I1
      go_wp2_with fail
      refine (unhide RL).mono ?_
      rintro r5 w5 ⟨b, rfl, hb, bx, ey5, u5⟩
      have f5 := ((unhide IR).box.keep u5 (show ¬ w.heap.size = e by have := (unhide HLO).2.1; have := (unhide HLO).2.2; omega))
      have fl := f5.lt
      have ff := f5.free i
      have fc := (f5.cell i).trans (fv_at _ i hlt)
      have IN := hide ((unhide IR).next hlt u5 hb bx ey5 (by have := (unhide HLO).2.1; have := (unhide HLO).2.2; omega) (unhide HLO).2.2 (unhide hZ))
      clear f5 hb bx ey5 u5 RL cz zl
      go_wp2
      go_roundw
      case rel => exact ⟨i + 1, _, by omega, by go_num, unhide IN⟩
      case measure => simp [intOf]; omega
    · obtain rfl : i = 5 := by omega
      have q0 : wr.cell? ⟨w.heap.size, 0, none⟩ = some (gs L c 0) := I1.box.cell 0
      have q1 : wr.cell? ⟨w.heap.size, 1, none⟩ = some (gs L c 1) := I1.box.cell 1
      have q2 : wr.cell? ⟨w.heap.size, 2, none⟩ = some (gs L c 2) := I1.box.cell 2
      have q3 : wr.cell? ⟨w.heap.size, 3, none⟩ = some (gs L c 3) := I1.box.cell 3
      have q4 : wr.cell? ⟨w.heap.size, 4, none⟩ = some (gs L c 4) := I1.box.cell 4
      have NN := hide (unhide NG wr L I1.upd.size (fun k hk => ⟨Nat.le_of_lt (I1.len k hk).1, (I1.len k hk).2.2⟩))
      clear I1
      go_wp2_with fail
      refine (unhide NN).mono ?_
      rintro r7 w7 ⟨⟨g, C, rfl, rg⟩, b7⟩
      have RG := hide rg
      have EY7 := hide ((unhide IR).eye.keep (Upd.ofBelow (S := fun _ => False) b7) (fun _ _ _ h => h))
      have U7 := hide ((unhide IR).upd.trans (Upd.ofBelow b7))
      clear rg b7 q0 q1 q2 q3 q4 NN
      go_wp2
      go_ret2
      refine ⟨⟨g, L, C, rfl, unhide RG⟩, ?_, unhide U7⟩
      rw [← (unhide P05).2]; exact unhide EY7
end Go.Proofs.YtgjpcjnhggcfdaaGreatDoor.HRdg
