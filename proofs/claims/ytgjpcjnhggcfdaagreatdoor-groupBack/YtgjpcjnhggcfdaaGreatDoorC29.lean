/-
  Contract: the document's Step, where a step is told. Conditions: the group and the eye lie apart in memory; the bits are there.
  Contract: the document's Step, where a step is told: a Known, a Literal, a Copy. Conditions: the group and the eye lie apart in memory; the bits are there.
  Plain facts: steps told to a writer, and kept in a row of one's own; what they told. No function of the program. Conditions: as each says.
  What is proved: the law's walk, where the steps may be read. Conditions: as each says.
-/
import Derived.Test.YtgjpcjnhggcfdaaGreatDoorC28
import Derived.Test.YtgjpcjnhggcfdaaGreatDoorC24
import Derived.Test.YtgjpcjnhggcfdaaGreatDoorC27
import Derived.Test.YtgjpcjnhggcfdaaGreatDoorC26
import Derived.Laws.StructEq
import Derived.Lib.QuietBelow
import Derived.Deep.RegionLaw
import Derived.Deep.RegionHeld3
import Derived.Laws.ResultCell
import Derived.Deep.CutRange
namespace Go.Proofs.YtgjpcjnhggcfdaaGreatDoor.HSpp
set_option linter.unusedVariables false
open Go.ChangeShapes Go.WideShapes Go.ChangeAt Go.RowKit Go.Proofs.YtgjpcjnhggcfdaaGreatDoor.Core Go.Proofs.YtgjpcjnhggcfdaaGreatDoor.Gnd Go.Proofs.YtgjpcjnhggcfdaaGreatDoor.Math Go.Proofs.YtgjpcjnhggcfdaaGreatDoor.Dec Go.Proofs.YtgjpcjnhggcfdaaGreatDoor.Ord Go.Proofs.YtgjpcjnhggcfdaaGreatDoor.Tre Go.Proofs.YtgjpcjnhggcfdaaGreatDoor.Foot Go.Proofs.YtgjpcjnhggcfdaaGreatDoor.Bitin Go.Proofs.YtgjpcjnhggcfdaaGreatDoor.Eyes Go.Proofs.YtgjpcjnhggcfdaaGreatDoor.Lsp Go.Proofs.YtgjpcjnhggcfdaaGreatDoor.VNum Go.Proofs.YtgjpcjnhggcfdaaGreatDoor.PNum Go.Proofs.YtgjpcjnhggcfdaaGreatDoor.HNum Go.Proofs.YtgjpcjnhggcfdaaGreatDoor.HSiz Go.Proofs.YtgjpcjnhggcfdaaGreatDoor.HFit Go.Proofs.YtgjpcjnhggcfdaaGreatDoor.HFiv Go.Proofs.YtgjpcjnhggcfdaaGreatDoor.HHas Go.Proofs.YtgjpcjnhggcfdaaGreatDoor.HTel Go.Proofs.YtgjpcjnhggcfdaaGreatDoor.HPar Go.Proofs.YtgjpcjnhggcfdaaGreatDoor.HVal Go.Proofs.YtgjpcjnhggcfdaaGreatDoor.HSay Go.Proofs.YtgjpcjnhggcfdaaGreatDoor.HRgr Go.Proofs.YtgjpcjnhggcfdaaGreatDoor.HRst

/-- What the codes are, and all bits: they tell a step from bit i on. -/
structure Tel (c : Nat) (F : Nat → Nat → Nat) (q : Nat → Pa) (V N i : Nat) : Prop where
  hc : c ≤ 11
  lt : V < 2 ^ N
  le : N ≤ 700000
  ch : ∀ k, k < 5 → chk (fun j => (F k j : Int)) (sz c k) = 0
  ok : okA c (fun k j => (F k j : Int)) q = true
  sy : Says c (fun k j => (F k j : Int)) q V i
  fin : tN c (fun k j => (F k j : Int)) q i 5 ≤ N
/-- The place behind the first k parts. -/
def ps (c : Nat) (F : Nat → Nat → Nat) (q : Nat → Pa) (i k : Nat) : Nat := tN c (fun k j => (F k j : Int)) q i k
/-- The place behind the symbol of part k. -/
def pm (c : Nat) (F : Nat → Nat → Nat) (q : Nat → Pa) (i k : Nat) : Nat := ps c F q i k + ql c (fun k j => (F k j : Int)) q k
theorem pm_next (c : Nat) (F : Nat → Nat → Nat) (q : Nat → Pa) (i k : Nat) (h : (q k).th = true) : ps c F q i (k + 1) = pm c F q i k + (q k).bi := tN_next c _ q i k h
theorem ps_skip (c : Nat) (F : Nat → Nat → Nat) (q : Nat → Pa) (i k : Nat) (h : (q k).th = false) : ps c F q i (k + 1) = ps c F q i k := tN_skip c _ q i k h
theorem ps_zero (c : Nat) (F : Nat → Nat → Nat) (q : Nat → Pa) (i : Nat) : ps c F q i 0 = i := rfl
theorem Tel.up {c : Nat} {F : Nat → Nat → Nat} {q : Nat → Pa} {V N i k : Nat} (t : Tel c F q V N i) (hk : k < 5) (h : (q k).th = true) : pm c F q i k + (q k).bi ≤ N := by
  have h1 := pm_next c F q i k h
  have h2 : ps c F q i (k + 1) ≤ ps c F q i 5 := tN_up c _ q i (show k + 1 ≤ 5 by omega)
  have h3 : ps c F q i 5 ≤ N := t.fin
  omega
theorem sym_at {w : World} {lo g c : Nat} {L C : Nat → Nat} {F : Nat → Nat → Nat} {elo ehi e V N i j : Nat} {q : Nat → Pa} (t : Tel c F q V N i) (k : Nat) (hk : k < 5) (ht : (q k).th = true) (hj : j = ps c F q i k) (h : RE w lo g c L C F elo ehi e ((N + 7) / 8) j (byt V)) :
    Calls Tryz.prog 30 #[.pointer (some ⟨g, 0, none⟩), .int .i64 k, .pointer (some ⟨e, 0, none⟩)] w fun r w' => r = .returned (.int .i64 (q k).sy) ∧ RB w lo g c L C F elo ehi e ((N + 7) / 8) (pm c F q i k) (byt V) w' := by
  subst hj
  have hh : hasB (fun j => (F k j : Int)) (sz c k) (q k).sy = true := by
    have := okA_at t.ok hk
    unfold okU at this
    rw [ht] at this
    simpa using this
  have hL := t.up hk ht
  have hle := t.le
  exact sym30 h t.hc (byt_le V) (by omega) k hk (t.ch k hk) (says_nx t.sy t.lt t.fin hk ht (t.ch k hk) hh) (by show pm c F q i k ≤ _; omega)
theorem num_at {w : World} {lo g c : Nat} {L C : Nat → Nat} {F : Nat → Nat → Nat} {elo ehi e V N i n : Nat} {q : Nat → Pa} (t : Tel c F q V N i) (k : Nat) (hk : k < 5) (ht : (q k).th = true) (hbi : (q k).bi = exn (sv n)) (hex : (q k).ex = xv n) (h0 : 1 ≤ n) (h1 : n ≤ 1048576)
    (h : RE w lo g c L C F elo ehi e ((N + 7) / 8) (pm c F q i k) (byt V)) :
    Calls Tryz.prog 32 #[.int .i64 (sv n : Nat), .pointer (some ⟨e, 0, none⟩)] w fun r w' => r = .returned (.int .i64 n) ∧ RB w lo g c L C F elo ehi e ((N + 7) / 8) (ps c F q i (k + 1)) (byt V) w' := by
  have hL := t.up hk ht
  have hle := t.le
  have hnx := pm_next c F q i k ht
  rw [hbi] at hL hnx
  rw [hnx]
  have hs := (t.sy k hk ht).2
  rw [hbi, hex] at hs
  exact num32 h (byt_le V) (by omega) n h0 h1 (by rw [HLns.num_bits V N t.lt]; exact hs) (by omega)
theorem short_at {w : World} {lo g c : Nat} {L C : Nat → Nat} {F : Nat → Nat → Nat} {elo ehi e bl i : Nat} {bc : Nat → Nat} (h : RE w lo g c L C F elo ehi e bl i bc) : w.cell? ⟨e, 2, none⟩ = some (.bool false) := Sym.eye_short h.ey
theorem RB.go {w w1 w2 : World} {lo g c : Nat} {L C : Nat → Nat} {F : Nat → Nat → Nat} {elo ehi e bl i j : Nat} {bc : Nat → Nat} (h : RB w lo g c L C F elo ehi e bl i bc w1) (k : RB w1 lo g c L C F elo ehi e bl j bc w2) : RB w lo g c L C F elo ehi e bl j bc w2 := ⟨k.re, h.upd.trans k.upd⟩
/-- What Step answers. -/
structure SpR (w : World) (lo g c : Nat) (L C : Nat → Nat) (F : Nat → Nat → Nat) (elo ehi e bl i : Nat) (bc : Nat → Nat) (t : Tk) (r : Ending) (w' : World) : Prop where
  ret : r = .returned (.tuple #[.agg (tkc t), .int .i64 0])
  rb : RB w lo g c L C F elo ehi e bl i bc w'
theorem start {w : World} {lo g c : Nat} {L C : Nat → Nat} {F : Nat → Nat → Nat} {elo ehi e bl i : Nat} {bc : Nat → Nat} (h : RE w lo g c L C F elo ehi e bl i bc) (o : Obj) : RB w lo g c L C F elo ehi e bl i bc (w.alloc o) :=
  ⟨h.keep ((Upd.refl (fun _ => False) w).alloc o) (fun _ _ _ h => h), (Upd.refl _ w).alloc o⟩
theorem RB.res {w w1 : World} {lo g c : Nat} {L C : Nat → Nat} {F : Nat → Nat → Nat} {elo ehi e bl i : Nat} {bc : Nat → Nat} (h : RB w lo g c L C F elo ehi e bl i bc w1) (hl : lo ≤ w.heap.size) (hgl : g < w.heap.size) (cs : Array Value) (hall : ∀ k, k < 5 → L k < w.heap.size ∧ C k < w.heap.size) (ehl : ehi ≤ w.heap.size) : RB w lo g c L C F elo ehi e bl i bc (w1.setRow w.heap.size cs) := by
  have us : Upd (fun k => k = w.heap.size) w1 (w1.setRow w.heap.size cs) := ⟨rfl, rfl, rfl, by simp [World.setRow], fun k _ hs => setRow_other w1 _ k cs hs⟩
  refine ⟨⟨⟨h.re.rg.box.keep us (show ¬ g = w.heap.size by omega), fun k hk => ⟨(h.re.rg.len k hk).1, (h.re.rg.len k hk).2.keep us (show ¬ L k = w.heap.size by have := (hall k hk).1; omega)⟩, fun k hk => ?_, h.re.rg.low⟩, h.re.ey.keep us (fun k _ h2 => by show ¬ k = w.heap.size; omega), h.re.e0, h.re.ap⟩, ?_⟩
  · obtain ⟨a, b, d⟩ := h.re.rg.cds k hk
    exact ⟨a, Nat.lt_of_lt_of_le b us.size, fun j hj => (us.cell (p := ⟨C k, j, none⟩) b (show ¬ C k = w.heap.size by have := (hall k hk).2; omega)).trans (d j hj)⟩
  · exact ⟨h.upd.os, h.upd.tape, h.upd.output, by simpa [World.setRow] using h.upd.size, fun k hk hs => (setRow_other w1 _ k cs (by omega)).trans (h.upd.block k hk hs)⟩
end Go.Proofs.YtgjpcjnhggcfdaaGreatDoor.HSpp

namespace Go.Proofs.YtgjpcjnhggcfdaaGreatDoor.HStq
set_option linter.unusedVariables false
open Go.ChangeShapes Go.WideShapes Go.ChangeAt Go.RowKit Go.Proofs.YtgjpcjnhggcfdaaGreatDoor.Core Go.Proofs.YtgjpcjnhggcfdaaGreatDoor.Gnd Go.Proofs.YtgjpcjnhggcfdaaGreatDoor.Foot Go.Proofs.YtgjpcjnhggcfdaaGreatDoor.VNum Go.Proofs.YtgjpcjnhggcfdaaGreatDoor.PNum Go.Proofs.YtgjpcjnhggcfdaaGreatDoor.PPrt Go.Proofs.YtgjpcjnhggcfdaaGreatDoor.PRmk Go.Proofs.YtgjpcjnhggcfdaaGreatDoor.HNum Go.Proofs.YtgjpcjnhggcfdaaGreatDoor.HSiz Go.Proofs.YtgjpcjnhggcfdaaGreatDoor.HTel Go.Proofs.YtgjpcjnhggcfdaaGreatDoor.HPar Go.Proofs.YtgjpcjnhggcfdaaGreatDoor.HVal Go.Proofs.YtgjpcjnhggcfdaaGreatDoor.HSay Go.Proofs.YtgjpcjnhggcfdaaGreatDoor.HRst Go.Proofs.YtgjpcjnhggcfdaaGreatDoor.HSpp

theorem info_tk {t : Tk} : (Tryz.prog.info? 44).map (·.size) = some (tkc t).size := by
  rw [show (tkc t).size = 5 from rfl]; kernel_rfl
theorem tkc_one (t : Tk) : (tkc t).all (·.oneCell') = true := by simp [tkc, Value.oneCell']
def t0 : Tk := ⟨0, 0, 0, 0, 0⟩
/-- The places that lie ahead of a world. -/
structure Old (w : World) (lo g : Nat) (L C : Nat → Nat) (ehi : Nat) : Prop where
  l : lo ≤ w.heap.size
  gl : g < w.heap.size
  all : ∀ k, k < 5 → L k < w.heap.size ∧ C k < w.heap.size
  eh : ehi ≤ w.heap.size
theorem old_of {w : World} {lo g c : Nat} {L C : Nat → Nat} {F : Nat → Nat → Nat} {elo ehi e bl i : Nat} {bc : Nat → Nat} (h : RE w lo g c L C F elo ehi e bl i bc) : Old w lo g L C ehi := by
  have h1 := h.rg.box.lt
  have h2 := h.rg.low
  have h3 := h.ap
  exact ⟨by omega, h1, fun k hk => ⟨(h.rg.len k hk).2.lt, (h.rg.cds k hk).2.1⟩, by omega⟩
theorem rb_fin {w w1 : World} {lo g c : Nat} {L C : Nat → Nat} {F : Nat → Nat → Nat} {elo ehi e bl i : Nat} {bc : Nat → Nat} (h : RB w lo g c L C F elo ehi e bl i bc w1) (o : Old w lo g L C ehi) (cs : Array Value) : RB w lo g c L C F elo ehi e bl i bc (w1.setRow w.heap.size cs) := HSpp.RB.res h o.l o.gl cs o.all o.eh
theorem rb_below {w w1 w2 : World} {lo g c : Nat} {L C : Nat → Nat} {F : Nat → Nat → Nat} {elo ehi e bl i : Nat} {bc : Nat → Nat} (h : RB w lo g c L C F elo ehi e bl i bc w1) (b : Below w1.heap.size w1 w2) : RB w lo g c L C F elo ehi e bl i bc w2 :=
  ⟨h.re.keep (Upd.ofBelow (S := fun _ => False) b) (fun _ _ _ h => h), h.upd.trans (Upd.ofBelow b)⟩
set_option maxHeartbeats 1000000 in
theorem step_kno {w : World} {lo g c : Nat} {L C : Nat → Nat} {F : Nat → Nat → Nat} {elo ehi e V N i : Nat} (j : Nat) (hj : j ≤ 3000) (wd : Int) (t : Tel c F (pkn j) V N i) (h : RE w lo g c L C F elo ehi e ((N + 7) / 8) i (byt V)) :
    Calls Tryz.prog 15 #[.pointer (some ⟨g, 0, none⟩), .pointer (some ⟨e, 0, none⟩), .int .i64 wd] w fun r w' => SpR w lo g c L C F elo ehi e ((N + 7) / 8) (ps c F (pkn j) i 5) (byt V) ⟨3, 0, 0, j, 0⟩ r w' := by
  have OL := hide (old_of h)
  have SY := hide (sym_at t 0 (by omega) rfl rfl (HSpp.start h (.cells (tkc t0) 44)).re)
  rw [show ((pkn j 0).sy : Nat) = 280 + j from rfl] at SY
  have ST := hide (HSpp.start h (.cells (tkc t0) 44))
  have BX := hide (Box.made w 44 (tkc t0))
  have elt := h.lt
  have PE := hide (show pm c F (pkn j) i 0 = ps c F (pkn j) i 5 by
    have h1 : ps c F (pkn j) i 1 = pm c F (pkn j) i 0 + (pkn j 0).bi := pm_next c F (pkn j) i 0 rfl
    have h2 : ps c F (pkn j) i 2 = ps c F (pkn j) i 1 := ps_skip c F (pkn j) i 1 rfl
    have h3 : ps c F (pkn j) i 3 = ps c F (pkn j) i 2 := ps_skip c F (pkn j) i 2 rfl
    have h4 : ps c F (pkn j) i 4 = ps c F (pkn j) i 3 := ps_skip c F (pkn j) i 3 rfl
    have h5 : ps c F (pkn j) i 5 = ps c F (pkn j) i 4 := ps_skip c F (pkn j) i 4 rfl
    have h6 : (pkn j 0).bi = 0 := rfl
    omega)
  rw [unhide PE] at SY
  have e280 : ((280 + j : Nat) : Int) - 280 = (j : Int) := by omega
  have hge : (280 : Int) ≤ ((280 + j : Nat) : Int) := by omega
  have hsb : ((280 + j : Nat) : Int) ≤ 5000 := by omega
  clear h t
  simp only [tkc, t0] at SY ST BX
  generalize 280 + j = s at *
  go_enter Tryz.func15, Tryz.ntmps15
  go_wp2_with fail
  refine (unhide SY).mono ?_
  rintro r1 w1 ⟨rfl, rb⟩
  have R1 := hide (HSpp.RB.go (unhide ST) rb)
  have X1 := hide ((unhide BX).keep rb.upd (show ¬ w.heap.size = e by omega))
  clear rb SY ST BX
  go_wp2_with (first | (refine wpList_store_row rfl 44 (.tmp 6) (.tmp 25) rfl w.heap.size (tkc ⟨3, 0, 0, j, 0⟩) rfl rfl 44 _ (unhide X1) info_tk rfl (tkc_one _) ?_) | fail)
  exact bodyPost_ret (results_row_tmp rfl _ _ w.heap.size 44 (tkc ⟨3, 0, 0, j, 0⟩) (0, 0) _ rfl (setRow_box (unhide X1) _) Tryz.underlying44 rfl info_tk) rfl ⟨rfl, rb_fin (unhide R1) (unhide OL) _⟩
theorem rnd_in (n : Nat) (h : n < 256) : rnd (n : Int) = n := by
  have := rnd_is (n : Int)
  rw [show ((n : Int)).tmod 256 = ((n % 256 : Nat) : Int) from rfl, Nat.mod_eq_of_lt h] at this
  have h2 : (((n : Int)) + 256).tmod 256 = (((n + 256) % 256 : Nat) : Int) := rfl
  rw [h2] at this
  omega
set_option maxRecDepth 20000 in
set_option maxHeartbeats 2000000 in
theorem step_lit {w : World} {lo g c : Nat} {L C : Nat → Nat} {F : Nat → Nat → Nat} {elo ehi e V N i : Nat} (a : Nat) (ha : a < 4294967296) (wd : Int) (t : Tel c F (plit a) V N i) (h : RE w lo g c L C F elo ehi e ((N + 7) / 8) i (byt V)) :
    Calls Tryz.prog 15 #[.pointer (some ⟨g, 0, none⟩), .pointer (some ⟨e, 0, none⟩), .int .i64 wd] w fun r w' => SpR w lo g c L C F elo ehi e ((N + 7) / 8) (ps c F (plit a) i 5) (byt V) ⟨1, 0, 0, 0, a⟩ r w' := by
  have OL := hide (old_of h)
  have ST := hide (HSpp.start h (.cells (tkc t0) 44))
  have BX := hide (Box.made w 44 (tkc t0))
  have elt := h.lt
  have P1 : pm c F (plit a) i 0 = ps c F (plit a) i 1 := (pm_next c F (plit a) i 0 rfl).symm
  have P2 : pm c F (plit a) i 1 = ps c F (plit a) i 2 := (pm_next c F (plit a) i 1 rfl).symm
  have P3 : pm c F (plit a) i 2 = ps c F (plit a) i 3 := (pm_next c F (plit a) i 2 rfl).symm
  have P4 : pm c F (plit a) i 3 = ps c F (plit a) i 5 := ((pm_next c F (plit a) i 3 rfl).symm).trans (ps_skip c F (plit a) i 4 rfl).symm
  have S0 := hide (sym_at t 0 (by omega) rfl rfl (HSpp.start h (.cells (tkc t0) 44)).re)
  have S1 := hide (fun (w' : World) (r : RE w' lo g c L C F elo ehi e ((N + 7) / 8) (ps c F (plit a) i 1) (byt V)) => sym_at t 1 (by omega) rfl rfl r)
  have S2 := hide (fun (w' : World) (r : RE w' lo g c L C F elo ehi e ((N + 7) / 8) (ps c F (plit a) i 2) (byt V)) => sym_at t 2 (by omega) rfl rfl r)
  have S3 := hide (fun (w' : World) (r : RE w' lo g c L C F elo ehi e ((N + 7) / 8) (ps c F (plit a) i 3) (byt V)) => sym_at t 3 (by omega) rfl rfl r)
  rw [P1] at S0
  rw [P2] at S1
  rw [P3] at S2
  rw [P4] at S3
  rw [show ((plit a 0).sy : Nat) = pt a 2 from rfl] at S0
  rw [show ((plit a 1).sy : Nat) = pt a 1 from rfl] at S1
  rw [show ((plit a 2).sy : Nat) = pt a 3 from rfl] at S2
  rw [show ((plit a 3).sy : Nat) = pt a 0 from rfl] at S3
  have MK := hide (fun w => make29 (fun k => (pt a k : Int)) w (fun k hk => by have := pt_lt a k; omega))
  rw [show mk (fun k => rnd ((fun k => (pt a k : Int)) k)) = a from mk_is ha (fun k hk => rnd_in _ (pt_lt a k))] at MK
  have l2 : ((pt a 2 : Nat) : Int) < 256 := by have := pt_lt a 2; omega
  clear h t P1 P2 P3 P4
  simp only [tkc, t0] at S0 ST BX
  unfold four at MK
  simp only at MK
  generalize ps c F (plit a) i 1 = p1 at *
  generalize ps c F (plit a) i 2 = p2 at *
  generalize ps c F (plit a) i 3 = p3 at *
  generalize pt a 0 = y0 at *
  generalize pt a 1 = y1 at *
  generalize pt a 2 = y2 at *
  generalize pt a 3 = y3 at *
  go_enter Tryz.func15, Tryz.ntmps15
  go_wp2_with fail
  refine (unhide S0).mono ?_
  rintro r1 w1 ⟨rfl, rb⟩
  have R1 := hide (HSpp.RB.go (unhide ST) rb)
  have X1 := hide ((unhide BX).keep rb.upd (show ¬ w.heap.size = e by omega))
  have Q1 := hide (unhide S1 w1 rb.re)
  clear rb S0 ST BX S1
  go_wp2_with fail
  refine (unhide Q1).mono ?_
  rintro r2 w2 ⟨rfl, rb⟩
  have R2 := hide (HSpp.RB.go (unhide R1) rb)
  have X2 := hide ((unhide X1).keep rb.upd (show ¬ w.heap.size = e by omega))
  have Q2 := hide (unhide S2 w2 rb.re)
  clear rb Q1 R1 X1 S2
  go_wp2_with fail
  refine (unhide Q2).mono ?_
  rintro r3 w3 ⟨rfl, rb⟩
  have R3 := hide (HSpp.RB.go (unhide R2) rb)
  have X3 := hide ((unhide X2).keep rb.upd (show ¬ w.heap.size = e by omega))
  have Q3 := hide (unhide S3 w3 rb.re)
  clear rb Q2 R2 X2 S3
  go_wp2_with fail
  refine (unhide Q3).mono ?_
  rintro r4 w4 ⟨rfl, rb⟩
  have R4 := hide (HSpp.RB.go (unhide R3) rb)
  have X4 := hide ((unhide X3).keep rb.upd (show ¬ w.heap.size = e by omega))
  have sh := short_at rb.re
  have el4 := rb.re.lt
  clear rb Q3 R3 X3
  go_wp2_with fail
  refine (unhide MK _).mono ?_
  rintro r5 w5 ⟨rfl, b5⟩
  have R5 := hide (rb_below (unhide R4) b5)
  have X5 := hide ((unhide X4).below b5 (unhide X4).lt)
  clear b5 R4 X4 sh el4
  go_wp2_with (first | (refine wpList_store_row rfl 44 (.tmp 6) (.tmp 60) rfl w.heap.size (tkc ⟨1, 0, 0, 0, a⟩) rfl rfl 44 _ (unhide X5) info_tk rfl (tkc_one _) ?_) | fail)
  exact bodyPost_ret (results_row_tmp rfl _ _ w.heap.size 44 (tkc ⟨1, 0, 0, 0, a⟩) (0, 0) _ rfl (setRow_box (unhide X5) _) Tryz.underlying44 rfl info_tk) rfl ⟨rfl, rb_fin (unhide R5) (unhide OL) _⟩
set_option maxRecDepth 20000 in
set_option maxHeartbeats 2000000 in
theorem step_cpy {w : World} {lo g c : Nat} {L C : Nat → Nat} {F : Nat → Nat → Nat} {elo ehi e V N i : Nat} (n m : Nat) (n0 : 1 ≤ n) (n1 : n ≤ 4096) (m0 : 1 ≤ m) (m1 : m ≤ 1048576) (wd : Int) (t : Tel c F (pcp n m) V N i) (h : RE w lo g c L C F elo ehi e ((N + 7) / 8) i (byt V)) :
    Calls Tryz.prog 15 #[.pointer (some ⟨g, 0, none⟩), .pointer (some ⟨e, 0, none⟩), .int .i64 wd] w fun r w' => SpR w lo g c L C F elo ehi e ((N + 7) / 8) (ps c F (pcp n m) i 5) (byt V) ⟨2, n, NNum.D m wd, 0, 0⟩ r w' := by
  have OL := hide (old_of h)
  have ST := hide (HSpp.start h (.cells (tkc t0) 44))
  have BX := hide (Box.made w 44 (tkc t0))
  have elt := h.lt
  have P4 : ps c F (pcp n m) i 1 = ps c F (pcp n m) i 4 := by
    have h2 : ps c F (pcp n m) i 2 = ps c F (pcp n m) i 1 := ps_skip c F (pcp n m) i 1 rfl
    have h3 : ps c F (pcp n m) i 3 = ps c F (pcp n m) i 2 := ps_skip c F (pcp n m) i 2 rfl
    have h4 : ps c F (pcp n m) i 4 = ps c F (pcp n m) i 3 := ps_skip c F (pcp n m) i 3 rfl
    omega
  have S0 := hide (sym_at t 0 (by omega) rfl rfl (HSpp.start h (.cells (tkc t0) 44)).re)
  have N0 := hide (fun (w' : World) (r : RE w' lo g c L C F elo ehi e ((N + 7) / 8) (pm c F (pcp n m) i 0) (byt V)) => num_at t 0 (by omega) rfl rfl rfl n0 (by omega) r)
  have S4 := hide (fun (w' : World) (r : RE w' lo g c L C F elo ehi e ((N + 7) / 8) (ps c F (pcp n m) i 4) (byt V)) => sym_at t 4 (by omega) rfl rfl r)
  have N4 := hide (fun (w' : World) (r : RE w' lo g c L C F elo ehi e ((N + 7) / 8) (pm c F (pcp n m) i 4) (byt V)) => num_at t 4 (by omega) rfl rfl rfl m0 m1 r)
  have N0' := hide (fun (w' : World) (r : RE w' lo g c L C F elo ehi e ((N + 7) / 8) (pm c F (pcp n m) i 0) (byt V)) => show Calls Tryz.prog 32 #[.int .i64 (sv n : Nat), .pointer (some ⟨e, 0, none⟩)] w' (fun r w'' => r = .returned (.int .i64 n) ∧ RB w' lo g c L C F elo ehi e ((N + 7) / 8) (ps c F (pcp n m) i 4) (byt V) w'') by rw [← P4]; exact unhide N0 w' r)
  rw [show ((pcp n m 0).sy : Nat) = 256 + sv n from rfl] at S0
  rw [show ((pcp n m 4).sy : Nat) = sv m from Nat.zero_add _] at S4
  have hs := sv_len n n0 n1
  have hm := sv_lt m m0 m1
  have e256 : ((256 + sv n : Nat) : Int) - 256 = ((sv n : Nat) : Int) := by omega
  have g1 : ¬ ((256 + sv n : Nat) : Int) < 0 := by omega
  have g2 : ¬ (280 : Int) ≤ ((256 + sv n : Nat) : Int) := by omega
  have g3 : ¬ ((256 + sv n : Nat) : Int) < 256 := by omega
  have g4 : ((256 + sv n : Nat) : Int) ≤ 5000 := by omega
  have DI := hide (fun w => NRfd.rdist11 (m : Int) wd w)
  clear h t P4 N0 hs n0 n1 m0 m1
  simp only [tkc, t0] at S0 ST BX
  generalize NNum.D (m : Int) wd = dd at *
  generalize 256 + sv n = s at *
  generalize sv n = sn at *
  generalize sv m = sm at *
  go_enter Tryz.func15, Tryz.ntmps15
  go_wp2_with fail
  refine (unhide S0).mono ?_
  rintro r1 w1 ⟨rfl, rb⟩
  have R1 := hide (HSpp.RB.go (unhide ST) rb)
  have X1 := hide ((unhide BX).keep rb.upd (show ¬ w.heap.size = e by omega))
  have Q1 := hide (unhide N0' w1 rb.re)
  clear rb S0 ST BX N0'
  go_wp2_with fail
  refine (unhide Q1).mono ?_
  rintro r2 w2 ⟨rfl, rb⟩
  have R2 := hide (HSpp.RB.go (unhide R1) rb)
  have X2 := hide ((unhide X1).keep rb.upd (show ¬ w.heap.size = e by omega))
  have Q2 := hide (unhide S4 w2 rb.re)
  clear rb Q1 R1 X1 S4
  go_wp2_with fail
  refine (unhide Q2).mono ?_
  rintro r3 w3 ⟨rfl, rb⟩
  have R3 := hide (HSpp.RB.go (unhide R2) rb)
  have X3 := hide ((unhide X2).keep rb.upd (show ¬ w.heap.size = e by omega))
  have Q3 := hide (unhide N4 w3 rb.re)
  have sh := short_at rb.re
  have el4 := rb.re.lt
  clear rb Q2 R2 X2 N4
  go_wp2_with fail
  refine (unhide Q3).mono ?_
  rintro r4 w4 ⟨rfl, rb⟩
  clear sh el4
  have R4 := hide (HSpp.RB.go (unhide R3) rb)
  have X4 := hide ((unhide X3).keep rb.upd (show ¬ w.heap.size = e by omega))
  have sh := short_at rb.re
  have el4 := rb.re.lt
  clear rb Q3 R3 X3
  go_wp2_with fail
  refine (unhide DI _).mono ?_
  rintro r5 w5 ⟨rfl, b5⟩
  have R5 := hide (rb_below (unhide R4) b5)
  have X5 := hide ((unhide X4).below b5 (unhide X4).lt)
  clear b5 R4 X4 sh el4
  go_wp2_with (first | (refine wpList_store_row rfl 44 (.tmp 6) (.tmp 89) rfl w.heap.size (tkc ⟨2, n, dd, 0, 0⟩) rfl rfl 44 _ (unhide X5) info_tk rfl (tkc_one _) ?_) | fail)
  exact bodyPost_ret (results_row_tmp rfl _ _ w.heap.size 44 (tkc ⟨2, n, dd, 0, 0⟩) (0, 0) _ rfl (setRow_box (unhide X5) _) Tryz.underlying44 rfl info_tk) rfl ⟨rfl, rb_fin (unhide R5) (unhide OL) _⟩
/-- A step as it is read again. -/
def nrm (t : Tk) : Tk := if t.k = 1 then ⟨1, 0, 0, 0, t.a⟩ else if t.k = 2 then ⟨2, t.n, t.d, 0, 0⟩ else ⟨3, 0, 0, t.i, 0⟩
theorem step15 {w : World} {lo g c : Nat} {L C : Nat → Nat} {F : Nat → Nat → Nat} {elo ehi e V N i : Nat} (t : Tk) (ha : t.a < 4294967296) (wd : Int) (h0 : 1 ≤ wd) (h1 : wd ≤ 16384) (ok : okP c t = true) (te : Tel c F (qP wd c t) V N i) (h : RE w lo g c L C F elo ehi e ((N + 7) / 8) i (byt V)) :
    Calls Tryz.prog 15 #[.pointer (some ⟨g, 0, none⟩), .pointer (some ⟨e, 0, none⟩), .int .i64 wd] w fun r w' => SpR w lo g c L C F elo ehi e ((N + 7) / 8) (ps c F (qP wd c t) i 5) (byt V) (nrm t) r w' := by
  have hpl := pl_le c te.hc
  by_cases k1 : t.k = 1
  · have e1 : qP wd c t = plit t.a := if_pos k1
    have e2 : nrm t = ⟨1, 0, 0, 0, t.a⟩ := if_pos k1
    rw [e1] at te ⊢
    rw [e2]
    exact step_lit t.a ha wd te h
  · by_cases hC : isC t = true
    · have e1 : qP wd c t = pcp t.n.toNat (NNum.K t.d wd).toNat := by unfold qP; rw [if_neg k1, if_pos hC]
      have hh := of_decide_eq_true hC
      obtain ⟨m, hm, m0, m1, hD⟩ := K_in t.d wd ⟨hh.2.2.2.1, hh.2.2.2.2, NNum.wd_in ⟨h0, h1⟩⟩
      have e2 : nrm t = ⟨2, (t.n.toNat : Nat), NNum.D (m : Int) wd, 0, 0⟩ := by
        unfold nrm
        rw [if_neg k1, if_pos hh.1, hD, show ((t.n.toNat : Nat) : Int) = t.n by omega]
      rw [e1, hm, Int.toNat_natCast] at te
      rw [e1, hm, Int.toNat_natCast, e2]
      exact step_cpy t.n.toNat m (by omega) (by omega) m0 m1 wd te h
    · have hC' : isC t = false := by simpa using hC
      have hK : isK c t = true := by
        unfold okP at ok
        simpa [k1, hC'] using ok
      have hh := of_decide_eq_true hK
      have e1 : qP wd c t = pkn t.i.toNat := by unfold qP; rw [if_neg k1, if_neg hC, if_pos hK]
      have e2 : nrm t = ⟨3, 0, 0, (t.i.toNat : Nat), 0⟩ := by
        unfold nrm
        rw [if_neg k1, if_neg (by omega), show ((t.i.toNat : Nat) : Int) = t.i by omega]
      rw [e1] at te
      rw [e1, e2]
      exact step_kno t.i.toNat (by omega) wd te h
end Go.Proofs.YtgjpcjnhggcfdaaGreatDoor.HStq

namespace Go.Proofs.YtgjpcjnhggcfdaaGreatDoor.HGtl
set_option linter.unusedVariables false
open Go.ChangeShapes Go.WideShapes Go.ChangeAt Go.RowKit Go.Proofs.YtgjpcjnhggcfdaaGreatDoor.Core Go.Proofs.YtgjpcjnhggcfdaaGreatDoor.Gnd Go.Proofs.YtgjpcjnhggcfdaaGreatDoor.Math Go.Proofs.YtgjpcjnhggcfdaaGreatDoor.Ord Go.Proofs.YtgjpcjnhggcfdaaGreatDoor.Foot Go.Proofs.YtgjpcjnhggcfdaaGreatDoor.Add Go.Proofs.YtgjpcjnhggcfdaaGreatDoor.HTw Go.Proofs.YtgjpcjnhggcfdaaGreatDoor.HNum Go.Proofs.YtgjpcjnhggcfdaaGreatDoor.HSiz Go.Proofs.YtgjpcjnhggcfdaaGreatDoor.HFit Go.Proofs.YtgjpcjnhggcfdaaGreatDoor.HFiv Go.Proofs.YtgjpcjnhggcfdaaGreatDoor.HNew Go.Proofs.YtgjpcjnhggcfdaaGreatDoor.HHas Go.Proofs.YtgjpcjnhggcfdaaGreatDoor.HTel Go.Proofs.YtgjpcjnhggcfdaaGreatDoor.HVal Go.Proofs.YtgjpcjnhggcfdaaGreatDoor.HSay Go.Proofs.YtgjpcjnhggcfdaaGreatDoor.HInp Go.Proofs.YtgjpcjnhggcfdaaGreatDoor.HGbn Go.Proofs.YtgjpcjnhggcfdaaGreatDoor.HGme Go.Proofs.YtgjpcjnhggcfdaaGreatDoor.HSpp Go.Proofs.YtgjpcjnhggcfdaaGreatDoor.HStq

theorem own_upd {S : Nat → Prop} {w w' : World} {base n k : Nat} {e : TypeId} {v : Value} {xs : List Value} (h : w.ownsRow base e k v n xs) (u : Upd S w w') (hs : ∀ b, v.ownBlock = some b → ¬ S b) : w'.ownsRow base e k v n xs := by
  refine ⟨h.1, ?_⟩
  have hl := h.lt
  rcases h.2 with h0 | ⟨g, cap, cur, rfl, h2, h3, h4⟩
  · exact .inl h0
  · exact .inr ⟨g, cap, cur, rfl, h2, (u.block g (hl g rfl).2 (hs g rfl)).trans h3, h4⟩
/-- A group, a writer, and the steps that were told. -/
structure TI (w0 wr : World) (lo hi g gw base c : Nat) (T : Nat → Nat) (f : Nat → Nat → Int) (u v : Value) (V N : Nat) (tl : List Tk) : Prop where
  gr : Gr wr lo hi g c T f
  wri : Wr wr gw u V N
  own : wr.ownsRow base 44 5 v tl.length (tcs tl)
  ap : ∀ k, lo ≤ k → k < hi → ¬ Ft gw u k
  dj : ∀ b, v.ownBlock = some b → ¬ Ft gw u b
  fl : ∀ b, Ft gw u b → w0.heap.size ≤ b
  hh : hi ≤ base
  bel : Below w0.heap.size w0 wr
  b0 : w0.heap.size ≤ base
  hb : base ≤ wr.heap.size
theorem TI.put {w0 wr w' : World} {lo hi g gw base c : Nat} {T : Nat → Nat} {f : Nat → Nat → Int} {u u' v : Value} {V N V' N' : Nat} {tl : List Tk} (h : TI w0 wr lo hi g gw base c T f u v V N tl) (t : Tw wr gw u V N w' u' V' N') : TI w0 w' lo hi g gw base c T f u' v V' N' tl := by
  have hs := t.turn.upd.size
  have hb := h.hb
  have hh := h.hh
  refine ⟨GrI.keep h.gr t.turn.upd (fun k a b => h.ap k a b), t.wri, own_upd h.own t.turn.upd h.dj, fun k a b hk => ?_, fun b hb hk => ?_, fun b hk => ?_, h.hh, ?_, h.b0, by omega⟩
  · rcases t.ft k hk with e | e
    · exact h.ap k a b e
    · omega
  · rcases t.ft b hk with e | e
    · exact h.dj b hb e
    · have := (h.own.lt b hb).2; omega
  · rcases t.ft b hk with e | e
    · exact h.fl b e
    · have := h.bel.size; omega
  · exact h.bel.trans (t.turn.upd.below _ h.bel.size h.fl)
theorem TI.below {w0 wr w' : World} {lo hi g gw base c : Nat} {T : Nat → Nat} {f : Nat → Nat → Int} {u v : Value} {V N : Nat} {tl : List Tk} (h : TI w0 wr lo hi g gw base c T f u v V N tl) (b : Below wr.heap.size wr w') : TI w0 w' lo hi g gw base c T f u v V N tl :=
  h.put ((Tw.refl h.wri).below b)
theorem TI.drewN {w0 wr : World} {lo hi g gw base c : Nat} {T : Nat → Nat} {f : Nat → Nat → Int} {u v : Value} {V N : Nat} {tl : List Tk} (h : TI w0 wr lo hi g gw base c T f u v V N tl) (k : Nat) : TI w0 (wr.drewN k) lo hi g gw base c T f u v V N tl :=
  h.below (bel_drN (Below.refl _ wr) k)
theorem TI.app {w0 wr w' : World} {lo hi g gw base c : Nat} {T : Nat → Nat} {f : Nat → Nat → Int} {u v v' : Value} {V N : Nat} {tl : List Tk} {t : Tk} (h : TI w0 wr lo hi g gw base c T f u v V N tl)
    (own : w'.ownsRow base 44 5 v' (tl.length + 1) (tcs tl ++ tc t)) (gr : wr.grownBy w' v.ownBlock) (at_ : v'.ownBlock = v.ownBlock ∨ v'.ownBlock = some wr.heap.size) : TI w0 w' lo hi g gw base c T f u v' V N (tl ++ [t]) := by
  have up : Upd (fun k => v.ownBlock = some k) wr w' := ⟨gr.os, gr.tape, gr.output, gr.size, fun k hk hs => gr.block k hk (fun e => hs e.symm)⟩
  have hs := gr.size
  have hb := h.hb
  have hh := h.hh
  refine ⟨GrI.keep h.gr up (fun k a b e => ?_), h.wri.keep up (fun k hk e => h.dj k e hk), by rw [tcs_snoc, List.length_append]; exact own, h.ap, fun b hv hk => ?_, h.fl, h.hh, h.bel.trans (up.below _ h.bel.size (fun k e => ?_)), h.b0, by omega⟩
  · have := (h.own.lt k e).1; omega
  · rcases at_ with e | e
    · exact h.dj b (by rw [← e]; exact hv) hk
    · rw [e] at hv
      injection hv with hv
      have := h.wri.raw.lt b hk
      omega
  · have := (h.own.lt k e).1
    have := h.b0
    omega
/-- Steps are told from bit s to bit e. -/
def TT (c : Nat) (F : Nat → Nat → Nat) (wd : Int) (V : Nat) : List Tk → Nat → Nat → Prop
  | [], s, e => e = s
  | t :: ts, s, e => okP c t = true ∧ okA c (fun k j => (F k j : Int)) (qP wd c t) = true ∧ Says c (fun k j => (F k j : Int)) (qP wd c t) V s ∧ s ≤ tN c (fun k j => (F k j : Int)) (qP wd c t) s 5 ∧ TT c F wd V ts (tN c (fun k j => (F k j : Int)) (qP wd c t) s 5) e
theorem TT.le {c : Nat} {F : Nat → Nat → Nat} {wd : Int} {V : Nat} : ∀ {ts : List Tk} {s e : Nat}, TT c F wd V ts s e → s ≤ e
  | [], s, e, h => Nat.le_of_eq h.symm
  | t :: ts, s, e, h => Nat.le_trans h.2.2.2.1 (TT.le h.2.2.2.2)
theorem TT.same {c : Nat} {F : Nat → Nat → Nat} {wd : Int} {V V' M : Nat} (hV : V % 2 ^ M = V' % 2 ^ M) : ∀ {ts : List Tk} {s e : Nat}, TT c F wd V ts s e → e ≤ M → TT c F wd V' ts s e
  | [], s, e, h, _ => h
  | t :: ts, s, e, h, hM => ⟨h.1, h.2.1, h.2.2.1.same hV (Nat.le_trans h.2.2.2.2.le hM), h.2.2.2.1, TT.same hV h.2.2.2.2 hM⟩
theorem TT.snoc {c : Nat} {F : Nat → Nat → Nat} {wd : Int} {V : Nat} {t : Tk} : ∀ {ts : List Tk} {s e : Nat}, TT c F wd V ts s e → okP c t = true → okA c (fun k j => (F k j : Int)) (qP wd c t) = true → Says c (fun k j => (F k j : Int)) (qP wd c t) V e →
    e ≤ tN c (fun k j => (F k j : Int)) (qP wd c t) e 5 → TT c F wd V (ts ++ [t]) s (tN c (fun k j => (F k j : Int)) (qP wd c t) e 5)
  | [], s, e, h, h1, h2, h3, h4 => by
    obtain rfl : e = s := h
    exact ⟨h1, h2, h3, h4, rfl⟩
  | _ :: ts, s, e, h, h1, h2, h3, h4 => ⟨h.1, h.2.1, h.2.2.1, h.2.2.2.1, TT.snoc h.2.2.2.2 h1 h2 h3 h4⟩
/-- What all told: lengths, then steps. -/
structure AI (c : Nat) (F : Nat → Nat → Nat) (wd : Int) (V N N0 : Nat) (tl : List Tk) : Prop where
  lt : V < 2 ^ N
  len : HWri.LT V c F 5 N0
  tt : TT c F wd V tl N0 N
theorem AI.next {c : Nat} {F : Nat → Nat → Nat} {wd : Int} {V N N0 : Nat} {tl : List Tk} {t : Tk} (h : AI c F wd V N N0 tl) (h0 : 1 ≤ wd) (h1 : wd ≤ 16384) (gd : Gds c F) (ok : okP c t = true) (ok2 : okA c (fun k j => (F k j : Int)) (qP wd c t) = true) :
    AI c F wd (tV c (fun k j => (F k j : Int)) (qP wd c t) V N 5) (tN c (fun k j => (F k j : Int)) (qP wd c t) N 5) N0 (tl ++ [t]) ∧ tN c (fun k j => (F k j : Int)) (qP wd c t) N 5 ≤ N + 235 := by
  obtain ⟨a, b, d⟩ := says_new (c := c) (f := fun k j => (F k j : Int)) (q := qP wd c t) h.lt (fun j _ => (q_bits wd h0 h1 c t j).1)
  obtain ⟨l0, l1⟩ := tN_le c F (qP wd c t) N (fun i hi => (gd i hi).rng) (fun i _ => (q_bits wd h0 h1 c t i).2) ok2
  have e : V % 2 ^ N = tV c (fun k j => (F k j : Int)) (qP wd c t) V N 5 % 2 ^ N := by rw [d, Nat.mod_eq_of_lt h.lt]
  exact ⟨⟨b, h.len.same e h.tt.le, (h.tt.same e (Nat.le_refl _)).snoc ok ok2 a l0⟩, l1⟩
theorem eqt_gen (d : Nat) (a b c e : Int) (x : Int) (w : World) : (Op.equalIn (d + 1 + 1) 44 (.agg #[.int .i64 a, .int .i64 b, .int .i64 c, .int .i64 e, .int .u32 x]) (.agg #[.int .i64 a, .int .i64 b, .int .i64 c, .int .i64 e, .int .u32 x])).run Tryz.prog w = .ok true w := by
  have e3 : ∀ (y : Int) (w : World), (Op.equalIn (d + 1) 3 (.int .i64 y) (.int .i64 y)).run Tryz.prog w = .ok true w := fun y w => by
    rw [run_equalIn_int (h := Tryz.underlying3)]; simp
  have e42 : ∀ (y : Int) (w : World), (Op.equalIn (d + 1) 42 (.int .u32 y) (.int .u32 y)).run Tryz.prog w = .ok true w := fun y w => by
    rw [run_equalIn_int (h := Tryz.underlying42)]; simp
  rw [Op.equalIn]
  simp only [Sem.run_bind, run_underlying Tryz.underlying44, Result.andThen_ok]
  generalize Op.equalIn (d + 1) = E at *
  simp [go_sem, e3, e42]
theorem eq_tok (a b c e : Int) (x : Int) (w : World) : (Op.equalIn 10000 44 (.agg #[.int .i64 a, .int .i64 b, .int .i64 c, .int .i64 e, .int .u32 x]) (.agg #[.int .i64 a, .int .i64 b, .int .i64 c, .int .i64 e, .int .u32 x])).run Tryz.prog w = .ok true w := eqt_gen 9998 a b c e x w
theorem kinds {c : Nat} {t : Tk} (ok : okP c t = true) : (∃ n d i a, t = ⟨1, n, d, i, a⟩ ∧ tkc (nrm t) = #[.int .i64 1, .int .i64 0, .int .i64 0, .int .i64 0, .int .u32 a]) ∨ (∃ n d i a, t = ⟨2, n, d, i, a⟩ ∧ tkc (nrm t) = #[.int .i64 2, .int .i64 n, .int .i64 d, .int .i64 0, .int .u32 0]) ∨ ∃ n d i a, t = ⟨3, n, d, i, a⟩ ∧ tkc (nrm t) = #[.int .i64 3, .int .i64 0, .int .i64 0, .int .i64 i, .int .u32 0] := by
  obtain ⟨k, n, d, i, a⟩ := t
  unfold okP at ok
  by_cases k1 : k = 1
  · subst k1
    exact .inl ⟨n, d, i, a, rfl, rfl⟩
  · by_cases hC : isC ⟨k, n, d, i, a⟩ = true
    · obtain rfl : k = 2 := (of_decide_eq_true hC).1
      exact .inr (.inl ⟨n, d, i, a, rfl, rfl⟩)
    · have hC' : isC ⟨k, n, d, i, a⟩ = false := by simpa using hC
      have hK : isK c ⟨k, n, d, i, a⟩ = true := by simpa [k1, hC'] using ok
      obtain rfl : k = 3 := (of_decide_eq_true hK).1
      exact .inr (.inr ⟨n, d, i, a, rfl, rfl⟩)
/-- The next step is told here. -/
theorem tt_at {c : Nat} {F : Nat → Nat → Nat} {wd : Int} {V N N0 p i : Nat} {tl : List Tk} {t : Tk} (ai : AI c F wd V N N0 tl) (h : TT c F wd V (tl.drop i) p N) (ht : tl[i]? = some t) (hc : c ≤ 11) (hN : N ≤ 700000) (gd : Gds c F) :
    okP c t = true ∧ Tel c F (qP wd c t) V N p ∧ TT c F wd V (tl.drop (i + 1)) (ps c F (qP wd c t) p 5) N := by
  have e : tl.drop i = t :: tl.drop (i + 1) := by
    obtain ⟨hi, rfl⟩ := List.getElem?_eq_some_iff.1 ht
    exact List.drop_eq_getElem_cons hi
  rw [e] at h
  exact ⟨h.1, ⟨hc, ai.lt, hN, fun k hk => (gd k hk).ch, h.2.1, h.2.2.1, h.2.2.2.2.le⟩, h.2.2.2.2⟩
end Go.Proofs.YtgjpcjnhggcfdaaGreatDoor.HGtl

namespace Go.Proofs.YtgjpcjnhggcfdaaGreatDoor.HGbk
set_option linter.unusedVariables false
open Go.ChangeShapes Go.WideShapes Go.ChangeAt Go.RowKit Go.Proofs.YtgjpcjnhggcfdaaGreatDoor.Core Go.Proofs.YtgjpcjnhggcfdaaGreatDoor.Gnd Go.Proofs.YtgjpcjnhggcfdaaGreatDoor.Math Go.Proofs.YtgjpcjnhggcfdaaGreatDoor.Ord Go.Proofs.YtgjpcjnhggcfdaaGreatDoor.Foot Go.Proofs.YtgjpcjnhggcfdaaGreatDoor.Add Go.Proofs.YtgjpcjnhggcfdaaGreatDoor.Bitin Go.Proofs.YtgjpcjnhggcfdaaGreatDoor.Eyes Go.Proofs.YtgjpcjnhggcfdaaGreatDoor.HTw Go.Proofs.YtgjpcjnhggcfdaaGreatDoor.HNum Go.Proofs.YtgjpcjnhggcfdaaGreatDoor.HSiz Go.Proofs.YtgjpcjnhggcfdaaGreatDoor.HFit Go.Proofs.YtgjpcjnhggcfdaaGreatDoor.HFiv Go.Proofs.YtgjpcjnhggcfdaaGreatDoor.HNew Go.Proofs.YtgjpcjnhggcfdaaGreatDoor.HHas Go.Proofs.YtgjpcjnhggcfdaaGreatDoor.HCnt Go.Proofs.YtgjpcjnhggcfdaaGreatDoor.HCou Go.Proofs.YtgjpcjnhggcfdaaGreatDoor.HTel Go.Proofs.YtgjpcjnhggcfdaaGreatDoor.HPar Go.Proofs.YtgjpcjnhggcfdaaGreatDoor.HVal Go.Proofs.YtgjpcjnhggcfdaaGreatDoor.HSay Go.Proofs.YtgjpcjnhggcfdaaGreatDoor.HSpp Go.Proofs.YtgjpcjnhggcfdaaGreatDoor.HStq Go.Proofs.YtgjpcjnhggcfdaaGreatDoor.HInp Go.Proofs.YtgjpcjnhggcfdaaGreatDoor.HGbn Go.Proofs.YtgjpcjnhggcfdaaGreatDoor.HGme Go.Proofs.YtgjpcjnhggcfdaaGreatDoor.HGtl Go.Proofs.YtgjpcjnhggcfdaaGreatDoor.HAns Go.Proofs.YtgjpcjnhggcfdaaGreatDoor.HCop Go.Proofs.YtgjpcjnhggcfdaaGreatDoor.NPts Go.Proofs.YtgjpcjnhggcfdaaGreatDoor.Rse

set_option maxRecDepth 100000 in
set_option maxHeartbeats 4000000 in
theorem back_in {w : World} {a : Option Addr} {n cp c : Nat} {ts : List Tk} (hc : c ≤ 11) (wd : Int) (h0 : 1 ≤ wd) (h1 : wd ≤ 16384) (tk : Tks w.heap.size w a ts) (hn : n = ts.length) (hl : n ≤ 100) (hu : ∀ t ∈ ts, t.a < 4294967296) (s : Nat → Nat) (hs : ∀ i, s i ≤ 65535) (tab : Tab w) (od : Ordr w) :
    Calls Tryz.prog 3 #[.slice a n cp, .int .i64 c, .int .i64 wd, .agg (a16 s)] w fun e w' => e = .returned (.bool true) ∧ Below w.heap.size w w' := by
  have CN := hide (fun (w' : World) (b : Below w.heap.size w w') => count13 (B := w.heap.size) (cp := cp) hc wd (tk.below b) hn (by omega) b.size (qP wd c) (okP c) (fun t _ w2 b2 => parts17 t c hc wd h0 h1 w2 ((tab.on b).on b2)) (fun t _ ok i hi ht => q_sym wd h0 h1 c t ok i hi ht))
  have FV := hide (fun w => five5 s hs c hc w)
  have HC := hide (And.intro hc (And.intro h0 (And.intro h1 (And.intro hn hl))))
  have TK := hide tk
  have TB := hide (And.intro tab od)
  have AN := hide (fun w => answers4 w)
  have SZ := hide (fun i => sz_bd c i hc)
  have FG := hide (f1_gds c hc s)
  have hl' : (n : Int) ≤ 100 := by omega
  have hc' : (c : Int) ≤ 11 := by omega
  generalize hcn : (fun i => cn (qP wd c) i ts) = C at *
  generalize hff : (fun i => Sml.f1 (s i % sz c i) 1) = F1 at *
  clear tk tab od hc hn hs hcn hff
  simp only [a16] at *
  have b7 := Box.made w 24 #[.int .u16 (s 0), .int .u16 (s 1), .int .u16 (s 2), .int .u16 (s 3), .int .u16 (s 4)]
  have BA := hide (bel_a1 w (.cells #[.int .u16 (s 0), .int .u16 (s 1), .int .u16 (s 2), .int .u16 (s 3), .int .u16 (s 4)] 24))
  have CN2 := hide (unhide CN _ (unhide BA))
  clear CN
  go_enter Tryz.func3, Tryz.ntmps3
  go_wp2_with fail
  refine (unhide CN2).mono ?_
  rintro e w1 r1
  have hB1 := r1.bel
  obtain ⟨V, ob, rfl, hV1, hV⟩ := cnt_one r1
  have b71 := b7.below hB1 b7.lt
  generalize hwA : w.alloc (.cells #[.int .u16 (s 0), .int .u16 (s 1), .int .u16 (s 2), .int .u16 (s 3), .int .u16 (s 4)] 24) = wA at *
  have BXo := Box.made w1 27 #[.slice none 0 0, .slice none 0 0, .slice none 0 0, .slice none 0 0, .slice none 0 0]
  have HV1 := hide hV1
  have HV := hide hV
  have HB1 := hide hB1
  have b72 := b71.below (bel_row (bel_a1 w1 (.cells #[.slice none 0 0, .slice none 0 0, .slice none 0 0, .slice none 0 0, .slice none 0 0] 27)) (Nat.le_refl _) (fv V)) b71.lt
  clear r1 hB1 hV1 hV b7 b71 CN2
  go_upto_region 4 with (first | (refine wpList_store_row rfl 27 (.tmp 9) (.tmp 57) rfl w1.heap.size (fv V) rfl rfl 27 _ BXo info27 rfl (unhide HV1) ?_) | fail)
  have s2 : ((w1.alloc (.cells #[.slice none 0 0, .slice none 0 0, .slice none 0 0, .slice none 0 0, .slice none 0 0] 27)).setRow w1.heap.size (fv V)).heap.size = w1.heap.size + 1 := by simp [World.setRow]
  have B2 := hide (bel_row (bel_a1 w1 (.cells #[.slice none 0 0, .slice none 0 0, .slice none 0 0, .slice none 0 0, .slice none 0 0] 27)) (Nat.le_refl _) (fv V))
  have BX := hide (setRow_box BXo (fv V))
  generalize hw2 : (w1.alloc (.cells #[.slice none 0 0, .slice none 0 0, .slice none 0 0, .slice none 0 0, .slice none 0 0] 27)).setRow w1.heap.size (fv V) = w2 at *
  clear BXo HV1 hw2
  have FV2 := hide (unhide FV w2)
  have x0 : w2.cell? ⟨w.heap.size, 0, none⟩ = some (.int .u16 (s 0)) := b72.cell 0
  have x1 : w2.cell? ⟨w.heap.size, 1, none⟩ = some (.int .u16 (s 1)) := b72.cell 1
  have x2 : w2.cell? ⟨w.heap.size, 2, none⟩ = some (.int .u16 (s 2)) := b72.cell 2
  have x3 : w2.cell? ⟨w.heap.size, 3, none⟩ = some (.int .u16 (s 3)) := b72.cell 3
  have x4 : w2.cell? ⟨w.heap.size, 4, none⟩ = some (.int .u16 (s 4)) := b72.cell 4
  have xl := b72.lt
  clear b72 FV
  go_wp2_with fail
  refine (unhide FV2).mono ?_
  rintro e w3 ⟨⟨G2, rfl, rws⟩, b3⟩
  have R2 := hide rws
  have B3 := hide b3
  have BYo := Box.made w3 30 #[.slice none 0 0, .slice none 0 0, .slice none 0 0, .slice none 0 0, .slice none 0 0]
  clear FV2 x0 x1 x2 x3 x4 xl rws b3
  go_upto_if 62 with (first | (refine wpList_store_row rfl 30 (.tmp 11) (.tmp 61) rfl w3.heap.size (fv (gs G2 c)) rfl rfl 30 _ BYo info30 rfl (gs_one G2 c) ?_) | fail)
  have B4 := hide (bel_row (bel_a1 w3 (.cells #[.slice none 0 0, .slice none 0 0, .slice none 0 0, .slice none 0 0, .slice none 0 0] 30)) (Nat.le_refl _) (fv (gs G2 c)))
  have BY := hide (setRow_box BYo (fv (gs G2 c)))
  generalize hw4 : (w3.alloc (.cells #[.slice none 0 0, .slice none 0 0, .slice none 0 0, .slice none 0 0, .slice none 0 0] 30)).setRow w3.heap.size (fv (gs G2 c)) = w4 at *
  clear hw4 BYo
  have YI0 := hide (fun (_ : ob = false) => (yi_start (unhide HB1) (unhide B2) (unhide R2) (unhide B3) (unhide B4) (unhide BY) (unhide FG)).from (unhide BA))
  have LI0 := hide (fun (ho : ob = true) => (show ∃ G1, LI wA w4 w1.heap.size w3.heap.size G1 G2 c C F1 by
    obtain ⟨G1, rfl, r1⟩ := unhide HV ho
    exact ⟨G1, li_start r1 (unhide HB1) (unhide B2) s2 (unhide BX) (unhide R2) (unhide B3) (unhide B4) (unhide BY)⟩))
  clear R2 B3 B4 BY BX B2 s2 HV HB1
  generalize w1.heap.size = X at *
  generalize w3.heap.size = Y at *
  go_cut [12, 13, 14, 15, 16, 17, 18] from 63 to 164 (fun _ _ _ _ _ _ _ wx => ∃ G F, YI w wx Y c G F)
  case first =>
    cases ob
    · go_wp2
      go_meet
      case rel => exact ⟨G2, F1, unhide YI0 (by trivial)⟩
    · obtain ⟨G1, li0⟩ := unhide LI0 (by trivial)
      have LI1 := hide li0
      clear li0 LI0 YI0
      go_wp2
      go_loopw [12] (fun x wr => ∃ (i : Nat) (F : Nat → Nat → Nat), i ≤ 5 ∧ x = .int .i64 i ∧ LI wA wr X Y G1 G2 c C F ∧ Gds c F) (fun x _ => 5 - (intOf x).toNat)
      case atStart => exact ⟨0, F1, by omega, rfl, unhide LI1, unhide FG⟩
      case round =>
        obtain ⟨i, F, hi5, rfl, li, gd⟩ := hrel
        by_cases hlt : i < 5
        · have hlt' : (i : Int) < 5 := by omega
          obtain ⟨z0, z1⟩ := unhide SZ i
          have cX := li.cX i hlt
          have xl := li.x.lt
          have CC := hide (fun (w' : World) (F' : Nat → Nat → Nat) (h : LI wA w' X Y G1 G2 c C F') => h.cC i hlt)
          have CF := hide (fun (w' : World) (F' : Nat → Nat → Nat) (h : LI wA w' X Y G1 G2 c C F') => h.cF i hlt)
          have CX := hide (fun (w' : World) (F' : Nat → Nat → Nat) (h : LI wA w' X Y G1 G2 c C F') => h.cX i hlt)
          have CY := hide (fun (w' : World) (F' : Nat → Nat → Nat) (h : LI wA w' X Y G1 G2 c C F') => h.cY i hlt)
          have FR := hide (fun (w' : World) (F' : Nat → Nat → Nat) (h : LI wA w' X Y G1 G2 c C F') (k : Nat) => (h.r2.row i hlt).free k)
          have CE := hide (fun (F' : Nat → Nat → Nat) (n k : Nat) (h : Filled C F' F i n (sz c i) k 0) (h0 : 1 ≤ n) (h1 : n ≤ 15) => h.gds h0 h1 gd)
          have LIo := hide li
          have GD := hide gd
          obtain ⟨M, hM⟩ : ∃ M : Nat → Nat, M = many (fun j => (C i j : Int)) := ⟨_, rfl⟩
          have MZ := hide (show M 0 = 0 by rw [hM]; rfl)
          have MS := hide (show ∀ k, M (k + 1) = M k + if (C i k : Int) = 0 then 0 else 1 by rw [hM]; exact fun k => rfl)
          have ML := hide (show ∀ k, M k ≤ k by rw [hM]; exact fun k => many_le _ k)
          have HM := hide hM
          clear hM li gd LI1
          generalize sz c i = z at *
          generalize wr = wo at *
          go_wp2
          go_loopw [13, 14] (fun x y wx => ∃ k : Nat, k ≤ z ∧ y = .int .i64 k ∧ x = .int .i64 (M k : Nat) ∧ wx = wo) (fun _ y _ => z - (intOf y).toNat)
          case atStart => exact ⟨0, by omega, rfl, by rw [unhide MZ]; rfl, rfl⟩
          case round =>
            obtain ⟨k, hk, rfl, rfl, hw⟩ := hrel
            subst hw
            have mk := unhide ML k
            by_cases hkz : k < z
            · have hkz' : (k : Int) < (z : Int) := by omega
              have ck := unhide CC _ _ (unhide LIo) k hkz
              have gl := lt_of_cell ck
              have ms := unhide MS k
              dsimp only at ck gl
              by_cases h00 : C i k = 0
              · rw [if_pos (by omega)] at ms
                rw [h00] at ck
                have MK := hide (show M k = M (k + 1) by omega)
                clear ms h00
                go_wp2
                go_roundw
                case rel => exact ⟨k + 1, by omega, by go_num, by rw [← unhide MK], by first | rfl | trivial⟩
                case measure => simp [intOf]; omega
              · rw [if_neg (by omega)] at ms
                have hp : 0 < (C i k : Int) := by omega
                generalize C i k = cik at *
                have MK := hide ms
                clear ms h00
                go_wp2
                go_roundw
                case rel => exact ⟨k + 1, by omega, by go_num, by rw [unhide MK]; go_num, by first | rfl | trivial⟩
                case measure => simp [intOf]; omega
            · obtain rfl : k = z := by omega
              have cY := unhide CY _ _ (unhide LIo)
              have yl := lt_of_cell cY
              dsimp only at cY yl
              go_upto_region 15 with fail
              by_cases hs2 : M k < 2
              · have hb2 : decide ((M k : Int) < 2) = true := decide_eq_true (by omega)
                go_quiet (fail)
                have LI3 := hide ((unhide LIo).below (bel_drN (Below.refl _ wr) nq))
                generalize wr.drewN nq = wq at *
                clear LIo cX cY xl yl
                go_wp2
                go_roundw
                case rel => exact ⟨i + 1, F, by omega, by go_num, unhide LI3, unhide GD⟩
                case measure => simp [intOf]; omega
              · have hb2 : decide ((M k : Int) < 2) = false := decide_eq_false (by omega)
                go_quiet (fail)
                have LI3 := hide ((unhide LIo).below (bel_drN (Below.refl _ wr) nq))
                generalize wr.drewN nq = wq at *
                clear LIo cX cY xl yl
                have MM := hide (show many (fun j => (C i j : Int)) k = M k by rw [unhide HM])
                have hm2 : M k ≤ 2328 := by omega
                have hm1 : 2 ≤ M k := by omega
                clear hs2 mk
                generalize M k = m at *
                clear MZ MS ML HM hb2
                go_wp2
                go_loopw [15] (fun x wx => ∃ n : Nat, 1 ≤ n ∧ n ≤ 12 ∧ x = .int .i64 n ∧ wx = wq) (fun x _ => 12 - (intOf x).toNat)
                case atStart => exact ⟨1, by omega, by omega, rfl, by first | rfl | trivial⟩
                case round =>
                  obtain ⟨b, hb1, hb12, rfl, hw⟩ := hrel
                  subst hw
                  have pb : 2 ≤ 2 ^ b := Nat.pow_le_pow_right (n := 2) (i := 1) (by omega) hb1
                  have pb2 : 2 ^ b ≤ 4096 := Nat.pow_le_pow_right (n := 2) (j := 12) (by omega) hb12
                  have pb3 : b = 12 → 2 ^ b = 4096 := fun h => by rw [h]
                  have pz : (2 : Int) ^ b = ((2 ^ b : Nat) : Int) := pow_cast b
                  obtain ⟨P, hP⟩ : ∃ P, P = 2 ^ b := ⟨_, rfl⟩
                  rw [← hP] at pb pb2 pb3 pz
                  have HP := hide hP
                  clear hP
                  by_cases hPm : P < m
                  · have hPm' : (P : Int) < (m : Int) := by omega
                    have hb11 : b < 12 := by omega
                    clear pb3
                    go_wp2
                    go_roundw
                    case rel => exact ⟨b + 1, by omega, by omega, by go_num, by first | rfl | trivial⟩
                    case measure => simp [intOf]; omega
                  · have hPm' : ¬ (P : Int) < (m : Int) := by omega
                    obtain ⟨l, hl0⟩ : ∃ l, m + l = P := ⟨P - m, by omega⟩
                    have hl1 : (P : Int) - (m : Int) = (l : Int) := by omega
                    have hl2 : (l : Int) ≤ 4096 := by omega
                    have HL := hide (show m + l = 2 ^ b by rw [hl0, unhide HP])
                    clear pb3 hl0 HP
                    go_wp2
                    obtain ⟨hb0, hb15⟩ : b ≠ 0 ∧ b ≤ 15 := ⟨by omega, by omega⟩
                    go_loopw [17] (fun x wx => ∃ (j : Nat) (F' : Nat → Nat → Nat), j ≤ k ∧ x = .int .i64 j ∧ LI wA wx X Y G1 G2 c C F' ∧ Laid C F' F i b j) (fun x _ => k - (intOf x).toNat)
                    case atStart => exact ⟨0, F, by omega, rfl, unhide LI3, Laid.zero⟩
                    case round =>
                      obtain ⟨j, F', hj, rfl, li, la⟩ := hrel
                      have cX := unhide CX _ _ li
                      have cY := unhide CY _ _ li
                      have xl := lt_of_cell cX
                      have yl := lt_of_cell cY
                      dsimp only at cX cY xl yl
                      have LI4 := hide li
                      have LA := hide la
                      by_cases hjk : j < k
                      · have hjk' : (j : Int) < (k : Int) := by omega
                        have cF := unhide CF _ _ li j hjk
                        have gl := lt_of_cell cF
                        have ff := unhide FR _ _ li j
                        dsimp only at cF gl
                        have LI5 := hide (li.set (s := j) hlt 0 (.int .i64 0) rfl)
                        clear li la LI3
                        go_upto_region 24 with fail
                        generalize wr.setCell ⟨G2 i, j, none⟩ (.int .i64 0) = w5 at *
                        clear cX cY xl yl cF gl ff LI4
                        have cX := unhide CX _ _ (unhide LI5)
                        have cY := unhide CY _ _ (unhide LI5)
                        have cC := unhide CC _ _ (unhide LI5) j hjk
                        have cF := unhide CF _ _ (unhide LI5) j hjk
                        have xl := lt_of_cell cX
                        have yl := lt_of_cell cY
                        have gl := lt_of_cell cC
                        have gf := lt_of_cell cF
                        have ff := unhide FR _ _ (unhide LI5) j
                        dsimp only at cX cY cC cF xl yl gl gf
                        by_cases h00 : C i j = 0
                        · have NX := hide ((unhide LA).next 0 (by rw [if_pos h00]))
                          rw [h00] at cC
                          clear h00 cF
                          go_wp2
                          go_roundw
                          case rel => exact ⟨j + 1, _, by omega, by go_num, unhide LI5, unhide NX⟩
                          case measure => simp [intOf]; omega
                        · have hp : 0 < (C i j : Int) := by omega
                          have NX := hide ((unhide LA).next b (by rw [if_neg h00]))
                          have LI6 := hide ((unhide LI5).set (s := j) hlt b (.int .i64 b) rfl)
                          rw [upd2_twice] at LI6
                          generalize C i j = cij at *
                          clear h00
                          go_wp2
                          go_roundw
                          case rel => exact ⟨j + 1, _, by omega, by go_num, unhide LI6, unhide NX⟩
                          case measure => simp [intOf]; omega
                      · obtain rfl : j = k := by omega
                        have FI := hide ((unhide LA).filled hb0 (unhide MM) (unhide HL))
                        clear li la LI3 LA
                        go_wp2
                        go_loopw [16, 18] (fun x y wx => ∃ (p d : Nat) (F' : Nat → Nat → Nat), p ≤ j ∧ d ≤ 4096 ∧ y = .int .i64 p ∧ x = .int .i64 d ∧ LI wA wx X Y G1 G2 c C F' ∧ Filled C F' F i b j p d) (fun _ y _ => j - (intOf y).toNat)
                        case atStart => exact ⟨0, l, F', by omega, by omega, rfl, rfl, unhide LI4, unhide FI⟩
                        case round =>
                          obtain ⟨p, d, F', hp, hd, rfl, rfl, li, fi⟩ := hrel
                          have cX := unhide CX _ _ li
                          have cY := unhide CY _ _ li
                          have xl := lt_of_cell cX
                          have yl := lt_of_cell cY
                          dsimp only at cX cY xl yl
                          have LI6 := hide li
                          have FI6 := hide fi
                          by_cases hpj : p < j
                          · have hpj' : (p : Int) < (j : Int) := by omega
                            by_cases hd0 : 0 < d
                            · have hd0' : 0 < (d : Int) := by omega
                              obtain ⟨d', rfl⟩ : ∃ d', d = d' + 1 := ⟨d - 1, by omega⟩
                              have cC := unhide CC _ _ li p hpj
                              have cF := unhide CF _ _ li p hpj
                              have gl := lt_of_cell cC
                              have gf := lt_of_cell cF
                              have ff := unhide FR _ _ li p
                              dsimp only at cC cF gl gf
                              by_cases h00 : C i p = 0
                              · have NX := hide ((unhide FI6).put hpj hb0 h00)
                                have LI7 := hide (li.set (s := p) hlt b (.int .i64 b) rfl)
                                rw [h00] at cC
                                clear li fi FI LI4 h00
                                go_wp2
                                go_roundw
                                case rel => exact ⟨p + 1, d', _, by omega, by omega, by go_num, by go_num, unhide LI7, unhide NX⟩
                                case measure => simp [intOf]; omega
                              · have hcp : ¬ (C i p : Int) = 0 := by omega
                                have NX := hide ((unhide FI6).skip)
                                generalize C i p = cip at *
                                clear li fi FI LI4 h00
                                go_wp2
                                go_roundw
                                case rel => exact ⟨p + 1, d' + 1, _, by omega, by omega, by go_num, by go_num, unhide LI6, unhide NX⟩
                                case measure => simp [intOf]; omega
                            · obtain rfl : d = 0 := by omega
                              have GE := hide (unhide CE _ _ _ fi (by omega) hb15)
                              clear li fi FI LI4
                              go_wp2
                              go_roundw
                              case rel => exact ⟨i + 1, F', by omega, by go_num, unhide LI6, unhide GE⟩
                              case measure => simp [intOf]; omega
                          · obtain rfl : p = j := by omega
                            by_cases hd0 : 0 < d
                            · have hd0' : 0 < (d : Int) := by omega
                              have BL := hide (bel_into (unhide BA) li.bel)
                              clear li fi FI LI4 FI6 LI6
                              go_wp2_with fail
                              refine (unhide AN _).mono ?_
                              rintro e w8 ⟨rfl, b8⟩
                              have BR := hide (bel_into (unhide BL) b8)
                              clear b8 cX cY xl yl
                              go_wp2
                              go_ret
                              exact ⟨rfl, unhide BR⟩
                            · obtain rfl : d = 0 := by omega
                              have GE := hide (unhide CE _ _ _ fi (by omega) hb15)
                              clear li fi FI LI4
                              go_wp2
                              go_roundw
                              case rel => exact ⟨i + 1, F', by omega, by go_num, unhide LI6, unhide GE⟩
                              case measure => simp [intOf]; omega
        · obtain rfl : i = 5 := by omega
          have YI2 := hide ((unhide (hide li)).yi (unhide BA) gd)
          clear li gd
          go_wp2
          go_meet
          case rel => exact ⟨_, _, unhide YI2⟩
  case rest =>
    obtain ⟨G, F, yi⟩ := hcut
    have YB := hide yi.y
    have YI1 := hide yi
    have BC := hide yi.bel
    have yl := yi.y.lt
    have NW := hide (new6 (fun i => some ⟨G i, 0, none⟩) (sz c) c (unhide HC).1 (fun k j => (F k j : Int)) wc (fun i hi => Sml.ints_row (yi.r.row i hi)) (fun i hi => (yi.g i hi).ch))
    rw [show fv (sl5 (fun i => some ⟨G i, 0, none⟩) (sz c) (sz c)) = fv (gs G c) from rfl] at NW
    clear yi LI0 YI0 FG SZ
    go_wp2_with (first | (refine wpList_load_row rfl 30 (.tmp 11) rfl Y rfl 30 (fv (gs G c)) (0, 0) _ (unhide YB) Tryz.underlying30 rfl info30 ?_) | fail)
    refine (unhide NW).mono ?_
    rintro e w5 ⟨⟨g, T, rfl, gr⟩, b5⟩
    have GR := hide gr
    have B5 := hide b5
    clear gr b5 NW
    go_wp2_with fail
    refine (unhide AN _).mono ?_
    rintro e w6 ⟨rfl, b6⟩
    have B6 := hide b6
    clear b6
    go_wp2_with fail
    refine (nw_new _).mono ?_
    rintro e w7 ⟨gw, u7, rfl, n7⟩
    have N7 := hide n7
    have B57 := hide (bel_into (unhide B6) (unhide N7).bel)
    have BC7 := hide (bel_into (unhide BC) (bel_into (unhide B5) (unhide B57)))
    have YB7 := hide ((unhide YB).below (bel_into (unhide B5) (unhide B57)) yl)
    have TI7 := hide (show TI w w7 wc.heap.size w5.heap.size g gw w7.heap.size c T (fun k j => (F k j : Int)) u7 (.slice none 0 0) 0 0 [] from
      ⟨(unhide GR).below (unhide B57), (unhide N7).wri, ⟨by simp [tcs], .inl ⟨rfl, rfl⟩⟩, fun k a b hk => by have := (unhide N7).ft k hk; have := (unhide B6).size; omega, fun b hb => by simp [Value.ownBlock] at hb, fun b hb => by have := (unhide N7).ft b hb; have := (unhide BC).size; have := (unhide B5).size; have := (unhide B6).size; omega, by have := (unhide B57).size; omega, unhide BC7, (unhide BC7).size, Nat.le_refl _⟩)
    have W9 := hide (HWri.write9 (lo := w.heap.size) (unhide HC).1 (unhide N7).wri (⟨(unhide YI1).r.low, (unhide YI1).r.rise, fun k hk => ((unhide YI1).r.row k hk).below (bel_into (unhide B5) (unhide B57)) ((unhide YI1).r.row k hk).lt⟩ : Rws w.heap.size w7 G c 5 F) ((unhide TB).2.below (unhide BC7)) (fun i hi => ((unhide YI1).g i hi).ch) (fun i hi => ((unhide YI1).g i hi).wa))
    have GD := hide (unhide YI1).g
    clear n7 YB B5 B6 B57 GR YI1 yl BC
    generalize wc.heap.size = lo at *
    generalize w5.heap.size = hi at *
    generalize w7.heap.size = base at *
    go_wp2_with (first | (refine wpList_load_row rfl 30 (.tmp 11) rfl Y rfl 30 (fv (gs G c)) (0, 0) _ (unhide YB7) Tryz.underlying30 rfl info30 ?_) | fail)
    refine (unhide W9).mono ?_
    rintro e w8 ⟨rfl, u8, V0, N0, tw, lt, hN⟩
    have TI8 := hide ((unhide TI7).put tw)
    have AI8 := hide (show AI c F wd V0 N0 N0 [] from ⟨tw.wri.lt, lt, rfl⟩)
    clear tw lt TI7 W9 YB7 BC7 N7
    go_wp2
    have KT := hide (fun (w' : World) (b : Below w.heap.size w w') => (unhide TK).below b)
    have TE := hide (fun (w' : World) (u' v' : Value) (V N : Nat) (tl : List Tk) (t : Tk) (ti : TI w w' lo hi g gw base c T (fun k j => (F k j : Int)) u' v' V N tl) (hN : N ≤ 500000) (b : Bool) (V' N' : Nat) (hb : (okP c t && okA c (fun k j => (F k j : Int)) (qP wd c t)) = b) (ht : b = true → V' = tV c (fun k j => (F k j : Int)) (qP wd c t) V N 5 ∧ N' = tN c (fun k j => (F k j : Int)) (qP wd c t) N 5) (hf : b = false → V' = V ∧ N' = N) =>
      tell11 ti.gr (fun i hi => ((unhide GD) i hi).rng) ti.wri hN ti.ap t wd (okP c t) (qP wd c t) (fun i _ => q_bits wd h0 h1 c t i) (fun w2 b2 => parts17 t c (unhide HC).1 wd h0 h1 w2 (((unhide TB).1.on ti.bel).on b2)) b V' N' hb ht hf)
    simp only [tkc] at TE
    obtain ⟨i0', hi0, hz0, hz1, hz2⟩ := info_parts info44
    go_loopw [22, 23] (fun x y wx => ∃ (i : Nat) (tl : List Tk) (V N : Nat) (u' v' : Value), i ≤ n ∧ x = v' ∧ y = .int .i64 i ∧ TI w wx lo hi g gw base c T (fun k j => (F k j : Int)) u' v' V N tl ∧ AI c F wd V N N0 tl ∧ N ≤ 300000 + 235 * i ∧ tl.length ≤ i ∧ ∀ t ∈ tl, t.a < 4294967296) (fun _ y _ => n - (intOf y).toNat)
    case atStart => exact ⟨0, [], V0, N0, u8, _, by omega, rfl, rfl, unhide TI8, unhide AI8, by omega, by simp, fun t ht => by simp at ht⟩
    case round =>
      obtain ⟨i, tl, V, N, u', v', hin, hx, rfl, ti, ai, hN, htl, hta⟩ := hrel
      obtain ⟨av, cv, rfl, hcv⟩ := own_shape ti.own
      subst hx
      have TI9 := hide ti
      have AI9 := hide ai
      have HTL := hide (And.intro htl hta)
      by_cases hlt : i < n
      · have hlt' : (i : Int) < (n : Int) := by omega
        obtain ⟨t, ht⟩ : ∃ t, ts[i]? = some t := ⟨_, List.getElem?_eq_getElem (by have := (unhide HC).2.2.2.1; omega)⟩
        obtain ⟨bb, off, rfl, hbb, _⟩ := (unhide TK) i t ht
        have TIA := hide ti.bel
        have QQ := hide (fun (w' : World) (b : Below w.heap.size w w') => (show w'.cell? ⟨bb, off + i * 5, none⟩ = some (.int .i64 t.k) ∧ w'.cell? ⟨bb, off + i * 5 + 1, none⟩ = some (.int .i64 t.n) ∧ w'.cell? ⟨bb, off + i * 5 + 2, none⟩ = some (.int .i64 t.d) ∧ w'.cell? ⟨bb, off + i * 5 + 3, none⟩ = some (.int .i64 t.i) ∧ w'.cell? ⟨bb, off + i * 5 + 4, none⟩ = some (.int .u32 t.a) by
          obtain ⟨b2, off2, e2, _, q⟩ := unhide KT w' b i t ht
          cases e2
          exact q))
        have HA := hide (hu t (List.mem_of_getElem? ht))
        have LN := hide (Wri.len_at gw u' V N wr ti.wri (by omega))
        clear ti ai htl hta ht TI8 AI8 hbb
        go_wp2_with fail
        refine (unhide LN).mono ?_
        rintro e w4 ⟨rfl, k4, rfl⟩
        have TI4 := hide ((unhide TI9).drewN k4)
        generalize wr.drewN k4 = w4 at *
        obtain ⟨d0, d1, d2, d3, d4⟩ := unhide QQ w4 (unhide TI4).bel
        have hbw : bb < w4.heap.size := lt_of_cell d0
        have HOK := hide (show (okP c t && okA c (fun k j => (F k j : Int)) (qP wd c t)) = (okP c t && okA c (fun k j => (F k j : Int)) (qP wd c t)) from rfl)
        clear TI9 LN
        cases hbv : (okP c t && okA c (fun k j => (F k j : Int)) (qP wd c t)) with
        | false =>
          have T1 := hide (unhide TE w4 u' _ V N tl t (unhide TI4) (by omega) false V N hbv (fun h => by cases h) (fun _ => ⟨rfl, rfl⟩))
          clear hbv HOK
          go_wp2_with fail
          refine (unhide T1).mono ?_
          rintro e w5 ⟨rfl, u5, tw⟩
          have TI5 := hide ((unhide TI4).put tw)
          have LN := hide (Wri.len_at gw u5 V N w5 tw.wri (by omega))
          clear tw T1 TI4 d0 d1 d2 d3 d4 hbw
          go_wp2_with fail
          refine (unhide LN).mono ?_
          rintro e w6 ⟨rfl, k6, rfl⟩
          have TI6 := hide ((unhide TI5).drewN k6)
          generalize w5.drewN k6 = w6 at *
          clear TI5 LN
          go_wp2
          go_roundw
          case rel => exact ⟨i + 1, tl, V, N, u5, _, by omega, rfl, by go_num, unhide TI6, unhide AI9, by omega, by have := (unhide HTL).1; omega, (unhide HTL).2⟩
          case measure => simp [intOf]; omega
        | true =>
          have hb2 : okP c t = true ∧ okA c (fun k j => (F k j : Int)) (qP wd c t) = true := by simpa using hbv
          obtain ⟨V2, hV2⟩ : ∃ V2, V2 = tV c (fun k j => (F k j : Int)) (qP wd c t) V N 5 := ⟨_, rfl⟩
          obtain ⟨N2, hN2⟩ : ∃ N2, N2 = tN c (fun k j => (F k j : Int)) (qP wd c t) N 5 := ⟨_, rfl⟩
          have T1 := hide (unhide TE w4 u' _ V N tl t (unhide TI4) (by omega) true V2 N2 hbv (fun _ => ⟨hV2, hN2⟩) (fun h => by cases h))
          have AI2 := hide ((unhide AI9).next h0 h1 (unhide GD) hb2.1 hb2.2)
          rw [← hV2, ← hN2] at AI2
          clear hbv HOK hb2 hV2 hN2
          go_wp2_with fail
          refine (unhide T1).mono ?_
          rintro e w5 ⟨rfl, u5, tw⟩
          have TI5 := hide ((unhide TI4).put tw)
          clear tw T1 TI4 d0 d1 d2 d3 d4 hbw
          obtain ⟨d0, d1, d2, d3, d4⟩ := unhide QQ w5 (unhide TI5).bel
          have hbw : bb < w5.heap.size := lt_of_cell d0
          have NWS := hide (show ∀ j u, (tc t)[j]? = some u → (w5.alloc (.cells #[.int .i64 t.k, .int .i64 t.n, .int .i64 t.d, .int .i64 t.i, .int .u32 t.a] 44)).cell? ((⟨w5.heap.size, 0, none⟩ : Addr).add j) = some u from box_new (Box.made w5 44 #[.int .i64 t.k, .int .i64 t.n, .int .i64 t.d, .int .i64 t.i, .int .u32 t.a]))
          have TI6 := hide ((unhide TI5).below (bel_a1 w5 (.cells #[.int .i64 t.k, .int .i64 t.n, .int .i64 t.d, .int .i64 t.i, .int .u32 t.a] 44)))
          have HSL := hide (show tl.length ≤ 100 by have := (unhide HTL).1; omega)
          go_wp2_with (first | (at_builtin; refine wpList_append_own_at _ rfl (.tmp 203) (.tmp 208) 22 rfl base 44 i0' (.agg #[.int .i64 0, .int .i64 0, .int .i64 0, .int .i64 0, .int .u32 0]) 5 40 Tryz.underlying22 hi0 hz0 hz1 hz2 rfl (by decide) _ tl.length (tcs tl) rfl (unhide TI6).own ⟨w5.heap.size, 0, none⟩ 1 1 (tc t) rfl rfl (unhide NWS) (tc_one _) (by have := unhide HSL; unfold maxLen; omega) (by have := unhide HSL; omega) (unhide TI6).hb ?_; intro v1 w7 own1 gr1 _ at1; obtain ⟨a1, k1, rfl, _⟩ := own_shape own1; have TI7 := hide ((unhide TI6).app own1 gr1 at1); clear own1 gr1 at1) | go_in)
          clear NWS TI6 TI5 d0 d1 d2 d3 d4 hbw
          refine ⟨⟨i + 1, tl ++ [t], V2, N2, u5, _, by omega, rfl, by go_num, unhide TI7, (unhide AI2).1, by have := (unhide AI2).2; omega, by rw [List.length_append]; have := (unhide HTL).1; simp; omega, fun y hy => ?_⟩, by simp [intOf]; omega⟩
          rcases List.mem_append.1 hy with h | h
          · exact (unhide HTL).2 y h
          · rw [List.mem_singleton] at h
            subst h
            exact unhide HA
      · have hni : ¬ (i : Int) < (n : Int) := by omega
        clear ti ai TI8 AI8
        have BY := hide (Byt.bytes_at gw u' V N wr (unhide TI9).wri (by omega))
        obtain ⟨at3, ct3, het, _, tks3⟩ := own_tks (unhide TI9).own rfl
        obtain ⟨rfl, _, rfl⟩ := het
        have TK3 := hide tks3
        have BW := hide (unhide TI9).bel
        have HNB := hide (show N ≤ 400000 by omega)
        have htl3 : (tl.length : Int) ≤ 100 := by omega
        clear TI9 TE KT htl hta tks3 hcv
        go_wp2_with fail
        refine (unhide BY).mono ?_
        rintro e w1 ⟨vb, rfl, ob1, b1⟩
        obtain ⟨ab, cb, rfl⟩ := own_slice ob1
        have LK := hide (look9 ab ((N + 7) / 8) cb (byt V) (byt_le V) w1 (src_of_own ob1) (by have := unhide HNB; omega))
        have B1 := hide b1
        clear ob1 b1 BY
        go_wp2_with fail
        refine (unhide LK).mono ?_
        rintro e w2 ⟨e9, rfl, sees, b2⟩
        have B2 := hide b2
        have hse : w1.heap.size ≤ e9 ∧ e9 < w2.heap.size := by
          obtain ⟨_, _, _, h1, h2, _⟩ := sees
          exact ⟨h1, h2⟩
        have HSE := hide hse
        have RD := hide (HRdg.read14 (elo := w1.heap.size) (ehi := w2.heap.size) (bl := (N + 7) / 8) (q := N0) (unhide HC).1 (byt_le V) (by have := unhide HNB; omega) (show Eyes w2 w1.heap.size w2.heap.size e9 (byt V) ((N + 7) / 8) (some 0) from sees) ⟨hse.1, hse.2, Nat.le_refl _⟩ (HLns.num_bits V N (unhide AI9).lt) (by have := (unhide AI9).tt.le; omega) (unhide AI9).len (fun i hi => ((unhide GD) i hi).ch))
        clear sees b2 hse LK
        go_wp2_with fail
        refine (unhide RD).mono ?_
        rintro e w3 ⟨⟨g2, L2, C2, rfl, rgi⟩, ey3, up3⟩
        have RE3 := hide (show HRst.RE w3 w2.heap.size g2 c L2 C2 F w1.heap.size w2.heap.size e9 ((N + 7) / 8) N0 (byt V) from ⟨rgi, ey3, unhide HSE, Nat.le_refl _⟩)
        have BB := hide (fun (wa wb : World) (b : Below wr.heap.size wr wa) (u : Upd (fun k => k = e9) wa wb) => b.trans (u.below _ b.size (fun k (hk : k = e9) => by have := (unhide HSE).1; have := (unhide B1).size; omega)))
        have BT3 := hide (unhide BB w2 w3 (bel_into (unhide B1) (unhide B2)) up3)
        clear rgi ey3 up3 RD B1 B2
        generalize w1.heap.size = elo at *
        generalize w2.heap.size = ehi at *
        have TTA := hide (unhide AI9).tt
        go_wp2
        generalize wr = wt at *
        go_loopw [28] (fun x wx => ∃ i p : Nat, i ≤ tl.length ∧ x = .int .i64 i ∧ HRst.RE wx ehi g2 c L2 C2 F elo ehi e9 ((N + 7) / 8) p (byt V) ∧ TT c F wd V (tl.drop i) p N ∧ Below wt.heap.size wt wx) (fun x _ => tl.length - (intOf x).toNat)
        case atStart => exact ⟨0, N0, by omega, rfl, unhide RE3, by simpa using unhide TTA, unhide BT3⟩
        case round =>
          obtain ⟨j, p, hj, rfl, re, tt, bt⟩ := hrel
          by_cases hjl : j < tl.length
          · have hjl' : (j : Int) < (tl.length : Int) := by omega
            obtain ⟨t, ht⟩ : ∃ t, tl[j]? = some t := ⟨_, List.getElem?_eq_getElem hjl⟩
            obtain ⟨b3, off3, rfl, hb3, _⟩ := (unhide TK3) j t ht
            have QQ := hide (fun (w' : World) (b : Below wt.heap.size wt w') => (show w'.cell? ⟨b3, off3 + j * 5, none⟩ = some (.int .i64 t.k) ∧ w'.cell? ⟨b3, off3 + j * 5 + 1, none⟩ = some (.int .i64 t.n) ∧ w'.cell? ⟨b3, off3 + j * 5 + 2, none⟩ = some (.int .i64 t.d) ∧ w'.cell? ⟨b3, off3 + j * 5 + 3, none⟩ = some (.int .i64 t.i) ∧ w'.cell? ⟨b3, off3 + j * 5 + 4, none⟩ = some (.int .u32 t.a) by
              obtain ⟨b2, off2, e2, _, q⟩ := ((unhide TK3).below b) j t ht
              cases e2
              exact q))
            obtain ⟨ok, te, tt2⟩ := tt_at (unhide AI9) tt ht (unhide HC).1 (by have := unhide HNB; omega) (unhide GD)
            have ST := hide (step15 t ((unhide HTL).2 t (List.mem_of_getElem? ht)) wd h0 h1 ok te re)
            have BT := hide bt
            have TT2 := hide tt2
            clear re tt bt te tt2 ht RE3 TTA BT3 hb3
            rcases kinds ok with ⟨tn, td, tx, ta, rfl, hz⟩ | ⟨tn, td, tx, ta, rfl, hz⟩ | ⟨tn, td, tx, ta, rfl, hz⟩
            · go_wp2_with fail
              refine (unhide ST).mono ?_
              rintro e w5 ⟨r5, rb⟩
              rw [hz] at r5
              subst r5
              have B5 := hide (unhide BB wr w5 (unhide BT) rb.upd)
              obtain ⟨d0, d1, d2, d3, d4⟩ := unhide QQ w5 (unhide B5)
              have hbw : b3 < w5.heap.size := lt_of_cell d0
              have RE6 := hide rb.re
              have eqt := eq_tok 1 0 0 0 ta
              clear rb ST BT hz ok
              go_wp2
              exact ⟨⟨j + 1, _, by omega, by go_num, (HSpp.start (HSpp.start (unhide RE6) _).re _).re, unhide TT2, ((unhide B5).alloc (unhide B5).size _).alloc (by have := (unhide B5).size; simp; omega) _⟩, by simp [intOf]; omega⟩
            · go_wp2_with fail
              refine (unhide ST).mono ?_
              rintro e w5 ⟨r5, rb⟩
              rw [hz] at r5
              subst r5
              have B5 := hide (unhide BB wr w5 (unhide BT) rb.upd)
              obtain ⟨d0, d1, d2, d3, d4⟩ := unhide QQ w5 (unhide B5)
              have hbw : b3 < w5.heap.size := lt_of_cell d0
              have RE6 := hide rb.re
              have eqt := eq_tok 2 tn td 0 0
              clear rb ST BT hz ok
              go_wp2
              exact ⟨⟨j + 1, _, by omega, by go_num, (HSpp.start (HSpp.start (unhide RE6) _).re _).re, unhide TT2, ((unhide B5).alloc (unhide B5).size _).alloc (by have := (unhide B5).size; simp; omega) _⟩, by simp [intOf]; omega⟩
            · go_wp2_with fail
              refine (unhide ST).mono ?_
              rintro e w5 ⟨r5, rb⟩
              rw [hz] at r5
              subst r5
              have B5 := hide (unhide BB wr w5 (unhide BT) rb.upd)
              obtain ⟨d0, d1, d2, d3, d4⟩ := unhide QQ w5 (unhide B5)
              have hbw : b3 < w5.heap.size := lt_of_cell d0
              have RE6 := hide rb.re
              have eqt := eq_tok 3 0 0 tx 0
              clear rb ST BT hz ok
              go_wp2
              exact ⟨⟨j + 1, _, by omega, by go_num, (HSpp.start (HSpp.start (unhide RE6) _).re _).re, unhide TT2, ((unhide B5).alloc (unhide B5).size _).alloc (by have := (unhide B5).size; simp; omega) _⟩, by simp [intOf]; omega⟩
          · have hjl' : ¬ (j : Int) < (tl.length : Int) := by omega
            have BF := hide ((unhide BW).trans (bt.mono (unhide BW).size))
            clear re tt bt
            go_wp2
            go_ret
            exact ⟨rfl, unhide BF⟩
end Go.Proofs.YtgjpcjnhggcfdaaGreatDoor.HGbk
