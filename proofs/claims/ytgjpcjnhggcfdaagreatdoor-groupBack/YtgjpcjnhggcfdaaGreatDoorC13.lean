/-
  Plain facts: what lies in memory while the document's own reading of lengths (ref.Lens) goes on. Conditions: as each says.
  Contract: the document's own reading of lengths (ref.Lens) where they are well told. Conditions: the bits are there, and the lengths are complete.
  Contracts: the document's own reading of lengths (ref.Lens) told by hand; whether two lists are the same (ref.Ints). Conditions: the bits are there; the slices read as integers, and they are few.
  Contract: ref.Same says true of two slices of the same bytes. Conditions: both slices read as these bytes.
-/
import Derived.Test.YtgjpcjnhggcfdaaGreatDoorC12
import Derived.Test.YtgjpcjnhggcfdaaGreatDoorC07
import Derived.Deep.RegionWith
import Derived.Test.YtgjpcjnhggcfdaaGreatDoorC10
namespace Go.Proofs.YtgjpcjnhggcfdaaGreatDoor.Lrn
open Go.ChangeShapes Go.WideShapes Go.ChangeAt Go.RowKit Go.Proofs.YtgjpcjnhggcfdaaGreatDoor.Core Go.Proofs.YtgjpcjnhggcfdaaGreatDoor.Gnd Go.Proofs.YtgjpcjnhggcfdaaGreatDoor.Math Go.Proofs.YtgjpcjnhggcfdaaGreatDoor.Bitin Go.Proofs.YtgjpcjnhggcfdaaGreatDoor.Eyes Go.Proofs.YtgjpcjnhggcfdaaGreatDoor.Dec Go.Proofs.YtgjpcjnhggcfdaaGreatDoor.Cod Go.Proofs.YtgjpcjnhggcfdaaGreatDoor.Ord Go.Proofs.YtgjpcjnhggcfdaaGreatDoor.Sym Go.Proofs.YtgjpcjnhggcfdaaGreatDoor.Rcd Go.Proofs.YtgjpcjnhggcfdaaGreatDoor.Rck Go.Proofs.YtgjpcjnhggcfdaaGreatDoor.Lsp

/-- Eye.Num where there are as many bits. -/
theorem num_at (lo hi e bl m i : Nat) (bc : Nat → Nat) (hc : ∀ k, bc k ≤ 255) (w : World) (h : Eyes w lo hi e bc bl (some i)) (hl : bl ≤ 100000) (n1 : m ≤ 32) (him : i + m ≤ 8 * bl) :
    Calls Tryz.prog 51 #[.pointer (some ⟨e, 0, none⟩), .int .i64 m] w fun r w' => r = .returned (.int .i64 (nb (num bc 0 bl) i m)) ∧ Eyes w' lo hi e bc bl (some (i + m)) ∧ Upd (fun k => k = e) w w' := by
  refine (num_step lo hi e bl m (some i) bc hc w h hl n1).mono ?_
  rintro r w' ⟨rfl, h1, h2⟩
  refine ⟨?_, ?_, h2⟩
  · simp only [resV, him, if_true, nb_val]
  · by_cases h0 : m = 0
    · subst h0
      simpa [stp] using h1
    · simpa [stp, h0, him] using h1
theorem ints_box {w : World} {g n cap : Nat} {f : Nat → Nat} (h : Box w g 3 (nr f n).toArray) : Ints .i64 w (.slice (some ⟨g, 0, none⟩) n cap) n (fun k => (f k : Int)) :=
  ⟨_, _, rfl, fun i hi => ⟨g, 0, rfl, by rw [h.cell, Nat.zero_add, na_at _ _ _ hi]⟩⟩
/-- What lies in memory: the eye, the lengths so far, the code of lengths, the order. -/
structure St (w wr : World) (lo hi e bl i g0 g1 g2 n : Nat) (bc f h : Nat → Nat) : Prop where
  eye : Eyes wr lo hi e bc bl (some i)
  out : Box wr g0 3 (nr f n).toArray
  short : Box wr g1 3 (nr h 19).toArray
  order : Box wr g2 3 (nr ord 19).toArray
  upd : Upd (fun k => k = e) w wr
  ne : lo ≤ e ∧ e < hi ∧ hi ≤ w.heap.size ∧ w.heap.size ≤ g0 ∧ g0 < g1 ∧ g1 < g2
theorem St.num {w wr w' : World} {lo hi e bl i j g0 g1 g2 n : Nat} {bc f h : Nat → Nat} (s : St w wr lo hi e bl i g0 g1 g2 n bc f h) (he : Eyes w' lo hi e bc bl (some j)) (u : Upd (fun k => k = e) wr w') : St w w' lo hi e bl j g0 g1 g2 n bc f h := by
  obtain ⟨h1, h2, h3, h4, h5, h6⟩ := s.ne
  exact ⟨he, s.out.keep u (by omega), s.short.keep u (by omega), s.order.keep u (by omega), s.upd.trans u, s.ne⟩
theorem upd_at {w wr : World} {e : Nat} (h : Upd (fun k => k = e) w wr) {g : Nat} (hg : w.heap.size ≤ g) (k : Nat) (v : Value) : Upd (fun k => k = e) w (wr.setCell ⟨g, k, none⟩ v) := upd_new h (p := ⟨g, k, none⟩) hg v
theorem upd_one (wr : World) (g k : Nat) (v : Value) : Upd (fun k => k = g) wr (wr.setCell ⟨g, k, none⟩ v) := (Upd.refl (fun k => k = g) wr).setCell (p := ⟨g, k, none⟩) rfl v
theorem St.put1 {w wr : World} {lo hi e bl i g0 g1 g2 n : Nat} {bc f h : Nat → Nat} (s : St w wr lo hi e bl i g0 g1 g2 n bc f h) (k z : Nat) (h' : Nat → Nat) (hh : ∀ j, j < 19 → h' j = if j = k then z else h j) :
    St w (wr.setCell ⟨g1, k, none⟩ (.int .i64 z)) lo hi e bl i g0 g1 g2 n bc f h' := by
  obtain ⟨h1, h2, h3, h4, h5, h6⟩ := s.ne
  refine ⟨s.eye.keep (upd_one wr g1 k _) (fun j _ h => by omega), s.out.keep (upd_one wr g1 k _) (by omega), ?_, s.order.keep (upd_one wr g1 k _) (by omega), upd_at s.upd (by omega) _ _, s.ne⟩
  have := s.short.set k (.int .i64 z)
  rw [na_set, na_congr (g := h') (fun j hj => (hh j hj).symm)] at this
  exact this
theorem St.put0 {w wr : World} {lo hi e bl i g0 g1 g2 n : Nat} {bc f h : Nat → Nat} (s : St w wr lo hi e bl i g0 g1 g2 n bc f h) (k z : Nat) (f' : Nat → Nat) (hh : ∀ j, j < n → f' j = if j = k then z else f j) :
    St w (wr.setCell ⟨g0, k, none⟩ (.int .i64 z)) lo hi e bl i g0 g1 g2 n bc f' h := by
  obtain ⟨h1, h2, h3, h4, h5, h6⟩ := s.ne
  refine ⟨s.eye.keep (upd_one wr g0 k _) (fun j _ h => by omega), ?_, s.short.keep (upd_one wr g0 k _) (by omega), s.order.keep (upd_one wr g0 k _) (by omega), upd_at s.upd (by omega) _ _, s.ne⟩
  have := s.out.set k (.int .i64 z)
  rw [na_set, na_congr (g := f') (fun j hj => (hh j hj).symm)] at this
  exact this
theorem St.drew {w wr : World} {lo hi e bl i g0 g1 g2 n : Nat} {bc f h : Nat → Nat} (s : St w wr lo hi e bl i g0 g1 g2 n bc f h) (k : Nat) : St w (wr.drewN k) lo hi e bl i g0 g1 g2 n bc f h :=
  ⟨s.eye.keep ((Upd.refl (fun _ => False) wr).drewN k) (fun _ _ _ h => h), s.out, s.short, s.order, s.upd.drewN k, s.ne⟩
theorem St.outc {w wr : World} {lo hi e bl i g0 g1 g2 n : Nat} {bc f f' h : Nat → Nat} (s : St w wr lo hi e bl i g0 g1 g2 n bc f h) (hh : ∀ j, j < n → f j = f' j) : St w wr lo hi e bl i g0 g1 g2 n bc f' h :=
  ⟨s.eye, by rw [← na_congr hh]; exact s.out, s.short, s.order, s.upd, s.ne⟩
theorem St.below {w wr w' : World} {lo hi e bl i g0 g1 g2 n : Nat} {bc f h : Nat → Nat} (s : St w wr lo hi e bl i g0 g1 g2 n bc f h) (u : Below wr.heap.size wr w') : St w w' lo hi e bl i g0 g1 g2 n bc f h :=
  have k : Upd (fun _ => False) wr w' := Upd.ofBelow u
  ⟨s.eye.keep k (fun _ _ _ h => h), s.out.keep k (fun h => h), s.short.keep k (fun h => h), s.order.keep k (fun h => h), s.upd.trans (k.mono (fun _ _ h => h.elim)), s.ne⟩
theorem int_keep {k : IntKind} {S : Nat → Prop} {w w' : World} {g n cap : Nat} {f : Nat → Int} (h : Ints k w (.slice (some ⟨g, 0, none⟩) n cap) n f) (u : Upd S w w') (hs : ¬ S g) : Ints k w' (.slice (some ⟨g, 0, none⟩) n cap) n f := by
  obtain ⟨a, c, e, h⟩ := h
  cases e
  refine ⟨_, _, rfl, fun i hi => ?_⟩
  obtain ⟨b, off, e, hc⟩ := h i hi
  cases e
  exact ⟨_, _, rfl, (u.cell (p := ⟨g, 0 + i, none⟩) (lt_of_cell hc) hs).trans hc⟩
/-- ref.Symbol where there are as many bits. -/
theorem sym_at (v cv : Value) (c : Nat → Int) (hch : chk c 19 = 0) (lo hi e bl i L s : Nat) (bc : Nat → Nat) (hc : ∀ k, bc k ≤ 255) (hbl : bl ≤ 100000) (w : World) (hv : ∀ w', Upd (fun k => k = e) w w' → Both w' v cv 19 c) (he : Eyes w lo hi e bc bl (some i))
    (nx : Nx c 19 (fun j => nb (num bc 0 bl) (i + j) 1) L s) (hiL : i + L ≤ 8 * bl) :
    Calls Tryz.prog 54 #[v, cv, .pointer (some ⟨e, 0, none⟩)] w fun r w' => r = .returned (.int .i64 s) ∧ Eyes w' lo hi e bc bl (some (i + L)) ∧ Upd (fun k => k = e) w w' := by
  refine (sym14 v cv 19 c (by omega) hch lo hi e bl i L s bc hc hbl w hv he (nx_congr nx (fun j hj => nb_bt bc hc bl (i + j) (by omega)))).mono ?_
  rintro r w' ⟨rfl, h1, h2⟩
  refine ⟨?_, ?_, h2⟩
  · unfold symV
    rw [if_pos hiL]
  · unfold Trr.outS at h1
    rw [if_pos hiL] at h1
    exact h1
theorem St.next {w wr : World} {lo hi e bl i g0 g1 g2 n a u v : Nat} {bc F h : Nat → Nat} (s : St w wr lo hi e bl i g0 g1 g2 n bc (fun j => if j < a + u then F j else 0) h) (hv : F (a + u) = v) :
    St w (wr.setCell ⟨g0, a + u, none⟩ (.int .i64 v)) lo hi e bl i g0 g1 g2 n bc (fun j => if j < a + (u + 1) then F j else 0) h := by
  refine s.put0 (a + u) v _ (fun j _ => ?_)
  by_cases e : j = a + u
  · subst e
    rw [if_pos rfl]
    show (if a + u < a + (u + 1) then F (a + u) else 0) = v
    rw [if_pos (by omega), hv]
  · rw [if_neg e]
    show (if j < a + (u + 1) then F j else 0) = if j < a + u then F j else 0
    by_cases h2 : j < a + u
    · rw [if_pos h2, if_pos (by omega)]
    · rw [if_neg h2, if_neg (by omega)]
end Go.Proofs.YtgjpcjnhggcfdaaGreatDoor.Lrn

namespace Go.Proofs.YtgjpcjnhggcfdaaGreatDoor.Lrf
open Go.ChangeShapes Go.WideShapes Go.ChangeAt Go.RowKit Go.Proofs.YtgjpcjnhggcfdaaGreatDoor.Core Go.Proofs.YtgjpcjnhggcfdaaGreatDoor.Gnd Go.Proofs.YtgjpcjnhggcfdaaGreatDoor.Math Go.Proofs.YtgjpcjnhggcfdaaGreatDoor.Bitin Go.Proofs.YtgjpcjnhggcfdaaGreatDoor.Eyes Go.Proofs.YtgjpcjnhggcfdaaGreatDoor.Dec Go.Proofs.YtgjpcjnhggcfdaaGreatDoor.Cod Go.Proofs.YtgjpcjnhggcfdaaGreatDoor.Ord Go.Proofs.YtgjpcjnhggcfdaaGreatDoor.Sym Go.Proofs.YtgjpcjnhggcfdaaGreatDoor.Rcd Go.Proofs.YtgjpcjnhggcfdaaGreatDoor.Rck Go.Proofs.YtgjpcjnhggcfdaaGreatDoor.Lsp Go.Proofs.YtgjpcjnhggcfdaaGreatDoor.Lrn

theorem ord_row : (#[.int .i64 17, .int .i64 18, .int .i64 0, .int .i64 1, .int .i64 2, .int .i64 3, .int .i64 4, .int .i64 5, .int .i64 16, .int .i64 6, .int .i64 7, .int .i64 8, .int .i64 9, .int .i64 10, .int .i64 11, .int .i64 12, .int .i64 13, .int .i64 14, .int .i64 15] : Array Value) = (nr ord 19).toArray := rfl
/-- A reading from here to there. -/
def Rd (lo hi e bl : Nat) (bc : Nat → Nat) (i m : Nat) (z : Nat) : Prop :=
  ∀ w, Eyes w lo hi e bc bl (some i) → Calls Tryz.prog 51 #[.pointer (some ⟨e, 0, none⟩), .int .i64 m] w fun r w' => r = .returned (.int .i64 z) ∧ Eyes w' lo hi e bc bl (some (i + m)) ∧ Upd (fun k => k = e) w w'
theorem rd_of (lo hi e bl : Nat) (bc : Nat → Nat) (hc : ∀ k, bc k ≤ 255) (hl : bl ≤ 100000) (i m z : Nat) (n1 : m ≤ 32) (him : i + m ≤ 8 * bl) (hz : nb (num bc 0 bl) i m = z) : Rd lo hi e bl bc i m z := by
  intro w h
  rw [← hz]
  exact num_at lo hi e bl m i bc hc w h hl n1 him
set_option maxRecDepth 20000 in
set_option maxHeartbeats 4000000 in
theorem lens_norm (lo hi e bl i n K most p q : Nat) (l : List (Nat × Nat)) (bc : Nat → Nat) (hc : ∀ k, bc k ≤ 255) (hbl : bl ≤ 100000) (w : World) (he : Eyes w lo hi e bc bl (some i)) (hlo : lo ≤ e ∧ e < hi ∧ hi ≤ w.heap.size) (hn1 : 1 ≤ n) (hn : n ≤ 100000)
    (nm : Norm (num bc 0 bl) i n K most p l q) (hq : q ≤ 8 * bl) (full : List Nat) (hfu : told l 8 = full) (hch : chk (fun j => (got full j : Int)) n = 0) :
    Calls Tryz.prog 28 #[.pointer (some ⟨e, 0, none⟩), .int .i64 n] w fun r w' => ∃ g, r = .returned (.tuple #[.slice (some ⟨g, 0, none⟩) n n, .int .i64 0]) ∧ w.heap.size ≤ g ∧ Box w' g 3 (nr (got full) n).toArray ∧ Eyes w' lo hi e bc bl (some q) ∧ Upd (fun k => k = e) w w' := by
  have hmk := fun w => make_ints w n (by omega)
  have hmk19 : ∀ w : World, (Instr.makeSlice 26 (.int .i64 19) (.int .i64 19)).run Tryz.prog w = .ok (.slice (some ⟨w.heap.size, 0, none⟩) 19 19) (w.alloc (.cells (nr (fun _ => 0) 19).toArray 3)) := fun w => make_ints w 19 (by omega)
  have hpq := nm.steps.le
  have HP : p ≤ 8 * bl := by omega
  have HK4 : 4 ≤ K := by have := nm.cnt; omega
  have HK19 := nm.lim
  have HH : i + 5 + 3 * K + 1 ≤ p := by rcases nm.head with h | h <;> omega
  have R0 := hide (rd_of lo hi e bl bc hc hbl i 1 0 (by omega) (by omega) nm.bit)
  have R1 := hide (rd_of lo hi e bl bc hc hbl (i + 1) 4 (K - 4) (by omega) (by omega) (by have := nm.cnt; omega))
  have R2 := hide (fun j (hj : j < K) => rd_of lo hi e bl bc hc hbl (i + 5 + 3 * j) 3 (nb (num bc 0 bl) (i + 5 + 3 * j) 3) (by omega) (by omega) rfl)
  have NM := hide nm
  have HE := hide he
  have HQ := hide hq
  have HCH := hide hch
  have HLO := hide hlo
  have FUL := hide hfu
  clear nm he hq hpq hch hfu
  go_enter Tryz.func28, Tryz.ntmps28
  go_wp2_with fail
  have E1 := (unhide HE).keep ((Upd.refl (fun _ => False) w).alloc (.cells (nr (fun _ => 0) n).toArray 3)) (fun _ _ _ h => h)
  have O1 := Box.made w 3 (nr (fun _ => 0) n).toArray
  have U1 : Upd (fun k => k = e) w (w.alloc (.cells (nr (fun _ => 0) n).toArray 3)) := (Upd.refl _ w).alloc _
  refine ((unhide R0) _ E1).mono ?_
  rintro r w1 ⟨rfl, e1, u1⟩
  have O2 := hide (O1.keep u1 (by have := unhide HLO; omega))
  have U2 := hide (U1.trans u1)
  have E2 := hide e1
  have hsz : w.heap.size < w1.heap.size := by have := u1.size; simp at this; omega
  clear E1 O1 U1 u1 e1 R0 HE
  go_wp2_with fail
  have ST := hide (show St w ((w1.alloc (.cells (nr (fun _ => 0) 19).toArray 3)).alloc (.cells (nr ord 19).toArray 3)) lo hi e bl (i + 1) w.heap.size w1.heap.size (w1.heap.size + 1) n bc (fun _ => 0) (fun _ => 0) from
    ⟨(unhide E2).keep (((Upd.refl (fun _ => False) w1).alloc _).alloc _) (fun _ _ _ h => h), ((unhide O2).alloc _).alloc _, (Box.made w1 3 _).alloc _, by
      have := Box.made (w1.alloc (.cells (nr (fun _ => 0) 19).toArray 3)) 3 (nr ord 19).toArray
      rw [World.size_alloc] at this
      exact this, ((unhide U2).alloc _).alloc _, by have := unhide HLO; omega⟩)
  rw [ord_row]
  generalize (w1.alloc (.cells (nr (fun _ => 0) 19).toArray 3)).alloc (.cells (nr ord 19).toArray 3) = w2 at *
  generalize w1.heap.size = g1 at *
  clear E2 O2 U2
  refine ((unhide R1) _ (unhide ST).eye).mono ?_
  rintro r w3 ⟨rfl, e3, u3⟩
  have ST3 := hide ((unhide ST).num e3 u3)
  obtain ⟨k4, hk4⟩ : ∃ k4, K = k4 + 4 := ⟨K - 4, by omega⟩
  have e4 : ((K - 4 : Nat) : Int) + 4 = (K : Int) := by omega
  have e5 : ((K - 4 : Nat) : Int) ≤ 15 := by omega
  generalize ((K - 4 : Nat) : Int) = y4 at *
  clear ST e3 u3 R1 hk4
  go_wp2
  go_loopw [14] (fun x wr => ∃ j : Nat, j ≤ K ∧ x = .int .i64 j ∧ St w wr lo hi e bl (i + 5 + 3 * j) w.heap.size g1 (g1 + 1) n bc (fun _ => 0) (cl (num bc 0 bl) (i + 5) j)) (fun x _ => K - (intOf x).toNat)
  case atStart => exact ⟨0, Nat.zero_le _, rfl, by
    have := (unhide ST3)
    rw [show cl (num bc 0 bl) (i + 5) 0 = fun _ => 0 from funext (cl_zero _ _)]
    exact this⟩
  case round =>
    obtain ⟨j, hj, rfl, st⟩ := hrel
    have S := hide st
    by_cases hlt : j < K
    · have hlt' : (j : Int) < (K : Int) := by omega
      have hj19 : j < 19 := by omega
      have hj19' : (j : Int) < 19 := by omega
      have hol := ord_lt j hj19
      have hol' : (ord j : Int) < 19 := by omega
      have d1 : wr.cell? ⟨g1 + 1, j, none⟩ = some (.int .i64 (ord j)) := (st.order.cell j).trans (na_at _ _ _ hj19)
      have RR := hide (unhide R2 j hlt)
      have PUT := hide (fun w4 (h4 : Eyes w4 lo hi e bc bl (some (i + 5 + 3 * j + 3))) (u4 : Upd (fun k => k = e) wr w4) => St.put1 (st.num h4 u4) (ord j) (nb (num bc 0 bl) (i + 5 + 3 * j) 3) (cl (num bc 0 bl) (i + 5) (j + 1)) (fun s hs => cl_next _ _ _ _ hj19 hs))
      have FRE := hide (fun w4 (u4 : Upd (fun k => k = e) wr w4) => (st.order.keep u4 (by have := st.ne; omega)).cell j |>.trans (na_at _ _ _ hj19))
      have SHC := hide (fun w4 (u4 : Upd (fun k => k = e) wr w4) => And.intro ((st.short.keep u4 (by have := st.ne; omega)).cell (ord j) |>.trans (na_at _ _ _ hol)) ((st.short.keep u4 (by have := st.ne; omega)).free (ord j)))
      have UD := hide (show Upd (fun k => k = e) wr wr.drew from ⟨rfl, rfl, rfl, Nat.le_refl _, fun _ _ _ => rfl⟩)
      have ED := hide (st.eye.keep (S := fun _ => False) (w' := wr.drew) ⟨rfl, rfl, rfl, Nat.le_refl _, fun _ _ _ => rfl⟩ (fun _ _ _ h => h))
      clear st
      generalize nb (num bc 0 bl) (i + 5 + 3 * j) 3 = z at *
      generalize ord j = oj at *
      go_wp2
      go_region_with (go_at_call 51; refine ((unhide RR) _ (unhide ED)).mono ?_; rintro r w4 ⟨rfl, e4, u4⟩; have D4 := unhide FRE w4 ((unhide UD).trans u4); obtain ⟨sc1, sc2⟩ := unhide SHC w4 ((unhide UD).trans u4); have PT := hide (unhide PUT w4 e4 ((unhide UD).trans u4)); clear e4 u4)
      all_goals go_wp2
      all_goals go_roundw
      all_goals first | exact ⟨j + 1, by omega, by go_num, unhide PT⟩ | (simp [intOf]; omega)
    · obtain rfl : K = j := by omega
      have hnl : ¬ (K : Int) < (K : Int) := by omega
      obtain ⟨cg, _, ck⟩ := chk_zero (unhide NM).chk
      have sh : wr.cell? ⟨e, 2, none⟩ = some (.bool false) := eye_short st.eye
      have CK := hide (rcheck12 (.slice (some ⟨g1, 0, none⟩) 19 19) 19 (fun s => (cl (num bc 0 bl) (i + 5) K s : Int)) (by omega) wr (ints_box st.short))
      rw [(unhide NM).chk] at CK
      have CC := hide (rcodes_new (.slice (some ⟨g1, 0, none⟩) 19 19) 19 (fun s => (cl (num bc 0 bl) (i + 5) K s : Int)) (by omega) cg ck wr (ints_box st.short))
      have hng := st.ne
      clear st cg ck R2 ST3
      go_wp2_with fail
      refine (unhide CK).mono ?_
      rintro rr w5 ⟨rfl, rfl⟩
      go_wp2_with fail
      refine (unhide CC).mono ?_
      rintro rr w6 ⟨rfl, cod6, b6⟩
      have s6 := (unhide S).below b6
      have hgc : g1 + 1 < w5.heap.size := (unhide S).order.lt
      obtain ⟨gc, hgc2⟩ : ∃ gc, w5.heap.size = gc := ⟨_, rfl⟩
      rw [hgc2] at hgc cod6
      rw [hgc2]
      have hge : gc ≠ e := by omega
      have hgw : gc ≠ w.heap.size := by omega
      have I6 := hide cod6
      have S6 := hide s6
      clear CK CC S cod6 s6 b6 hgc2 sh
      rcases (unhide NM).head with ⟨hb, hmo, hp⟩ | ⟨hb, hmo, hp⟩
      · have RA := hide (rd_of lo hi e bl bc hc hbl (i + 5 + 3 * K) 1 0 (by omega) (by omega) hb)
        go_wp2_with fail
        refine ((unhide RA) _ (unhide S6).eye).mono ?_
        rintro rr w7 ⟨rfl, e7, u7⟩
        have s7 := (unhide S6).num e7 u7
        rw [← hp] at s7
        have S7 := hide s7
        have I7 := hide (int_keep (unhide I6) u7 hge)
        have sh7 : w7.cell? ⟨e, 2, none⟩ = some (.bool false) := eye_short s7.eye
        clear e7 u7 S6 I6 RA s7 hb
        obtain rfl : n = most := hmo.symm
        have nln : ¬ (n : Int) < (n : Int) := by omega
        have STOP := hide (unhide NM).stop
        have MANY := hide (unhide NM).many
        have FIT := hide (unhide NM).fit
        rw [unhide FUL] at STOP FIT
        have LE := (unhide NM).le
        have CKO := hide (fun w' (h : Box w' w.heap.size 3 (nr (got full) n).toArray) => rcheck12 (.slice (some ⟨w.heap.size, 0, none⟩) n n) n (fun j => (got full j : Int)) (by omega) w' (ints_box h))
        rw [unhide HCH] at CKO
        go_wp2
        go_loopw [17, 18, 19] (fun x y z wr => ∃ (r : List (Nat × Nat)) (T : List Nat) (d a t ip : Nat), x = .int .i64 d ∧ y = .int .i64 a ∧ z = .int .i64 t ∧ T.length = a ∧ T ++ told r d = full ∧ t + r.length = l.length ∧ Tells (fun s => (cl (num bc 0 bl) (i + 5) K s : Int)) (num bc 0 bl) ip r q ∧ St w wr lo hi e bl ip w.heap.size g1 (g1 + 1) n bc (fun j => if j < a then got full j else 0) (cl (num bc 0 bl) (i + 5) K) ∧ Ints .u32 wr (.slice (some ⟨gc, 0, none⟩) 19 19) 19 (fun k => (cod (fun s => (cl (num bc 0 bl) (i + 5) K s : Int)) 19 k : Int))) (fun _ _ z _ => n - (intOf z).toNat)
        case atStart => exact ⟨l, [], 8, 0, 0, p, rfl, rfl, rfl, rfl, unhide FUL, Nat.zero_add _, (unhide NM).steps, (unhide S7).outc (fun j _ => by rw [if_neg (by omega)]), unhide I7⟩
        case round =>
          obtain ⟨r, T, d, a, t, ip, rfl, rfl, rfl, hTl, hfull, htr, stp, st, in8⟩ := hrel
          clear S7 I7
          rcases r with _ | ⟨sx, r'⟩
          · have hT : T = full := by simpa [told] using hfull
            have ip3 : ip = q := (show q = ip from stp).symm
            have OUT := hide (show Box wr w.heap.size 3 (nr (got full) n).toArray from (st.outc (fun j hj => by
              by_cases h : j < a
              · rw [if_pos h]
              · rw [if_neg h, got_past full j (by rw [← hT, hTl]; omega)])).out)
            have EYE := hide (show Eyes wr lo hi e bc bl (some q) from by rw [← ip3]; exact st.eye)
            have UPD := hide st.upd
            have hstop : ¬ ((t : Int) < (n : Int)) ∨ ¬ ((a : Int) < (n : Int)) := by
              rcases unhide STOP with h | h
              · right; rw [← hT, hTl] at h; omega
              · left; simp only [List.length_nil] at htr; omega
            clear st stp hfull hT ip3 htr hTl in8
            by_cases h1 : (t : Int) < (n : Int)
            · have h2 : decide ((a : Int) < (n : Int)) = false := decide_eq_false (by omega)
              have h1' : decide ((t : Int) < (n : Int)) = true := decide_eq_true h1
              have h2n : decide (a < n) = false := decide_eq_false (by omega)
              clear hstop
              go_wp2_with fail
              refine (unhide CKO _ (unhide OUT)).mono ?_
              rintro rr w9 ⟨rfl, rfl⟩
              go_wp2
              go_ret2
              exact ⟨_, rfl, Nat.le_refl _, unhide OUT, unhide EYE, unhide UPD⟩
            · have h1' : decide ((t : Int) < (n : Int)) = false := decide_eq_false h1
              have h1n : decide (t < n) = false := decide_eq_false (by omega)
              clear hstop
              go_wp2_with fail
              refine (unhide CKO _ (unhide OUT)).mono ?_
              rintro rr w9 ⟨rfl, rfl⟩
              go_wp2
              go_ret2
              exact ⟨_, rfl, Nat.le_refl _, unhide OUT, unhide EYE, unhide UPD⟩
          · obtain ⟨s, x⟩ := sx
            obtain ⟨L, nx, hx, stp⟩ := stp
            have hs19 := nx.lt.1
            have hL := stp.le
            simp only [told] at hfull
            have tlt : (t : Int) < (n : Int) := by
              have h1 := unhide MANY
              simp only [List.length_cons] at htr
              omega
            have alt : (a : Int) < (n : Int) := by
              have h1 := congrArg List.length hfull
              simp only [List.length_append, List.length_replicate] at h1
              have := unhide FIT
              have := bas_pos s
              omega
            have tlt' : decide ((t : Int) < (n : Int)) = true := decide_eq_true tlt
            have alt' : decide ((a : Int) < (n : Int)) = true := decide_eq_true alt
            have SY := hide (sym_at (.slice (some ⟨g1, 0, none⟩) 19 19) (.slice (some ⟨gc, 0, none⟩) 19 19) (fun s => (cl (num bc 0 bl) (i + 5) K s : Int)) (unhide NM).chk lo hi e bl ip L s bc hc hbl wr (fun w' u => ⟨ints_box (st.short.keep u (by have := st.ne; omega)), int_keep in8 u (by omega)⟩) st.eye nx (by have := unhide HQ; omega))
            have S8 := hide st
            have I8 := hide in8
            have TL := hide hTl
            have TR := hide htr
            have hLq : ip + L + wid s ≤ 8 * bl := by have := unhide HQ; omega
            clear nx st in8 hTl htr
            go_wp2_with fail
            refine (unhide SY).mono ?_
            rintro rr w8 ⟨rfl, e8, u8⟩
            have s8 := (unhide S8).num e8 u8
            have i8 := int_keep (unhide I8) u8 (by omega)
            have sh8 : w8.cell? ⟨e, 2, none⟩ = some (.bool false) := eye_short s8.eye
            clear S8 I8 SY e8 u8
            have S8 := hide s8
            have I8 := hide i8
            clear s8 i8
            have sp0 : ¬ (s : Int) < 0 := by omega
            by_cases h16 : s = 16
            · subst h16
              change T ++ (List.replicate (3 + x) d ++ told r' d) = full at hfull
              change x = nb (num bc 0 bl) (ip + L) 2 at hx
              clear sh8
              obtain ⟨m, hm⟩ : ∃ m, 3 + x = m := ⟨_, rfl⟩
              have hx7 : x < 4 := by rw [hx]; exact nb_lt _ _ 2
              have RX := hide (rd_of lo hi e bl bc hc hbl (ip + L) 2 x (by omega) (by have := stp.le; have : wid 16 = 2 := rfl; omega) hx.symm)
              obtain ⟨ip2, hip2⟩ : ∃ ip2, ip + L + wid 16 = ip2 := ⟨_, rfl⟩
              rw [hip2] at stp
              have STP := hide stp
              have FULL := hide (show T ++ (List.replicate m (d) ++ told r' (d)) = full from by rw [← hm]; exact hfull)
              have ham : a + m ≤ n := by
                have h1 := congrArg List.length (unhide FULL)
                simp only [List.length_append, List.length_replicate] at h1
                have := unhide FIT
                have := unhide TL
                omega
              have HV := hide (fun u (hu : u < m) => show got full (a + u) = d from by rw [← unhide FULL]; exact got_here T m (d) _ (a + u) (by have := unhide TL; omega) (by have := unhide TL; omega))
              have emx : (3 : Int) + (x : Int) = (m : Int) := by omega
              have hip : ip + L + 2 = ip2 := hip2
              clear hfull stp hip2 hm
              go_wp2_with fail
              refine ((unhide RX) _ (unhide S8).eye).mono ?_
              rintro rr w9 ⟨rfl, e9, u9⟩
              have S9 := (unhide S8).num e9 u9
              have I9 := hide (int_keep (unhide I8) u9 (by omega))
              rw [hip] at S9
              have sh9 : w9.cell? ⟨e, 2, none⟩ = some (.bool false) := eye_short S9.eye
              have ST9 := hide S9
              clear e9 u9 S8 I8 S9 hx
              have S9 := hide (unhide ST9)
              clear ST9
              have tam : (a : Int) + (m : Int) ≤ (n : Int) := by omega
              obtain ⟨vl, hvl⟩ : ∃ vl, d = vl := ⟨_, rfl⟩
              have tam' : decide ((n : Int) < (a : Int) + (m : Int)) = false := decide_eq_false (by omega)
              rw [hvl] at HV FULL
              subst hvl
              go_wp2
              go_loopw [18, 23] (fun x y wi => ∃ u : Nat, u ≤ m ∧ x = .int .i64 ((a + u : Nat) : Int) ∧ y = .int .i64 u ∧ St w wi lo hi e bl ip2 w.heap.size g1 (g1 + 1) n bc (fun j => if j < a + u then got full j else 0) (cl (num bc 0 bl) (i + 5) K) ∧ Ints .u32 wi (.slice (some ⟨gc, 0, none⟩) 19 19) 19 (fun k => (cod (fun s => (cl (num bc 0 bl) (i + 5) K s : Int)) 19 k : Int))) (fun _ y _ => m - (intOf y).toNat)
              case atStart => exact ⟨0, Nat.zero_le _, rfl, rfl, unhide S9, unhide I9⟩
              case round =>
                obtain ⟨u, hu, rfl, rfl, st9, in9⟩ := hrel
                clear S9 I9
                by_cases hum : u < m
                · have hum' : (u : Int) < (m : Int) := by omega
                  have aul : a + u < n := by omega
                  have PUT := hide (st9.next (unhide HV u hum))
                  have INT := hide (int_keep in9 (upd_one wr w.heap.size (a + u) (.int .i64 d)) (by omega))
                  have oc := (st9.out.cell (a + u)).trans (na_at _ _ _ aul)
                  have fr := st9.out.free (a + u)
                  clear st9 in9
                  have eau : ((a + u : Nat) : Int) = (a : Int) + (u : Int) := by omega
                  have EAU : Hid (a + (u + 1) = a + u + 1) := by unfold Hid; omega
                  generalize hau : a + u = au at *
                  have aul' : (au : Int) < (n : Int) := by omega
                  clear hau eau
                  go_wp2
                  go_roundw
                  case rel => exact ⟨u + 1, by omega, by rw [unhide EAU]; go_num, by go_num, unhide PUT, unhide INT⟩
                  case measure => simp [intOf]; omega
                · obtain rfl : m = u := by omega
                  have hnl9 : ¬ (m : Int) < (m : Int) := by omega
                  have S9 := hide st9
                  have I9 := hide in9
                  clear st9 in9
                  go_wp2
                  go_roundw
                  case rel => exact ⟨r', T ++ List.replicate m d, d, a + m, t + 1, ip2, rfl, by go_num, by go_num, by rw [List.length_append, List.length_replicate, unhide TL], by rw [List.append_assoc]; exact unhide FULL, by have := unhide TR; simp only [List.length_cons] at this; omega, unhide STP, unhide S9, unhide I9⟩
                  case measure => simp [intOf]; omega
            · by_cases h17 : s = 17
              · subst h17
                change T ++ (List.replicate (3 + x) 0 ++ told r' d) = full at hfull
                change x = nb (num bc 0 bl) (ip + L) 3 at hx
                clear sh8
                obtain ⟨m, hm⟩ : ∃ m, 3 + x = m := ⟨_, rfl⟩
                have hx7 : x < 8 := by rw [hx]; exact nb_lt _ _ 3
                have RX := hide (rd_of lo hi e bl bc hc hbl (ip + L) 3 x (by omega) (by have := stp.le; have : wid 17 = 3 := rfl; omega) hx.symm)
                obtain ⟨ip2, hip2⟩ : ∃ ip2, ip + L + wid 17 = ip2 := ⟨_, rfl⟩
                rw [hip2] at stp
                have STP := hide stp
                have FULL := hide (show T ++ (List.replicate m (0) ++ told r' (d)) = full from by rw [← hm]; exact hfull)
                have ham : a + m ≤ n := by
                  have h1 := congrArg List.length (unhide FULL)
                  simp only [List.length_append, List.length_replicate] at h1
                  have := unhide FIT
                  have := unhide TL
                  omega
                have HV := hide (fun u (hu : u < m) => show got full (a + u) = 0 from by rw [← unhide FULL]; exact got_here T m (0) _ (a + u) (by have := unhide TL; omega) (by have := unhide TL; omega))
                have emx : (3 : Int) + (x : Int) = (m : Int) := by omega
                have hip : ip + L + 3 = ip2 := hip2
                clear hfull stp hip2 hm
                go_wp2_with fail
                refine ((unhide RX) _ (unhide S8).eye).mono ?_
                rintro rr w9 ⟨rfl, e9, u9⟩
                have S9 := (unhide S8).num e9 u9
                have I9 := hide (int_keep (unhide I8) u9 (by omega))
                rw [hip] at S9
                have sh9 : w9.cell? ⟨e, 2, none⟩ = some (.bool false) := eye_short S9.eye
                have ST9 := hide S9
                clear e9 u9 S8 I8 S9 hx
                have S9 := hide (unhide ST9)
                clear ST9
                have tam : (a : Int) + (m : Int) ≤ (n : Int) := by omega
                obtain ⟨vl, hvl⟩ : ∃ vl, 0 = vl := ⟨_, rfl⟩
                have tam' : decide ((n : Int) < (a : Int) + (m : Int)) = false := decide_eq_false (by omega)
                rw [hvl] at HV FULL
                subst hvl
                go_wp2
                go_loopw [18, 23] (fun x y wi => ∃ u : Nat, u ≤ m ∧ x = .int .i64 ((a + u : Nat) : Int) ∧ y = .int .i64 u ∧ St w wi lo hi e bl ip2 w.heap.size g1 (g1 + 1) n bc (fun j => if j < a + u then got full j else 0) (cl (num bc 0 bl) (i + 5) K) ∧ Ints .u32 wi (.slice (some ⟨gc, 0, none⟩) 19 19) 19 (fun k => (cod (fun s => (cl (num bc 0 bl) (i + 5) K s : Int)) 19 k : Int))) (fun _ y _ => m - (intOf y).toNat)
                case atStart => exact ⟨0, Nat.zero_le _, rfl, rfl, unhide S9, unhide I9⟩
                case round =>
                  obtain ⟨u, hu, rfl, rfl, st9, in9⟩ := hrel
                  clear S9 I9
                  by_cases hum : u < m
                  · have hum' : (u : Int) < (m : Int) := by omega
                    have aul : a + u < n := by omega
                    have PUT := hide (st9.next (unhide HV u hum))
                    have INT := hide (int_keep in9 (upd_one wr w.heap.size (a + u) (.int .i64 0)) (by omega))
                    have oc := (st9.out.cell (a + u)).trans (na_at _ _ _ aul)
                    have fr := st9.out.free (a + u)
                    clear st9 in9
                    have eau : ((a + u : Nat) : Int) = (a : Int) + (u : Int) := by omega
                    have EAU : Hid (a + (u + 1) = a + u + 1) := by unfold Hid; omega
                    generalize hau : a + u = au at *
                    have aul' : (au : Int) < (n : Int) := by omega
                    clear hau eau
                    go_wp2
                    go_roundw
                    case rel => exact ⟨u + 1, by omega, by rw [unhide EAU]; go_num, by go_num, unhide PUT, unhide INT⟩
                    case measure => simp [intOf]; omega
                  · obtain rfl : m = u := by omega
                    have hnl9 : ¬ (m : Int) < (m : Int) := by omega
                    have S9 := hide st9
                    have I9 := hide in9
                    clear st9 in9
                    go_wp2
                    go_roundw
                    case rel => exact ⟨r', T ++ List.replicate m 0, d, a + m, t + 1, ip2, rfl, by go_num, by go_num, by rw [List.length_append, List.length_replicate, unhide TL], by rw [List.append_assoc]; exact unhide FULL, by have := unhide TR; simp only [List.length_cons] at this; omega, unhide STP, unhide S9, unhide I9⟩
                    case measure => simp [intOf]; omega
              · by_cases h18 : s = 18
                · subst h18
                  change T ++ (List.replicate (11 + x) 0 ++ told r' d) = full at hfull
                  change x = nb (num bc 0 bl) (ip + L) 7 at hx
                  clear sh8
                  obtain ⟨m, hm⟩ : ∃ m, 11 + x = m := ⟨_, rfl⟩
                  have hx7 : x < 128 := by rw [hx]; exact nb_lt _ _ 7
                  have RX := hide (rd_of lo hi e bl bc hc hbl (ip + L) 7 x (by omega) (by have := stp.le; have : wid 18 = 7 := rfl; omega) hx.symm)
                  obtain ⟨ip2, hip2⟩ : ∃ ip2, ip + L + wid 18 = ip2 := ⟨_, rfl⟩
                  rw [hip2] at stp
                  have STP := hide stp
                  have FULL := hide (show T ++ (List.replicate m (0) ++ told r' (d)) = full from by rw [← hm]; exact hfull)
                  have ham : a + m ≤ n := by
                    have h1 := congrArg List.length (unhide FULL)
                    simp only [List.length_append, List.length_replicate] at h1
                    have := unhide FIT
                    have := unhide TL
                    omega
                  have HV := hide (fun u (hu : u < m) => show got full (a + u) = 0 from by rw [← unhide FULL]; exact got_here T m (0) _ (a + u) (by have := unhide TL; omega) (by have := unhide TL; omega))
                  have emx : (11 : Int) + (x : Int) = (m : Int) := by omega
                  have hip : ip + L + 7 = ip2 := hip2
                  clear hfull stp hip2 hm
                  go_wp2_with fail
                  refine ((unhide RX) _ (unhide S8).eye).mono ?_
                  rintro rr w9 ⟨rfl, e9, u9⟩
                  have S9 := (unhide S8).num e9 u9
                  have I9 := hide (int_keep (unhide I8) u9 (by omega))
                  rw [hip] at S9
                  have sh9 : w9.cell? ⟨e, 2, none⟩ = some (.bool false) := eye_short S9.eye
                  have ST9 := hide S9
                  clear e9 u9 S8 I8 S9 hx
                  have S9 := hide (unhide ST9)
                  clear ST9
                  have tam : (a : Int) + (m : Int) ≤ (n : Int) := by omega
                  obtain ⟨vl, hvl⟩ : ∃ vl, 0 = vl := ⟨_, rfl⟩
                  have tam' : decide ((n : Int) < (a : Int) + (m : Int)) = false := decide_eq_false (by omega)
                  rw [hvl] at HV FULL
                  subst hvl
                  go_wp2
                  go_loopw [18, 23] (fun x y wi => ∃ u : Nat, u ≤ m ∧ x = .int .i64 ((a + u : Nat) : Int) ∧ y = .int .i64 u ∧ St w wi lo hi e bl ip2 w.heap.size g1 (g1 + 1) n bc (fun j => if j < a + u then got full j else 0) (cl (num bc 0 bl) (i + 5) K) ∧ Ints .u32 wi (.slice (some ⟨gc, 0, none⟩) 19 19) 19 (fun k => (cod (fun s => (cl (num bc 0 bl) (i + 5) K s : Int)) 19 k : Int))) (fun _ y _ => m - (intOf y).toNat)
                  case atStart => exact ⟨0, Nat.zero_le _, rfl, rfl, unhide S9, unhide I9⟩
                  case round =>
                    obtain ⟨u, hu, rfl, rfl, st9, in9⟩ := hrel
                    clear S9 I9
                    by_cases hum : u < m
                    · have hum' : (u : Int) < (m : Int) := by omega
                      have aul : a + u < n := by omega
                      have PUT := hide (st9.next (unhide HV u hum))
                      have INT := hide (int_keep in9 (upd_one wr w.heap.size (a + u) (.int .i64 0)) (by omega))
                      have oc := (st9.out.cell (a + u)).trans (na_at _ _ _ aul)
                      have fr := st9.out.free (a + u)
                      clear st9 in9
                      have eau : ((a + u : Nat) : Int) = (a : Int) + (u : Int) := by omega
                      have EAU : Hid (a + (u + 1) = a + u + 1) := by unfold Hid; omega
                      generalize hau : a + u = au at *
                      have aul' : (au : Int) < (n : Int) := by omega
                      clear hau eau
                      go_wp2
                      go_roundw
                      case rel => exact ⟨u + 1, by omega, by rw [unhide EAU]; go_num, by go_num, unhide PUT, unhide INT⟩
                      case measure => simp [intOf]; omega
                    · obtain rfl : m = u := by omega
                      have hnl9 : ¬ (m : Int) < (m : Int) := by omega
                      have S9 := hide st9
                      have I9 := hide in9
                      clear st9 in9
                      go_wp2
                      go_roundw
                      case rel => exact ⟨r', T ++ List.replicate m 0, d, a + m, t + 1, ip2, rfl, by go_num, by go_num, by rw [List.length_append, List.length_replicate, unhide TL], by rw [List.append_assoc]; exact unhide FULL, by have := unhide TR; simp only [List.length_cons] at this; omega, unhide STP, unhide S9, unhide I9⟩
                      case measure => simp [intOf]; omega
                · have k16 : ((s : Int) == 16) = false := beq_eq_false_iff_ne.2 (by omega)
                  have k17 : ((s : Int) == 17) = false := beq_eq_false_iff_ne.2 (by omega)
                  have k18 : ((s : Int) == 18) = false := beq_eq_false_iff_ne.2 (by omega)
                  have NXL : Hid (nl s d = nl s d) := rfl
                  by_cases hs0 : 0 < s
                  · have ks : decide (0 < s) = true := decide_eq_true hs0
                    have kt : decide ((s : Int) < 16) = true := decide_eq_true (by omega)
                    obtain ⟨ip2, hip2⟩ : ∃ ip2, ip + L + wid s = ip2 := ⟨_, rfl⟩
                    rw [hip2] at stp
                    have STP := hide stp
                    have w0 : wid s = 0 := by unfold wid; rw [if_neg (by omega), if_neg (by omega), if_neg (by omega)]
                    have b0 : bas s = 1 := by unfold bas; rw [if_neg (by omega), if_neg (by omega), if_neg (by omega)]
                    have v0 : vv s d = s := by unfold vv; rw [if_pos (by omega)]
                    have n0 : nl s d = s := by unfold nl; rw [if_pos (by omega)]
                    have x0 : x = 0 := by
                      have h1 := nb_lt (num bc 0 bl) (ip + L) (wid s)
                      rw [← hx, w0] at h1
                      omega
                    rw [b0, v0, n0, x0] at hfull
                    have FULL := hide (show T ++ (List.replicate 1 s ++ told r' s) = full from hfull)
                    rw [n0] at NXL
                    have ham : a + 1 ≤ n := by
                      have h1 := congrArg List.length (unhide FULL)
                      simp only [List.length_append, List.length_replicate] at h1
                      have := unhide FIT
                      have := unhide TL
                      omega
                    have HV := hide (fun u (hu : u < 1) => show got full (a + u) = s from by rw [← unhide FULL]; exact got_here T 1 s _ (a + u) (by have := unhide TL; omega) (by have := unhide TL; omega))
                    have tam' : decide ((n : Int) < (a : Int) + 1) = false := decide_eq_false (by omega)
                    have S9 := hide (show St w w8 lo hi e bl ip2 w.heap.size g1 (g1 + 1) n bc (fun j => if j < a + 0 then got full j else 0) (cl (num bc 0 bl) (i + 5) K) from by
                      have := unhide S8
                      rw [show ip + L = ip2 by omega] at this
                      exact this)
                    have I9 := hide (unhide I8)
                    clear hfull stp hip2 hx S8 I8 w0 b0 v0 n0 x0
                    go_wp2
                    go_loopw [18, 23] (fun x y wi => ∃ u : Nat, u ≤ 1 ∧ x = .int .i64 ((a + u : Nat) : Int) ∧ y = .int .i64 u ∧ St w wi lo hi e bl ip2 w.heap.size g1 (g1 + 1) n bc (fun j => if j < a + u then got full j else 0) (cl (num bc 0 bl) (i + 5) K) ∧ Ints .u32 wi (.slice (some ⟨gc, 0, none⟩) 19 19) 19 (fun k => (cod (fun s => (cl (num bc 0 bl) (i + 5) K s : Int)) 19 k : Int))) (fun _ y _ => 1 - (intOf y).toNat)
                    case atStart => exact ⟨0, Nat.zero_le _, rfl, rfl, unhide S9, unhide I9⟩
                    case round =>
                      obtain ⟨u, hu, rfl, rfl, st9, in9⟩ := hrel
                      clear S9 I9
                      by_cases hum : u < 1
                      · have hum' : (u : Int) < (1 : Int) := by omega
                        have aul : a + u < n := by omega
                        have PUT := hide (st9.next (unhide HV u hum))
                        have INT := hide (int_keep in9 (upd_one wr w.heap.size (a + u) (.int .i64 s)) (by omega))
                        have oc := (st9.out.cell (a + u)).trans (na_at _ _ _ aul)
                        have fr := st9.out.free (a + u)
                        clear st9 in9
                        have eau : ((a + u : Nat) : Int) = (a : Int) + (u : Int) := by omega
                        have EAU : Hid (a + (u + 1) = a + u + 1) := by unfold Hid; omega
                        generalize hau : a + u = au at *
                        have aul' : (au : Int) < (n : Int) := by omega
                        clear hau eau
                        go_wp2
                        go_roundw
                        case rel => exact ⟨u + 1, by omega, by rw [unhide EAU]; go_num, by go_num, unhide PUT, unhide INT⟩
                        case measure => simp [intOf]; omega
                      · obtain rfl : u = 1 := by omega
                        have hnl9 : ¬ (1 : Int) < (1 : Int) := by omega
                        have S9 := hide st9
                        have I9 := hide in9
                        clear st9 in9
                        go_wp2
                        go_roundw
                        case rel => exact ⟨r', T ++ List.replicate 1 s, s, a + 1, t + 1, ip2, rfl, by go_num, by go_num, by rw [List.length_append, List.length_replicate, unhide TL], by rw [List.append_assoc]; exact unhide FULL, by have := unhide TR; simp only [List.length_cons] at this; omega, unhide STP, unhide S9, unhide I9⟩
                        case measure => simp [intOf]; omega
                  · have ks : decide (0 < s) = false := decide_eq_false hs0
                    obtain ⟨ip2, hip2⟩ : ∃ ip2, ip + L + wid s = ip2 := ⟨_, rfl⟩
                    rw [hip2] at stp
                    have STP := hide stp
                    have w0 : wid s = 0 := by unfold wid; rw [if_neg (by omega), if_neg (by omega), if_neg (by omega)]
                    have b0 : bas s = 1 := by unfold bas; rw [if_neg (by omega), if_neg (by omega), if_neg (by omega)]
                    have v0 : vv s d = s := by unfold vv; rw [if_pos (by omega)]
                    have n0 : nl s d = d := by unfold nl; rw [if_neg (by omega)]
                    have x0 : x = 0 := by
                      have h1 := nb_lt (num bc 0 bl) (ip + L) (wid s)
                      rw [← hx, w0] at h1
                      omega
                    rw [b0, v0, n0, x0] at hfull
                    have FULL := hide (show T ++ (List.replicate 1 s ++ told r' d) = full from hfull)
                    rw [n0] at NXL
                    have ham : a + 1 ≤ n := by
                      have h1 := congrArg List.length (unhide FULL)
                      simp only [List.length_append, List.length_replicate] at h1
                      have := unhide FIT
                      have := unhide TL
                      omega
                    have HV := hide (fun u (hu : u < 1) => show got full (a + u) = s from by rw [← unhide FULL]; exact got_here T 1 s _ (a + u) (by have := unhide TL; omega) (by have := unhide TL; omega))
                    have tam' : decide ((n : Int) < (a : Int) + 1) = false := decide_eq_false (by omega)
                    have S9 := hide (show St w w8 lo hi e bl ip2 w.heap.size g1 (g1 + 1) n bc (fun j => if j < a + 0 then got full j else 0) (cl (num bc 0 bl) (i + 5) K) from by
                      have := unhide S8
                      rw [show ip + L = ip2 by omega] at this
                      exact this)
                    have I9 := hide (unhide I8)
                    clear hfull stp hip2 hx S8 I8 w0 b0 v0 n0 x0
                    go_wp2
                    go_loopw [18, 23] (fun x y wi => ∃ u : Nat, u ≤ 1 ∧ x = .int .i64 ((a + u : Nat) : Int) ∧ y = .int .i64 u ∧ St w wi lo hi e bl ip2 w.heap.size g1 (g1 + 1) n bc (fun j => if j < a + u then got full j else 0) (cl (num bc 0 bl) (i + 5) K) ∧ Ints .u32 wi (.slice (some ⟨gc, 0, none⟩) 19 19) 19 (fun k => (cod (fun s => (cl (num bc 0 bl) (i + 5) K s : Int)) 19 k : Int))) (fun _ y _ => 1 - (intOf y).toNat)
                    case atStart => exact ⟨0, Nat.zero_le _, rfl, rfl, unhide S9, unhide I9⟩
                    case round =>
                      obtain ⟨u, hu, rfl, rfl, st9, in9⟩ := hrel
                      clear S9 I9
                      by_cases hum : u < 1
                      · have hum' : (u : Int) < (1 : Int) := by omega
                        have aul : a + u < n := by omega
                        have PUT := hide (st9.next (unhide HV u hum))
                        have INT := hide (int_keep in9 (upd_one wr w.heap.size (a + u) (.int .i64 s)) (by omega))
                        have oc := (st9.out.cell (a + u)).trans (na_at _ _ _ aul)
                        have fr := st9.out.free (a + u)
                        clear st9 in9
                        have eau : ((a + u : Nat) : Int) = (a : Int) + (u : Int) := by omega
                        have EAU : Hid (a + (u + 1) = a + u + 1) := by unfold Hid; omega
                        generalize hau : a + u = au at *
                        have aul' : (au : Int) < (n : Int) := by omega
                        clear hau eau
                        go_wp2
                        go_roundw
                        case rel => exact ⟨u + 1, by omega, by rw [unhide EAU]; go_num, by go_num, unhide PUT, unhide INT⟩
                        case measure => simp [intOf]; omega
                      · obtain rfl : u = 1 := by omega
                        have hnl9 : ¬ (1 : Int) < (1 : Int) := by omega
                        have S9 := hide st9
                        have I9 := hide in9
                        clear st9 in9
                        go_wp2
                        go_roundw
                        case rel => exact ⟨r', T ++ List.replicate 1 s, d, a + 1, t + 1, ip2, rfl, by go_num, by go_num, by rw [List.length_append, List.length_replicate, unhide TL], by rw [List.append_assoc]; exact unhide FULL, by have := unhide TR; simp only [List.length_cons] at this; omega, unhide STP, unhide S9, unhide I9⟩
                        case measure => simp [intOf]; omega
      · obtain ⟨k3, hk3⟩ : ∃ k3, nb (num bc 0 bl) (i + 5 + 3 * K + 1) 3 = k3 := ⟨_, rfl⟩
        have k38 : k3 < 8 := by rw [← hk3]; exact nb_lt _ _ 3
        rw [hk3] at hmo hp
        have RA := hide (rd_of lo hi e bl bc hc hbl (i + 5 + 3 * K) 1 1 (by omega) (by omega) hb)
        have RB := hide (rd_of lo hi e bl bc hc hbl (i + 5 + 3 * K + 1) 3 k3 (by omega) (by omega) hk3)
        obtain ⟨mw, hmw⟩ : ∃ mw, 2 + 2 * k3 = mw := ⟨_, rfl⟩
        have RC := hide (rd_of lo hi e bl bc hc hbl (i + 5 + 3 * K + 4) (2 + 2 * k3) (nb (num bc 0 bl) (i + 5 + 3 * K + 4) (2 + 2 * k3)) (by omega) (by omega) rfl)
        have bm := nb_lt (num bc 0 bl) (i + 5 + 3 * K + 4) (2 + 2 * k3)
        have bm2 : 2 ^ (2 + 2 * k3) ≤ 2 ^ 16 := Nat.pow_le_pow_right (by omega) (by omega)
        obtain ⟨y9, hy9⟩ : ∃ y9, nb (num bc 0 bl) (i + 5 + 3 * K + 4) (2 + 2 * k3) = y9 := ⟨_, rfl⟩
        rw [hy9] at RC bm hmo
        have hy16 : y9 ≤ 65536 := by omega
        rw [hmw] at RC hp
        have emw : (2 : Int) + 2 * (k3 : Int) = (mw : Int) := by omega
        have emo : (y9 : Int) + 2 = (most : Int) := by omega
        go_wp2_with fail
        refine ((unhide RA) _ (unhide S6).eye).mono ?_
        rintro rr w7 ⟨rfl, e7, u7⟩
        have S7 := hide ((unhide S6).num e7 u7)
        have I7 := hide (int_keep (unhide I6) u7 hge)
        clear e7 u7 S6 I6 RA hb
        go_wp2_with fail
        refine ((unhide RB) _ (unhide S7).eye).mono ?_
        rintro rr w72 ⟨rfl, e7, u7⟩
        have S72 := hide ((unhide S7).num e7 u7)
        have I72 := hide (int_keep (unhide I7) u7 hge)
        clear e7 u7 S7 I7 RB bm bm2 hy9
        go_wp2_with fail
        refine ((unhide RC) _ (unhide S72).eye).mono ?_
        rintro rr w73 ⟨rfl, e7, u7⟩
        have s7 := (unhide S72).num e7 u7
        rw [← hp] at s7
        have S7 := hide s7
        have I7 := hide (int_keep (unhide I72) u7 hge)
        have sh7 : w73.cell? ⟨e, 2, none⟩ = some (.bool false) := eye_short s7.eye
        clear e7 u7 S72 I72 RC s7 hmo
        have nln : decide ((n : Int) < (most : Int)) = false := decide_eq_false (by have := (unhide NM).le; omega)
        have nln2 : decide (n < most) = false := decide_eq_false (by have := (unhide NM).le; omega)
        have STOP := hide (unhide NM).stop
        have MANY := hide (unhide NM).many
        have FIT := hide (unhide NM).fit
        rw [unhide FUL] at STOP FIT
        have LE := (unhide NM).le
        have CKO := hide (fun w' (h : Box w' w.heap.size 3 (nr (got full) n).toArray) => rcheck12 (.slice (some ⟨w.heap.size, 0, none⟩) n n) n (fun j => (got full j : Int)) (by omega) w' (ints_box h))
        rw [unhide HCH] at CKO
        go_wp2
        go_loopw [17, 18, 19] (fun x y z wr => ∃ (r : List (Nat × Nat)) (T : List Nat) (d a t ip : Nat), x = .int .i64 d ∧ y = .int .i64 a ∧ z = .int .i64 t ∧ T.length = a ∧ T ++ told r d = full ∧ t + r.length = l.length ∧ Tells (fun s => (cl (num bc 0 bl) (i + 5) K s : Int)) (num bc 0 bl) ip r q ∧ St w wr lo hi e bl ip w.heap.size g1 (g1 + 1) n bc (fun j => if j < a then got full j else 0) (cl (num bc 0 bl) (i + 5) K) ∧ Ints .u32 wr (.slice (some ⟨gc, 0, none⟩) 19 19) 19 (fun k => (cod (fun s => (cl (num bc 0 bl) (i + 5) K s : Int)) 19 k : Int))) (fun _ _ z _ => most - (intOf z).toNat)
        case atStart => exact ⟨l, [], 8, 0, 0, p, rfl, rfl, rfl, rfl, unhide FUL, Nat.zero_add _, (unhide NM).steps, (unhide S7).outc (fun j _ => by rw [if_neg (by omega)]), unhide I7⟩
        case round =>
          obtain ⟨r, T, d, a, t, ip, rfl, rfl, rfl, hTl, hfull, htr, stp, st, in8⟩ := hrel
          clear S7 I7
          rcases r with _ | ⟨sx, r'⟩
          · have hT : T = full := by simpa [told] using hfull
            have ip3 : ip = q := (show q = ip from stp).symm
            have OUT := hide (show Box wr w.heap.size 3 (nr (got full) n).toArray from (st.outc (fun j hj => by
              by_cases h : j < a
              · rw [if_pos h]
              · rw [if_neg h, got_past full j (by rw [← hT, hTl]; omega)])).out)
            have EYE := hide (show Eyes wr lo hi e bc bl (some q) from by rw [← ip3]; exact st.eye)
            have UPD := hide st.upd
            have hstop : ¬ ((t : Int) < (most : Int)) ∨ ¬ ((a : Int) < (n : Int)) := by
              rcases unhide STOP with h | h
              · right; rw [← hT, hTl] at h; omega
              · left; simp only [List.length_nil] at htr; omega
            clear st stp hfull hT ip3 htr hTl in8
            by_cases h1 : (t : Int) < (most : Int)
            · have h2 : decide ((a : Int) < (n : Int)) = false := decide_eq_false (by omega)
              have h1' : decide ((t : Int) < (most : Int)) = true := decide_eq_true h1
              have h2n : decide (a < n) = false := decide_eq_false (by omega)
              clear hstop
              go_wp2_with fail
              refine (unhide CKO _ (unhide OUT)).mono ?_
              rintro rr w9 ⟨rfl, rfl⟩
              go_wp2
              go_ret2
              exact ⟨_, rfl, Nat.le_refl _, unhide OUT, unhide EYE, unhide UPD⟩
            · have h1' : decide ((t : Int) < (most : Int)) = false := decide_eq_false h1
              have h1n : decide (t < most) = false := decide_eq_false (by omega)
              clear hstop
              go_wp2_with fail
              refine (unhide CKO _ (unhide OUT)).mono ?_
              rintro rr w9 ⟨rfl, rfl⟩
              go_wp2
              go_ret2
              exact ⟨_, rfl, Nat.le_refl _, unhide OUT, unhide EYE, unhide UPD⟩
          · obtain ⟨s, x⟩ := sx
            obtain ⟨L, nx, hx, stp⟩ := stp
            have hs19 := nx.lt.1
            have hL := stp.le
            simp only [told] at hfull
            have tlt : (t : Int) < (most : Int) := by
              have h1 := unhide MANY
              simp only [List.length_cons] at htr
              omega
            have alt : (a : Int) < (n : Int) := by
              have h1 := congrArg List.length hfull
              simp only [List.length_append, List.length_replicate] at h1
              have := unhide FIT
              have := bas_pos s
              omega
            have tlt' : decide ((t : Int) < (most : Int)) = true := decide_eq_true tlt
            have alt' : decide ((a : Int) < (n : Int)) = true := decide_eq_true alt
            have SY := hide (sym_at (.slice (some ⟨g1, 0, none⟩) 19 19) (.slice (some ⟨gc, 0, none⟩) 19 19) (fun s => (cl (num bc 0 bl) (i + 5) K s : Int)) (unhide NM).chk lo hi e bl ip L s bc hc hbl wr (fun w' u => ⟨ints_box (st.short.keep u (by have := st.ne; omega)), int_keep in8 u (by omega)⟩) st.eye nx (by have := unhide HQ; omega))
            have S8 := hide st
            have I8 := hide in8
            have TL := hide hTl
            have TR := hide htr
            have hLq : ip + L + wid s ≤ 8 * bl := by have := unhide HQ; omega
            clear nx st in8 hTl htr
            go_wp2_with fail
            refine (unhide SY).mono ?_
            rintro rr w8 ⟨rfl, e8, u8⟩
            have s8 := (unhide S8).num e8 u8
            have i8 := int_keep (unhide I8) u8 (by omega)
            have sh8 : w8.cell? ⟨e, 2, none⟩ = some (.bool false) := eye_short s8.eye
            clear S8 I8 SY e8 u8
            have S8 := hide s8
            have I8 := hide i8
            clear s8 i8
            have sp0 : ¬ (s : Int) < 0 := by omega
            by_cases h16 : s = 16
            · subst h16
              change T ++ (List.replicate (3 + x) d ++ told r' d) = full at hfull
              change x = nb (num bc 0 bl) (ip + L) 2 at hx
              clear sh8
              obtain ⟨m, hm⟩ : ∃ m, 3 + x = m := ⟨_, rfl⟩
              have hx7 : x < 4 := by rw [hx]; exact nb_lt _ _ 2
              have RX := hide (rd_of lo hi e bl bc hc hbl (ip + L) 2 x (by omega) (by have := stp.le; have : wid 16 = 2 := rfl; omega) hx.symm)
              obtain ⟨ip2, hip2⟩ : ∃ ip2, ip + L + wid 16 = ip2 := ⟨_, rfl⟩
              rw [hip2] at stp
              have STP := hide stp
              have FULL := hide (show T ++ (List.replicate m (d) ++ told r' (d)) = full from by rw [← hm]; exact hfull)
              have ham : a + m ≤ n := by
                have h1 := congrArg List.length (unhide FULL)
                simp only [List.length_append, List.length_replicate] at h1
                have := unhide FIT
                have := unhide TL
                omega
              have HV := hide (fun u (hu : u < m) => show got full (a + u) = d from by rw [← unhide FULL]; exact got_here T m (d) _ (a + u) (by have := unhide TL; omega) (by have := unhide TL; omega))
              have emx : (3 : Int) + (x : Int) = (m : Int) := by omega
              have hip : ip + L + 2 = ip2 := hip2
              clear hfull stp hip2 hm
              go_wp2_with fail
              refine ((unhide RX) _ (unhide S8).eye).mono ?_
              rintro rr w9 ⟨rfl, e9, u9⟩
              have S9 := (unhide S8).num e9 u9
              have I9 := hide (int_keep (unhide I8) u9 (by omega))
              rw [hip] at S9
              have sh9 : w9.cell? ⟨e, 2, none⟩ = some (.bool false) := eye_short S9.eye
              have ST9 := hide S9
              clear e9 u9 S8 I8 S9 hx
              have S9 := hide (unhide ST9)
              clear ST9
              have tam : (a : Int) + (m : Int) ≤ (n : Int) := by omega
              obtain ⟨vl, hvl⟩ : ∃ vl, d = vl := ⟨_, rfl⟩
              have tam' : decide ((n : Int) < (a : Int) + (m : Int)) = false := decide_eq_false (by omega)
              rw [hvl] at HV FULL
              subst hvl
              go_wp2
              go_loopw [18, 23] (fun x y wi => ∃ u : Nat, u ≤ m ∧ x = .int .i64 ((a + u : Nat) : Int) ∧ y = .int .i64 u ∧ St w wi lo hi e bl ip2 w.heap.size g1 (g1 + 1) n bc (fun j => if j < a + u then got full j else 0) (cl (num bc 0 bl) (i + 5) K) ∧ Ints .u32 wi (.slice (some ⟨gc, 0, none⟩) 19 19) 19 (fun k => (cod (fun s => (cl (num bc 0 bl) (i + 5) K s : Int)) 19 k : Int))) (fun _ y _ => m - (intOf y).toNat)
              case atStart => exact ⟨0, Nat.zero_le _, rfl, rfl, unhide S9, unhide I9⟩
              case round =>
                obtain ⟨u, hu, rfl, rfl, st9, in9⟩ := hrel
                clear S9 I9
                by_cases hum : u < m
                · have hum' : (u : Int) < (m : Int) := by omega
                  have aul : a + u < n := by omega
                  have PUT := hide (st9.next (unhide HV u hum))
                  have INT := hide (int_keep in9 (upd_one wr w.heap.size (a + u) (.int .i64 d)) (by omega))
                  have oc := (st9.out.cell (a + u)).trans (na_at _ _ _ aul)
                  have fr := st9.out.free (a + u)
                  clear st9 in9
                  have eau : ((a + u : Nat) : Int) = (a : Int) + (u : Int) := by omega
                  have EAU : Hid (a + (u + 1) = a + u + 1) := by unfold Hid; omega
                  generalize hau : a + u = au at *
                  have aul' : (au : Int) < (n : Int) := by omega
                  clear hau eau
                  go_wp2
                  go_roundw
                  case rel => exact ⟨u + 1, by omega, by rw [unhide EAU]; go_num, by go_num, unhide PUT, unhide INT⟩
                  case measure => simp [intOf]; omega
                · obtain rfl : m = u := by omega
                  have hnl9 : ¬ (m : Int) < (m : Int) := by omega
                  have S9 := hide st9
                  have I9 := hide in9
                  clear st9 in9
                  go_wp2
                  go_roundw
                  case rel => exact ⟨r', T ++ List.replicate m d, d, a + m, t + 1, ip2, rfl, by go_num, by go_num, by rw [List.length_append, List.length_replicate, unhide TL], by rw [List.append_assoc]; exact unhide FULL, by have := unhide TR; simp only [List.length_cons] at this; omega, unhide STP, unhide S9, unhide I9⟩
                  case measure => simp [intOf]; omega
            · by_cases h17 : s = 17
              · subst h17
                change T ++ (List.replicate (3 + x) 0 ++ told r' d) = full at hfull
                change x = nb (num bc 0 bl) (ip + L) 3 at hx
                clear sh8
                obtain ⟨m, hm⟩ : ∃ m, 3 + x = m := ⟨_, rfl⟩
                have hx7 : x < 8 := by rw [hx]; exact nb_lt _ _ 3
                have RX := hide (rd_of lo hi e bl bc hc hbl (ip + L) 3 x (by omega) (by have := stp.le; have : wid 17 = 3 := rfl; omega) hx.symm)
                obtain ⟨ip2, hip2⟩ : ∃ ip2, ip + L + wid 17 = ip2 := ⟨_, rfl⟩
                rw [hip2] at stp
                have STP := hide stp
                have FULL := hide (show T ++ (List.replicate m (0) ++ told r' (d)) = full from by rw [← hm]; exact hfull)
                have ham : a + m ≤ n := by
                  have h1 := congrArg List.length (unhide FULL)
                  simp only [List.length_append, List.length_replicate] at h1
                  have := unhide FIT
                  have := unhide TL
                  omega
                have HV := hide (fun u (hu : u < m) => show got full (a + u) = 0 from by rw [← unhide FULL]; exact got_here T m (0) _ (a + u) (by have := unhide TL; omega) (by have := unhide TL; omega))
                have emx : (3 : Int) + (x : Int) = (m : Int) := by omega
                have hip : ip + L + 3 = ip2 := hip2
                clear hfull stp hip2 hm
                go_wp2_with fail
                refine ((unhide RX) _ (unhide S8).eye).mono ?_
                rintro rr w9 ⟨rfl, e9, u9⟩
                have S9 := (unhide S8).num e9 u9
                have I9 := hide (int_keep (unhide I8) u9 (by omega))
                rw [hip] at S9
                have sh9 : w9.cell? ⟨e, 2, none⟩ = some (.bool false) := eye_short S9.eye
                have ST9 := hide S9
                clear e9 u9 S8 I8 S9 hx
                have S9 := hide (unhide ST9)
                clear ST9
                have tam : (a : Int) + (m : Int) ≤ (n : Int) := by omega
                obtain ⟨vl, hvl⟩ : ∃ vl, 0 = vl := ⟨_, rfl⟩
                have tam' : decide ((n : Int) < (a : Int) + (m : Int)) = false := decide_eq_false (by omega)
                rw [hvl] at HV FULL
                subst hvl
                go_wp2
                go_loopw [18, 23] (fun x y wi => ∃ u : Nat, u ≤ m ∧ x = .int .i64 ((a + u : Nat) : Int) ∧ y = .int .i64 u ∧ St w wi lo hi e bl ip2 w.heap.size g1 (g1 + 1) n bc (fun j => if j < a + u then got full j else 0) (cl (num bc 0 bl) (i + 5) K) ∧ Ints .u32 wi (.slice (some ⟨gc, 0, none⟩) 19 19) 19 (fun k => (cod (fun s => (cl (num bc 0 bl) (i + 5) K s : Int)) 19 k : Int))) (fun _ y _ => m - (intOf y).toNat)
                case atStart => exact ⟨0, Nat.zero_le _, rfl, rfl, unhide S9, unhide I9⟩
                case round =>
                  obtain ⟨u, hu, rfl, rfl, st9, in9⟩ := hrel
                  clear S9 I9
                  by_cases hum : u < m
                  · have hum' : (u : Int) < (m : Int) := by omega
                    have aul : a + u < n := by omega
                    have PUT := hide (st9.next (unhide HV u hum))
                    have INT := hide (int_keep in9 (upd_one wr w.heap.size (a + u) (.int .i64 0)) (by omega))
                    have oc := (st9.out.cell (a + u)).trans (na_at _ _ _ aul)
                    have fr := st9.out.free (a + u)
                    clear st9 in9
                    have eau : ((a + u : Nat) : Int) = (a : Int) + (u : Int) := by omega
                    have EAU : Hid (a + (u + 1) = a + u + 1) := by unfold Hid; omega
                    generalize hau : a + u = au at *
                    have aul' : (au : Int) < (n : Int) := by omega
                    clear hau eau
                    go_wp2
                    go_roundw
                    case rel => exact ⟨u + 1, by omega, by rw [unhide EAU]; go_num, by go_num, unhide PUT, unhide INT⟩
                    case measure => simp [intOf]; omega
                  · obtain rfl : m = u := by omega
                    have hnl9 : ¬ (m : Int) < (m : Int) := by omega
                    have S9 := hide st9
                    have I9 := hide in9
                    clear st9 in9
                    go_wp2
                    go_roundw
                    case rel => exact ⟨r', T ++ List.replicate m 0, d, a + m, t + 1, ip2, rfl, by go_num, by go_num, by rw [List.length_append, List.length_replicate, unhide TL], by rw [List.append_assoc]; exact unhide FULL, by have := unhide TR; simp only [List.length_cons] at this; omega, unhide STP, unhide S9, unhide I9⟩
                    case measure => simp [intOf]; omega
              · by_cases h18 : s = 18
                · subst h18
                  change T ++ (List.replicate (11 + x) 0 ++ told r' d) = full at hfull
                  change x = nb (num bc 0 bl) (ip + L) 7 at hx
                  clear sh8
                  obtain ⟨m, hm⟩ : ∃ m, 11 + x = m := ⟨_, rfl⟩
                  have hx7 : x < 128 := by rw [hx]; exact nb_lt _ _ 7
                  have RX := hide (rd_of lo hi e bl bc hc hbl (ip + L) 7 x (by omega) (by have := stp.le; have : wid 18 = 7 := rfl; omega) hx.symm)
                  obtain ⟨ip2, hip2⟩ : ∃ ip2, ip + L + wid 18 = ip2 := ⟨_, rfl⟩
                  rw [hip2] at stp
                  have STP := hide stp
                  have FULL := hide (show T ++ (List.replicate m (0) ++ told r' (d)) = full from by rw [← hm]; exact hfull)
                  have ham : a + m ≤ n := by
                    have h1 := congrArg List.length (unhide FULL)
                    simp only [List.length_append, List.length_replicate] at h1
                    have := unhide FIT
                    have := unhide TL
                    omega
                  have HV := hide (fun u (hu : u < m) => show got full (a + u) = 0 from by rw [← unhide FULL]; exact got_here T m (0) _ (a + u) (by have := unhide TL; omega) (by have := unhide TL; omega))
                  have emx : (11 : Int) + (x : Int) = (m : Int) := by omega
                  have hip : ip + L + 7 = ip2 := hip2
                  clear hfull stp hip2 hm
                  go_wp2_with fail
                  refine ((unhide RX) _ (unhide S8).eye).mono ?_
                  rintro rr w9 ⟨rfl, e9, u9⟩
                  have S9 := (unhide S8).num e9 u9
                  have I9 := hide (int_keep (unhide I8) u9 (by omega))
                  rw [hip] at S9
                  have sh9 : w9.cell? ⟨e, 2, none⟩ = some (.bool false) := eye_short S9.eye
                  have ST9 := hide S9
                  clear e9 u9 S8 I8 S9 hx
                  have S9 := hide (unhide ST9)
                  clear ST9
                  have tam : (a : Int) + (m : Int) ≤ (n : Int) := by omega
                  obtain ⟨vl, hvl⟩ : ∃ vl, 0 = vl := ⟨_, rfl⟩
                  have tam' : decide ((n : Int) < (a : Int) + (m : Int)) = false := decide_eq_false (by omega)
                  rw [hvl] at HV FULL
                  subst hvl
                  go_wp2
                  go_loopw [18, 23] (fun x y wi => ∃ u : Nat, u ≤ m ∧ x = .int .i64 ((a + u : Nat) : Int) ∧ y = .int .i64 u ∧ St w wi lo hi e bl ip2 w.heap.size g1 (g1 + 1) n bc (fun j => if j < a + u then got full j else 0) (cl (num bc 0 bl) (i + 5) K) ∧ Ints .u32 wi (.slice (some ⟨gc, 0, none⟩) 19 19) 19 (fun k => (cod (fun s => (cl (num bc 0 bl) (i + 5) K s : Int)) 19 k : Int))) (fun _ y _ => m - (intOf y).toNat)
                  case atStart => exact ⟨0, Nat.zero_le _, rfl, rfl, unhide S9, unhide I9⟩
                  case round =>
                    obtain ⟨u, hu, rfl, rfl, st9, in9⟩ := hrel
                    clear S9 I9
                    by_cases hum : u < m
                    · have hum' : (u : Int) < (m : Int) := by omega
                      have aul : a + u < n := by omega
                      have PUT := hide (st9.next (unhide HV u hum))
                      have INT := hide (int_keep in9 (upd_one wr w.heap.size (a + u) (.int .i64 0)) (by omega))
                      have oc := (st9.out.cell (a + u)).trans (na_at _ _ _ aul)
                      have fr := st9.out.free (a + u)
                      clear st9 in9
                      have eau : ((a + u : Nat) : Int) = (a : Int) + (u : Int) := by omega
                      have EAU : Hid (a + (u + 1) = a + u + 1) := by unfold Hid; omega
                      generalize hau : a + u = au at *
                      have aul' : (au : Int) < (n : Int) := by omega
                      clear hau eau
                      go_wp2
                      go_roundw
                      case rel => exact ⟨u + 1, by omega, by rw [unhide EAU]; go_num, by go_num, unhide PUT, unhide INT⟩
                      case measure => simp [intOf]; omega
                    · obtain rfl : m = u := by omega
                      have hnl9 : ¬ (m : Int) < (m : Int) := by omega
                      have S9 := hide st9
                      have I9 := hide in9
                      clear st9 in9
                      go_wp2
                      go_roundw
                      case rel => exact ⟨r', T ++ List.replicate m 0, d, a + m, t + 1, ip2, rfl, by go_num, by go_num, by rw [List.length_append, List.length_replicate, unhide TL], by rw [List.append_assoc]; exact unhide FULL, by have := unhide TR; simp only [List.length_cons] at this; omega, unhide STP, unhide S9, unhide I9⟩
                      case measure => simp [intOf]; omega
                · have k16 : ((s : Int) == 16) = false := beq_eq_false_iff_ne.2 (by omega)
                  have k17 : ((s : Int) == 17) = false := beq_eq_false_iff_ne.2 (by omega)
                  have k18 : ((s : Int) == 18) = false := beq_eq_false_iff_ne.2 (by omega)
                  have NXL : Hid (nl s d = nl s d) := rfl
                  by_cases hs0 : 0 < s
                  · have ks : decide (0 < s) = true := decide_eq_true hs0
                    have kt : decide ((s : Int) < 16) = true := decide_eq_true (by omega)
                    obtain ⟨ip2, hip2⟩ : ∃ ip2, ip + L + wid s = ip2 := ⟨_, rfl⟩
                    rw [hip2] at stp
                    have STP := hide stp
                    have w0 : wid s = 0 := by unfold wid; rw [if_neg (by omega), if_neg (by omega), if_neg (by omega)]
                    have b0 : bas s = 1 := by unfold bas; rw [if_neg (by omega), if_neg (by omega), if_neg (by omega)]
                    have v0 : vv s d = s := by unfold vv; rw [if_pos (by omega)]
                    have n0 : nl s d = s := by unfold nl; rw [if_pos (by omega)]
                    have x0 : x = 0 := by
                      have h1 := nb_lt (num bc 0 bl) (ip + L) (wid s)
                      rw [← hx, w0] at h1
                      omega
                    rw [b0, v0, n0, x0] at hfull
                    have FULL := hide (show T ++ (List.replicate 1 s ++ told r' s) = full from hfull)
                    rw [n0] at NXL
                    have ham : a + 1 ≤ n := by
                      have h1 := congrArg List.length (unhide FULL)
                      simp only [List.length_append, List.length_replicate] at h1
                      have := unhide FIT
                      have := unhide TL
                      omega
                    have HV := hide (fun u (hu : u < 1) => show got full (a + u) = s from by rw [← unhide FULL]; exact got_here T 1 s _ (a + u) (by have := unhide TL; omega) (by have := unhide TL; omega))
                    have tam' : decide ((n : Int) < (a : Int) + 1) = false := decide_eq_false (by omega)
                    have S9 := hide (show St w w8 lo hi e bl ip2 w.heap.size g1 (g1 + 1) n bc (fun j => if j < a + 0 then got full j else 0) (cl (num bc 0 bl) (i + 5) K) from by
                      have := unhide S8
                      rw [show ip + L = ip2 by omega] at this
                      exact this)
                    have I9 := hide (unhide I8)
                    clear hfull stp hip2 hx S8 I8 w0 b0 v0 n0 x0
                    go_wp2
                    go_loopw [18, 23] (fun x y wi => ∃ u : Nat, u ≤ 1 ∧ x = .int .i64 ((a + u : Nat) : Int) ∧ y = .int .i64 u ∧ St w wi lo hi e bl ip2 w.heap.size g1 (g1 + 1) n bc (fun j => if j < a + u then got full j else 0) (cl (num bc 0 bl) (i + 5) K) ∧ Ints .u32 wi (.slice (some ⟨gc, 0, none⟩) 19 19) 19 (fun k => (cod (fun s => (cl (num bc 0 bl) (i + 5) K s : Int)) 19 k : Int))) (fun _ y _ => 1 - (intOf y).toNat)
                    case atStart => exact ⟨0, Nat.zero_le _, rfl, rfl, unhide S9, unhide I9⟩
                    case round =>
                      obtain ⟨u, hu, rfl, rfl, st9, in9⟩ := hrel
                      clear S9 I9
                      by_cases hum : u < 1
                      · have hum' : (u : Int) < (1 : Int) := by omega
                        have aul : a + u < n := by omega
                        have PUT := hide (st9.next (unhide HV u hum))
                        have INT := hide (int_keep in9 (upd_one wr w.heap.size (a + u) (.int .i64 s)) (by omega))
                        have oc := (st9.out.cell (a + u)).trans (na_at _ _ _ aul)
                        have fr := st9.out.free (a + u)
                        clear st9 in9
                        have eau : ((a + u : Nat) : Int) = (a : Int) + (u : Int) := by omega
                        have EAU : Hid (a + (u + 1) = a + u + 1) := by unfold Hid; omega
                        generalize hau : a + u = au at *
                        have aul' : (au : Int) < (n : Int) := by omega
                        clear hau eau
                        go_wp2
                        go_roundw
                        case rel => exact ⟨u + 1, by omega, by rw [unhide EAU]; go_num, by go_num, unhide PUT, unhide INT⟩
                        case measure => simp [intOf]; omega
                      · obtain rfl : u = 1 := by omega
                        have hnl9 : ¬ (1 : Int) < (1 : Int) := by omega
                        have S9 := hide st9
                        have I9 := hide in9
                        clear st9 in9
                        go_wp2
                        go_roundw
                        case rel => exact ⟨r', T ++ List.replicate 1 s, s, a + 1, t + 1, ip2, rfl, by go_num, by go_num, by rw [List.length_append, List.length_replicate, unhide TL], by rw [List.append_assoc]; exact unhide FULL, by have := unhide TR; simp only [List.length_cons] at this; omega, unhide STP, unhide S9, unhide I9⟩
                        case measure => simp [intOf]; omega
                  · have ks : decide (0 < s) = false := decide_eq_false hs0
                    obtain ⟨ip2, hip2⟩ : ∃ ip2, ip + L + wid s = ip2 := ⟨_, rfl⟩
                    rw [hip2] at stp
                    have STP := hide stp
                    have w0 : wid s = 0 := by unfold wid; rw [if_neg (by omega), if_neg (by omega), if_neg (by omega)]
                    have b0 : bas s = 1 := by unfold bas; rw [if_neg (by omega), if_neg (by omega), if_neg (by omega)]
                    have v0 : vv s d = s := by unfold vv; rw [if_pos (by omega)]
                    have n0 : nl s d = d := by unfold nl; rw [if_neg (by omega)]
                    have x0 : x = 0 := by
                      have h1 := nb_lt (num bc 0 bl) (ip + L) (wid s)
                      rw [← hx, w0] at h1
                      omega
                    rw [b0, v0, n0, x0] at hfull
                    have FULL := hide (show T ++ (List.replicate 1 s ++ told r' d) = full from hfull)
                    rw [n0] at NXL
                    have ham : a + 1 ≤ n := by
                      have h1 := congrArg List.length (unhide FULL)
                      simp only [List.length_append, List.length_replicate] at h1
                      have := unhide FIT
                      have := unhide TL
                      omega
                    have HV := hide (fun u (hu : u < 1) => show got full (a + u) = s from by rw [← unhide FULL]; exact got_here T 1 s _ (a + u) (by have := unhide TL; omega) (by have := unhide TL; omega))
                    have tam' : decide ((n : Int) < (a : Int) + 1) = false := decide_eq_false (by omega)
                    have S9 := hide (show St w w8 lo hi e bl ip2 w.heap.size g1 (g1 + 1) n bc (fun j => if j < a + 0 then got full j else 0) (cl (num bc 0 bl) (i + 5) K) from by
                      have := unhide S8
                      rw [show ip + L = ip2 by omega] at this
                      exact this)
                    have I9 := hide (unhide I8)
                    clear hfull stp hip2 hx S8 I8 w0 b0 v0 n0 x0
                    go_wp2
                    go_loopw [18, 23] (fun x y wi => ∃ u : Nat, u ≤ 1 ∧ x = .int .i64 ((a + u : Nat) : Int) ∧ y = .int .i64 u ∧ St w wi lo hi e bl ip2 w.heap.size g1 (g1 + 1) n bc (fun j => if j < a + u then got full j else 0) (cl (num bc 0 bl) (i + 5) K) ∧ Ints .u32 wi (.slice (some ⟨gc, 0, none⟩) 19 19) 19 (fun k => (cod (fun s => (cl (num bc 0 bl) (i + 5) K s : Int)) 19 k : Int))) (fun _ y _ => 1 - (intOf y).toNat)
                    case atStart => exact ⟨0, Nat.zero_le _, rfl, rfl, unhide S9, unhide I9⟩
                    case round =>
                      obtain ⟨u, hu, rfl, rfl, st9, in9⟩ := hrel
                      clear S9 I9
                      by_cases hum : u < 1
                      · have hum' : (u : Int) < (1 : Int) := by omega
                        have aul : a + u < n := by omega
                        have PUT := hide (st9.next (unhide HV u hum))
                        have INT := hide (int_keep in9 (upd_one wr w.heap.size (a + u) (.int .i64 s)) (by omega))
                        have oc := (st9.out.cell (a + u)).trans (na_at _ _ _ aul)
                        have fr := st9.out.free (a + u)
                        clear st9 in9
                        have eau : ((a + u : Nat) : Int) = (a : Int) + (u : Int) := by omega
                        have EAU : Hid (a + (u + 1) = a + u + 1) := by unfold Hid; omega
                        generalize hau : a + u = au at *
                        have aul' : (au : Int) < (n : Int) := by omega
                        clear hau eau
                        go_wp2
                        go_roundw
                        case rel => exact ⟨u + 1, by omega, by rw [unhide EAU]; go_num, by go_num, unhide PUT, unhide INT⟩
                        case measure => simp [intOf]; omega
                      · obtain rfl : u = 1 := by omega
                        have hnl9 : ¬ (1 : Int) < (1 : Int) := by omega
                        have S9 := hide st9
                        have I9 := hide in9
                        clear st9 in9
                        go_wp2
                        go_roundw
                        case rel => exact ⟨r', T ++ List.replicate 1 s, d, a + 1, t + 1, ip2, rfl, by go_num, by go_num, by rw [List.length_append, List.length_replicate, unhide TL], by rw [List.append_assoc]; exact unhide FULL, by have := unhide TR; simp only [List.length_cons] at this; omega, unhide STP, unhide S9, unhide I9⟩
                        case measure => simp [intOf]; omega
end Go.Proofs.YtgjpcjnhggcfdaaGreatDoor.Lrf

namespace Go.Proofs.YtgjpcjnhggcfdaaGreatDoor.Lrh
open Go.ChangeShapes Go.WideShapes Go.ChangeAt Go.RowKit Go.Proofs.YtgjpcjnhggcfdaaGreatDoor.Core Go.Proofs.YtgjpcjnhggcfdaaGreatDoor.Gnd Go.Proofs.YtgjpcjnhggcfdaaGreatDoor.Math Go.Proofs.YtgjpcjnhggcfdaaGreatDoor.Bitin Go.Proofs.YtgjpcjnhggcfdaaGreatDoor.Eyes Go.Proofs.YtgjpcjnhggcfdaaGreatDoor.Dec Go.Proofs.YtgjpcjnhggcfdaaGreatDoor.Ord Go.Proofs.YtgjpcjnhggcfdaaGreatDoor.Sym Go.Proofs.YtgjpcjnhggcfdaaGreatDoor.Lsp Go.Proofs.YtgjpcjnhggcfdaaGreatDoor.Lrn Go.Proofs.YtgjpcjnhggcfdaaGreatDoor.Lrf

/-- The lengths of one symbol, or of two. -/
def by_hand (s t : Nat) (two : Bool) (j : Nat) : Nat := if j = s ∨ (two = true ∧ j = t) then 1 else 0
theorem bh_one (s t n : Nat) : (nr (fun _ => 0) n).toArray.setIfInBounds s (.int .i64 (1 : Nat)) = (nr (by_hand s t false) n).toArray := by
  rw [na_set]
  refine na_congr (fun j _ => ?_)
  unfold by_hand
  by_cases h : j = s
  · rw [if_pos h, if_pos (.inl h)]
  · rw [if_neg h, if_neg (fun h2 => h2.elim h (fun h3 => by cases h3.1))]
theorem bh_two (s t n : Nat) : (nr (by_hand s t false) n).toArray.setIfInBounds t (.int .i64 (1 : Nat)) = (nr (by_hand s t true) n).toArray := by
  rw [na_set]
  refine na_congr (fun j _ => ?_)
  unfold by_hand
  by_cases h : j = t
  · rw [if_pos h, if_pos (.inr ⟨rfl, h⟩)]
  · rw [if_neg h]
    by_cases h1 : j = s
    · rw [if_pos (.inl h1), if_pos (.inl h1)]
    · rw [if_neg (fun h2 => h2.elim h1 (fun h3 => by cases h3.1)), if_neg (fun h2 => h2.elim h1 (fun h3 => h h3.2))]
set_option maxRecDepth 20000 in
set_option maxHeartbeats 4000000 in
theorem lens_hand (lo hi e bl i n s t q : Nat) (two : Bool) (bc : Nat → Nat) (hc : ∀ k, bc k ≤ 255) (hbl : bl ≤ 100000) (w : World) (he : Eyes w lo hi e bc bl (some i)) (hlo : lo ≤ e ∧ e < hi ∧ hi ≤ w.heap.size) (hn : n ≤ 100000)
    (nm : Hand (num bc 0 bl) i n s t q two) (hq : q ≤ 8 * bl) :
    Calls Tryz.prog 28 #[.pointer (some ⟨e, 0, none⟩), .int .i64 n] w fun r w' => ∃ g, r = .returned (.tuple #[.slice (some ⟨g, 0, none⟩) n n, .int .i64 0]) ∧ w.heap.size ≤ g ∧ Box w' g 3 (nr (by_hand s t two) n).toArray ∧ Eyes w' lo hi e bc bl (some q) ∧ Upd (fun k => k = e) w w' := by
  have hmk := fun w => make_ints w n (by omega)
  obtain ⟨wd, hwd⟩ : ∃ wd, nb (num bc 0 bl) (i + 2) 1 = wd := ⟨_, rfl⟩
  have hw2 : wd < 2 := by rw [← hwd]; exact nb_lt _ _ 1
  obtain ⟨n1, n2, n3, n4, n5, n6⟩ := nm
  rw [hwd] at n3 n4 n6
  have hfin : i + 4 + 7 * wd ≤ q := by rw [n6]; split <;> omega
  have R0 := hide (rd_of lo hi e bl bc hc hbl i 1 1 (by omega) (by omega) n1)
  have R1 := hide (rd_of lo hi e bl bc hc hbl (i + 1) 1 (if two then 1 else 0) (by omega) (by omega) n2)
  have R2 := hide (rd_of lo hi e bl bc hc hbl (i + 1 + 1) 1 wd (by omega) (by omega) hwd)
  obtain ⟨m, hm⟩ : ∃ m, 1 + 7 * wd = m := ⟨_, rfl⟩
  rw [hm] at n3
  have R3 := hide (rd_of lo hi e bl bc hc hbl (i + 1 + 1 + 1) m s (by omega) (by omega) n3)
  have hs8 : s < 256 := by
    rw [← n3]
    have h1 := nb_lt (num bc 0 bl) (i + 3) m
    have h2 : 2 ^ m ≤ 2 ^ 8 := Nat.pow_le_pow_right (by omega) (by omega)
    omega
  have em : (1 : Int) + 7 * (wd : Int) = (m : Int) := by omega
  have HE := hide he
  have HLO := hide hlo
  have N4 := hide n4
  have hsn : (s : Int) < (n : Int) := by omega
  have hsn' : decide ((n : Int) ≤ (s : Int)) = false := decide_eq_false (by omega)
  have hsn2 : decide (n ≤ s) = false := decide_eq_false (by omega)
  have M6 := hide n6
  have HM := hide hm
  have hq8 := hq
  clear n1 n2 n3 n4 n6 he hwd hm
  go_enter Tryz.func28, Tryz.ntmps28
  go_wp2_with fail
  have E1 := (unhide HE).keep ((Upd.refl (fun _ => False) w).alloc (.cells (nr (fun _ => 0) n).toArray 3)) (fun _ _ _ h => h)
  have O1 := Box.made w 3 (nr (fun _ => 0) n).toArray
  have U1 : Upd (fun k => k = e) w (w.alloc (.cells (nr (fun _ => 0) n).toArray 3)) := (Upd.refl _ w).alloc _
  refine ((unhide R0) _ E1).mono ?_
  rintro r w1 ⟨rfl, e1, u1⟩
  have E2 := hide e1
  have hne : w.heap.size ≠ e := by have := unhide HLO; omega
  have O2 := hide (O1.keep u1 hne)
  have U2 := hide (U1.trans u1)
  clear E1 O1 U1 u1 e1 R0 HE
  go_wp2_with fail
  refine ((unhide R1) _ (unhide E2)).mono ?_
  rintro r w2 ⟨rfl, e1, u1⟩
  have E3 := hide e1
  have O3 := hide ((unhide O2).keep u1 hne)
  have U3 := hide ((unhide U2).trans u1)
  clear e1 u1 E2 O2 U2 R1
  cases two with
  | false =>
    simp only [Bool.false_eq_true, if_false]
    go_wp2_with fail
    refine ((unhide R2) _ (unhide E3)).mono ?_
    rintro r w3 ⟨rfl, e1, u1⟩
    have E4 := hide e1
    have O4 := hide ((unhide O3).keep u1 hne)
    have U4 := hide ((unhide U3).trans u1)
    clear e1 u1 E3 O3 U3 R2
    go_wp2_with fail
    refine ((unhide R3) _ (unhide E4)).mono ?_
    rintro r w4 ⟨rfl, e1, u1⟩
    have sh : w4.cell? ⟨e, 2, none⟩ = some (.bool false) := eye_short e1
    have o5 := (unhide O4).keep u1 hne
    have c5 := (o5.cell s).trans (na_at _ _ _ (by omega))
    have f5 := o5.free s
    have eq5 : i + 1 + 1 + 1 + m = q := by have := unhide M6; have := unhide HM; simp at *; omega
    have E5 := hide (show Eyes (w4.setCell ⟨w.heap.size, s, none⟩ (.int .i64 1)) lo hi e bc bl (some q) from by
      rw [← eq5]
      exact Eyes.keep e1 (upd_one w4 w.heap.size s _) (fun k h1 h2 h3 => by have := unhide HLO; omega))
    have O5 := hide (show Box (w4.setCell ⟨w.heap.size, s, none⟩ (.int .i64 1)) w.heap.size 3 (nr (by_hand s t false) n).toArray from by
      rw [← bh_one]
      exact o5.set s (.int .i64 1))
    have U5 := hide (upd_at ((unhide U4).trans u1) (Nat.le_refl _) s (.int .i64 1))
    clear e1 u1 E4 O4 U4 R3 o5 eq5 em
    have hst : ((s : Int) == -1) = false := beq_eq_false_iff_ne.2 (by omega)
    have hn0 : ¬ (n : Int) ≤ -1 := by omega
    go_wp2
    go_ret2
    exact ⟨_, rfl, Nat.le_refl _, unhide O5, unhide E5, unhide U5⟩
  | true =>
    obtain ⟨k1, k2, k3⟩ := unhide N4 rfl
    have R4 := hide (rd_of lo hi e bl bc hc hbl (i + 4 + 7 * wd) 8 t (by omega) (by have := unhide M6; simp at this; omega) k1)
    have ht8 : t < 256 := by rw [← k1]; exact nb_lt _ _ 8
    have htn : (t : Int) < (n : Int) := by omega
    have htn' : decide ((n : Int) ≤ (t : Int)) = false := decide_eq_false (by omega)
    have htn2 : decide (n ≤ t) = false := decide_eq_false (by omega)
    have hst : ((s : Int) == (t : Int)) = false := beq_eq_false_iff_ne.2 (by omega)
    have hst2 : (s == t) = false := beq_eq_false_iff_ne.2 (by omega)
    clear k1 N4
    simp only [if_true]
    go_wp2_with fail
    refine ((unhide R2) _ (unhide E3)).mono ?_
    rintro r w3 ⟨rfl, e1, u1⟩
    have E4 := hide e1
    have O4 := hide ((unhide O3).keep u1 hne)
    have U4 := hide ((unhide U3).trans u1)
    clear e1 u1 E3 O3 U3 R2
    go_wp2_with fail
    refine ((unhide R3) _ (unhide E4)).mono ?_
    rintro r w4 ⟨rfl, e1, u1⟩
    have sh : w4.cell? ⟨e, 2, none⟩ = some (.bool false) := eye_short e1
    have eq5 : i + 1 + 1 + 1 + m = i + 4 + 7 * wd := by have := unhide HM; omega
    rw [eq5] at e1
    have E5 := hide e1
    have O5 := hide ((unhide O4).keep u1 hne)
    have U5 := hide ((unhide U4).trans u1)
    clear e1 u1 E4 O4 U4 R3 eq5 em
    go_wp2_with fail
    refine ((unhide R4) _ (unhide E5)).mono ?_
    rintro r w5 ⟨rfl, e1, u1⟩
    have sh5 : w5.cell? ⟨e, 2, none⟩ = some (.bool false) := eye_short e1
    have o5 := (unhide O5).keep u1 hne
    have c5 := (o5.cell s).trans (na_at _ _ _ (by omega))
    have f5 := o5.free s
    have o6 : Box (w5.setCell ⟨w.heap.size, s, none⟩ (.int .i64 1)) w.heap.size 3 (nr (by_hand s t false) n).toArray := by
      rw [← bh_one s t n]
      exact o5.set s (.int .i64 1)
    have c6 := (o6.cell t).trans (na_at _ _ _ (by omega))
    have f6 := o6.free t
    have o7 : Box ((w5.setCell ⟨w.heap.size, s, none⟩ (.int .i64 1)).setCell ⟨w.heap.size, t, none⟩ (.int .i64 1)) w.heap.size 3 (nr (by_hand s t true) n).toArray := by
      rw [← bh_two s t n]
      exact o6.set t (.int .i64 1)
    have eq5 : i + 4 + 7 * wd + 8 = q := by have := unhide M6; simp at this; omega
    rw [eq5] at e1
    have e6 := Eyes.keep e1 (upd_one w5 w.heap.size s (.int .i64 1)) (fun k h1 h2 h3 => by have := unhide HLO; omega)
    have E7 := hide (Eyes.keep e6 (upd_one _ w.heap.size t (.int .i64 1)) (fun k h1 h2 h3 => by have := unhide HLO; omega))
    have O7 := hide o7
    have U7 := hide (upd_at (upd_at ((unhide U5).trans u1) (Nat.le_refl _) s (.int .i64 1)) (Nat.le_refl _) t (.int .i64 1))
    clear e1 u1 E5 O5 U5 R4 o5 o6 o7 e6 eq5
    go_wp2
    go_ret2
    exact ⟨_, rfl, Nat.le_refl _, unhide O7, unhide E7, unhide U7⟩
theorem rfl_drew (w : World) (q j : Nat) : (w.drewN q).drewN j = w.drewN (q + j) := by
  simp [World.drewN, Nat.add_assoc]
/-- Whether the first n of two lists are the same. -/
def sameB (c d : Nat → Int) : Nat → Bool
  | 0 => true
  | n + 1 => sameB c d n && (c n == d n)
theorem sameB_iff (c d : Nat → Int) : ∀ n, sameB c d n = true ↔ ∀ k, k < n → c k = d k
  | 0 => ⟨fun _ k hk => by omega, fun _ => rfl⟩
  | n + 1 => by
    rw [sameB, Bool.and_eq_true, sameB_iff c d n, beq_iff_eq]
    refine ⟨fun ⟨h1, h2⟩ k hk => ?_, fun h => ⟨fun k hk => h k (by omega), h n (by omega)⟩⟩
    by_cases e : k = n
    · subst e; exact h2
    · exact h1 k (by omega)
end Go.Proofs.YtgjpcjnhggcfdaaGreatDoor.Lrh

namespace Go.Proofs.YtgjpcjnhggcfdaaGreatDoor.Sam
open Go.ChangeShapes Go.WideShapes Go.ChangeAt Go.RowKit Go.Proofs.YtgjpcjnhggcfdaaGreatDoor.Core Go.Proofs.YtgjpcjnhggcfdaaGreatDoor.Foot Go.Proofs.YtgjpcjnhggcfdaaGreatDoor.Add Go.Proofs.YtgjpcjnhggcfdaaGreatDoor.Wri Go.Proofs.YtgjpcjnhggcfdaaGreatDoor.Byt

theorem src_slice {w : World} {v : Value} {n : Nat} {c : Nat → Nat} (h : Src w v n c) : ∃ a cap, v = .slice a n cap ∧ ∀ k, k < n → ∃ b off, a = some ⟨b, off, none⟩ ∧ w.cell? ⟨b, off + k, none⟩ = some (.int .u8 (c k)) := by
  rcases h with ⟨rfl, rfl⟩ | ⟨x, cap, rfl, hx⟩
  · exact ⟨none, 0, rfl, fun k hk => by omega⟩
  · refine ⟨some x, cap, rfl, fun k hk => ?_⟩
    obtain ⟨b, off, rfl, hb⟩ := src_at hx (by omega)
    exact ⟨b, off, rfl, hb k hk⟩
end Go.Proofs.YtgjpcjnhggcfdaaGreatDoor.Sam
