/- Plain facts: pixels, steps and spans in memory; a cache behind a pointer; what is told, what is covered. No conditions. -/
import Derived.Test.YtpkiilnkiidoiaaCIns
import Derived.Test.YtpkiilnkiidoiaaKNum
import Derived.Lib.QuietBelow
import Derived.Deep.RegionLaw
import Derived.Deep.RegionHeld3
import Derived.Laws.AppendOwnNone
import Derived.Laws.ResultCell
import Derived.Deep.CutRange
import Derived.Maps.AppendAt
namespace Go.Proofs.Ytpkiilnkiidoiaa.KMem
set_option linter.unusedVariables false
open Go.ChangeShapes Go.WideShapes Go.ChangeAt Go.RowKit Go.Sort Go.Proofs.Ytpkiilnkiidoiaa.Core Go.Proofs.Ytpkiilnkiidoiaa.CNum Go.Proofs.Ytpkiilnkiidoiaa.CCac Go.Proofs.Ytpkiilnkiidoiaa.KNum

theorem bel_a1 (w : World) (o : Obj) : Below w.heap.size w (w.alloc o) := (Below.refl _ w).alloc (Nat.le_refl _) o
theorem bel_dr {B : Nat} {w w1 : World} (h : Below B w w1) : Below B w w1.drew := ⟨h.os, h.tape, h.output, h.size, h.block⟩
theorem bel_drN {B : Nat} {w w1 : World} (h : Below B w w1) (n : Nat) : Below B w (w1.drewN n) := ⟨h.os, h.tape, h.output, h.size, h.block⟩
theorem bel_into {w0 a b : World} (h : Below w0.heap.size w0 a) (k : Below a.heap.size a b) : Below w0.heap.size w0 b := h.trans (k.mono h.size)
theorem bel_next {B : Nat} {w0 a b : World} (h : Below B w0 a) (k : Below a.heap.size a b) (hB : B ≤ a.heap.size) : Below B w0 b := h.trans (k.mono hB)
theorem gr_drew {w w' : World} {r : Option Nat} (h : w.drew.grownBy w' r) : w.grownBy w' r := ⟨h.os, h.tape, h.output, h.size, h.block⟩

/-- Pixels in memory, below block B. -/
def Lst (B : Nat) (w : World) (a : Option Addr) (l : List Nat) : Prop := ∀ (i x : Nat), l[i]? = some x → ∃ b off, a = some ⟨b, off, none⟩ ∧ b < B ∧ w.cell? ⟨b, off + i, none⟩ = some (.int .u32 (x : Int))
theorem Lst.below {B : Nat} {w w' : World} {a : Option Addr} {l : List Nat} (h : Lst B w a l) (u : Below B w w') : Lst B w' a l := fun i x hx => by
  obtain ⟨b, off, e, hb, hc⟩ := h i x hx
  exact ⟨b, off, e, hb, (u.cell (p := ⟨b, off + i, none⟩) hb).trans hc⟩
theorem Lst.mono {B B' : Nat} {w : World} {a : Option Addr} {l : List Nat} (h : Lst B w a l) (hB : B ≤ B') : Lst B' w a l := fun i x hx => by
  obtain ⟨b, off, e, hb, hc⟩ := h i x hx
  exact ⟨b, off, e, by omega, hc⟩
theorem Lst.drewN {B : Nat} {w : World} {a : Option Addr} {l : List Nat} (h : Lst B w a l) (n : Nat) : Lst B (w.drewN n) a l := h
theorem Lst.pos {B : Nat} {w : World} {a : Option Addr} {l : List Nat} (h : Lst B w a l) (h0 : 0 < l.length) : ∃ b off, a = some ⟨b, off, none⟩ ∧ b < B ∧ ∀ (i x : Nat), l[i]? = some x → w.cell? ⟨b, off + i, none⟩ = some (.int .u32 (x : Int)) := by
  obtain ⟨b, off, rfl, hb, _⟩ := h 0 _ (some_getD h0)
  refine ⟨b, off, rfl, hb, fun i x hx => ?_⟩
  obtain ⟨b', off', e, _, hc⟩ := h i x hx
  cases e
  exact hc
theorem lst_of {B b off : Nat} {w : World} {l : List Nat} (hb : b < B) (h : ∀ (i x : Nat), l[i]? = some x → w.cell? ⟨b, off + i, none⟩ = some (.int .u32 (x : Int))) : Lst B w (some ⟨b, off, none⟩) l := fun i x hx => ⟨b, off, rfl, hb, h i x hx⟩
theorem lst_nil {B : Nat} {w : World} {a : Option Addr} : Lst B w a [] := fun i x hx => by simp at hx
theorem Lst.cut {B : Nat} {w : World} {b off : Nat} {l : List Nat} (h : Lst B w (some ⟨b, off, none⟩) l) (p n : Nat) : Lst B w (some ⟨b, off + p, none⟩) (sect l p n) := fun i x hx => by
  have hi : i < n := by
    have := (List.getElem?_eq_some_iff.1 hx).1
    simp [sect] at this; omega
  rw [sect_at _ _ _ _ hi] at hx
  obtain ⟨b', off', e, hb, hc⟩ := h _ _ hx
  cases e
  exact ⟨b, off + p, rfl, hb, by rw [Nat.add_assoc]; exact hc⟩
/-- Steps in memory, below block B. -/
def Tks (B : Nat) (w : World) (a : Option Addr) (ts : List Tk) : Prop := ∀ (i : Nat) (t : Tk), ts[i]? = some t → ∃ b off, a = some ⟨b, off, none⟩ ∧ b < B ∧
  w.cell? ⟨b, off + i * 5, none⟩ = some (.int .i64 t.k) ∧ w.cell? ⟨b, off + i * 5 + 1, none⟩ = some (.int .i64 t.n) ∧ w.cell? ⟨b, off + i * 5 + 2, none⟩ = some (.int .i64 t.d) ∧ w.cell? ⟨b, off + i * 5 + 3, none⟩ = some (.int .i64 t.i) ∧ w.cell? ⟨b, off + i * 5 + 4, none⟩ = some (.int .u32 (t.a : Int))
theorem Tks.below {B : Nat} {w w' : World} {a : Option Addr} {ts : List Tk} (h : Tks B w a ts) (u : Below B w w') : Tks B w' a ts := fun i t ht => by
  obtain ⟨b, off, e, hb, h0, h1, h2, h3, h4⟩ := h i t ht
  exact ⟨b, off, e, hb, (u.cell (p := ⟨b, off + i * 5, none⟩) hb).trans h0, (u.cell (p := ⟨b, off + i * 5 + 1, none⟩) hb).trans h1, (u.cell (p := ⟨b, off + i * 5 + 2, none⟩) hb).trans h2, (u.cell (p := ⟨b, off + i * 5 + 3, none⟩) hb).trans h3, (u.cell (p := ⟨b, off + i * 5 + 4, none⟩) hb).trans h4⟩
theorem Tks.mono {B B' : Nat} {w : World} {a : Option Addr} {ts : List Tk} (h : Tks B w a ts) (hB : B ≤ B') : Tks B' w a ts := fun i t ht => by
  obtain ⟨b, off, e, hb, r⟩ := h i t ht
  exact ⟨b, off, e, by omega, r⟩
/-- Spans in memory, below block B. -/
def Sps (B : Nat) (w : World) (a : Option Addr) (ss : List Sp) : Prop := ∀ (i : Nat) (s : Sp), ss[i]? = some s → ∃ b off, a = some ⟨b, off, none⟩ ∧ b < B ∧
  w.cell? ⟨b, off + i * 3, none⟩ = some (.int .i64 s.p) ∧ w.cell? ⟨b, off + i * 3 + 1, none⟩ = some (.int .i64 s.n) ∧ w.cell? ⟨b, off + i * 3 + 2, none⟩ = some (.int .i64 s.d)
theorem Sps.below {B : Nat} {w w' : World} {a : Option Addr} {ss : List Sp} (h : Sps B w a ss) (u : Below B w w') : Sps B w' a ss := fun i s hs => by
  obtain ⟨b, off, e, hb, h0, h1, h2⟩ := h i s hs
  exact ⟨b, off, e, hb, (u.cell (p := ⟨b, off + i * 3, none⟩) hb).trans h0, (u.cell (p := ⟨b, off + i * 3 + 1, none⟩) hb).trans h1, (u.cell (p := ⟨b, off + i * 3 + 2, none⟩) hb).trans h2⟩
theorem Sps.mono {B B' : Nat} {w : World} {a : Option Addr} {ss : List Sp} (h : Sps B w a ss) (hB : B ≤ B') : Sps B' w a ss := fun i s hs => by
  obtain ⟨b, off, e, hb, r⟩ := h i s hs
  exact ⟨b, off, e, by omega, r⟩
theorem sps_nil {B : Nat} {w : World} {a : Option Addr} : Sps B w a [] := fun i x hx => by simp at hx

/-! Rows of one's own. -/
def cl (l : List Nat) : List Value := l.map fun (x : Nat) => .int .u32 (x : Int)
theorem cl_snoc (l : List Nat) (a : Nat) : cl (l ++ [a]) = cl l ++ [.int .u32 (a : Int)] := by simp [cl]
theorem cl_len (l : List Nat) : (cl l).length = l.length := by simp [cl]
theorem cl_at {l : List Nat} {i x : Nat} (h : l[i]? = some x) : (cl l)[i]? = some (.int .u32 (x : Int)) := by simp [cl, h]
theorem cl_inv {l : List Nat} {i : Nat} {u : Value} (h : (cl l)[i]? = some u) : ∃ x, l[i]? = some x ∧ u = .int .u32 (x : Int) := by
  simp only [cl, List.getElem?_map, Option.map_eq_some_iff] at h
  obtain ⟨x, h1, h2⟩ := h
  exact ⟨x, h1, h2.symm⟩
theorem cl_one (l : List Nat) : ∀ u ∈ cl l, u.oneCell' = true := by
  intro u hu
  obtain ⟨x, _, rfl⟩ := List.mem_map.1 hu
  rfl
def tc (t : Tk) : List Value := [.int .i64 t.k, .int .i64 t.n, .int .i64 t.d, .int .i64 t.i, .int .u32 (t.a : Int)]
def tcs (ts : List Tk) : List Value := ts.flatMap tc
theorem tcs_snoc (ts : List Tk) (t : Tk) : tcs (ts ++ [t]) = tcs ts ++ tc t := by simp [tcs]
def sc (s : Sp) : List Value := [.int .i64 s.p, .int .i64 s.n, .int .i64 s.d]
def scs (ss : List Sp) : List Value := ss.flatMap sc
theorem scs_snoc (ss : List Sp) (s : Sp) : scs (ss ++ [s]) = scs ss ++ sc s := by simp [scs]
theorem flat_at {α β : Type} {f : α → List β} {k : Nat} (hf : ∀ x, (f x).length = k) : ∀ (l : List α) (i : Nat) (x : α) (j : Nat), l[i]? = some x → j < k → (l.flatMap f)[i * k + j]? = (f x)[j]?
  | [], i, x, j, h, _ => by simp at h
  | y :: l, 0, x, j, h, hj => by
    simp only [List.getElem?_cons_zero, Option.some.injEq] at h
    subst h
    rw [List.flatMap_cons, Nat.zero_mul, Nat.zero_add, List.getElem?_append_left (by rw [hf]; exact hj)]
  | y :: l, i + 1, x, j, h, hj => by
    rw [List.getElem?_cons_succ] at h
    rw [List.flatMap_cons, List.getElem?_append_right (by rw [hf, Nat.succ_mul]; omega), hf, show (i + 1) * k + j - k = i * k + j by rw [Nat.succ_mul]; omega]
    exact flat_at hf l i x j h hj
theorem own_shape {w : World} {base n k : Nat} {e : TypeId} {v : Value} {xs : List Value} (h : w.ownsRow base e k v n xs) : ∃ a c, v = .slice a n c ∧ n ≤ c := by
  rcases h.2 with ⟨rfl, rfl⟩ | ⟨g, cap, cur, rfl, _, _, h4, _⟩
  · exact ⟨_, _, rfl, Nat.le_refl _⟩
  · exact ⟨_, _, rfl, h4⟩
theorem own_cell {w : World} {base n k : Nat} {e : TypeId} {v : Value} {xs : List Value} (h : w.ownsRow base e k v n xs) (hn : 0 < n) : ∃ g c, v = .slice (some ⟨g, 0, none⟩) n c ∧ n ≤ c ∧ base ≤ g ∧ g < w.heap.size ∧ ∀ j u, xs[j]? = some u → w.cell? ⟨g, j, none⟩ = some u := by
  have hl := h.lt
  have H := h
  rcases h.2 with ⟨_, h0⟩ | ⟨g, cap, cur, rfl, _, _, h4, _⟩
  · omega
  · refine ⟨g, cap, rfl, h4, (hl g rfl).1, (hl g rfl).2, fun j u hu => ?_⟩
    have c := H.cells (g := g) rfl j u hu
    rwa [Go.WideShapes.add_plain, Nat.zero_add] at c
theorem own_lst {w : World} {base : Nat} {v : Value} {l : List Nat} (h : w.ownsRow base 35 1 v l.length (cl l)) : ∃ a c, v = .slice a l.length c ∧ l.length ≤ c ∧ Lst w.heap.size w a l := by
  rcases Nat.eq_zero_or_pos l.length with h0 | h0
  · obtain ⟨a, c, rfl, hc⟩ := own_shape h
    refine ⟨a, c, rfl, hc, ?_⟩
    rw [List.length_eq_zero_iff.1 h0]
    exact lst_nil
  · obtain ⟨g, c, rfl, hc, _, hg, hx⟩ := own_cell h h0
    exact ⟨_, c, rfl, hc, fun i x hi => ⟨g, 0, rfl, hg, by rw [Nat.zero_add]; exact hx _ _ (cl_at hi)⟩⟩
theorem own_tks {w : World} {base n : Nat} {v : Value} {ts : List Tk} (h : w.ownsRow base 37 5 v n (tcs ts)) (hn : n = ts.length) : ∃ a c, v = .slice a ts.length c ∧ ts.length ≤ c ∧ Tks w.heap.size w a ts := by
  subst hn
  rcases Nat.eq_zero_or_pos ts.length with h0 | h0
  · obtain ⟨a, c, rfl, hc⟩ := own_shape h
    refine ⟨a, c, rfl, hc, ?_⟩
    rw [List.length_eq_zero_iff.1 h0]
    exact fun i x hx => by simp at hx
  · obtain ⟨g, c, rfl, hc, _, hg, hx⟩ := own_cell h h0
    refine ⟨_, c, rfl, hc, fun i t hi => ⟨g, 0, rfl, hg, ?_⟩⟩
    have f := fun j hj => flat_at (f := tc) (k := 5) (fun _ => rfl) ts i t j hi hj
    rw [Nat.zero_add]
    exact ⟨hx _ _ (f 0 (by omega)), hx _ _ (f 1 (by omega)), hx _ _ (f 2 (by omega)), hx _ _ (f 3 (by omega)), hx _ _ (f 4 (by omega))⟩
theorem own_sps {w : World} {base n : Nat} {v : Value} {ss : List Sp} (h : w.ownsRow base 45 3 v n (scs ss)) (hn : n = ss.length) : ∃ a c, v = .slice a ss.length c ∧ ss.length ≤ c ∧ Sps w.heap.size w a ss := by
  subst hn
  rcases Nat.eq_zero_or_pos ss.length with h0 | h0
  · obtain ⟨a, c, rfl, hc⟩ := own_shape h
    refine ⟨a, c, rfl, hc, ?_⟩
    rw [List.length_eq_zero_iff.1 h0]
    exact sps_nil
  · obtain ⟨g, c, rfl, hc, _, hg, hx⟩ := own_cell h h0
    refine ⟨_, c, rfl, hc, fun i t hi => ⟨g, 0, rfl, hg, ?_⟩⟩
    have f := fun j hj => flat_at (f := sc) (k := 3) (fun _ => rfl) ss i t j hi hj
    rw [Nat.zero_add]
    exact ⟨hx _ _ (f 0 (by omega)), hx _ _ (f 1 (by omega)), hx _ _ (f 2 (by omega))⟩
theorem info35 : (Try.prog.info? 35).map (fun i => (i.zero, i.size, i.bytes)) = some (some (.int .u32 0), 1, 4) := by kernel_rfl
theorem info37 : (Try.prog.info? 37).map (fun i => (i.zero, i.size, i.bytes)) = some (some (.agg #[.int .i64 0, .int .i64 0, .int .i64 0, .int .i64 0, .int .u32 0]), 5, 40) := by kernel_rfl
theorem info45 : (Try.prog.info? 45).map (fun i => (i.zero, i.size, i.bytes)) = some (some (.agg #[.int .i64 0, .int .i64 0, .int .i64 0]), 3, 24) := by kernel_rfl
theorem one_one (k : IntKind) (x : Int) : ∀ u ∈ [Value.int k x], u.oneCell' = true := by
  intro u hu; simp at hu; subst hu; rfl
theorem tc_one (t : Tk) : ∀ u ∈ tc t, u.oneCell' = true := by
  intro u hu
  simp [tc] at hu
  rcases hu with rfl | rfl | rfl | rfl | rfl <;> rfl
theorem sc_one (s : Sp) : ∀ u ∈ sc s, u.oneCell' = true := by
  intro u hu
  simp [sc] at hu
  rcases hu with rfl | rfl | rfl <;> rfl
theorem box_new {w : World} {g : Nat} {T : TypeId} {vs : Array Value} (h : Box w g T vs) : ∀ j u, vs.toList[j]? = some u → w.cell? ((⟨g, 0, none⟩ : Addr).add j) = some u := by
  intro j u hj
  rw [Go.WideShapes.add_plain, Nat.zero_add, h.cell j]
  simpa using hj
theorem tc_new (w : World) (t : Tk) (T : TypeId) : ∀ j u, (tc t)[j]? = some u → (w.alloc (.cells #[.int .i64 t.k, .int .i64 t.n, .int .i64 t.d, .int .i64 t.i, .int .u32 (t.a : Int)] T)).cell? ((⟨w.heap.size, 0, none⟩ : Addr).add j) = some u :=
  box_new (Box.made w T #[.int .i64 t.k, .int .i64 t.n, .int .i64 t.d, .int .i64 t.i, .int .u32 (t.a : Int)])
theorem sc_new (w : World) (s : Sp) (T : TypeId) : ∀ j u, (sc s)[j]? = some u → (w.alloc (.cells #[.int .i64 s.p, .int .i64 s.n, .int .i64 s.d] T)).cell? ((⟨w.heap.size, 0, none⟩ : Addr).add j) = some u :=
  box_new (Box.made w T #[.int .i64 s.p, .int .i64 s.n, .int .i64 s.d])
theorem own_other {w : World} {base n k : Nat} {e : TypeId} {v : Value} {xs : List Value} (h : w.ownsRow base e k v n xs) {p : Addr} (hp : p.block < base) (u : Value) : (w.setCell p u).ownsRow base e k v n xs := by
  refine ⟨h.1, ?_⟩
  rcases h.2 with h0 | ⟨g, cap, cur, h1, h2, h3, h4⟩
  · exact .inl h0
  · exact .inr ⟨g, cap, cur, h1, h2, (Below.heap_setCell _ _ _ _ (by omega)).trans h3, h4⟩
theorem own_same {w w' : World} {base n k : Nat} {e : TypeId} {v : Value} {xs : List Value} (h : w.ownsRow base e k v n xs) (s : ∀ k, base ≤ k → k < w.heap.size → w'.heap[k]? = w.heap[k]?) : w'.ownsRow base e k v n xs := by
  refine ⟨h.1, ?_⟩
  have hl := h.lt
  rcases h.2 with h0 | ⟨g, cap, cur, rfl, h2, h3, h4⟩
  · exact .inl h0
  · exact .inr ⟨g, cap, cur, rfl, h2, (s g h2 (hl g rfl).2).trans h3, h4⟩

/-! A cache behind a pointer, that may be nil. -/
def Cp (B g : Nat) (w : World) (b : Nat) (cp : Value) (f : Nat → Nat) : Prop :=
  (b = 0 ∧ cp = .pointer none) ∨ ∃ gc rc, cp = .pointer (some ⟨gc, 0, none⟩) ∧ Ca w gc rc b (2 ^ b) f ∧ B ≤ gc ∧ gc < g ∧ B ≤ rc ∧ rc < g
theorem Cp.same {B g b : Nat} {w w' : World} {cp : Value} {f : Nat → Nat} (h : Cp B g w b cp f) (s : ∀ k, B ≤ k → k < g → w'.heap[k]? = w.heap[k]?) : Cp B g w' b cp f := by
  rcases h with h | ⟨gc, rc, rfl, C, h1, h2, h3, h4⟩
  · exact .inl h
  · exact .inr ⟨gc, rc, rfl, ⟨(s gc h1 h2).trans C.top, (s rc h3 h4).trans C.low, C.ne, C.num, C.b0, C.b1⟩, h1, h2, h3, h4⟩
theorem Cp.le {B g b : Nat} {w : World} {cp : Value} {f : Nat → Nat} (h : Cp B g w b cp f) : b ≤ 11 := by
  rcases h with ⟨h, _⟩ | ⟨gc, rc, _, C, _⟩
  · omega
  · exact C.b1

/-- What is told: pixels, and a cache of them. -/
structure Td (B base : Nat) (w : World) (g b : Nat) (cp v : Value) (l : List Nat) (f : Nat → Nat) : Prop where
  box : Box w g 50 #[v, cp]
  own : w.ownsRow base 35 1 v l.length (cl l)
  ca : Cp B g w b cp f
  g0 : B ≤ g
  g1 : g < base
  hb : base ≤ w.heap.size
theorem Td.drewN {B base g b : Nat} {w : World} {cp v : Value} {l : List Nat} {f : Nat → Nat} (h : Td B base w g b cp v l f) (n : Nat) : Td B base (w.drewN n) g b cp v l f :=
  ⟨h.box, ⟨h.own.1, h.own.2⟩, h.ca.same (fun _ _ _ => rfl), h.g0, h.g1, h.hb⟩
theorem Td.keep {B base g b : Nat} {w w' : World} {cp v : Value} {l : List Nat} {f : Nat → Nat} (h : Td B base w g b cp v l f) (u : Below w.heap.size w w') : Td B base w' g b cp v l f :=
  ⟨(u.block g h.box.lt).trans h.box, own_same h.own (fun k _ hk => u.block k hk), h.ca.same (fun k _ hk => u.block k (by have := h.box.lt; omega)), h.g0, h.g1, Nat.le_trans h.hb u.size⟩
/-- One pixel more in the row, and the row laid down. -/
theorem Td.app {B base g b : Nat} {w w2 : World} {cp v v' : Value} {l : List Nat} {f : Nat → Nat} {o : Obj} {a : Nat} (h : Td B base w g b cp v l f)
    (own : w2.ownsRow base 35 1 v' (l.length + 1) (cl l ++ [.int .u32 (a : Int)])) (gr : (w.alloc o).grownBy w2 v.ownBlock) :
    Td B base (w2.setCell ⟨g, 0, none⟩ v') g b cp v' (l ++ [a]) f ∧ Below B w (w2.setCell ⟨g, 0, none⟩ v') ∧ Box w2 g 50 #[v, cp] := by
  have hg := h.box.lt
  have hr : ∀ k, k < base → w2.heap[k]? = w.heap[k]? := fun k hk => by
    have h1 := h.hb
    rw [gr.block k (by simp; omega) (fun e => by have := (h.own.lt k e.symm).1; omega)]
    exact Below.heap_alloc _ _ _ (by omega)
  have bx : Box w2 g 50 #[v, cp] := (hr g h.g1).trans h.box
  refine ⟨⟨?_, own_other (by rw [cl_snoc, List.length_append]; exact own) h.g1 _, h.ca.same (fun k _ hk => ?_), h.g0, h.g1, ?_⟩, ?_, bx⟩
  · have := bx.set 0 v'
    simpa using this
  · rw [Below.heap_setCell _ _ _ _ (by show k ≠ g; omega)]
    exact hr k (by have := h.g1; omega)
  · have h1 := gr.size
    have h2 := h.hb
    simp only [World.setCell, Array.size_modify]
    simp at h1
    omega
  · have hB : B ≤ w.heap.size := by have := h.g0; omega
    exact ((((Below.refl B w).alloc hB o).grown gr (by simp; omega) (fun k e => by have := (h.own.lt k e).1; have := h.g0; have := h.g1; omega)).setCell (p := ⟨g, 0, none⟩) h.g0 _)
/-- Steps that cover pixels, and a cache of these. -/
structure Cv (B base : Nat) (w : World) (g b : Nat) (cp v : Value) (ts : List Tk) (f : Nat → Nat) : Prop where
  box : Box w g 57 #[v, cp]
  own : w.ownsRow base 37 5 v ts.length (tcs ts)
  ca : Cp B g w b cp f
  g0 : B ≤ g
  g1 : g < base
  hb : base ≤ w.heap.size
theorem Cv.drewN {B base g b : Nat} {w : World} {cp v : Value} {ts : List Tk} {f : Nat → Nat} (h : Cv B base w g b cp v ts f) (n : Nat) : Cv B base (w.drewN n) g b cp v ts f :=
  ⟨h.box, ⟨h.own.1, h.own.2⟩, h.ca.same (fun _ _ _ => rfl), h.g0, h.g1, h.hb⟩
theorem Cv.keep {B base g b : Nat} {w w' : World} {cp v : Value} {ts : List Tk} {f : Nat → Nat} (h : Cv B base w g b cp v ts f) (u : Below w.heap.size w w') : Cv B base w' g b cp v ts f :=
  ⟨(u.block g h.box.lt).trans h.box, own_same h.own (fun k _ hk => u.block k hk), h.ca.same (fun k _ hk => u.block k (by have := h.box.lt; omega)), h.g0, h.g1, Nat.le_trans h.hb u.size⟩
theorem Cv.app {B base g b : Nat} {w w2 : World} {cp v v' : Value} {ts : List Tk} {f : Nat → Nat} {o : Obj} {t : Tk} (h : Cv B base w g b cp v ts f)
    (own : w2.ownsRow base 37 5 v' (ts.length + 1) (tcs ts ++ tc t)) (gr : (w.alloc o).grownBy w2 v.ownBlock) :
    Cv B base (w2.setCell ⟨g, 0, none⟩ v') g b cp v' (ts ++ [t]) f ∧ Below B w (w2.setCell ⟨g, 0, none⟩ v') ∧ Box w2 g 57 #[v, cp] := by
  have hg := h.box.lt
  have hr : ∀ k, k < base → w2.heap[k]? = w.heap[k]? := fun k hk => by
    have h1 := h.hb
    rw [gr.block k (by simp; omega) (fun e => by have := (h.own.lt k e.symm).1; omega)]
    exact Below.heap_alloc _ _ _ (by omega)
  have bx : Box w2 g 57 #[v, cp] := (hr g h.g1).trans h.box
  refine ⟨⟨?_, own_other (by rw [tcs_snoc, List.length_append]; exact own) h.g1 _, h.ca.same (fun k _ hk => ?_), h.g0, h.g1, ?_⟩, ?_, bx⟩
  · have := bx.set 0 v'
    simpa using this
  · rw [Below.heap_setCell _ _ _ _ (by show k ≠ g; omega)]
    exact hr k (by have := h.g1; omega)
  · have h1 := gr.size
    have h2 := h.hb
    simp only [World.setCell, Array.size_modify]
    simp at h1
    omega
  · have hB : B ≤ w.heap.size := by have := h.g0; omega
    exact ((((Below.refl B w).alloc hB o).grown gr (by simp; omega) (fun k e => by have := (h.own.lt k e).1; have := h.g0; have := h.g1; omega)).setCell (p := ⟨g, 0, none⟩) h.g0 _)
/-- The document's pixels, and a cache of them. -/
def Cs (B base g : Nat) (w : World) (b : Nat) (cs : Value) (f : Nat → Nat) : Prop :=
  (b = 0 ∧ cs = .slice none 0 0) ∨ ∃ rc, cs = .slice (some ⟨rc, 0, none⟩) (2 ^ b) (2 ^ b) ∧ Box w rc 35 (row f (2 ^ b)) ∧ B ≤ rc ∧ rc < base ∧ rc ≠ g ∧ 1 ≤ b ∧ b ≤ 11
theorem Cs.same {B base g b : Nat} {w w' : World} {cs : Value} {f : Nat → Nat} (h : Cs B base g w b cs f) (s : ∀ k, B ≤ k → k < base → k ≠ g → w'.heap[k]? = w.heap[k]?) : Cs B base g w' b cs f := by
  rcases h with h | ⟨rc, rfl, C, h1, h2, h3, h4⟩
  · exact .inl h
  · exact .inr ⟨rc, rfl, (s rc h1 h2 h3).trans C, h1, h2, h3, h4⟩
structure Pt (B base : Nat) (w : World) (g b : Nat) (cs v : Value) (l : List Nat) (f : Nat → Nat) : Prop where
  box : Box w g 55 #[v, cs, .int .i64 b]
  own : w.ownsRow base 35 1 v l.length (cl l)
  ca : Cs B base g w b cs f
  g0 : B ≤ g
  g1 : g < base
  hb : base ≤ w.heap.size
theorem Pt.drewN {B base g b : Nat} {w : World} {cs v : Value} {l : List Nat} {f : Nat → Nat} (h : Pt B base w g b cs v l f) (n : Nat) : Pt B base (w.drewN n) g b cs v l f :=
  ⟨h.box, ⟨h.own.1, h.own.2⟩, h.ca.same (fun _ _ _ _ => rfl), h.g0, h.g1, h.hb⟩
theorem Pt.keep {B base g b : Nat} {w w' : World} {cs v : Value} {l : List Nat} {f : Nat → Nat} (h : Pt B base w g b cs v l f) (u : Below w.heap.size w w') : Pt B base w' g b cs v l f :=
  ⟨(u.block g h.box.lt).trans h.box, own_same h.own (fun k _ hk => u.block k hk), h.ca.same (fun k _ hk _ => u.block k (by have := h.hb; omega)), h.g0, h.g1, Nat.le_trans h.hb u.size⟩
theorem Pt.app {B base g b : Nat} {w w2 : World} {cs v v' : Value} {l : List Nat} {f : Nat → Nat} {o : Obj} {a : Nat} (h : Pt B base w g b cs v l f)
    (own : w2.ownsRow base 35 1 v' (l.length + 1) (cl l ++ [.int .u32 (a : Int)])) (gr : (w.alloc o).grownBy w2 v.ownBlock) :
    Pt B base (w2.setCell ⟨g, 0, none⟩ v') g b cs v' (l ++ [a]) f ∧ Below B w (w2.setCell ⟨g, 0, none⟩ v') ∧ Box w2 g 55 #[v, cs, .int .i64 b] := by
  have hg := h.box.lt
  have hr : ∀ k, k < base → w2.heap[k]? = w.heap[k]? := fun k hk => by
    have h1 := h.hb
    rw [gr.block k (by simp; omega) (fun e => by have := (h.own.lt k e.symm).1; omega)]
    exact Below.heap_alloc _ _ _ (by omega)
  have bx : Box w2 g 55 #[v, cs, .int .i64 b] := (hr g h.g1).trans h.box
  refine ⟨⟨?_, own_other (by rw [cl_snoc, List.length_append]; exact own) h.g1 _, h.ca.same (fun k _ hk hne => ?_), h.g0, h.g1, ?_⟩, ?_, bx⟩
  · have := bx.set 0 v'
    simpa using this
  · rw [Below.heap_setCell _ _ _ _ hne]
    exact hr k hk
  · have h1 := gr.size
    have h2 := h.hb
    simp only [World.setCell, Array.size_modify]
    simp at h1
    omega
  · have hB : B ≤ w.heap.size := by have := h.g0; omega
    exact ((((Below.refl B w).alloc hB o).grown gr (by simp; omega) (fun k e => by have := (h.own.lt k e).1; have := h.g0; have := h.g1; omega)).setCell (p := ⟨g, 0, none⟩) h.g0 _)
end Go.Proofs.Ytpkiilnkiidoiaa.KMem
