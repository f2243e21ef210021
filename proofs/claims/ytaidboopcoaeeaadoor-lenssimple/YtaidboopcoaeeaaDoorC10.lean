/-
  Contracts: package lens, writing: the steps of lengths. Conditions: the slice reads as lengths up to 15, and they are few.
  Contract: lens.stepsOf. Conditions: the slice reads as lengths up to 15, and they are few.
  Contracts: package lens, writing: how many steps there are. Conditions: a writer lies in memory, its bits are few.
  Contracts: package lens, reading: the code of lengths. Conditions: the bits are there, and the code is complete.
  Contracts: package lens, reading: the code of lengths. Conditions: the bits are there, and the code is complete.
-/
import Derived.Test.YtaidboopcoaeeaaDoorC09
import Derived.ChangeKeysEq
import Derived.Laws.Rows
namespace Go.Proofs.YtaidboopcoaeeaaDoor.Wse
open Go.ChangeShapes Go.WideShapes Go.ChangeAt Go.RowKit Go.Proofs.YtaidboopcoaeeaaDoor.Core Go.Proofs.YtaidboopcoaeeaaDoor.Gnd Go.Proofs.YtaidboopcoaeeaaDoor.Math Go.Proofs.YtaidboopcoaeeaaDoor.Dec Go.Proofs.YtaidboopcoaeeaaDoor.Ord Go.Proofs.YtaidboopcoaeeaaDoor.Lsp Go.Proofs.YtaidboopcoaeeaaDoor.Rsa Go.Proofs.YtaidboopcoaeeaaDoor.Wrc Go.Proofs.YtaidboopcoaeeaaDoor.Wsd

/-- A slice that reads as these lengths. -/
def Rw (w : World) (v : Value) (n : Nat) (F : Nat → Nat) : Prop :=
  ∃ b off cap, v = .slice (some ⟨b, off, none⟩) n cap ∧ n ≤ cap ∧ b < w.heap.size ∧ ∀ i, i < n → w.cell? ⟨b, off + i, none⟩ = some (.int .i64 (F i))
theorem Rw.ints {w : World} {v : Value} {n : Nat} {F : Nat → Nat} (h : Rw w v n F) : Ints .i64 w v n (fun k => (F k : Int)) := by
  obtain ⟨b, off, cap, rfl, h1, _, h2⟩ := h
  exact ⟨_, cap, rfl, fun i hi => ⟨b, off, rfl, h2 i hi⟩⟩
theorem Rw.keep {w w' : World} {v : Value} {n : Nat} {F : Nat → Nat} (h : Rw w v n F) (u : Below w.heap.size w w') : Rw w' v n F := by
  obtain ⟨b, off, cap, rfl, h1, h3, h2⟩ := h
  exact ⟨b, off, cap, rfl, h1, Nat.lt_of_lt_of_le h3 u.size, fun i hi => (u.cell (p := ⟨b, off + i, none⟩) h3).trans (h2 i hi)⟩
theorem Rw.congr {w : World} {v : Value} {n : Nat} {F G : Nat → Nat} (h : Rw w v n F) (e : ∀ k, k < n → F k = G k) : Rw w v n G := by
  obtain ⟨b, off, cap, rfl, h1, h3, h2⟩ := h
  exact ⟨b, off, cap, rfl, h1, h3, fun i hi => by rw [← e i hi]; exact h2 i hi⟩
theorem Rw.tail {w : World} {b off n cap m : Nat} {F : Nat → Nat} (h1 : n ≤ cap) (h3 : b < w.heap.size) (h2 : ∀ i, i < n → w.cell? ⟨b, off + i, none⟩ = some (.int .i64 (F i))) (hm : m ≤ n) :
    Rw w (.slice (some ⟨b, off + m, none⟩) (n - m) (cap - m)) (n - m) (fun k => F (m + k)) :=
  ⟨b, off + m, cap - m, rfl, by omega, h3, fun i hi => by rw [Nat.add_assoc]; exact h2 (m + i) (by omega)⟩
theorem Rw.none {w : World} {b off n cap m : Nat} {F : Nat → Nat} (h3 : b < w.heap.size) (hn : n ≤ m) : Rw w (.slice (some ⟨b, off, none⟩) (n - m) (cap - m)) (n - m) F ∨ cap - m < n - m := by
  by_cases h : cap - m < n - m
  · exact .inr h
  · exact .inl ⟨b, off, cap - m, rfl, by omega, h3, fun i hi => by omega⟩
def pre (F : Nat → Nat) (i : Nat) : List Nat := (List.range i).map F
theorem pre_len (F : Nat → Nat) (i : Nat) : (pre F i).length = i := by simp [pre]
theorem pre_add (F : Nat → Nat) (i k : Nat) : pre F (i + k) = pre F i ++ (List.range k).map (fun j => F (i + j)) := by
  unfold pre
  rw [List.range_add, List.map_append, List.map_map]
  rfl
theorem got_pre (F : Nat → Nat) (n j : Nat) (h : j < n) : got (pre F n) j = F j := by
  simp [got, pre, h]
/-- Steps that can be told. -/
def StepsOk (l : List (Nat × Nat)) : Prop := ∀ x ∈ l, x.1 < 19 ∧ x.2 < 2 ^ wid x.1
theorem sy_cases (c0 last r : Nat) : (sy c0 last r = 18 ∧ c0 = 0 ∧ 11 ≤ r) ∨ (sy c0 last r = 17 ∧ c0 = 0 ∧ 3 ≤ r) ∨ (sy c0 last r = 16 ∧ c0 = last ∧ 3 ≤ r) ∨ sy c0 last r = c0 := by
  unfold sy
  by_cases h1 : c0 = 0 ∧ 11 ≤ r
  · rw [if_pos h1]; exact .inl ⟨rfl, h1⟩
  · rw [if_neg h1]
    by_cases h2 : c0 = 0 ∧ 3 ≤ r
    · rw [if_pos h2]; exact .inr (.inl ⟨rfl, h2⟩)
    · rw [if_neg h2]
      by_cases h3 : c0 = last ∧ 3 ≤ r
      · rw [if_pos h3]; exact .inr (.inr (.inl ⟨rfl, h3⟩))
      · rw [if_neg h3]; exact .inr (.inr (.inr rfl))
/-- What is to know of the next step. -/
structure Nxt (F : Nat → Nat) (i last s k : Nat) : Prop where
  lt : s < 19
  low : bas s ≤ k
  x : k - bas s < 2 ^ wid s
  val : vv s last = F i
  nxl : nl s last = if F i = 0 then last else F i
theorem nxt {F : Nat → Nat} {i last r k : Nat} (h15 : F i ≤ 15) (hla : last ≠ 0) (hr : 1 ≤ r) (hk : k = min r (bas (sy (F i) last r) + 2 ^ wid (sy (F i) last r) - 1)) : Nxt F i last (sy (F i) last r) k := by
  rcases sy_cases (F i) last r with ⟨e, h1, h2⟩ | ⟨e, h1, h2⟩ | ⟨e, h1, h2⟩ | e
  · rw [e] at hk ⊢
    rw [show bas 18 = 11 from rfl, show wid 18 = 7 from rfl] at hk
    refine ⟨by omega, ?_, ?_, ?_, ?_⟩
    · show 11 ≤ k; omega
    · show k - 11 < 2 ^ 7; omega
    · show 0 = F i; omega
    · rw [if_pos h1]; rfl
  · rw [e] at hk ⊢
    rw [show bas 17 = 3 from rfl, show wid 17 = 3 from rfl] at hk
    refine ⟨by omega, ?_, ?_, ?_, ?_⟩
    · show 3 ≤ k; omega
    · show k - 3 < 2 ^ 3; omega
    · show 0 = F i; omega
    · rw [if_pos h1]; rfl
  · rw [e] at hk ⊢
    rw [show bas 16 = 3 from rfl, show wid 16 = 2 from rfl] at hk
    refine ⟨by omega, ?_, ?_, ?_, ?_⟩
    · show 3 ≤ k; omega
    · show k - 3 < 2 ^ 2; omega
    · show last = F i; omega
    · rw [if_neg (by omega), h1]; rfl
  · rw [e] at hk ⊢
    have e1 : bas (F i) = 1 := by unfold bas; rw [if_neg (by omega), if_neg (by omega), if_neg (by omega)]
    have e2 : wid (F i) = 0 := by unfold wid; rw [if_neg (by omega), if_neg (by omega), if_neg (by omega)]
    rw [e1, e2] at hk
    refine ⟨by omega, by rw [e1]; omega, by rw [e1, e2]; omega, ?_, ?_⟩
    · unfold Lsp.vv; rw [if_pos (by omega)]
    · unfold Lsp.nl
      by_cases h0 : F i = 0
      · rw [if_pos h0, if_neg (by omega)]
      · rw [if_neg h0, if_pos (by omega)]
theorem told_nxt {F : Nat → Nat} {i m r last s k : Nat} {done : List (Nat × Nat)} (ht : told done 8 = pre F i) (hl : lastOf done 8 = last) (hs : Same (fun j => F (i + j)) m r) (n : Nxt F i last s k) (hk : k ≤ r) : told (done ++ [(s, k - bas s)]) 8 = pre F (i + k) := by
  rw [told_app, ht, hl, pre_add]
  have hb := n.low
  simp only [told, List.append_nil]
  rw [show bas s + (k - bas s) = k by omega, n.val]
  congr 1
  apply List.ext_getElem
  · simp
  · intro j h1 h2
    simp at h1
    simp
    exact (hs.eq j (by omega)).symm
theorem last_nxt {F : Nat → Nat} {i last s k : Nat} {done : List (Nat × Nat)} (hl : lastOf done 8 = last) (n : Nxt F i last s k) : lastOf (done ++ [(s, k - bas s)]) 8 = if F i = 0 then last else F i := by
  rw [last_app, hl, ← n.nxl]
  rfl
def scells (l : List (Nat × Nat)) : List Value := l.flatMap fun x => [.int .i64 x.1, .int .i64 x.2]
theorem scells_app (xs ys : List (Nat × Nat)) : scells (xs ++ ys) = scells xs ++ scells ys := by simp [scells]
theorem scells_len : ∀ xs : List (Nat × Nat), (scells xs).length = xs.length * 2
  | [] => rfl
  | x :: xs => by
    have := scells_len xs
    simp [scells] at *
    omega
def pt (l : List (Nat × Nat)) (i : Nat) : Nat × Nat := l.getD i (0, 0)
theorem scells_at : ∀ (xs : List (Nat × Nat)) (i : Nat), i < xs.length → (scells xs)[i * 2]? = some (.int .i64 (pt xs i).1) ∧ (scells xs)[i * 2 + 1]? = some (.int .i64 (pt xs i).2)
  | [], i, h => by simp at h
  | x :: xs, 0, _ => by simp [scells, pt]
  | x :: xs, i + 1, h => by
    have := scells_at xs i (by simpa using h)
    have e2 : pt (x :: xs) (i + 1) = pt xs i := by simp [pt]
    rw [e2]
    have e : scells (x :: xs) = .int .i64 x.1 :: .int .i64 x.2 :: scells xs := by simp [scells]
    rw [e, show (i + 1) * 2 = i * 2 + 1 + 1 by omega, List.getElem?_cons_succ, List.getElem?_cons_succ, List.getElem?_cons_succ, List.getElem?_cons_succ]
    exact this
theorem scells_one (xs : List (Nat × Nat)) : ∀ u ∈ scells xs, u.oneCell' = true := by
  intro u hu
  simp only [scells, List.mem_flatMap] at hu
  obtain ⟨x, _, h⟩ := hu
  simp at h
  rcases h with rfl | rfl <;> rfl
theorem info87 : (Tryd.prog.info? 87).map (fun i => (i.zero, i.size, i.bytes)) = some (some (.agg #[.int .i64 0, .int .i64 0]), 2, 16) := by kernel_rfl
/-- A slice of steps. -/
def Sts (w : World) (v : Value) (l : List (Nat × Nat)) : Prop :=
  (v = .slice none 0 0 ∧ l = []) ∨ ∃ g cap, v = .slice (some ⟨g, 0, none⟩) l.length cap ∧ g < w.heap.size ∧ ∀ i, i < l.length → w.cell? ⟨g, i * 2, none⟩ = some (.int .i64 (pt l i).1) ∧ w.cell? ⟨g, i * 2 + 1, none⟩ = some (.int .i64 (pt l i).2)
theorem Sts.keep {w w' : World} {v : Value} {l : List (Nat × Nat)} (h : Sts w v l) (u : Below w.heap.size w w') : Sts w' v l := by
  rcases h with h | ⟨g, cap, h1, h2, h3⟩
  · exact .inl h
  · exact .inr ⟨g, cap, h1, Nat.lt_of_lt_of_le h2 u.size, fun i hi => ⟨(u.cell (p := ⟨g, i * 2, none⟩) h2).trans (h3 i hi).1, (u.cell (p := ⟨g, i * 2 + 1, none⟩) h2).trans (h3 i hi).2⟩⟩
structure Sto (w wr : World) (s : Value) (l : List (Nat × Nat)) : Prop where
  own : wr.ownsRow w.heap.size 87 2 s l.length (scells l)
  bel : Below w.heap.size w wr
theorem Sto.sts {w wr : World} {s : Value} {l : List (Nat × Nat)} (h : Sto w wr s l) : Sts wr s l := by
  have ho := h.own
  rcases ho.2 with ⟨rfl, e⟩ | ⟨g, cap, cur, rfl, b1, b2, b3, b4⟩
  · exact .inl ⟨rfl, List.eq_nil_of_length_eq_zero e⟩
  · exact .inr ⟨g, cap, rfl, (ho.lt g rfl).2, fun i hi => by
      obtain ⟨m1, m2⟩ := scells_at l i hi
      exact ⟨(ho.cellAt (i * 2) (by omega)).trans m1, (ho.cellAt (i * 2 + 1) (by omega)).trans m2⟩⟩
theorem Sto.app {w wr w1 : World} {s s1 : Value} {l : List (Nat × Nat)} {x : Nat × Nat} {o : Obj} (h : Sto w wr s l) (own : w1.ownsRow w.heap.size 87 2 s1 (l.length + 1) (scells l ++ scells [x])) (gr : (wr.alloc o).grownBy w1 s.ownBlock) : Sto w w1 s1 (l ++ [x]) := by
  have hlt := h.own.lt
  refine ⟨?_, ?_⟩
  · rw [List.length_append, scells_app]
    exact own
  · refine (h.bel.alloc h.bel.size o).grown gr ?_ (fun k e => (hlt k e).1)
    have := h.bel.size
    simp; omega
theorem Sto.below {w wr w' : World} {s : Value} {l : List (Nat × Nat)} (h : Sto w wr s l) (u : Below wr.heap.size wr w') : Sto w w' s l := by
  refine ⟨?_, h.bel.trans (u.mono h.bel.size)⟩
  obtain ⟨h1, h2⟩ := h.own
  refine ⟨h1, ?_⟩
  rcases h2 with h2 | ⟨b, cap, cur, rfl, l0, hb, r⟩
  · exact .inl h2
  · exact .inr ⟨b, cap, cur, rfl, l0, (u.block b (Array.getElem?_eq_some_iff.1 hb).1).trans hb, r⟩
theorem st_src (w : World) (x : Nat × Nat) : ∀ j u, (scells [x])[j]? = some u → (w.alloc (.cells #[.int .i64 x.1, .int .i64 x.2] 87)).cell? ((⟨w.heap.size, 0, none⟩ : Addr).add j) = some u := by
  intro j u hu
  rw [add_plain, Nat.zero_add]
  match j, hu with
  | 0, hu => simp [scells] at hu; subst hu; simp
  | 1, hu => simp [scells] at hu; subst hu; simp
end Go.Proofs.YtaidboopcoaeeaaDoor.Wse

namespace Go.Proofs.YtaidboopcoaeeaaDoor.Wsf
open Go.ChangeShapes Go.WideShapes Go.ChangeAt Go.RowKit Go.Proofs.YtaidboopcoaeeaaDoor.Core Go.Proofs.YtaidboopcoaeeaaDoor.Gnd Go.Proofs.YtaidboopcoaeeaaDoor.Math Go.Proofs.YtaidboopcoaeeaaDoor.Dec Go.Proofs.YtaidboopcoaeeaaDoor.Ord Go.Proofs.YtaidboopcoaeeaaDoor.Lsp Go.Proofs.YtaidboopcoaeeaaDoor.Rsa Go.Proofs.YtaidboopcoaeeaaDoor.Wrc Go.Proofs.YtaidboopcoaeeaaDoor.Wsd Go.Proofs.YtaidboopcoaeeaaDoor.Wse

/-- Where the loop stands. -/
structure At_ (w wr : World) (v al la : Value) (n i : Nat) (F : Nat → Nat) (done : List (Nat × Nat)) : Prop where
  le : i ≤ n
  row : Rw w v (n - i) (fun k => F (i + k))
  last : la = .int .i64 (lastOf done 8)
  sto : Sto w wr al done
  fair : StepsOk done
  told : told done 8 = pre F i
def vl : Value → Nat
  | .slice _ n _ => n
  | _ => 0
theorem At_.next {w wr w' : World} {v v' al al' la la' : Value} {n i r s k last : Nat} {F : Nat → Nat} {done : List (Nat × Nat)} (h : At_ w wr v al la n i F done) (hl : lastOf done 8 = last) (hs : Same (fun j => F (i + j)) (n - i) r) (nx : Nxt F i last s k) (hk : k ≤ r)
    (row : Rw w v' (n - (i + k)) (fun j => F (i + k + j))) (hla : la' = .int .i64 (if F i = 0 then last else F i : Nat)) (sto : Sto w w' al' (done ++ [(s, k - bas s)])) : At_ w w' v' al' la' n (i + k) F (done ++ [(s, k - bas s)]) := by
  have h1 := hs.le
  have h2 := h.le
  refine ⟨by omega, row, ?_, sto, fun x hx => ?_, told_nxt h.told hl hs nx hk⟩
  · rw [hla, last_nxt hl nx]
  · rcases List.mem_append.1 hx with hx | hx
    · exact h.fair x hx
    · rw [List.mem_singleton] at hx
      subst hx
      exact ⟨nx.lt, nx.x⟩
/-- What stepsOf answers. -/
structure Stps (w : World) (n : Nat) (F : Nat → Nat) (e : Ending) (w' : World) : Prop where
  ex : ∃ u l, e = .returned u ∧ Sts w' u l ∧ StepsOk l ∧ told l 8 = pre F n ∧ Below w.heap.size w w'
set_option maxRecDepth 20000 in
set_option maxHeartbeats 2000000 in
theorem steps38 (v : Value) (n : Nat) (F : Nat → Nat) (hn : n ≤ 100000) (h15 : ∀ k, k < n → F k ≤ 15) (w : World) (src : Rw w v n F) :
    Calls Tryd.prog 38 #[v] w fun e w' => Stps w n F e w' := by
  have SRC := hide src
  obtain ⟨b, off, cap, rfl, _⟩ := src
  have H15 := hide h15
  obtain ⟨i0, hi0, hz0, hz1, hz2⟩ := info_parts info87
  clear h15
  go_enter Tryd.func38, Tryd.ntmps38
  go_wp2
  go_loopw [0, 3, 4] (fun v al la wr => ∃ (i : Nat) (done : List (Nat × Nat)), At_ w wr v al la n i F done) (fun v _ _ _ => vl v)
  case atStart => exact ⟨0, [], Nat.zero_le _, by simpa using unhide SRC, rfl, ⟨World.ownsRow_nil _ _ _ _, Below.refl _ w⟩, fun x hx => by simp at hx, rfl⟩
  case round =>
    clear SRC
    obtain ⟨i, done, at_⟩ := hrel
    have AT := hide at_
    obtain ⟨b, off, cap, rfl, hcap, hbw, hcells⟩ := at_.row
    obtain ⟨last, hlast⟩ : ∃ last, lastOf done 8 = last := ⟨_, rfl⟩
    obtain rfl : _ = _ := at_.last
    rw [hlast]
    have hla0 : last ≠ 0 := by rw [← hlast]; exact Rsc.last_ne done 8 (by omega)
    have hin := at_.le
    by_cases hlt : i < n
    · obtain ⟨r, hr⟩ := same_ex (fun j => F (i + j)) (n - i) (by omega)
      have RW := hide at_.row
      obtain ⟨m, hm⟩ : ∃ m, n - i = m := ⟨_, rfl⟩
      rw [hm] at hr RW hcap hcells
      rw [hm]
      have hm0 : (0 : Int) < (m : Int) := by omega
      have SY := hide (symbol50 _ m r last (fun j => F (i + j)) (by omega) hr hla0 wr ((unhide RW).ints.keep at_.sto.bel))
      have RUN := hide (fun (W : World) (B : Below w.heap.size w W) => run51 _ m r (fun j => F (i + j)) (by omega) hr W ((unhide RW).ints.keep B))
      have hsy : sy ((fun j => F (i + j)) 0) last r = sy (F i) last r := rfl
      rw [hsy] at SY
      obtain ⟨k, hk⟩ : ∃ k, k = min r (bas (sy (F i) last r) + 2 ^ wid (sy (F i) last r) - 1) := ⟨_, rfl⟩
      have NX := hide (nxt (unhide H15 i hlt) hla0 hr.pos hk)
      have HS := hide hr
      have hr1 := hr.pos
      have hr2 := hr.le
      have LA := hide hlast
      have BEL := hide at_.sto.bel
      have HM := hide hm
      have HC := hide hcells
      have hdl : done.length ≤ n := by
        have h1 := told_len done 8
        rw [at_.told, pre_len] at h1
        omega
      clear at_ hcells hr hsy hlast hm
      generalize sy (F i) last r = s at *
      have hsl := (unhide NX).lt
      have hkl := (unhide NX).low
      have TM := hide (times49 s)
      have hb1 := bas_le s
      have hb2 := bas_pos s
      have hw := wid_le s
      generalize hbs : bas s = bs at *
      have HBS := hide hbs
      clear hbs
      generalize wid s = ws at *
      obtain ⟨P, hP, hP2⟩ : ∃ P : Nat, wrap64 ((2 : Int) ^ ws) = (P : Int) ∧ P = 2 ^ ws := ⟨2 ^ ws, by
        have h1 : 2 ^ ws ≤ 2 ^ 15 := Nat.pow_le_pow_right (by omega) (by omega)
        have e : ((2 ^ ws : Nat) : Int) = (2 : Int) ^ ws := by simp
        rw [← e]
        generalize 2 ^ ws = z at *
        simp [wrap64]
        omega, rfl⟩
      have hP3 : P ≤ 128 := by
        rw [hP2]
        have : 2 ^ ws ≤ 2 ^ 7 := Nat.pow_le_pow_right (by omega) hw
        omega
      have hP4 : 1 ≤ P := by rw [hP2]; exact Nat.pow_pos (by omega)
      have hk' : k = min r (bs + P - 1) := by rw [hP2]; exact hk
      have HK := hide hk'
      clear hk hP2 hk'
      go_wp2_with fail
      refine (unhide SY).mono ?_
      rintro e w1 ⟨rfl, b1⟩
      have B1 := hide b1
      clear b1 SY
      go_wp2_with fail
      refine (unhide TM w1).mono ?_
      rintro e w2 ⟨rfl, rfl⟩
      have BW := hide ((unhide BEL).trans ((unhide B1).mono (unhide BEL).size))
      have RQ := hide (fun q => unhide RUN (w2.drewN q) (show Below w.heap.size w (w2.drewN q) from ⟨(unhide BW).os, (unhide BW).tape, (unhide BW).output, (unhide BW).size, (unhide BW).block⟩))
      obtain ⟨mx, hmx⟩ : ∃ mx, bs + P - 1 = mx := ⟨_, rfl⟩
      have emx : (bs : Int) + (P : Int) - 1 = (mx : Int) := by omega
      obtain ⟨x, hx⟩ : ∃ x, k - bs = x := ⟨_, rfl⟩
      have ekb : (k : Int) - (bs : Int) = (x : Int) := by omega
      have HX := hide hx
      have h0 : w.cell? ⟨b, off, none⟩ = some (.int .i64 ((F i : Nat) : Int)) := by simpa using unhide HC 0 (by omega)
      have H0 := hide h0
      have STO := hide ((unhide AT).sto.below (unhide B1))
      clear hx h0
      by_cases hmr : mx < r
      · obtain rfl : k = mx := by have := unhide HK; omega
        have hmr' : (k : Int) < (r : Int) := by omega
        clear hmx
        go_wp2
        go_quiet ((go_at_call 51; exact Calls.quiet_of (unhide RQ _)))
        have STQ := hide ((unhide STO).below (show Below w2.heap.size w2 (w2.drewN nq) from ⟨rfl, rfl, rfl, Nat.le_refl _, fun _ _ => rfl⟩))
        have DONE := hide (fun (v' al' la' : Value) (w' : World) (st : Sto w w' al' (done ++ [(s, x)])) (hla : la' = .int .i64 (if F i = 0 then last else F i : Nat)) (row : Rw w v' (m - k) (fun j => F (i + (k + j)))) => show ∃ (i : Nat) (done : List (Nat × Nat)), At_ w w' v' al' la' n i F done from
          ⟨i + k, done ++ [(s, k - bas s)], (unhide AT).next (unhide LA) (by rw [unhide HM]; exact unhide HS) (unhide NX) (by omega) (by have := unhide HM; rw [show n - (i + k) = m - k by omega]; exact row.congr (fun j _ => by rw [Nat.add_assoc])) hla (by rw [unhide HBS, unhide HX]; exact st)⟩)
        clear STO RQ RUN BW B1
        generalize w2.drewN nq = wq at *
        generalize hFi : F i = Fi at *
        clear hFi
        by_cases hF : Fi = 0
        · have hF' : (((Fi : Nat) : Int) != 0) = false := by simp [hF]
          have ELA := hide (show Value.int IntKind.i64 ((last : Nat) : Int) = .int .i64 (if Fi = 0 then last else Fi : Nat) by rw [if_pos hF])
          have hck : ¬ cap = k := by omega
          have RT := hide (Rw.tail (F := fun j => F (i + j)) (m := k) hcap hbw (unhide HC) (by omega))
          go_wp2_with (first | (at_builtin; refine wpList_append_own _ rfl (.tmp 28) (.tmp 34) 75 rfl w.heap.size 87 i0 _ 2 16 Tryd.underlying75 hi0 hz0 hz1 hz2 rfl (by decide) _ done.length (scells done) rfl ((unhide STQ).own.alloc _) ⟨wq.heap.size, 0, none⟩ 1 1 (scells [(s, x)]) rfl (scells_len _) (st_src _ _) (scells_one _) (by unfold maxLen; omega) (by omega) (by have := (unhide STQ).bel.size; simp; omega) ?_; intro v1 w3 own1 gr1 _; have ST1 := hide ((unhide STQ).app own1 gr1); have e3 := ((unhide ST1).bel.cell (p := ⟨b, off, none⟩) hbw).trans (unhide H0); clear own1 gr1) | fail)
          go_roundw
          case rel => exact unhide DONE _ _ _ _ (unhide ST1) (unhide ELA) (unhide RT)
          case measure => simp [vl]; omega
        · have hF' : (((Fi : Nat) : Int) != 0) = true := by simp [hF]
          have ELA := hide (show Value.int IntKind.i64 ((Fi : Nat) : Int) = .int .i64 (if Fi = 0 then last else Fi : Nat) by rw [if_neg hF])
          have hck : ¬ cap = k := by omega
          have RT := hide (Rw.tail (F := fun j => F (i + j)) (m := k) hcap hbw (unhide HC) (by omega))
          go_wp2_with (first | (at_builtin; refine wpList_append_own _ rfl (.tmp 28) (.tmp 34) 75 rfl w.heap.size 87 i0 _ 2 16 Tryd.underlying75 hi0 hz0 hz1 hz2 rfl (by decide) _ done.length (scells done) rfl ((unhide STQ).own.alloc _) ⟨wq.heap.size, 0, none⟩ 1 1 (scells [(s, x)]) rfl (scells_len _) (st_src _ _) (scells_one _) (by unfold maxLen; omega) (by omega) (by have := (unhide STQ).bel.size; simp; omega) ?_; intro v1 w3 own1 gr1 _; have ST1 := hide ((unhide STQ).app own1 gr1); have e3 := ((unhide ST1).bel.cell (p := ⟨b, off, none⟩) hbw).trans (unhide H0); clear own1 gr1) | fail)
          go_roundw
          case rel => exact unhide DONE _ _ _ _ (unhide ST1) (unhide ELA) (unhide RT)
          case measure => simp [vl]; omega
      · obtain rfl : k = r := by have := unhide HK; omega
        have hmr' : ¬ (mx : Int) < (k : Int) := by omega
        clear hmx
        go_wp2
        go_quiet ((go_at_call 51; exact Calls.quiet_of (unhide RQ _)))
        have STQ := hide ((unhide STO).below (show Below w2.heap.size w2 (w2.drewN nq) from ⟨rfl, rfl, rfl, Nat.le_refl _, fun _ _ => rfl⟩))
        have DONE := hide (fun (v' al' la' : Value) (w' : World) (st : Sto w w' al' (done ++ [(s, x)])) (hla : la' = .int .i64 (if F i = 0 then last else F i : Nat)) (row : Rw w v' (m - k) (fun j => F (i + (k + j)))) => show ∃ (i : Nat) (done : List (Nat × Nat)), At_ w w' v' al' la' n i F done from
          ⟨i + k, done ++ [(s, k - bas s)], (unhide AT).next (unhide LA) (by rw [unhide HM]; exact unhide HS) (unhide NX) (by omega) (by have := unhide HM; rw [show n - (i + k) = m - k by omega]; exact row.congr (fun j _ => by rw [Nat.add_assoc])) hla (by rw [unhide HBS, unhide HX]; exact st)⟩)
        clear STO RQ RUN BW B1
        generalize w2.drewN nq = wq at *
        generalize hFi : F i = Fi at *
        clear hFi
        by_cases hF : Fi = 0
        · have hF' : (((Fi : Nat) : Int) != 0) = false := by simp [hF]
          have ELA := hide (show Value.int IntKind.i64 ((last : Nat) : Int) = .int .i64 (if Fi = 0 then last else Fi : Nat) by rw [if_pos hF])
          by_cases hck : cap = k
          · subst hck
            obtain rfl : m = cap := by omega
            have RN := hide (show Rw w (.slice (some ⟨b, off, none⟩) 0 0) (m - m) (fun j => F (i + (m + j))) from ⟨b, off, 0, by rw [Nat.sub_self], by omega, hbw, fun i hi => by omega⟩)
            go_wp2_with (first | (at_builtin; refine wpList_append_own _ rfl (.tmp 28) (.tmp 34) 75 rfl w.heap.size 87 i0 _ 2 16 Tryd.underlying75 hi0 hz0 hz1 hz2 rfl (by decide) _ done.length (scells done) rfl ((unhide STQ).own.alloc _) ⟨wq.heap.size, 0, none⟩ 1 1 (scells [(s, x)]) rfl (scells_len _) (st_src _ _) (scells_one _) (by unfold maxLen; omega) (by omega) (by have := (unhide STQ).bel.size; simp; omega) ?_; intro v1 w3 own1 gr1 _; have ST1 := hide ((unhide STQ).app own1 gr1); have e3 := ((unhide ST1).bel.cell (p := ⟨b, off, none⟩) hbw).trans (unhide H0); clear own1 gr1) | fail)
            go_roundw
            case rel => exact unhide DONE _ _ _ _ (unhide ST1) (unhide ELA) (unhide RN)
            case measure => simp [vl]; omega
          · have RT := hide (Rw.tail (F := fun j => F (i + j)) (m := k) hcap hbw (unhide HC) (by omega))
            go_wp2_with (first | (at_builtin; refine wpList_append_own _ rfl (.tmp 28) (.tmp 34) 75 rfl w.heap.size 87 i0 _ 2 16 Tryd.underlying75 hi0 hz0 hz1 hz2 rfl (by decide) _ done.length (scells done) rfl ((unhide STQ).own.alloc _) ⟨wq.heap.size, 0, none⟩ 1 1 (scells [(s, x)]) rfl (scells_len _) (st_src _ _) (scells_one _) (by unfold maxLen; omega) (by omega) (by have := (unhide STQ).bel.size; simp; omega) ?_; intro v1 w3 own1 gr1 _; have ST1 := hide ((unhide STQ).app own1 gr1); have e3 := ((unhide ST1).bel.cell (p := ⟨b, off, none⟩) hbw).trans (unhide H0); clear own1 gr1) | fail)
            go_roundw
            case rel => exact unhide DONE _ _ _ _ (unhide ST1) (unhide ELA) (unhide RT)
            case measure => simp [vl]; omega
        · have hF' : (((Fi : Nat) : Int) != 0) = true := by simp [hF]
          have ELA := hide (show Value.int IntKind.i64 ((Fi : Nat) : Int) = .int .i64 (if Fi = 0 then last else Fi : Nat) by rw [if_neg hF])
          by_cases hck : cap = k
          · subst hck
            obtain rfl : m = cap := by omega
            have RN := hide (show Rw w (.slice (some ⟨b, off, none⟩) 0 0) (m - m) (fun j => F (i + (m + j))) from ⟨b, off, 0, by rw [Nat.sub_self], by omega, hbw, fun i hi => by omega⟩)
            go_wp2_with (first | (at_builtin; refine wpList_append_own _ rfl (.tmp 28) (.tmp 34) 75 rfl w.heap.size 87 i0 _ 2 16 Tryd.underlying75 hi0 hz0 hz1 hz2 rfl (by decide) _ done.length (scells done) rfl ((unhide STQ).own.alloc _) ⟨wq.heap.size, 0, none⟩ 1 1 (scells [(s, x)]) rfl (scells_len _) (st_src _ _) (scells_one _) (by unfold maxLen; omega) (by omega) (by have := (unhide STQ).bel.size; simp; omega) ?_; intro v1 w3 own1 gr1 _; have ST1 := hide ((unhide STQ).app own1 gr1); have e3 := ((unhide ST1).bel.cell (p := ⟨b, off, none⟩) hbw).trans (unhide H0); clear own1 gr1) | fail)
            go_roundw
            case rel => exact unhide DONE _ _ _ _ (unhide ST1) (unhide ELA) (unhide RN)
            case measure => simp [vl]; omega
          · have RT := hide (Rw.tail (F := fun j => F (i + j)) (m := k) hcap hbw (unhide HC) (by omega))
            go_wp2_with (first | (at_builtin; refine wpList_append_own _ rfl (.tmp 28) (.tmp 34) 75 rfl w.heap.size 87 i0 _ 2 16 Tryd.underlying75 hi0 hz0 hz1 hz2 rfl (by decide) _ done.length (scells done) rfl ((unhide STQ).own.alloc _) ⟨wq.heap.size, 0, none⟩ 1 1 (scells [(s, x)]) rfl (scells_len _) (st_src _ _) (scells_one _) (by unfold maxLen; omega) (by omega) (by have := (unhide STQ).bel.size; simp; omega) ?_; intro v1 w3 own1 gr1 _; have ST1 := hide ((unhide STQ).app own1 gr1); have e3 := ((unhide ST1).bel.cell (p := ⟨b, off, none⟩) hbw).trans (unhide H0); clear own1 gr1) | fail)
            go_roundw
            case rel => exact unhide DONE _ _ _ _ (unhide ST1) (unhide ELA) (unhide RT)
            case measure => simp [vl]; omega
    · obtain rfl : i = n := by omega
      have hn0 : i - i = 0 := by omega
      rw [hn0]
      have FIN := hide (show ∃ u l, Value.slice none 0 0 = Value.slice none 0 0 ∧ u3 = u ∧ Sts wr u l ∧ StepsOk l ∧ told l 8 = pre F i ∧ Below w.heap.size w wr from ⟨_, done, rfl, rfl, at_.sto.sts, at_.fair, at_.told, at_.sto.bel⟩)
      clear at_
      go_wp2
      go_ret
      obtain ⟨u, l, _, h1, h2⟩ := unhide FIN
      exact ⟨_, l, rfl, h1 ▸ h2⟩
end Go.Proofs.YtaidboopcoaeeaaDoor.Wsf

namespace Go.Proofs.YtaidboopcoaeeaaDoor.Wsg
open Go.ChangeShapes Go.WideShapes Go.ChangeAt Go.RowKit Go.Proofs.YtaidboopcoaeeaaDoor.Core Go.Proofs.YtaidboopcoaeeaaDoor.Gnd Go.Proofs.YtaidboopcoaeeaaDoor.Math Go.Proofs.YtaidboopcoaeeaaDoor.Dec Go.Proofs.YtaidboopcoaeeaaDoor.Ord Go.Proofs.YtaidboopcoaeeaaDoor.Lsp Go.Proofs.YtaidboopcoaeeaaDoor.Foot Go.Proofs.YtaidboopcoaeeaaDoor.Add Go.Proofs.YtaidboopcoaeeaaDoor.Wri Go.Proofs.YtaidboopcoaeeaaDoor.Wra

/-- A writer, as it was in w and as it is now. -/
structure Tw (w : World) (gw : Nat) (u : Value) (V0 N0 : Nat) (wr : World) (u' : Value) (V N : Nat) : Prop where
  base : Wr w gw u V0 N0
  wri : Wr wr gw u' V N
  turn : Turn gw u u' (N0 / 8) w wr
  le : N0 ≤ N
theorem Tw.refl {w : World} {gw : Nat} {u : Value} {V N : Nat} (h : Wr w gw u V N) : Tw w gw u V N w u V N := ⟨h, h, Turn.refl _ _ _ _, Nat.le_refl _⟩
theorem Tw.put {w wr w' : World} {gw : Nat} {u u1 u2 : Value} {V0 N0 V N V' N' : Nat} (h : Tw w gw u V0 N0 wr u1 V N) (hw : Wr w' gw u2 V' N') (t : Turn gw u1 u2 (N / 8) wr w') (hN : N ≤ N') : Tw w gw u V0 N0 w' u2 V' N' :=
  ⟨h.base, hw, h.turn.trans t (by have := h.le; omega) h.base.raw.ne (fun b hb => (h.base.raw.own.lt b hb).2), by have := h.le; omega⟩
theorem turn_below {w w' : World} (g : Nat) (v : Value) (n : Nat) (b : Below w.heap.size w w') (hlt : ∀ b, v.ownBlock = some b → b < w.heap.size) : Turn g v v n w w' :=
  ⟨Upd.ofBelow b, fun _ h => .inl h, fun c k hb _ => b.cell (p := ⟨c, k, none⟩) (hlt c hb)⟩
theorem Tw.below {w wr w' : World} {gw : Nat} {u u1 : Value} {V0 N0 V N : Nat} (h : Tw w gw u V0 N0 wr u1 V N) (b : Below wr.heap.size wr w') : Tw w gw u V0 N0 w' u1 V N :=
  h.put (h.wri.keep (Upd.ofBelow (S := fun _ => False) b) (fun _ _ h => h)) (turn_below _ _ _ b (fun c hc => (h.wri.raw.own.lt c hc).2)) (Nat.le_refl _)
theorem Tw.ft {w wr : World} {gw : Nat} {u u1 : Value} {V0 N0 V N : Nat} (h : Tw w gw u V0 N0 wr u1 V N) (b : Nat) (hb : Ft gw u1 b) : Ft gw u b ∨ w.heap.size ≤ b := by
  rcases hb with rfl | hb
  · exact .inl (.inl rfl)
  · rcases h.turn.stays.foot b hb with h1 | h1
    · exact .inl (.inr h1)
    · exact .inr h1
theorem Tw.trans {w w1 w2 : World} {gw : Nat} {u u1 u2 : Value} {V0 N0 V1 N1 V2 N2 : Nat} (h : Tw w gw u V0 N0 w1 u1 V1 N1) (k : Tw w1 gw u1 V1 N1 w2 u2 V2 N2) : Tw w gw u V0 N0 w2 u2 V2 N2 :=
  h.put k.wri k.turn k.le
theorem Tw.nw {H : Nat} {w0 w wr : World} {gw : Nat} {u u1 : Value} {V0 N0 V N : Nat} (h : Nw H w0 w gw u V0 N0) (k : Tw w gw u V0 N0 wr u1 V N) : Nw H w0 wr gw u1 V N := h.put k.wri k.turn
theorem tw_bits {w wr : World} {gw : Nat} {u u1 : Value} {V0 N0 V N : Nat} (h : Tw w gw u V0 N0 wr u1 V N) (v n : Nat) (hn : n ≤ 32) (hv : v < 2 ^ n) (hN : N ≤ 1000000) :
    Calls Tryd.prog 11 #[.pointer (some ⟨gw, 0, none⟩), .int .u32 v, .int .i64 n] wr fun e w' => e = .returned (.bool true) ∧ ∃ u2, Tw w gw u V0 N0 w' u2 (V + v * 2 ^ N) (N + n) := by
  refine (bits_yes gw u1 V N v n wr h.wri hn hv hN).mono ?_
  rintro e w' ⟨rfl, u2, hw, t⟩
  exact ⟨rfl, u2, h.put hw t (by omega)⟩
/-- What putCount writes. -/
structure Pc (w : World) (gw : Nat) (u : Value) (V N n : Nat) (e : Ending) (w' : World) : Prop where
  ex : ∃ k u', e = .returned (.tuple #[]) ∧ Tw w gw u V N w' u' (V + 1 * 2 ^ N + k * 2 ^ (N + 1) + (n - 2) * 2 ^ (N + 1 + 3)) (N + 1 + 3 + (2 + 2 * k)) ∧ k < 8 ∧ n - 2 < 2 ^ (2 + 2 * k)
set_option maxHeartbeats 1000000 in
theorem count47 (gw : Nat) (u : Value) (V N n : Nat) (w : World) (h : Wr w gw u V N) (hN : N ≤ 900000) (h2 : 2 ≤ n) (hn : n ≤ 4098) :
    Calls Tryd.prog 47 #[.pointer (some ⟨gw, 0, none⟩), .int .i64 n] w fun e w' => Pc w gw u V N n e w' := by
  have T0 := hide (Tw.refl h)
  obtain ⟨m, hm⟩ : ∃ m, n - 2 = m := ⟨_, rfl⟩
  have en2 : (n : Int) - 2 = (m : Int) := by omega
  have HM := hide hm
  have hm4 : m ≤ 4096 := by omega
  clear h hm
  go_enter Tryd.func47, Tryd.ntmps47
  go_wp2
  go_loopw [4] (fun x wr => ∃ k : Nat, x = .int .i64 k ∧ k ≤ 6 ∧ wr = w) (fun x _ => 7 - (intOf x).toNat)
  case atStart => exact ⟨0, rfl, by omega, rfl⟩
  case round =>
    obtain ⟨k, rfl, hk, rfl⟩ := hrel
    obtain ⟨kk, hkk⟩ : ∃ kk, 2 + 2 * k = kk := ⟨_, rfl⟩
    have ekk : (2 : Int) + 2 * (k : Int) = (kk : Int) := by omega
    obtain ⟨P, hP, hP2⟩ : ∃ P : Nat, wrap64 ((2 : Int) ^ kk) = (P : Int) ∧ P = 2 ^ kk := ⟨2 ^ kk, by
      have h1 : 2 ^ kk ≤ 2 ^ 15 := Nat.pow_le_pow_right (by omega) (by omega)
      have e : ((2 ^ kk : Nat) : Int) = (2 : Int) ^ kk := by simp
      rw [← e]
      generalize 2 ^ kk = z at *
      simp [wrap64]
      omega, rfl⟩
    have HP := hide hP2
    have HKK := hide hkk
    by_cases hge : P ≤ m
    · have hge' : decide (P ≤ m) = true := decide_eq_true hge
      have hge2 : (P : Int) ≤ (m : Int) := by omega
      have hk6 : k < 6 := by
        rcases Nat.lt_or_ge k 6 with h | h
        · exact h
        · have : 2 ^ 14 ≤ 2 ^ kk := Nat.pow_le_pow_right (by omega) (by omega)
          omega
      clear hP2 hkk
      go_wp2
      go_roundw
      case rel => exact ⟨k + 1, by go_num, by omega, by first | rfl | trivial⟩
      case measure => simp [intOf]; omega
    · have hge' : decide (P ≤ m) = false := decide_eq_false hge
      have hge2 : ¬ (P : Int) ≤ (m : Int) := by omega
      have hk' : (k : Int) ≤ 6 := by omega
      have hm' : (m : Int) ≤ 4096 := by omega
      clear hP2 hkk
      go_wp2_with fail
      refine (tw_bits (unhide T0) 1 1 (by omega) (by omega) (by omega)).mono ?_
      rintro e w1 ⟨rfl, u1, t1⟩
      have T1 := hide t1
      clear t1 T0
      go_wp2_with fail
      refine (tw_bits (unhide T1) k 3 (by omega) (by omega) (by omega)).mono ?_
      rintro e w2 ⟨rfl, u2, t2⟩
      have T2 := hide t2
      clear t2 T1
      go_wp2_with fail
      refine (tw_bits (unhide T2) m kk (by have := unhide HKK; omega) (by have := unhide HP; omega) (by omega)).mono ?_
      rintro e w3 ⟨rfl, u3, t3⟩
      have T3 := hide t3
      clear t3 T2
      go_wp2
      go_end0
      have h1 := unhide HM
      have h2 := unhide HKK
      have h3 := unhide HP
      refine ⟨k, u3, rfl, ?_, by omega, ?_⟩
      · rw [h1, h2]; exact unhide T3
      · rw [h1, h2]; omega
end Go.Proofs.YtaidboopcoaeeaaDoor.Wsg

namespace Go.Proofs.YtaidboopcoaeeaaDoor.Rse
open Go.ChangeShapes Go.WideShapes Go.ChangeAt Go.RowKit Go.Proofs.YtaidboopcoaeeaaDoor.Core Go.Proofs.YtaidboopcoaeeaaDoor.Gnd Go.Proofs.YtaidboopcoaeeaaDoor.Math Go.Proofs.YtaidboopcoaeeaaDoor.Bitin Go.Proofs.YtaidboopcoaeeaaDoor.Eyes Go.Proofs.YtaidboopcoaeeaaDoor.Dec Go.Proofs.YtaidboopcoaeeaaDoor.Ord Go.Proofs.YtaidboopcoaeeaaDoor.Lsp Go.Proofs.YtaidboopcoaeeaaDoor.Tre Go.Proofs.YtaidboopcoaeeaaDoor.Trr Go.Proofs.YtaidboopcoaeeaaDoor.Rsa Go.Proofs.YtaidboopcoaeeaaDoor.Rsb

/-- The order, where the program's variable lies. -/
def Ordr (w : World) : Prop := ∀ j, j < 19 → w.cell? ⟨0, j, none⟩ = some (.int .i64 (ord j))
theorem Ordr.keep {S : Nat → Prop} {w w' : World} (h : Ordr w) (u : Upd S w w') (hs : ¬ S 0) : Ordr w' := fun j hj => (u.cell (p := ⟨0, j, none⟩) (lt_of_cell (h j hj)) hs).trans (h j hj)
theorem Ordr.below {w w' : World} (h : Ordr w) (u : Below w.heap.size w w') : Ordr w' := h.keep (Upd.ofBelow (S := fun _ => False) u) (fun h => h)
theorem items (h : Nat → Nat) (d : Nat) (w : World) : ∀ is : List Nat, (∀ i ∈ is, i < 19) → (Op.eqItems (d + 1) 3 1 (nr h 19).toArray (nr (fun _ => 0) 19).toArray is).run Tryd.prog w = .ok (is.all fun i => (h i : Int) == 0) w
  | [], _ => by simp [Op.eqItems]
  | i :: is, hi => by
    have h1 := run_part_plain w (P := Tryd.prog) (e := 3) (by kernel_rfl) (xs := (nr h 19).toArray) (off := i * 1) (v := .int .i64 (h i)) (by rw [Nat.mul_one]; exact na_at _ _ _ (hi i (by simp)))
    have h2 := run_part_plain w (P := Tryd.prog) (e := 3) (by kernel_rfl) (xs := (nr (fun _ => 0) 19).toArray) (off := i * 1) (v := .int .i64 ((0 : Nat) : Int)) (by rw [Nat.mul_one]; exact na_at _ _ _ (hi i (by simp)))
    have ih := items h d w is (fun j hj => hi j (by simp [hj]))
    have h3 : (Op.equalIn (d + 1) 3 (.int .i64 (h i)) (.int .i64 ((0 : Nat) : Int))).run Tryd.prog w = .ok ((h i : Int) == ((0 : Nat) : Int)) w := run_equalIn_int w d 3 .i64 .i64 _ _ Tryd.underlying3
    simp only [Op.eqItems, Sem.run_bind, h1, h2, h3, Result.andThen_ok, List.all_cons]
    by_cases hz : (h i : Int) == ((0 : Nat) : Int)
    · have hz' : ((h i : Int) == 0) = true := hz
      rw [hz, hz', Bool.true_and]
      simpa using ih
    · have hz' : ((h i : Int) == 0) = false := by simpa using hz
      rw [hz', Bool.false_and, show ((h i : Int) == ((0 : Nat) : Int)) = false from hz']
      simp
theorem eql19 (h : Nat → Nat) (s : Nat) (hs : s < 19) (h0 : h s ≠ 0) (w : World) : (Op.equalIn 10000 96 (.agg (nr h 19).toArray) (.agg #[.int .i64 0, .int .i64 0, .int .i64 0, .int .i64 0, .int .i64 0, .int .i64 0, .int .i64 0, .int .i64 0, .int .i64 0, .int .i64 0, .int .i64 0, .int .i64 0, .int .i64 0, .int .i64 0, .int .i64 0, .int .i64 0, .int .i64 0, .int .i64 0, .int .i64 0])).run Tryd.prog w = .ok false w := by
  show (Op.equalIn 10000 96 (.agg (nr h 19).toArray) (.agg (nr (fun _ => 0) 19).toArray)).run Tryd.prog w = .ok false w
  obtain ⟨i0, hi0, _⟩ := info_parts Ord.info3
  rw [run_equalIn_array w 9999 _ _ Tryd.underlying96 hi0, show Tryd.prog.cellsOf 3 = 1 by kernel_rfl, items h 9998 w (List.range 19) (fun i hi => by simpa using hi)]
  have : ((List.range 19).all fun i => (h i : Int) == 0) = false := by
    rw [List.all_eq_false]
    exact ⟨s, by simpa using hs, by simp; omega⟩
  rw [this]
theorem zero19 : (#[.int .i64 0, .int .i64 0, .int .i64 0, .int .i64 0, .int .i64 0, .int .i64 0, .int .i64 0, .int .i64 0, .int .i64 0, .int .i64 0, .int .i64 0, .int .i64 0, .int .i64 0, .int .i64 0, .int .i64 0, .int .i64 0, .int .i64 0, .int .i64 0, .int .i64 0] : Array Value) = (nr (fun _ => 0) 19).toArray := rfl
end Go.Proofs.YtaidboopcoaeeaaDoor.Rse

namespace Go.Proofs.YtaidboopcoaeeaaDoor.Rsf
open Go.ChangeShapes Go.WideShapes Go.ChangeAt Go.RowKit Go.Proofs.YtaidboopcoaeeaaDoor.Core Go.Proofs.YtaidboopcoaeeaaDoor.Gnd Go.Proofs.YtaidboopcoaeeaaDoor.Math Go.Proofs.YtaidboopcoaeeaaDoor.Bitin Go.Proofs.YtaidboopcoaeeaaDoor.Eyes Go.Proofs.YtaidboopcoaeeaaDoor.Dec Go.Proofs.YtaidboopcoaeeaaDoor.Ord Go.Proofs.YtaidboopcoaeeaaDoor.Lsp Go.Proofs.YtaidboopcoaeeaaDoor.Tre Go.Proofs.YtaidboopcoaeeaaDoor.Trr Go.Proofs.YtaidboopcoaeeaaDoor.Rsa Go.Proofs.YtaidboopcoaeeaaDoor.Rsb Go.Proofs.YtaidboopcoaeeaaDoor.Rse

/-- The source, the code of lengths so far, the order. -/
structure Sh (w wr : World) (rl rh r bl : Nat) (bc : Nat → Nat) (i s b n N : Nat) (h : Nat → Nat) : Prop where
  so : So wr rl rh r bl bc (some i) s b n 0 8 (fun _ => 0)
  row : Box wr N 96 (nr h 19).toArray
  ord : Ordr wr
  upd : Upd (fun k => k = r) w wr
  ne : N = w.heap.size ∧ s < N ∧ b < N ∧ 0 < rl
theorem Sh.num {w wr w' : World} {rl rh r bl i j s b n N : Nat} {bc h : Nat → Nat} (x : Sh w wr rl rh r bl bc i s b n N h) (so : So w' rl rh r bl bc (some j) s b n 0 8 (fun _ => 0)) (u : Upd (fun k => k = r) wr w') : Sh w w' rl rh r bl bc j s b n N h :=
  ⟨so, x.row.keep u (by have := x.ne; have := x.so.ne; omega), x.ord.keep u (by have := x.ne; have := x.so.ne; omega), x.upd.trans u, x.ne⟩
theorem Sh.drewN {w wr : World} {rl rh r bl i s b n N : Nat} {bc h : Nat → Nat} (x : Sh w wr rl rh r bl bc i s b n N h) (k : Nat) : Sh w (wr.drewN k) rl rh r bl bc i s b n N h :=
  ⟨x.so.drewN k, x.row.drewN k, x.ord.keep ((Upd.refl (fun _ => False) wr).drewN k) (fun h => h), x.upd.drewN k, x.ne⟩
theorem Sh.put {w wr : World} {rl rh r bl i s b n N : Nat} {bc h : Nat → Nat} (x : Sh w wr rl rh r bl bc i s b n N h) (k z : Nat) (h' : Nat → Nat) (hh : ∀ j, j < 19 → h' j = if j = k then z else h j) : Sh w (wr.setCell ⟨N, k, none⟩ (.int .i64 z)) rl rh r bl bc i s b n N h' := by
  have hne := x.ne
  have hs := x.so.ne
  have u : Upd (fun k => k = N) wr (wr.setCell ⟨N, k, none⟩ (.int .i64 z)) := (Upd.refl (fun k => k = N) wr).setCell (p := ⟨N, k, none⟩) rfl _
  refine ⟨x.so.keep u (fun k hk => by subst hk; omega), ?_, x.ord.keep u (by omega), upd_new x.upd (p := ⟨N, k, none⟩) (by show _ ≤ N; omega) _, hne⟩
  have h1 := x.row.set k (.int .i64 z)
  rw [na_set, ← na_congr (f := h') (fun j hj => hh j hj)] at h1
  exact h1
theorem chk_some {c : Nat → Int} {n : Nat} (h : chk c n = 0) : ∃ k, k < n ∧ c k ≠ 0 := by
  obtain ⟨_, h1 | h1, _⟩ := chk_zero h
  · exact many_pos c n (by omega)
  · exact kr_pos c n (by omega)
theorem info96 (f : Nat → Nat) : (Tryd.prog.info? 96).map (·.size) = some (nr f 19).toArray.size := by
  rw [na_size]
  kernel_rfl
theorem ints_row {w : World} {g n cap T : Nat} {f : Nat → Nat} (h : Box w g T (nr f n).toArray) : Ints .i64 w (.slice (some ⟨g, 0, none⟩) n cap) n (fun k => (f k : Int)) :=
  ⟨_, _, rfl, fun i hi => ⟨g, 0, rfl, by rw [Nat.zero_add]; exact (h.cell i).trans (na_at _ _ _ hi)⟩⟩
set_option maxRecDepth 20000 in
set_option maxHeartbeats 2000000 in
theorem short42 (rl rh r bl s b n i K : Nat) (bc : Nat → Nat) (hc : ∀ k, bc k ≤ 255) (hbl : bl ≤ 100000) (w : World) (h : So w rl rh r bl bc (some i) s b n 0 8 (fun _ => 0)) (od : Ordr w) (hrl : 0 < rl)
    (cnt : nb (num bc 0 bl) i 4 + 4 = K) (lim : K ≤ 19) (hch : chk (fun s => (cl (num bc 0 bl) (i + 4) K s : Int)) 19 = 0) (hq : i + 4 + 3 * K ≤ 8 * bl) :
    Calls Tryd.prog 42 #[.pointer (some ⟨s, 0, none⟩)] w fun e w' => ∃ g lo, e = .returned (.tuple #[.pointer (some ⟨g, 0, none⟩), .int .i64 0]) ∧ w.heap.size ≤ lo ∧ Tr w' lo w'.heap.size g (fun s => (cl (num bc 0 bl) (i + 4) K s : Int)) 19 ∧ So w' rl rh r bl bc (some (i + 4 + 3 * K)) s b n 0 8 (fun _ => 0) ∧ Upd (fun k => k = r) w w' := by
  have sh0 : Sh w (w.alloc (.cells (nr (fun _ => 0) 19).toArray 96)) rl rh r bl bc i s b n w.heap.size (fun _ => 0) :=
    ⟨h.keep ((Upd.refl (fun _ => False) w).alloc _) (fun _ h => h.elim), Box.made w 96 _, od.keep ((Upd.refl (fun _ => False) w).alloc _) (fun h => h), (Upd.refl _ w).alloc _, rfl, h.box.lt, h.lens.lt, hrl⟩
  have S0 := hide sh0
  have NU := hide (number_at rl rh r bl s b n 0 8 4 i (K - 4) bc (fun _ => 0) hc (by omega) _ sh0.so (by omega) (by omega) (by omega))
  have NV := hide (fun j (hj : j < K) w' (h' : So w' rl rh r bl bc (some (i + 4 + 3 * j)) s b n 0 8 (fun _ => 0)) => number_at rl rh r bl s b n 0 8 3 (i + 4 + 3 * j) (nb (num bc 0 bl) (i + 4 + 3 * j) 3) bc (fun _ => 0) hc (by omega) w' h' (by omega) (by omega) rfl)
  have HCH := hide hch
  have HK4 : 4 ≤ K := by omega
  have e4 : ((K - 4 : Nat) : Int) + 4 = (K : Int) := by omega
  have e5 : ((K - 4 : Nat) : Int) ≤ 15 := by omega
  generalize ((K - 4 : Nat) : Int) = y4 at *
  clear sh0 h od cnt hch
  go_enter Tryd.func42, Tryd.ntmps42
  go_wp2_with fail
  rw [zero19]
  refine (unhide NU).mono ?_
  rintro e w1 ⟨rfl, so1, u1⟩
  have S1 := hide ((unhide S0).num so1 u1)
  clear so1 u1 NU S0
  go_wp2
  go_loopw [9] (fun x wr => ∃ j : Nat, j ≤ K ∧ x = .int .i64 j ∧ Sh w wr rl rh r bl bc (i + 4 + 3 * j) s b n w.heap.size (cl (num bc 0 bl) (i + 4) j)) (fun x _ => K - (intOf x).toNat)
  case atStart => exact ⟨0, Nat.zero_le _, rfl, by
    have := (unhide S1)
    rw [show cl (num bc 0 bl) (i + 4) 0 = fun _ => 0 from funext (cl_zero _ _)]
    exact this⟩
  case round =>
    obtain ⟨j, hj, rfl, st⟩ := hrel
    clear S1
    by_cases hlt : j < K
    · have hlt' : (j : Int) < (K : Int) := by omega
      have hj19 : j < 19 := by omega
      have hj19' : (j : Int) < 19 := by omega
      have hol := ord_lt j hj19
      have hol' : (ord j : Int) < 19 := by omega
      have d1 : wr.cell? ⟨0, j, none⟩ = some (.int .i64 (ord j)) := st.ord j hj19
      have RR := hide (unhide NV j hlt)
      have PUT := hide (fun w4 (h4 : So w4 rl rh r bl bc (some (i + 4 + 3 * j + 3)) s b n 0 8 (fun _ => 0)) (u4 : Upd (fun k => k = r) wr w4) => Sh.put (st.num h4 u4) (ord j) (nb (num bc 0 bl) (i + 4 + 3 * j) 3) (cl (num bc 0 bl) (i + 4) (j + 1)) (fun s hs => cl_next _ _ _ _ hj19 hs))
      have hr0 : (0 : Nat) ≠ r := by have := st.ne; have := st.so.ne; omega
      have hNr : w.heap.size ≠ r := by have := st.ne; have := st.so.ne; omega
      have FRE := hide (fun w4 (u4 : Upd (fun k => k = r) wr w4) => st.ord.keep u4 hr0 j hj19)
      have SHC := hide (fun w4 (u4 : Upd (fun k => k = r) wr w4) => And.intro ((st.row.keep u4 hNr).cell (ord j) |>.trans (na_at _ _ _ hol)) ((st.row.keep u4 hNr).free (ord j)))
      have UD := hide (show Upd (fun k => k = r) wr wr.drew from ⟨rfl, rfl, rfl, Nat.le_refl _, fun _ _ _ => rfl⟩)
      have ED := hide (show So wr.drew rl rh r bl bc (some (i + 4 + 3 * j)) s b n 0 8 (fun _ => 0) from st.so.drewN 1)
      clear st
      generalize nb (num bc 0 bl) (i + 4 + 3 * j) 3 = z at *
      generalize ord j = oj at *
      go_wp2
      go_region_with (go_at_call 40; refine ((unhide RR) _ (unhide ED)).mono ?_; rintro r w4 ⟨rfl, e4, u4⟩; have D4 := unhide FRE w4 ((unhide UD).trans u4); obtain ⟨sc1, sc2⟩ := unhide SHC w4 ((unhide UD).trans u4); have PT := hide (unhide PUT w4 e4 ((unhide UD).trans u4)); clear e4 u4)
      all_goals go_wp2
      all_goals go_roundw
      all_goals first | exact ⟨j + 1, by omega, by go_num, unhide PT⟩ | (simp [intOf]; omega)
    · obtain rfl : K = j := by omega
      have hnl : ¬ (K : Int) < (K : Int) := by omega
      have ST := hide st
      have c0 := st.so.box.cell 0
      obtain ⟨k0, hk0, hk1⟩ := chk_some (unhide HCH)
      have hk1' : cl (num bc 0 bl) (i + 4) K k0 ≠ 0 := by omega
      have EQ := fun w => eql19 (cl (num bc 0 bl) (i + 4) K) k0 hk0 hk1' w
      have OV := hide (over_step rl rh r bl _ bc wr st.so.rd)
      have RW := hide st.row
      clear st NV hk0 hk1 hk1'
      go_wp2_with fail
      refine (unhide OV).mono ?_
      rintro e w5 ⟨rfl, rfl⟩
      go_wp2_with (first | (refine wpList_load_row rfl 96 (.tmp 4) rfl w.heap.size rfl 96 (nr (cl (num bc 0 bl) (i + 4) K) 19).toArray (0, 0) _ (unhide RW) Tryd.underlying96 rfl (info96 _) ?_) | fail)
      refine (tnew _ 19 _ (by omega) (unhide HCH) w5 (ints_row (unhide RW))).mono ?_
      rintro e w6 ⟨g, rfl, tr6, b6⟩
      have T6 := hide tr6
      have S6 := hide ((unhide ST).so.below b6)
      have U6 := hide ((unhide ST).upd.trans (Upd.ofBelow (S := fun k => k = r) b6))
      have hsz := (unhide ST).upd.size
      clear tr6 b6 ST RW OV
      go_wp2
      go_ret2
      exact ⟨g, w5.heap.size, rfl, hsz, unhide T6, unhide S6, unhide U6⟩
end Go.Proofs.YtaidboopcoaeeaaDoor.Rsf
