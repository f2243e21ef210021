/-
  Contracts: package lens, reading: one step; all steps; one symbol or two by hand. Conditions: the bits are there.
  Contracts: package lens, reading: all steps. Conditions: the bits are there, and tell lengths well.
  Contracts: package lens, writing: the steps of lengths. Conditions: the slice reads as lengths up to 15, and they are few.
  Contract: lens.stepsOf. Conditions: the slice reads as lengths up to 15, and they are few.
-/
import Derived.Test.YtgjpcjnhggcfdaaGreatDoorC12
import Derived.Test.YtgjpcjnhggcfdaaGreatDoorC13
import Derived.Test.YtgjpcjnhggcfdaaGreatDoorC14
namespace Go.Proofs.YtgjpcjnhggcfdaaGreatDoor.Rsb
open Go.ChangeShapes Go.WideShapes Go.ChangeAt Go.RowKit Go.Proofs.YtgjpcjnhggcfdaaGreatDoor.Core Go.Proofs.YtgjpcjnhggcfdaaGreatDoor.Gnd Go.Proofs.YtgjpcjnhggcfdaaGreatDoor.Math Go.Proofs.YtgjpcjnhggcfdaaGreatDoor.Bitin Go.Proofs.YtgjpcjnhggcfdaaGreatDoor.Eyes Go.Proofs.YtgjpcjnhggcfdaaGreatDoor.Dec Go.Proofs.YtgjpcjnhggcfdaaGreatDoor.Ord Go.Proofs.YtgjpcjnhggcfdaaGreatDoor.Lsp Go.Proofs.YtgjpcjnhggcfdaaGreatDoor.Tre Go.Proofs.YtgjpcjnhggcfdaaGreatDoor.Trr Go.Proofs.YtgjpcjnhggcfdaaGreatDoor.Rsa Go.Proofs.YtgjpcjnhggcfdaaGreatDoor.Lrh

theorem nl_vv (s last : Nat) (hs : s < 19) (hl : last ≠ 0) : (if vv s last = 0 then last else vv s last) = nl s last := by
  unfold vv nl
  by_cases h1 : s < 16
  · rw [if_pos h1]
    by_cases h0 : s = 0
    · rw [if_pos h0, if_neg (by omega)]
    · rw [if_neg h0, if_pos ⟨by omega, h1⟩]
  · rw [if_neg h1]
    by_cases h2 : s = 16
    · rw [if_pos h2, if_neg hl, if_neg (by omega)]
    · rw [if_neg h2, if_pos rfl, if_neg (by omega)]
theorem nl_ne (s last : Nat) (hl : last ≠ 0) : nl s last ≠ 0 := by
  unfold nl; split <;> omega
theorem told_now (F : List Nat) (pre : List (Nat × Nat)) (y x last : Nat) (r : List (Nat × Nat)) (hF : told (pre ++ (y, x) :: r) 8 = F) (hla : lastOf pre 8 = last) (j : Nat) :
    (if (told pre 8).length ≤ j ∧ j < (told pre 8).length + (bas y + x) then vv y last else if j < (told pre 8).length then got F j else 0) = if j < (told pre 8).length + (bas y + x) then got F j else 0 := by
  subst hF hla
  rw [told_app]
  by_cases h1 : (told pre 8).length ≤ j ∧ j < (told pre 8).length + (bas y + x)
  · rw [if_pos h1, if_pos h1.2]
    show _ = got (told pre 8 ++ (List.replicate (bas y + x) (vv y (lastOf pre 8)) ++ told r (nl y (lastOf pre 8)))) j
    rw [got_here _ _ _ _ _ h1.1 h1.2]
  · rw [if_neg h1]
    by_cases h2 : j < (told pre 8).length
    · rw [if_pos h2, if_pos (by omega)]
    · rw [if_neg h2, if_neg (by omega)]
theorem told_next (pre : List (Nat × Nat)) (y x : Nat) : (told (pre ++ [(y, x)]) 8).length = (told pre 8).length + (bas y + x) ∧ lastOf (pre ++ [(y, x)]) 8 = nl y (lastOf pre 8) := by
  rw [told_app, last_app]
  simp [told, lastOf]
end Go.Proofs.YtgjpcjnhggcfdaaGreatDoor.Rsb

namespace Go.Proofs.YtgjpcjnhggcfdaaGreatDoor.Rsc
open Go.ChangeShapes Go.WideShapes Go.ChangeAt Go.RowKit Go.Proofs.YtgjpcjnhggcfdaaGreatDoor.Core Go.Proofs.YtgjpcjnhggcfdaaGreatDoor.Gnd Go.Proofs.YtgjpcjnhggcfdaaGreatDoor.Math Go.Proofs.YtgjpcjnhggcfdaaGreatDoor.Bitin Go.Proofs.YtgjpcjnhggcfdaaGreatDoor.Eyes Go.Proofs.YtgjpcjnhggcfdaaGreatDoor.Dec Go.Proofs.YtgjpcjnhggcfdaaGreatDoor.Ord Go.Proofs.YtgjpcjnhggcfdaaGreatDoor.Lsp Go.Proofs.YtgjpcjnhggcfdaaGreatDoor.Tre Go.Proofs.YtgjpcjnhggcfdaaGreatDoor.Trr Go.Proofs.YtgjpcjnhggcfdaaGreatDoor.Rsa Go.Proofs.YtgjpcjnhggcfdaaGreatDoor.Rsb

theorem last_ne : ∀ (l : List (Nat × Nat)) (last : Nat), last ≠ 0 → lastOf l last ≠ 0
  | [], _, h => h
  | (s, _) :: r, last, h => last_ne r _ (nl_ne s last h)
end Go.Proofs.YtgjpcjnhggcfdaaGreatDoor.Rsc

namespace Go.Proofs.YtgjpcjnhggcfdaaGreatDoor.Wse
open Go.ChangeShapes Go.WideShapes Go.ChangeAt Go.RowKit Go.Proofs.YtgjpcjnhggcfdaaGreatDoor.Core Go.Proofs.YtgjpcjnhggcfdaaGreatDoor.Gnd Go.Proofs.YtgjpcjnhggcfdaaGreatDoor.Math Go.Proofs.YtgjpcjnhggcfdaaGreatDoor.Dec Go.Proofs.YtgjpcjnhggcfdaaGreatDoor.Ord Go.Proofs.YtgjpcjnhggcfdaaGreatDoor.Lsp Go.Proofs.YtgjpcjnhggcfdaaGreatDoor.Rsa Go.Proofs.YtgjpcjnhggcfdaaGreatDoor.Wrc Go.Proofs.YtgjpcjnhggcfdaaGreatDoor.Wsd

/-- A slice that reads as these lengths. -/
def Rw (w : World) (v : Value) (n : Nat) (F : Nat → Nat) : Prop :=
  ∃ b off cap, v = .slice (some ⟨b, off, none⟩) n cap ∧ n ≤ cap ∧ b < w.heap.size ∧ ∀ i, i < n → w.cell? ⟨b, off + i, none⟩ = some (.int .i64 (F i))
theorem Rw.ints {w : World} {v : Value} {n : Nat} {F : Nat → Nat} (h : Rw w v n F) : Ints .i64 w v n (fun k => (F k : Int)) := by
  obtain ⟨b, off, cap, rfl, h1, _, h2⟩ := h
  exact ⟨_, cap, rfl, fun i hi => ⟨b, off, rfl, h2 i hi⟩⟩
theorem Rw.keep {w w' : World} {v : Value} {n : Nat} {F : Nat → Nat} (h : Rw w v n F) (u : Below w.heap.size w w') : Rw w' v n F := by
  obtain ⟨b, off, cap, rfl, h1, h3, h2⟩ := h
  exact ⟨b, off, cap, rfl, h1, Nat.lt_of_lt_of_le h3 u.size, fun i hi => (u.cell (p := ⟨b, off + i, none⟩) h3).trans (h2 i hi)⟩
theorem Rw.congr {w : World} {v : Value} {n : Nat} {F G : Nat → Nat} (h : Rw w v n F) (e : ∀ k, k < n → F k = G k) : Rw w v n G := by
  obtain ⟨b, off, cap, rfl, h1, h3, h2⟩ := h
  exact ⟨b, off, cap, rfl, h1, h3, fun i hi => by rw [← e i hi]; exact h2 i hi⟩
theorem Rw.tail {w : World} {b off n cap m : Nat} {F : Nat → Nat} (h1 : n ≤ cap) (h3 : b < w.heap.size) (h2 : ∀ i, i < n → w.cell? ⟨b, off + i, none⟩ = some (.int .i64 (F i))) (hm : m ≤ n) :
    Rw w (.slice (some ⟨b, off + m, none⟩) (n - m) (cap - m)) (n - m) (fun k => F (m + k)) :=
  ⟨b, off + m, cap - m, rfl, by omega, h3, fun i hi => by rw [Nat.add_assoc]; exact h2 (m + i) (by omega)⟩
theorem Rw.none {w : World} {b off n cap m : Nat} {F : Nat → Nat} (h3 : b < w.heap.size) (hn : n ≤ m) : Rw w (.slice (some ⟨b, off, none⟩) (n - m) (cap - m)) (n - m) F ∨ cap - m < n - m := by
  by_cases h : cap - m < n - m
  · exact .inr h
  · exact .inl ⟨b, off, cap - m, rfl, by omega, h3, fun i hi => by omega⟩
def pre (F : Nat → Nat) (i : Nat) : List Nat := (List.range i).map F
theorem pre_len (F : Nat → Nat) (i : Nat) : (pre F i).length = i := by simp [pre]
theorem pre_add (F : Nat → Nat) (i k : Nat) : pre F (i + k) = pre F i ++ (List.range k).map (fun j => F (i + j)) := by
  unfold pre
  rw [List.range_add, List.map_append, List.map_map]
  rfl
theorem got_pre (F : Nat → Nat) (n j : Nat) (h : j < n) : got (pre F n) j = F j := by
  simp [got, pre, h]
/-- Steps that can be told. -/
def StepsOk (l : List (Nat × Nat)) : Prop := ∀ x ∈ l, x.1 < 19 ∧ x.2 < 2 ^ wid x.1
theorem sy_cases (c0 last r : Nat) : (sy c0 last r = 18 ∧ c0 = 0 ∧ 11 ≤ r) ∨ (sy c0 last r = 17 ∧ c0 = 0 ∧ 3 ≤ r) ∨ (sy c0 last r = 16 ∧ c0 = last ∧ 3 ≤ r) ∨ sy c0 last r = c0 := by
  unfold sy
  by_cases h1 : c0 = 0 ∧ 11 ≤ r
  · rw [if_pos h1]; exact .inl ⟨rfl, h1⟩
  · rw [if_neg h1]
    by_cases h2 : c0 = 0 ∧ 3 ≤ r
    · rw [if_pos h2]; exact .inr (.inl ⟨rfl, h2⟩)
    · rw [if_neg h2]
      by_cases h3 : c0 = last ∧ 3 ≤ r
      · rw [if_pos h3]; exact .inr (.inr (.inl ⟨rfl, h3⟩))
      · rw [if_neg h3]; exact .inr (.inr (.inr rfl))
/-- What is to know of the next step. -/
structure Nxt (F : Nat → Nat) (i last s k : Nat) : Prop where
  lt : s < 19
  low : bas s ≤ k
  x : k - bas s < 2 ^ wid s
  val : vv s last = F i
  nxl : nl s last = if F i = 0 then last else F i
theorem nxt {F : Nat → Nat} {i last r k : Nat} (h15 : F i ≤ 15) (hla : last ≠ 0) (hr : 1 ≤ r) (hk : k = min r (bas (sy (F i) last r) + 2 ^ wid (sy (F i) last r) - 1)) : Nxt F i last (sy (F i) last r) k := by
  rcases sy_cases (F i) last r with ⟨e, h1, h2⟩ | ⟨e, h1, h2⟩ | ⟨e, h1, h2⟩ | e
  · rw [e] at hk ⊢
    rw [show bas 18 = 11 from rfl, show wid 18 = 7 from rfl] at hk
    refine ⟨by omega, ?_, ?_, ?_, ?_⟩
    · show 11 ≤ k; omega
    · show k - 11 < 2 ^ 7; omega
    · show 0 = F i; omega
    · rw [if_pos h1]; rfl
  · rw [e] at hk ⊢
    rw [show bas 17 = 3 from rfl, show wid 17 = 3 from rfl] at hk
    refine ⟨by omega, ?_, ?_, ?_, ?_⟩
    · show 3 ≤ k; omega
    · show k - 3 < 2 ^ 3; omega
    · show 0 = F i; omega
    · rw [if_pos h1]; rfl
  · rw [e] at hk ⊢
    rw [show bas 16 = 3 from rfl, show wid 16 = 2 from rfl] at hk
    refine ⟨by omega, ?_, ?_, ?_, ?_⟩
    · show 3 ≤ k; omega
    · show k - 3 < 2 ^ 2; omega
    · show last = F i; omega
    · rw [if_neg (by omega), h1]; rfl
  · rw [e] at hk ⊢
    have e1 : bas (F i) = 1 := by unfold bas; rw [if_neg (by omega), if_neg (by omega), if_neg (by omega)]
    have e2 : wid (F i) = 0 := by unfold wid; rw [if_neg (by omega), if_neg (by omega), if_neg (by omega)]
    rw [e1, e2] at hk
    refine ⟨by omega, by rw [e1]; omega, by rw [e1, e2]; omega, ?_, ?_⟩
    · unfold Lsp.vv; rw [if_pos (by omega)]
    · unfold Lsp.nl
      by_cases h0 : F i = 0
      · rw [if_pos h0, if_neg (by omega)]
      · rw [if_neg h0, if_pos (by omega)]
theorem told_nxt {F : Nat → Nat} {i m r last s k : Nat} {done : List (Nat × Nat)} (ht : told done 8 = pre F i) (hl : lastOf done 8 = last) (hs : Same (fun j => F (i + j)) m r) (n : Nxt F i last s k) (hk : k ≤ r) : told (done ++ [(s, k - bas s)]) 8 = pre F (i + k) := by
  rw [told_app, ht, hl, pre_add]
  have hb := n.low
  simp only [told, List.append_nil]
  rw [show bas s + (k - bas s) = k by omega, n.val]
  congr 1
  apply List.ext_getElem
  · simp
  · intro j h1 h2
    simp at h1
    simp
    exact (hs.eq j (by omega)).symm
theorem last_nxt {F : Nat → Nat} {i last s k : Nat} {done : List (Nat × Nat)} (hl : lastOf done 8 = last) (n : Nxt F i last s k) : lastOf (done ++ [(s, k - bas s)]) 8 = if F i = 0 then last else F i := by
  rw [last_app, hl, ← n.nxl]
  rfl
def scells (l : List (Nat × Nat)) : List Value := l.flatMap fun x => [.int .i64 x.1, .int .i64 x.2]
theorem scells_app (xs ys : List (Nat × Nat)) : scells (xs ++ ys) = scells xs ++ scells ys := by simp [scells]
theorem scells_len : ∀ xs : List (Nat × Nat), (scells xs).length = xs.length * 2
  | [] => rfl
  | x :: xs => by
    have := scells_len xs
    simp [scells] at *
    omega
def pt (l : List (Nat × Nat)) (i : Nat) : Nat × Nat := l.getD i (0, 0)
theorem scells_at : ∀ (xs : List (Nat × Nat)) (i : Nat), i < xs.length → (scells xs)[i * 2]? = some (.int .i64 (pt xs i).1) ∧ (scells xs)[i * 2 + 1]? = some (.int .i64 (pt xs i).2)
  | [], i, h => by simp at h
  | x :: xs, 0, _ => by simp [scells, pt]
  | x :: xs, i + 1, h => by
    have := scells_at xs i (by simpa using h)
    have e2 : pt (x :: xs) (i + 1) = pt xs i := by simp [pt]
    rw [e2]
    have e : scells (x :: xs) = .int .i64 x.1 :: .int .i64 x.2 :: scells xs := by simp [scells]
    rw [e, show (i + 1) * 2 = i * 2 + 1 + 1 by omega, List.getElem?_cons_succ, List.getElem?_cons_succ, List.getElem?_cons_succ, List.getElem?_cons_succ]
    exact this
theorem scells_one (xs : List (Nat × Nat)) : ∀ u ∈ scells xs, u.oneCell' = true := by
  intro u hu
  simp only [scells, List.mem_flatMap] at hu
  obtain ⟨x, _, h⟩ := hu
  simp at h
  rcases h with rfl | rfl <;> rfl
theorem info87 : (Tryz.prog.info? 145).map (fun i => (i.zero, i.size, i.bytes)) = some (some (.agg #[.int .i64 0, .int .i64 0]), 2, 16) := by kernel_rfl
/-- A slice of steps. -/
def Sts (w : World) (v : Value) (l : List (Nat × Nat)) : Prop :=
  (v = .slice none 0 0 ∧ l = []) ∨ ∃ g cap, v = .slice (some ⟨g, 0, none⟩) l.length cap ∧ g < w.heap.size ∧ ∀ i, i < l.length → w.cell? ⟨g, i * 2, none⟩ = some (.int .i64 (pt l i).1) ∧ w.cell? ⟨g, i * 2 + 1, none⟩ = some (.int .i64 (pt l i).2)
theorem Sts.keep {w w' : World} {v : Value} {l : List (Nat × Nat)} (h : Sts w v l) (u : Below w.heap.size w w') : Sts w' v l := by
  rcases h with h | ⟨g, cap, h1, h2, h3⟩
  · exact .inl h
  · exact .inr ⟨g, cap, h1, Nat.lt_of_lt_of_le h2 u.size, fun i hi => ⟨(u.cell (p := ⟨g, i * 2, none⟩) h2).trans (h3 i hi).1, (u.cell (p := ⟨g, i * 2 + 1, none⟩) h2).trans (h3 i hi).2⟩⟩
structure Sto (w wr : World) (s : Value) (l : List (Nat × Nat)) : Prop where
  own : wr.ownsRow w.heap.size 145 2 s l.length (scells l)
  bel : Below w.heap.size w wr
theorem Sto.sts {w wr : World} {s : Value} {l : List (Nat × Nat)} (h : Sto w wr s l) : Sts wr s l := by
  have ho := h.own
  rcases ho.2 with ⟨rfl, e⟩ | ⟨g, cap, cur, rfl, b1, b2, b3, b4⟩
  · exact .inl ⟨rfl, List.eq_nil_of_length_eq_zero e⟩
  · exact .inr ⟨g, cap, rfl, (ho.lt g rfl).2, fun i hi => by
      obtain ⟨m1, m2⟩ := scells_at l i hi
      exact ⟨(ho.cellAt (i * 2) (by omega)).trans m1, (ho.cellAt (i * 2 + 1) (by omega)).trans m2⟩⟩
theorem Sto.app {w wr w1 : World} {s s1 : Value} {l : List (Nat × Nat)} {x : Nat × Nat} {o : Obj} (h : Sto w wr s l) (own : w1.ownsRow w.heap.size 145 2 s1 (l.length + 1) (scells l ++ scells [x])) (gr : (wr.alloc o).grownBy w1 s.ownBlock) : Sto w w1 s1 (l ++ [x]) := by
  have hlt := h.own.lt
  refine ⟨?_, ?_⟩
  · rw [List.length_append, scells_app]
    exact own
  · refine (h.bel.alloc h.bel.size o).grown gr ?_ (fun k e => (hlt k e).1)
    have := h.bel.size
    simp; omega
theorem Sto.below {w wr w' : World} {s : Value} {l : List (Nat × Nat)} (h : Sto w wr s l) (u : Below wr.heap.size wr w') : Sto w w' s l := by
  refine ⟨?_, h.bel.trans (u.mono h.bel.size)⟩
  obtain ⟨h1, h2⟩ := h.own
  refine ⟨h1, ?_⟩
  rcases h2 with h2 | ⟨b, cap, cur, rfl, l0, hb, r⟩
  · exact .inl h2
  · exact .inr ⟨b, cap, cur, rfl, l0, (u.block b (Array.getElem?_eq_some_iff.1 hb).1).trans hb, r⟩
theorem st_src (w : World) (x : Nat × Nat) : ∀ j u, (scells [x])[j]? = some u → (w.alloc (.cells #[.int .i64 x.1, .int .i64 x.2] 145)).cell? ((⟨w.heap.size, 0, none⟩ : Addr).add j) = some u := by
  intro j u hu
  rw [add_plain, Nat.zero_add]
  match j, hu with
  | 0, hu => simp [scells] at hu; subst hu; simp
  | 1, hu => simp [scells] at hu; subst hu; simp
end Go.Proofs.YtgjpcjnhggcfdaaGreatDoor.Wse

namespace Go.Proofs.YtgjpcjnhggcfdaaGreatDoor.Wsf
open Go.ChangeShapes Go.WideShapes Go.ChangeAt Go.RowKit Go.Proofs.YtgjpcjnhggcfdaaGreatDoor.Core Go.Proofs.YtgjpcjnhggcfdaaGreatDoor.Gnd Go.Proofs.YtgjpcjnhggcfdaaGreatDoor.Math Go.Proofs.YtgjpcjnhggcfdaaGreatDoor.Dec Go.Proofs.YtgjpcjnhggcfdaaGreatDoor.Ord Go.Proofs.YtgjpcjnhggcfdaaGreatDoor.Lsp Go.Proofs.YtgjpcjnhggcfdaaGreatDoor.Rsa Go.Proofs.YtgjpcjnhggcfdaaGreatDoor.Wrc Go.Proofs.YtgjpcjnhggcfdaaGreatDoor.Wsd Go.Proofs.YtgjpcjnhggcfdaaGreatDoor.Wse

/-- Where the loop stands. -/
structure At_ (w wr : World) (v al la : Value) (n i : Nat) (F : Nat → Nat) (done : List (Nat × Nat)) : Prop where
  le : i ≤ n
  row : Rw w v (n - i) (fun k => F (i + k))
  last : la = .int .i64 (lastOf done 8)
  sto : Sto w wr al done
  fair : StepsOk done
  told : told done 8 = pre F i
def vl : Value → Nat
  | .slice _ n _ => n
  | _ => 0
theorem At_.next {w wr w' : World} {v v' al al' la la' : Value} {n i r s k last : Nat} {F : Nat → Nat} {done : List (Nat × Nat)} (h : At_ w wr v al la n i F done) (hl : lastOf done 8 = last) (hs : Same (fun j => F (i + j)) (n - i) r) (nx : Nxt F i last s k) (hk : k ≤ r)
    (row : Rw w v' (n - (i + k)) (fun j => F (i + k + j))) (hla : la' = .int .i64 (if F i = 0 then last else F i : Nat)) (sto : Sto w w' al' (done ++ [(s, k - bas s)])) : At_ w w' v' al' la' n (i + k) F (done ++ [(s, k - bas s)]) := by
  have h1 := hs.le
  have h2 := h.le
  refine ⟨by omega, row, ?_, sto, fun x hx => ?_, told_nxt h.told hl hs nx hk⟩
  · rw [hla, last_nxt hl nx]
  · rcases List.mem_append.1 hx with hx | hx
    · exact h.fair x hx
    · rw [List.mem_singleton] at hx
      subst hx
      exact ⟨nx.lt, nx.x⟩
/-- What stepsOf answers. -/
structure Stps (w : World) (n : Nat) (F : Nat → Nat) (e : Ending) (w' : World) : Prop where
  ex : ∃ u l, e = .returned u ∧ Sts w' u l ∧ StepsOk l ∧ told l 8 = pre F n ∧ Below w.heap.size w w'
set_option maxRecDepth 20000 in
set_option maxHeartbeats 2000000 in
theorem steps38 (v : Value) (n : Nat) (F : Nat → Nat) (hn : n ≤ 100000) (h15 : ∀ k, k < n → F k ≤ 15) (w : World) (src : Rw w v n F) :
    Calls Tryz.prog 70 #[v] w fun e w' => Stps w n F e w' := by
  have SRC := hide src
  obtain ⟨b, off, cap, rfl, _⟩ := src
  have H15 := hide h15
  obtain ⟨i0, hi0, hz0, hz1, hz2⟩ := info_parts info87
  clear h15
  go_enter Tryz.func70, Tryz.ntmps70
  go_wp2
  go_loopw [0, 3, 4] (fun v al la wr => ∃ (i : Nat) (done : List (Nat × Nat)), At_ w wr v al la n i F done) (fun v _ _ _ => vl v)
  case atStart => exact ⟨0, [], Nat.zero_le _, by simpa using unhide SRC, rfl, ⟨World.ownsRow_nil _ _ _ _, Below.refl _ w⟩, fun x hx => by simp at hx, rfl⟩
  case round =>
    clear SRC
    obtain ⟨i, done, at_⟩ := hrel
    have AT := hide at_
    obtain ⟨b, off, cap, rfl, hcap, hbw, hcells⟩ := at_.row
    obtain ⟨last, hlast⟩ : ∃ last, lastOf done 8 = last := ⟨_, rfl⟩
    obtain rfl : _ = _ := at_.last
    rw [hlast]
    have hla0 : last ≠ 0 := by rw [← hlast]; exact Rsc.last_ne done 8 (by omega)
    have hin := at_.le
    by_cases hlt : i < n
    · obtain ⟨r, hr⟩ := same_ex (fun j => F (i + j)) (n - i) (by omega)
      have RW := hide at_.row
      obtain ⟨m, hm⟩ : ∃ m, n - i = m := ⟨_, rfl⟩
      rw [hm] at hr RW hcap hcells
      rw [hm]
      have hm0 : (0 : Int) < (m : Int) := by omega
      have SY := hide (symbol50 _ m r last (fun j => F (i + j)) (by omega) hr hla0 wr ((unhide RW).ints.keep at_.sto.bel))
      have RUN := hide (fun (W : World) (B : Below w.heap.size w W) => run51 _ m r (fun j => F (i + j)) (by omega) hr W ((unhide RW).ints.keep B))
      have hsy : sy ((fun j => F (i + j)) 0) last r = sy (F i) last r := rfl
      rw [hsy] at SY
      obtain ⟨k, hk⟩ : ∃ k, k = min r (bas (sy (F i) last r) + 2 ^ wid (sy (F i) last r) - 1) := ⟨_, rfl⟩
      have NX := hide (nxt (unhide H15 i hlt) hla0 hr.pos hk)
      have HS := hide hr
      have hr1 := hr.pos
      have hr2 := hr.le
      have LA := hide hlast
      have BEL := hide at_.sto.bel
      have HM := hide hm
      have HC := hide hcells
      have hdl : done.length ≤ n := by
        have h1 := told_len done 8
        rw [at_.told, pre_len] at h1
        omega
      clear at_ hcells hr hsy hlast hm
      generalize sy (F i) last r = s at *
      have hsl := (unhide NX).lt
      have hkl := (unhide NX).low
      have TM := hide (times49 s)
      have hb1 := bas_le s
      have hb2 := bas_pos s
      have hw := wid_le s
      generalize hbs : bas s = bs at *
      have HBS := hide hbs
      clear hbs
      generalize wid s = ws at *
      obtain ⟨P, hP, hP2⟩ : ∃ P : Nat, wrap64 ((2 : Int) ^ ws) = (P : Int) ∧ P = 2 ^ ws := ⟨2 ^ ws, by
        have h1 : 2 ^ ws ≤ 2 ^ 15 := Nat.pow_le_pow_right (by omega) (by omega)
        have e : ((2 ^ ws : Nat) : Int) = (2 : Int) ^ ws := by simp
        rw [← e]
        generalize 2 ^ ws = z at *
        simp [wrap64]
        omega, rfl⟩
      have hP3 : P ≤ 128 := by
        rw [hP2]
        have : 2 ^ ws ≤ 2 ^ 7 := Nat.pow_le_pow_right (by omega) hw
        omega
      have hP4 : 1 ≤ P := by rw [hP2]; exact Nat.pow_pos (by omega)
      have hk' : k = min r (bs + P - 1) := by rw [hP2]; exact hk
      have HK := hide hk'
      clear hk hP2 hk'
      go_wp2_with fail
      refine (unhide SY).mono ?_
      rintro e w1 ⟨rfl, b1⟩
      have B1 := hide b1
      clear b1 SY
      go_wp2_with fail
      refine (unhide TM w1).mono ?_
      rintro e w2 ⟨rfl, rfl⟩
      have BW := hide ((unhide BEL).trans ((unhide B1).mono (unhide BEL).size))
      have RQ := hide (fun q => unhide RUN (w2.drewN q) (show Below w.heap.size w (w2.drewN q) from ⟨(unhide BW).os, (unhide BW).tape, (unhide BW).output, (unhide BW).size, (unhide BW).block⟩))
      obtain ⟨mx, hmx⟩ : ∃ mx, bs + P - 1 = mx := ⟨_, rfl⟩
      have emx : (bs : Int) + (P : Int) - 1 = (mx : Int) := by omega
      obtain ⟨x, hx⟩ : ∃ x, k - bs = x := ⟨_, rfl⟩
      have ekb : (k : Int) - (bs : Int) = (x : Int) := by omega
      have HX := hide hx
      have h0 : w.cell? ⟨b, off, none⟩ = some (.int .i64 ((F i : Nat) : Int)) := by simpa using unhide HC 0 (by omega)
      have H0 := hide h0
      have STO := hide ((unhide AT).sto.below (unhide B1))
      clear hx h0
      by_cases hmr : mx < r
      · obtain rfl : k = mx := by have := unhide HK; omega
        have hmr' : (k : Int) < (r : Int) := by omega
        clear hmx
        go_wp2
        go_quiet ((go_at_call 85; exact Calls.quiet_of (unhide RQ _)))
        have STQ := hide ((unhide STO).below (show Below w2.heap.size w2 (w2.drewN nq) from ⟨rfl, rfl, rfl, Nat.le_refl _, fun _ _ => rfl⟩))
        have DONE := hide (fun (v' al' la' : Value) (w' : World) (st : Sto w w' al' (done ++ [(s, x)])) (hla : la' = .int .i64 (if F i = 0 then last else F i : Nat)) (row : Rw w v' (m - k) (fun j => F (i + (k + j)))) => show ∃ (i : Nat) (done : List (Nat × Nat)), At_ w w' v' al' la' n i F done from
          ⟨i + k, done ++ [(s, k - bas s)], (unhide AT).next (unhide LA) (by rw [unhide HM]; exact unhide HS) (unhide NX) (by omega) (by have := unhide HM; rw [show n - (i + k) = m - k by omega]; exact row.congr (fun j _ => by rw [Nat.add_assoc])) hla (by rw [unhide HBS, unhide HX]; exact st)⟩)
        clear STO RQ RUN BW B1
        generalize w2.drewN nq = wq at *
        generalize hFi : F i = Fi at *
        clear hFi
        by_cases hF : Fi = 0
        · have hF' : (((Fi : Nat) : Int) != 0) = false := by simp [hF]
          have ELA := hide (show Value.int IntKind.i64 ((last : Nat) : Int) = .int .i64 (if Fi = 0 then last else Fi : Nat) by rw [if_pos hF])
          have hck : ¬ cap = k := by omega
          have RT := hide (Rw.tail (F := fun j => F (i + j)) (m := k) hcap hbw (unhide HC) (by omega))
          go_wp2_with (first | (at_builtin; refine wpList_append_own _ rfl (.tmp 28) (.tmp 34) 131 rfl w.heap.size 145 i0 _ 2 16 Tryz.underlying131 hi0 hz0 hz1 hz2 rfl (by decide) _ done.length (scells done) rfl ((unhide STQ).own.alloc _) ⟨wq.heap.size, 0, none⟩ 1 1 (scells [(s, x)]) rfl (scells_len _) (st_src _ _) (scells_one _) (by unfold maxLen; omega) (by omega) (by have := (unhide STQ).bel.size; simp; omega) ?_; intro v1 w3 own1 gr1 _; have ST1 := hide ((unhide STQ).app own1 gr1); have e3 := ((unhide ST1).bel.cell (p := ⟨b, off, none⟩) hbw).trans (unhide H0); clear own1 gr1) | fail)
          go_roundw
          case rel => exact unhide DONE _ _ _ _ (unhide ST1) (unhide ELA) (unhide RT)
          case measure => simp [vl]; omega
        · have hF' : (((Fi : Nat) : Int) != 0) = true := by simp [hF]
          have ELA := hide (show Value.int IntKind.i64 ((Fi : Nat) : Int) = .int .i64 (if Fi = 0 then last else Fi : Nat) by rw [if_neg hF])
          have hck : ¬ cap = k := by omega
          have RT := hide (Rw.tail (F := fun j => F (i + j)) (m := k) hcap hbw (unhide HC) (by omega))
          go_wp2_with (first | (at_builtin; refine wpList_append_own _ rfl (.tmp 28) (.tmp 34) 131 rfl w.heap.size 145 i0 _ 2 16 Tryz.underlying131 hi0 hz0 hz1 hz2 rfl (by decide) _ done.length (scells done) rfl ((unhide STQ).own.alloc _) ⟨wq.heap.size, 0, none⟩ 1 1 (scells [(s, x)]) rfl (scells_len _) (st_src _ _) (scells_one _) (by unfold maxLen; omega) (by omega) (by have := (unhide STQ).bel.size; simp; omega) ?_; intro v1 w3 own1 gr1 _; have ST1 := hide ((unhide STQ).app own1 gr1); have e3 := ((unhide ST1).bel.cell (p := ⟨b, off, none⟩) hbw).trans (unhide H0); clear own1 gr1) | fail)
          go_roundw
          case rel => exact unhide DONE _ _ _ _ (unhide ST1) (unhide ELA) (unhide RT)
          case measure => simp [vl]; omega
      · obtain rfl : k = r := by have := unhide HK; omega
        have hmr' : ¬ (mx : Int) < (k : Int) := by omega
        clear hmx
        go_wp2
        go_quiet ((go_at_call 85; exact Calls.quiet_of (unhide RQ _)))
        have STQ := hide ((unhide STO).below (show Below w2.heap.size w2 (w2.drewN nq) from ⟨rfl, rfl, rfl, Nat.le_refl _, fun _ _ => rfl⟩))
        have DONE := hide (fun (v' al' la' : Value) (w' : World) (st : Sto w w' al' (done ++ [(s, x)])) (hla : la' = .int .i64 (if F i = 0 then last else F i : Nat)) (row : Rw w v' (m - k) (fun j => F (i + (k + j)))) => show ∃ (i : Nat) (done : List (Nat × Nat)), At_ w w' v' al' la' n i F done from
          ⟨i + k, done ++ [(s, k - bas s)], (unhide AT).next (unhide LA) (by rw [unhide HM]; exact unhide HS) (unhide NX) (by omega) (by have := unhide HM; rw [show n - (i + k) = m - k by omega]; exact row.congr (fun j _ => by rw [Nat.add_assoc])) hla (by rw [unhide HBS, unhide HX]; exact st)⟩)
        clear STO RQ RUN BW B1
        generalize w2.drewN nq = wq at *
        generalize hFi : F i = Fi at *
        clear hFi
        by_cases hF : Fi = 0
        · have hF' : (((Fi : Nat) : Int) != 0) = false := by simp [hF]
          have ELA := hide (show Value.int IntKind.i64 ((last : Nat) : Int) = .int .i64 (if Fi = 0 then last else Fi : Nat) by rw [if_pos hF])
          by_cases hck : cap = k
          · subst hck
            obtain rfl : m = cap := by omega
            have RN := hide (show Rw w (.slice (some ⟨b, off, none⟩) 0 0) (m - m) (fun j => F (i + (m + j))) from ⟨b, off, 0, by rw [Nat.sub_self], by omega, hbw, fun i hi => by omega⟩)
            go_wp2_with (first | (at_builtin; refine wpList_append_own _ rfl (.tmp 28) (.tmp 34) 131 rfl w.heap.size 145 i0 _ 2 16 Tryz.underlying131 hi0 hz0 hz1 hz2 rfl (by decide) _ done.length (scells done) rfl ((unhide STQ).own.alloc _) ⟨wq.heap.size, 0, none⟩ 1 1 (scells [(s, x)]) rfl (scells_len _) (st_src _ _) (scells_one _) (by unfold maxLen; omega) (by omega) (by have := (unhide STQ).bel.size; simp; omega) ?_; intro v1 w3 own1 gr1 _; have ST1 := hide ((unhide STQ).app own1 gr1); have e3 := ((unhide ST1).bel.cell (p := ⟨b, off, none⟩) hbw).trans (unhide H0); clear own1 gr1) | fail)
            go_roundw
            case rel => exact unhide DONE _ _ _ _ (unhide ST1) (unhide ELA) (unhide RN)
            case measure => simp [vl]; omega
          · have RT := hide (Rw.tail (F := fun j => F (i + j)) (m := k) hcap hbw (unhide HC) (by omega))
            go_wp2_with (first | (at_builtin; refine wpList_append_own _ rfl (.tmp 28) (.tmp 34) 131 rfl w.heap.size 145 i0 _ 2 16 Tryz.underlying131 hi0 hz0 hz1 hz2 rfl (by decide) _ done.length (scells done) rfl ((unhide STQ).own.alloc _) ⟨wq.heap.size, 0, none⟩ 1 1 (scells [(s, x)]) rfl (scells_len _) (st_src _ _) (scells_one _) (by unfold maxLen; omega) (by omega) (by have := (unhide STQ).bel.size; simp; omega) ?_; intro v1 w3 own1 gr1 _; have ST1 := hide ((unhide STQ).app own1 gr1); have e3 := ((unhide ST1).bel.cell (p := ⟨b, off, none⟩) hbw).trans (unhide H0); clear own1 gr1) | fail)
            go_roundw
            case rel => exact unhide DONE _ _ _ _ (unhide ST1) (unhide ELA) (unhide RT)
            case measure => simp [vl]; omega
        · have hF' : (((Fi : Nat) : Int) != 0) = true := by simp [hF]
          have ELA := hide (show Value.int IntKind.i64 ((Fi : Nat) : Int) = .int .i64 (if Fi = 0 then last else Fi : Nat) by rw [if_neg hF])
          by_cases hck : cap = k
          · subst hck
            obtain rfl : m = cap := by omega
            have RN := hide (show Rw w (.slice (some ⟨b, off, none⟩) 0 0) (m - m) (fun j => F (i + (m + j))) from ⟨b, off, 0, by rw [Nat.sub_self], by omega, hbw, fun i hi => by omega⟩)
            go_wp2_with (first | (at_builtin; refine wpList_append_own _ rfl (.tmp 28) (.tmp 34) 131 rfl w.heap.size 145 i0 _ 2 16 Tryz.underlying131 hi0 hz0 hz1 hz2 rfl (by decide) _ done.length (scells done) rfl ((unhide STQ).own.alloc _) ⟨wq.heap.size, 0, none⟩ 1 1 (scells [(s, x)]) rfl (scells_len _) (st_src _ _) (scells_one _) (by unfold maxLen; omega) (by omega) (by have := (unhide STQ).bel.size; simp; omega) ?_; intro v1 w3 own1 gr1 _; have ST1 := hide ((unhide STQ).app own1 gr1); have e3 := ((unhide ST1).bel.cell (p := ⟨b, off, none⟩) hbw).trans (unhide H0); clear own1 gr1) | fail)
            go_roundw
            case rel => exact unhide DONE _ _ _ _ (unhide ST1) (unhide ELA) (unhide RN)
            case measure => simp [vl]; omega
          · have RT := hide (Rw.tail (F := fun j => F (i + j)) (m := k) hcap hbw (unhide HC) (by omega))
            go_wp2_with (first | (at_builtin; refine wpList_append_own _ rfl (.tmp 28) (.tmp 34) 131 rfl w.heap.size 145 i0 _ 2 16 Tryz.underlying131 hi0 hz0 hz1 hz2 rfl (by decide) _ done.length (scells done) rfl ((unhide STQ).own.alloc _) ⟨wq.heap.size, 0, none⟩ 1 1 (scells [(s, x)]) rfl (scells_len _) (st_src _ _) (scells_one _) (by unfold maxLen; omega) (by omega) (by have := (unhide STQ).bel.size; simp; omega) ?_; intro v1 w3 own1 gr1 _; have ST1 := hide ((unhide STQ).app own1 gr1); have e3 := ((unhide ST1).bel.cell (p := ⟨b, off, none⟩) hbw).trans (unhide H0); clear own1 gr1) | fail)
            go_roundw
            case rel => exact unhide DONE _ _ _ _ (unhide ST1) (unhide ELA) (unhide RT)
            case measure => simp [vl]; omega
    · obtain rfl : i = n := by omega
      have hn0 : i - i = 0 := by omega
      rw [hn0]
      have FIN := hide (show ∃ u l, Value.slice none 0 0 = Value.slice none 0 0 ∧ u3 = u ∧ Sts wr u l ∧ StepsOk l ∧ told l 8 = pre F i ∧ Below w.heap.size w wr from ⟨_, done, rfl, rfl, at_.sto.sts, at_.fair, at_.told, at_.sto.bel⟩)
      clear at_
      go_wp2
      go_ret
      obtain ⟨u, l, _, h1, h2⟩ := unhide FIN
      exact ⟨_, l, rfl, h1 ▸ h2⟩
end Go.Proofs.YtgjpcjnhggcfdaaGreatDoor.Wsf
