/- Contracts: slices.Clone and bitin.New. Conditions: the slice reads as bytes. -/
import Derived.Test.YtjdnkjolbnplaaaRd
import Derived.Laws.AppendOwnNone
namespace Go.Proofs.Ytjdnkjolbnplaaa.New
open Go.ChangeShapes Go.WideShapes Go.ChangeAt Go.RowKit Go.Proofs.Ytjdnkjolbnplaaa.Base Go.Proofs.Ytjdnkjolbnplaaa.Mem Go.Proofs.Ytjdnkjolbnplaaa.Rd

/-- A slice of bytes that came in: nil, or somewhere, its bytes told by c. -/
def Src (w : World) (v : Value) (len : Nat) (c : Nat → Nat) : Prop :=
  (v = .slice none 0 0 ∧ len = 0) ∨ ∃ x cap, v = .slice (some x) len cap ∧ ∀ k, k < len → w.cell? (x.add k) = some (.int .u8 (c k))
theorem lt_of_cell {w : World} {p : Addr} {v : Value} (h : w.cell? p = some v) : p.block < w.heap.size := by
  unfold World.cell? at h
  split at h
  · next hh => exact (Array.getElem?_eq_some_iff.1 hh).1
  · cases h
theorem Src.keep {S : Nat → Prop} {w w' : World} {v : Value} {len : Nat} {c : Nat → Nat} (h : Src w v len c) (u : Upd S w w') (hs : ∀ k, S k → w.heap.size ≤ k) : Src w' v len c := by
  rcases h with h | ⟨x, cap, e, hc⟩
  · exact .inl h
  · exact .inr ⟨x, cap, e, fun k hk => (u.cell (lt_of_cell (hc k hk)) (fun h => by have := hs _ h; have := lt_of_cell (hc k hk); omega)).trans (hc k hk)⟩
theorem src_at {w : World} {a : Addr} {n : Nat} {c : Nat → Nat} (h : ∀ i, i < n → w.cell? (a.add i) = some (.int .u8 (c i))) (hp : 0 < n) :
    ∃ b off, a = ⟨b, off, none⟩ ∧ ∀ j, j < n → w.cell? ⟨b, off + j, none⟩ = some (.int .u8 (c j)) := by
  obtain ⟨b, off, spot⟩ := a
  have hspot : spot = none := by simpa [Addr.add] using World.cell?_spot (h 0 hp)
  subst hspot
  exact ⟨b, off, rfl, fun j hj => by rw [← Go.WideShapes.add_plain]; exact h j hj⟩
theorem src_of_row {w : World} {a : Option Addr} {len cap : Nat} {zs : List Int}
    (h : (a = none ∧ len = 0 ∧ cap = 0 ∧ zs = []) ∨
      ∃ x, a = some x ∧ len ≤ cap ∧ cap ≤ maxLen ∧ zs.length = cap ∧ (∀ i, i < zs.length → w.cell? (x.add i) = some (.int .u8 (zs.getD i 0))) ∧ ∀ n ∈ zs, (Lit.int .u8 n).wf = true) :
    ∃ c : Nat → Nat, (∀ k, c k ≤ 255) ∧ Src w (.slice a len cap) len c := by
  rcases h with ⟨rfl, rfl, rfl, _⟩ | ⟨x, rfl, h1, h2, hz, hc, hwf⟩
  · exact ⟨fun _ => 0, fun _ => Nat.zero_le _, .inl ⟨rfl, rfl⟩⟩
  · have hbd : ∀ k, 0 ≤ zs.getD k 0 ∧ zs.getD k 0 ≤ 255 := fun k => by
      by_cases hk : k < zs.length
      · have hx : zs.getD k 0 ∈ zs := by
          rw [List.getD_eq_getElem?_getD, List.getElem?_eq_getElem hk]; exact List.getElem_mem hk
        exact bounds_u8 (hwf _ hx)
      · rw [List.getD_eq_getElem?_getD, List.getElem?_eq_none (by omega)]; simp
    refine ⟨fun k => (zs.getD k 0).toNat, fun k => by have := hbd k; simp only; omega, .inr ⟨x, cap, rfl, fun k hk => ?_⟩⟩
    rw [hc k (by omega)]
    have e : (((zs.getD k 0).toNat : Nat) : Int) = zs.getD k 0 := by have := hbd k; omega
    simp only [e]
/-- Bytes as cells. -/
def cells (c : Nat → Nat) (n : Nat) : List Value := (List.range n).map fun k => .int .u8 (c k)
theorem cells_len (c : Nat → Nat) (n : Nat) : (cells c n).length = n := by simp [cells]
theorem cells_at (c : Nat → Nat) (n k : Nat) (h : k < n) : (cells c n)[k]? = some (.int .u8 (c k)) := by
  simp [cells, h]
theorem cells_one (c : Nat → Nat) (n : Nat) : ∀ u ∈ cells c n, u.oneCell' = true := by
  intro u hu
  obtain ⟨_, _, rfl⟩ := List.mem_map.1 hu
  rfl
theorem news_of {w : World} {n : Nat} {x : Addr} {c : Nat → Nat} (h : ∀ k, k < n → w.cell? (x.add k) = some (.int .u8 (c k))) :
    ∀ j u, (cells c n)[j]? = some u → w.cell? (x.add j) = some u := by
  intro j u hu
  have hj : j < n := by
    have := (List.getElem?_eq_some_iff.1 hu).1
    rwa [cells_len] at this
  rw [cells_at c n j hj] at hu
  rw [h j hj]
  exact hu

/-- What Clone hands back. -/
def Got (w : World) (lo : Nat) (v : Value) (len : Nat) (c : Nat → Nat) : Prop :=
  ∃ a cap, v = .slice a len cap ∧ (len = 0 ∨ ∃ b, a = some ⟨b, 0, none⟩ ∧ lo ≤ b ∧ b < w.heap.size ∧ ∀ k, k < len → w.cell? ⟨b, k, none⟩ = some (.int .u8 (c k)))

theorem got_of {w : World} {base : Nat} {v : Value} {len : Nat} {c : Nat → Nat} (h : w.ownsRow base 5 1 v len (cells c len)) : Got w base v len c := by
  have hlt := h.lt
  rcases h.2 with ⟨rfl, h0⟩ | ⟨g, cap, cur, rfl, _⟩
  · exact ⟨none, 0, by rw [h0], .inl h0⟩
  · exact ⟨_, cap, rfl, .inr ⟨g, rfl, (hlt g rfl).1, (hlt g rfl).2, fun k hk => (h.cellAt k (by omega)).trans (cells_at c len k hk)⟩⟩

theorem Try.info5 : (Try.prog.info? 5).map (fun i => (i.zero, i.size, i.bytes)) = some (some (.int .u8 0), 1, 1) := by kernel_rfl
theorem eql_nil (w : World) : (binOp .eql 22 (.slice none 0 0) (.slice none 0 0)).run Try.prog w = .ok (.bool true) w := by kernel_rfl
theorem eql_some (w : World) (a : Addr) (n c : Nat) : (binOp .eql 22 (.slice (some a) n c) (.slice none 0 0)).run Try.prog w = .ok (.bool false) w := by kernel_rfl
set_option maxHeartbeats 400000 in
theorem clone14 (v : Value) (len : Nat) (c : Nat → Nat) (w : World) (h : Src w v len c) (hl : len ≤ 1000000) :
    Calls Try.prog 14 #[v] w fun e w' => ∃ u, e = .returned u ∧ Got w' w.heap.size u len c ∧ Below w.heap.size w w' := by
  rcases h with ⟨rfl, rfl⟩ | ⟨x, cap, rfl, hc⟩
  · have hq := eql_nil
    go_enter Try.func14, Try.ntmps14
    go_wp2
    go_ret
    exact ⟨_, rfl, ⟨none, 0, rfl, .inl rfl⟩, Below.refl _ _⟩
  · obtain ⟨i0, hi, hz0, hz1, hz2⟩ := info_parts Try.info5
    have n1 := news_of (w := w.alloc (.cells #[] 5)) (n := len) (c := c) (x := x) (fun k hk => ((Upd.refl (fun _ => False) w).alloc _).cell (lt_of_cell (hc k hk)) (fun h => h) |>.trans (hc k hk))
    have ownE : (w.alloc (.cells #[] 5)).ownsRow w.heap.size 5 1 (.slice (some ⟨w.heap.size, 0, none⟩) 0 0) 0 [] := World.ownsRow_lit w #[] 0 (Nat.le_refl _) (by decide) rfl
    have N1 := hide n1
    have OE := hide ownE
    clear n1 ownE hc
    have hq := fun w => eql_some w x len cap
    go_enter Try.func14, Try.ntmps14
    go_wp2_with (first | (at_builtin; refine wpList_append_own _ rfl (.tmp 5) (.tmp 6) 22 rfl w.heap.size 5 i0 (.int .u8 0) 1 1 Try.underlying22 hi hz0 hz1 hz2 rfl (by decide) _ _ _ rfl (unhide OE) x len cap (cells c len) rfl (by rw [cells_len, Nat.mul_one]) (unhide N1) (cells_one _ _) (by unfold maxLen; omega) (by omega) (by simp) ?_; intro v3 w3 own3 grow3 _; have O3 := hide own3; have G3 := hide grow3; clear own3 grow3) | fail)
    go_ret
    have o3 := unhide O3
    rw [Nat.zero_add, List.nil_append] at o3
    exact ⟨_, rfl, got_of o3, ((Below.refl _ w).alloc (Nat.le_refl _) _).grown (unhide G3) (by simp) (fun k hk => by cases hk; exact Nat.le_refl _)⟩
set_option maxHeartbeats 400000 in
theorem new8 (v : Value) (len : Nat) (c : Nat → Nat) (w : World) (h : Src w v len c) (hl : len ≤ 1000000) :
    Calls Try.prog 8 #[v] w fun e w' => ∃ g, e = .returned (.pointer (some ⟨g, 0, none⟩)) ∧ On w' w.heap.size w'.heap.size g c len 0 ∧ Below w.heap.size w w' := by
  have C := hide (clone14 v len c w h hl)
  clear h
  go_enter Try.func8, Try.ntmps8
  go_wp2_with fail
  refine (unhide C).mono ?_
  rintro e w1 ⟨u, rfl, ⟨a, cap, rfl, g1⟩, bel1⟩
  have G1 := hide g1
  have B1 := hide bel1
  clear g1 bel1 C
  go_wp2
  go_ret
  have hs : w.heap.size ≤ w1.heap.size := (unhide B1).size
  refine ⟨w1.heap.size, rfl, ⟨a, cap, Box.made _ _ _, hs, by simp, Nat.le_refl _, Nat.zero_le _, ?_⟩, (unhide B1).alloc hs _⟩
  rcases unhide G1 with h | ⟨b, rfl, h1, h2, h3⟩
  · exact .inl h
  · exact .inr ⟨b, rfl, h1, by simp; omega, by omega, fun k hk => by rw [World.cell?_alloc_past _ _ _ (by exact h2)]; exact h3 k hk⟩
end Go.Proofs.Ytjdnkjolbnplaaa.New
