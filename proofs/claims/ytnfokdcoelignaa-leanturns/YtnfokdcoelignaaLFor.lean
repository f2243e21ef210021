/- Contracts: lean.Forth and lean.Back. Conditions: the modes are in memory, and pixels and modes are few; where the three are sound, the image is in memory. -/
import Derived.Test.YtnfokdcoelignaaLClo
import Derived.Test.YtnfokdcoelignaaLMak
import Derived.Test.YtnfokdcoelignaaLNum
import Derived.Laws.ResultCell
namespace Go.Proofs.Ytnfokdcoelignaa.LFor
set_option linter.unusedVariables false
open Go.ChangeShapes Go.WideShapes Go.ChangeAt Go.RowKit Go.Sort Go.Proofs.Ytnfokdcoelignaa.Core Go.Proofs.Ytnfokdcoelignaa.PNum Go.Proofs.Ytnfokdcoelignaa.PFun Go.Proofs.Ytnfokdcoelignaa.PGoo Go.Proofs.Ytnfokdcoelignaa.GGue Go.Proofs.Ytnfokdcoelignaa.GImg Go.Proofs.Ytnfokdcoelignaa.GAro Go.Proofs.Ytnfokdcoelignaa.GAtt Go.Proofs.Ytnfokdcoelignaa.GCpy Go.Proofs.Ytnfokdcoelignaa.LBlk Go.Proofs.Ytnfokdcoelignaa.LMod Go.Proofs.Ytnfokdcoelignaa.LSnd Go.Proofs.Ytnfokdcoelignaa.LEch Go.Proofs.Ytnfokdcoelignaa.LClo Go.Proofs.Ytnfokdcoelignaa.LMak Go.Proofs.Ytnfokdcoelignaa.LNum

theorem results_row_tmp {P : Program} {fn : Func} {p u : Tmp} {ty : TypeId} (h : fn.results = #[.cell p ty, .tmp u]) (tmps : Array Value) (w : World) (g : Nat) (t : TypeId) (cs : Array Value) (fr : Nat × Nat) (d : TypeDesc)
    (hp : tmps.getD p undef = .pointer (some ⟨g, 0, none⟩)) (hg : w.heap[g]? = some (.cells cs t fr))
    (hu : P.underlying ty = some d) (hd : (match d with | .struct _ | .array _ _ => true | _ => false) = true) (hi : (P.info? ty).map (·.size) = some cs.size) :
    (results fn tmps).run P w = .ok (.tuple #[.agg cs, tmps.getD u undef]) w := by
  have hp' : tmps[p]?.getD undef = .pointer (some ⟨g, 0, none⟩) := by simpa using hp
  simp [results, h, hp', asAddr, run_loadVar_row w g t ty cs fr d hg hu hd hi]
theorem gu_at {W X Y i : Nat} (k : Nat) (md : Nat → Int) (z : Nat → Nat) (hX : X < W) (hi : i = Y * W + X) : gu W k md z i = atV W z (md (bk W k X Y)) X Y := by
  have h1 : i % W = X := by rw [hi, Nat.mul_comm, Nat.mul_add_mod, Nat.mod_eq_of_lt hX]
  have h2 : i / W = Y := by rw [hi, Nat.mul_comm, Nat.mul_add_div (by omega), Nat.div_eq_of_lt hX, Nat.add_zero]
  unfold gu moV
  rw [h1, h2]
/-- Both images, and the result's place, while the pixels are put. -/
structure FoI (w0 : World) (W H b off n c cl gm gl gp gr : Nat) (f : Nat → Nat → Nat) (i : Nat) (wr : World) : Prop where
  bm : Box wr gm 24 #[.int .i64 W, .int .i64 H, .slice (some ⟨b, off, none⟩) n c]
  bn : Box wr gl 24 #[.int .i64 W, .int .i64 H, .slice (some ⟨gp, 0, none⟩) n cl]
  br : Box wr gr 24 #[.int .i64 0, .int .i64 0, .slice none 0 0]
  row : Pow wr gp n (f i)
  bel : Below w0.heap.size w0 wr
theorem bel_into {w0 a b : World} (h : Below w0.heap.size w0 a) (k : Below a.heap.size a b) : Below w0.heap.size w0 b := h.trans (k.mono h.size)
theorem FoI.keep {w0 wr w' : World} {W H b off n c cl gm gl gp gr : Nat} {f : Nat → Nat → Nat} {i : Nat} (h : FoI w0 W H b off n c cl gm gl gp gr f i wr) (u : Below wr.heap.size wr w') : FoI w0 W H b off n c cl gm gl gp gr f i w' :=
  ⟨h.bm.below u h.bm.lt, h.bn.below u h.bn.lt, h.br.below u h.br.lt, h.row.below u, bel_into h.bel u⟩
theorem FoI.next {w0 wr w' : World} {W H b off n c cl gm gl gp gr : Nat} {f : Nat → Nat → Nat} {i v : Nat} (h : FoI w0 W H b off n c cl gm gl gp gr f i wr) (p : Put wr gp i v w')
    (e : ∀ j, j < n → (if j = i then v else f i j) = f (i + 1) j) (n1 : gm ≠ gp) (n2 : gl ≠ gp) (n4 : gr ≠ gp) (hg : w0.heap.size ≤ gp) : FoI w0 W H b off n c cl gm gl gp gr f (i + 1) w' ∧ Upd (fun k => k = gp) wr w' := by
  obtain ⟨⟨w1, b1, rfl⟩⟩ := p
  have k := h.keep b1
  exact ⟨⟨k.bm.other n1 _, k.bn.other n2 _, k.br.other n4 _, (k.row.set i v).congr e, k.bel.setCell (p := ⟨gp, i, none⟩) hg _⟩, (Upd.ofBelow (S := fun k => k = gp) b1).setCell (p := ⟨gp, i, none⟩) rfl _⟩
def fwd (W k : Nat) (md : Nat → Int) (z : Nat → Nat) (i j : Nat) : Nat := if j < i then foV W k md z j else 0
theorem fwd_next (W k : Nat) (md : Nat → Int) (z : Nat → Nat) (i j : Nat) : (if j = i then foV W k md z i else fwd W k md z i j) = fwd W k md z (i + 1) j := by
  unfold fwd
  by_cases e : j = i
  · subst e
    rw [if_pos rfl, if_pos (by omega)]
  · rw [if_neg e]
    by_cases e2 : j < i
    · rw [if_pos e2, if_pos (by omega)]
    · rw [if_neg e2, if_neg (by omega)]
theorem each_forth {w0 w5 : World} {W H b off n c cl gm gl gp gr k m mb mo : Nat} (cm : Nat) {z : Nat → Nat} {md : Nat → Int} (F : FoI w0 W H b off n c cl gm gl gp gr (fwd W k md z) 0 w5) (I : Img w0 W H b off n z) (M : Mds w0 (some ⟨mb, mo, none⟩) m md)
    (hW0 : 0 < W) (hH0 : 0 < H) (hk : k ≤ 9) (hm : m = bl W k * bl H k) (n1 : gm ≠ gp) (n2 : gl ≠ gp) (n4 : gr ≠ gp) (hg : w0.heap.size ≤ gp) :
    Calls Try.prog 20 #[.agg #[.int .i64 k, .int .i64 (bl W k), .slice (some ⟨mb, mo, none⟩) m cm], .agg #[.int .i64 W, .int .i64 H, .slice (some ⟨b, off, none⟩) n c], .func (.func 21) #[] #[.pointer (some ⟨gm, 0, none⟩), .pointer (some ⟨gl, 0, none⟩)]] w5 fun e w' =>
      e = .returned (.tuple #[]) ∧ FoI w0 W H b off n c cl gm gl gp gr (fwd W k md z) n w' := by
  have hn0 : 0 < n := by rw [I.hn]; exact Nat.mul_pos hW0 hH0
  have hb : b ≠ gp := by have := I.px.lt hn0; omega
  refine each20 21 (enters_of Try.func21 (by kernel_rfl) rfl) _ cm c _ md (fun j => j = gp) (FoI w0 W H b off n c cl gm gl gp gr (fwd W k md z)) w5 hW0 I.hW I.hH I.hn hk hm (fun j hj => ?_) F (fun i wr w' h u => h.keep u) (fun i wr h => M.below h.bel) ?_
  · rw [hj]; exact lt_of_cell (F.row 0 hn0).1
  · intro i X Y wr hi hX hY e h
    refine (clo21 c cl (md (bk W k X Y)) i X Y h.bm h.bn (I.below h.bel) h.row hX hY e n1 n2 hb).mono fun e' w' ⟨he, p⟩ => ?_
    rw [← gu_at k md z hX e] at p
    have S1 := fwd_next W k md z i
    exact ⟨he, h.next p (fun j _ => S1 j) n1 n2 n4 hg⟩
theorem each_back {w0 w5 : World} {W H b off n c cl gm gl gp gr k m mb mo : Nat} (cm : Nat) {z : Nat → Nat} {md : Nat → Int} (F : FoI w0 W H b off n c cl gm gl gp gr (stV W k md z) 0 w5) (I : Img w0 W H b off n z) (M : Mds w0 (some ⟨mb, mo, none⟩) m md)
    (hW0 : 0 < W) (hH0 : 0 < H) (hk : k ≤ 9) (hm : m = bl W k * bl H k) (n1 : gm ≠ gp) (n2 : gl ≠ gp) (n4 : gr ≠ gp) (hg : w0.heap.size ≤ gp) :
    Calls Try.prog 20 #[.agg #[.int .i64 k, .int .i64 (bl W k), .slice (some ⟨mb, mo, none⟩) m cm], .agg #[.int .i64 W, .int .i64 H, .slice (some ⟨b, off, none⟩) n c], .func (.func 24) #[] #[.pointer (some ⟨gm, 0, none⟩), .pointer (some ⟨gl, 0, none⟩)]] w5 fun e w' =>
      e = .returned (.tuple #[]) ∧ FoI w0 W H b off n c cl gm gl gp gr (stV W k md z) n w' := by
  have hn0 : 0 < n := by rw [I.hn]; exact Nat.mul_pos hW0 hH0
  have hb : b ≠ gp := by have := I.px.lt hn0; omega
  refine each20 24 (enters_of Try.func24 (by kernel_rfl) rfl) _ cm c _ md (fun j => j = gp) (FoI w0 W H b off n c cl gm gl gp gr (stV W k md z)) w5 hW0 I.hW I.hH I.hn hk hm (fun j hj => ?_) F (fun i wr w' h u => h.keep u) (fun i wr h => M.below h.bel) ?_
  · rw [hj]; exact lt_of_cell (F.row 0 hn0).1
  · intro i X Y wr hi hX hY e h
    refine (clo24 c cl (md (bk W k X Y)) i X Y h.bm h.bn (I.below h.bel) h.row hX hY e n1 n2 hb).mono fun e' w' ⟨he, p⟩ => ?_
    rw [← gu_at k md _ hX e] at p
    have S1 : ∀ j, (if j = i then addV (z i) (gu W k md (stV W k md z i) i) else stV W k md z i j) = stV W k md z (i + 1) j := fun j => rfl
    exact ⟨he, h.next p (fun j _ => S1 j) n1 n2 n4 hg⟩
/-- An image of one's own. -/
structure Gives (w : World) (n g : Nat) (f : Nat → Nat) (w' : World) : Prop where
  row : Pow w' g n f
  new : w.heap.size ≤ g
  bel : Below w.heap.size w w'
theorem FoI.cells {w0 wr : World} {W H b off n c cl gm gl gp gr : Nat} {f : Nat → Nat → Nat} {i : Nat} (h : FoI w0 W H b off n c cl gm gl gp gr f i wr) :
    (wr.cell? ⟨gm, 0, none⟩ = some (.int .i64 W) ∧ wr.cell? ⟨gm, 1, none⟩ = some (.int .i64 H) ∧ wr.cell? ⟨gm, 2, none⟩ = some (.slice (some ⟨b, off, none⟩) n c)) ∧
    (wr.cell? ⟨gl, 0, none⟩ = some (.int .i64 W) ∧ wr.cell? ⟨gl, 1, none⟩ = some (.int .i64 H) ∧ wr.cell? ⟨gl, 2, none⟩ = some (.slice (some ⟨gp, 0, none⟩) n cl)) ∧
    (wr.cell? ⟨gr, 0, none⟩ = some (.int .i64 0) ∧ wr.cell? ⟨gr, 1, none⟩ = some (.int .i64 0) ∧ wr.cell? ⟨gr, 2, none⟩ = some (.slice none 0 0)) ∧
    wr.frozen? ⟨gr, 0, none⟩ = false ∧ wr.frozen? ⟨gr, 1, none⟩ = false ∧ wr.frozen? ⟨gr, 2, none⟩ = false ∧ gr < wr.heap.size ∧ gl < wr.heap.size :=
  ⟨⟨h.bm.cell 0, h.bm.cell 1, h.bm.cell 2⟩, ⟨h.bn.cell 0, h.bn.cell 1, h.bn.cell 2⟩, ⟨h.br.cell 0, h.br.cell 1, h.br.cell 2⟩, h.br.free 0, h.br.free 1, h.br.free 2, h.br.lt, h.bn.lt⟩
set_option maxHeartbeats 400000 in
theorem forth8_no (W H bits : Int) (a a' : Option Addr) (n c m cm : Nat) (md : Nat → Int) (w : World) (hl : m ≤ 1000000) (src : Mds w a' m md) (h : soV W H n bits m md = false) :
    Calls Try.prog 8 #[.agg #[.int .i64 W, .int .i64 H, .slice a n c], .int .i64 bits, .slice a' m cm] w fun e w' => e = .returned (.tuple #[.agg #[.int .i64 0, .int .i64 0, .slice none 0 0], .int .i64 1]) ∧ Below w.heap.size w w' := by
  have SRC := hide src
  have HS := hide h
  have BL := hide (bel_a2 w (.cells #[.int .i64 W, .int .i64 H, .slice a n c] 24) (.cells #[.int .i64 0, .int .i64 0, .slice none 0 0] 24))
  have BR := hide (two_boxes w #[.int .i64 W, .int .i64 H, .slice a n c] #[.int .i64 0, .int .i64 0, .slice none 0 0] 24 24).2
  clear src h
  go_enter Try.func8, Try.ntmps8
  go_wp2_with fail
  refine (sound11 W H bits a a' n c m cm md _ hl ((unhide SRC).below (unhide BL))).mono ?_
  rintro e w2 ⟨rfl, b2⟩
  have B2 := hide (below_two (unhide BL) b2)
  have R2 := hide ((unhide BR).below b2 (unhide BR).lt)
  obtain ⟨⟨r0, r1, r2⟩, f0, f1, f2⟩ := box_cells (unhide R2)
  have hr := (unhide R2).lt
  clear b2 BL BR
  rw [unhide HS]
  go_wp2
  exact bodyPost_ret (results_row_tmp rfl _ _ (w.heap.size + 1) 24 _ (0, 0) _ rfl ((((unhide R2).set 0 _).set 1 _).set 2 _) Try.underlying24 rfl (by kernel_rfl)) rfl ⟨rfl, (((unhide B2).setCell (p := ⟨w.heap.size + 1, 0, none⟩) (by simp) _).setCell (p := ⟨w.heap.size + 1, 1, none⟩) (by simp) _).setCell (p := ⟨w.heap.size + 1, 2, none⟩) (by simp) _⟩
set_option maxHeartbeats 1000000 in
theorem forth8 {W H b off n k m mb mo : Nat} (c cm : Nat) {z : Nat → Nat} {md : Nat → Int} {w : World} (I : Img w W H b off n z) (M : Mds w (some ⟨mb, mo, none⟩) m md) (hl : m ≤ 1000000) (hn : n ≤ 1000000) (hs : soV W H n k m md = true) :
    Calls Try.prog 8 #[.agg #[.int .i64 W, .int .i64 H, .slice (some ⟨b, off, none⟩) n c], .int .i64 k, .slice (some ⟨mb, mo, none⟩) m cm] w fun e w' =>
      ∃ g, e = .returned (.tuple #[.agg #[.int .i64 W, .int .i64 H, .slice (some ⟨g, 0, none⟩) n n], .int .i64 0]) ∧ Gives w n g (foV W k md z) w' := by
  obtain ⟨W', H', k', eW, eH, ek, hW1, hW, hH1, hH, hn', hk2, hk, hm, hmd⟩ := so_of hs
  obtain rfl : W = W' := by omega
  obtain rfl : H = H' := by omega
  obtain rfl : k = k' := by omega
  clear eW eH ek hmd hn'
  have I0 := hide I
  have M0 := hide M
  have HS := hide hs
  have HM := hide hm
  have BL := hide (bel_a2 w (.cells #[.int .i64 W, .int .i64 H, .slice (some ⟨b, off, none⟩) n c] 24) (.cells #[.int .i64 0, .int .i64 0, .slice none 0 0] 24))
  have BR := hide (two_boxes w #[.int .i64 W, .int .i64 H, .slice (some ⟨b, off, none⟩) n c] #[.int .i64 0, .int .i64 0, .slice none 0 0] 24 24)
  clear I M hs hm
  go_enter Try.func8, Try.ntmps8
  go_wp2_with fail
  refine (sound11 W H k (some ⟨b, off, none⟩) (some ⟨mb, mo, none⟩) n c m cm md _ hl ((unhide M0).below (unhide BL))).mono ?_
  rintro e w2 ⟨rfl, b2⟩
  have B2 := hide (below_two (unhide BL) b2)
  have X2 := hide ((unhide BR).1.below b2 (unhide BR).1.lt)
  have R2 := hide ((unhide BR).2.below b2 (unhide BR).2.lt)
  obtain ⟨⟨m0, m1, m2⟩, _⟩ := box_cells (unhide X2)
  have hx2 := (unhide R2).lt
  clear b2 BL BR
  rw [unhide HS]
  go_wp2_with fail
  refine (same18 W H (some ⟨b, off, none⟩) n c _ hn).mono ?_
  rintro e w3 ⟨rfl, E3⟩
  have F4 : Hid (FoI w W H b off n c n w.heap.size w3.heap.size (w2.heap.size + 2) (w.heap.size + 1) (fwd W k md z) 0 (w3.alloc (.cells #[.int .i64 W, .int .i64 H, .slice (some ⟨w2.heap.size + 2, 0, none⟩) n n] 24))) :=
    hide ⟨((unhide X2).below E3.bel (unhide X2).lt).alloc _, Box.made _ _ _, ((unhide R2).below E3.bel (unhide R2).lt).alloc _, (E3.row.congr (fun i _ => rfl)).below (bel_a1 _ _), bel_into (bel_into (unhide B2) E3.bel) (bel_a1 _ _)⟩
  have N2 := hide (show w3.heap.size ≠ w2.heap.size + 2 from by have := E3.lt; omega)
  have N1 := hide (show w.heap.size ≠ w2.heap.size + 2 from by omega)
  have N4 := hide (show w.heap.size + 1 ≠ w2.heap.size + 2 from by omega)
  have NG := hide (show w.heap.size ≤ w2.heap.size + 2 from by omega)
  have NL := hide (show w.heap.size ≤ w3.heap.size from by have := E3.lt; omega)
  have NR := hide (show w.heap.size + 1 ≠ w3.heap.size from by have := E3.lt; omega)
  clear E3 m0 m1 m2 hx2 R2
  generalize w2.heap.size + 2 = gp at *
  go_upto_region 4 with fail
  generalize w3.alloc (.cells #[.int .i64 W, .int .i64 H, .slice (some ⟨gp, 0, none⟩) n n] 24) = w4 at *
  generalize w3.heap.size = gl at *
  obtain ⟨⟨m0, m1, m2⟩, _, _, _, _, _, _, hgl⟩ := (unhide F4).cells
  have hgm := (unhide F4).bm.lt
  go_region_held3 (fun w' => w'.cell? ⟨w.heap.size, 0, none⟩ = some (.int .i64 W) ∧ w'.cell? ⟨w.heap.size, 1, none⟩ = some (.int .i64 H) ∧ w'.cell? ⟨w.heap.size, 2, none⟩ = some (.slice (some ⟨b, off, none⟩) n c)) (first | go_keep | exact ⟨m05, m15, m25⟩ | exact ⟨m06, m16, m26⟩) ((first | (go_at_call 19; refine (blo19 W k H (some ⟨b, off, none⟩) (some ⟨mb, mo, none⟩) n c m cm _ hW hk).mono ?_; rintro e w5 ⟨rfl, b5⟩; have F5 := hide ((unhide F4).keep (below_two (bel_dr (Below.refl _ _)) b5)); obtain ⟨⟨m05, m15, m25⟩, _⟩ := (unhide F5).cells; have hg5 := (unhide F5).bm.lt; clear b5) | (go_at_call 20; refine (each_forth cm (unhide F5) (unhide I0) (unhide M0) (by omega) (by omega) hk (unhide HM) (unhide N1) (unhide N2) (unhide N4) (unhide NG)).mono ?_; rintro e w6 ⟨rfl, f6⟩; have F6 := hide f6; obtain ⟨⟨m06, m16, m26⟩, ⟨l06, l16, l26⟩, ⟨r06, r16, r26⟩, f06, f16, f26, t06, t16⟩ := f6.cells; clear f6)))
  all_goals go_wp2
  all_goals exact bodyPost_ret (results_row_tmp rfl _ _ (w.heap.size + 1) 24 _ (0, 0) _ rfl ((((unhide F6).br.set 0 _).set 1 _).set 2 _) Try.underlying24 rfl (by kernel_rfl)) rfl ⟨gp, rfl, ⟨((((unhide F6).row.other (p := ⟨w.heap.size + 1, 0, none⟩) (fun h => unhide N4 h.symm) _).other (p := ⟨w.heap.size + 1, 1, none⟩) (fun h => unhide N4 h.symm) _).other (p := ⟨w.heap.size + 1, 2, none⟩) (fun h => unhide N4 h.symm) _).congr (fun i hi => if_pos hi), unhide NG, (((unhide F6).bel.setCell (p := ⟨w.heap.size + 1, 0, none⟩) (by simp) _).setCell (p := ⟨w.heap.size + 1, 1, none⟩) (by simp) _).setCell (p := ⟨w.heap.size + 1, 2, none⟩) (by simp) _⟩⟩
set_option maxHeartbeats 400000 in
theorem back9_no (W H bits : Int) (a a' : Option Addr) (n c m cm : Nat) (md : Nat → Int) (w : World) (hl : m ≤ 1000000) (src : Mds w a' m md) (h : soV W H n bits m md = false) :
    Calls Try.prog 9 #[.agg #[.int .i64 W, .int .i64 H, .slice a n c], .int .i64 bits, .slice a' m cm] w fun e w' => e = .returned (.tuple #[.agg #[.int .i64 0, .int .i64 0, .slice none 0 0], .int .i64 1]) ∧ Below w.heap.size w w' := by
  have SRC := hide src
  have HS := hide h
  have BL := hide (bel_a2 w (.cells #[.int .i64 W, .int .i64 H, .slice a n c] 24) (.cells #[.int .i64 0, .int .i64 0, .slice none 0 0] 24))
  have BR := hide (two_boxes w #[.int .i64 W, .int .i64 H, .slice a n c] #[.int .i64 0, .int .i64 0, .slice none 0 0] 24 24).2
  clear src h
  go_enter Try.func9, Try.ntmps9
  go_wp2_with fail
  refine (sound11 W H bits a a' n c m cm md _ hl ((unhide SRC).below (unhide BL))).mono ?_
  rintro e w2 ⟨rfl, b2⟩
  have B2 := hide (below_two (unhide BL) b2)
  have R2 := hide ((unhide BR).below b2 (unhide BR).lt)
  obtain ⟨⟨r0, r1, r2⟩, f0, f1, f2⟩ := box_cells (unhide R2)
  have hr := (unhide R2).lt
  clear b2 BL BR
  rw [unhide HS]
  go_wp2
  exact bodyPost_ret (results_row_tmp rfl _ _ (w.heap.size + 1) 24 _ (0, 0) _ rfl ((((unhide R2).set 0 _).set 1 _).set 2 _) Try.underlying24 rfl (by kernel_rfl)) rfl ⟨rfl, (((unhide B2).setCell (p := ⟨w.heap.size + 1, 0, none⟩) (by simp) _).setCell (p := ⟨w.heap.size + 1, 1, none⟩) (by simp) _).setCell (p := ⟨w.heap.size + 1, 2, none⟩) (by simp) _⟩
set_option maxHeartbeats 1000000 in
theorem back9 {W H b off n k m mb mo : Nat} (c cm : Nat) {z : Nat → Nat} {md : Nat → Int} {w : World} (I : Img w W H b off n z) (M : Mds w (some ⟨mb, mo, none⟩) m md) (hl : m ≤ 1000000) (hn : n ≤ 1000000) (hs : soV W H n k m md = true) :
    Calls Try.prog 9 #[.agg #[.int .i64 W, .int .i64 H, .slice (some ⟨b, off, none⟩) n c], .int .i64 k, .slice (some ⟨mb, mo, none⟩) m cm] w fun e w' =>
      ∃ g, e = .returned (.tuple #[.agg #[.int .i64 W, .int .i64 H, .slice (some ⟨g, 0, none⟩) n n], .int .i64 0]) ∧ Gives w n g (baV W k md z) w' := by
  obtain ⟨W', H', k', eW, eH, ek, hW1, hW, hH1, hH, hn', hk2, hk, hm, hmd⟩ := so_of hs
  obtain rfl : W = W' := by omega
  obtain rfl : H = H' := by omega
  obtain rfl : k = k' := by omega
  clear eW eH ek hmd hn'
  have I0 := hide I
  have M0 := hide M
  have HS := hide hs
  have HM := hide hm
  have BL := hide (bel_a2 w (.cells #[.int .i64 W, .int .i64 H, .slice (some ⟨b, off, none⟩) n c] 24) (.cells #[.int .i64 0, .int .i64 0, .slice none 0 0] 24))
  have BR := hide (two_boxes w #[.int .i64 W, .int .i64 H, .slice (some ⟨b, off, none⟩) n c] #[.int .i64 0, .int .i64 0, .slice none 0 0] 24 24)
  clear I M hs hm
  go_enter Try.func9, Try.ntmps9
  go_wp2_with fail
  refine (sound11 W H k (some ⟨b, off, none⟩) (some ⟨mb, mo, none⟩) n c m cm md _ hl ((unhide M0).below (unhide BL))).mono ?_
  rintro e w2 ⟨rfl, b2⟩
  have B2 := hide (below_two (unhide BL) b2)
  have X2 := hide ((unhide BR).1.below b2 (unhide BR).1.lt)
  have R2 := hide ((unhide BR).2.below b2 (unhide BR).2.lt)
  obtain ⟨⟨m0, m1, m2⟩, _⟩ := box_cells (unhide X2)
  have hx2 := (unhide R2).lt
  clear b2 BL BR
  rw [unhide HS]
  go_wp2_with fail
  refine (same18 W H (some ⟨b, off, none⟩) n c _ hn).mono ?_
  rintro e w3 ⟨rfl, E3⟩
  have F4 : Hid (FoI w W H b off n c n w.heap.size w3.heap.size (w2.heap.size + 2) (w.heap.size + 1) (stV W k md z) 0 (w3.alloc (.cells #[.int .i64 W, .int .i64 H, .slice (some ⟨w2.heap.size + 2, 0, none⟩) n n] 24))) :=
    hide ⟨((unhide X2).below E3.bel (unhide X2).lt).alloc _, Box.made _ _ _, ((unhide R2).below E3.bel (unhide R2).lt).alloc _, (E3.row.congr (fun i _ => rfl)).below (bel_a1 _ _), bel_into (bel_into (unhide B2) E3.bel) (bel_a1 _ _)⟩
  have N2 := hide (show w3.heap.size ≠ w2.heap.size + 2 from by have := E3.lt; omega)
  have N1 := hide (show w.heap.size ≠ w2.heap.size + 2 from by omega)
  have N4 := hide (show w.heap.size + 1 ≠ w2.heap.size + 2 from by omega)
  have NG := hide (show w.heap.size ≤ w2.heap.size + 2 from by omega)
  have NL := hide (show w.heap.size ≤ w3.heap.size from by have := E3.lt; omega)
  have NR := hide (show w.heap.size + 1 ≠ w3.heap.size from by have := E3.lt; omega)
  clear E3 m0 m1 m2 hx2 R2
  generalize w2.heap.size + 2 = gp at *
  go_upto_region 4 with fail
  generalize w3.alloc (.cells #[.int .i64 W, .int .i64 H, .slice (some ⟨gp, 0, none⟩) n n] 24) = w4 at *
  generalize w3.heap.size = gl at *
  obtain ⟨⟨m0, m1, m2⟩, _, _, _, _, _, _, hgl⟩ := (unhide F4).cells
  have hgm := (unhide F4).bm.lt
  go_region_held3 (fun w' => w'.cell? ⟨w.heap.size, 0, none⟩ = some (.int .i64 W) ∧ w'.cell? ⟨w.heap.size, 1, none⟩ = some (.int .i64 H) ∧ w'.cell? ⟨w.heap.size, 2, none⟩ = some (.slice (some ⟨b, off, none⟩) n c)) (first | go_keep | exact ⟨m05, m15, m25⟩ | exact ⟨m06, m16, m26⟩) ((first | (go_at_call 19; refine (blo19 W k H (some ⟨b, off, none⟩) (some ⟨mb, mo, none⟩) n c m cm _ hW hk).mono ?_; rintro e w5 ⟨rfl, b5⟩; have F5 := hide ((unhide F4).keep (below_two (bel_dr (Below.refl _ _)) b5)); obtain ⟨⟨m05, m15, m25⟩, _⟩ := (unhide F5).cells; have hg5 := (unhide F5).bm.lt; clear b5) | (go_at_call 20; refine (each_back cm (unhide F5) (unhide I0) (unhide M0) (by omega) (by omega) hk (unhide HM) (unhide N1) (unhide N2) (unhide N4) (unhide NG)).mono ?_; rintro e w6 ⟨rfl, f6⟩; have F6 := hide f6; obtain ⟨⟨m06, m16, m26⟩, ⟨l06, l16, l26⟩, ⟨r06, r16, r26⟩, f06, f16, f26, t06, t16⟩ := f6.cells; clear f6)))
  all_goals go_wp2
  all_goals exact bodyPost_ret (results_row_tmp rfl _ _ (w.heap.size + 1) 24 _ (0, 0) _ rfl ((((unhide F6).br.set 0 _).set 1 _).set 2 _) Try.underlying24 rfl (by kernel_rfl)) rfl ⟨gp, rfl, ⟨((((unhide F6).row.other (p := ⟨w.heap.size + 1, 0, none⟩) (fun h => unhide N4 h.symm) _).other (p := ⟨w.heap.size + 1, 1, none⟩) (fun h => unhide N4 h.symm) _).other (p := ⟨w.heap.size + 1, 2, none⟩) (fun h => unhide N4 h.symm) _).congr (fun i hi => st_ba W k md z hi), unhide NG, (((unhide F6).bel.setCell (p := ⟨w.heap.size + 1, 0, none⟩) (by simp) _).setCell (p := ⟨w.heap.size + 1, 1, none⟩) (by simp) _).setCell (p := ⟨w.heap.size + 1, 2, none⟩) (by simp) _⟩⟩
end Go.Proofs.Ytnfokdcoelignaa.LFor
