/-
  What is proved: for every input the Go function BitinReads of the statements of layer 2 returns true, and its arguments read as before (whatever is read of any bytes, by any numbers of bits: the numbers, how many are left, and the end).
  Conditions: none.
-/
import Derived.Test.YtjdnkjolbnplaaaRows
import Derived.Test.YtjdnkjolbnplaaaNum
import Derived.WalkKit
import Derived.ProofKit
import Derived.OpenShut
import Derived.ShutString
import Derived.ChangeOld
import Derived.Below
namespace Go.Proofs.Ytjdnkjolbnplaaa.bitinReads
open Go.ChangeShapes Go.WideShapes Go.ChangeAt Go.RowKit
open Go.Proofs.Ytjdnkjolbnplaaa.Base Go.Proofs.Ytjdnkjolbnplaaa.Mem Go.Proofs.Ytjdnkjolbnplaaa.Rd Go.Proofs.Ytjdnkjolbnplaaa.New Go.Proofs.Ytjdnkjolbnplaaa.Ans Go.Proofs.Ytjdnkjolbnplaaa.Stp Go.Proofs.Ytjdnkjolbnplaaa.Eye Go.Proofs.Ytjdnkjolbnplaaa.Num
open Go.ChangeMaps (open_string shut_string)
set_option linter.unusedVariables false

theorem own : ownKnob Try.prog.godebug = none := by kernel_rfl
theorem laidOut : laidOutB Try.prog = true := by kernel_rfl

/-- WHAT THE WALK IS TOLD OF A SLICE OF INTEGERS THAT CAME IN: it is nil; or it leads to a row of 'cap' cells, the numbers 'zs' (the first 'len' are its elements, the rest its spare room), each fitting its kind. -/
def IsRow (k : IntKind) (w : World) (a : Option Addr) (len cap : Nat) (zs : List Int) : Prop :=
  (a = none ∧ len = 0 ∧ cap = 0 ∧ zs = []) ∨
  ∃ x, a = some x ∧ len ≤ cap ∧ cap ≤ maxLen ∧ zs.length = cap ∧ (∀ i, i < zs.length → w.cell? (x.add i) = some (.int k (zs.getD i 0))) ∧ ∀ n ∈ zs, (Lit.int k n).wf = true

theorem grown_refl (w : World) (row : Option Nat) : w.grownBy w row := ⟨rfl, rfl, rfl, Nat.le_refl _, fun _ _ _ => rfl⟩
theorem app_src {w : World} {ops : Array Oper} {rest : List Oper} {o : Oper} {a : Act} {Q : Exit → Act → World → Prop} (hgd : o.guard = none) (s x : Operand)
    (ho : o.op = .call { callee := .builtin .append, args := #[s, x], argTypes := #[22, 22] })
    (base : Nat) (v : Value) (n : Nat) (xs : List Value) (hs : a.eval s = v) (hown : w.ownsRow base 5 1 v n xs)
    (u : Value) (len : Nat) (c : Nat → Nat) (hx : a.eval x = u) (src : Src w u len c) (hn : n + len ≤ 1000000) (hbase : base ≤ w.heap.size)
    (h : ∀ v' w', w'.ownsRow base 5 1 v' (n + len) (xs ++ cells c len) → w.grownBy w' v.ownBlock → wpList Try.prog ops Q rest (a.put o.dst v') w') : wpList Try.prog ops Q (o :: rest) a w := by
  obtain ⟨i0, hi, hz0, hz1, hz2⟩ := info_parts Try.info5
  rcases src with ⟨rfl, rfl⟩ | ⟨ad, cap, rfl, hc⟩
  · refine wpList_append_own_none hgd s x 22 ho base 5 i0 1 Try.underlying22 hi v n xs hs hown hx (h v w ?_ (grown_refl _ _))
    rw [show cells c 0 = [] from rfl, List.append_nil]
    exact hown
  · exact wpList_append_own w hgd s x 22 ho base 5 i0 (.int .u8 0) 1 1 Try.underlying22 hi hz0 hz1 hz2 rfl (by decide) v n xs hs hown ad len cap (cells c len) hx (by rw [cells_len, Nat.mul_one])
      (news_of hc) (cells_one _ _) (by unfold maxLen; omega) (by omega) hbase (fun v' w' h1 h2 _ => h v' w' h1 h2)
theorem own_slice {w : World} {base n : Nat} {v : Value} {xs : List Value} (h : w.ownsRow base 5 1 v n xs) : ∃ a cap, v = .slice a n cap := by
  rcases h.2 with ⟨rfl, h0⟩ | ⟨g, cap, cur, rfl, _⟩
  · exact ⟨none, 0, by rw [h0]⟩
  · exact ⟨_, _, rfl⟩
theorem src_of_own {w : World} {base n : Nat} {v : Value} {c : Nat → Nat} (h : w.ownsRow base 5 1 v n (cells c n)) : Src w v n c := by
  rcases h.2 with ⟨rfl, h0⟩ | ⟨g, cap, cur, rfl, _⟩
  · exact .inl ⟨rfl, h0⟩
  · exact .inr ⟨_, cap, rfl, fun k hk => by rw [add_plain, Nat.zero_add]; exact (h.cellAt k (by omega)).trans (cells_at c n k hk)⟩
theorem cells_set (c : Nat → Nat) (n k z : Nat) : (cells c n).set k (.int .u8 z) = cells (fun j => if j = k then z else c j) n := by
  apply List.ext_getElem?
  intro j
  rw [List.getElem?_set]
  by_cases hj : j < n
  · rw [cells_at _ n j hj, cells_at _ n j hj, cells_len]
    by_cases e : k = j
    · subst e; simp [hj]
    · have : ¬ j = k := fun h => e h.symm
      simp [e, this]
  · rw [List.getElem?_eq_none (l := cells c n) (by rw [cells_len]; omega), List.getElem?_eq_none (l := cells _ n) (by rw [cells_len]; omega), cells_len]
    split
    · rw [if_neg (by omega)]
    · rfl
theorem resV_lt (c : Nat → Nat) (len : Nat) (s : Option Nat) (n : Nat) : resV c len s n < 2 ^ n := by
  have h : 0 < 2 ^ n := Nat.pow_pos (by omega)
  unfold resV
  split
  · split
    · exact val_lt _ _ _ _
    · exact h
  · exact h
theorem ways (c : Nat → Nat) (len : Nat) (s : Option Nat) (m : Nat) :
    (0 < m ∧ stp len s m = none ∧ resE len s m = 2 ∧ resV c len s m = 0) ∨ (∃ i, stp len s m = some i ∧ resE len s m = 0) ∨ (m = 0 ∧ stp len s m = none ∧ resE len s m = 0 ∧ resV c len s m = 0) := by
  by_cases hm : m = 0
  · cases s with
    | none => exact .inr (.inr ⟨hm, by simp [stp, hm], by simp [resE, hm], rfl⟩)
    | some i => exact .inr (.inl ⟨i, by simp [stp, hm], by simp [resE, hm]⟩)
  · cases s with
    | none => exact .inl ⟨by omega, by simp [stp], by simp [resE, hm], rfl⟩
    | some i =>
      by_cases h : i + m ≤ 8 * len
      · exact .inr (.inl ⟨i + m, by simp [stp, hm, h], by simp [resE, hm, h]⟩)
      · exact .inl ⟨by omega, by simp [stp, hm, h], by simp [resE, hm, h], by simp [resV, h]⟩

set_option maxRecDepth 20000 in
set_option maxHeartbeats 1000000 in
theorem walk (a0 : Option Addr) (len0 cap0 : Nat) (z0 : List Int) (a1 : Option Addr) (len1 cap1 : Nat) (z1 : List Int) (w : World) (w0 : IsRow .u8 w a0 len0 cap0 z0) (w1 : IsRow .i64 w a1 len1 cap1 z1) :
    Calls Try.prog 3 #[.slice a0 len0 cap0, .slice a1 len1 cap1] w fun e w' => e = .returned (.bool true) ∧ Below w.heap.size w w' := by
  by_cases hbig : 1000 < len0
  · have hbig' : (1000 : Int) < (len0 : Int) := by omega
    clear w0 w1
    go_enter Try.func3, Try.ntmps3
    go_wp2_with (go_at_call 7; refine (ans7 _).mono ?_; rintro e w1 ⟨rfl, bel⟩)
    go_ret
    exact ⟨rfl, bel⟩
  by_cases hbig2 : 300 < len1
  · have hbig' : (len0 : Int) ≤ 1000 := by omega
    have hbig2' : (300 : Int) < (len1 : Int) := by omega
    clear w0 w1
    go_enter Try.func3, Try.ntmps3
    go_wp2_with (go_at_call 7; refine (ans7 _).mono ?_; rintro e w1 ⟨rfl, bel⟩)
    go_ret
    exact ⟨rfl, bel⟩
  have hlen : (len0 : Int) ≤ 1000 := by omega
  have hlen1 : (len1 : Int) ≤ 300 := by omega
  obtain ⟨c, hc, src⟩ := src_of_row w0
  have SRC := hide src
  have ROW := hide w1
  have ownE : (w.alloc (.cells #[] 5)).ownsRow w.heap.size 5 1 (.slice (some ⟨w.heap.size, 0, none⟩) 0 0) 0 [] := World.ownsRow_lit w #[] 0 (Nat.le_refl _) (by decide) rfl
  have OE := hide ownE
  have SA := hide (src.keep ((Upd.refl (fun _ => False) w).alloc (.cells #[] 5)) (fun _ h => h.elim))
  clear w0 w1 src ownE
  go_enter Try.func3, Try.ntmps3
  go_wp2_with (first | (at_builtin; refine app_src rfl (.tmp 24) (.tmp 25) rfl w.heap.size _ 0 [] rfl (unhide OE) _ len0 c rfl (unhide SA) (by omega) (by simp) ?_; intro v3 w3 own3 grow3; rw [Nat.zero_add, List.nil_append] at own3; have O3 := hide own3; have B3 := hide (((Below.refl w.heap.size w).alloc (Nat.le_refl _) (.cells #[] 5)).grown grow3 (by simp) (fun k hk => by cases hk; exact Nat.le_refl _)); obtain ⟨ai, capi, rfl⟩ := own_slice own3; clear own3 grow3) | fail)
  refine (new8 _ len0 c _ (src_of_own (unhide O3)) (by omega)).mono ?_
  rintro e w4 ⟨g, rfl, on4, bel4⟩
  have AT4 := hide (On.at on4)
  have O4 := hide ((unhide O3).kept (w' := w4) (row := none) ⟨bel4.os, bel4.tape, bel4.output, bel4.size, fun k hk _ => bel4.block k hk⟩ (by cases ai <;> simp [Value.ownBlock]))
  have L4 := hide (unhide O3).lt
  have B4 := hide ((unhide B3).trans (bel4.mono (unhide B3).size))
  have s3 := (unhide B3).size
  have s4 := bel4.size
  have lg := (unhide AT4).1
  have lg' := (unhide AT4).2.1
  clear on4 bel4 O3 B3 OE SA
  go_wp2
  go_loopw [7] (fun i wr => ∃ k : Nat, k ≤ len0 ∧ i = .int .i64 k ∧ (∃ c' : Nat → Nat, (∀ j, c' j ≤ 255) ∧ wr.ownsRow w.heap.size 5 1 (.slice ai len0 capi) len0 (cells c' len0)) ∧ At wr w3.heap.size w4.heap.size g c len0 (some 0) ∧ Below w.heap.size w wr ∧ w4.heap.size ≤ wr.heap.size) (fun i _ => len0 - (intOf i).toNat)
  case atStart => exact ⟨0, Nat.zero_le _, rfl, ⟨c, hc, unhide O4⟩, unhide AT4, unhide B4, Nat.le_refl _⟩
  case round =>
    obtain ⟨k, hk, rfl, ⟨c', hc', own⟩, at_, bel, hsz⟩ := hrel
    clear O4 AT4 B4
    by_cases hlt : k < len0
    · have hlt' : (k : Int) < (len0 : Int) := by omega
      obtain ⟨gi, rfl⟩ : ∃ gi, ai = some ⟨gi, 0, none⟩ := by
        rcases own.2 with ⟨_, h0⟩ | ⟨gi, cap, cur, e, _⟩
        · omega
        · cases e; exact ⟨gi, rfl⟩
      have hcl := (own.cellAt k (by omega)).trans (cells_at c' len0 k hlt)
      have hfz := own.frozenAt k
      have hst := own.stored k (.int .u8 (((c' k + 1) % 256 : Nat) : Int))
      rw [cells_set] at hst
      have lgi := (unhide L4) gi rfl
      have HST := hide hst.1
      have AT5 := hide (at_.keep ((Upd.refl (fun j => j = gi) wr).setCell (p := ⟨gi, k, none⟩) rfl (.int .u8 (((c' k + 1) % 256 : Nat) : Int))) (fun j h1 h2 h3 => by omega))
      have B5 := hide (bel.setCell (p := ⟨gi, k, none⟩) lgi.1 (.int .u8 (((c' k + 1) % 256 : Nat) : Int)))
      have CK := hc' k
      have E := hide (show ((c' k : Int) + 1) % 256 = (((c' k + 1) % 256 : Nat) : Int) by omega)
      have HC : Hid (∀ j, (fun j => if j = k then (c' k + 1) % 256 else c' j) j ≤ 255) := fun j => by
        show (if j = k then (c' k + 1) % 256 else c' j) ≤ 255
        split
        · omega
        · exact hc' j
      clear own hst at_ bel
      generalize c' k = x at *
      go_wp2
      go_roundw
      case rel =>
        rw [unhide E]
        exact ⟨k + 1, by omega, by go_num, ⟨_, unhide HC, unhide HST⟩, unhide AT5, unhide B5, by simp [World.setCell]; omega⟩
      case measure => simp [intOf]; omega
    · have hlt' : (len0 : Int) ≤ (k : Int) := by omega
      have AT5 := hide at_
      have B5 := hide bel
      have S5 := hide ((unhide SRC).keep (Upd.ofBelow (S := fun _ => False) bel) (fun _ h => h.elim))
      clear own at_ bel
      have s5 : w4.heap.size ≤ wr.heap.size := hsz
      clear hsz
      go_wp2_with fail
      refine (look9 a0 len0 cap0 c hc _ (unhide S5) (by omega)).mono ?_
      rintro r w6 ⟨e, rfl, see6, bel6⟩
      have AT6 := hide ((unhide AT5).keep (Upd.ofBelow (S := fun _ => False) bel6) (fun _ _ _ h => h))
      have B6 := hide ((unhide B5).trans (bel6.mono (unhide B5).size))
      have EY6 : Hid (Eyes w6 wr.heap.size w6.heap.size e c len0 (some 0)) := see6
      have le1 : wr.heap.size ≤ e := by
        obtain ⟨_, _, _, h, _⟩ := see6
        exact h
      have s6 := bel6.size
      clear see6 bel6 AT5 B5 S5
      generalize hlo2 : wr.heap.size = lo2 at *
      generalize hhi2 : w6.heap.size = hi2 at *
      clear hlo2 hhi2
      go_wp2
      go_loopw [9] (fun i wr => ∃ k : Nat, k ≤ len1 ∧ i = .int .i64 k ∧ ∃ s, At wr w3.heap.size w4.heap.size g c len0 s ∧ Eyes wr lo2 hi2 e c len0 s ∧ Below w.heap.size w wr) (fun i _ => len1 - (intOf i).toNat)
      case atStart => exact ⟨0, Nat.zero_le _, rfl, _, unhide AT6, unhide EY6, unhide B6⟩
      case round =>
        obtain ⟨k, hk, rfl, s, at_, ey, bel⟩ := hrel
        clear AT6 EY6 B6
        have AT7 := hide at_
        have EY7 := hide ey
        have B7 := hide bel
        by_cases hlt : k < len1
        · have hlt' : (k : Int) < (len1 : Int) := by omega
          have hcell : ∃ b off n, a1 = some ⟨b, off, none⟩ ∧ wr.cell? ⟨b, off + k, none⟩ = some (.int .i64 n) ∧ -9223372036854775808 ≤ n ∧ n ≤ 9223372036854775807 := by
            rcases unhide ROW with ⟨_, h0, _⟩ | ⟨x, rfl, h1, h2, hz, hx, hwf⟩
            · omega
            · obtain ⟨b, off, rfl, hb⟩ := ints_at hx (by omega)
              have hm : z1.getD k 0 ∈ z1 := by
                rw [List.getD_eq_getElem?_getD, List.getElem?_eq_getElem (by omega)]; exact List.getElem_mem (by omega)
              have hbd := bounds_i64 (hwf _ hm)
              exact ⟨b, off, _, rfl, (bel.cell (p := ⟨b, off + k, none⟩) (lt_of_cell (hb k (by omega)))).trans (hb k (by omega)), hbd.1, hbd.2⟩
          obtain ⟨b, off, n, rfl, hcell, n0, n1⟩ := hcell
          clear at_ ey bel
          by_cases hn : n < 0 ∨ 32 < n
          · rcases hn with hn | hn
            · go_wp2_with (first | (go_at_call 10; refine (bits_arg g n _ (by omega)).mono ?_; rintro e w1 ⟨rfl, rfl⟩) | fail)
              go_roundw
              case rel => exact ⟨k + 1, by omega, by go_num, s, unhide AT7, unhide EY7, unhide B7⟩
              case measure => simp [intOf]; omega
            · have hn' : 0 ≤ n := by omega
              go_wp2_with (first | (go_at_call 10; refine (bits_arg g n _ (by omega)).mono ?_; rintro e w1 ⟨rfl, rfl⟩) | fail)
              go_roundw
              case rel => exact ⟨k + 1, by omega, by go_num, s, unhide AT7, unhide EY7, unhide B7⟩
              case measure => simp [intOf]; omega
          · obtain ⟨m, rfl⟩ := Int.eq_ofNat_of_zero_le (show 0 ≤ n by omega)
            have m1 : m ≤ 32 := by omega
            have m1' : (m : Int) ≤ 32 := by omega
            clear hn
            go_wp2_with fail
            refine (bits_step _ _ g len0 m s c hc _ (unhide AT7) (by omega) m1).mono ?_
            rintro r w8 ⟨rfl, at8, u8⟩
            have AT8 := hide at8
            have EY8 := hide ((unhide EY7).keep u8 (fun j h1 h2 h3 => by omega))
            have B8 := hide ((unhide B7).trans (u8.below w.heap.size (unhide B7).size (fun j hj => by omega)))
            clear at8 u8 AT7 EY7 B7
            go_wp2_with fail
            refine (num_step _ _ e len0 m s c hc _ (unhide EY8) (by omega) m1).mono ?_
            rintro r w9 ⟨rfl, ey9, u9⟩
            have EY9 := hide ey9
            have AT9 := hide ((unhide AT8).keep u9 (fun j h1 h2 h3 => by omega))
            have B9 := hide ((unhide B8).trans (u9.below w.heap.size (unhide B8).size (fun j hj => by omega)))
            clear ey9 u9 AT8 EY8 B8
            have VB := hide (resV_lt c len0 s m)
            have W := hide (ways c len0 s m)
            generalize resV c len0 s m = V at *
            generalize resE len0 s m = E at *
            generalize stp len0 s m = s' at *
            clear SRC
            rcases unhide W with ⟨hm, rfl, rfl, rfl⟩ | ⟨i, rfl, rfl⟩ | ⟨rfl, rfl, rfl, rfl⟩
            · obtain ⟨i, hsee⟩ := unhide EY9
              obtain ⟨ae, cape, bx, _, _, _, hi, _⟩ := id hsee
              have x0 := bx.cell 0
              have x1 := bx.cell 1
              have x2 := bx.cell 2
              simp at x0 x1 x2
              clear hsee bx W VB
              go_wp2
              go_quiet (fail)
              have AT10 : Hid (At (w9.drewN nq) w3.heap.size w4.heap.size g c len0 none) := AT9
              have EY10 : Hid (Eyes (w9.drewN nq) lo2 hi2 e c len0 none) := EY9
              have B10 : Hid (Below w.heap.size w (w9.drewN nq)) := below_drewN (unhide B9) nq
              have y2 : (w9.drewN nq).cell? ⟨e, 2, none⟩ = some (.bool true) := x2
              clear AT9 EY9 B9 x0 x1 x2
              generalize w9.drewN nq = wA at *
              go_wp2
              go_quiet ((first | (go_at_call 12; exact Calls.quiet_of (left_off g _ (unhide AT10).2.2.2)) | (go_at_call 13; exact Calls.quiet_of_same (over_off g _ (unhide AT10).2.2.2))))
              go_wp2
              go_roundw
              case rel => exact ⟨k + 1, by omega, by go_num, none, unhide AT10, unhide EY10, below_drewN (unhide B10) _⟩
              case measure => simp [intOf]; omega
            · obtain ⟨ae, cape, bx, _, _, _, hi, _⟩ := id (unhide EY9)
              have x0 := bx.cell 0
              have x1 := bx.cell 1
              have x2 := bx.cell 2
              simp at x0 x1 x2
              have vb : (V : Int) ≤ 4294967295 := by
                have h1 : (2 : Nat) ^ m ≤ 2 ^ 32 := Nat.pow_le_pow_right (by omega) m1
                have h4 : (2 : Nat) ^ 32 = 4294967296 := by decide
                have := unhide VB
                omega
              have LF := hide (show ((8 * len0 - i : Nat) : Int) = ((8 * len0 : Nat) : Int) - (i : Int) by omega)
              have LC : Hid (∀ ww, At ww w3.heap.size w4.heap.size g c len0 (some i) → Calls Try.prog 12 #[.pointer (some ⟨g, 0, none⟩)] ww fun e w' => e = .returned (.int .i64 (((8 * len0 : Nat) : Int) - (i : Int))) ∧ ∃ k, w' = ww.drewN k) := fun ww h => by
                rw [← unhide LF]
                exact left_on _ _ g len0 i c ww h.2.2.2 (by omega)
              clear bx W VB LF
              have hL : ((8 * len0 : Nat) : Int) ≤ 8000 := by omega
              generalize 8 * len0 = L at *
              by_cases hm : m = 0
              all_goals
                first | subst hm | (have hm' : 0 < m := by omega)
                go_wp2
                go_quiet (fail)
                have AT10 : Hid (At (w9.drewN nq) w3.heap.size w4.heap.size g c len0 (some i)) := AT9
                have EY10 : Hid (Eyes (w9.drewN nq) lo2 hi2 e c len0 (some i)) := EY9
                have B10 : Hid (Below w.heap.size w (w9.drewN nq)) := below_drewN (unhide B9) nq
                have y2 : (w9.drewN nq).cell? ⟨e, 2, none⟩ = some (.bool false) := x2
                clear AT9 EY9 B9 x0 x1 x2
                generalize w9.drewN nq = wA at *
                go_wp2
                go_quiet ((first | (go_at_call 12; exact Calls.quiet_of (unhide LC _ (unhide AT10))) | (go_at_call 13; exact Calls.quiet_of_same (over_on _ _ g len0 i c _ (unhide AT10).2.2.2))))
                go_wp2
                go_roundw
                case rel => exact ⟨k + 1, by omega, by go_num, some i, unhide AT10, unhide EY10, below_drewN (unhide B10) _⟩
                case measure => simp [intOf]; omega
            · obtain ⟨i, hsee⟩ := unhide EY9
              obtain ⟨ae, cape, bx, _, _, _, hi, _⟩ := id hsee
              have x0 := bx.cell 0
              have x1 := bx.cell 1
              have x2 := bx.cell 2
              simp at x0 x1 x2
              clear hsee bx W VB
              go_wp2
              go_quiet (fail)
              have AT10 : Hid (At (w9.drewN nq) w3.heap.size w4.heap.size g c len0 none) := AT9
              have EY10 : Hid (Eyes (w9.drewN nq) lo2 hi2 e c len0 none) := EY9
              have B10 : Hid (Below w.heap.size w (w9.drewN nq)) := below_drewN (unhide B9) nq
              have y2 : (w9.drewN nq).cell? ⟨e, 2, none⟩ = some (.bool true) := x2
              clear AT9 EY9 B9 x0 x1 x2
              generalize w9.drewN nq = wA at *
              go_wp2
              go_quiet ((first | (go_at_call 12; exact Calls.quiet_of (left_off g _ (unhide AT10).2.2.2)) | (go_at_call 13; exact Calls.quiet_of_same (over_off g _ (unhide AT10).2.2.2))))
              go_wp2
              go_roundw
              case rel => exact ⟨k + 1, by omega, by go_num, none, unhide AT10, unhide EY10, below_drewN (unhide B10) _⟩
              case measure => simp [intOf]; omega
        · go_wp2_with (first | (go_at_call 7; refine (ans7 _).mono ?_; rintro e w1 ⟨rfl, b8⟩; have B8 := hide b8; clear b8) | fail)
          go_ret
          exact ⟨rfl, (unhide B7).trans ((unhide B8).mono (unhide B7).size)⟩

/-! ### THE ROW's STEP: WRITTEN OUT: LEAVE IT -/
set_option maxRecDepth 100000 in
theorem lifted (os : Os) (started : os.Started) (H : Type) (enc : TypeId × Value → H) :
    ReturnsInHanded {} Try.checked os 3 .any (Rows.bitinReadsSpec.pre6 enc Try.prog Try.f3 Rows.bitinReadsRow.domain false) (Rows.bitinReadsSpec.post enc Try.prog Try.f3 false true false false) := by
  refine returnsInHanded_of_change (C := Try.checked) own started (by kernel_rfl) Try.func3
    (ChangeSpec.witness6 (enc := enc) (C := Try.checked) false ⟨#[], #[.slice none 0 0, .slice none 0 0], []⟩ 8 (by kernel_rfl) (by kernel_rfl) (by kernel_rfl) (by kernel_rfl)) ?_
  intro W base args ds gs before hval0 hW hcnd _
  have hval : ∀ (j : Nat) t v, Try.f3.params[j]? = some t → args[j]? = some v → Value.okWide Try.prog W .any base t v := hval0
  have hW' := hW
  obtain ⟨p, q, hA0, hV, rfl, hfz, hnd⟩ := hW
  have hA : DataW.TrodAll enc Try.prog W 0 (fun _ => true) true Try.f3.params.toList args.toList ds p := hA0
  rw [Try.params3] at hA hval
  obtain ⟨v0, vs0, d0, ds0, p0, q0, hargs, rfl, rfl, h0, r0⟩ := trodAll_cons hA
  obtain ⟨v1, vs1, d1, ds1, p1, q1, rfl, rfl, rfl, h1, r1⟩ := trodAll_cons r0
  obtain ⟨rfl, rfl, rfl⟩ := trodAll_nil r1
  obtain rfl : args = #[v0, v1] := by cases args; simp_all
  obtain ⟨rfl, rfl⟩ := trodVars_none hV
  obtain ⟨a0, len0, cap0, rfl⟩ := okWide_slice Try.underlying22 (hval 0 22 v0 rfl rfl)
  have k0 := h0
  have lt0 : ∀ x ∈ p0, x.block < W.heap.size := by obtain ⟨m, hm⟩ := k0; exact DataW.trod_lt m _ _ _ hm
  obtain ⟨z0, w0⟩ : ∃ zs, IsRow .u8 W a0 len0 cap0 zs := by
    obtain ⟨fuel, hf⟩ := h0
    rcases open_ints Try.underlying22 Try.underlying5 (by kernel_rfl) hf with ⟨hcs, _⟩ | ⟨x, l, c, zs, hcs, _, hl, hm, hz, _, hcell, hwz⟩
    · simp [Value.cells] at hcs
      obtain ⟨rfl, rfl, rfl⟩ := hcs
      exact ⟨[], .inl ⟨rfl, rfl, rfl, rfl⟩⟩
    · simp [Value.cells] at hcs
      obtain ⟨rfl, rfl, rfl⟩ := hcs
      exact ⟨zs, .inr ⟨_, rfl, hl, hm, by simpa using hz, hcell, hwz⟩⟩
  obtain ⟨a1, len1, cap1, rfl⟩ := okWide_slice Try.underlying23 (hval 1 23 v1 rfl rfl)
  have k1 := h1
  have lt1 : ∀ x ∈ p1, x.block < W.heap.size := by obtain ⟨m, hm⟩ := k1; exact DataW.trod_lt m _ _ _ hm
  obtain ⟨z1, w1⟩ : ∃ zs, IsRow .i64 W a1 len1 cap1 zs := by
    obtain ⟨fuel, hf⟩ := h1
    rcases open_ints Try.underlying23 Try.underlying3 (by kernel_rfl) hf with ⟨hcs, _⟩ | ⟨x, l, c, zs, hcs, _, hl, hm, hz, _, hcell, hwz⟩
    · simp [Value.cells] at hcs
      obtain ⟨rfl, rfl, rfl⟩ := hcs
      exact ⟨[], .inl ⟨rfl, rfl, rfl, rfl⟩⟩
    · simp [Value.cells] at hcs
      obtain ⟨rfl, rfl, rfl⟩ := hcs
      exact ⟨zs, .inr ⟨_, rfl, hl, hm, by simpa using hz, hcell, hwz⟩⟩
  clear hA0 hval0
  refine (walk a0 len0 cap0 z0 a1 len1 cap1 z1 W w0 w1).mono fun e W' ⟨he, bel⟩ => ?_
  subst he
  exact ⟨_, rfl, _, _, _, [], _, [], hW', trodAll_mk1 (shut_bool Try.underlying4 _), (trodAll_cons_mk (Below.trod laidOut (by kernel_rfl) (of_decide_eq_true (by kernel_rfl)) k0 bel lt0) (trodAll_cons_mk (Below.trod laidOut (by kernel_rfl) (of_decide_eq_true (by kernel_rfl)) k1 bel lt1) trodAll_mk0)), rfl, bel.frame _, fun h => by cases h⟩

theorem over : Rows.bitinReadsRow.holds Try.pinned (OpenSpec.ofChange Rows.bitinReadsSpec) :=
  OpenClaim.holds_of_wide 3 Try.f3 rfl rfl rfl rfl rfl rfl rfl ⟨rfl, rfl, rfl, rfl, rfl⟩ rfl rfl rfl rfl rfl (by kernel_rfl) Try.func3 (by kernel_rfl)
    (of_decide_eq_true (by kernel_rfl)) (by unfold Func.isWrapper; first | (rw [if_pos (by decide +kernel)]; kernel_rfl) | (rw [if_neg (by decide +kernel)]; exact ⟨rfl, rfl⟩))
    (fun os started H enc _ => lifted os started H enc)

/-- ████ THE STATEMENT ████ -/
theorem proved : Rows.BitinReadsSaid := over
#print axioms proved
end Go.Proofs.Ytjdnkjolbnplaaa.bitinReads
