/- Contract: package bitout's Join: the other writer's bits come behind, also of the writer itself. Conditions: the writers lie in memory, their bits are few. -/
import Derived.Test.YtieaglncimfelaaSam
namespace Go.Proofs.Ytieaglncimfelaa.Joi
open Go.ChangeShapes Go.WideShapes Go.ChangeAt Go.RowKit Go.Proofs.Ytieaglncimfelaa.Core Go.Proofs.Ytieaglncimfelaa.Foot Go.Proofs.Ytieaglncimfelaa.Add Go.Proofs.Ytieaglncimfelaa.Wri Go.Proofs.Ytieaglncimfelaa.Byt Go.Proofs.Ytieaglncimfelaa.Sam

set_option maxHeartbeats 400000 in
theorem join_none1 (v : Value) (w : World) :
    Calls Try.prog 14 #[.pointer none, v] w fun e w' => e = .returned (.tuple #[]) ∧ w' = w := by
  go_enter Try.func14, Try.ntmps14
  go_wp2
  (try simp only [Exit.inBlock, Exit.then]); refine bodyPost_ret (results_none rfl _ _ _) rfl ?_
  exact ⟨rfl, rfl⟩
set_option maxHeartbeats 400000 in
theorem join_none2 (g : Nat) (w : World) :
    Calls Try.prog 14 #[.pointer (some ⟨g, 0, none⟩), .pointer none] w fun e w' => e = .returned (.tuple #[]) ∧ w' = w := by
  go_enter Try.func14, Try.ntmps14
  go_wp2
  (try simp only [Exit.inBlock, Exit.then]); refine bodyPost_ret (results_none rfl _ _ _) rfl ?_
  exact ⟨rfl, rfl⟩
theorem join_step (V U N k : Nat) : V + U % 2 ^ (8 * k) * 2 ^ N + byt U k * 2 ^ (N + 8 * k) = V + U % 2 ^ (8 * (k + 1)) * 2 ^ N := by
  have e : U % 2 ^ (8 * (k + 1)) = U % 2 ^ (8 * k) + 2 ^ (8 * k) * byt U k := by
    unfold byt
    rw [show 8 * (k + 1) = 8 * k + 8 by omega, Nat.pow_add, Nat.mod_mul]
  rw [e, Nat.add_mul, Nat.pow_add]
  have : byt U k * (2 ^ N * 2 ^ (8 * k)) = 2 ^ (8 * k) * byt U k * 2 ^ N := by simp only [Nat.mul_comm, Nat.mul_assoc]
  omega
theorem join_last (V U N K : Nat) : V + U % 2 ^ (8 * K) * 2 ^ N + U / 2 ^ (8 * K) * 2 ^ (N + 8 * K) = V + U * 2 ^ N := by
  have e : U / 2 ^ (8 * K) * 2 ^ (N + 8 * K) = 2 ^ (8 * K) * (U / 2 ^ (8 * K)) * 2 ^ N := by
    rw [Nat.pow_add]; simp only [Nat.mul_comm, Nat.mul_left_comm]
  have h := Nat.mod_add_div U (2 ^ (8 * K))
  rw [e, Nat.add_assoc, ← Nat.add_mul, h]
theorem turn_drewN {w : World} (g : Nat) (v : Value) (n m : Nat) : Turn g v v n w (w.drewN m) := ⟨(Upd.refl _ _).drewN m, fun _ h => .inl h, fun _ _ _ _ => rfl⟩
theorem own_addr {w : World} {a : Option Addr} {K cap b : Nat} {xs : List Value} (h : w.ownsRow 0 5 1 (.slice a K cap) K xs) (hb : (Value.slice a K cap).ownBlock = some b) : a = some ⟨b, 0, none⟩ := by
  rcases h.2 with ⟨e, _⟩ | ⟨g, _, _, e, _⟩
  · cases e; simp [Value.ownBlock] at hb
  · cases e; simp [Value.ownBlock] at hb; rw [hb]
set_option maxRecDepth 20000 in
set_option maxHeartbeats 1000000 in
theorem join_raw (g h : Nat) (u v : Value) (V N U M : Nat) (w : World) (hv : Wr w g v V N) (hu : Wr w h u U M) (hN : N + M ≤ 900000)
    (hb : ∀ b, u.ownBlock = some b → b ≠ g ∧ (v.ownBlock = some b → M / 8 ≤ N / 8)) :
    Calls Try.prog 14 #[.pointer (some ⟨g, 0, none⟩), .pointer (some ⟨h, 0, none⟩)] w fun e w' => e = .returned (.tuple #[]) ∧ ∃ v', Wr w' g v' (V + U * 2 ^ N) (N + M) ∧ Turn g v v' (N / 8) w w' := by
  have U0 := hide hu.raw.own
  obtain ⟨a, cap, rfl⟩ := own_slice hu.raw.own
  have bx := hu.raw.box
  have hrest := rest_lt U M hu.lt
  have JL := hide (fun W : Unit => join_last V U N (M / 8))
  have V0 := hide hv
  have NE := hide hv.raw.ne
  have LT := hide (fun b (hb : v.ownBlock = some b) => (hv.raw.own.lt b hb).2)
  have HB := hide hb
  clear hu hv hb
  have c7 : M % 8 ≤ 7 := by omega
  have eM : 8 * (M / 8) + M % 8 = M := by omega
  generalize U / 2 ^ (8 * (M / 8)) = r at *
  generalize M % 8 = c at *
  generalize M / 8 = K at *
  have h0 := bx.cell 0
  have h1 := bx.cell 1
  have h2 := bx.cell 2
  simp at h0 h1 h2
  have hr32 : r < 128 := Nat.lt_of_lt_of_le hrest (Nat.pow_le_pow_right (j := 7) (by omega) c7)
  clear bx
  go_enter Try.func14, Try.ntmps14
  go_wp2
  go_quiet (fail)
  go_wp2
  go_loopw [29] (fun i wr => ∃ (k : Nat) (v' : Value), k ≤ K ∧ i = .int .i64 k ∧ Wr wr g v' (V + U % 2 ^ (8 * k) * 2 ^ N) (N + 8 * k) ∧ Turn g v v' (N / 8) w wr ∧
      (∀ b, (Value.slice a K cap).ownBlock = some b → b < wr.heap.size ∧ b ≠ g ∧ (v'.ownBlock = some b → K ≤ (N + 8 * k) / 8) ∧ ∀ j, j < K → wr.cell? ⟨b, j, none⟩ = some (.int .u8 (byt U j)))) (fun i _ => K - (intOf i).toNat)
  case atStart =>
    refine ⟨0, v, Nat.zero_le _, rfl, ?_, turn_drewN g v _ nq, fun b hb' => ?_⟩
    · have := (unhide V0).keep ((Upd.refl (fun _ => False) w).drewN nq) (fun _ _ h => h)
      simpa [Nat.mod_one] using this
    · have hb0 : a = some ⟨b, 0, none⟩ := own_addr (unhide U0) hb'
      subst hb0
      obtain ⟨b1, b2⟩ := unhide HB b hb'
      exact ⟨((unhide U0).lt b hb').2, b1, by simpa using b2, fun j hj => ((unhide U0).cellAt j (by omega)).trans (cells_at _ _ _ hj)⟩
  case round =>
    obtain ⟨k, v', hk, rfl, wr', turn, hcap⟩ := hrel
    have W1 := hide wr'
    have T1 := hide turn
    have C1 := hide hcap
    clear wr' turn hcap h0 h1 h2
    by_cases hlt : k < K
    · have hlt' : (k : Int) < (K : Int) := by omega
      obtain ⟨b, rfl⟩ : ∃ b, a = some ⟨b, 0, none⟩ := by
        rcases (unhide U0).2 with ⟨_, h⟩ | ⟨b, _, _, e, _⟩
        · omega
        · cases e; exact ⟨b, rfl⟩
      obtain ⟨b0, b1, b2, b3⟩ := unhide C1 b rfl
      have hcell := b3 k hlt
      have hx := byt_le U k
      have JS := hide (join_step V U N k)
      have A := hide (add16 g v' _ (N + 8 * k) (byt U k) 8 wr (unhide W1) (by omega) (by omega) (by omega))
      have B3 := hide b3
      clear b3
      generalize byt U k = x at *
      have hx' : (x : Int) ≤ 255 := by omega
      go_wp2_with fail
      refine (unhide A).mono ?_
      rintro e w2 ⟨rfl, v2, wr2, t2⟩
      have W2 := hide wr2
      have T2 := hide t2
      clear wr2 t2 A
      go_wp2
      go_roundw
      case rel =>
        refine ⟨k + 1, v2, by omega, by go_num, ?_, (unhide T1).trans (unhide T2) (by omega) (unhide NE) (unhide LT), fun b' hb' => ?_⟩
        · have := unhide W2
          rw [unhide JS] at this
          rw [show N + 8 * (k + 1) = N + 8 * k + 8 by omega]
          exact this
        · have e : b = b' := by simpa [Value.ownBlock] using hb'
          subst e
          refine ⟨Nat.lt_of_lt_of_le b0 (unhide T2).upd.size, b1, fun h2 => ?_, fun j hj => ?_⟩
          · rcases (unhide T2).stays.foot b h2 with h3 | h3
            · have := b2 h3; omega
            · omega
          · rw [← unhide B3 j hj]
            by_cases h3 : v'.ownBlock = some b
            · exact (unhide T2).stays.kept b j h3 (by have := b2 h3; omega)
            · exact (unhide T2).upd.cell (p := ⟨b, j, none⟩) b0 (fun h4 => by
                rcases h4 with h4 | h4
                · exact b1 h4
                · exact h3 h4)
      case measure => simp [intOf]; omega
    · obtain rfl : k = K := by omega
      have A := hide (add16 g v' _ (N + 8 * k) r c wr (unhide W1) (by omega) hrest (by omega))
      have hr' : (r : Int) ≤ 127 := by omega
      go_wp2_with fail
      refine (unhide A).mono ?_
      rintro e w2 ⟨rfl, v2, wr2, t2⟩
      have W2 := hide wr2
      have T2 := hide t2
      clear wr2 t2 A
      go_wp2
      go_end0
      refine ⟨rfl, v2, ?_, (unhide T1).trans (unhide T2) (by omega) (unhide NE) (unhide LT)⟩
      have := unhide W2
      rw [unhide JL ()] at this
      rw [show N + M = N + 8 * k + c by omega]
      exact this
end Go.Proofs.Ytieaglncimfelaa.Joi
