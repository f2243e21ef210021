/- Plain facts and a contract: a group of which each code has one symbol. Conditions: as each says. -/
import Derived.Test.YtgjpcjnhggcfdaaDoorHStp
import Derived.Test.YtgjpcjnhggcfdaaDoorHAns
namespace Go.Proofs.YtgjpcjnhggcfdaaDoor.HNot
set_option linter.unusedVariables false
open Go.ChangeShapes Go.WideShapes Go.ChangeAt Go.RowKit Go.Proofs.YtgjpcjnhggcfdaaDoor.Core Go.Proofs.YtgjpcjnhggcfdaaDoor.Gnd Go.Proofs.YtgjpcjnhggcfdaaDoor.Math Go.Proofs.YtgjpcjnhggcfdaaDoor.Dec Go.Proofs.YtgjpcjnhggcfdaaDoor.Wrd Go.Proofs.YtgjpcjnhggcfdaaDoor.Ord Go.Proofs.YtgjpcjnhggcfdaaDoor.Tre Go.Proofs.YtgjpcjnhggcfdaaDoor.Sml Go.Proofs.YtgjpcjnhggcfdaaDoor.PNum Go.Proofs.YtgjpcjnhggcfdaaDoor.HNum Go.Proofs.YtgjpcjnhggcfdaaDoor.HSiz Go.Proofs.YtgjpcjnhggcfdaaDoor.HFit Go.Proofs.YtgjpcjnhggcfdaaDoor.HFiv Go.Proofs.YtgjpcjnhggcfdaaDoor.HNew Go.Proofs.YtgjpcjnhggcfdaaDoor.HHas Go.Proofs.YtgjpcjnhggcfdaaDoor.HTel Go.Proofs.YtgjpcjnhggcfdaaDoor.HPar

/-- Where the ones stand. -/
def ats (p i : Nat) : Nat := if i = 0 then pt p 2 else if i = 1 then pt p 1 else if i = 2 then pt p 3 else if i = 3 then pt p 0 else 7
theorem ats_lt (p c i : Nat) (hi : i < 5) (hc : c ≤ 11) : ats p i < sz c i := by
  have h0 := pt_lt p 0; have h1 := pt_lt p 1; have h2 := pt_lt p 2; have h3 := pt_lt p 3
  rcases lt5 hi with rfl | rfl | rfl | rfl | rfl <;> simp [ats, sz] <;> omega
theorem ats_mod (p c i : Nat) (hi : i < 5) (hc : c ≤ 11) : ats p i % sz c i = ats p i := Nat.mod_eq_of_lt (ats_lt p c i hi hc)
theorem ats_bd (p i : Nat) : ats p i ≤ 65535 := by
  have h0 := pt_lt p 0; have h1 := pt_lt p 1; have h2 := pt_lt p 2; have h3 := pt_lt p 3
  unfold ats
  split; omega
  split; omega
  split; omega
  split <;> omega
/-- The lengths. -/
def fo (p i k : Nat) : Int := c1 (ats p i) 1 k
theorem fo_many (p c i : Nat) (hi : i < 5) (hc : c ≤ 11) : many (fo p i) (sz c i) = 1 := by
  show many (c1 (ats p i) 1) _ = 1
  rw [many1 _ _ (by omega), if_pos (ats_lt p c i hi hc)]
theorem fo_sel (p c i : Nat) (hi : i < 5) (hc : c ≤ 11) : sel (fo p i) (sz c i) = ats p i := sel1' _ _ (by omega) _ (ats_lt p c i hi hc)
theorem fo_chk (p c i : Nat) (hi : i < 5) (hc : c ≤ 11) : chk (fo p i) (sz c i) = 0 := chk1 _ _ _ (by omega) (by omega) (ats_lt p c i hi hc)
theorem fo_rng (p c i : Nat) : Rng (fo p i) (sz c i) := rng1 _ _ (by omega) _
theorem fo_has (p c i k : Nat) (hi : i < 5) (hc : c ≤ 11) : hasB (fo p i) (sz c i) k = decide (k = ats p i) := by
  have h := ats_lt p c i hi hc
  unfold hasB
  by_cases e : k = ats p i
  · subst e
    have : fo p i (ats p i) ≠ 0 := by show c1 (ats p i) 1 (ats p i) ≠ 0; rw [c1_at]; decide
    simp [h, this]
  · have : fo p i k = 0 := c1_no _ _ e
    simp [this, e]
theorem plit_ats (p i : Nat) (h : (plit p i).th = true) : (plit p i).sy = ats p i ∧ (plit p i).bi = 0 ∧ (plit p i).ex = 0 := by
  unfold plit ats at *
  split at h <;> rename_i e
  · subst e; exact ⟨rfl, rfl, rfl⟩
  · split at h <;> rename_i e1
    · subst e1; exact ⟨rfl, rfl, rfl⟩
    · split at h <;> rename_i e2
      · subst e2; exact ⟨rfl, rfl, rfl⟩
      · split at h <;> rename_i e3
        · subst e3; exact ⟨rfl, rfl, rfl⟩
        · cases h
theorem ok_lit (p c : Nat) (hc : c ≤ 11) : okA c (fo p) (plit p) = true := okA_yes fun i hi => by
  unfold okU
  cases h : (plit p i).th
  · rfl
  · rw [fo_has p c i _ hi hc, (plit_ats p i h).1]; simp
theorem no_lit (p x c : Nat) (hc : c ≤ 11) (hne : pt x 3 ≠ pt p 3) : okA c (fo p) (plit x) = false := okA_no (i := 2) (by omega) (by
  unfold okU
  have h : (plit x 2).th = true := rfl
  have h2 : (plit x 2).sy = pt x 3 := rfl
  rw [fo_has p c 2 _ (by omega) hc, h, h2]
  have h3 : ats p 2 = pt p 3 := rfl
  rw [h3]
  simp [hne])
theorem ln_lit (p c i : Nat) (hi : i < 5) (hc : c ≤ 11) : ln c (fo p) (plit p) i = 0 := by
  unfold ln
  by_cases h : (plit p i).th = true
  · rw [if_pos h, (plit_ats p i h).1, (plit_ats p i h).2.1]
    have := qq_one (c := fo p i) (n := sz c i) (fo_many p c i hi hc) (k := ats p i) (by show c1 (ats p i) 1 (ats p i) ≠ 0; rw [c1_at]; decide)
    rw [this]; rfl
  · rw [if_neg h]
theorem tn_lit (p c N : Nat) (hc : c ≤ 11) : tN c (fo p) (plit p) N 5 = N := by
  simp only [tN]
  rw [ln_lit p c 0 (by omega) hc, ln_lit p c 1 (by omega) hc, ln_lit p c 2 (by omega) hc, ln_lit p c 3 (by omega) hc, ln_lit p c 4 (by omega) hc]
  omega
theorem plit_bits (p i : Nat) : (plit p i).ex < 2 ^ (plit p i).bi ∧ (plit p i).bi ≤ 32 := by
  unfold plit
  split
  · exact ⟨Nat.one_pos, Nat.zero_le _⟩
  split
  · exact ⟨Nat.one_pos, Nat.zero_le _⟩
  split
  · exact ⟨Nat.one_pos, Nat.zero_le _⟩
  split
  · exact ⟨Nat.one_pos, Nat.zero_le _⟩
  · exact ⟨Nat.one_pos, Nat.zero_le _⟩
theorem lens_of {lo p c : Nat} {w : World} {G : Nat → Nat} (h : Rws lo w G c 5 (fun i => f1 (ats p i % sz c i) 1)) (hc : c ≤ 11) (i : Nat) (hi : i < 5) : Ints .i64 w (sl5 (fun i => some ⟨G i, 0, none⟩) (sz c) (sz c) i) (sz c i) (fo p i) := by
  have b := h.row i hi
  rw [ats_mod p c i hi hc] at b
  exact ints_row b
theorem mk_ats (p : Nat) (h : p < 4294967296) : ((ats p 3 * 256 + ats p 1) * 256 + ats p 0) * 256 + ats p 2 = p := mk_pt h
theorem step9 {w : World} {lo hi g c : Nat} {T : Nat → Nat} {p rl rh r bl i : Nat} {bc : Nat → Nat} (h : HStp.GA w lo hi g c T (fo p) rl rh r bl i bc) (hb : ∀ k, bc k ≤ 255) (hbl : bl ≤ 1000000) (hp : p < 4294967296) (hc : c ≤ 11) :
    Calls Tryd.prog 8 #[.pointer (some ⟨g, 0, none⟩), .pointer (some ⟨r, 0, none⟩), .int .i64 9] w fun e w' => e = .returned (.tuple #[.agg (tkc ⟨1, 0, 0, 0, p⟩), .int .i64 0]) ∧ HStp.GB w lo hi g c T (fo p) rl rh r bl i bc w' := by
  have s := HStp.step8 h hb hbl (fun k hk => fo_many p c k hk hc) (ats p) (fun k hk => (fo_sel p c k (by omega) hc).symm) (fun k hk => by
    have h0 := pt_lt p 0; have h1 := pt_lt p 1; have h2 := pt_lt p 2; have h3 := pt_lt p 3
    have : k = 0 ∨ k = 1 ∨ k = 2 ∨ k = 3 := by omega
    rcases this with rfl | rfl | rfl | rfl <;> assumption) 9 (by omega) (by omega)
  rw [mk_ats p hp] at s
  exact s
theorem xor1 (p : Nat) (hp : p < 4294967296) : (p ^^^ 1) < 4294967296 ∧ pt (p ^^^ 1) 3 ≠ pt p 3 ∧ bits .xor .u32 (p : Int) 1 = ((p ^^^ 1 : Nat) : Int) := by
  refine ⟨Nat.xor_lt_two_pow (n := 32) hp (by decide), ?_, ?_⟩
  · rw [pt_3, pt_3]
    intro h
    have h1 : (p ^^^ 1) % 2 = p % 2 := by omega
    have h2 := Nat.xor_mod_two_pow (a := p) (b := 1) (n := 1)
    rw [Nat.pow_one] at h2
    rw [h2] at h1
    rcases Nat.mod_two_eq_zero_or_one p with e | e <;> rw [e] at h1 <;> exact absurd h1 (by decide)
  · exact u32_xor_nat p 1 hp (by decide)
theorem and255 (x : Nat) (h : x < 4294967296) : bits .and .u32 (x : Int) 255 = ((x % 256 : Nat) : Int) := by
  have := u32_and_nat x 255 h (by decide)
  rw [show (255 : Nat) = 2 ^ 8 - 1 from rfl, Nat.and_two_pow_sub_one_eq_mod] at this
  exact this
end Go.Proofs.YtgjpcjnhggcfdaaDoor.HNot
