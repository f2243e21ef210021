/- Plain facts: a map from two colours to a place; what is read of it, what is put into it, in a region that draws its order. Contracts: places.two, token.alike. Conditions: at most a million pixels. -/
import Derived.Test.YtpkiilnkiidoiaaKFit
import Derived.Maps.OwnSet
import Derived.DeepKeys4
namespace Go.Proofs.Ytpkiilnkiidoiaa.KGr0
set_option linter.unusedVariables false
open Go.ChangeShapes Go.WideShapes Go.ChangeAt Go.RowKit Go.Maps Go.Proofs.Ytpkiilnkiidoiaa.Core Go.Proofs.Ytpkiilnkiidoiaa.CNum Go.Proofs.Ytpkiilnkiidoiaa.KNum Go.Proofs.Ytpkiilnkiidoiaa.KMem Go.Proofs.Ytpkiilnkiidoiaa.KFit

theorem laidOut : laidOutB Try.prog = true := by kernel_rfl
theorem row83 : (83 : TypeId) < Try.prog.types.size := of_decide_eq_true (by kernel_rfl)
theorem wide83 : (match Try.prog.underlying 83 with | some (.array _ _) | some (.struct _) => true | _ => false) = true := by rw [Try.underlying83]
theorem law83 : Keyed Try.prog 83 := Keyed.of_law (deep_law_laid laidOut (m := 2) (by omega) row83 (by kernel_rfl) wide83)
theorem zero3 (w : World) : (zeroValue 3).run Try.prog w = .ok (.int .i64 0) w := by kernel_rfl
theorem kt83 : Try.prog.keyType 83 = true := by kernel_rfl
theorem cells83 : Try.prog.cellsOf 83 = 2 := by kernel_rfl
theorem cells35 : Try.prog.cellsOf 35 = 1 := by kernel_rfl
theorem tsize : Try.prog.types.size = 103 := by kernel_rfl
theorem wf32 {x : Nat} (h : x < 4294967296) : (Lit.int .u32 (x : Int)).wf = true := WalkArith.wf_u32 (by omega)
theorem lits83 (m x y : Nat) (h1 : (Lit.int .u32 (x : Int)).wf = true) (h2 : (Lit.int .u32 (y : Int)).wf = true) : Try.prog.keyLits (m + 1 + 1) 83 [.int .u32 x, .int .u32 y] = some [.int .u32 x, .int .u32 y] := by
  simp [Program.keyLits, Try.underlying83, Try.underlying35, cells83, cells35, List.range, List.range.loop, h1, h2]
theorem key83 (x y : Nat) (hx : x < 4294967296) (hy : y < 4294967296) : ∃ kl, keyOf Try.prog 83 (.agg #[.int .u32 x, .int .u32 y]) = some kl := by
  have f : (Value.agg #[.int .u32 x, .int .u32 y]).formed Try.prog 83 = true := by simp [Value.formed, Try.underlying83, cells83]
  unfold keyOf
  rw [Try.underlying83]
  simp only [kt83, f, Bool.and_self, if_true, tsize]
  rw [show (Value.agg #[.int .u32 x, .int .u32 y]).cells.toList = [.int .u32 (x : Int), .int .u32 (y : Int)] from rfl, lits83 102 x y (wf32 hx) (wf32 hy)]
  exact ⟨_, rfl⟩
/-- A map whose places are below a bound. -/
structure Lo (D : DataW Unit) (m : Nat) : Prop where
  map : IsMap D
  low : ∀ kl zd, Maps.has D kl = true → ∃ v : Nat, v < m ∧ D.atKey kl zd = .lit (.int .i64 (v : Int))
theorem Lo.start : Lo (.map []) 0 := ⟨⟨_, rfl⟩, fun kl zd h => by simp [Maps.has] at h⟩
theorem Lo.mono {D : DataW Unit} {m m' : Nat} (h : Lo D m) (hm : m ≤ m') : Lo D m' := ⟨h.map, fun kl zd hh => by
  obtain ⟨v, h1, h2⟩ := h.low kl zd hh
  exact ⟨v, by omega, h2⟩⟩
theorem Lo.put {D : DataW Unit} {m : Nat} {kl : Lit} {key : Value} (h : Lo D m) (hk : keyOf Try.prog 83 key = some kl) : Lo (D.put kl (.lit (.int .i64 (m : Int)))) (m + 1) := by
  refine ⟨?_, fun kl' zd hh => ?_⟩
  · obtain ⟨es, rfl⟩ := h.map
    exact ⟨_, rfl⟩
  · by_cases e : kl' = kl
    · subst e
      exact ⟨m, by omega, atKey_put_same h.map (law83.key hk) _ _⟩
    · rw [has_put_other e] at hh
      obtain ⟨v, h1, h2⟩ := h.low kl' zd hh
      exact ⟨v, by omega, by rw [atKey_put_other e]; exact h2⟩
theorem look83 {w : World} {b n at1 : Nat} {D : DataW Unit} (hown : w.ownsMap Try.prog 83 (plainElem Try.prog 3) b n D) (lo : Lo D at1) (x0 y0 : Nat) (hx0 : x0 < 4294967296) (hy0 : y0 < 4294967296) :
    ∃ (z : Int) (bb : Bool), (Instr.lookup 62 (.map (some b)) (.agg #[.int .u32 x0, .int .u32 y0]) true).run Try.prog w = .ok (.tuple #[.int .i64 z, .bool bb]) w ∧ (bb = true → 0 ≤ z ∧ z < at1) := by
  obtain ⟨kl, hkey⟩ := key83 x0 y0 hx0 hy0
  obtain ⟨v, ps, hrun, hv⟩ := hown.look_ok law83 Try.underlying62 (zero3 w) (zd := .lit (.int .i64 0)) (zp := []) (plainElem_int Try.underlying3 (by decide)) hkey
  obtain ⟨c, rfl, hc, hwc⟩ := plainElem_int_inv Try.underlying3 hv
  refine ⟨c, Maps.has D kl, hrun, fun hh => ?_⟩
  obtain ⟨v, h1, h2⟩ := lo.low kl (.lit (.int .i64 0)) hh
  have h3 := congrArg Prod.fst hc
  rw [h2] at h3
  injection h3 with h4
  injection h4 with _ h5
  omega
theorem put83 {w : World} {b n at1 : Nat} {D : DataW Unit} (hown : w.ownsMap Try.prog 83 (plainElem Try.prog 3) b n D) (lo : Lo D at1) (hn : n ≤ 1000000) (ha : at1 ≤ 1000000) (x0 y0 : Nat) (hx0 : x0 < 4294967296) (hy0 : y0 < 4294967296) :
    ∃ w' D', (Instr.mapUpdate 62 (.map (some b)) (.agg #[.int .u32 x0, .int .u32 y0]) (.int .i64 at1)).run Try.prog w = .ok () w' ∧ w'.ownsMap Try.prog 83 (plainElem Try.prog 3) b (n + 1) D' ∧ Lo D' (at1 + 1) ∧ w.grownBy w' (some b) := by
  obtain ⟨kl, hkey⟩ := key83 x0 y0 hx0 hy0
  obtain ⟨w', hrun, r1, r2⟩ := hown.update law83 Try.underlying62 (by unfold maxLen; omega) hkey (plainElem_int Try.underlying3 (WalkArith.wf_i64 (n := (at1 : Int)) (by omega)))
  exact ⟨w', _, hrun, r1, lo.put hkey, r2⟩
end Go.Proofs.Ytpkiilnkiidoiaa.KGr0
