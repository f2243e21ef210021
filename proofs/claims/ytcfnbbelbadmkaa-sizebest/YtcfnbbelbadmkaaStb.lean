/- Contracts: slices.stableCmpFunc, slices.SortStableFunc. Conditions: the row is not long. -/
import Derived.Test.YtcfnbbelbadmkaaSym
namespace Go.Proofs.Ytcfnbbelbadmkaa.Stb
open Go.ChangeShapes Go.WideShapes Go.ChangeAt Go.RowKit Go.Proofs.Ytcfnbbelbadmkaa.Core Go.Proofs.Ytcfnbbelbadmkaa.Gnd Go.Proofs.Ytcfnbbelbadmkaa.Srt Go.Proofs.Ytcfnbbelbadmkaa.Ins Go.Proofs.Ytcfnbbelbadmkaa.Sym

/-- Each run of z places that begins from lo to hi rises; the last one may be short. -/
def Runs (c : Nat → Int) (f : Nat → Nat) (n z lo hi : Nat) : Prop := ∀ x, z ∣ x → lo ≤ x → x < hi → Up c f x (min (x + z) n)
theorem up_cut {c : Nat → Int} {f : Nat → Nat} {a b a' b' : Nat} (h : Up c f a b) (ha : a ≤ a') (hb : b' ≤ b) : Up c f a' b' := fun x y h1 h2 h3 => h x y (by omega) h2 (by omega)
theorem gap {d x y : Nat} (hx : d ∣ x) (hy : d ∣ y) (h : x < y) : x + d ≤ y := by
  obtain ⟨i, rfl⟩ := hx
  obtain ⟨j, rfl⟩ := hy
  have : i < j := by
    rcases Nat.lt_or_ge i j with h1 | h1
    · exact h1
    · have := Nat.mul_le_mul_left d h1
      omega
  have := Nat.mul_le_mul_left d this
  rw [Nat.mul_succ] at this
  exact this
theorem Runs.more {c : Nat → Int} {f f' : Nat → Nat} {n z a e : Nat} (h : Runs c f n z 0 a) (hz : z ∣ a) (ea : e ≤ a + z) (re : Re a e f f') (up : Up c f' a e) (hn : min (a + z) n ≤ e) : Runs c f' n z 0 (a + z) := fun x hx _ h2 => by
  by_cases e1 : x < a
  · have := gap hx hz e1
    exact Up.same (h x hx (Nat.zero_le _) e1) (fun k _ k2 => re.out k (.inl (by omega)))
  · have : x = a := by
      by_cases e2 : a < x
      · have := gap hz hx e2; omega
      · omega
    subst this
    exact fun i j h3 h4 h5 => up i j h3 h4 (by omega)
theorem Runs.rest {c : Nat → Int} {f f' : Nat → Nat} {n z a e hi : Nat} (h : Runs c f n z a hi) (re : Re a e f f') (hae : a ≤ e) : Runs c f' n z e hi := fun x hx h1 h2 =>
  Up.same (h x hx (by omega) h2) (fun k k1 _ => re.out k (.inr (by omega)))
set_option maxHeartbeats 4000000 in
theorem stb27 (K : Nat) (eg : ∀ args w, (callFunc K args).run Try.prog w = .ok (.enter K args) w) (cb : Array Value) (g n cap len : Nat) (f : Nat → Nat) (c : Nat → Int) (w : World) (hr : Row w g n f) (rg : Rg f n len) (ask : Asks K cb w g len c) (hn : n ≤ 100000) :
    Calls Try.prog 27 #[.slice (some ⟨g, 0, none⟩) n cap, .int .i64 n, .func (.func K) #[] cb] w fun e w' => e = .returned (.tuple #[]) ∧ ∃ f', Re 0 n f f' ∧ Up c f' 0 n ∧ Row w' g n f' ∧ Upd (fun k => k = g) w w' := by
  have RR := hide hr
  have RG := hide rg
  have ASK := hide ask
  clear hr rg ask
  go_enter Try.func27, Try.ntmps27
  go_wp2
  go_loopw [7, 8] (fun x y wr => ∃ (a : Nat) (f1 : Nat → Nat), x = .int .i64 a ∧ y = .int .i64 (a + 20 : Nat) ∧ 20 ∣ a ∧ a ≤ n ∧ Re 0 n f f1 ∧ Runs c f1 n 20 0 a ∧ Row wr g n f1 ∧ Upd (fun k => k = g) w wr) (fun x _ _ => n - (intOf x).toNat)
  case atStart => exact ⟨0, f, rfl, rfl, ⟨0, rfl⟩, Nat.zero_le _, Re.refl _ _ _, fun x _ _ h => by omega, unhide RR, Upd.refl _ w⟩
  case round =>
    obtain ⟨a, f1, rfl, rfl, hd, han, re, runs, row, u⟩ := hrel
    have RE := hide re
    have RU := hide runs
    have ROW := hide row
    have UU := hide u
    have DV := hide hd
    have RGF := hide (re.rg (Nat.le_refl _) (unhide RG))
    clear re runs row u hd
    by_cases hlt : a + 20 ≤ n
    · have hlt' : (a : Int) + 20 ≤ (n : Int) := by omega
      go_wp2_with fail
      refine (ins29 K eg cb g n cap a (a + 20) len f1 c _ (unhide ROW) (unhide RGF) ((unhide ASK).keep (unhide UU)) (by omega) hlt hn).mono ?_
      rintro e w1 ⟨rfl, f2, re2, up2, r2, u2⟩
      have RE2 := hide ((unhide RE).trans (re2.wide (Nat.zero_le _) hlt))
      have RU2 := hide ((unhide RU).more (unhide DV) (Nat.le_refl _) re2 up2 (Nat.min_le_left _ _))
      have R2 := hide r2
      have U2 := hide ((unhide UU).trans u2)
      clear re2 up2 r2 u2
      go_wp2
      go_roundw
      case rel => exact ⟨a + 20, f2, by go_num, by go_num, Nat.dvd_add (unhide DV) ⟨1, rfl⟩, hlt, unhide RE2, unhide RU2, unhide R2, unhide U2⟩
      case measure => simp [intOf]; omega
    · have hlt' : ¬ (a : Int) + 20 ≤ (n : Int) := by omega
      go_wp2_with fail
      refine (ins29 K eg cb g n cap a n len f1 c _ (unhide ROW) (unhide RGF) ((unhide ASK).keep (unhide UU)) han (Nat.le_refl _) hn).mono ?_
      rintro e w1 ⟨rfl, f2, re2, up2, r2, u2⟩
      have RE2 := hide ((unhide RE).trans (re2.wide (Nat.zero_le _) (Nat.le_refl _)))
      have RU2 := hide (show Runs c f2 n 20 0 n from fun x x1 x2 x3 => ((unhide RU).more (unhide DV) (by omega) re2 up2 (Nat.min_le_right _ _)) x x1 x2 (by omega))
      have R2 := hide r2
      have U2 := hide ((unhide UU).trans u2)
      clear re2 up2 r2 u2 RE RU ROW UU DV RGF
      go_wp2
      go_loopw [6] (fun x wi => ∃ (z : Nat) (f3 : Nat → Nat), x = .int .i64 z ∧ 20 ≤ z ∧ z ≤ 2 * n + 20 ∧ Re 0 n f f3 ∧ Runs c f3 n z 0 n ∧ Row wi g n f3 ∧ Upd (fun k => k = g) w wi) (fun x _ => n - (intOf x).toNat)
      case atStart => exact ⟨20, f2, rfl, Nat.le_refl _, by omega, unhide RE2, unhide RU2, unhide R2, unhide U2⟩
      case round =>
        obtain ⟨z, f3, rfl, hz, hzb, re3, ru3, r3, u3⟩ := hrel
        have RE3 := hide re3
        have RU3 := hide ru3
        have R3 := hide r3
        have U3 := hide u3
        clear re3 ru3 r3 u3 RE2 RU2 R2 U2
        by_cases hzn : z < n
        · have hzn' : (z : Int) < (n : Int) := by omega
          go_wp2
          go_loopw [7, 8] (fun x y wj => ∃ (a : Nat) (f4 : Nat → Nat), x = .int .i64 a ∧ y = .int .i64 (a + 2 * z : Nat) ∧ 2 * z ∣ a ∧ a ≤ n ∧ Re 0 n f f4 ∧ Runs c f4 n (2 * z) 0 a ∧ Runs c f4 n z a n ∧ Row wj g n f4 ∧ Upd (fun k => k = g) w wj) (fun x _ _ => n - (intOf x).toNat)
          case atStart => exact ⟨0, f3, rfl, by go_num, ⟨0, rfl⟩, Nat.zero_le _, unhide RE3, fun x _ _ h => by omega, unhide RU3, unhide R3, unhide U3⟩
          case round =>
            clear RE3 RU3 R3 U3
            obtain ⟨a, f4, rfl, rfl, hd, han, re, runs, rest, row, u⟩ := hrel
            have RE := hide re
            have RU := hide runs
            have RS := hide rest
            have ROW := hide row
            have UU := hide u
            have DV := hide hd
            have DZ := hide (show z ∣ a from Nat.dvd_trans ⟨2, by omega⟩ hd)
            have RGF := hide (re.rg (Nat.le_refl _) (unhide RG))
            clear re runs rest row u hd
            by_cases hlt : a + 2 * z ≤ n
            · have hlt' : (a : Int) + 2 * z ≤ (n : Int) := by omega
              go_wp2_with fail
              refine (sym30 K eg cb g n cap len c hn n a (a + z) (a + 2 * z) f4 _ (by omega) (by omega) (by omega) hlt (unhide ROW) (unhide RGF) ((unhide ASK).keep (unhide UU)) ?_ ?_).mono ?_
              · exact up_cut (unhide RS a (unhide DZ) (Nat.le_refl _) (by omega)) (Nat.le_refl _) (by omega)
              · exact up_cut (unhide RS (a + z) (Nat.dvd_add (unhide DZ) ⟨1, by omega⟩) (by omega) (by omega)) (Nat.le_refl _) (by omega)
              rintro e w2 ⟨rfl, f5, re5, up5, r5, u5⟩
              have RE5 := hide ((unhide RE).trans (re5.wide (Nat.zero_le _) hlt))
              have RU5 := hide ((unhide RU).more (unhide DV) (Nat.le_refl _) re5 up5 (Nat.min_le_left _ _))
              have RS5 := hide ((unhide RS).rest re5 (by omega))
              have R5 := hide r5
              have U5 := hide ((unhide UU).trans u5)
              clear re5 up5 r5 u5
              go_wp2
              go_roundw
              case rel => exact ⟨a + 2 * z, f5, by go_num, by go_num, Nat.dvd_add (unhide DV) ⟨1, by omega⟩, hlt, unhide RE5, unhide RU5, unhide RS5, unhide R5, unhide U5⟩
              case measure => simp [intOf]; omega
            · have hlt' : ¬ (a : Int) + 2 * z ≤ (n : Int) := by omega
              by_cases hm : a + z < n
              · have hm' : (a : Int) + z < (n : Int) := by omega
                go_wp2_with fail
                refine (sym30 K eg cb g n cap len c hn n a (a + z) n f4 _ (by omega) (by omega) hm (Nat.le_refl _) (unhide ROW) (unhide RGF) ((unhide ASK).keep (unhide UU)) ?_ ?_).mono ?_
                · exact up_cut (unhide RS a (unhide DZ) (Nat.le_refl _) (by omega)) (Nat.le_refl _) (by omega)
                · exact up_cut (unhide RS (a + z) (Nat.dvd_add (unhide DZ) ⟨1, by omega⟩) (by omega) (by omega)) (Nat.le_refl _) (by omega)
                rintro e w2 ⟨rfl, f5, re5, up5, r5, u5⟩
                have RE5 := hide ((unhide RE).trans (re5.wide (Nat.zero_le _) (Nat.le_refl _)))
                have RU5 := hide (show Runs c f5 n (2 * z) 0 n from fun x x1 x2 x3 => ((unhide RU).more (unhide DV) (by omega) re5 up5 (Nat.min_le_right _ _)) x x1 x2 (by omega))
                have R5 := hide r5
                have U5 := hide ((unhide UU).trans u5)
                clear re5 up5 r5 u5
                go_wp2
                go_roundw
                case rel => exact ⟨2 * z, f5, by go_num, by omega, by omega, unhide RE5, unhide RU5, unhide R5, unhide U5⟩
                case measure => simp [intOf]; omega
              · have hm' : ¬ (a : Int) + z < (n : Int) := by omega
                have RU5 := hide (show Runs c f4 n (2 * z) 0 n from fun x x1 x2 x3 => by
                  by_cases e1 : x < a
                  · exact unhide RU x x1 x2 e1
                  · have : x = a := by
                      by_cases e2 : a < x
                      · have := gap (unhide DV) x1 e2; omega
                      · omega
                    subst this
                    exact up_cut (unhide RS x (unhide DZ) (Nat.le_refl _) x3) (Nat.le_refl _) (by omega))
                go_wp2
                go_roundw
                case rel => exact ⟨2 * z, f4, by go_num, by omega, by omega, unhide RE, unhide RU5, unhide ROW, unhide UU⟩
                case measure => simp [intOf]; omega
        · have hzn' : ¬ (z : Int) < (n : Int) := by omega
          go_wp2
          go_end0
          refine ⟨rfl, f3, unhide RE3, ?_, unhide R3, unhide U3⟩
          by_cases h0 : 0 < n
          · exact up_cut (unhide RU3 0 ⟨0, rfl⟩ (Nat.le_refl _) h0) (Nat.le_refl _) (by omega)
          · exact fun i j _ _ _ => by omega
theorem sta21 (K : Nat) (eg : ∀ args w, (callFunc K args).run Try.prog w = .ok (.enter K args) w) (cb : Array Value) (g n cap len : Nat) (f : Nat → Nat) (c : Nat → Int) (w : World) (hr : Row w g n f) (rg : Rg f n len) (ask : Asks K cb w g len c) (hn : n ≤ 100000) :
    Calls Try.prog 21 #[.slice (some ⟨g, 0, none⟩) n cap, .func (.func K) #[] cb] w fun e w' => e = .returned (.tuple #[]) ∧ ∃ f', Re 0 n f f' ∧ Up c f' 0 n ∧ Row w' g n f' ∧ Upd (fun k => k = g) w w' := by
  have H := hide (stb27 K eg cb g n cap len f c w hr rg ask hn)
  clear hr rg ask
  go_enter Try.func21, Try.ntmps21
  go_wp2_with fail
  refine (unhide H).mono ?_
  rintro e w' ⟨rfl, h⟩
  have HH := hide h
  clear h
  go_wp2
  go_end0
  exact ⟨rfl, unhide HH⟩
end Go.Proofs.Ytcfnbbelbadmkaa.Stb
