/- sort.Search, whatever function value is asked. -/
import Derived.Test.YtafbjadlklcicaaMaIx
import Derived.Deep.LoopGhost
import Derived.WalkSmall
namespace Go.Proofs.Ytafbjadlklcicaa
open Go.RowKit
set_option maxRecDepth 100000

/-- A function value that tells g of a number below n. -/
def FnN (F : Nat) (cb : Array Value) (g : Nat → Bool) (n : Nat) (w : World) : Prop :=
  (∀ args W, (callFunc F args).run Try.prog W = .ok (.enter F args) W) ∧
  ∀ W, Below w.heap.size w W → ∀ i, i < n → Calls Try.prog F (#[.int .i64 (i : Int)] ++ cb) W fun e w' => e = .returned (.bool (g i)) ∧ Below W.heap.size W w'
set_option maxHeartbeats 4000000 in
theorem sortSearch_any (F : Nat) (cb : Array Value) (g : Nat → Bool) (n : Nat) (hn : n ≤ 1000000) (w : World) (hF : Hid (FnN F cb g n w)) (hmono : Hid (∀ i j, i ≤ j → j < n → g i = true → g j = true)) :
    Calls Try.prog 75 #[.int .i64 (n : Int), .func (.func F) #[] cb] w fun e w' => ∃ r : Nat, e = .returned (.int .i64 (r : Int)) ∧ r ≤ n ∧ (∀ t, t < r → g t = false) ∧ (∀ t, r ≤ t → t < n → g t = true) ∧ Below w.heap.size w w' := by
  have HCF := hF.out.1
  go_enter Try.func75, Try.ntmps75
  go_wp2_with fail
  go_loopg [5, 6] n (fun kx s5 s6 wr => ∃ (lo hi : Nat), s5 = .int .i64 lo ∧ s6 = .int .i64 hi ∧ lo ≤ hi ∧ hi ≤ n ∧ hi - lo ≤ kx ∧ Hid (Below w.heap.size w wr) ∧
    Hid ((∀ t, t < lo → g t = false) ∧ (∀ t, hi ≤ t → t < n → g t = true)))
  case atStart => exact ⟨0, n, rfl, rfl, Nat.zero_le _, Nat.le_refl _, by omega, Below.refl _ _, fun t h => absurd h (Nat.not_lt_zero _), fun t h1 h2 => absurd h2 (by omega)⟩
  case round =>
    obtain ⟨lo, hi, rfl, rfl, hlh, hin, hg, HB, HI⟩ := hrel
    by_cases hlt : lo < hi
    · have hm : (lo + hi) / 2 < n := by omega
      cases hx : g ((lo + hi) / 2) with
      | false =>
        have HC1 := hF.out.2 wr HB.out ((lo + hi) / 2) hm
        rw [hx, show (((lo + hi) / 2 : Nat) : Int) = ((lo : Int) + (hi : Int)) / 2 by omega] at HC1
        have HC2 := Lib.hid HC1
        have HX := Lib.hid hx
        clear hx HC1
        go_wp2_with fail
        with_reducible refine HC2.out.mono ?_
        rintro e w2 ⟨rfl, hb2⟩
        go_wp2_with fail
        go_roundg (hi - ((lo + hi) / 2 + 1))
        case measure => omega
        case rel => exact ⟨(lo + hi) / 2 + 1, hi, by rw [show ((lo : Int) + (hi : Int)) / 2 + 1 = (((lo + hi) / 2 + 1 : Nat) : Int) by omega], rfl, by omega, hin, Nat.le_refl _, HB.out.trans (hb2.mono HB.out.size), (fun t h => Bool.eq_false_iff.2 fun hb => by have := hmono.out t _ (by omega) hm hb; rw [HX.out] at this; cases this), HI.out.2⟩
      | true =>
        have HC1 := hF.out.2 wr HB.out ((lo + hi) / 2) hm
        rw [hx, show (((lo + hi) / 2 : Nat) : Int) = ((lo : Int) + (hi : Int)) / 2 by omega] at HC1
        have HC2 := Lib.hid HC1
        have HX := Lib.hid hx
        clear hx HC1
        go_wp2_with fail
        with_reducible refine HC2.out.mono ?_
        rintro e w2 ⟨rfl, hb2⟩
        go_wp2_with fail
        go_roundg ((lo + hi) / 2 - lo)
        case measure => omega
        case rel => exact ⟨lo, (lo + hi) / 2, rfl, by rw [show ((lo : Int) + (hi : Int)) / 2 = (((lo + hi) / 2 : Nat) : Int) by omega], by omega, by omega, Nat.le_refl _, HB.out.trans (hb2.mono HB.out.size), HI.out.1, fun t h1 h2 => hmono.out _ t h1 h2 HX.out⟩
    · obtain rfl : hi = lo := by omega
      have HF2 := Lib.hid (And.intro hin HI.out)
      go_wp2_with fail
      go_ret
      exact ⟨hi, rfl, HF2.out.1, HF2.out.2.1, HF2.out.2.2, HB.out⟩
end Go.Proofs.Ytafbjadlklcicaa
