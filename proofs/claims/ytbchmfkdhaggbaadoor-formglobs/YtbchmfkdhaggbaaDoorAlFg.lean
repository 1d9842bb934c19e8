/- FormGlobs answers true. -/
import Derived.Test.YtbchmfkdhaggbaaDoorAlFg1
namespace Go.Proofs.YtbchmfkdhaggbaaDoor
open Go.RowKit
set_option maxRecDepth 100000

theorem formGlobs_all (cs mk st sp wd : Bool) (l v : List UInt8) (w : World) (hT : UT w) :
    Calls Tryd.prog 4 #[.string (strOf l), .string (strOf v), .agg #[.bool cs, .bool mk, .bool st, .bool sp, .bool wd]] w fun e w' => e = .returned (.bool true) ∧ Below w.heap.size w w' := by
  by_cases hl : l.length ≤ 30 ∧ v.length ≤ 30
  · obtain ⟨h1, h2⟩ := hl
    cases hu : Lib.validD l with
    | false =>
      cases sp with
      | true => exact fg_utft cs mk st wd l v h1 h2 hu w hT
      | false => exact fg_utff cs mk st wd l v h1 h2 hu w hT
    | true =>
      by_cases hp : pE l = 0
      · cases sp with
        | true =>
          cases hs : stopB l with
          | true => exact fg_any cs mk st wd l v h1 h2 hu hs w hT
          | false =>
            cases cs <;> cases mk
            · exact fg_pattff st wd l v h1 h2 hu hs hp w hT
            · exact fg_pattft st wd l v h1 h2 hu hs hp w hT
            · exact fg_patttf st wd l v h1 h2 hu hs hp w hT
            · exact fg_patttt st wd l v h1 h2 hu hs hp w hT
        | false =>
          cases cs <;> cases mk
          · exact fg_patfff st wd l v h1 h2 hu hp w hT
          · exact fg_patfft st wd l v h1 h2 hu hp w hT
          · exact fg_patftf st wd l v h1 h2 hu hp w hT
          · exact fg_patftt st wd l v h1 h2 hu hp w hT
      · have hc : (pE l == 0) = false := by simpa using hp
        cases sp with
        | true =>
          cases hs : stopB l with
          | true => exact fg_any cs mk st wd l v h1 h2 hu hs w hT
          | false => exact fg_badt cs mk st wd l v h1 h2 hu hs (pE l) (pE_bad hp) rfl hc w hT
        | false => exact fg_badf cs mk st wd l v h1 h2 hu (pE l) (pE_bad hp) rfl hc w hT
  · have hsz : (30 : Int) < ((strOf l).size : Int) ∨ (((strOf l).size : Int) ≤ 30 ∧ (30 : Int) < ((strOf v).size : Int)) := by rw [size8, size8]; omega
    have b0 := (Below.refl w.heap.size w).alloc (Nat.le_refl _) (.cells #[.bool cs, .bool mk, .bool st, .bool sp, .bool wd] 23)
    have HT := Lib.hid (ut_keep hT b0)
    clear hT hl
    rcases hsz with hs | ⟨hs, hs2⟩
    all_goals
      go_enter Tryd.func4, Tryd.ntmps4
      go_wp2_with fail
      refine (head_any _ HT.out).mono ?_
      rintro e w1 ⟨rfl, b1⟩
      replace b1 := b0.trans (b1.mono b0.size)
      go_wp2_with fail
      go_ret
      exact ⟨rfl, b1⟩
end Go.Proofs.YtbchmfkdhaggbaaDoor
