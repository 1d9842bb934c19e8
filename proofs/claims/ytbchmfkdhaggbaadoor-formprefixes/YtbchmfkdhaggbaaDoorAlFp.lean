/- FormPrefixes answers true. -/
import Derived.Test.YtbchmfkdhaggbaaDoorAlFp1
namespace Go.Proofs.YtbchmfkdhaggbaaDoor
open Go.RowKit
set_option maxRecDepth 100000

theorem mkE_any_bad {l : List UInt8} {sp wd : Bool} (h : mkE l sp wd ≠ 0) : (decide (mkE l sp wd = 0) && anyQ l sp) = false := by rw [decide_eq_false h]; rfl
theorem valid_of {l : List UInt8} {sp wd : Bool} (h : mkE l sp wd = 0) : Lib.validD l = true := by
  unfold mkE at h
  cases hv : Lib.validD l with
  | true => rfl
  | false => rw [hv] at h; simp at h
theorem ofL_id (l : List UInt8) : ofL true true false l = l := whole_id l
/-- What matches begins so. -/
theorem begins_q (l v : List UInt8) (cs mk st sp wd : Bool) (h : matQ l cs mk st sp wd v = true) : (preQ l cs mk st sp wd).length ≤ v.length ∧ v.take (preQ l cs mk st sp wd).length = preQ l cs mk st sp wd := by
  unfold preQ
  cases ha : anyQ l sp with
  | true => simp
  | false =>
    unfold matQ at h
    rw [ha] at h
    cases cs with
    | false => simp
    | true =>
      cases mk with
      | false => simp
      | true =>
        rw [if_neg (by simp)] at h ⊢
        cases wd with
        | true =>
          rw [if_pos rfl] at h ⊢
          rw [whole_id] at h
          obtain ⟨t, ht⟩ := matchT_pref _ _ h
          rw [ht]
          simp
        | false =>
          rw [if_neg (by simp)] at h ⊢
          cases st with
          | true => simp
          | false =>
            rw [if_neg (by simp)]
            have e := of_decide_eq_true h
            rw [ofL_id, ofL_id] at e
            rw [ofL_id, e]
            simp
theorem preQ_len (l : List UInt8) (cs mk st sp wd : Bool) (hl : l.length ≤ 30) : (preQ l cs mk st sp wd).length ≤ 1000 := by
  unfold preQ
  split
  · simp
  · split
    · have := prefL_len (partsQ l cs mk)
      have h2 : (partsQ l cs mk).length ≤ 200 := by unfold partsQ; rw [List.length_map]; exact (pP_ok l).2
      omega
    · split
      · simp
      · have := ofL_len cs mk st l; omega
theorem formPrefixes_all (cs mk st sp wd : Bool) (l v : List UInt8) (w : World) (hT : UT w) :
    Calls Tryd.prog 5 #[.string (strOf l), .string (strOf v), .agg #[.bool cs, .bool mk, .bool st, .bool sp, .bool wd]] w fun e w' => e = .returned (.bool true) ∧ Below w.heap.size w w' := by
  by_cases hl : l.length ≤ 30 ∧ v.length ≤ 30
  · obtain ⟨h1, h2⟩ := hl
    by_cases hE : mkE l sp wd = 0
    · have hu := valid_of hE
      have hb := begins_q l v cs mk st sp wd
      have hpl := preQ_len l cs mk st sp wd h1
      obtain ⟨p, hp⟩ : ∃ p, preQ l cs mk st sp wd = p := ⟨_, rfl⟩
      obtain ⟨m, hm⟩ : ∃ m, matQ l cs mk st sp wd v = m := ⟨_, rfl⟩
      rw [hp] at hb hpl
      have HP : Hid (preQ l cs mk st sp wd = p) := hp
      cases ha : anyQ l sp with
      | true =>
        have HM : MkIs l sp wd 0 true := ⟨hE, by rw [ha]; rfl, by omega⟩
        have hpe : p.isEmpty = true := by rw [← hp]; unfold preQ; rw [ha]; rfl
        cases m with
        | true => exact fp_a1t cs mk st sp wd l v p h1 h2 HM ⟨hm, by omega⟩ HP hpl hpe (fun _ => hb hm) w hT
        | false => exact fp_a1f cs mk st sp wd l v p h1 h2 HM ⟨hm, by omega⟩ HP hpl hpe (fun h => by cases h) w hT
      | false =>
        have HM : MkIs l sp wd 0 false := ⟨hE, by rw [ha]; rfl, by omega⟩
        cases cs with
        | false =>
          have hpe : p.isEmpty = true := by rw [← hp]; unfold preQ; rw [ha]; rfl
          cases m with
          | true => exact fp_a2t mk st sp wd l v p h1 h2 HM ⟨hm, by omega⟩ HP hpl hpe (fun _ => hb hm) w hT
          | false => exact fp_a2f mk st sp wd l v p h1 h2 HM ⟨hm, by omega⟩ HP hpl hpe (fun h => by cases h) w hT
        | true =>
          cases mk with
          | false =>
            have hpe : p.isEmpty = true := by rw [← hp]; unfold preQ; rw [ha]; rfl
            cases m with
            | true => exact fp_a3t st sp wd l v p h1 h2 HM ⟨hm, by omega⟩ HP hpl hpe (fun _ => hb hm) w hT
            | false => exact fp_a3f st sp wd l v p h1 h2 HM ⟨hm, by omega⟩ HP hpl hpe (fun h => by cases h) w hT
          | true =>
            cases wd with
            | true =>
              cases st <;> cases hpe : p.isEmpty <;> cases m
              · exact fp_bfff sp l v p h1 h2 HM ⟨hm, by omega⟩ HP hpl hpe (fun h => by cases h) w hT
              · exact fp_bfft sp l v p h1 h2 HM ⟨hm, by omega⟩ HP hpl hpe (fun _ => hb hm) w hT
              · exact fp_bftf sp l v p h1 h2 HM ⟨hm, by omega⟩ HP hpl hpe (fun h => by cases h) w hT
              · exact fp_bftt sp l v p h1 h2 HM ⟨hm, by omega⟩ HP hpl hpe (fun _ => hb hm) w hT
              · exact fp_btff sp l v p h1 h2 HM ⟨hm, by omega⟩ HP hpl hpe (fun h => by cases h) w hT
              · exact fp_btft sp l v p h1 h2 HM ⟨hm, by omega⟩ HP hpl hpe (fun _ => hb hm) w hT
              · exact fp_bttf sp l v p h1 h2 HM ⟨hm, by omega⟩ HP hpl hpe (fun h => by cases h) w hT
              · exact fp_bttt sp l v p h1 h2 HM ⟨hm, by omega⟩ HP hpl hpe (fun _ => hb hm) w hT
            | false =>
              cases st with
              | true =>
                have hpe : p.isEmpty = true := by rw [← hp]; unfold preQ; rw [ha]; rfl
                cases m with
                | true => exact fp_a4t sp l v p h1 h2 HM ⟨hm, by omega⟩ HP hpl hpe (fun _ => hb hm) w hT
                | false => exact fp_a4f sp l v p h1 h2 HM ⟨hm, by omega⟩ HP hpl hpe (fun h => by cases h) w hT
              | false =>
                have hpl2 : l.isEmpty = p.isEmpty := by rw [← hp]; unfold preQ; rw [ha]; show l.isEmpty = (ofL true true false l).isEmpty; rw [ofL_id]
                cases hpe : p.isEmpty <;> cases m
                · exact fp_cff sp l v p h1 h2 HM ⟨hm, by omega⟩ HP hpl hpe (fun h => by cases h) (hpl2.trans hpe) w hT
                · exact fp_cft sp l v p h1 h2 HM ⟨hm, by omega⟩ HP hpl hpe (fun _ => hb hm) (hpl2.trans hpe) w hT
                · exact fp_ctf sp l v p h1 h2 HM ⟨hm, by omega⟩ HP hpl hpe (fun h => by cases h) (hpl2.trans hpe) w hT
                · exact fp_ctt sp l v p h1 h2 HM ⟨hm, by omega⟩ HP hpl hpe (fun _ => hb hm) (hpl2.trans hpe) w hT
    · exact fp_bad cs mk st sp wd l v (mkE l sp wd) (by simpa using hE) h1 h2 ⟨rfl, mkE_any_bad hE, by omega⟩ w hT
  · have hsz : (30 : Int) < ((strOf l).size : Int) ∨ (((strOf l).size : Int) ≤ 30 ∧ (30 : Int) < ((strOf v).size : Int)) := by rw [size8, size8]; omega
    have b0 := (Below.refl w.heap.size w).alloc (Nat.le_refl _) (.cells #[.bool cs, .bool mk, .bool st, .bool sp, .bool wd] 23)
    have HT := Lib.hid (ut_keep hT b0)
    clear hT hl
    rcases hsz with hs | ⟨hs, hs2⟩
    all_goals
      go_enter Tryd.func5, Tryd.ntmps5
      go_wp2_with fail
      refine (head_any _ HT.out).mono ?_
      rintro e w1 ⟨rfl, b1⟩
      replace b1 := b0.trans (b1.mono b0.size)
      go_wp2_with fail
      go_ret
      exact ⟨rfl, b1⟩
end Go.Proofs.YtbchmfkdhaggbaaDoor
