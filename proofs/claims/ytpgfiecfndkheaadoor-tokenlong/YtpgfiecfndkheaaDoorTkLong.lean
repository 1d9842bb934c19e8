/- TokenLong answers true. -/
import Derived.Test.YtpgfiecfndkheaaDoorTkCmp
import Derived.Test.YtpgfiecfndkheaaDoorTkMach
namespace Go.Proofs.YtpgfiecfndkheaaDoor
open Go.RowKit
set_option maxRecDepth 100000

theorem and_mask (b : Int) (k : Nat) (hk : k < 4611686018427387904) : ∃ n : Nat, bits .and .i64 b (k : Int) = (n : Int) ∧ n ≤ k := by
  have h : (BitVec.ofInt 64 b &&& BitVec.ofInt 64 (k : Int)).toNat ≤ k := by
    rw [BitVec.toNat_and]
    refine Nat.le_trans Nat.and_le_right ?_
    rw [BitVec.toNat_ofInt]
    omega
  refine ⟨(BitVec.ofInt 64 b &&& BitVec.ofInt 64 (k : Int)).toNat, ?_, h⟩
  show IntKind.i64.wrap ((BitVec.ofInt 64 b &&& BitVec.ofInt 64 (k : Int)).toNat : Int) = _
  rw [IntKind.wrap_i64]
  omega
def longR (n m : Nat) : List Nat := List.replicate n 97 ++ List.replicate m 233
theorem long_lts (n m : Nat) : Lts (longR n m) := by
  intro r hr
  unfold longR at hr
  rcases List.mem_append.1 hr with h | h
  · rw [(List.mem_replicate.1 h).2]; exact ⟨by unfold isSign; omega, by decide⟩
  · rw [(List.mem_replicate.1 h).2]; exact ⟨by unfold isSign; omega, by decide⟩
def longW (n m : Nat) : B8 := encW (longR n m)
theorem enc97 : encS 97 = [97] := by decide
theorem enc233 : encS 233 = [195, 169] := by decide
theorem longW_a (n : Nat) : longW n 0 ++ [97] = longW (n + 1) 0 := by
  unfold longW longR
  simp only [List.replicate_zero, List.append_nil]
  rw [List.replicate_succ', encW_app]
  show _ = _ ++ (encS 97 ++ [])
  rw [enc97]; rfl
theorem longW_e (n m : Nat) : longW n m ++ [195, 169] = longW n (m + 1) := by
  have e : longR n (m + 1) = longR n m ++ [233] := by unfold longR; rw [List.replicate_succ' (n := m), ← List.append_assoc]
  unfold longW
  rw [e, encW_app]
  show _ = _ ++ (encS 233 ++ [])
  rw [enc233]; rfl
theorem cutR_cons (r : Nat) (rs : List Nat) (z : Nat) : cutR (r :: rs) z = if 80 < z + (encS r).length then [] else r :: cutR rs (z + (encS r).length) := rfl
theorem encW_reps (k r : Nat) : (encW (List.replicate k r)).length = k * (encS r).length := by
  induction k with
  | zero => simp [encW]
  | succ k ih => rw [List.replicate_succ, encW_cons, List.length_append, ih, Nat.succ_mul]; omega
theorem longW_len (n m : Nat) : (longW n m).length = n + 2 * m := by
  unfold longW longR
  rw [encW_app, List.length_append, encW_reps, encW_reps, enc97, enc233]
  simp; omega
theorem cut_a (n : Nat) : ∀ (t : List Nat) (z : Nat), z ≤ 80 → z + (encW (cutR (List.replicate n 97 ++ t) z)).length = if z + n ≤ 80 then (z + n) + (encW (cutR t (z + n))).length else 80 := by
  induction n with
  | zero => intro t z hz; rw [if_pos (by omega)]; simp
  | succ n ih =>
    intro t z hz
    rw [List.replicate_succ, List.cons_append, cutR_cons, enc97]
    show z + (encW (if 80 < z + 1 then [] else 97 :: cutR (List.replicate n 97 ++ t) (z + 1))).length = _
    by_cases h : 80 < z + 1
    · rw [if_pos h, if_neg (by omega)]
      simp [encW]; omega
    · rw [if_neg h, encW_cons, enc97, List.length_append]
      have := ih t (z + 1) (by omega)
      simp only [List.length_cons, List.length_nil]
      rw [show z + (0 + 1 + (encW (cutR (List.replicate n 97 ++ t) (z + 1))).length) = z + 1 + (encW (cutR (List.replicate n 97 ++ t) (z + 1))).length by omega, this, show z + 1 + n = z + (n + 1) by omega]
theorem cut_e (m : Nat) : ∀ (z : Nat), z ≤ 80 → z + (encW (cutR (List.replicate m 233) z)).length = z + 2 * min m ((80 - z) / 2) := by
  induction m with
  | zero => intro z _; simp [cutR, encW]
  | succ m ih =>
    intro z hz
    rw [List.replicate_succ, cutR_cons, enc233]
    show z + (encW (if 80 < z + 2 then [] else 233 :: cutR (List.replicate m 233) (z + 2))).length = _
    by_cases h : 80 < z + 2
    · rw [if_pos h]
      simp [encW]; omega
    · rw [if_neg h, encW_cons, enc233, List.length_append]
      have := ih (z + 2) (by omega)
      simp only [List.length_cons, List.length_nil]
      omega
def longK (n m : Nat) : Nat := if n ≤ 80 then n + 2 * min m ((80 - n) / 2) else 80
theorem long_cut (n m : Nat) : encW (cutR (longR n m) 0) = (longW n m).take (longK n m) := by
  obtain ⟨q, hq⟩ := cutR_pre (longR n m) 0
  have hl : (encW (cutR (longR n m) 0)).length = longK n m := by
    have h1 := cut_a n (List.replicate m 233) 0 (by omega)
    unfold longR longK
    rw [Nat.zero_add, Nat.zero_add] at h1
    rw [h1]
    by_cases h : n ≤ 80
    · rw [if_pos h, if_pos h, cut_e m n h]
    · rw [if_neg h, if_neg h]
  have e : longW n m = encW (cutR (longR n m) 0) ++ encW q := by
    rw [← encW_app, ← hq]; rfl
  rw [← hl, e, List.take_left]
theorem end_lts : Lts [101, 110, 100] := by
  intro r hr
  simp only [List.mem_cons, List.not_mem_nil, or_false] at hr
  rcases hr with rfl | rfl | rfl <;> exact ⟨by unfold isSign; omega, by decide⟩
theorem long_ch (n m : Nat) : chL (longW n m ++ [32, 101, 110, 100]) = (if n + 2 * m = 0 then [([32], [101, 110, 100])] else [([], longR n m), ([32], [101, 110, 100])]) := by
  have he : encW [101, 110, 100] ++ [] = [101, 110, 100] := by decide
  have h1 : unL [32, 101, 110, 100] = U.n [32] :: ([101, 110, 100].map U.l ++ unL []) := by
    rw [← unL_letters _ end_lts, he]
    exact unL_asc 32 (by decide) (by decide) _
  rw [chL_eq]
  unfold longW
  rw [unL_letters _ (long_lts n m), mach_letters, List.nil_append, h1]
  by_cases h : n + 2 * m = 0
  · obtain ⟨rfl, rfl⟩ : n = 0 ∧ m = 0 := by omega
    rw [if_pos rfl]
    rfl
  · rw [if_neg h]
    have hne : longR n m ≠ [] := by
      intro e
      have := congrArg List.length e
      unfold longR at this
      simp at this
      omega
    show (if longR n m = [] then _ else _) = _
    rw [if_neg hne]
    rfl
theorem str_cat (l m : B8) : strOf l ++ strOf m = strOf (l ++ m) := by
  apply ByteArray.ext
  apply Array.toList_inj.1
  simp [strOf]
/-- What the law wants of the word. -/
def longWant (n m : Nat) (wide : Bool) : B8 := if 80 < n + 2 * m then (if (wide && decide (n < 80) && decide (n % 2 = 1)) = true then (longW n m).take 79 else (longW n m).take 80) else longW n m
theorem long_want (n m : Nat) (wide : Bool) (hw : wide = true ∨ m = 0) : encW (cutR (longR n m) 0) = longWant n m wide := by
  rw [long_cut]
  have hlen := longW_len n m
  have hfull : ∀ k, n + 2 * m ≤ k → (longW n m).take k = longW n m := fun k hk => List.take_of_length_le (by omega)
  unfold longWant longK
  by_cases h : 80 < n + 2 * m
  · rw [if_pos h]
    rcases hw with rfl | rfl
    · by_cases h1 : n < 80 ∧ n % 2 = 1
      · rw [if_pos (show (true && decide (n < 80) && decide (n % 2 = 1)) = true by simp [h1]), if_pos (show n ≤ 80 by omega)]
        congr 1
        omega
      · have h3 : ¬ (true && decide (n < 80) && decide (n % 2 = 1)) = true := by
          simp only [Bool.true_and, Bool.and_eq_true, decide_eq_true_eq]
          exact h1
        rw [if_neg h3]
        by_cases h2 : n ≤ 80
        · rw [if_pos h2]
          congr 1
          omega
        · rw [if_neg h2]
    · have h3 : ¬ n < 80 := by omega
      have h4 : ¬ (wide && decide (n < 80) && decide (n % 2 = 1)) = true := by simp [h3]
      rw [if_neg h4, if_neg (show ¬ n ≤ 80 by omega)]
  · rw [if_neg h]
    by_cases h2 : n ≤ 80
    · rw [if_pos h2]; exact hfull _ (by omega)
    · omega
set_option maxHeartbeats 4000000 in
/-- What is behind the two loops. -/
theorem long_tail (n m : Nat) (wide : Bool) (hw : wide = true ∨ m = 0) (vw vs vp : Value) (w : World) (B : Nat) (h : TxtRows w B vw vs vp (chL (longW n m ++ [32, 101, 110, 100]))) :
    (n + 2 * m = 0 → ∃ g c, vw = .slice (some ⟨g, 0, none⟩) 1 c ∧ 1 ≤ c ∧ c ≤ 9223372036854775807) ∧ (n + 2 * m ≠ 0 → ∃ g c, vw = .slice (some ⟨g, 0, none⟩) 2 c ∧ 2 ≤ c ∧ c ≤ 9223372036854775807 ∧ g < w.heap.size ∧ w.cell? ⟨g, 0, none⟩ = some (.string (strOf (longWant n m wide))) ∧ w.cell? ⟨g, 1, none⟩ = some (.string (strOf [101, 110, 100]))) := by
  have hr := h.1
  rw [long_ch] at hr
  have he : wordOf ([32], [101, 110, 100]) = [101, 110, 100] := by decide
  constructor
  · intro h0
    rw [if_pos h0] at hr
    obtain ⟨g, c, hv, _, _, hc, hmx, _, _⟩ := own_some hr (by simp [wordsOf])
    unfold maxLen at hmx
    exact ⟨g, c, hv, by simpa [wordsOf] using hc, by omega⟩
  · intro h0
    rw [if_neg h0] at hr
    obtain ⟨g, c, hv, _, hg, hc, hmx, _, hcell⟩ := own_some hr (by simp [wordsOf])
    unfold maxLen at hmx
    refine ⟨g, c, hv, by simpa [wordsOf] using hc, by omega, hg, ?_, ?_⟩
    · refine hcell 0 _ ?_
      show some (Value.string (strOf (encW (cutR (longR n m) 0)))) = _
      rw [long_want n m wide hw]
    · refine hcell 1 _ ?_
      show some (Value.string (strOf (wordOf ([32], [101, 110, 100])))) = _
      rw [he]
set_option maxHeartbeats 4000000 in
theorem long_walk (a b : Int) (wide : Bool) (w : World) (hT : UT w) :
    Calls Tryd.prog 7 #[.int .i64 a, .int .i64 b, .bool wide] w fun e w' => e = .returned (.bool true) ∧ Below w.heap.size w w' := by
  have HH := Lib.hid (head_any w hT)
  have HT := Lib.hid hT
  clear hT
  obtain ⟨n, hn, hn127⟩ := and_mask a 127 (by omega)
  obtain ⟨m0, hm0, hm31⟩ := and_mask b 31 (by omega)
  have hn : bits .and .i64 a 127 = (n : Int) := hn
  have hm0 : bits .and .i64 b 31 = (m0 : Int) := hm0
  go_enter Tryd.func7, Tryd.ntmps7
  go_wp2_with fail
  (with_reducible refine HH.out.mono ?_)
  rintro e w1 ⟨rfl, b1⟩
  have B1 := Lib.hid b1
  clear b1
  go_wp2_with fail
  clear hn hm0
  go_loopg [7, 8] n (fun gg wd i wr => ∃ k : Nat, wd = .string (strOf (longW k 0)) ∧ i = .int .i64 k ∧ k ≤ n ∧ n - k ≤ gg ∧ w1 = wr)
  case atStart => exact ⟨0, rfl, rfl, Nat.zero_le _, by omega, rfl⟩
  case round =>
    obtain ⟨k, rfl, rfl, hk, hg, rfl⟩ := hrel
    by_cases hlt : k < n
    · have hltI : (k : Int) < (n : Int) := by omega
      have hcat : strOf (longW k 0) ++ (⟨#[97]⟩ : ByteArray) = strOf (longW (k + 1) 0) := by rw [← longW_a]; exact str_cat _ [97]
      have hss : ¬ 9223372036854775807 < (strOf (longW k 0)).size + (⟨#[97]⟩ : ByteArray).size := by rw [size8, longW_len]; show ¬ _ < k + 2 * 0 + 1; omega
      go_wp2_with fail
      go_roundg (n - (k + 1))
      case measure => omega
      case rel => exact ⟨k + 1, rfl, by go_num, by omega, Nat.le_refl _, rfl⟩
    · obtain rfl : k = n := by omega
      go_wp2_with fail
      obtain ⟨M, hM⟩ : ∃ M, M = if wide then 1 + m0 else 0 := ⟨_, rfl⟩
      have hM33 : M ≤ 32 := by rw [hM]; split <;> omega
      have HM := Lib.hid hM
      clear hM
      go_loopg [7, 9] M (fun gg wd i wr => ∃ j : Nat, wd = .string (strOf (longW k j)) ∧ i = .int .i64 j ∧ j ≤ M ∧ M - j ≤ gg ∧ w1 = wr)
      case atStart => exact ⟨0, rfl, rfl, Nat.zero_le _, by omega, rfl⟩
      case round =>
        obtain ⟨j, rfl, rfl, hj, hg2, rfl⟩ := hrel
        by_cases hjM : j < M
        · have hwide : wide = true := by
            have := HM.out
            cases wide
            · simp at this; omega
            · rfl
          have hjI : (j : Int) < 1 + (m0 : Int) := by have := HM.out; rw [hwide] at this; simp at this; omega
          have hdI : decide ((j : Int) < 1 + (m0 : Int)) = true := decide_eq_true hjI
          subst hwide
          have hcat : strOf (longW k j) ++ (⟨#[195, 169]⟩ : ByteArray) = strOf (longW k (j + 1)) := by rw [← longW_e]; exact str_cat _ [195, 169]
          have hss : ¬ 9223372036854775807 < (strOf (longW k j)).size + (⟨#[195, 169]⟩ : ByteArray).size := by rw [size8, longW_len]; show ¬ _ < k + 2 * j + 2; omega
          go_wp2_with fail
          go_roundg (M - (j + 1))
          case measure => omega
          case rel => exact ⟨j + 1, rfl, by go_num, by omega, Nat.le_refl _, rfl⟩
        · obtain rfl : j = M := by omega
          have HW : Hid (wide = true ∨ j = 0) := by
            have := HM.out
            cases wide
            · simp at this; exact .inr this
            · exact .inl rfl
          have hout : (wide = false ∧ (j : Int) < 1 + (m0 : Int)) ∨ (wide = true ∧ ¬ (j : Int) < 1 + (m0 : Int)) := by
            have := HM.out
            cases wide
            · simp at this; exact .inl ⟨rfl, by omega⟩
            · simp at this; exact .inr ⟨rfl, by omega⟩
          have hcat : strOf (longW k j) ++ (⟨#[32, 101, 110, 100]⟩ : ByteArray) = strOf (longW k j ++ [32, 101, 110, 100]) := str_cat _ [32, 101, 110, 100]
          have hss : ¬ 9223372036854775807 < (strOf (longW k j)).size + (⟨#[32, 101, 110, 100]⟩ : ByteArray).size := by rw [size8, longW_len]; show ¬ _ < k + 2 * j + 4; omega
          have HSP := Lib.hid (split_any (longW k j ++ [32, 101, 110, 100]) (by rw [List.length_append, longW_len]; simp; omega) w1 (ut_keep HT.out B1.out))
          have hsz : (strOf (longW k j)).size = k + 2 * j := by rw [size8, longW_len]
          have hemp : (strOf (longW k j)).toList.isEmpty = decide (k + 2 * j = 0) := by
            rw [str_empty]
            have := longW_len k j
            cases h : longW k j with
            | nil => rw [h] at this; simp at this; simp; omega
            | cons _ _ => rw [h] at this; simp at this; simp; omega
          have HTK : Hid (∀ q, (strOf (longW k j)).extract 0 q = strOf ((longW k j).take q)) := fun q => take8 _ q
          have HWT : Hid (longWant k j wide = if 80 < k + 2 * j then (if (wide && decide (k < 80) && decide (k % 2 = 1)) = true then (longW k j).take 79 else (longW k j).take 80) else longW k j) := rfl
          have HLT := Lib.hid (fun vw vs vp W B h => long_tail k j wide HW.out vw vs vp W B h)
          by_cases h0 : k + 2 * j = 0
          · obtain ⟨hw0, hnj⟩ : wide = false ∧ (j : Int) < 1 + (m0 : Int) := by
              rcases hout with h | h
              · exact h
              · omega
            subst hw0
            go_wp2_with fail
            (with_reducible refine HSP.out.mono ?_)
            rintro e w2 ⟨vw, vs, vp, rfl, hR, b2⟩
            obtain ⟨t0, t1⟩ := HLT.out vw vs vp w2 _ hR
            obtain ⟨As, cs, hvs, _, _, _, _⟩ := own_form hR.2.1
            obtain ⟨Ap, cp, hvp, _, _, _, _⟩ := own_form hR.2.2
            subst hvs hvp
            have B2 := Lib.hid (B1.out.trans (b2.mono B1.out.size))
            clear b2 hR HLT HSP
            obtain ⟨g, c, rfl, hc1, hc2⟩ := t0 h0
            rw [decide_eq_true h0] at hemp
            clear t0 t1
            go_upto_region 15 with (fail)
            obtain ⟨W, hW⟩ : ∃ W, W = w2.alloc (.cells #[.slice (some ⟨g, 0, none⟩) 1 c, .slice As (sentF 0 (chL (longW k j ++ [32, 101, 110, 100]))).length cs, .slice Ap (parsF 0 (chL (longW k j ++ [32, 101, 110, 100]))).length cp] 26) := ⟨_, rfl⟩
            rw [← hW]
            obtain ⟨d0, d1, d2, hbW, _⟩ := txt_var w2 _ _ _ _ W hW
            have BW := Lib.hid (B2.out.trans (hbW.mono B2.out.size))
            clear hW hbW d1 d2
            go_wp2_with fail
            go_ret
            exact ⟨rfl, BW.out⟩
          · rcases hout with ⟨hw0, hnj⟩ | ⟨hw0, hnj⟩
            all_goals subst hw0
            all_goals
              go_wp2_with fail
              (with_reducible refine HSP.out.mono ?_)
              rintro e w2 ⟨vw, vs, vp, rfl, hR, b2⟩
              obtain ⟨t0, t1⟩ := HLT.out vw vs vp w2 _ hR
              obtain ⟨As, cs, hvs, _, _, _, _⟩ := own_form hR.2.1
              obtain ⟨Ap, cp, hvp, _, _, _, _⟩ := own_form hR.2.2
              subst hvs hvp
              have B2 := Lib.hid (B1.out.trans (b2.mono B1.out.size))
              clear b2 hR HLT HSP
              obtain ⟨g, c, rfl, hc1, hc2, hgl, l0, l1⟩ := t1 h0
              rw [decide_eq_false h0] at hemp
              have L0 := Lib.hid l0
              have L1 := Lib.hid l1
              clear t0 t1 l0 l1
              go_upto_region 15 with (fail)
              obtain ⟨W, hW⟩ : ∃ W, W = w2.alloc (.cells #[.slice (some ⟨g, 0, none⟩) 2 c, .slice As (sentF 0 (chL (longW k j ++ [32, 101, 110, 100]))).length cs, .slice Ap (parsF 0 (chL (longW k j ++ [32, 101, 110, 100]))).length cp] 26) := ⟨_, rfl⟩
              rw [← hW]
              obtain ⟨d0, d1, d2, hbW, _⟩ := txt_var w2 _ _ _ _ W hW
              have BW := Lib.hid (B2.out.trans (hbW.mono B2.out.size))
              have l0 := (hbW.cell (p := ⟨g, 0, none⟩) hgl).trans L0.out
              have l1 := (hbW.cell (p := ⟨g, 1, none⟩) hgl).trans L1.out
              have send : ((strOf [101, 110, 100]).toList == [101, 110, 100]) = true := by rw [str_is]; rfl
              clear hW hbW d1 d2 L0 L1
              by_cases h80 : 80 < k + 2 * j
              · have h80I : (80 : Int) < (k : Int) + 2 * (j : Int) := by omega
                have hx80 := HTK.out 80
                have hx79 := HTK.out 79
                rw [if_pos h80] at HWT
                by_cases hk8 : k < 80
                · by_cases hk2 : k % 2 = 1
                  · simp only [hk8, hk2, decide_true, Bool.and_true, Bool.false_eq_true, if_true, if_false] at HWT
                    rw [HWT.out] at l0
                    have hm2 : (k : Int) % 2 = 1 := by omega
                    have hkI : (k : Int) < 80 := by omega
                    go_wp2_with fail
                    go_ret
                    exact ⟨by simp, BW.out⟩
                  · simp only [hk8, hk2, decide_true, decide_false, Bool.and_true, Bool.and_false, Bool.false_eq_true, if_false] at HWT
                    rw [HWT.out] at l0
                    have hm2 : (k : Int) % 2 = 0 := by omega
                    have hkI : (k : Int) < 80 := by omega
                    go_wp2_with fail
                    go_ret
                    exact ⟨by simp, BW.out⟩
                · simp only [hk8, decide_false, Bool.and_false, Bool.false_and, Bool.false_eq_true, if_false] at HWT
                  rw [HWT.out] at l0
                  have hkI : ¬ (k : Int) < 80 := by omega
                  go_wp2_with fail
                  go_ret
                  exact ⟨by simp, BW.out⟩
              · have h80I : ¬ (80 : Int) < (k : Int) + 2 * (j : Int) := by omega
                rw [if_neg h80] at HWT
                rw [HWT.out] at l0
                go_wp2_with fail
                go_ret
                exact ⟨by simp, BW.out⟩
end Go.Proofs.YtpgfiecfndkheaaDoor
