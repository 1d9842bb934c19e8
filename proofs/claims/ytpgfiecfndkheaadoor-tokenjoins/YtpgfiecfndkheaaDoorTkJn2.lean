/- TokenJoins answers true: the walk. -/
import Derived.Test.YtpgfiecfndkheaaDoorTkJn
namespace Go.Proofs.YtpgfiecfndkheaaDoor
open Go.RowKit
set_option maxRecDepth 100000

theorem word_tot (l : B8) : (wordsOf (chL l)).length ≤ l.length := by rw [words_len]; exact ch_len l
theorem parsF_bd (cs : List (B8 × List Nat)) : ∀ k j, j ∈ parsF k cs → k ≤ j ∧ j < k + cs.length := by
  induction cs with
  | nil => intro k j h; simp [parsF] at h
  | cons c cs ih =>
    intro k j h
    rcases List.mem_append.1 h with h | h
    · split at h
      · have := List.mem_singleton.1 h
        simp; omega
      · simp at h
    · have := ih (k + 1) j h
      simp; omega
set_option maxHeartbeats 8000000 in
theorem joins_walk (a b : B8) (para : Bool) (w : World) (_ha : a.length ≤ 9223372036854775807) (_hb : b.length ≤ 9223372036854775807) (hT : UT w) :
    Calls Tryd.prog 6 #[.string (strOf a), .string (strOf b), .bool para] w fun e w' => e = .returned (.bool true) ∧ Below w.heap.size w w' := by
  have HH := Lib.hid (head_any w hT)
  have HT := Lib.hid hT
  clear hT
  have hsa := size8 a
  have hsb := size8 b
  by_cases hba : 300 < a.length
  · have hbI : (300 : Int) < (a.length : Int) := by omega
    have hbd : decide ((300 : Int) < (a.length : Int)) = true := decide_eq_true hbI
    go_enter Tryd.func6, Tryd.ntmps6
    go_wp2_with fail
    (with_reducible refine HH.out.mono ?_)
    rintro e w1 ⟨rfl, b1⟩
    go_wp2_with fail
    go_ret
    exact ⟨rfl, b1⟩
  have hbI : decide ((300 : Int) < (a.length : Int)) = false := decide_eq_false (by omega)
  by_cases hbb : 300 < b.length
  · have hcI : decide ((300 : Int) < (b.length : Int)) = true := decide_eq_true (by omega)
    go_enter Tryd.func6, Tryd.ntmps6
    go_wp2_with fail
    (with_reducible refine HH.out.mono ?_)
    rintro e w1 ⟨rfl, b1⟩
    go_wp2_with fail
    go_ret
    exact ⟨rfl, b1⟩
  have hcI : decide ((300 : Int) < (b.length : Int)) = false := decide_eq_false (by omega)
  have HSA := Lib.hid (fun W hW => split_any a (by omega) W hW)
  have HSB := Lib.hid (fun W hW => split_any b (by omega) W hW)
  have hg4 : (gapOf para).length ≤ 4 := by cases para <;> decide
  obtain ⟨z, hz⟩ : ∃ z, z = a ++ (gapOf para ++ b) := ⟨_, rfl⟩
  have HSZ := Lib.hid (fun W hW => split_any z (by rw [hz, List.length_append, List.length_append]; omega) W hW)
  have HJF : Hid (JoinFacts a b z para) := by rw [hz]; exact join_facts a b para
  have hna := word_tot a
  have hnb := word_tot b
  have e1 : strOf a ++ (⟨#[32, 44, 46]⟩ : ByteArray) = strOf (a ++ gapOf false) := str_cat a [32, 44, 46]
  have E2 : Hid (para = false → strOf (a ++ gapOf false) ++ strOf b = strOf z) := fun h => by rw [hz, h, str_cat, List.append_assoc]
  have e3 : strOf a ++ (⟨#[44, 10, 10, 44]⟩ : ByteArray) = strOf (a ++ gapOf true) := str_cat a [44, 10, 10, 44]
  have E4 : Hid (para = true → strOf (a ++ gapOf true) ++ strOf b = strOf z) := fun h => by rw [hz, h, str_cat, List.append_assoc]
  have q1 : ¬ 9223372036854775807 < (strOf a).size + (⟨#[32, 44, 46]⟩ : ByteArray).size := by rw [hsa]; show ¬ _ < _ + 3; omega
  have q2 : ¬ 9223372036854775807 < (strOf (a ++ gapOf false)).size + (strOf b).size := by rw [size8, hsb, List.length_append]; show ¬ _ < _ + 3 + _; omega
  have q3 : ¬ 9223372036854775807 < (strOf a).size + (⟨#[44, 10, 10, 44]⟩ : ByteArray).size := by rw [hsa]; show ¬ _ < _ + 4; omega
  have q4 : ¬ 9223372036854775807 < (strOf (a ++ gapOf true)).size + (strOf b).size := by rw [size8, hsb, List.length_append]; show ¬ _ < _ + 4 + _; omega
  rw [hsa] at q1 q3
  rw [hsb] at q2 q4
  go_enter Tryd.func6, Tryd.ntmps6
  go_wp2_with fail
  (with_reducible refine HH.out.mono ?_)
  rintro e w1 ⟨rfl, b1⟩
  have HT1 := Lib.hid (ut_keep HT.out b1)
  have B1 := Lib.hid b1
  clear b1
  go_wp2_with fail
  (with_reducible refine (HSA.out w1 HT1.out).mono ?_)
  rintro e w2 ⟨vw, vs, vp, rfl, rows, b2⟩
  obtain ⟨Aw, As, Ap, cw, cs, cp, rfl, rfl, rfl, hnew⟩ := TB.new rows
  have B2 := Lib.hid (B1.out.trans (b2.mono B1.out.size))
  have HNW := Lib.hid hnew
  clear rows b2 hnew HSA HH
  go_upto_region 6 with (fail)
  obtain ⟨W1, hW1⟩ : ∃ W, W = w2.alloc (.cells #[.slice Aw (wordsOf (chL a)).length cw, .slice As (sentF 0 (chL a)).length cs, .slice Ap (parsF 0 (chL a)).length cp] 26) := ⟨_, rfl⟩
  rw [← hW1]
  obtain ⟨tb1, hbW1⟩ := HNW.out W1 hW1
  have T1 := Lib.hid tb1
  have BW1 := Lib.hid (B2.out.trans (hbW1.mono B2.out.size))
  have HU1 := Lib.hid (ut_keep HT.out BW1.out)
  clear hW1 hbW1 tb1 HNW B2
  generalize w2.heap.size = H1 at *
  go_wp2_with fail
  (with_reducible refine (HSB.out W1 HU1.out).mono ?_)
  rintro e w3 ⟨vw, vs, vp, rfl, rows, b3⟩
  obtain ⟨Bw, Bs, Bp, dw, ds, dp, rfl, rfl, rfl, hnew⟩ := TB.new rows
  have T13 := Lib.hid (T1.out.go b3)
  have B3 := Lib.hid (BW1.out.trans (b3.mono BW1.out.size))
  have HNW := Lib.hid hnew
  clear rows b3 hnew HSB T1
  go_upto_region 7 with (fail)
  obtain ⟨W2, hW2⟩ : ∃ W, W = w3.alloc (.cells #[.slice Bw (wordsOf (chL b)).length dw, .slice Bs (sentF 0 (chL b)).length ds, .slice Bp (parsF 0 (chL b)).length dp] 26) := ⟨_, rfl⟩
  rw [← hW2]
  obtain ⟨tb2, hbW2⟩ := HNW.out W2 hW2
  have T12 := Lib.hid (T13.out.go hbW2)
  have T22 := Lib.hid tb2
  have BW2 := Lib.hid (B3.out.trans (hbW2.mono B3.out.size))
  have HU2 := Lib.hid (ut_keep HT.out BW2.out)
  clear hW2 hbW2 tb2 HNW B3 T13 HU1 BW1 B1 HT1
  generalize w3.heap.size = H2 at *
  clear hg4 hz
  cases para
  all_goals
    first
      | have e2 := E2.out rfl
      | have e2 := E4.out rfl
    go_wp2_with fail
    (with_reducible refine (HSZ.out W2 HU2.out).mono ?_)
    rintro e w4 ⟨vw, vs, vp, rfl, rows, b4⟩
    obtain ⟨Cw, Cs, Cp, fw, fs, fp, rfl, rfl, rfl, hnew⟩ := TB.new rows
    have T14 := Lib.hid (T12.out.go b4)
    have T24 := Lib.hid (T22.out.go b4)
    have B4 := Lib.hid (BW2.out.trans (b4.mono BW2.out.size))
    have HNW := Lib.hid hnew
    clear rows b4 hnew HSZ T12 T22 e1 e2 e3 q1 q2 q3 q4 E2 E4
    go_upto_region 11 with (fail)
    obtain ⟨V, hV⟩ : ∃ W, W = w4.alloc (.cells #[.slice Cw (wordsOf (chL z)).length fw, .slice Cs (sentF 0 (chL z)).length fs, .slice Cp (parsF 0 (chL z)).length fp] 26) := ⟨_, rfl⟩
    rw [← hV]
    obtain ⟨tb3, hbV⟩ := HNW.out V hV
    have T1 := Lib.hid (T14.out.go hbV)
    have T2 := Lib.hid (T24.out.go hbV)
    have T3 := Lib.hid tb3
    have BV := Lib.hid (B4.out.trans (hbV.mono B4.out.size))
    clear hV hbV tb3 HNW B4 T14 T24 HU2 BW2
    generalize w4.heap.size = H3 at *
    have c1 := T1.out.c0
    have c2 := T2.out.c0
    have c3 := T3.out.c0
    have HS : Hid (∀ W, Below V.heap.size V W → W.cell? ⟨H1, 0, none⟩ = some (.slice Aw (wordsOf (chL a)).length cw) ∧ W.cell? ⟨H2, 0, none⟩ = some (.slice Bw (wordsOf (chL b)).length dw) ∧ W.cell? ⟨H3, 0, none⟩ = some (.slice Cw (wordsOf (chL z)).length fw) ∧ Below V.heap.size V W) := fun W hb => ⟨(hb.cell (p := ⟨H1, 0, none⟩) T1.out.lt).trans T1.out.c0, (hb.cell (p := ⟨H2, 0, none⟩) T2.out.lt).trans T2.out.c0, (hb.cell (p := ⟨H3, 0, none⟩) T3.out.lt).trans T3.out.c0, hb⟩
    have hown0 : (V.drew.alloc (.cells #[] 9)).ownsRow V.heap.size 9 1 (.slice (some ⟨V.heap.size, 0, none⟩) 0 0) ([] : List B8).length (tCells []) := own_lit V.drew 9 1 (0, 0) rfl
    have hb0 : Below V.heap.size V (V.drew.alloc (.cells #[] 9)) := ((Below.refl _ _).drew).alloc (Nat.le_refl _) _
    have HO0 := Lib.hid hown0
    have HB0 := Lib.hid hb0
    clear hown0 hb0
    go_region_held3 (fun W => W.cell? ⟨H1, 0, none⟩ = some (.slice Aw (wordsOf (chL a)).length cw) ∧ W.cell? ⟨H2, 0, none⟩ = some (.slice Bw (wordsOf (chL b)).length dw) ∧ W.cell? ⟨H3, 0, none⟩ = some (.slice Cw (wordsOf (chL z)).length fw) ∧ Below V.heap.size V W)
      (first | exact HS.out _ (Below.refl _ _).drew | exact HS.out _ HB0.out | exact HS.out _ hb5 | exact HS.out _ hb6 | exact HS.out _ hb7)
      (first
        | (refine step_appS (by rfl) (.tmp 40) (.tmp 42) (by rfl) V.heap.size _ [] (by rfl) HO0.out Aw _ cw V.heap.size (wordsOf (chL a)) (by rfl) rfl (T1.out.k0.below HB0.out) (by show 0 + _ ≤ _; omega) HB0.out.size ?_; intro v5 w5 hown5 hg5; have hb5 : Below V.heap.size V w5 := own_grow HO0.out (Nat.le_refl _) HB0.out HB0.out.size hg5; obtain ⟨D5, d5, hv5, hd5, _, _, _⟩ := own_form hown5; subst hv5)
        | (refine step_appS (by rfl) (.tmp 43) (.tmp 45) (by rfl) V.heap.size _ ([] ++ wordsOf (chL a)) (by rfl) hown5 Bw _ dw V.heap.size (wordsOf (chL b)) (by rfl) rfl (T2.out.k0.below hb5) (by rw [List.nil_append]; omega) hb5.size ?_; intro v6 w6 hown6 hg6; have hb6 : Below V.heap.size V w6 := own_grow hown5 (Nat.le_refl _) hb5 hb5.size hg6; rw [List.nil_append, ← HJF.out.ws] at hown6; obtain ⟨D6, d6, hv6, hd6, hm6, hc6⟩ := own_cs hown6; subst hv6)
        | (go_at_call 11; refine (texts_same (wordsOf (chL z)) Cw D6 fw d6 T3.out.l0.1 hd6 T3.out.l0.2 hm6 w6 ((T3.out.k0.below hb6).more hb6.size) hc6).mono ?_; rintro e w7 ⟨rfl, b7⟩; have hb7 : Below V.heap.size V w7 := hb6.trans (b7.mono hb6.size)))
    have T17 := Lib.hid ((T1.out.below hb7).more hb7.size)
    have T27 := Lib.hid ((T2.out.below hb7).more hb7.size)
    have T37 := Lib.hid ((T3.out.below hb7).more hb7.size)
    have B7 := Lib.hid (BV.out.trans (hb7.mono BV.out.size))
    have c7 := T17.out.c0
    clear hb7 b7 hb6 hb5 hown5 hown6 hg5 hg6 HS HO0 HB0 c1 c2 c3 T1 T2 T3 BV hc6 hd6 hm6 hd5
    go_upto_region 14 with (fail)
    obtain ⟨X, hX⟩ : ∃ X, X = w7.alloc (.cells #[.int .i64 ((wordsOf (chL a)).length : Nat)] 3) := ⟨_, rfl⟩
    rw [← hX]
    have hbX : Below w7.heap.size w7 X := by rw [hX]; exact (Below.refl _ _).alloc (Nat.le_refl _) _
    have nX : X.cell? ⟨w7.heap.size, 0, none⟩ = some (.int .i64 ((wordsOf (chL a)).length : Nat)) := by
      have := new_cells w7 #[.int .i64 ((wordsOf (chL a)).length : Nat)] 3 (0, 0) 0 _ rfl
      rw [add_addr] at this
      rw [hX]
      exact this
    have T1 := Lib.hid (T17.out.go hbX)
    have T2 := Lib.hid (T27.out.go hbX)
    have T3 := Lib.hid (T37.out.go hbX)
    have BX := Lib.hid (B7.out.trans (hbX.mono B7.out.size))
    clear hX hbX T17 T27 T37 B7 c7
    generalize w7.heap.size = H7 at *
    have HBS := Lib.hid (bet_any (sentF 0 (chL z)) Cs fs (wordsOf (chL a)).length H7 T3.out.l1.1 T3.out.l1.2 X T3.out.k1 nX)
    have HBP := Lib.hid (bet_any (parsF 0 (chL z)) Cp fp (wordsOf (chL a)).length H7 T3.out.l2.1 T3.out.l2.2 X T3.out.k2 nX)
    have u10 := T1.out.c0
    have u11 := T1.out.c1
    have u20 := T2.out.c0
    have u22 := T2.out.c2
    have u31 := T3.out.c1
    have u32 := T3.out.c2
    have HWA : Hid (wordsOf (chL a) = [] ↔ (wordsOf (chL a)).length = 0) := List.length_eq_zero_iff.symm
    have HWB : Hid (wordsOf (chL b) = [] ↔ (wordsOf (chL b)).length = 0) := List.length_eq_zero_iff.symm
    by_cases h0 : wordsOf (chL a) = [] ∨ wordsOf (chL b) = []
    · have hno := HJF.out.s0 h0
      rw [decide_eq_false hno] at HBS
      by_cases ha0 : wordsOf (chL a) = []
      · have hz : (((wordsOf (chL a)).length : Int) == 0) = true := by simp [ha0]
        clear hno h0 ha0
        generalize (wordsOf (chL a)).length = na at *
        go_wp2_with (go_at_call 16; (with_reducible refine HBS.out.mono ?_); rintro e w8 ⟨rfl, rfl⟩)
        go_ret
        exact ⟨rfl, BX.out⟩
      · have hz : (((wordsOf (chL a)).length : Int) == 0) = false := by
          have : (wordsOf (chL a)).length ≠ 0 := fun h => ha0 (HWA.out.2 h)
          simp; omega
        have hy : (((wordsOf (chL b)).length : Int) == 0) = true := by
          rcases h0 with h | h
          · exact absurd h ha0
          · simp [h]
        clear hno h0 ha0
        generalize (wordsOf (chL a)).length = na at *
        generalize (wordsOf (chL b)).length = nb at *
        go_wp2_with (go_at_call 16; (with_reducible refine HBS.out.mono ?_); rintro e w8 ⟨rfl, rfl⟩)
        go_ret
        exact ⟨rfl, BX.out⟩
    · have hna0 : wordsOf (chL a) ≠ [] := fun h => h0 (.inl h)
      have hnb0 : wordsOf (chL b) ≠ [] := fun h => h0 (.inr h)
      have HS1 := Lib.hid (HJF.out.s1 hna0 hnb0)
      have HP1 := Lib.hid (HJF.out.p1 hna0 hnb0)
      have hs2 := HJF.out.s2 hna0 hnb0
      have hp2 := HJF.out.p2 hna0 hnb0
      first
        | rw [decide_eq_true (hp2 rfl)] at HBP
        | skip
      rw [decide_eq_true hs2] at HBS
      have hz : (((wordsOf (chL a)).length : Int) == 0) = false := by
        have : (wordsOf (chL a)).length ≠ 0 := fun h => hna0 (HWA.out.2 h)
        simp; omega
      have hy : (((wordsOf (chL b)).length : Int) == 0) = false := by
        have : (wordsOf (chL b)).length ≠ 0 := fun h => hnb0 (HWB.out.2 h)
        simp; omega
      have HAS := Lib.hid (fun x => has_any (sentF 0 (chL z)) Cs fs x T3.out.l1.1 T3.out.l1.2 X T3.out.k1)
      have HAP := Lib.hid (fun x => has_any (parsF 0 (chL z)) Cp fp x T3.out.l2.1 T3.out.l2.2 X T3.out.k2)
      have KA := Lib.hid T1.out.k1
      have KB := Lib.hid T2.out.k2
      have la := T1.out.l1
      have lb := T2.out.l2
      clear hs2 hp2 hna0 hnb0 h0
      have hna3 : (wordsOf (chL a)).length ≤ 300 := by omega
      generalize (wordsOf (chL a)).length = na at *
      generalize (wordsOf (chL b)).length = nb at *
      obtain ⟨sa, hsa'⟩ : ∃ sa, sa = sentF 0 (chL a) := ⟨_, rfl⟩
      obtain ⟨pb, hpb'⟩ : ∃ pb, pb = parsF 0 (chL b) := ⟨_, rfl⟩
      have HBD : Hid (∀ k ∈ pb, k ≤ 300) := by
        intro k hk
        rw [hpb'] at hk
        have := parsF_bd _ 0 k hk
        have h2 := ch_len b
        omega
      rw [← hsa'] at HS1 KA la u11
      rw [← hpb'] at HP1 KB lb u22
      clear hsa' hpb'
      obtain ⟨ns, hns⟩ : ∃ ns, ns = sa.length := ⟨_, rfl⟩
      obtain ⟨np, hnp⟩ : ∃ np, np = pb.length := ⟨_, rfl⟩
      have HNS := Lib.hid hns
      have HNP := Lib.hid hnp
      rw [← hns] at la u11
      rw [← hnp] at lb u22
      clear hns hnp
      go_wp2_with fail
      go_loopg [79] ns (fun gg ix wr => ∃ k : Nat, ix = .int .i64 k ∧ k ≤ ns ∧ ns - k ≤ gg ∧ X = wr)
      case atStart => exact ⟨0, rfl, Nat.zero_le _, by omega, rfl⟩
      case round =>
        obtain ⟨k, rfl, hk, hg, rfl⟩ := hrel
        by_cases hlt : k < ns
        · obtain ⟨b1, o1, hA, hB1, hc1⟩ := KA.out (by rw [nCells_len, ← HNS.out]; omega)
          have hkl : k < sa.length := by rw [← HNS.out]; exact hlt
          obtain ⟨y, hy2⟩ : ∃ y, sa[k] = y := ⟨_, rfl⟩
          have hcx : (nCells sa)[k]? = some (.int .i64 (y : Int)) := by unfold nCells; rw [List.getElem?_map, List.getElem?_eq_getElem hkl, hy2]; rfl
          have l1 := hc1 k _ hcx
          have HC := Lib.hid (HAS.out y)
          rw [decide_eq_true (HS1.out y (by rw [← hy2]; exact List.getElem_mem hkl))] at HC
          subst hA
          have hkI : (k : Int) < (ns : Int) := by omega
          clear hc1 hcx hy2
          go_wp2_with (go_at_call 17; (with_reducible refine HC.out.mono ?_); rintro e w8 ⟨rfl, rfl⟩)
          go_roundg (ns - (k + 1))
          case measure => omega
          case rel => exact ⟨k + 1, by go_num, by omega, Nat.le_refl _, rfl⟩
        · obtain rfl : k = ns := by omega
          go_wp2_with fail
          go_loopg [92] np (fun gg ix wr => ∃ k : Nat, ix = .int .i64 k ∧ k ≤ np ∧ np - k ≤ gg ∧ X = wr)
          case atStart => exact ⟨0, rfl, Nat.zero_le _, by omega, rfl⟩
          case round =>
            obtain ⟨j, rfl, hj, hg2, rfl⟩ := hrel
            by_cases hjl : j < np
            · obtain ⟨b1, o1, hA, hB1, hc1⟩ := KB.out (by rw [nCells_len, ← HNP.out]; omega)
              have hkl : j < pb.length := by rw [← HNP.out]; exact hjl
              obtain ⟨y, hy2⟩ : ∃ y, pb[j] = y := ⟨_, rfl⟩
              have hym : y ∈ pb := by rw [← hy2]; exact List.getElem_mem hkl
              have hy3 := HBD.out y hym
              have hcx : (nCells pb)[j]? = some (.int .i64 (y : Int)) := by unfold nCells; rw [List.getElem?_map, List.getElem?_eq_getElem hkl, hy2]; rfl
              have l1 := hc1 j _ hcx
              have HC := Lib.hid (HAP.out (na + y))
              rw [decide_eq_true (HP1.out y hym), show ((na + y : Nat) : Int) = (na : Int) + (y : Int) by omega] at HC
              subst hA
              have hjI : (j : Int) < (np : Int) := by omega
              clear hc1 hcx hy2 hym
              go_wp2_with (go_at_call 17; (with_reducible refine HC.out.mono ?_); rintro e w8 ⟨rfl, rfl⟩)
              go_roundg (np - (j + 1))
              case measure => omega
              case rel => exact ⟨j + 1, by go_num, by omega, Nat.le_refl _, rfl⟩
            · obtain rfl : j = np := by omega
              go_wp2_with (first
                | (go_at_call 16; (with_reducible refine HBS.out.mono ?_); rintro e w8 ⟨rfl, rfl⟩)
                | (go_at_call 16; (with_reducible refine HBP.out.mono ?_); rintro e w8 ⟨rfl, rfl⟩))
              go_ret
              exact ⟨rfl, BX.out⟩
end Go.Proofs.YtpgfiecfndkheaaDoor
