/- GlobMatches answers true. -/
import Derived.Test.YtdijicdlglnlmaaDoorGlTxt
import Derived.Test.YtdijicdlglnlmaaDoorGlLm
import Derived.Test.YtdijicdlglnlmaaDoorGlStars
namespace Go.Proofs.YtdijicdlglnlmaaDoor
open Go.RowKit
set_option maxRecDepth 100000

theorem pref_step (x : LP × List UInt8 × GP) (t : List (LP × List UInt8 × GP)) (h : NQ x) : (x.1.1 = 0 ∧ ∃ r : Nat, isSign r ∧ x.1.2.1 = (r : Int) ∧ prefL (gps (x :: t)) = encS r ++ prefL (gps t)) ∨ ((x.1.1 == 0) = false ∧ prefL (gps (x :: t)) = []) := by
  rcases h with ⟨r, hr, rfl⟩ | rfl | rfl | rfl | rfl | ⟨lo, hi, h1, h2, h3, rfl⟩
  · refine .inl ⟨rfl, r, hr, rfl, ?_⟩
    show putL (r : Int) ++ prefL (gps t) = _
    rw [putL_sign r hr]
  all_goals exact .inr ⟨rfl, rfl⟩

theorem IP.up {w W : World} {A : Option Addr} {z : List LP} (h : IP w w.heap.size A z) (hb : Below w.heap.size w W) : IP W W.heap.size A z := fun hp => by
  obtain ⟨b, o, e, h1, h2⟩ := h hp
  refine ⟨b, o, e, Nat.lt_of_lt_of_le h1 hb.size, fun k hk => ?_⟩
  obtain ⟨q0, q1, q2, q3⟩ := h2 k hk
  exact ⟨(hb.cell (p := ⟨b, o + k * 4, none⟩) h1).trans q0, (hb.cell (p := ⟨b, o + k * 4 + 1, none⟩) h1).trans q1, (hb.cell (p := ⟨b, o + k * 4 + 2, none⟩) h1).trans q2, (hb.cell (p := ⟨b, o + k * 4 + 3, none⟩) h1).trans q3⟩
set_option maxHeartbeats 8000000 in
theorem gmat_main (A : Option Addr) (n c : Nat) (z : List LP) (m : List UInt8) (w : World) (hT : UT w) (HN : Hid (n = z.length)) (hn : n ≤ 7) (hz : IP w w.heap.size A z) (hm : m.length ≤ 14) :
    Calls Tryd.prog 3 #[.slice A n c, .string (strOf m)] w fun e w' => e = .returned (.bool true) ∧ Below w.heap.size w w' := by
  have hz2 : (strOf m).size ≤ 14 := by rw [size8]; exact hm
  have hz3 : ((strOf m).size : Int) ≤ 14 := by omega
  have HT := Lib.hid hT
  clear hT
  go_enter Tryd.func3, Tryd.ntmps3
  go_wp2_with fail
  refine (head_any _ HT.out).mono ?_
  rintro e w1 ⟨rfl, b1⟩
  have T1 := Lib.hid (ut_keep HT.out b1)
  have HX := Lib.hid (text_any A n c z w1 HN (by omega) (hz.up b1))
  clear HT hz
  go_wp2_with fail
  refine HX.out.mono ?_
  rintro e w2 ⟨v2, ts, rfl, htl, hts, hown2, b2⟩
  have T2 := Lib.hid (ut_keep T1.out b2)
  have HTS := Lib.hid hts
  have HTL : Hid (n = ts.length) := htl.symm
  have V := Lib.hid (txts_valid ts hts)
  have P := Lib.hid (txts_parse ts hts (by omega))
  have htx := txts_len ts hts
  obtain ⟨A6, c6, rfl, hnc6, hcm6, hcs6, _⟩ := own_form hown2
  unfold maxLen at hcm6
  replace b2 := b1.trans (b2.mono b1.size)
  clear T1 b1 HX hts htl hown2
  go_wp2_with fail
  refine (parse_good (txts ts) (gps ts) V P (by have := HTL.out; omega) _ T2.out).mono ?_
  rintro e w6 ⟨R, rfl, G6, b6⟩
  have T6 := Lib.hid (ut_keep T2.out b6)
  have HG6 := Lib.hid G6
  have C6 := Lib.hid (CS.up hcs6 b6)
  replace b6 := b2.trans (b6.mono b2.size)
  clear T2 b2 V P G6 hcs6 htx
  go_wp2_with fail
  go_loopw [9, 36] (fun s i wr => ∃ (k : Nat) (d : List UInt8), k ≤ n ∧ i = .int .i64 k ∧ s = .string (strOf d) ∧ d.length ≤ 4 * k ∧ Hid (prefL (gps ts) = d ++ prefL (gps (ts.drop k))) ∧ Below w6.heap.size w6 wr) (fun _ i _ => n - (intOf i).toNat)
  case atStart => exact ⟨0, [], Nat.zero_le _, rfl, rfl, by simp, rfl, Below.refl _ _⟩
  case round =>
    obtain ⟨k, d, hk, rfl, rfl, hdl, HP, hbel⟩ := hrel
    by_cases hlt : k < n
    · have hkl : k < ts.length := by rw [← HTL.out]; exact hlt
      obtain ⟨pb, po, rfl, hpb, hcell⟩ := C6.out (by rw [qCells_len]; omega)
      obtain ⟨q0, q1, q2, q3⟩ := qCells_at ts k hkl
      have tr : ∀ o u, w6.cell? ⟨pb, o, none⟩ = some u → wr.cell? ⟨pb, o, none⟩ = some u := fun o u h => (hbel.cell (p := ⟨pb, o, none⟩) hpb).trans h
      have m0 : wr.cell? ⟨pb, po + k * 4, none⟩ = _ := tr _ _ (hcell _ _ q0)
      have m1 : wr.cell? ⟨pb, po + k * 4 + 1, none⟩ = _ := tr _ _ (hcell _ _ q1)
      have m2 : wr.cell? ⟨pb, po + k * 4 + 2, none⟩ = _ := tr _ _ (hcell _ _ q2)
      have m3 : wr.cell? ⟨pb, po + k * 4 + 3, none⟩ = _ := tr _ _ (hcell _ _ q3)
      have hps := pref_step ts[k] (ts.drop (k + 1)) (HTS.out _ (List.getElem_mem hkl))
      rw [← List.drop_eq_getElem_cons hkl] at hps
      clear q0 q1 q2 q3 tr hcell
      generalize ts[k] = x at *
      obtain ⟨⟨xK, xs, xl, xh⟩, xt, xg⟩ := x
      simp only at m0 m1 m2 m3 hps
      have bq6 : Below w6.heap.size w6 (wr.alloc (.cells #[.int .i64 xK, .int .i32 xs, .int .i64 xl, .int .i64 xh] 31)) := hbel.alloc hbel.size _
      rcases hps with ⟨hK, r, hr, hxs, hp⟩ | ⟨hK, hp⟩
      · subst hK
        subst hxs
        have HD2 : Hid (prefL (gps ts) = (d ++ encS r) ++ prefL (gps (ts.drop (k + 1)))) := by show _ = _; rw [HP.out, hp, List.append_assoc]
        obtain ⟨S2, e2, z2⟩ : ∃ S, strOf d ++ strOf (encS r) = strOf S ∧ S = d ++ encS r := ⟨_, add8 _ _, rfl⟩
        have HS2 := Lib.hid z2
        have hzd : (strOf d).size ≤ 100 := by rw [size8]; omega
        have hze : (strOf (encS r)).size ≤ 4 := by rw [size8]; exact (encS_len r).2
        have h4 := (encS_len r).2
        obtain ⟨W, hW⟩ : ∃ W, W = wr.alloc (.cells #[.int .i64 0, .int .i32 (r : Int), .int .i64 xl, .int .i64 xh] 31) := ⟨_, rfl⟩
        rw [← hW] at bq6
        have HPut := Lib.hid (uput_any (.slice none 0 0) [] W.heap.size r hr W (Own8.nil _ _ _) (Nat.le_refl _) (by simp))
        clear hp z2 hr HP
        go_wp2_with fail
        rw [← hW]
        refine HPut.out.mono ?_
        rintro e w5 ⟨v5, rfl, hown5, hg5⟩
        obtain ⟨A3, c3, e3, _, _, hbs, _⟩ := hown5.form
        rw [List.nil_append] at e3 hbs
        subst e3
        have hcv : (convert 32 9 (.slice A3 (encS r).length c3)).run Tryd.prog w5 = .ok (.string (strOf (encS r))) w5 := hbs.conv (encS r).length c3 rfl
        have hb5 : Below W.heap.size W w5 := below_of_grown hg5 (fun k h => by cases h)
        have hbel5 := bq6.trans (hb5.mono bq6.size)
        clear hown5 hg5 hbs hb5 HPut hW bq6 hbel
        generalize (encS r).length = er at *
        generalize strOf (encS r) = es at *
        go_wp2_with fail
        exact ⟨⟨k + 1, d ++ encS r, by omega, by go_num, by rw [HS2.out], by simp; have := (encS_len r).2; omega, HD2, hbel5⟩, by simp [intOf]; omega⟩
      · have HD : Hid (prefL (gps ts) = d) := by show _ = _; rw [HP.out, hp, List.append_nil]
        have TQ := Lib.hid (ut_keep T6.out bq6)
        have GQ := Lib.hid (HG6.out.keep bq6)
        have CQ := Lib.hid (C6.out.up bq6)
        have bq := b6.trans (bq6.mono b6.size)
        clear HP hp bq6 T6 HG6 C6 b6
        have HPF : Hid (prefL (gps ts) = d ∧ (gps ts).length ≤ 200) := ⟨HD.out, by rw [gps, List.length_map]; have := HTL.out; omega⟩
        have hself : ((strOf d).toList == (strOf d).toList) = true := by rw [str_eq]; exact decide_eq_true rfl
        cases hvm : Lib.validD m
        · have HVM := Lib.hid hvm
          clear hvm CQ
          go_wp2_with fail
          with_reducible refine (right_is _ _ HVM _ TQ.out (by omega)).mono ?_
          rintro e w8 ⟨rfl, b8⟩
          have T9 := Lib.hid (ut_keep TQ.out b8)
          have G9 := Lib.hid (GQ.out.keep b8)
          replace b8 := bq.trans (b8.mono bq.size)
          clear TQ GQ bq
          go_wp2_with fail
          refine (match_bad m (by omega) HVM.out R _ T9.out).mono ?_
          rintro e w9 ⟨rfl, b9⟩
          have G10 := Lib.hid (G9.out.keep b9)
          replace b9 := b8.trans (b9.mono b8.size)
          clear T9 G9 b8
          go_wp2_with fail
          refine (prefix_is _ d HPF _ _ _ G10.out).mono ?_
          rintro e w10 ⟨rfl, b10⟩
          replace b10 := b9.trans (b10.mono b9.size)
          clear G10 b9
          go_wp2_with fail
          go_ret
          exact ⟨by first | rfl | (refine ret_bool ?_; go_light; simp), b10⟩
        · have HVM := Lib.hid hvm
          obtain ⟨ws, hws, hmw⟩ := signs_ex m hvm
          have hwl := encAll_len ws
          rw [← hmw] at hwl
          subst hmw
          have HWS := Lib.hid hws
          obtain ⟨xb, hxb⟩ : ∃ x, matchB (gps ts) (ws.map fun r : Nat => (r : Int)) = x := ⟨_, rfl⟩
          have HMB := Lib.hid hxb
          have HME : Hid (allSign ws ∧ ws.length ≤ 100000 ∧ okGP (gps ts) ∧ (gps ts).length ≤ 200 ∧ matchB (gps ts) (ws.map fun r : Nat => (r : Int)) = xb) := ⟨hws, by omega, gps_ok ts HTS.out, HPF.out.2, hxb⟩
          clear hvm hws hxb
          go_wp2_with fail
          with_reducible refine (right_is _ _ HVM _ TQ.out (by omega)).mono ?_
          rintro e w8 ⟨rfl, b8⟩
          have T9 := Lib.hid (ut_keep TQ.out b8)
          have G9 := Lib.hid (GQ.out.keep b8)
          have C9 := Lib.hid (CQ.out.up b8)
          replace b8 := bq.trans (b8.mono bq.size)
          clear TQ GQ CQ bq
          go_wp2_with fail
          refine (match_en ws _ xb HME _ _ _ T9.out G9.out).mono ?_
          rintro e w9 ⟨rfl, b9⟩
          have T10 := Lib.hid (ut_keep T9.out b9)
          have G10 := Lib.hid (G9.out.keep b9)
          have C10 := Lib.hid (C9.out.up b9)
          replace b9 := b8.trans (b9.mono b8.size)
          clear T9 G9 C9 b8
          go_wp2_with fail
          refine (signs_any ws HWS.out (by omega) _ T10.out).mono ?_
          rintro e w10 ⟨v10, rfl, hown10, b10⟩
          obtain ⟨A10, c10, rfl, hnc10, hcm10, hcs10, _⟩ := own_form hown10
          unfold maxLen at hcm10
          have G11 := Lib.hid (G10.out.keep b10)
          have C11 := Lib.hid (C10.out.up b10)
          have U11 : Hid (CS w10 w10.heap.size A10 (uCells (ws.map fun r : Nat => (r : Int)))) := by
            show CS _ _ _ _
            rw [show uCells (ws.map fun r : Nat => (r : Int)) = iCells ws by simp [uCells, iCells]]
            exact hcs10
          replace b10 := b9.trans (b10.mono b9.size)
          clear T10 G10 C10 b9 hown10 hcs10
          have HLM := Lib.hid (lmatch_any ts (ws.map fun r : Nat => (r : Int)) (some ⟨pb, po, none⟩) A10 n c6 ws.length c10 w10 HTS.out HTL.out (by show _ = _; simp) (by omega) (by omega) hnc6 (by omega) hnc10 (by omega) C11.out U11.out)
          rw [HMB.out] at HLM
          generalize hwl : ws.length = wl at *
          clear hwl
          go_wp2_with fail
          refine HLM.out.mono ?_
          rintro e w11 ⟨rfl, b11⟩
          have G12 := Lib.hid (G11.out.keep b11)
          replace b11 := b10.trans (b11.mono b10.size)
          clear G11 b10 HLM C11 U11
          go_wp2_with fail
          refine (prefix_is _ d HPF _ _ _ G12.out).mono ?_
          rintro e w12 ⟨rfl, b12⟩
          replace b12 := b11.trans (b12.mono b11.size)
          clear G12 b11
          go_wp2_with fail
          go_ret
          exact ⟨by first | rfl | (refine ret_bool ?_; go_light; simp), b12⟩
    · have HD : Hid (prefL (gps ts) = d) := by
        show _ = _
        rw [HP.out, List.drop_eq_nil_of_le (by rw [← HTL.out]; omega)]
        simp [gps, prefL]
      have TQ := Lib.hid (ut_keep T6.out hbel)
      have GQ := Lib.hid (HG6.out.keep hbel)
      have CQ := Lib.hid (C6.out.up hbel)
      have bq := b6.trans (hbel.mono b6.size)
      clear HP hbel T6 HG6 C6 b6
      have HPF : Hid (prefL (gps ts) = d ∧ (gps ts).length ≤ 200) := ⟨HD.out, by rw [gps, List.length_map]; have := HTL.out; omega⟩
      have hself : ((strOf d).toList == (strOf d).toList) = true := by rw [str_eq]; exact decide_eq_true rfl
      cases hvm : Lib.validD m
      · have HVM := Lib.hid hvm
        clear hvm CQ
        go_wp2_with fail
        with_reducible refine (right_is _ _ HVM _ TQ.out (by omega)).mono ?_
        rintro e w8 ⟨rfl, b8⟩
        have T9 := Lib.hid (ut_keep TQ.out b8)
        have G9 := Lib.hid (GQ.out.keep b8)
        replace b8 := bq.trans (b8.mono bq.size)
        clear TQ GQ bq
        go_wp2_with fail
        refine (match_bad m (by omega) HVM.out R _ T9.out).mono ?_
        rintro e w9 ⟨rfl, b9⟩
        have G10 := Lib.hid (G9.out.keep b9)
        replace b9 := b8.trans (b9.mono b8.size)
        clear T9 G9 b8
        go_wp2_with fail
        refine (prefix_is _ d HPF _ _ _ G10.out).mono ?_
        rintro e w10 ⟨rfl, b10⟩
        replace b10 := b9.trans (b10.mono b9.size)
        clear G10 b9
        go_wp2_with fail
        go_ret
        exact ⟨by first | rfl | (refine ret_bool ?_; go_light; simp), b10⟩
      · have HVM := Lib.hid hvm
        obtain ⟨ws, hws, hmw⟩ := signs_ex m hvm
        have hwl := encAll_len ws
        rw [← hmw] at hwl
        subst hmw
        have HWS := Lib.hid hws
        obtain ⟨xb, hxb⟩ : ∃ x, matchB (gps ts) (ws.map fun r : Nat => (r : Int)) = x := ⟨_, rfl⟩
        have HMB := Lib.hid hxb
        have HME : Hid (allSign ws ∧ ws.length ≤ 100000 ∧ okGP (gps ts) ∧ (gps ts).length ≤ 200 ∧ matchB (gps ts) (ws.map fun r : Nat => (r : Int)) = xb) := ⟨hws, by omega, gps_ok ts HTS.out, HPF.out.2, hxb⟩
        clear hvm hws hxb
        go_wp2_with fail
        with_reducible refine (right_is _ _ HVM _ TQ.out (by omega)).mono ?_
        rintro e w8 ⟨rfl, b8⟩
        have T9 := Lib.hid (ut_keep TQ.out b8)
        have G9 := Lib.hid (GQ.out.keep b8)
        have C9 := Lib.hid (CQ.out.up b8)
        replace b8 := bq.trans (b8.mono bq.size)
        clear TQ GQ CQ bq
        go_wp2_with fail
        refine (match_en ws _ xb HME _ _ _ T9.out G9.out).mono ?_
        rintro e w9 ⟨rfl, b9⟩
        have T10 := Lib.hid (ut_keep T9.out b9)
        have G10 := Lib.hid (G9.out.keep b9)
        have C10 := Lib.hid (C9.out.up b9)
        replace b9 := b8.trans (b9.mono b8.size)
        clear T9 G9 C9 b8
        go_wp2_with fail
        refine (signs_any ws HWS.out (by omega) _ T10.out).mono ?_
        rintro e w10 ⟨v10, rfl, hown10, b10⟩
        obtain ⟨A10, c10, rfl, hnc10, hcm10, hcs10, _⟩ := own_form hown10
        unfold maxLen at hcm10
        have G11 := Lib.hid (G10.out.keep b10)
        have C11 := Lib.hid (C10.out.up b10)
        have U11 : Hid (CS w10 w10.heap.size A10 (uCells (ws.map fun r : Nat => (r : Int)))) := by
          show CS _ _ _ _
          rw [show uCells (ws.map fun r : Nat => (r : Int)) = iCells ws by simp [uCells, iCells]]
          exact hcs10
        replace b10 := b9.trans (b10.mono b9.size)
        clear T10 G10 C10 b9 hown10 hcs10
        have HLM := Lib.hid (lmatch_any ts (ws.map fun r : Nat => (r : Int)) A6 A10 n c6 ws.length c10 w10 HTS.out HTL.out (by show _ = _; simp) (by omega) (by omega) hnc6 (by omega) hnc10 (by omega) C11.out U11.out)
        rw [HMB.out] at HLM
        generalize hwl : ws.length = wl at *
        clear hwl
        go_wp2_with fail
        refine HLM.out.mono ?_
        rintro e w11 ⟨rfl, b11⟩
        have G12 := Lib.hid (G11.out.keep b11)
        replace b11 := b10.trans (b11.mono b10.size)
        clear G11 b10 HLM C11 U11
        go_wp2_with fail
        refine (prefix_is _ d HPF _ _ _ G12.out).mono ?_
        rintro e w12 ⟨rfl, b12⟩
        replace b12 := b11.trans (b12.mono b11.size)
        clear G12 b11
        go_wp2_with fail
        go_ret
        exact ⟨by first | rfl | (refine ret_bool ?_; go_light; simp), b12⟩
end Go.Proofs.YtdijicdlglnlmaaDoor
