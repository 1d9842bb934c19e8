/- GlobMaps answers true. -/
import Derived.Test.YtdijicdlglnlmaaDoorGlMps
import Derived.Test.YtdijicdlglnlmaaDoorGlMat
namespace Go.Proofs.YtdijicdlglnlmaaDoor
open Go.RowKit
set_option maxRecDepth 100000

theorem pref_len : ∀ (ps : List GP), ps.length ≤ 200 → (prefL ps).length ≤ 100000 := fun ps h => by
  have h4 : ∀ qs : List GP, (prefL qs).length ≤ 4 * qs.length := fun qs => by
    induction qs with
    | nil => simp [prefL]
    | cons p t ih =>
      unfold prefL
      split
      · simp
      · have := putL_len p.2.1
        simp only [List.length_append, List.length_cons]
        omega
  have := h4 ps
  omega
set_option maxHeartbeats 8000000 in
theorem gmaps_main (A : Option Addr) (n c : Nat) (z : List LP) (ws : List Nat) (hws : allSign ws) (w : World) (hT : UT w) (HN : Hid (n = z.length)) (hn : n ≤ 7) (hz : IP w w.heap.size A z) (hm : (encAll ws).length ≤ 14) :
    Calls Tryd.prog 6 #[.slice A n c, .string (strOf (encAll ws))] w fun e w' => e = .returned (.bool true) ∧ Below w.heap.size w w' := by
  have hz2 : (strOf (encAll ws)).size ≤ 14 := by rw [size8]; exact hm
  have hz3 : ((strOf (encAll ws)).size : Int) ≤ 14 := by omega
  have hwl := encAll_len ws
  have HT := Lib.hid hT
  have HV := Lib.hid (valid_all ws hws)
  have HW := Lib.hid hws
  have HU : Hid (mapL lowN (encAll ws) = encAll (lowW ws) ∧ (encAll ws).length ≤ 100000) := ⟨lowW_map ws hws, by omega⟩
  clear hT hws
  go_enter Tryd.func6, Tryd.ntmps6
  go_wp2_with fail
  refine (head_any _ HT.out).mono ?_
  rintro e w0 ⟨rfl, b0⟩
  have T0 := Lib.hid (ut_keep HT.out b0)
  go_wp2_with fail
  with_reducible refine (right_is _ _ HV _ T0.out (by omega)).mono ?_
  rintro e w1 ⟨rfl, b1⟩
  have T1 := Lib.hid (ut_keep T0.out b1)
  replace b1 := b0.trans (b1.mono b0.size)
  have HX := Lib.hid (text_any A n c z w1 HN (by omega) (hz.up b1))
  clear HT hz T0 b0 HV
  go_wp2_with fail
  refine HX.out.mono ?_
  rintro e w2 ⟨v2, ts, rfl, htl, hts, hown2, b2⟩
  have T2 := Lib.hid (ut_keep T1.out b2)
  have HTS := Lib.hid hts
  have HTL : Hid (n = ts.length) := htl.symm
  have V := Lib.hid (txts_valid ts hts)
  have P := Lib.hid (txts_parse ts hts (by omega))
  have htx := txts_len ts hts
  obtain ⟨A6, c6, rfl, hnc6, hcm6, hcs6, _⟩ := own_form hown2
  unfold maxLen at hcm6
  replace b2 := b1.trans (b2.mono b1.size)
  clear T1 b1 HX hts htl hown2
  go_wp2_with fail
  refine (parse_good (txts ts) (gps ts) V P (by have := HTL.out; omega) _ T2.out).mono ?_
  rintro e w6 ⟨R, rfl, G6, b6⟩
  have T6 := Lib.hid (ut_keep T2.out b6)
  have HG6 := Lib.hid G6.w
  have C6 := Lib.hid (CS.up hcs6 b6)
  replace b6 := b2.trans (b6.mono b2.size)
  clear T2 b2 V P G6 hcs6 htx
  go_wp2_with fail
  go_loopw [9, 44] (fun v i wr => ∃ (k : Nat), k ≤ n ∧ i = .int .i64 k ∧ wr.ownsRow w6.heap.size 31 4 v k (qCells ((ts.take k).map lowT)) ∧ Below w6.heap.size w6 wr) (fun _ i _ => n - (intOf i).toNat)
  case atStart => exact ⟨0, Nat.zero_le _, rfl, own_lit w6 _ 4 _ rfl, (Below.refl _ _).alloc (Nat.le_refl _) _⟩
  case round =>
    obtain ⟨k, hk, rfl, hown, hbel⟩ := hrel
    have hwz : w6.heap.size ≤ wr.heap.size := hbel.size
    by_cases hlt : k < n
    · have hkl : k < ts.length := by rw [← HTL.out]; exact hlt
      obtain ⟨pb, po, rfl, hpb, hcell⟩ := C6.out (by rw [qCells_len]; omega)
      obtain ⟨q0, q1, q2, q3⟩ := qCells_at ts k hkl
      have tr : ∀ o u, w6.cell? ⟨pb, o, none⟩ = some u → wr.cell? ⟨pb, o, none⟩ = some u := fun o u h => (hbel.cell (p := ⟨pb, o, none⟩) hpb).trans h
      have m0 : wr.cell? ⟨pb, po + k * 4, none⟩ = _ := tr _ _ (hcell _ _ q0)
      have m1 : wr.cell? ⟨pb, po + k * 4 + 1, none⟩ = _ := tr _ _ (hcell _ _ q1)
      have m2 : wr.cell? ⟨pb, po + k * 4 + 2, none⟩ = _ := tr _ _ (hcell _ _ q2)
      have m3 : wr.cell? ⟨pb, po + k * 4 + 3, none⟩ = _ := tr _ _ (hcell _ _ q3)
      have hbd := (nq_bd (HTS.out _ (List.getElem_mem hkl))).1
      have HQ : Hid (qCells ((ts.take (k + 1)).map lowT) = qCells ((ts.take k).map lowT) ++ [.int .i64 ts[k].1.1, .int .i32 (lowI ts[k].1.2.1), .int .i64 ts[k].1.2.2.1, .int .i64 ts[k].1.2.2.2]) := by
        show _ = _
        rw [take_low ts k hkl, qCells_snoc]
        rfl
      clear q0 q1 q2 q3 tr hcell
      generalize ts[k] = x at *
      obtain ⟨⟨xK, xs, xl, xh⟩, xt, xg⟩ := x
      simp only at m0 m1 m2 m3 hbd
      obtain ⟨l, hl⟩ : ∃ l, lowI xs = l := ⟨_, rfl⟩
      have HL : Hid (0 ≤ xs ∧ xs ≤ 1114111 ∧ lowI xs = l) := ⟨hbd.1, hbd.2, hl⟩
      have HQ2 : Hid (qCells ((ts.take (k + 1)).map lowT) = qCells ((ts.take k).map lowT) ++ [.int .i64 xK, .int .i32 l, .int .i64 xl, .int .i64 xh]) := by show _ = _; rw [← hl]; exact HQ.out
      have hownP := fun (o : Obj) => own_below hown ((Below.refl wr.heap.size wr).alloc (Nat.le_refl _) o)
      have hbelP := fun (o : Obj) => hbel.alloc hbel.size o
      clear HQ hl hbd
      go_wp2_with fail
      refine (low_is xs l HL _).mono ?_
      rintro e w3 ⟨rfl, rfl⟩
      go_wp2_with (first
        | (at_builtin
           refine wpList_appendQ _ rfl (.tmp 52) (.tmp 54) rfl w6.heap.size _ k (qCells ((ts.take k).map lowT)) xK l xl xh (wr.heap.size + 1) (by simp) rfl rfl (hownP _) (by simp; omega) (by omega) ?_
           intro v4 w4 hown4 hkeep4))
      exact ⟨⟨k + 1, by omega, by go_num, by rw [HQ2.out]; exact hown4, hkeep4 _ _ (Nat.le_refl _) (hbelP _)⟩, by simp [intOf]; omega⟩
    · have hkn : k = n := by omega
      subst hkn
      obtain ⟨A9, c9, rfl, hnc9, hcm9, hcs9, _⟩ := own_form hown
      unfold maxLen at hcm9
      have e9 : ts.take k = ts := by rw [HTL.out]; exact List.take_length
      rw [e9] at hcs9
      have C9 := Lib.hid hcs9
      have T9 := Lib.hid (ut_keep T6.out hbel)
      have G9 := Lib.hid (HG6.out.keep hbel)
      have B9 := Lib.hid (C6.out.up hbel)
      replace hbel := b6.trans (hbel.mono b6.size)
      have HLL : Hid (k = (ts.map lowT).length) := by show _ = _; rw [List.length_map]; exact HTL.out
      have hgl : (gps ts).length ≤ 200 := by rw [gps, List.length_map]; have := HTL.out; omega
      have hgl2 : (gps (ts.map lowT)).length ≤ 200 := by rw [gps, List.length_map, List.length_map]; have := HTL.out; omega
      have HGM := Lib.hid (gmap_low (gps ts) hgl (gps_bd HTS.out) R wr G9.out)
      rw [← gps_low] at HGM
      have hvl : (lowW ws).length = ws.length := by unfold lowW; rw [List.length_map]
      obtain ⟨x1, hx1⟩ : ∃ x, matchB (gps (ts.map lowT)) ((lowW ws).map fun r : Nat => (r : Int)) = x := ⟨_, rfl⟩
      obtain ⟨x2, hx2⟩ : ∃ x, matchB (gps ts) (ws.map fun r : Nat => (r : Int)) = x := ⟨_, rfl⟩
      have M1 : Hid (allSign (lowW ws) ∧ (lowW ws).length ≤ 100000 ∧ okGP (gps (ts.map lowT)) ∧ (gps (ts.map lowT)).length ≤ 200 ∧ matchB (gps (ts.map lowT)) ((lowW ws).map fun r : Nat => (r : Int)) = x1) := ⟨lowW_sign HW.out, by omega, gps_ok _ (allNQ_low HTS.out), hgl2, hx1⟩
      have M2 : Hid (allSign ws ∧ ws.length ≤ 100000 ∧ okGP (gps ts) ∧ (gps ts).length ≤ 200 ∧ matchB (gps ts) (ws.map fun r : Nat => (r : Int)) = x2) := ⟨HW.out, by omega, gps_ok _ HTS.out, hgl, hx2⟩
      have L1 : Hid (allNQ (ts.map lowT) ∧ matchB (gps (ts.map lowT)) ((lowW ws).map fun r : Nat => (r : Int)) = x1) := ⟨allNQ_low HTS.out, hx1⟩
      have L2 : Hid (allNQ ts ∧ matchB (gps ts) (ws.map fun r : Nat => (r : Int)) = x2) := ⟨HTS.out, hx2⟩
      obtain ⟨d, hd⟩ : ∃ d, mapL lowN (prefL (gps ts)) = d := ⟨_, rfl⟩
      have P1 : Hid (prefL (gps (ts.map lowT)) = d ∧ (gps (ts.map lowT)).length ≤ 200) := ⟨by rw [pref_low ts HTS.out]; exact hd, hgl2⟩
      have P2 : Hid (prefL (gps ts) = prefL (gps ts) ∧ (gps ts).length ≤ 200) := ⟨rfl, hgl⟩
      have P3 : Hid (mapL lowN (prefL (gps ts)) = d ∧ (prefL (gps ts)).length ≤ 100000) := ⟨hd, pref_len _ hgl⟩
      have hself : ((strOf d).toList == (strOf d).toList) = true := by rw [str_eq]; exact decide_eq_true rfl
      obtain ⟨pg, hpg⟩ : ∃ pg, prefL (gps ts) = pg := ⟨_, rfl⟩
      have P4 : Hid (prefL (gps ts) = pg ∧ (gps ts).length ≤ 200) := ⟨hpg, hgl⟩
      rw [hpg] at P3
      have hpl : (strOf pg).size ≤ 100000 := by rw [size8]; exact P3.out.2
      clear hown hcs9 e9 T6 HG6 C6 b6 hgl hgl2 hx1 hx2 hd hpg P2
      go_wp2_with fail
      refine HGM.out.mono ?_
      rintro e w7 ⟨R2, rfl, X7, b7⟩
      have K7 : Hid (Ctx w7 R R2 A6 A9 ts (ts.map lowT)) := ⟨ut_keep T9.out b7, G9.out.keep b7, X7, B9.out.up b7, C9.out.up b7⟩
      replace b7 := hbel.trans (b7.mono hbel.size)
      clear T9 G9 B9 C9 X7 hbel HGM
      go_wp2_with fail
      refine (umap_is _ _ HU _ K7.out.1).mono ?_
      rintro e w8 ⟨rfl, b8⟩
      have K8 := Lib.hid (K7.out.keep b8)
      replace b8 := b7.trans (b8.mono b7.size)
      clear K7 b7
      go_wp2_with fail
      refine (match_iw (lowW ws) _ x1 M1 _ _ K8.out.1 K8.out.2.2.1).mono ?_
      rintro e w9 ⟨rfl, b9⟩
      have K9 := Lib.hid (K8.out.keep b9)
      replace b9 := b8.trans (b9.mono b8.size)
      clear K8 b8
      go_wp2_with fail
      refine (signs_any (lowW ws) (lowW_sign HW.out) (by omega) _ K9.out.1).mono ?_
      rintro e w10 ⟨v10, rfl, hown10, b10⟩
      obtain ⟨A10, c10, rfl, hnc10, hcm10, hcs10, _⟩ := own_form hown10
      unfold maxLen at hcm10
      have K10 := Lib.hid (K9.out.keep b10)
      have U10 := Lib.hid hcs10
      replace b10 := b9.trans (b10.mono b9.size)
      clear K9 b9 hown10 hcs10
      have HM1 := Lib.hid (lmatch_is (ts.map lowT) (lowW ws) x1 L1 A9 A10 k c9 (lowW ws).length c10 w10 HLL rfl (by omega) (by omega) hnc9 (by omega) hnc10 (by omega) K10.out.2.2.2.2 U10.out)
      obtain ⟨wl, hwl2⟩ : ∃ m, m = (lowW ws).length := ⟨_, rfl⟩
      rw [← hwl2] at HM1 hnc10 ⊢
      clear hwl2
      go_wp2_with fail
      refine HM1.out.mono ?_
      rintro e w11 ⟨rfl, b11⟩
      have K11 := Lib.hid (K10.out.keep b11)
      replace b11 := b10.trans (b11.mono b10.size)
      clear K10 b10 HM1 U10 hnc10 hcm10
      go_wp2_with fail
      refine (match_iw ws _ x2 M2 _ _ K11.out.1 K11.out.2.1).mono ?_
      rintro e w12 ⟨rfl, b12⟩
      have K12 := Lib.hid (K11.out.keep b12)
      replace b12 := b11.trans (b12.mono b11.size)
      clear K11 b11
      go_wp2_with fail
      refine (signs_any ws HW.out (by omega) _ K12.out.1).mono ?_
      rintro e w13 ⟨v13, rfl, hown13, b13⟩
      obtain ⟨A13, c13, rfl, hnc13, hcm13, hcs13, _⟩ := own_form hown13
      unfold maxLen at hcm13
      have K13 := Lib.hid (K12.out.keep b13)
      have U13 := Lib.hid hcs13
      replace b13 := b12.trans (b13.mono b12.size)
      clear K12 b12 hown13 hcs13
      have HM2 := Lib.hid (lmatch_is ts ws x2 L2 A6 A13 k c6 ws.length c13 w13 HTL rfl (by omega) (by omega) hnc6 (by omega) hnc13 (by omega) K13.out.2.2.2.1 U13.out)
      obtain ⟨wl2, hwl3⟩ : ∃ m, m = ws.length := ⟨_, rfl⟩
      rw [← hwl3] at HM2 hnc13 ⊢
      clear hwl3
      go_wp2_with fail
      refine HM2.out.mono ?_
      rintro e w14 ⟨rfl, b14⟩
      have K14 := Lib.hid (K13.out.keep b14)
      replace b14 := b13.trans (b14.mono b13.size)
      clear K13 b13 HM2 U13 hnc13 hcm13
      go_wp2_with fail
      refine (prefix_iw _ d P1 _ _ K14.out.2.2.1).mono ?_
      rintro e w15 ⟨rfl, b15⟩
      have K15 := Lib.hid (K14.out.keep b15)
      replace b15 := b14.trans (b15.mono b14.size)
      clear K14 b14
      go_wp2_with fail
      refine (prefix_iw _ pg P4 _ _ K15.out.2.1).mono ?_
      rintro e w16 ⟨rfl, b16⟩
      have K16 := Lib.hid (K15.out.keep b16)
      replace b16 := b15.trans (b16.mono b15.size)
      clear K15 b15
      go_wp2_with fail
      refine (umap_is pg d P3 _ K16.out.1).mono ?_
      rintro e w17 ⟨rfl, b17⟩
      replace b17 := b16.trans (b17.mono b16.size)
      clear K16 b16
      go_wp2_with fail
      go_ret
      exact ⟨by first | rfl | (refine ret_bool ?_; go_light; simp), b17⟩
theorem gmaps_all (A : Option Addr) (n c : Nat) (z : List LP) (m : List UInt8) (w : World) (hT : UT w) (HN : Hid (n = z.length)) (hz : IP w w.heap.size A z) :
    Calls Tryd.prog 6 #[.slice A n c, .string (strOf m)] w fun e w' => e = .returned (.bool true) ∧ Below w.heap.size w w' := by
  by_cases hn : n ≤ 7
  · by_cases hm : m.length ≤ 14
    · cases hv : Lib.validD m
      · have h1 : (n : Int) ≤ 7 := by omega
        have h2 : (strOf m).size ≤ 14 := by rw [size8]; exact hm
        have h3 : ((strOf m).size : Int) ≤ 14 := by omega
        have HV := Lib.hid hv
        have HT := Lib.hid hT
        clear hT hz HN hn hv
        go_enter Tryd.func6, Tryd.ntmps6
        go_wp2_with fail
        refine (head_any w HT.out).mono ?_
        rintro e w1 ⟨rfl, b1⟩
        go_wp2_with fail
        with_reducible refine (right_is _ _ HV _ (ut_keep HT.out b1) (by omega)).mono ?_
        rintro e w2 ⟨rfl, b2⟩
        go_wp2_with fail
        go_ret
        exact ⟨rfl, b1.trans (b2.mono b1.size)⟩
      · obtain ⟨ws, hws, rfl⟩ := signs_ex m hv
        exact gmaps_main A n c z ws hws w hT HN hn hz hm
    · have h1 : (n : Int) ≤ 7 := by omega
      have h2 : (14 : Int) < ((strOf m).size : Int) := by rw [size8]; omega
      have HT := Lib.hid hT
      clear hT hz HN hn hm
      go_enter Tryd.func6, Tryd.ntmps6
      go_wp2_with fail
      refine (head_any w HT.out).mono ?_
      rintro e w1 ⟨rfl, b1⟩
      go_wp2_with fail
      go_ret
      exact ⟨rfl, b1⟩
  · have h2 : (7 : Int) < (n : Int) := by omega
    have HT := Lib.hid hT
    clear hT hz HN hn
    go_enter Tryd.func6, Tryd.ntmps6
    go_wp2_with fail
    refine (head_any w HT.out).mono ?_
    rintro e w1 ⟨rfl, b1⟩
    go_wp2_with fail
    go_ret
    exact ⟨rfl, b1⟩
end Go.Proofs.YtdijicdlglnlmaaDoor
