/- GlobStars answers true. -/
import Derived.Test.YtdijicdlglnlmaaDoorGlSigns
import Derived.Test.YtdijicdlglnlmaaDoorGlErr
namespace Go.Proofs.YtdijicdlglnlmaaDoor
open Go.RowKit
set_option maxRecDepth 100000

theorem quot_snoc (rs : List Nat) (k : Nat) (h : k < rs.length) : quotL (rs.take (k + 1)) = quotL (rs.take k) ++ [92] ++ encS rs[k] := by
  unfold quotL
  rw [List.take_succ_eq_append_getElem h, List.flatMap_append, List.append_assoc]
  simp
theorem stars_parse (rs : List Nat) (hs : allSign rs) (hl : rs.length ≤ 100) :
    parseL (46 :: 42 :: (quotL rs ++ [46, 42])).length (46 :: 42 :: (quotL rs ++ [46, 42])) [] = .ok (star :: (rs.map sgn ++ [star])) ∧
    parseL (quotL rs ++ [46, 42]).length (quotL rs ++ [46, 42]) [] = .ok (rs.map sgn ++ [star]) ∧
    parseL (46 :: 42 :: quotL rs).length (46 :: 42 :: quotL rs) [] = .ok (star :: rs.map sgn) := by
  have hp : ∀ x ∈ (rs.map fun r => ((92 :: encS r, sgn r) : List UInt8 × GP)), isPart x.1 x.2 := by
    intro x hx
    obtain ⟨r, hr, rfl⟩ := List.mem_map.1 hx
    exact part_sign r (hs r hr)
  have hstar : isPart ([46, 42] : List UInt8) star := part_star
  have hq := quot_parts rs
  have hsd := quot_snd rs
  have hlen : (rs.map fun r => ((92 :: encS r, sgn r) : List UInt8 × GP)).length = rs.length := by simp
  generalize (rs.map fun r => ((92 :: encS r, sgn r) : List UInt8 × GP)) = ts at *
  refine ⟨?_, ?_, ?_⟩
  · have h := parts_parse (([46, 42], star) :: (ts ++ [([46, 42], star)])) _ [] (Nat.le_refl _) (fun x hx => by
      simp only [List.mem_cons, List.mem_append, List.not_mem_nil, or_false] at hx
      rcases hx with rfl | hx | rfl
      · exact hstar
      · exact hp x hx
      · exact hstar) (by simp; omega)
    simp only [List.flatMap_cons, List.flatMap_append, List.flatMap_nil, List.append_nil, List.map_cons, List.map_append, List.map_nil, List.nil_append, ← hq, hsd] at h
    exact h
  · have h := parts_parse (ts ++ [([46, 42], star)]) _ [] (Nat.le_refl _) (fun x hx => by
      simp only [List.mem_cons, List.mem_append, List.not_mem_nil, or_false] at hx
      rcases hx with hx | rfl
      · exact hp x hx
      · exact hstar) (by simp; omega)
    simp only [List.flatMap_cons, List.flatMap_append, List.flatMap_nil, List.append_nil, List.map_cons, List.map_append, List.map_nil, List.nil_append, ← hq, hsd] at h
    exact h
  · have h := parts_parse (([46, 42], star) :: ts) _ [] (Nat.le_refl _) (fun x hx => by
      simp only [List.mem_cons] at hx
      rcases hx with rfl | hx
      · exact hstar
      · exact hp x hx) (by simp; omega)
    simp only [List.flatMap_cons, List.map_cons, ← hq, hsd, List.nil_append] at h
    exact h
theorem stars_valid (rs : List Nat) (hs : allSign rs) : Lib.validD (46 :: 42 :: (quotL rs ++ [46, 42])) = true ∧ Lib.validD (quotL rs ++ [46, 42]) = true ∧ Lib.validD (46 :: 42 :: quotL rs) = true := by
  have hv := quot_valid rs hs
  have e2 : Lib.validD [46, 42] = true := by kernel_rfl
  have h1 : ∀ x, Lib.validD (46 :: 42 :: x) = Lib.validD x := fun x => valid_cat [46, 42] x e2
  have h2 : Lib.validD (quotL rs ++ [46, 42]) = true := by rw [valid_cat _ _ hv]; exact e2
  exact ⟨by rw [h1]; exact h2, h2, by rw [h1]; exact hv⟩
theorem pref_cat (rs : List Nat) (hs : allSign rs) (q : List GP) : prefL (rs.map sgn ++ star :: q) = encAll rs := by
  induction rs with
  | nil => rfl
  | cons r t ih =>
    rw [List.map_cons, List.cons_append, encAll_cons]
    show putL (r : Int) ++ prefL (t.map sgn ++ star :: q) = _
    rw [putL_sign r (hs r (by simp)), ih fun x hx => hs x (by simp [hx])]
theorem bool_of_iff {a b : Bool} (h : a = true ↔ b = true) : a = b := by cases a <;> cases b <;> simp_all
theorem stars_match (rs ws : List Nat) (hr : allSign rs) (hw : allSign ws) (hl : ws.length ≤ 100000) (k : Nat) (hk : ∀ n, n + (encAll rs).length ≤ (encAll ws).length → n < k) (hk2 : ∀ n, n < k → n + (encAll rs).length ≤ (encAll ws).length) :
    matchB (star :: (rs.map sgn ++ [star])) (ws.map fun r : Nat => (r : Int)) = inB (encAll ws) (encAll rs) k ∧
    matchB (rs.map sgn ++ [star]) (ws.map fun r : Nat => (r : Int)) = decide ((encAll rs).length ≤ (encAll ws).length ∧ (encAll ws).take (encAll rs).length = encAll rs) ∧
    matchB (star :: rs.map sgn) (ws.map fun r : Nat => (r : Int)) = decide ((encAll rs).length ≤ (encAll ws).length ∧ (encAll ws).drop ((encAll ws).length - (encAll rs).length) = encAll rs) := by
  have hm : (ws.length : Int) ≤ maxI := by show (ws.length : Int) ≤ 9223372036854775807; omega
  refine ⟨bool_of_iff ?_, bool_of_iff ?_, bool_of_iff ?_⟩
  · rw [match_iff, mt_in rs ws hm, in_iff rs ws hr hw k hk hk2]
  · rw [match_iff, mt_begins rs ws hm, decide_eq_true_eq]
    constructor
    · rintro ⟨c, rfl⟩; exact ⟨by rw [encAll_app, List.length_append]; omega, (begins_iff _ _ hr hw).2 ⟨c, rfl⟩⟩
    · rintro ⟨_, h⟩; exact (begins_iff _ _ hr hw).1 h
  · rw [match_iff, mt_ends rs ws hm, decide_eq_true_eq]
    constructor
    · rintro ⟨c, rfl⟩
      have hle : (encAll rs).length ≤ (encAll (c ++ rs)).length := by rw [encAll_app, List.length_append]; omega
      exact ⟨hle, (ends_with _ _ hr hw hle).2 ⟨c, rfl⟩⟩
    · rintro ⟨h1, h⟩; exact (ends_with _ _ hr hw h1).1 h
theorem stars_ok (rs : List Nat) : okGP (star :: (rs.map sgn ++ [star])) ∧ okGP (rs.map sgn ++ [star]) ∧ okGP (star :: rs.map sgn) := by
  have h1 := plain_ok rs
  have h2 : 0 ≤ star.2.2.1 ∧ star.2.2.1 ≤ 1000 := by decide
  refine ⟨fun p hp => ?_, fun p hp => ?_, fun p hp => ?_⟩
  · simp only [List.mem_cons, List.mem_append, List.not_mem_nil, or_false] at hp
    rcases hp with rfl | hp | rfl
    · exact h2
    · exact h1 p hp
    · exact h2
  · simp only [List.mem_cons, List.mem_append, List.not_mem_nil, or_false] at hp
    rcases hp with hp | rfl
    · exact h1 p hp
    · exact h2
  · simp only [List.mem_cons] at hp
    rcases hp with rfl | hp
    · exact h2
    · exact h1 p hp
theorem inB_succ (m l : List UInt8) (k : Nat) : inB m l (k + 1) = (inB m l k || inAt m l k) := by unfold inB; rw [List.range_succ, List.any_append]; simp

theorem match_en (rs : List Nat) (ps : List GP) (b : Bool) (h : Hid (allSign rs ∧ rs.length ≤ 100000 ∧ okGP ps ∧ ps.length ≤ 200 ∧ matchB ps (rs.map fun r : Nat => (r : Int)) = b)) (B R : Nat) (w : World) (hT : UT w) (hG : GlobAt w B R ps) :
    Calls Tryd.prog 13 #[.pointer (some ⟨R, 0, none⟩), .string (strOf (encAll rs))] w fun e w' => e = .returned (.bool b) ∧ Below w.heap.size w w' := by
  obtain ⟨h1, h2, h3, h4, rfl⟩ := h.out
  exact match_any rs h1 h2 ps h4 h3 B R w hT hG
set_option maxHeartbeats 8000000 in
theorem stars_main (rs ws : List Nat) (hr : allSign rs) (hw : allSign ws) (hl : (encAll rs).length ≤ 10) (hm : (encAll ws).length ≤ 20) (w : World) (hT : UT w) :
    Calls Tryd.prog 7 #[.string (strOf (encAll rs)), .string (strOf (encAll ws))] w fun e w' => e = .returned (.bool true) ∧ Below w.heap.size w w' := by
  have hlr := encAll_len rs
  have hlw := encAll_len ws
  have V1 := Lib.hid (valid_all rs hr)
  have V2 := Lib.hid (valid_all ws hw)
  have HR := Lib.hid hr
  have HW := Lib.hid hw
  have HT := Lib.hid hT
  have HZ1 := Lib.hid (size8 (encAll rs))
  have HZ2 := Lib.hid (size8 (encAll ws))
  have hz1 : (strOf (encAll rs)).size ≤ 10 := by rw [size8]; exact hl
  have hz2 : (strOf (encAll ws)).size ≤ 20 := by rw [size8]; exact hm
  clear hr hw hT
  go_enter Tryd.func7, Tryd.ntmps7
  go_wp2_with fail
  refine (head_any _ HT.out).mono ?_
  rintro e w1 ⟨rfl, b1⟩
  have T1 := Lib.hid (ut_keep HT.out b1)
  clear HT
  go_wp2_with fail
  with_reducible refine (right_is _ _ V1 _ T1.out (by omega)).mono ?_
  rintro e w2 ⟨rfl, b2⟩
  have T2 := Lib.hid (ut_keep T1.out b2)
  replace b2 := b1.trans (b2.mono b1.size)
  clear b1 T1
  go_wp2_with fail
  with_reducible refine (right_is _ _ V2 _ T2.out (by omega)).mono ?_
  rintro e w3 ⟨rfl, b3⟩
  have T3 := Lib.hid (ut_keep T2.out b3)
  replace b3 := b2.trans (b3.mono b2.size)
  clear b2 T2
  go_wp2_with fail
  refine (signs_any rs HR.out (by omega) _ T3.out).mono ?_
  rintro e w4 ⟨v4, rfl, hown4, b4⟩
  have T4 := Lib.hid (ut_keep T3.out b4)
  replace b4 := b3.trans (b4.mono b3.size)
  obtain ⟨A, c, rfl, hnc, hcm, hcs, _⟩ := own_form hown4
  unfold maxLen at hcm
  obtain ⟨n, hn⟩ : ∃ n, n = rs.length := ⟨_, rfl⟩
  have HN := Lib.hid hn
  rw [← hn] at hnc hlr ⊢
  clear b3 T3 hown4 hn
  go_wp2_with fail
  go_loopw [5, 41] (fun s i wr => ∃ k : Nat, k ≤ n ∧ i = .int .i64 k ∧ s = .string (strOf (quotL (rs.take k))) ∧ Below w.heap.size w wr ∧ Below w4.heap.size w4 wr) (fun _ i _ => n - (intOf i).toNat)
  case atStart => exact ⟨0, Nat.zero_le _, rfl, rfl, b4, Below.refl _ _⟩
  case round =>
    obtain ⟨k, hk, rfl, rfl, hbel, hbel4⟩ := hrel
    by_cases hlt : k < n
    · have hkl : k < rs.length := by rw [← HN.out]; exact hlt
      obtain ⟨pb, po, rfl, hpb, hcell⟩ := hcs (by rw [iCells, List.length_map, ← HN.out]; omega)
      have hsr := HR.out rs[k] (List.getElem_mem hkl)
      have hc : wr.cell? ⟨pb, po + k, none⟩ = some (.int .i32 ((rs[k] : Nat) : Int)) := (hbel4.cell (p := ⟨pb, po + k, none⟩) hpb).trans (hcell k _ (by rw [iCells, List.getElem?_map, List.getElem?_eq_getElem hkl]; rfl))
      have HQ := Lib.hid (quot_snoc rs k hkl)
      have hql : (quotL (rs.take k)).length ≤ 50 := by have := quot_len (rs.take k); rw [List.length_take] at this; omega
      generalize rs[k] = r at *
      have HA : Hid (strOf (quotL (rs.take k)) ++ (⟨#[92]⟩ : ByteArray) ++ strOf (encS r) = strOf (quotL (rs.take (k + 1)))) := by
        show _ = _
        rw [HQ.out, show (⟨#[92]⟩ : ByteArray) = ⟨[92].toArray⟩ from rfl, add8, show strOf (encS r) = ⟨(encS r).toArray⟩ from rfl, add8]
      have hzq : (strOf (quotL (rs.take k))).size ≤ 50 := by rw [size8]; exact hql
      have hze : (strOf (encS r)).size ≤ 4 := by rw [size8]; exact (encS_len r).2
      have hzq2 : (strOf (quotL (rs.take k)) ++ (⟨#[92]⟩ : ByteArray)).size ≤ 60 := by
        rw [show (⟨#[92]⟩ : ByteArray) = ⟨[92].toArray⟩ from rfl, add8, size8]; simp; omega
      clear HQ hcell hql
      generalize strOf (quotL (rs.take k)) = q at *
      have HP := Lib.hid (uput_any (.slice none 0 0) [] wr.heap.size r hsr wr (Own8.nil _ _ _) (Nat.le_refl _) (by simp))
      clear hsr
      go_wp2_with fail
      refine HP.out.mono ?_
      rintro e w5 ⟨v5, rfl, hown5, hg5⟩
      obtain ⟨A3, c3, e3, _, _, hbs, _⟩ := hown5.form
      rw [List.nil_append] at e3 hbs
      subst e3
      have hcv : (convert 32 9 (.slice A3 (encS r).length c3)).run Tryd.prog w5 = .ok (.string (strOf (encS r))) w5 := hbs.conv (encS r).length c3 rfl
      have hb5 : Below wr.heap.size wr w5 := below_of_grown hg5 (fun k h => by cases h)
      have hbel5 := hbel.trans (hb5.mono hbel.size)
      have hbel45 := hbel4.trans (hb5.mono hbel4.size)
      clear hown5 hg5 hbs hb5 HP hbel hbel4
      generalize (encS r).length = er at *
      generalize strOf (encS r) = es at *
      go_wp2_with fail
      exact ⟨⟨k + 1, by omega, by go_num, by rw [HA.out], hbel5, hbel45⟩, by simp [intOf]; omega⟩
    · have hke : rs.take k = rs := List.take_of_length_le (by rw [← HN.out]; omega)
      rw [hke]
      obtain ⟨P1, P2, P3⟩ := stars_parse rs HR.out (by have := HN.out; omega)
      obtain ⟨W1, W2, W3⟩ := stars_valid rs HR.out
      obtain ⟨O1, O2, O3⟩ := stars_ok rs
      have hql := quot_len rs
      have hqn := HN.out
      have T5 := Lib.hid (ut_keep T4.out hbel4)
      have HPF : Hid (prefL (rs.map sgn ++ [star]) = encAll rs ∧ (rs.map sgn ++ [star]).length ≤ 200) := ⟨pref_cat rs HR.out [], by simp; omega⟩
      have L1 : (star :: (rs.map sgn ++ [star])).length ≤ 200 := by simp; omega
      have L2 : (rs.map sgn ++ [star]).length ≤ 200 := by simp; omega
      have L3 : (star :: rs.map sgn).length ≤ 200 := by simp; omega
      have e1 : (⟨#[46, 42]⟩ : ByteArray) ++ strOf (quotL rs) = strOf (46 :: 42 :: quotL rs) := by rw [show (⟨#[46, 42]⟩ : ByteArray) = strOf [46, 42] from rfl, show strOf (quotL rs) = ⟨(quotL rs).toArray⟩ from rfl, add8]; rfl
      have e2 : strOf (46 :: 42 :: quotL rs) ++ (⟨#[46, 42]⟩ : ByteArray) = strOf (46 :: 42 :: (quotL rs ++ [46, 42])) := by rw [show (⟨#[46, 42]⟩ : ByteArray) = ⟨[46, 42].toArray⟩ from rfl, add8]; rfl
      have e3 : strOf (quotL rs) ++ (⟨#[46, 42]⟩ : ByteArray) = strOf (quotL rs ++ [46, 42]) := by rw [show (⟨#[46, 42]⟩ : ByteArray) = ⟨[46, 42].toArray⟩ from rfl, add8]
      have g1 : (46 :: 42 :: (quotL rs ++ [46, 42])).length ≤ 100 := by simp; omega
      have g2 : (quotL rs ++ [46, 42]).length ≤ 100 := by simp; omega
      have g3 : (46 :: 42 :: quotL rs).length ≤ 100 := by simp; omega
      have zq : (strOf (quotL rs)).size ≤ 100 := by rw [size8]; omega
      have z3 : (strOf (46 :: 42 :: quotL rs)).size ≤ 100 := by rw [size8]; exact g3
      have HMM := Lib.hid (stars_match rs ws HR.out HW.out (by omega))
      have HSELF : ((strOf (encAll rs)).toList == (strOf (encAll rs)).toList) = true := by rw [str_eq]; exact decide_eq_true rfl
      clear hke hcs T4 hbel4 hqn hql
      generalize 46 :: 42 :: (quotL rs ++ [46, 42]) = t1 at *
      generalize quotL rs ++ [46, 42] = t2 at *
      generalize 46 :: 42 :: quotL rs = t3 at *
      generalize strOf (quotL rs) = q at *
      generalize star :: (rs.map sgn ++ [star]) = p1 at *
      generalize rs.map sgn ++ [star] = p2 at *
      generalize star :: rs.map sgn = p3 at *
      go_wp2_with fail
      refine (parse_good t1 p1 (Lib.hid W1) (Lib.hid P1) (by omega) _ T5.out).mono ?_
      rintro e w5 ⟨R1, rfl, G1, b5⟩
      have T6 := Lib.hid (ut_keep T5.out b5)
      replace b5 := hbel.trans (b5.mono hbel.size)
      clear T5 hbel
      have HW2 := Lib.hid W2
      have HP2 := Lib.hid P2
      have HW3 := Lib.hid W3
      have HP3 := Lib.hid P3
      clear W1 P1 W2 P2 W3 P3 e2
      go_wp2_with fail
      refine (parse_good t2 p2 HW2 HP2 (by omega) _ T6.out).mono ?_
      rintro e w6 ⟨R2, rfl, G2, b6⟩
      have T7 := Lib.hid (ut_keep T6.out b6)
      replace G1 := G1.keep b6
      replace b6 := b5.trans (b6.mono b5.size)
      clear T6 b5
      go_wp2_with fail
      refine (parse_good t3 p3 HW3 HP3 (by omega) _ T7.out).mono ?_
      rintro e w7 ⟨R3, rfl, G3, b7⟩
      have T8 := Lib.hid (ut_keep T7.out b7)
      replace G1 := G1.keep b7
      replace G2 := G2.keep b7
      replace b7 := b6.trans (b7.mono b6.size)
      clear T7 b6 HW2 HP2 HW3 HP3 e1 e3 zq z3 g1 g2 g3
      have HG1 := Lib.hid G1
      have HG2 := Lib.hid G2
      have HG3 := Lib.hid G3
      clear G1 G2 G3
      go_wp2_with fail
      go_loop [14, 15] (fun b i => ∃ j : Nat, j ≤ 21 ∧ i = .int .i64 j ∧ b = .bool (inB (encAll ws) (encAll rs) j) ∧ Hid (∀ n, n < j → n + (encAll rs).length ≤ (encAll ws).length)) (fun _ i => 21 - (intOf i).toNat)
      case atStart => exact ⟨0, by omega, rfl, rfl, fun n h => absurd h (by omega)⟩
      case round =>
        obtain ⟨j, hj, rfl, rfl, HJ⟩ := hrel
        have HSU := Lib.hid (inB_succ (encAll ws) (encAll rs) j)
        by_cases hc : j + (strOf (encAll rs)).size ≤ (strOf (encAll ws)).size
        · have hc' : (j : Int) + ((strOf (encAll rs)).size : Int) ≤ ((strOf (encAll ws)).size : Int) := by omega
          have HJ2 : Hid (∀ n, n < j + 1 → n + (encAll rs).length ≤ (encAll ws).length) := fun n h => by
            have := HZ1.out; have := HZ2.out; omega
          have hex : (strOf (encAll ws)).extract j (j + (strOf (encAll rs)).size) = strOf (((encAll ws).take (j + (encAll rs).length)).drop j) := by rw [mid8, HZ1.out]
          have hq := str_eq (((encAll ws).take (j + (encAll rs).length)).drop j) (encAll rs)
          rw [show decide (((encAll ws).take (j + (encAll rs).length)).drop j = encAll rs) = inAt (encAll ws) (encAll rs) j from rfl] at hq
          generalize ((encAll ws).take (j + (encAll rs).length)).drop j = y at *
          generalize inB (encAll ws) (encAll rs) j = x at *
          generalize inAt (encAll ws) (encAll rs) j = z at *
          cases x
          · go_wp2_with fail
            go_round
            case rel => exact ⟨j + 1, by omega, by go_num, by rw [HSU.out]; rfl, HJ2⟩
            case measure => simp [intOf]; omega
          · go_wp2_with fail
            go_round
            case rel => exact ⟨j + 1, by omega, by go_num, by rw [HSU.out]; rfl, HJ2⟩
            case measure => simp [intOf]; omega
        · have hc' : ((strOf (encAll ws)).size : Int) < (j : Int) + ((strOf (encAll rs)).size : Int) := by omega
          obtain ⟨M1, M2, M3⟩ := HMM.out j (fun n h => by have := HZ1.out; have := HZ2.out; omega) HJ.out
          have hlw' : ws.length ≤ 100000 := by omega
          generalize inB (encAll ws) (encAll rs) j = x1 at *
          by_cases hle : (strOf (encAll rs)).size ≤ (strOf (encAll ws)).size
          · have hex1 : (strOf (encAll ws)).extract 0 (strOf (encAll rs)).size = strOf ((encAll ws).take (encAll rs).length) := by rw [take8, HZ1.out]
            have hex2 : (strOf (encAll ws)).extract ((strOf (encAll ws)).size - (strOf (encAll rs)).size) (strOf (encAll ws)).size = strOf ((encAll ws).drop ((encAll ws).length - (encAll rs).length)) := by rw [cut8, HZ1.out, HZ2.out]
            have hq1 := str_eq ((encAll ws).take (encAll rs).length) (encAll rs)
            have hq2 := str_eq ((encAll ws).drop ((encAll ws).length - (encAll rs).length)) (encAll rs)
            have hll : (encAll rs).length ≤ (encAll ws).length := by rw [← HZ1.out, ← HZ2.out]; exact hle
            rw [show decide ((encAll rs).length ≤ (encAll ws).length ∧ (encAll ws).take (encAll rs).length = encAll rs) = decide ((encAll ws).take (encAll rs).length = encAll rs) from decide_eq_decide.2 ⟨fun h => h.2, fun h => ⟨hll, h⟩⟩] at M2
            rw [show decide ((encAll rs).length ≤ (encAll ws).length ∧ (encAll ws).drop ((encAll ws).length - (encAll rs).length) = encAll rs) = decide ((encAll ws).drop ((encAll ws).length - (encAll rs).length) = encAll rs) from decide_eq_decide.2 ⟨fun h => h.2, fun h => ⟨hll, h⟩⟩] at M3
            rw [← M2] at hq1
            rw [← M3] at hq2
            obtain ⟨x2, hb2⟩ : ∃ x, matchB p2 (ws.map fun r : Nat => (r : Int)) = x := ⟨_, rfl⟩
            obtain ⟨x3, hb3⟩ : ∃ x, matchB p3 (ws.map fun r : Nat => (r : Int)) = x := ⟨_, rfl⟩
            rw [hb2] at hq1
            rw [hb3] at hq2
            have Q1 : Hid (allSign ws ∧ ws.length ≤ 100000 ∧ okGP p1 ∧ p1.length ≤ 200 ∧ matchB p1 (ws.map fun r : Nat => (r : Int)) = x1) := ⟨HW.out, hlw', O1, L1, M1⟩
            have Q2 : Hid (allSign ws ∧ ws.length ≤ 100000 ∧ okGP p2 ∧ p2.length ≤ 200 ∧ matchB p2 (ws.map fun r : Nat => (r : Int)) = x2) := ⟨HW.out, hlw', O2, L2, hb2⟩
            have Q3 : Hid (allSign ws ∧ ws.length ≤ 100000 ∧ okGP p3 ∧ p3.length ≤ 200 ∧ matchB p3 (ws.map fun r : Nat => (r : Int)) = x3) := ⟨HW.out, hlw', O3, L3, hb3⟩
            clear M1 M2 M3 HMM HSU HJ hll hb2 hb3
            generalize (encAll ws).take (encAll rs).length = y1 at *
            generalize (encAll ws).drop ((encAll ws).length - (encAll rs).length) = y2 at *
            have hle' : ((strOf (encAll rs)).size : Int) ≤ ((strOf (encAll ws)).size : Int) := by omega
            go_wp2_with fail
            refine (match_en ws p1 x1 Q1 _ _ _ T8.out HG1.out).mono ?_
            rintro e w8 ⟨rfl, b8⟩
            have T9 := Lib.hid (ut_keep T8.out b8)
            have G2 := HG2.out.keep b8
            have G3 := HG3.out.keep b8
            replace b8 := b7.trans (b8.mono b7.size)
            clear b7 T8 HG1 HG2 HG3
            have HG2 := Lib.hid G2
            have HG3 := Lib.hid G3
            clear G2 G3
            go_wp2_with fail
            refine (match_en ws p2 x2 Q2 _ _ _ T9.out HG2.out).mono ?_
            rintro e w9 ⟨rfl, b9⟩
            have T10 := Lib.hid (ut_keep T9.out b9)
            have G2 := Lib.hid (HG2.out.keep b9)
            have G3 := Lib.hid (HG3.out.keep b9)
            replace b9 := b8.trans (b9.mono b8.size)
            clear b8 T9 HG2 HG3
            go_wp2_with fail
            refine (match_en ws p3 x3 Q3 _ _ _ T10.out G3.out).mono ?_
            rintro e w10 ⟨rfl, b10⟩
            have G4 := Lib.hid (G2.out.keep b10)
            replace b10 := b9.trans (b10.mono b9.size)
            clear b9 T10 G2 G3
            go_wp2_with fail
            refine (prefix_is p2 _ HPF _ _ _ G4.out).mono ?_
            rintro e w11 ⟨rfl, b11⟩
            replace b11 := b10.trans (b11.mono b10.size)
            clear b10 G4
            go_wp2_with fail
            go_ret
            exact ⟨by first | rfl | (refine ret_bool ?_; go_light; simp), b11⟩
          · have hll : ¬ (encAll rs).length ≤ (encAll ws).length := by rw [← HZ1.out, ← HZ2.out]; exact hle
            rw [decide_eq_false (fun h => hll h.1)] at M2 M3
            obtain ⟨x2, hx2⟩ : ∃ x, x = false := ⟨_, rfl⟩
            obtain ⟨x3, hx3⟩ : ∃ x, x = false := ⟨_, rfl⟩
            have Q1 : Hid (allSign ws ∧ ws.length ≤ 100000 ∧ okGP p1 ∧ p1.length ≤ 200 ∧ matchB p1 (ws.map fun r : Nat => (r : Int)) = x1) := ⟨HW.out, hlw', O1, L1, M1⟩
            have Q2 : Hid (allSign ws ∧ ws.length ≤ 100000 ∧ okGP p2 ∧ p2.length ≤ 200 ∧ matchB p2 (ws.map fun r : Nat => (r : Int)) = x2) := ⟨HW.out, hlw', O2, L2, by rw [hx2]; exact M2⟩
            have Q3 : Hid (allSign ws ∧ ws.length ≤ 100000 ∧ okGP p3 ∧ p3.length ≤ 200 ∧ matchB p3 (ws.map fun r : Nat => (r : Int)) = x3) := ⟨HW.out, hlw', O3, L3, by rw [hx3]; exact M3⟩
            subst hx2
            subst hx3
            clear M1 M2 M3 HMM HSU HJ hll
            have hle' : ((strOf (encAll ws)).size : Int) < ((strOf (encAll rs)).size : Int) := by omega
            go_wp2_with fail
            refine (match_en ws p1 x1 Q1 _ _ _ T8.out HG1.out).mono ?_
            rintro e w8 ⟨rfl, b8⟩
            have T9 := Lib.hid (ut_keep T8.out b8)
            have G2 := HG2.out.keep b8
            have G3 := HG3.out.keep b8
            replace b8 := b7.trans (b8.mono b7.size)
            clear b7 T8 HG1 HG2 HG3
            have HG2 := Lib.hid G2
            have HG3 := Lib.hid G3
            clear G2 G3
            go_wp2_with fail
            refine (match_en ws p2 false Q2 _ _ _ T9.out HG2.out).mono ?_
            rintro e w9 ⟨rfl, b9⟩
            have T10 := Lib.hid (ut_keep T9.out b9)
            have G2 := Lib.hid (HG2.out.keep b9)
            have G3 := Lib.hid (HG3.out.keep b9)
            replace b9 := b8.trans (b9.mono b8.size)
            clear b8 T9 HG2 HG3
            go_wp2_with fail
            refine (match_en ws p3 false Q3 _ _ _ T10.out G3.out).mono ?_
            rintro e w10 ⟨rfl, b10⟩
            have G4 := Lib.hid (G2.out.keep b10)
            replace b10 := b9.trans (b10.mono b9.size)
            clear b9 T10 G2 G3
            go_wp2_with fail
            refine (prefix_is p2 _ HPF _ _ _ G4.out).mono ?_
            rintro e w11 ⟨rfl, b11⟩
            replace b11 := b10.trans (b11.mono b10.size)
            clear b10 G4
            go_wp2_with fail
            go_ret
            exact ⟨by first | rfl | (refine ret_bool ?_; go_light; simp), b11⟩

set_option maxHeartbeats 2000000 in
theorem stars_all (l m : List UInt8) (w : World) (hT : UT w) :
    Calls Tryd.prog 7 #[.string (strOf l), .string (strOf m)] w fun e w' => e = .returned (.bool true) ∧ Below w.heap.size w w' := by
  have HT := Lib.hid hT
  by_cases hl : l.length ≤ 10
  · by_cases hm : m.length ≤ 20
    · have h1 : (strOf l).size ≤ 10 := by rw [size8]; exact hl
      have h2 : (strOf m).size ≤ 20 := by rw [size8]; exact hm
      cases hv : Lib.validD l
      · have HV := Lib.hid hv
        clear hv hT
        go_enter Tryd.func7, Tryd.ntmps7
        go_wp2_with fail
        refine (head_any w HT.out).mono ?_
        rintro e w1 ⟨rfl, b1⟩
        go_wp2_with fail
        with_reducible refine (right_is _ _ HV _ (ut_keep HT.out b1) (by omega)).mono ?_
        rintro e w2 ⟨rfl, b2⟩
        go_wp2_with fail
        go_ret
        exact ⟨rfl, b1.trans (b2.mono b1.size)⟩
      · cases hv2 : Lib.validD m
        · have HV := Lib.hid hv
          have HV2 := Lib.hid hv2
          clear hv hv2 hT
          go_enter Tryd.func7, Tryd.ntmps7
          go_wp2_with fail
          refine (head_any w HT.out).mono ?_
          rintro e w1 ⟨rfl, b1⟩
          have T1 := Lib.hid (ut_keep HT.out b1)
          go_wp2_with fail
          with_reducible refine (right_is _ _ HV _ T1.out (by omega)).mono ?_
          rintro e w2 ⟨rfl, b2⟩
          have T2 := Lib.hid (ut_keep T1.out b2)
          replace b2 := b1.trans (b2.mono b1.size)
          go_wp2_with fail
          with_reducible refine (right_is _ _ HV2 _ T2.out (by omega)).mono ?_
          rintro e w3 ⟨rfl, b3⟩
          go_wp2_with fail
          go_ret
          exact ⟨rfl, b2.trans (b3.mono b2.size)⟩
        · obtain ⟨rs, hr, rfl⟩ := signs_ex l hv
          obtain ⟨ws, hw, rfl⟩ := signs_ex m hv2
          exact stars_main rs ws hr hw hl hm w hT
    · have h1 : ((strOf l).size : Int) ≤ 10 := by rw [size8]; omega
      have h2 : (20 : Int) < ((strOf m).size : Int) := by rw [size8]; omega
      clear hT
      go_enter Tryd.func7, Tryd.ntmps7
      go_wp2_with fail
      refine (head_any w HT.out).mono ?_
      rintro e w1 ⟨rfl, b1⟩
      go_wp2_with fail
      go_ret
      exact ⟨rfl, b1⟩
  · have h2 : (10 : Int) < ((strOf l).size : Int) := by rw [size8]; omega
    clear hT
    go_enter Tryd.func7, Tryd.ntmps7
    go_wp2_with fail
    refine (head_any w HT.out).mono ?_
    rintro e w1 ⟨rfl, b1⟩
    go_wp2_with fail
    go_ret
    exact ⟨rfl, b1⟩
end Go.Proofs.YtdijicdlglnlmaaDoor
