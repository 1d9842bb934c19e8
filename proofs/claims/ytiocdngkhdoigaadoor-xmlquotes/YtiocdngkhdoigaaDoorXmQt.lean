/- XmlQuotes answers true. -/
import Derived.Test.YtiocdngkhdoigaaDoorXmCl
namespace Go.Proofs.YtiocdngkhdoigaaDoor
open Go.RowKit
set_option maxRecDepth 100000

theorem byte_eq (c : UInt8) (k : Nat) (hk : k < 256) : ((c.toNat : Int) == (k : Int)) = decide (c = UInt8.ofNat k) := by
  rw [Bool.eq_iff_iff, beq_iff_eq, decide_eq_true_eq, ← UInt8.toNat_inj, UInt8.toNat_ofNat']
  omega
theorem sub1 (l : L8) (k : Nat) (h : k < (strOf l).size) : (strOf l).extract k (k + 1) = strOf [(strOf l)[k]'h] := by
  rw [mid8]
  have h' : k < l.length := by rw [← size8]; exact h
  congr 1
  rw [take_snoc8 l k h', List.drop_append_of_le_length (by rw [List.length_take]; omega), List.drop_eq_nil_of_le (by rw [List.length_take]; omega)]
  rfl
theorem quo_snoc (q : UInt8) (s : L8) (k : Nat) (h : k < (strOf s).size) : quoL q (s.take (k + 1)) = quoL q (s.take k) ++ quoB q ((strOf s)[k]'h) := by
  have h' : k < s.length := by rw [← size8]; exact h
  rw [take_snoc8 s k h', quoL_app]
  show _ ++ (quoB q s[k] ++ []) = _
  rw [List.append_nil]
  rfl

theorem itoa34 (w : World) : Calls Tryd.prog 18 #[.int .i64 34] w fun e w' => e = .returned (.string ⟨#[51, 52]⟩) ∧ w' = w := by
  have h := Tryd.strconv_Itoa_small 34 (by omega) w
  rw [show Lib.decDigits 34 = [51, 52] by kernel_rfl] at h
  exact h
set_option maxHeartbeats 8000000 in
theorem xquo_d (v : L8) (hv : v.length ≤ 60) (b : Bool) (w : World) (hE : Env w) :
    Calls Tryd.prog 8 #[.string (strOf v), .bool false, .bool b] w fun e w' => e = .returned (.bool true) ∧ Below w.heap.size w w' := by
  have HE := Lib.hid hE
  have h8 : 8 ≤ w.heap.size := hE.2.2.2.2
  have hsv : (strOf v).size ≤ 60 := by rw [size8]; exact hv
  have HCO := Lib.hid (clean_ok v)
  have hcl := clean_len v
  have HCl := fun W hW => Lib.hid (clean_any v (by omega) W hW)
  clear hE
  generalize cleanL v = s at *
  have hs1 : s.length ≤ 240 := by omega
  have hss : (strOf s).size = s.length := size8 s
  have HSS := Lib.hid hss
  have hssz : (strOf s).size ≤ 240 := by omega
  have HS1 := Lib.hid hs1
  clear hcl hss hs1
  have hq1 : ((⟨#[34]⟩ : ByteArray)[0]'(by decide)).toNat = 34 := rfl
  go_enter Tryd.func8, Tryd.ntmps8
  go_wp2_with fail
  refine (head_any _ HE.out).mono ?_
  rintro e w1 ⟨rfl, b1⟩
  have hE1 := HE.out.below h8 b1
  have HB1 := Lib.hid b1
  clear b1
  go_wp2_with fail
  refine (HCl w1 hE1).out.mono ?_
  rintro e w2 ⟨rfl, b2⟩
  have HB2 := Lib.hid (HB1.out.trans (b2.mono HB1.out.size))
  clear b2 hE1 HCl HB1
  go_wp2_with fail
  go_loop [9, 10] (fun t i => ∃ k : Nat, k ≤ (strOf s).size ∧ i = .int .i64 k ∧ t = .string (strOf (quoL 34 (s.take k)))) (fun _ i => (strOf s).size - (intOf i).toNat)
  case atStart => exact ⟨0, Nat.zero_le _, rfl, rfl⟩
  case round =>
    obtain ⟨k, hk, rfl, rfl⟩ := hrel
    have hlq := quoL_len 34 (s.take k)
    have hts : (strOf (quoL 34 (s.take k))).size ≤ 1200 := by rw [size8]; rw [List.length_take] at hlq; have := HS1.out; omega
    clear hlq
    by_cases hlt : k < (strOf s).size
    · have hsn := quo_snoc 34 s k hlt
      have hsub := sub1 s k hlt
      have e60 : ((((strOf s)[k]'hlt).toNat : Int) == 60) = decide (((strOf s)[k]'hlt) = 60) := byte_eq _ 60 (by omega)
      have e38 : ((((strOf s)[k]'hlt).toNat : Int) == 38) = decide (((strOf s)[k]'hlt) = 38) := byte_eq _ 38 (by omega)
      have eq : ((((strOf s)[k]'hlt).toNat : Int) == 34) = decide (((strOf s)[k]'hlt) = 34) := byte_eq _ 34 (by omega)
      have HQB : Hid (∀ c, quoB 34 c = if c = 60 then [38, 108, 116, 59] else if c = 38 then [38, 97, 109, 112, 59] else if c = 34 then [38, 35, 51, 52, 59] else [c]) := fun c => rfl
      by_cases h60 : ((strOf s)[k]'hlt) = 60
      · rw [decide_eq_true h60] at e60
        rw [HQB.out, if_pos h60] at hsn
        have hadd := add8r (quoL 34 (s.take k)) [38, 108, 116, 59]
        rw [← hsn] at hadd
        have HADD := Lib.hid hadd
        have hadd2 : strOf (quoL 34 (s.take k)) ++ (⟨#[38, 108, 116, 59]⟩ : ByteArray) = strOf (quoL 34 (s.take (k + 1))) := hadd
        clear h60 hsn hadd e38 eq hsub
        go_wp2_with fail
        go_round
        case rel => exact ⟨k + 1, by omega, by go_num, rfl⟩
        case measure => simp only [intOf]; omega
      rw [decide_eq_false h60] at e60
      by_cases h38 : ((strOf s)[k]'hlt) = 38
      · rw [decide_eq_true h38] at e38
        rw [HQB.out, if_neg h60, if_pos h38] at hsn
        have hadd2 : strOf (quoL 34 (s.take k)) ++ (⟨#[38, 97, 109, 112, 59]⟩ : ByteArray) = strOf (quoL 34 (s.take (k + 1))) := by rw [hsn]; exact add8r _ _
        clear h60 h38 hsn eq hsub
        go_wp2_with fail
        go_round
        case rel => exact ⟨k + 1, by omega, by go_num, rfl⟩
        case measure => simp only [intOf]; omega
      rw [decide_eq_false h38] at e38
      by_cases hqq : ((strOf s)[k]'hlt) = 34
      · rw [decide_eq_true hqq] at eq
        rw [HQB.out, if_neg h60, if_neg h38, if_pos hqq] at hsn
        have hadd2 : strOf (quoL 34 (s.take k)) ++ (⟨#[38, 35]⟩ : ByteArray) ++ (⟨#[51, 52]⟩ : ByteArray) ++ (⟨#[59]⟩ : ByteArray) = strOf (quoL 34 (s.take (k + 1))) := by
          rw [hsn]
          apply ByteArray.ext
          simp [strOf]
        have hz1 : (strOf (quoL 34 (s.take k)) ++ (⟨#[38, 35]⟩ : ByteArray)).size ≤ 1300 := by rw [ByteArray.size_append]; show _ + 2 ≤ _; omega
        have hz2 : (strOf (quoL 34 (s.take k)) ++ (⟨#[38, 35]⟩ : ByteArray) ++ (⟨#[51, 52]⟩ : ByteArray)).size ≤ 1400 := by rw [ByteArray.size_append]; show _ + 2 ≤ _; omega
        clear h60 h38 hqq hsn hsub
        go_wp2_with (go_at_call 18; refine (itoa34 _).mono ?_; rintro e w' ⟨rfl, rfl⟩)
        go_round
        case rel => exact ⟨k + 1, by omega, by go_num, rfl⟩
        case measure => simp only [intOf]; omega
      · rw [decide_eq_false hqq] at eq
        rw [HQB.out, if_neg h60, if_neg h38, if_neg hqq] at hsn
        have hadd2 : strOf (quoL 34 (s.take k)) ++ strOf [(strOf s)[k]'hlt] = strOf (quoL 34 (s.take (k + 1))) := by rw [hsn]; exact add88 _ _
        have hz3 : (strOf [(strOf s)[k]'hlt]).size = 1 := rfl
        clear h60 h38 hqq hsn
        go_wp2_with fail
        go_round
        case rel => exact ⟨k + 1, by omega, by go_num, rfl⟩
        case measure => simp only [intOf]; omega
    · obtain rfl : k = (strOf s).size := by omega
      have hfull : s.take (strOf s).size = s := by rw [HSS.out]; exact List.take_length
      rw [hfull] at hts ⊢
      clear hfull
      cases b with
      | false =>
        have htx : (⟨#[60, 97, 32, 120, 10, 61, 9]⟩ : ByteArray) ++ (⟨#[34]⟩ : ByteArray) ++ strOf (quoL 34 s) ++ (⟨#[34]⟩ : ByteArray) ++ (⟨#[32, 121, 61, 39, 39]⟩ : ByteArray) ++ (⟨#[47, 62]⟩ : ByteArray) = strOf (quoT 34 s [47, 62]) := by
          apply ByteArray.ext
          simp [strOf, quoT]
        have HP := Lib.hid (quo_one 34 (.inl rfl) HCO.out (by have := HS1.out; omega))
        have hql := quo_len 34 s [47, 62]
        simp only [List.length_cons, List.length_nil] at hql
        have HQL : Hid ((quoT 34 s [47, 62]).length ≤ 1000000) := by have := HS1.out; show _ ≤ _; omega
        clear hql
        go_wp2_with fail
        refine (parse_ok _ _ HP HQL.out w2 (HE.out.below h8 HB2.out)).mono ?_
        rintro e w3 ⟨v3, rfl, hrow, b3⟩
        have HB3 := Lib.hid (HB2.out.trans (b3.mono HB2.out.size))
        obtain ⟨g, c, hv3, hc1, hc2, hcell⟩ := row_cells hrow (by simp)
        obtain ⟨av, hat, hcs⟩ := hcell 0 _ rfl
        have d2 : w3.cell? ⟨g, 2, none⟩ = some av := hcs 2 _ rfl (by omega)
        obtain ⟨ga, ca, hav, _, hga, hca, hcm, _, hac⟩ := own_some hat (by simp)
        have a0 : w3.cell? ⟨ga, 0, none⟩ = some (.string (strOf [120])) := hac 0 _ rfl
        have a1 : w3.cell? ⟨ga, 1, none⟩ = some (.string (strOf s)) := hac 1 _ rfl
        have a2 : w3.cell? ⟨ga, 2, none⟩ = some (.string (strOf [121])) := hac 2 _ rfl
        subst hv3
        rw [hav] at d2
        have s1 : ((strOf [121]).toList == [121]) = true := by rw [str_is]; rfl
        have s2 : ((strOf [120]).toList == [120]) = true := by rw [str_is]; rfl
        have s3 : ((strOf s).toList == (strOf s).toList) = true := by rw [str_eq]; exact decide_eq_true rfl
        clear b3 hrow hcell hcs hat hav hac hcm
        simp only [List.length_cons, List.length_nil, Nat.zero_add] at hc1 hca d2 ⊢
        go_wp2_with fail
        go_ret
        exact ⟨rfl, HB3.out⟩
      | true =>
        have htx : (⟨#[60, 97, 32, 120, 10, 61, 9]⟩ : ByteArray) ++ (⟨#[34]⟩ : ByteArray) ++ strOf (quoL 34 s) ++ (⟨#[34]⟩ : ByteArray) ++ (⟨#[32, 121, 61, 39, 39]⟩ : ByteArray) ++ (⟨#[32, 120, 61, 39, 39]⟩ : ByteArray) ++ (⟨#[47, 62]⟩ : ByteArray) = strOf (quoT 34 s [32, 120, 61, 39, 39, 47, 62]) := by
          apply ByteArray.ext
          simp [strOf, quoT]
        have HP := Lib.hid (quo_two 34 (.inl rfl) HCO.out (by have := HS1.out; omega))
        have hql := quo_len 34 s [32, 120, 61, 39, 39, 47, 62]
        simp only [List.length_cons, List.length_nil] at hql
        have HQL : Hid ((quoT 34 s [32, 120, 61, 39, 39, 47, 62]).length ≤ 1000000) := by have := HS1.out; show _ ≤ _; omega
        clear hql
        go_wp2_with fail
        refine (parse_err _ 11 HP HQL.out w2 (HE.out.below h8 HB2.out)).mono ?_
        rintro e w3 ⟨rfl, b3⟩
        have HB3 := Lib.hid (HB2.out.trans (b3.mono HB2.out.size))
        clear b3
        go_wp2_with fail
        go_ret
        exact ⟨rfl, HB3.out⟩

theorem itoa39 (w : World) : Calls Tryd.prog 18 #[.int .i64 39] w fun e w' => e = .returned (.string ⟨#[51, 57]⟩) ∧ w' = w := by
  have h := Tryd.strconv_Itoa_small 39 (by omega) w
  rw [show Lib.decDigits 39 = [51, 57] by kernel_rfl] at h
  exact h
set_option maxHeartbeats 8000000 in
theorem xquo_s (v : L8) (hv : v.length ≤ 60) (b : Bool) (w : World) (hE : Env w) :
    Calls Tryd.prog 8 #[.string (strOf v), .bool true, .bool b] w fun e w' => e = .returned (.bool true) ∧ Below w.heap.size w w' := by
  have HE := Lib.hid hE
  have h8 : 8 ≤ w.heap.size := hE.2.2.2.2
  have hsv : (strOf v).size ≤ 60 := by rw [size8]; exact hv
  have HCO := Lib.hid (clean_ok v)
  have hcl := clean_len v
  have HCl := fun W hW => Lib.hid (clean_any v (by omega) W hW)
  clear hE
  generalize cleanL v = s at *
  have hs1 : s.length ≤ 240 := by omega
  have hss : (strOf s).size = s.length := size8 s
  have HSS := Lib.hid hss
  have hssz : (strOf s).size ≤ 240 := by omega
  have HS1 := Lib.hid hs1
  clear hcl hss hs1
  have hq1 : ((⟨#[39]⟩ : ByteArray)[0]'(by decide)).toNat = 39 := rfl
  go_enter Tryd.func8, Tryd.ntmps8
  go_wp2_with fail
  refine (head_any _ HE.out).mono ?_
  rintro e w1 ⟨rfl, b1⟩
  have hE1 := HE.out.below h8 b1
  have HB1 := Lib.hid b1
  clear b1
  go_wp2_with fail
  refine (HCl w1 hE1).out.mono ?_
  rintro e w2 ⟨rfl, b2⟩
  have HB2 := Lib.hid (HB1.out.trans (b2.mono HB1.out.size))
  clear b2 hE1 HCl HB1
  go_wp2_with fail
  go_loop [9, 10] (fun t i => ∃ k : Nat, k ≤ (strOf s).size ∧ i = .int .i64 k ∧ t = .string (strOf (quoL 39 (s.take k)))) (fun _ i => (strOf s).size - (intOf i).toNat)
  case atStart => exact ⟨0, Nat.zero_le _, rfl, rfl⟩
  case round =>
    obtain ⟨k, hk, rfl, rfl⟩ := hrel
    have hlq := quoL_len 39 (s.take k)
    have hts : (strOf (quoL 39 (s.take k))).size ≤ 1200 := by rw [size8]; rw [List.length_take] at hlq; have := HS1.out; omega
    clear hlq
    by_cases hlt : k < (strOf s).size
    · have hsn := quo_snoc 39 s k hlt
      have hsub := sub1 s k hlt
      have e60 : ((((strOf s)[k]'hlt).toNat : Int) == 60) = decide (((strOf s)[k]'hlt) = 60) := byte_eq _ 60 (by omega)
      have e38 : ((((strOf s)[k]'hlt).toNat : Int) == 38) = decide (((strOf s)[k]'hlt) = 38) := byte_eq _ 38 (by omega)
      have eq : ((((strOf s)[k]'hlt).toNat : Int) == 39) = decide (((strOf s)[k]'hlt) = 39) := byte_eq _ 39 (by omega)
      have HQB : Hid (∀ c, quoB 39 c = if c = 60 then [38, 108, 116, 59] else if c = 38 then [38, 97, 109, 112, 59] else if c = 39 then [38, 35, 51, 57, 59] else [c]) := fun c => rfl
      by_cases h60 : ((strOf s)[k]'hlt) = 60
      · rw [decide_eq_true h60] at e60
        rw [HQB.out, if_pos h60] at hsn
        have hadd := add8r (quoL 39 (s.take k)) [38, 108, 116, 59]
        rw [← hsn] at hadd
        have HADD := Lib.hid hadd
        have hadd2 : strOf (quoL 39 (s.take k)) ++ (⟨#[38, 108, 116, 59]⟩ : ByteArray) = strOf (quoL 39 (s.take (k + 1))) := hadd
        clear h60 hsn hadd e38 eq hsub
        go_wp2_with fail
        go_round
        case rel => exact ⟨k + 1, by omega, by go_num, rfl⟩
        case measure => simp only [intOf]; omega
      rw [decide_eq_false h60] at e60
      by_cases h38 : ((strOf s)[k]'hlt) = 38
      · rw [decide_eq_true h38] at e38
        rw [HQB.out, if_neg h60, if_pos h38] at hsn
        have hadd2 : strOf (quoL 39 (s.take k)) ++ (⟨#[38, 97, 109, 112, 59]⟩ : ByteArray) = strOf (quoL 39 (s.take (k + 1))) := by rw [hsn]; exact add8r _ _
        clear h60 h38 hsn eq hsub
        go_wp2_with fail
        go_round
        case rel => exact ⟨k + 1, by omega, by go_num, rfl⟩
        case measure => simp only [intOf]; omega
      rw [decide_eq_false h38] at e38
      by_cases hqq : ((strOf s)[k]'hlt) = 39
      · rw [decide_eq_true hqq] at eq
        rw [HQB.out, if_neg h60, if_neg h38, if_pos hqq] at hsn
        have hadd2 : strOf (quoL 39 (s.take k)) ++ (⟨#[38, 35]⟩ : ByteArray) ++ (⟨#[51, 57]⟩ : ByteArray) ++ (⟨#[59]⟩ : ByteArray) = strOf (quoL 39 (s.take (k + 1))) := by
          rw [hsn]
          apply ByteArray.ext
          simp [strOf]
        have hz1 : (strOf (quoL 39 (s.take k)) ++ (⟨#[38, 35]⟩ : ByteArray)).size ≤ 1300 := by rw [ByteArray.size_append]; show _ + 2 ≤ _; omega
        have hz2 : (strOf (quoL 39 (s.take k)) ++ (⟨#[38, 35]⟩ : ByteArray) ++ (⟨#[51, 57]⟩ : ByteArray)).size ≤ 1400 := by rw [ByteArray.size_append]; show _ + 2 ≤ _; omega
        clear h60 h38 hqq hsn hsub
        go_wp2_with (go_at_call 18; refine (itoa39 _).mono ?_; rintro e w' ⟨rfl, rfl⟩)
        go_round
        case rel => exact ⟨k + 1, by omega, by go_num, rfl⟩
        case measure => simp only [intOf]; omega
      · rw [decide_eq_false hqq] at eq
        rw [HQB.out, if_neg h60, if_neg h38, if_neg hqq] at hsn
        have hadd2 : strOf (quoL 39 (s.take k)) ++ strOf [(strOf s)[k]'hlt] = strOf (quoL 39 (s.take (k + 1))) := by rw [hsn]; exact add88 _ _
        have hz3 : (strOf [(strOf s)[k]'hlt]).size = 1 := rfl
        clear h60 h38 hqq hsn
        go_wp2_with fail
        go_round
        case rel => exact ⟨k + 1, by omega, by go_num, rfl⟩
        case measure => simp only [intOf]; omega
    · obtain rfl : k = (strOf s).size := by omega
      have hfull : s.take (strOf s).size = s := by rw [HSS.out]; exact List.take_length
      rw [hfull] at hts ⊢
      clear hfull
      cases b with
      | false =>
        have htx : (⟨#[60, 97, 32, 120, 10, 61, 9]⟩ : ByteArray) ++ (⟨#[39]⟩ : ByteArray) ++ strOf (quoL 39 s) ++ (⟨#[39]⟩ : ByteArray) ++ (⟨#[32, 121, 61, 39, 39]⟩ : ByteArray) ++ (⟨#[47, 62]⟩ : ByteArray) = strOf (quoT 39 s [47, 62]) := by
          apply ByteArray.ext
          simp [strOf, quoT]
        have HP := Lib.hid (quo_one 39 (.inr rfl) HCO.out (by have := HS1.out; omega))
        have hql := quo_len 39 s [47, 62]
        simp only [List.length_cons, List.length_nil] at hql
        have HQL : Hid ((quoT 39 s [47, 62]).length ≤ 1000000) := by have := HS1.out; show _ ≤ _; omega
        clear hql
        go_wp2_with fail
        refine (parse_ok _ _ HP HQL.out w2 (HE.out.below h8 HB2.out)).mono ?_
        rintro e w3 ⟨v3, rfl, hrow, b3⟩
        have HB3 := Lib.hid (HB2.out.trans (b3.mono HB2.out.size))
        obtain ⟨g, c, hv3, hc1, hc2, hcell⟩ := row_cells hrow (by simp)
        obtain ⟨av, hat, hcs⟩ := hcell 0 _ rfl
        have d2 : w3.cell? ⟨g, 2, none⟩ = some av := hcs 2 _ rfl (by omega)
        obtain ⟨ga, ca, hav, _, hga, hca, hcm, _, hac⟩ := own_some hat (by simp)
        have a0 : w3.cell? ⟨ga, 0, none⟩ = some (.string (strOf [120])) := hac 0 _ rfl
        have a1 : w3.cell? ⟨ga, 1, none⟩ = some (.string (strOf s)) := hac 1 _ rfl
        have a2 : w3.cell? ⟨ga, 2, none⟩ = some (.string (strOf [121])) := hac 2 _ rfl
        subst hv3
        rw [hav] at d2
        have s1 : ((strOf [121]).toList == [121]) = true := by rw [str_is]; rfl
        have s2 : ((strOf [120]).toList == [120]) = true := by rw [str_is]; rfl
        have s3 : ((strOf s).toList == (strOf s).toList) = true := by rw [str_eq]; exact decide_eq_true rfl
        clear b3 hrow hcell hcs hat hav hac hcm
        simp only [List.length_cons, List.length_nil, Nat.zero_add] at hc1 hca d2 ⊢
        go_wp2_with fail
        go_ret
        exact ⟨rfl, HB3.out⟩
      | true =>
        have htx : (⟨#[60, 97, 32, 120, 10, 61, 9]⟩ : ByteArray) ++ (⟨#[39]⟩ : ByteArray) ++ strOf (quoL 39 s) ++ (⟨#[39]⟩ : ByteArray) ++ (⟨#[32, 121, 61, 39, 39]⟩ : ByteArray) ++ (⟨#[32, 120, 61, 39, 39]⟩ : ByteArray) ++ (⟨#[47, 62]⟩ : ByteArray) = strOf (quoT 39 s [32, 120, 61, 39, 39, 47, 62]) := by
          apply ByteArray.ext
          simp [strOf, quoT]
        have HP := Lib.hid (quo_two 39 (.inr rfl) HCO.out (by have := HS1.out; omega))
        have hql := quo_len 39 s [32, 120, 61, 39, 39, 47, 62]
        simp only [List.length_cons, List.length_nil] at hql
        have HQL : Hid ((quoT 39 s [32, 120, 61, 39, 39, 47, 62]).length ≤ 1000000) := by have := HS1.out; show _ ≤ _; omega
        clear hql
        go_wp2_with fail
        refine (parse_err _ 11 HP HQL.out w2 (HE.out.below h8 HB2.out)).mono ?_
        rintro e w3 ⟨rfl, b3⟩
        have HB3 := Lib.hid (HB2.out.trans (b3.mono HB2.out.size))
        clear b3
        go_wp2_with fail
        go_ret
        exact ⟨rfl, HB3.out⟩

theorem xquo_big (v : L8) (hv : 60 < v.length) (a b : Bool) (w : World) (hE : Env w) :
    Calls Tryd.prog 8 #[.string (strOf v), .bool a, .bool b] w fun e w' => e = .returned (.bool true) ∧ Below w.heap.size w w' := by
  have HE := Lib.hid hE
  have hsv : (60 : Int) < ((strOf v).size : Int) := by rw [size8]; omega
  clear hE
  go_enter Tryd.func8, Tryd.ntmps8
  go_wp2_with fail
  refine (head_any _ HE.out).mono ?_
  rintro e w1 ⟨rfl, b1⟩
  go_wp2_with fail
  go_ret
  exact ⟨rfl, b1⟩
theorem xquo_walk (v : L8) (a b : Bool) (w : World) (hE : Env w) :
    Calls Tryd.prog 8 #[.string (strOf v), .bool a, .bool b] w fun e w' => e = .returned (.bool true) ∧ Below w.heap.size w w' := by
  by_cases hv : v.length ≤ 60
  · cases a with
    | false => exact xquo_d v hv b w hE
    | true => exact xquo_s v hv b w hE
  · exact xquo_big v (by omega) a b w hE
end Go.Proofs.YtiocdngkhdoigaaDoor
