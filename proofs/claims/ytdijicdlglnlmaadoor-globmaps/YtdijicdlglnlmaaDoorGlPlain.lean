/- GlobPlain answers true. -/
import Derived.Test.YtdijicdlglnlmaaDoorGlHead
namespace Go.Proofs.YtdijicdlglnlmaaDoor
open Go.RowKit
set_option maxRecDepth 100000

def sgn (r : Nat) : GP := (false, (r : Int), 0, 0)
def nb (l : List UInt8) : Bool := l.all fun c => !(c == 46) && !(c == 92)
theorem plain_first (r : Nat) (hs : isSign r) (rest : List UInt8) (h : nb (encS r ++ rest) = true) : firstL (encS r ++ rest) = (sgn r, ((encS r).length : Int)) := by
  obtain ⟨c, t, e, _⟩ := enc_first r hs
  have hc : !(c == 46) && !(c == 92) := by
    unfold nb at h
    rw [List.all_eq_true] at h
    exact h c (by rw [e]; simp)
  simp only [Bool.and_eq_true, Bool.not_eq_true', beq_eq_false_iff_ne] at hc
  have hh : (encS r ++ rest).head? = some c := by rw [e]; rfl
  unfold firstL
  rw [hh, if_neg (by intro x; exact hc.1 (Option.some.inj x)), if_neg (by intro x; exact hc.2 (Option.some.inj x)), nextN_enc r hs rest]
  rfl
theorem plain_parse (rs : List Nat) : ∀ (f : Nat) (acc : List GP), (encAll rs).length ≤ f → allSign rs → nb (encAll rs) = true → acc.length + rs.length ≤ 200 → parseL f (encAll rs) acc = .ok (acc ++ rs.map sgn) := by
  induction rs with
  | nil =>
    intro f acc _ _ _ _
    cases f with
    | zero => simp [parseL]
    | succ f => rw [parseL, if_pos (show encAll [] = [] from rfl)]; simp
  | cons r t ih =>
    intro f acc hf hs hn ha
    have hl := (encS_len r).1
    rw [encAll_cons, List.length_append] at hf
    rw [encAll_cons] at hn ⊢
    rw [List.length_cons] at ha
    cases f with
    | zero => omega
    | succ f =>
      have hne : encS r ++ encAll t ≠ [] := by intro e; have e2 := congrArg List.length e; rw [List.length_append, List.length_nil] at e2; omega
      rw [parseL, if_neg hne, if_neg (by omega), plain_first r (hs r (by simp)) _ hn, if_neg (by simp only; omega)]
      simp only [Int.toNat_natCast]
      rw [List.drop_left, ih f _ (by omega) (fun x hx => hs x (by simp [hx])) (by unfold nb at *; rw [List.all_append, Bool.and_eq_true] at hn; exact hn.2) (by simp; omega)]
      simp
theorem plain_mt (rs : List Nat) : ∀ u : List Int, MtP (rs.map sgn) u ↔ u = rs.map fun r : Nat => (r : Int) := by
  induction rs with
  | nil => intro u; exact Iff.rfl
  | cons r t ih =>
    intro u
    rw [List.map_cons, List.map_cons]
    constructor
    · rintro ⟨n, hn, h1, h2⟩
      have h1' : u.take n = [(r : Int)] := h1
      rw [← List.take_append_drop n u, h1', (ih _).1 h2]
      rfl
    · rintro rfl
      exact ⟨1, by simp, rfl, (ih _).2 rfl⟩
theorem map_inj (a b : List Nat) (h : (a.map fun r : Nat => (r : Int)) = b.map fun r : Nat => (r : Int)) : a = b := by
  induction a generalizing b with
  | nil => cases b with
    | nil => rfl
    | cons x t => simp at h
  | cons y s ih => cases b with
    | nil => simp at h
    | cons x t =>
      simp only [List.map_cons, List.cons.injEq] at h
      rw [ih t h.2, show y = x by omega]
theorem plain_match (rs ws : List Nat) : matchB (rs.map sgn) (ws.map fun r : Nat => (r : Int)) = decide (ws = rs) := by
  rw [Bool.eq_iff_iff, match_iff, plain_mt, decide_eq_true_eq]
  exact ⟨map_inj ws rs, fun h => by rw [h]⟩
theorem plain_pref (rs : List Nat) (hs : allSign rs) : prefL (rs.map sgn) = encAll rs := by
  induction rs with
  | nil => rfl
  | cons r t ih =>
    rw [List.map_cons, encAll_cons]
    show putL (r : Int) ++ prefL (t.map sgn) = _
    rw [putL_sign r (hs r (by simp)), ih fun x hx => hs x (by simp [hx])]
theorem plain_ok (rs : List Nat) : okGP (rs.map sgn) := fun p hp => by
  obtain ⟨r, _, rfl⟩ := List.mem_map.1 hp
  exact ⟨Int.le_refl _, by show (0 : Int) ≤ 1000; omega⟩
theorem str_eq (a b : List UInt8) : ((strOf a).toList == (strOf b).toList) = decide (a = b) := by
  rw [ByteArray.toList_eq, ByteArray.toList_eq, str_data, str_data, Bool.eq_iff_iff, beq_iff_eq, decide_eq_true_eq]
theorem take_snoc' (l : List UInt8) (k : Nat) (h : k < (strOf l).size) : l.take (k + 1) = l.take k ++ [(strOf l)[k]'h] := by
  have h' := h
  rw [size8] at h'
  rw [List.take_succ_eq_append_getElem h']; rfl

set_option maxHeartbeats 4000000 in
theorem gplain_walk (l m : List UInt8) (w : World) (hT : UT w) (hl : l.length ≤ 100) (hm : m.length ≤ 100) :
    Calls Tryd.prog 4 #[.string (strOf l), .string (strOf m)] w fun e w' => e = .returned (.bool true) ∧ Below w.heap.size w w' := by
  have hz : (strOf l).size ≤ 100 := by rw [size8]; exact hl
  have hz2 : (strOf m).size ≤ 100 := by rw [size8]; exact hm
  have HT := Lib.hid hT
  clear hT
  go_enter Tryd.func4, Tryd.ntmps4
  go_wp2_with fail
  refine (head_any _ HT.out).mono ?_
  rintro e w1 ⟨rfl, b1⟩
  have T1 := Lib.hid (ut_keep HT.out b1)
  clear HT
  go_wp2_with fail
  go_loop [5] (fun i => ∃ k : Nat, k ≤ (strOf l).size ∧ i = .int .i64 k ∧ Hid (nb (l.take k) = true)) (fun i => (strOf l).size - (intOf i).toNat)
  case atStart => exact ⟨0, Nat.zero_le _, rfl, rfl⟩
  case round =>
    obtain ⟨k, hk, rfl, HNB⟩ := hrel
    by_cases hlt : k < (strOf l).size
    · have HS := Lib.hid (take_snoc' l k hlt)
      have e1 : ((((strOf l)[k]'hlt).toNat : Int) == 46) = (((strOf l)[k]'hlt) == 46) := by
        rw [Bool.eq_iff_iff, beq_iff_eq, beq_iff_eq, ← UInt8.toNat_inj]
        show _ ↔ _ = 46
        omega
      have e2 : ((((strOf l)[k]'hlt).toNat : Int) == 92) = (((strOf l)[k]'hlt) == 92) := by
        rw [Bool.eq_iff_iff, beq_iff_eq, beq_iff_eq, ← UInt8.toNat_inj]
        show _ ↔ _ = 92
        omega
      cases h1 : (((strOf l)[k]'hlt) == 46)
      · rw [h1] at e1
        cases h2 : (((strOf l)[k]'hlt) == 92)
        · rw [h2] at e2
          have HN2 : Hid (nb (l.take (k + 1)) = true) := by
            show _ = _
            rw [HS.out]
            have := HNB.out
            unfold nb at this ⊢
            rw [List.all_append, this, List.all_cons, h1, h2]
            rfl
          clear HS h1 h2
          go_wp2_with fail
          go_round
          case rel => exact ⟨k + 1, by omega, by go_num, HN2⟩
          case measure => simp [intOf]; omega
        · rw [h2] at e2
          clear HS h1 h2
          go_wp2_with fail
          go_ret
          exact ⟨rfl, b1⟩
      · rw [h1] at e1
        clear HS h1 e2
        go_wp2_with fail
        go_ret
        exact ⟨rfl, b1⟩
    · have he : l.take k = l := List.take_of_length_le (by rw [size8] at hlt; omega)
      have HN2 : Hid (nb l = true) := by have := HNB.out; rwa [he] at this
      clear he HNB
      cases hv : Lib.validD l
      · have HV := Lib.hid hv
        clear hv
        go_wp2_with fail
        refine (parse_utf l HV (by omega) _ T1.out).mono ?_
        rintro e w2 ⟨rfl, b2⟩
        have T2 := Lib.hid (ut_keep T1.out b2)
        replace b2 := b1.trans (b2.mono b1.size)
        go_wp2_with fail
        with_reducible refine (right_is _ _ HV _ T2.out (by omega)).mono ?_
        rintro e w3 ⟨rfl, b3⟩
        replace b3 := b2.trans (b3.mono b2.size)
        go_wp2_with fail
        go_ret
        exact ⟨rfl, b3⟩
      · have HV := Lib.hid hv
        obtain ⟨rs, hs, hrs⟩ := signs_ex l hv
        have hlr := encAll_len rs
        rw [← hrs] at hlr
        have HP : Hid (parseL l.length l [] = .ok (rs.map sgn)) := by
          show _ = _
          have := plain_parse rs l.length [] (by rw [← hrs]; exact Nat.le_refl _) hs (by rw [← hrs]; exact HN2.out) (by simp; omega)
          rw [← hrs] at this
          simpa using this
        have hpl : (rs.map sgn).length ≤ 200 := by simp; omega
        have HM1 : Hid (l = encAll rs ∧ allSign rs ∧ rs.length ≤ 100000 ∧ okGP (rs.map sgn) ∧ (rs.map sgn).length ≤ 200 ∧ matchB (rs.map sgn) (rs.map fun r : Nat => (r : Int)) = true) := ⟨hrs, hs, by omega, plain_ok rs, hpl, by rw [plain_match]; exact decide_eq_true rfl⟩
        have HPF : Hid (prefL (rs.map sgn) = l ∧ (rs.map sgn).length ≤ 200) := ⟨by rw [plain_pref rs hs, hrs], hpl⟩
        have hself : ((strOf l).toList == (strOf l).toList) = true := by rw [str_eq]; exact decide_eq_true rfl
        have HQ : Hid (∃ b, ((strOf m).toList == (strOf l).toList) = b ∧ ∀ (R B : Nat) (W : World), UT W → GlobAt W B R (rs.map sgn) → Calls Tryd.prog 13 #[.pointer (some ⟨R, 0, none⟩), .string (strOf m)] W fun e w' => e = .returned (.bool b) ∧ Below W.heap.size W w') := by
          rw [str_eq]
          cases hvm : Lib.validD m
          · refine ⟨false, decide_eq_false (fun e => by rw [e, hv] at hvm; cases hvm), fun R B W hT hG => match_bad m (by omega) hvm R W hT⟩
          · obtain ⟨ws, hws, hmw⟩ := signs_ex m hvm
            have hlw := encAll_len ws
            rw [← hmw] at hlw
            refine ⟨_, rfl, fun R B W hT hG => match_is m ws (rs.map sgn) _ ⟨hmw, hws, by omega, plain_ok rs, hpl, ?_⟩ B R W hT hG⟩
            rw [plain_match]
            by_cases e : ws = rs
            · rw [decide_eq_true e, decide_eq_true (by rw [hmw, hrs, e])]
            · rw [decide_eq_false e, decide_eq_false (fun e2 => e (encAll_inj ws rs hws hs (by rw [← hmw, ← hrs, e2])))]
        obtain ⟨b, hb, HQ2⟩ := HQ.out
        have HQ3 := Lib.hid HQ2
        clear HQ HQ2 hv hs hrs hlr hpl HN2
        generalize rs.map sgn = ps at *
        go_wp2_with fail
        refine (parse_good l ps HV HP (by omega) _ T1.out).mono ?_
        rintro e w2 ⟨R, rfl, G2, b2⟩
        have T2 := Lib.hid (ut_keep T1.out b2)
        replace b2 := b1.trans (b2.mono b1.size)
        go_wp2_with fail
        with_reducible refine (right_is _ _ HV _ T2.out (by omega)).mono ?_
        rintro e w3 ⟨rfl, b3⟩
        have T3 := Lib.hid (ut_keep T2.out b3)
        have G3 := G2.keep b3
        replace b3 := b2.trans (b3.mono b2.size)
        clear b2 T2 G2 T1
        go_wp2_with fail
        refine (match_is l rs ps true HM1 _ _ _ T3.out G3).mono ?_
        rintro e w4 ⟨rfl, b4⟩
        have T4 := Lib.hid (ut_keep T3.out b4)
        have G4 := G3.keep b4
        replace b4 := b3.trans (b4.mono b3.size)
        clear b3 T3 G3
        go_wp2_with fail
        refine (HQ3.out _ _ _ T4.out G4).mono ?_
        rintro e w5 ⟨rfl, b5⟩
        have G5 := G4.keep b5
        replace b5 := b4.trans (b5.mono b4.size)
        clear b4 T4 G4
        go_wp2_with fail
        refine (prefix_is ps l HPF _ _ _ G5).mono ?_
        rintro e w6 ⟨rfl, b6⟩
        replace b6 := b5.trans (b6.mono b5.size)
        clear b5 G5
        go_wp2_with fail
        go_ret
        exact ⟨by first | rfl | (refine ret_bool ?_; go_light; simp), b6⟩
set_option maxHeartbeats 1000000 in
theorem gplain_all (l m : List UInt8) (w : World) (hT : UT w) :
    Calls Tryd.prog 4 #[.string (strOf l), .string (strOf m)] w fun e w' => e = .returned (.bool true) ∧ Below w.heap.size w w' := by
  by_cases hl : l.length ≤ 100
  · by_cases hm : m.length ≤ 100
    · exact gplain_walk l m w hT hl hm
    · have h1 : ((strOf l).size : Int) ≤ 100 := by rw [size8]; omega
      have h2 : (100 : Int) < ((strOf m).size : Int) := by rw [size8]; omega
      go_enter Tryd.func4, Tryd.ntmps4
      go_wp2_with fail
      refine (head_any w hT).mono ?_
      rintro e w1 ⟨rfl, b1⟩
      go_wp2_with fail
      go_ret
      exact ⟨rfl, b1⟩
  · have h2 : (100 : Int) < ((strOf l).size : Int) := by rw [size8]; omega
    go_enter Tryd.func4, Tryd.ntmps4
    go_wp2_with fail
    refine (head_any w hT).mono ?_
    rintro e w1 ⟨rfl, b1⟩
    go_wp2_with fail
    go_ret
    exact ⟨rfl, b1⟩
end Go.Proofs.YtdijicdlglnlmaaDoor
