/- token.run, token.cut, token.partsParagraphs, strings.Clone. -/
import Derived.Test.YtpgfiecfndkheaaDoorTkNx
import Derived.Test.YtpgfiecfndkheaaDoorTkSpec
import Derived.Test.YtpgfiecfndkheaaDoorLetterT
namespace Go.Proofs.YtpgfiecfndkheaaDoor
open Go.RowKit
set_option maxRecDepth 100000

theorem ut_keep {w w' : World} (h : UT w) (hb : Below w.heap.size w w') : UT w' := by
  obtain ⟨h1, h2⟩ := h
  have keep : ∀ b o v, w.cell? ⟨b, o, none⟩ = some v → w'.cell? ⟨b, o, none⟩ = some v := fun b o v hc => (hb.cell (p := ⟨b, o, none⟩) (World.block_lt_of_cell? w _ hc)).trans hc
  exact ⟨fun c hc => keep _ _ _ (h1 c hc), fun i hi => ⟨keep _ _ _ (h2 i hi).1, keep _ _ _ (h2 i hi).2⟩⟩
theorem drop_ne (l : B8) (k : Nat) (h : k < l.length) : l.drop k ≠ [] := by
  intro h2
  have := congrArg List.length h2
  rw [List.length_drop] at this
  simp at this
  omega
theorem next0 (l : B8) (h : (nextN l).2 = 0) : (nextN l).1 = 0 := by
  obtain ⟨r, q, hn⟩ : ∃ r q, nextN l = (r, q) := ⟨_, _, rfl⟩
  rw [hn] at h ⊢
  exact (nextN_zero _ r q hn h).1

set_option maxHeartbeats 4000000 in
theorem run_any (l : B8) (b : Bool) (hl : l.length ≤ 100000000) (w : World) (hT : UT w) :
    Calls Tryd.prog 18 #[.string (strOf l), .bool b] w fun e w' => e = .returned (.int .i64 (runL l b : Nat)) ∧ Below w.heap.size w w' := by
  have HT := Lib.hid hT
  clear hT
  have hsz := size8 l
  go_enter Tryd.func18, Tryd.ntmps18
  go_wp2_with fail
  go_loopg [5] l.length (fun gg i wr => ∃ k : Nat, i = .int .i64 k ∧ k ≤ l.length ∧ l.length - k ≤ gg ∧ Hid (runL l b = k + runL (l.drop k) b) ∧ Hid (Below w.heap.size w wr))
  case atStart => exact ⟨0, rfl, Nat.zero_le _, by omega, by show _ = _; simp, Below.refl _ _⟩
  case round =>
    obtain ⟨k, rfl, hk, hg, HR, HB⟩ := hrel
    by_cases hlt : k < l.length
    · have HN := Lib.hid (next_any (l.drop k) wr (ut_keep HT.out HB.out))
      have hcut : (strOf l).extract k l.length = strOf (l.drop k) := by rw [← size8 l]; exact cut8 l k
      have hltI : (k : Int) < (l.length : Int) := by omega
      have HAD : Hid (adv (l.drop k) = max 1 (nextN (l.drop k)).2) := rfl
      have HIS : Hid (isL (l.drop k) = letterB ((nextN (l.drop k)).1 : Int)) := rfl
      have HLE : Hid (adv (l.drop k) ≤ l.length - k) := by show _ ≤ _; have := adv_le _ (drop_ne l k hlt); rwa [List.length_drop] at this
      have HZ := Lib.hid (next0 (l.drop k))
      have HST := Lib.hid (runL_step (l.drop k) b (drop_ne l k hlt))
      have HSP := Lib.hid (runL_stop (l.drop k) b)
      have hb1 := (next_bd (l.drop k)).2
      have hb2 := (next_bd (l.drop k)).1
      rw [List.length_drop] at hb2
      have HDD : Hid (∀ q, (l.drop k).drop q = l.drop (k + q)) := fun q => List.drop_drop
      generalize l.drop k = t at *
      obtain ⟨r, n, hrn⟩ : ∃ r n, nextN t = (r, n) := ⟨_, _, rfl⟩
      rw [hrn] at HN HAD HIS HZ hb1 hb2
      have HN2 := HN
      clear hrn HN
      simp only at HAD HIS HZ hb1 hb2
      by_cases hn0 : n = 0
      · obtain rfl := HZ.out hn0
        subst hn0
        have ha : Hid (adv t = 1) := HAD.out
        have hi : Hid (isL t = false) := by show _ = _; rw [HIS.out]; decide
        cases b
        · go_wp2_with fail
          (with_reducible refine HN2.out.mono ?_)
          rintro e w2 ⟨rfl, hbw⟩
          simp only
          have HB2 := Lib.hid (HB.out.trans (hbw.mono HB.out.size))
          clear hbw
          go_wp2_with (go_at_call 14; refine (letter_any 0 (by omega) (by omega) _).mono ?_; rintro e w3 ⟨rfl, rfl⟩; rw [show letterB 0 = false from rfl])
          go_roundg (l.length - (k + 1))
          case rel => exact ⟨k + 1, by go_num, by omega, Nat.le_refl _, by show _ = _; rw [HR.out, HST.out hi.out, ha.out, HDD.out]; omega, HB2⟩
          case measure => omega
        · go_wp2_with fail
          (with_reducible refine HN2.out.mono ?_)
          rintro e w2 ⟨rfl, hbw⟩
          simp only
          have HB2 := Lib.hid (HB.out.trans (hbw.mono HB.out.size))
          clear hbw
          go_wp2_with (go_at_call 14; refine (letter_any 0 (by omega) (by omega) _).mono ?_; rintro e w3 ⟨rfl, rfl⟩; rw [show letterB 0 = false from rfl])
          go_ret
          exact ⟨by rw [HR.out, HSP.out (by rw [hi.out]; decide)]; rfl, HB2.out⟩
      · have hnI : ((n : Int) == 0) = false := by simp; omega
        have ha : Hid (adv t = n) := by show _ = _; rw [HAD.out]; omega
        by_cases hi : letterB (r : Int) = b
        · have HI : Hid (isL t = b) := HIS.out.trans hi
          have hbb : (letterB (r : Int) == b) = true := by rw [hi]; simp
          have hle := HLE.out
          rw [ha.out] at hle
          go_wp2_with fail
          (with_reducible refine HN2.out.mono ?_)
          rintro e w2 ⟨rfl, hbw⟩
          simp only
          have HB2 := Lib.hid (HB.out.trans (hbw.mono HB.out.size))
          clear hbw
          go_wp2_with (go_at_call 14; refine (letter_any (r : Int) (by omega) (by omega) _).mono ?_; rintro e w3 ⟨rfl, rfl⟩)
          go_roundg (l.length - (k + n))
          case rel => exact ⟨k + n, by go_num, by omega, Nat.le_refl _, by show _ = _; rw [HR.out, HST.out HI.out, ha.out, HDD.out]; omega, HB2⟩
          case measure => omega
        · have HI : Hid (isL t ≠ b) := by show _ ≠ _; rw [HIS.out]; exact hi
          have hbb : (letterB (r : Int) == b) = false := by simpa using hi
          go_wp2_with fail
          (with_reducible refine HN2.out.mono ?_)
          rintro e w2 ⟨rfl, hbw⟩
          simp only
          have HB2 := Lib.hid (HB.out.trans (hbw.mono HB.out.size))
          clear hbw
          go_wp2_with (go_at_call 14; refine (letter_any (r : Int) (by omega) (by omega) _).mono ?_; rintro e w3 ⟨rfl, rfl⟩)
          go_ret
          exact ⟨by rw [HR.out, HSP.out HI.out]; rfl, HB2.out⟩
    · obtain rfl : k = l.length := by omega
      have HE : Hid (runL l b = l.length) := by show _ = _; rw [HR.out, List.drop_length, runL_nil]; rfl
      go_wp2_with fail
      go_ret
      exact ⟨by rw [HE.out]; rfl, HB.out⟩

theorem cutR_len (rs : List Nat) : ∀ z, z ≤ 80 → z + (encW (cutR rs z)).length ≤ 80 := by
  induction rs with
  | nil => intro z hz; simpa [cutR, encW] using hz
  | cons r rs ih =>
    intro z hz
    unfold cutR
    by_cases h : 80 < z + (encS r).length
    · rw [if_pos h]; simpa [encW] using hz
    · rw [if_neg h, encW_cons, List.length_append]
      have := ih (z + (encS r).length) (by omega)
      omega
theorem cutR_pre (rs : List Nat) : ∀ z, ∃ m, rs = cutR rs z ++ m := by
  induction rs with
  | nil => intro z; exact ⟨[], rfl⟩
  | cons r rs ih =>
    intro z
    unfold cutR
    by_cases h : 80 < z + (encS r).length
    · rw [if_pos h]; exact ⟨_, rfl⟩
    · rw [if_neg h]
      obtain ⟨m, hm⟩ := ih (z + (encS r).length)
      exact ⟨m, by rw [List.cons_append, ← hm]⟩
theorem encW_ne (rs : List Nat) (h : encW rs ≠ []) : rs ≠ [] := by intro h2; rw [h2] at h; exact h rfl
set_option maxHeartbeats 4000000 in
theorem cut_any (rs : List Nat) (hs : Lts rs) (hl : (encW rs).length ≤ 100000000) (w : World) (hT : UT w) :
    Calls Tryd.prog 21 #[.string (strOf (encW rs))] w fun e w' => e = .returned (.string (strOf (encW (cutR rs 0)))) ∧ Below w.heap.size w w' := by
  have HT := Lib.hid hT
  have HS := Lib.hid hs
  clear hT hs
  have hsz := size8 (encW rs)
  go_enter Tryd.func21, Tryd.ntmps21
  go_wp2_with fail
  go_loopg [3] rs.length (fun gg i wr => ∃ (a m : List Nat) (k : Nat), i = .int .i64 k ∧ Hid (rs = a ++ m) ∧ k = (encW a).length ∧ k ≤ 80 ∧ m.length ≤ gg ∧ Hid (cutR rs 0 = a ++ cutR m k) ∧ Hid (Below w.heap.size w wr))
  case atStart => exact ⟨[], rs, 0, rfl, by show _ = _; rfl, rfl, by omega, Nat.le_refl _, by show _ = _; rfl, Below.refl _ _⟩
  case round =>
    obtain ⟨a, m, k, rfl, HA, hk, hk80, hg, HR, HB⟩ := hrel
    have hdr : Hid ((encW rs).drop k = encW m) := by show _ = _; rw [HA.out, encW_app, hk, List.drop_left]
    have htk : Hid ((encW rs).take k = encW a) := by show _ = _; rw [HA.out, encW_app, hk, List.take_left]
    have hln : (encW rs).length = k + (encW m).length := by rw [HA.out, encW_app, List.length_append, hk]
    cases m with
    | nil =>
      have hkl : k = (encW rs).length := by rw [hln]; rfl
      have hcut : (strOf (encW rs)).extract 0 k = strOf (encW (cutR rs 0)) := by rw [take8, htk.out, HR.out]; simp [cutR]
      rw [← hkl] at hsz
      clear hln hkl hk
      go_wp2_with fail
      go_ret
      exact ⟨rfl, HB.out⟩
    | cons r m =>
      have hr := HS.out r (by rw [HA.out]; simp)
      have HN := Lib.hid (next_any (encW (r :: m)) wr (ut_keep HT.out HB.out))
      rw [encW_cons, nextN_enc r hr.1, ← encW_cons] at HN
      have hcut : (strOf (encW rs)).extract k (encW rs).length = strOf (encW (r :: m)) := by rw [← size8 (encW rs), cut8, hdr.out]
      have hcu2 : (strOf (encW rs)).extract 0 k = strOf (encW a) := by rw [take8, htk.out]
      have hltI : (k : Int) < ((encW rs).length : Int) := by have := encW_pos (r :: m) (by simp); omega
      have hlen := encS_len r
      have HC : Hid (cutR (r :: m) k = if 80 < k + (encS r).length then [] else r :: cutR m (k + (encS r).length)) := rfl
      have hle : k + (encS r).length ≤ (encW rs).length := by rw [hln, encW_cons, List.length_append]; omega
      have HK : Hid (k + (encS r).length = (encW (a ++ [r])).length) := by show _ = _; rw [encW_app, List.length_append, hk]; simp [encW]
      have hleI : (k : Int) ≤ ((encW rs).length : Int) := by omega
      clear hk hln
      generalize (encS r).length = n at *
      by_cases h8 : 80 < k + n
      · have h8I : (80 : Int) < (k : Int) + (n : Int) := by omega
        rw [if_pos h8] at HC
        have HF : Hid (encW (cutR rs 0) = encW a) := by show _ = _; rw [HR.out, HC.out]; simp
        go_wp2_with fail
        (with_reducible refine HN.out.mono ?_)
        rintro e w2 ⟨rfl, hbw⟩
        simp only
        have HB2 := Lib.hid (HB.out.trans (hbw.mono HB.out.size))
        clear hbw
        go_wp2_with fail
        go_ret
        exact ⟨by rw [HF.out]; rfl, HB2.out⟩
      · have h8I : ¬ (80 : Int) < (k : Int) + (n : Int) := by omega
        rw [if_neg h8] at HC
        go_wp2_with fail
        (with_reducible refine HN.out.mono ?_)
        rintro e w2 ⟨rfl, hbw⟩
        simp only
        have HB2 := Lib.hid (HB.out.trans (hbw.mono HB.out.size))
        clear hbw
        go_wp2_with fail
        go_roundg m.length
        case rel => exact ⟨a ++ [r], m, k + n, by go_num, by show _ = _; rw [HA.out]; simp, HK.out, by omega, Nat.le_refl _, by show _ = _; rw [HR.out, HC.out]; simp, HB2⟩
        case measure => simp at hg; omega

theorem par_false (l : B8) : ∀ b, parB b l = true → parB true l = true := by
  induction l with
  | nil => intro b h; exact h
  | cons c t ih =>
    intro b h
    unfold parB at h ⊢
    by_cases h10 : c = 10
    · rw [if_pos h10, if_pos rfl]
    · rw [if_neg h10] at h ⊢
      by_cases hb : c = 32 ∨ c = 9 ∨ c = 13
      · rw [if_pos hb] at h ⊢; exact ih b h
      · rw [if_neg hb] at h ⊢; exact h
set_option maxHeartbeats 4000000 in
theorem par_any (l : B8) (hl : l.length ≤ 100000000) (w : World) :
    Calls Tryd.prog 27 #[.string (strOf l)] w fun e w' => e = .returned (.bool (parB false l)) ∧ w = w' := by
  have hsz := size8 l
  go_enter Tryd.func27, Tryd.ntmps27
  go_wp2_with fail
  go_loopg [3, 7] l.length (fun gg nl i wr => ∃ (b : Bool) (k : Nat), nl = .bool b ∧ i = .int .i64 k ∧ k ≤ l.length ∧ l.length - k ≤ gg ∧ Hid (parB false l = parB b (l.drop k)) ∧ w = wr)
  case atStart => exact ⟨false, 0, rfl, rfl, Nat.zero_le _, by omega, by show _ = _; rfl, rfl⟩
  case round =>
    obtain ⟨b, k, rfl, rfl, hk, hg, HR, rfl⟩ := hrel
    by_cases hlt : k < l.length
    · have hk2 : k < (strOf l).size := by rw [hsz]; exact hlt
      have hltI : (k : Int) < (l.length : Int) := by omega
      have hd := drop_cons l k hk2
      obtain ⟨c, hc⟩ : ∃ c, (strOf l)[k]'hk2 = c := ⟨_, rfl⟩
      rw [hc] at hd
      have HD : Hid (parB false l = if c = 10 then (if b then true else parB true (l.drop (k + 1))) else if c = 32 ∨ c = 9 ∨ c = 13 then parB b (l.drop (k + 1)) else parB false (l.drop (k + 1))) := by show _ = _; rw [HR.out, hd]; rfl
      have key : ∀ (m : UInt8), ((c.toNat : Int) == (m.toNat : Int)) = decide (c = m) := fun m => by
        by_cases h : c = m
        · subst h; simp
        · have h2 : c.toNat ≠ m.toNat := fun e => h (UInt8.toNat_inj.1 e)
          rw [decide_eq_false h]
          exact beq_eq_false_iff_ne.2 (by omega)
      have k10 := key 10
      have k32 := key 32
      have k9 := key 9
      have k13 := key 13
      rw [show ((10 : UInt8).toNat : Int) = 10 from rfl] at k10
      rw [show ((32 : UInt8).toNat : Int) = 32 from rfl] at k32
      rw [show ((9 : UInt8).toNat : Int) = 9 from rfl] at k9
      rw [show ((13 : UInt8).toNat : Int) = 13 from rfl] at k13
      clear key hd
      by_cases h10 : c = 10
      · rw [decide_eq_true h10] at k10
        rw [if_pos h10] at HD
        cases b
        · go_wp2_with fail
          go_roundg (l.length - (k + 1))
          case rel => exact ⟨true, k + 1, rfl, by go_num, by omega, Nat.le_refl _, by show _ = _; rw [HD.out]; rfl, rfl⟩
          case measure => omega
        · go_wp2_with fail
          go_ret
          exact ⟨by rw [HD.out]; rfl, rfl⟩
      · rw [decide_eq_false h10] at k10
        rw [if_neg h10] at HD
        by_cases hb : c = 32 ∨ c = 9 ∨ c = 13
        · rw [if_pos hb] at HD
          rcases hb with hb | hb | hb
          · rw [decide_eq_true hb] at k32
            clear k9 k13
            go_wp2_with fail
            go_roundg (l.length - (k + 1))
            case rel => exact ⟨b, k + 1, rfl, by go_num, by omega, Nat.le_refl _, HD, rfl⟩
            case measure => omega
          · rw [decide_eq_true hb] at k9
            rw [decide_eq_false (by rw [hb]; decide)] at k32
            clear k13
            go_wp2_with fail
            go_roundg (l.length - (k + 1))
            case rel => exact ⟨b, k + 1, rfl, by go_num, by omega, Nat.le_refl _, HD, rfl⟩
            case measure => omega
          · rw [decide_eq_true hb] at k13
            rw [decide_eq_false (by rw [hb]; decide)] at k32
            rw [decide_eq_false (by rw [hb]; decide)] at k9
            go_wp2_with fail
            go_roundg (l.length - (k + 1))
            case rel => exact ⟨b, k + 1, rfl, by go_num, by omega, Nat.le_refl _, HD, rfl⟩
            case measure => omega
        · rw [if_neg hb] at HD
          rw [decide_eq_false (fun h => hb (.inl h))] at k32
          rw [decide_eq_false (fun h => hb (.inr (.inl h)))] at k9
          rw [decide_eq_false (fun h => hb (.inr (.inr h)))] at k13
          go_wp2_with fail
          go_roundg (l.length - (k + 1))
          case rel => exact ⟨false, k + 1, rfl, by go_num, by omega, Nat.le_refl _, HD, rfl⟩
          case measure => omega
    · obtain rfl : k = l.length := by omega
      have HE : Hid (parB false l = false) := by show _ = _; rw [HR.out, List.drop_length]; rfl
      go_wp2_with fail
      go_ret
      exact ⟨by rw [HE.out]; rfl, rfl⟩
set_option maxHeartbeats 4000000 in
theorem clone_any (s : ByteArray) (hs : s.size ≤ 100000000) (w : World) :
    Calls Tryd.prog 20 #[.string s] w fun e w' => e = .returned (.string s) ∧ Below w.heap.size w w' := by
  have HC := Lib.hid (Tryd.stringslite_Clone s w (by omega))
  go_enter Tryd.func20, Tryd.ntmps20
  go_wp2_with fail
  refine HC.out.mono ?_
  rintro e w2 ⟨rfl, hb⟩
  go_wp2_with fail
  go_ret
  exact ⟨rfl, hb⟩
end Go.Proofs.YtpgfiecfndkheaaDoor
