/- The function that the page's split calls behind each word. -/
import Derived.Test.YtpgfiecfndkheaaDoorTkSM
namespace Go.Proofs.YtpgfiecfndkheaaDoor
open Go.RowKit
set_option maxRecDepth 100000

abbrev bx (H k : Nat) : Value := .pointer (some ⟨H + k, 0, none⟩)
theorem byte_eq (c m : UInt8) : ((c.toNat : Int) == (m.toNat : Int)) = decide (c = m) := by
  by_cases h : c = m
  · subst h; simp
  · have h2 : c.toNat ≠ m.toNat := fun e => h (UInt8.toNat_inj.1 e)
    rw [decide_eq_false h]
    exact beq_eq_false_iff_ne.2 (by omega)
theorem sentF_len (cs : List (B8 × List Nat)) : ∀ k, (sentF k cs).length ≤ cs.length := by
  induction cs with
  | nil => intro k; exact Nat.le_refl _
  | cons c cs ih =>
    intro k
    show (_ ++ sentF (k + 1) cs).length ≤ _
    rw [List.length_append, List.length_cons]
    have := ih (k + 1)
    split <;> simp <;> omega
theorem parsF_len (cs : List (B8 × List Nat)) : ∀ k, (parsF k cs).length ≤ cs.length := by
  induction cs with
  | nil => intro k; exact Nat.le_refl _
  | cons c cs ih =>
    intro k
    show (_ ++ parsF (k + 1) cs).length ≤ _
    rw [List.length_append, List.length_cons]
    have := ih (k + 1)
    split <;> simp <;> omega
/-- What 'done' leaves. -/
def DonePost (w : World) (H : Nat) (E : List (B8 × List Nat)) (g : B8) (rs : List Nat) (e : Ending) (w' : World) : Prop :=
  e = .returned (.tuple #[]) ∧ Below H w w' ∧ ∃ v0 v1 v2, SM w' H (wordsOf (emitE E g rs)) (sentF 0 (emitE E g rs)) (parsF 0 (emitE E g rs)) (if rs = [] then g else []) [] false v0 v1 v2
set_option maxHeartbeats 8000000 in
theorem done_any (H : Nat) (E : List (B8 × List Nat)) (g : B8) (rs : List Nat) (v0 v1 v2 : Value) (w : World) (h : SM w H (wordsOf E) (sentF 0 E) (parsF 0 E) g (wordR rs) (cutF rs) v0 v1 v2) (hE : E.length ≤ 100000) (hgl : g.length ≤ 100000) :
    Calls Tryd.prog 22 #[bx H 7, bx H 1, bx H 6, bx H 3, bx H 5, bx H 8] w fun e w' => DonePost w H E g rs e w' := by
  have HM := Lib.hid h
  have HQ : Hid (∀ e w', DonePost w H E g rs e w' ↔ (e = .returned (.tuple #[]) ∧ Below H w w' ∧ ∃ v0 v1 v2, SM w' H (wordsOf (emitE E g rs)) (sentF 0 (emitE E g rs)) (parsF 0 (emitE E g rs)) (if rs = [] then g else []) [] false v0 v1 v2)) := fun e w' => Iff.rfl
  clear h
  have cd := HM.out.cd
  by_cases hr : rs = []
  · have hem : (strOf (wordR rs)).toList.isEmpty = true := by rw [str_empty, hr]; rfl
    have hfin : DonePost w H E g rs (.returned (.tuple #[])) w := by
      refine (HQ.out _ _).2 ⟨rfl, Below.refl _ _, v0, v1, v2, ?_⟩
      have := HM.out
      unfold emitE
      rw [if_pos hr, if_pos hr]
      rw [show wordR rs = [] by rw [hr]; rfl, show cutF rs = false by rw [hr]; rfl] at this
      exact this
    have HF := Lib.hid hfin
    clear hfin HQ hr
    go_enter Tryd.func22, Tryd.ntmps22
    go_wp2_with fail
    go_returns
    exact HF.out
  have hem : (strOf (wordR rs)).toList.isEmpty = false := by
    rw [str_empty]
    have : wordR rs ≠ [] := fun e => hr ((wordR_nil rs).1 e)
    cases hh : wordR rs with
    | nil => exact absurd hh this
    | cons _ _ => rfl
  obtain ⟨ew, es, ep⟩ := emit_w E g rs hr
  rw [ew, es, ep, if_neg hr] at HQ
  obtain ⟨n, hn⟩ : ∃ n, n = E.length := ⟨_, rfl⟩
  have hwl : (wordsOf E).length = n := by rw [words_len, hn]
  rw [← hn] at HQ hE
  have hsb : (sentF 0 E).length ≤ 200000 := by have := sentF_len E 0; omega
  have hpb : (parsF 0 E).length ≤ 200000 := by have := parsF_len E 0; omega
  have cw := HM.out.cw
  have cg := HM.out.cg
  obtain ⟨A0, c0, hv0, hc0, hm0, _⟩ := own_cs HM.out.r0
  obtain ⟨A1, c1, hv1, hc1, hm1, _⟩ := own_cs HM.out.r1
  obtain ⟨A2, c2, hv2, hc2, hm2, _⟩ := own_cs HM.out.r2
  rw [hwl] at hv0 hc0
  subst hv0 hv1 hv2
  have hsz := size8 g
  clear ew es ep hn hr
  obtain ⟨nI, hnI⟩ : ∃ m, m = g.length := ⟨_, rfl⟩
  rw [← hnI] at hsz hgl
  have HNI := Lib.hid hnI
  clear hnI
  go_enter Tryd.func22, Tryd.ntmps22
  go_wp2_with fail
  go_loopg [7, 8, 9, 10] nI (fun gg st tw ln ix wr => ∃ (s t : Bool) (q k : Nat), st = .bool s ∧ tw = .bool t ∧ ln = .int .i64 q ∧ ix = .int .i64 k ∧ k ≤ nI ∧ q ≤ k ∧ nI - k ≤ gg ∧ Hid (scanB false false 0 g = scanB s t q (g.drop k)) ∧ w = wr)
  case atStart => exact ⟨false, false, 0, 0, rfl, rfl, rfl, rfl, Nat.zero_le _, Nat.le_refl _, by omega, by show _ = _; rfl, rfl⟩
  case round =>
    obtain ⟨s, t, q, k, rfl, rfl, rfl, rfl, hk, hqk, hg2, HR, rfl⟩ := hrel
    by_cases hlt : k < nI
    · have hk2 : k < (strOf g).size := by rw [hsz]; exact hlt
      have hltI : (k : Int) < (nI : Int) := by omega
      have hd := drop_cons g k hk2
      obtain ⟨c, hc⟩ : ∃ c, (strOf g)[k]'hk2 = c := ⟨_, rfl⟩
      rw [hc] at hd
      have HD : Hid (scanB false false 0 g = if c = 46 ∨ c = 33 ∨ c = 63 then scanB true t 0 (g.drop (k + 1)) else if c = 10 then scanB s (t || decide (1 < q + 1)) (q + 1) (g.drop (k + 1)) else if c = 32 ∨ c = 9 ∨ c = 13 then scanB s t q (g.drop (k + 1)) else scanB s t 0 (g.drop (k + 1))) := by show _ = _; rw [HR.out, hd]; rfl
      have k46 : ((c.toNat : Int) == 46) = decide (c = 46) := byte_eq c 46
      have k33 : ((c.toNat : Int) == 33) = decide (c = 33) := byte_eq c 33
      have k63 : ((c.toNat : Int) == 63) = decide (c = 63) := byte_eq c 63
      have k10 : ((c.toNat : Int) == 10) = decide (c = 10) := byte_eq c 10
      have k32 : ((c.toNat : Int) == 32) = decide (c = 32) := byte_eq c 32
      have k9 : ((c.toNat : Int) == 9) = decide (c = 9) := byte_eq c 9
      have k13 : ((c.toNat : Int) == 13) = decide (c = 13) := byte_eq c 13
      clear hd
      by_cases h1 : c = 46 ∨ c = 33 ∨ c = 63
      · rw [if_pos h1] at HD
        rcases h1 with h1 | h1 | h1
        · rw [decide_eq_true h1] at k46
          clear k33 k63
          clear k10 k32 k9 k13 h1
          go_wp2_with fail
          go_roundg (nI - (k + 1))
          case measure => omega
          case rel => exact ⟨true, t, 0, k + 1, rfl, rfl, rfl, by go_num, by omega, by omega, Nat.le_refl _, HD, rfl⟩
        · rw [decide_eq_true h1] at k33
          rw [decide_eq_false (by rw [h1]; decide)] at k46
          clear k63
          clear k10 k32 k9 k13 h1
          go_wp2_with fail
          go_roundg (nI - (k + 1))
          case measure => omega
          case rel => exact ⟨true, t, 0, k + 1, rfl, rfl, rfl, by go_num, by omega, by omega, Nat.le_refl _, HD, rfl⟩
        · rw [decide_eq_true h1] at k63
          rw [decide_eq_false (by rw [h1]; decide)] at k46
          rw [decide_eq_false (by rw [h1]; decide)] at k33
          clear k10 k32 k9 k13 h1
          go_wp2_with fail
          go_roundg (nI - (k + 1))
          case measure => omega
          case rel => exact ⟨true, t, 0, k + 1, rfl, rfl, rfl, by go_num, by omega, by omega, Nat.le_refl _, HD, rfl⟩
      · rw [if_neg h1] at HD
        rw [decide_eq_false (fun h => h1 (.inl h))] at k46
        rw [decide_eq_false (fun h => h1 (.inr (.inl h)))] at k33
        rw [decide_eq_false (fun h => h1 (.inr (.inr h)))] at k63
        by_cases h10 : c = 10
        · rw [if_pos h10] at HD
          rw [decide_eq_true h10] at k10
          clear k32 k9 k13 h10 h1
          have HQ2 : Hid (decide ((1 : Int) < (q : Int) + 1) = decide (0 < q)) := by
            show _ = _
            by_cases hh : 0 < q
            · rw [decide_eq_true hh]; exact decide_eq_true (by omega)
            · rw [decide_eq_false hh]; exact decide_eq_false (by omega)
          have HQ1 : Hid (decide (1 < q + 1) = decide (0 < q)) := by
            show _ = _
            by_cases hh : 0 < q
            · rw [decide_eq_true hh]; exact decide_eq_true (by omega)
            · rw [decide_eq_false hh]; exact decide_eq_false (by omega)
          cases t
          · go_wp2_with fail
            all_goals go_roundg (nI - (k + 1))
            case measure => omega
            case rel => exact ⟨s, decide (0 < q), q + 1, k + 1, rfl, by rw [HQ2.out], by go_num, by go_num, by omega, by omega, Nat.le_refl _, by show _ = _; rw [HD.out, Bool.false_or, HQ1.out], rfl⟩
          · go_wp2_with fail
            go_roundg (nI - (k + 1))
            case measure => omega
            case rel => exact ⟨s, true, q + 1, k + 1, rfl, rfl, by go_num, by go_num, by omega, by omega, Nat.le_refl _, by show _ = _; rw [HD.out]; rfl, rfl⟩
        · rw [if_neg h10] at HD
          rw [decide_eq_false h10] at k10
          by_cases hb : c = 32 ∨ c = 9 ∨ c = 13
          · rw [if_pos hb] at HD
            rcases hb with hb | hb | hb
            · rw [decide_eq_true hb] at k32
              clear k9 k13
              clear h1 h10 hb
              go_wp2_with fail
              go_roundg (nI - (k + 1))
              case measure => omega
              case rel => exact ⟨s, t, q, k + 1, rfl, rfl, rfl, by go_num, by omega, by omega, Nat.le_refl _, HD, rfl⟩
            · rw [decide_eq_true hb] at k9
              rw [decide_eq_false (by rw [hb]; decide)] at k32
              clear k13
              clear h1 h10 hb
              go_wp2_with fail
              go_roundg (nI - (k + 1))
              case measure => omega
              case rel => exact ⟨s, t, q, k + 1, rfl, rfl, rfl, by go_num, by omega, by omega, Nat.le_refl _, HD, rfl⟩
            · rw [decide_eq_true hb] at k13
              rw [decide_eq_false (by rw [hb]; decide)] at k32
              rw [decide_eq_false (by rw [hb]; decide)] at k9
              clear h1 h10 hb
              go_wp2_with fail
              go_roundg (nI - (k + 1))
              case measure => omega
              case rel => exact ⟨s, t, q, k + 1, rfl, rfl, rfl, by go_num, by omega, by omega, Nat.le_refl _, HD, rfl⟩
          · rw [if_neg hb] at HD
            rw [decide_eq_false (fun h => hb (.inl h))] at k32
            rw [decide_eq_false (fun h => hb (.inr (.inl h)))] at k9
            rw [decide_eq_false (fun h => hb (.inr (.inr h)))] at k13
            clear h1 h10 hb
            go_wp2_with fail
            go_roundg (nI - (k + 1))
            case measure => omega
            case rel => exact ⟨s, t, 0, k + 1, rfl, rfl, rfl, by go_num, by omega, by omega, Nat.le_refl _, HD, rfl⟩
    · obtain rfl : k = nI := by omega
      have hst : (s, t) = (stopB g, parB false g) := by
        have h1 := scan_eq g false false 0
        rw [HR.out, HNI.out, List.drop_length] at h1
        have h2 : scanB s t q [] = (s, t) := rfl
        rw [h2] at h1
        rw [h1]
        simp
      injection hst with hs1 hs2
      rw [← hs1, ← hs2] at HQ
      clear hs1 hs2 HR HNI
      have cs1 := HM.out.cs
      have cp1 := HM.out.cp
      have HWL := Lib.hid hwl
      by_cases hn0 : 0 < n
      · have hnI : (0 : Int) < (n : Int) := by omega
        have hnd : decide ((0 : Int) < (n : Int)) = true := decide_eq_true hnI
        cases t
        · cases s
          · rw [if_neg (by simp), if_neg (by simp), List.append_nil, List.append_nil] at HQ
            go_upto_region 25 with (fail)
            have BX := Lib.hid (Below.refl H w)
            go_upto_region 26 with (at_builtin; refine wpList_pushS w rfl (.tmp 62) (.tmp 64) rfl H _ n (tCells (wordsOf E)) (strOf (wordR rs)) rfl rfl (by have := HM.out.r0; rwa [HWL.out] at this) (by have := HM.out.lt; omega) (by omega) ?_; intro v5 w5 ho5 hg5 hat5; obtain ⟨k5, f5, b5, m5⟩ := (HM.out.below ((Below.refl _ _).alloc (Nat.le_refl _) _)).grow0 (L' := wordsOf E ++ [wordR rs]) hg5 (by rw [List.length_append, HWL.out, tCells_app]; exact ho5) hat5; obtain ⟨A5, c5, hv5, _, _, _⟩ := own_cs ho5; subst hv5)
            generalize w5.setCell ⟨H + 1, 0, none⟩ _ = w8 at *
            have M8 := Lib.hid m5
            have B8' : Hid (Below H w w8) := BX.out.trans (((Below.refl H w).alloc (by have := HM.out.lt; omega) _).trans b5)
            have g8 := m5.cg
            have d8 := m5.cd
            have c8 := m5.cc
            have f6 := m5.fr 6 (by omega)
            have f7 := m5.fr 7 (by omega)
            have f8 := m5.fr 8 (by omega)
            have HFIN := Lib.hid ((HQ.out (.returned (.tuple #[])) (((w8.setCell ⟨H + 7, 0, none⟩ (.string (strOf []))).setCell ⟨H + 6, 0, none⟩ (.string (strOf []))).setCell ⟨H + 8, 0, none⟩ (.bool false))).2 ⟨rfl, set_low (set_low (set_low B8'.out (H + 7) (by omega) _) (H + 6) (by omega) _) (H + 8) (by omega) _, _, _, _, ((m5.setWord []).setGap []).setCut false⟩)
            clear m5 b5 k5 f5 ho5 hg5 hat5
            go_wp2_with fail
            go_returns
            exact HFIN.out
          · rw [if_pos ⟨hn0, .inr rfl⟩, if_neg (by simp), List.append_nil] at HQ
            go_upto_region 23 with (at_builtin; refine wpList_pushI w rfl (.tmp 49) (.tmp 51) rfl H _ _ (nCells (sentF 0 E)) (n : Int) rfl rfl HM.out.r1 (by have := HM.out.lt; omega) (by omega) ?_; intro v5 w5 ho5 hg5 hat5; obtain ⟨k5, f5, b5, m5⟩ := (HM.out.below ((Below.refl _ _).alloc (Nat.le_refl _) _)).grow1 (L' := sentF 0 E ++ [n]) hg5 (by rw [List.length_append, nCells_app]; exact ho5) hat5; obtain ⟨A5, c5, hv5, _, _, _⟩ := own_cs ho5; subst hv5)
            have B6 := Lib.hid (((Below.refl H w).alloc (by have := HM.out.lt; omega) _).trans b5)
            generalize w5.setCell ⟨H + 3, 0, none⟩ _ = w6 at *
            have M6 := Lib.hid m5
            have cw6 := m5.cw
            have cp6 := m5.cp
            have cd6 := m5.cd
            clear m5 b5 k5 f5 ho5 hg5 hat5
            go_upto_region 25 with (fail)
            go_upto_region 26 with (at_builtin; refine wpList_pushS w6 rfl (.tmp 62) (.tmp 64) rfl H _ n (tCells (wordsOf E)) (strOf (wordR rs)) rfl rfl (by have := M6.out.r0; rwa [HWL.out] at this) (by have := M6.out.lt; omega) (by omega) ?_; intro v5 w5 ho5 hg5 hat5; obtain ⟨k5, f5, b5, m5⟩ := (M6.out.below ((Below.refl _ _).alloc (Nat.le_refl _) _)).grow0 (L' := wordsOf E ++ [wordR rs]) hg5 (by rw [List.length_append, HWL.out, tCells_app]; exact ho5) hat5; obtain ⟨A5, c5, hv5, _, _, _⟩ := own_cs ho5; subst hv5)
            generalize w5.setCell ⟨H + 1, 0, none⟩ _ = w8 at *
            have M8 := Lib.hid m5
            have B8' : Hid (Below H w w8) := B6.out.trans (((Below.refl H w6).alloc (by have := M6.out.lt; omega) _).trans b5)
            have g8 := m5.cg
            have d8 := m5.cd
            have c8 := m5.cc
            have f6 := m5.fr 6 (by omega)
            have f7 := m5.fr 7 (by omega)
            have f8 := m5.fr 8 (by omega)
            have HFIN := Lib.hid ((HQ.out (.returned (.tuple #[])) (((w8.setCell ⟨H + 7, 0, none⟩ (.string (strOf []))).setCell ⟨H + 6, 0, none⟩ (.string (strOf []))).setCell ⟨H + 8, 0, none⟩ (.bool false))).2 ⟨rfl, set_low (set_low (set_low B8'.out (H + 7) (by omega) _) (H + 6) (by omega) _) (H + 8) (by omega) _, _, _, _, ((m5.setWord []).setGap []).setCut false⟩)
            clear m5 b5 k5 f5 ho5 hg5 hat5
            go_wp2_with fail
            go_returns
            exact HFIN.out
        · rw [if_pos ⟨hn0, .inl rfl⟩, if_pos ⟨hn0, rfl⟩] at HQ
          cases s
          all_goals
            go_upto_region 23 with (at_builtin; refine wpList_pushI w rfl (.tmp 49) (.tmp 51) rfl H _ _ (nCells (sentF 0 E)) (n : Int) rfl rfl HM.out.r1 (by have := HM.out.lt; omega) (by omega) ?_; intro v5 w5 ho5 hg5 hat5; obtain ⟨k5, f5, b5, m5⟩ := (HM.out.below ((Below.refl _ _).alloc (Nat.le_refl _) _)).grow1 (L' := sentF 0 E ++ [n]) hg5 (by rw [List.length_append, nCells_app]; exact ho5) hat5; obtain ⟨A5, c5, hv5, _, _, _⟩ := own_cs ho5; subst hv5)
            have B6 := Lib.hid (((Below.refl H w).alloc (by have := HM.out.lt; omega) _).trans b5)
            generalize w5.setCell ⟨H + 3, 0, none⟩ _ = w6 at *
            have M6 := Lib.hid m5
            have cw6 := m5.cw
            have cp6 := m5.cp
            have cd6 := m5.cd
            clear m5 b5 k5 f5 ho5 hg5 hat5
            go_upto_region 25 with (at_builtin; refine wpList_pushI w6 rfl (.tmp 58) (.tmp 60) rfl H _ _ (nCells (parsF 0 E)) (n : Int) rfl rfl M6.out.r2 (by have := M6.out.lt; omega) (by omega) ?_; intro v5 w5 ho5 hg5 hat5; obtain ⟨k5, f5, b5, m5⟩ := (M6.out.below ((Below.refl _ _).alloc (Nat.le_refl _) _)).grow2 (L' := parsF 0 E ++ [n]) hg5 (by rw [List.length_append, nCells_app]; exact ho5) hat5; obtain ⟨A5, c5, hv5, _, _, _⟩ := own_cs ho5; subst hv5)
            have B7 := Lib.hid (B6.out.trans (((Below.refl H w6).alloc (by have := M6.out.lt; omega) _).trans b5))
            generalize w5.setCell ⟨H + 5, 0, none⟩ _ = w7 at *
            have M7 := Lib.hid m5
            have cw7 := m5.cw
            have cd7 := m5.cd
            clear m5 b5 k5 f5 ho5 hg5 hat5 cw6 cp6 cd6
            go_upto_region 26 with (at_builtin; refine wpList_pushS w7 rfl (.tmp 62) (.tmp 64) rfl H _ n (tCells (wordsOf E)) (strOf (wordR rs)) rfl rfl (by have := M7.out.r0; rwa [HWL.out] at this) (by have := M7.out.lt; omega) (by omega) ?_; intro v5 w5 ho5 hg5 hat5; obtain ⟨k5, f5, b5, m5⟩ := (M7.out.below ((Below.refl _ _).alloc (Nat.le_refl _) _)).grow0 (L' := wordsOf E ++ [wordR rs]) hg5 (by rw [List.length_append, HWL.out, tCells_app]; exact ho5) hat5; obtain ⟨A5, c5, hv5, _, _, _⟩ := own_cs ho5; subst hv5)
            generalize w5.setCell ⟨H + 1, 0, none⟩ _ = w8 at *
            have M8 := Lib.hid m5
            have B8' : Hid (Below H w w8) := B7.out.trans (((Below.refl H w7).alloc (by have := M7.out.lt; omega) _).trans b5)
            have g8 := m5.cg
            have d8 := m5.cd
            have c8 := m5.cc
            have f6 := m5.fr 6 (by omega)
            have f7 := m5.fr 7 (by omega)
            have f8 := m5.fr 8 (by omega)
            have HFIN := Lib.hid ((HQ.out (.returned (.tuple #[])) (((w8.setCell ⟨H + 7, 0, none⟩ (.string (strOf []))).setCell ⟨H + 6, 0, none⟩ (.string (strOf []))).setCell ⟨H + 8, 0, none⟩ (.bool false))).2 ⟨rfl, set_low (set_low (set_low B8'.out (H + 7) (by omega) _) (H + 6) (by omega) _) (H + 8) (by omega) _, _, _, _, ((m5.setWord []).setGap []).setCut false⟩)
            clear m5 b5 k5 f5 ho5 hg5 hat5
            go_wp2_with fail
            go_returns
            exact HFIN.out
      · have hnI : ¬ (0 : Int) < (n : Int) := by omega
        have hnd : decide ((0 : Int) < (n : Int)) = false := decide_eq_false hnI
        rw [if_neg (fun h => hn0 h.1), if_neg (fun h => hn0 h.1), List.append_nil, List.append_nil] at HQ
        go_upto_region 25 with (fail)
        have BX := Lib.hid (Below.refl H w)
        go_upto_region 26 with (at_builtin; refine wpList_pushS w rfl (.tmp 62) (.tmp 64) rfl H _ n (tCells (wordsOf E)) (strOf (wordR rs)) rfl rfl (by have := HM.out.r0; rwa [HWL.out] at this) (by have := HM.out.lt; omega) (by omega) ?_; intro v5 w5 ho5 hg5 hat5; obtain ⟨k5, f5, b5, m5⟩ := (HM.out.below ((Below.refl _ _).alloc (Nat.le_refl _) _)).grow0 (L' := wordsOf E ++ [wordR rs]) hg5 (by rw [List.length_append, HWL.out, tCells_app]; exact ho5) hat5; obtain ⟨A5, c5, hv5, _, _, _⟩ := own_cs ho5; subst hv5)
        generalize w5.setCell ⟨H + 1, 0, none⟩ _ = w8 at *
        have M8 := Lib.hid m5
        have B8' : Hid (Below H w w8) := BX.out.trans (((Below.refl H w).alloc (by have := HM.out.lt; omega) _).trans b5)
        have g8 := m5.cg
        have d8 := m5.cd
        have c8 := m5.cc
        have f6 := m5.fr 6 (by omega)
        have f7 := m5.fr 7 (by omega)
        have f8 := m5.fr 8 (by omega)
        have HFIN := Lib.hid ((HQ.out (.returned (.tuple #[])) (((w8.setCell ⟨H + 7, 0, none⟩ (.string (strOf []))).setCell ⟨H + 6, 0, none⟩ (.string (strOf []))).setCell ⟨H + 8, 0, none⟩ (.bool false))).2 ⟨rfl, set_low (set_low (set_low B8'.out (H + 7) (by omega) _) (H + 6) (by omega) _) (H + 8) (by omega) _, _, _, _, ((m5.setWord []).setGap []).setCut false⟩)
        clear m5 b5 k5 f5 ho5 hg5 hat5
        go_wp2_with fail
        go_returns
        exact HFIN.out
end Go.Proofs.YtpgfiecfndkheaaDoor
