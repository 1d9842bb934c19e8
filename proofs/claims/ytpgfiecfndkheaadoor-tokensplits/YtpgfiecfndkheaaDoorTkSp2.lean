/- TokenSplits answers true. -/
import Derived.Test.YtpgfiecfndkheaaDoorTkDone
namespace Go.Proofs.YtpgfiecfndkheaaDoor
open Go.RowKit
set_option maxRecDepth 100000

theorem alloc_list (os : List Obj) : ∀ w : World, (os.foldl (fun w o => w.alloc o) w).heap.size = w.heap.size + os.length ∧ (∀ k o, os[k]? = some o → (os.foldl (fun w o => w.alloc o) w).heap[w.heap.size + k]? = some o) ∧ Below w.heap.size w (os.foldl (fun w o => w.alloc o) w) := by
  induction os with
  | nil => intro w; exact ⟨rfl, fun k o h => by simp at h, Below.refl _ _⟩
  | cons o os ih =>
    intro w
    obtain ⟨h1, h2, h3⟩ := ih (w.alloc o)
    have hs : (w.alloc o).heap.size = w.heap.size + 1 := by simp
    rw [hs] at h1 h2 h3
    show (os.foldl (fun w o => w.alloc o) (w.alloc o)).heap.size = _ ∧ _ ∧ _
    refine ⟨by rw [h1, List.length_cons]; omega, fun k o' hk => ?_, ?_⟩
    · cases k with
      | zero =>
        have : o = o' := by simpa using hk
        subst this
        exact (h3.block w.heap.size (by omega)).trans (heap_alloc_new w o)
      | succ k =>
        have := h2 k o' (by simpa using hk)
        rwa [show w.heap.size + 1 + k = w.heap.size + (k + 1) by omega] at this
    · exact ((Below.refl _ w).alloc (Nat.le_refl _) o).trans (h3.mono (by omega))
/-- The world in which the page's split begins its loop. -/
theorem sm_init (w : World) (H : Nat) (hH : H = w.heap.size) : ∀ X, X = ((((((((w.alloc (.cells #[] 9)).alloc (.cells #[.slice (some ⟨H, 0, none⟩) 0 0] 23)).alloc (.cells #[] 3)).alloc (.cells #[.slice (some ⟨H + 2, 0, none⟩) 0 0] 24)).alloc (.cells #[] 3)).alloc (.cells #[.slice (some ⟨H + 4, 0, none⟩) 0 0] 24)).alloc (.cells #[.string ⟨#[]⟩] 9)).alloc (.cells #[.string ⟨#[]⟩] 9)).alloc (.cells #[.bool false] 4) →
    SM X H [] [] [] [] [] false (.slice (some ⟨H, 0, none⟩) 0 0) (.slice (some ⟨H + 2, 0, none⟩) 0 0) (.slice (some ⟨H + 4, 0, none⟩) 0 0) ∧ Below H w X := by
  intro X hX
  obtain ⟨h1, h2, h3⟩ := alloc_list [.cells #[] 9, .cells #[.slice (some ⟨H, 0, none⟩) 0 0] 23, .cells #[] 3, .cells #[.slice (some ⟨H + 2, 0, none⟩) 0 0] 24, .cells #[] 3, .cells #[.slice (some ⟨H + 4, 0, none⟩) 0 0] 24, .cells #[.string ⟨#[]⟩] 9, .cells #[.string ⟨#[]⟩] 9, .cells #[.bool false] 4] w
  have hX2 : X = [Obj.cells #[] 9, .cells #[.slice (some ⟨H, 0, none⟩) 0 0] 23, .cells #[] 3, .cells #[.slice (some ⟨H + 2, 0, none⟩) 0 0] 24, .cells #[] 3, .cells #[.slice (some ⟨H + 4, 0, none⟩) 0 0] 24, .cells #[.string ⟨#[]⟩] 9, .cells #[.string ⟨#[]⟩] 9, .cells #[.bool false] 4].foldl (fun w o => w.alloc o) w := hX
  rw [← hX2, ← hH] at h1 h2 h3
  clear hX hX2
  have g0 := h2 0 _ rfl
  have g1 := h2 1 _ rfl
  have g2 := h2 2 _ rfl
  have g3 := h2 3 _ rfl
  have g4 := h2 4 _ rfl
  have g5 := h2 5 _ rfl
  have g6 := h2 6 _ rfl
  have g7 := h2 7 _ rfl
  have g8 := h2 8 _ rfl
  rw [Nat.add_zero] at g0
  refine ⟨⟨by rw [h1]; simp, ?_, ?_, ?_, ?_, ?_, ?_, ?_, ?_, ?_, ?_, ?_, ?_, ?_, ?_, ?_, ?_⟩, h3⟩
  · simp only [World.cell?, g1]; rfl
  · simp only [World.cell?, g3]; rfl
  · simp only [World.cell?, g5]; rfl
  · simp only [World.cell?, g6]; rfl
  · simp only [World.cell?, g7]; rfl
  · simp only [World.cell?, g8]; rfl
  · intro k hk
    rcases hk with rfl | rfl | rfl | rfl | rfl | rfl
    · simp only [World.frozen?, g1]; simp
    · simp only [World.frozen?, g3]; simp
    · simp only [World.frozen?, g5]; simp
    · simp only [World.frozen?, g6]; simp
    · simp only [World.frozen?, g7]; simp
    · simp only [World.frozen?, g8]; simp
  · exact ⟨rfl, .inr ⟨H, 0, #[], rfl, Nat.le_refl _, g0, Nat.le_refl _, by decide, rfl, rfl⟩⟩
  · exact ⟨rfl, .inr ⟨H + 2, 0, #[], rfl, by omega, g2, Nat.le_refl _, by decide, rfl, rfl⟩⟩
  · exact ⟨rfl, .inr ⟨H + 4, 0, #[], rfl, by omega, g4, Nat.le_refl _, by decide, rfl, rfl⟩⟩
  · intro b hb; simp [Value.ownBlock] at hb; omega
  · intro b hb; simp [Value.ownBlock] at hb; omega
  · intro b hb; simp [Value.ownBlock] at hb; omega
  · intro b hb; simp [Value.ownBlock] at hb ⊢; omega
  · intro b hb; simp [Value.ownBlock] at hb ⊢; omega
  · intro b hb; simp [Value.ownBlock] at hb ⊢; omega
set_option maxHeartbeats 8000000 in
theorem lsplit_any (l : B8) (hl : l.length ≤ 1000) (w : World) (hT : UT w) :
    Calls Tryd.prog 10 #[.string (strOf l)] w fun e w' => ∃ vw vs vp, e = .returned (.tuple #[vw, vs, vp]) ∧ TxtRows w' w.heap.size vw vs vp (chL l) ∧ Below w.heap.size w w' := by
  have HT := Lib.hid hT
  clear hT
  have hsz := size8 l
  obtain ⟨H, hH⟩ : ∃ H, H = w.heap.size := ⟨_, rfl⟩
  have HI := Lib.hid (sm_init w H hH)
  have HH := Lib.hid hH
  go_enter Tryd.func10, Tryd.ntmps10
  go_wp2_with fail
  rw [← hH]
  simp only [Nat.add_assoc, Nat.reduceAdd]
  clear hH
  obtain ⟨X, hX⟩ : ∃ X, X = ((((((((w.alloc (.cells #[] 9)).alloc (.cells #[.slice (some ⟨H, 0, none⟩) 0 0] 23)).alloc (.cells #[] 3)).alloc (.cells #[.slice (some ⟨H + 2, 0, none⟩) 0 0] 24)).alloc (.cells #[] 3)).alloc (.cells #[.slice (some ⟨H + 4, 0, none⟩) 0 0] 24)).alloc (.cells #[.string ⟨#[]⟩] 9)).alloc (.cells #[.string ⟨#[]⟩] 9)).alloc (.cells #[.bool false] 4) := ⟨_, rfl⟩
  rw [← hX]
  obtain ⟨hm0, hb0⟩ := HI.out X hX
  have M0 := Lib.hid hm0
  have B0 := Lib.hid hb0
  clear hX hm0 hb0 HI
  go_loopg [12] l.length (fun gg ix wr => ∃ (k : Nat) (E : List (B8 × List Nat)) (g : B8) (rs : List Nat) (v0 v1 v2 : Value), ix = .int .i64 k ∧ k ≤ l.length ∧ l.length - k ≤ gg ∧ Hid (PS l (l.drop k) E g rs) ∧ Hid (SM wr H (wordsOf E) (sentF 0 E) (parsF 0 E) g (wordR rs) (cutF rs) v0 v1 v2) ∧ Hid (Below H w wr))
  case atStart => exact ⟨0, [], [], [], _, _, _, rfl, Nat.zero_le _, by omega, PS.init l, M0, B0⟩
  case round =>
    obtain ⟨k, E, g, rs, v0, v1, v2, rfl, hk, hg, HP, HM, HB⟩ := hrel
    have hE := HP.out.len
    have hgl := HP.out.gl
    have HDN := Lib.hid (fun W v0 v1 v2 h => done_any H E g rs v0 v1 v2 W h (by omega) (by omega))
    by_cases hlt : k < l.length
    · have HN := Lib.hid (next_any (l.drop k) wr (ut_keep HT.out (by rw [← HH.out]; exact HB.out)))
      have hcut : (strOf l).extract k l.length = strOf (l.drop k) := by rw [← size8 l]; exact cut8 l k
      have hltI : (k : Int) < (l.length : Int) := by omega
      have hne := drop_ne l k hlt
      have hla : adv (l.drop k) ≤ l.length - k := by have := adv_le _ hne; rwa [List.length_drop] at this
      have hga := adv_ge (l.drop k)
      have HDD : Hid (∀ q, (l.drop k).drop q = l.drop (k + q)) := fun q => List.drop_drop
      have hb1 := (next_bd (l.drop k)).2
      by_cases hL : isL (l.drop k) = true
      · obtain ⟨s1, s2, s3⟩ := isL_sign _ hL
        have HPL := Lib.hid (HP.out.letter hL)
        rw [HDD.out] at HPL
        have hlb : letterB ((nextN (l.drop k)).1 : Int) = true := hL
        have hn2 : (nextN (l.drop k)).2 = adv (l.drop k) := by
          unfold adv
          have : (nextN (l.drop k)).2 ≠ 0 := fun e => by
            have := next0 _ e
            rw [this] at hlb
            rw [letter0] at hlb
            cases hlb
          omega
        have hxt : (strOf l).extract k (k + adv (l.drop k)) = strOf (encS (nextN (l.drop k)).1) := by
          rw [mid8, List.drop_take]
          rw [show k + adv (l.drop k) - k = adv (l.drop k) by omega]
          congr 1
          rw [s3]
          have h5 := congrArg (List.take (encS (nextN (l.drop k)).1).length) s2
          rwa [List.take_left] at h5
        have hws := word_step rs (nextN (l.drop k)).1
        rw [← s3] at hws
        obtain ⟨r, n, hrn⟩ : ∃ r n, nextN (l.drop k) = (r, n) := ⟨_, _, rfl⟩
        rw [hrn] at HN hlb hn2 hb1 HPL hxt hws
        simp only at hlb hn2 hb1 HPL hxt hws
        rw [← hn2] at hla hga HPL hxt hws
        have HN2 := HN
        clear hrn s1 s2 s3 hL HN hn2
        have hnI : (0 : Int) < (n : Int) := by omega
        have hnd : decide ((0 : Int) < (n : Int)) = true := decide_eq_true hnI
        have hwz := size8 (wordR rs)
        have hwl : (wordR rs).length ≤ 80 := by have := cutR_len rs 0 (by omega); unfold wordR; omega
        go_wp2_with fail
        (with_reducible refine HN2.out.mono ?_)
        rintro e w2 ⟨rfl, hbw⟩
        simp only
        have M2 := Lib.hid (HM.out.below hbw)
        have B2 := Lib.hid (HB.out.trans (hbw.mono (by have := HM.out.lt; omega)))
        clear hbw
        have d2 := M2.out.cd
        have c2 := M2.out.cc
        have f7 := M2.out.fr 7 (by omega)
        have f8 := M2.out.fr 8 (by omega)
        by_cases hA : cutF rs = true ∨ 80 < (wordR rs).length + n
        · obtain ⟨w1, w3⟩ := hws.1 hA
          have M3 : Hid (SM (w2.setCell ⟨H + 8, 0, none⟩ (.bool true)) H (wordsOf E) (sentF 0 E) (parsF 0 E) g (wordR (rs ++ [r])) (cutF (rs ++ [r])) v0 v1 v2) := by rw [w1, w3]; exact M2.out.setCut true
          have B3 := Lib.hid (set_low B2.out (H + 8) (by omega) (.bool true))
          have hA2 : (80 : Int) < ((wordR rs).length : Int) + (n : Int) ∨ (¬ (80 : Int) < ((wordR rs).length : Int) + (n : Int) ∧ cutF rs = true) := by
            by_cases h8 : 80 < (wordR rs).length + n
            · exact .inl (by omega)
            · refine .inr ⟨by omega, ?_⟩
              rcases hA with h | h
              · exact h
              · exact absurd h h8
          clear hA hws w1 w3
          rcases hA2 with h8 | ⟨h8, hcf⟩
          · have h8d : decide ((80 : Int) < ((wordR rs).length : Int) + (n : Int)) = true := decide_eq_true h8
            go_wp2_with (go_at_call 14; refine (letter_any (r : Int) (by omega) (by omega) _).mono ?_; rintro e w7 ⟨rfl, rfl⟩; rw [hlb])
            go_roundg (l.length - (k + n))
            case measure => omega
            case rel => exact ⟨k + n, E, g, rs ++ [r], _, _, _, by go_num, by omega, Nat.le_refl _, HPL, M3, B3⟩
          · have h8d : decide ((80 : Int) < ((wordR rs).length : Int) + (n : Int)) = false := decide_eq_false h8
            rw [hcf] at c2
            clear hcf
            go_wp2_with (go_at_call 14; refine (letter_any (r : Int) (by omega) (by omega) _).mono ?_; rintro e w7 ⟨rfl, rfl⟩; rw [hlb])
            go_roundg (l.length - (k + n))
            case measure => omega
            case rel => exact ⟨k + n, E, g, rs ++ [r], _, _, _, by go_num, by omega, Nat.le_refl _, HPL, M3, B3⟩
        · obtain ⟨w1, w3⟩ := hws.2 hA
          have hcf : cutF rs = false := by cases h : cutF rs; rfl; exact absurd (.inl h) hA
          have h8 : ¬ (80 : Int) < ((wordR rs).length : Int) + (n : Int) := by
            have : ¬ 80 < (wordR rs).length + n := fun h => hA (.inr h)
            omega
          have h8d : decide ((80 : Int) < ((wordR rs).length : Int) + (n : Int)) = false := decide_eq_false h8
          have M3 : Hid (SM (w2.setCell ⟨H + 7, 0, none⟩ (.string (strOf (wordR rs ++ encS r)))) H (wordsOf E) (sentF 0 E) (parsF 0 E) g (wordR (rs ++ [r])) (cutF (rs ++ [r])) v0 v1 v2) := by rw [w1, w3, ← hcf]; exact M2.out.setWord _
          have B3 := Lib.hid (set_low B2.out (H + 7) (by omega) (.string (strOf (wordR rs ++ encS r))))
          have hcat := str_cat (wordR rs) (encS r)
          have hr4 := (encS_len r).2
          have hov : ¬ 9223372036854775807 < (wordR rs).length + (strOf (encS r)).size := by rw [size8]; omega
          have hwr : IntKind.i64.wrap ((k : Int) + (n : Int)) = (k : Int) + (n : Int) := by rw [IntKind.wrap_i64]; omega
          rw [hcf] at c2
          clear hA hws w1 w3 hcf
          go_wp2_with (go_at_call 14; refine (letter_any (r : Int) (by omega) (by omega) _).mono ?_; rintro e w7 ⟨rfl, rfl⟩; rw [hlb])
          go_region
          have M4 := Lib.hid (M3.out.below ((Below.refl _ _).drew))
          have B4 := Lib.hid (B3.out.trans ((Below.refl H _).drew))
          clear M3 B3 hcat hwr
          generalize (w2.setCell ⟨H + 7, 0, none⟩ (.string (strOf (wordR rs ++ encS r)))).drew = w9 at *
          go_wp2_with fail
          go_roundg (l.length - (k + n))
          case measure => omega
          case rel => exact ⟨k + n, E, g, rs ++ [r], _, _, _, by go_num, by omega, Nat.le_refl _, HPL, M4, B4⟩
      · have hLf : isL (l.drop k) = false := by cases h : isL (l.drop k); rfl; exact absurd h hL
        have hlb : letterB ((nextN (l.drop k)).1 : Int) = false := hLf
        have HPN := Lib.hid (HP.out.non hne hLf)
        rw [HDD.out] at HPN
        have hxt : (strOf l).extract k (k + adv (l.drop k)) = strOf ((l.drop k).take (adv (l.drop k))) := by
          rw [mid8, List.drop_take, show k + adv (l.drop k) - k = adv (l.drop k) by omega]
        have hav : adv (l.drop k) = max 1 (nextN (l.drop k)).2 := rfl
        obtain ⟨g2, hg2⟩ : ∃ g2, g2 = (l.drop k).take (adv (l.drop k)) := ⟨_, rfl⟩
        rw [← hg2] at hxt HPN
        have hg2l : g2.length ≤ 1000 := by rw [hg2, List.length_take]; omega
        obtain ⟨r, n, hrn⟩ : ∃ r n, nextN (l.drop k) = (r, n) := ⟨_, _, rfl⟩
        rw [hrn] at HN hlb hav hb1
        simp only at hlb hav hb1
        have HN2 := HN
        clear hrn hL hLf HN hg2
        generalize adv (l.drop k) = a at *
        have hmx : max (1 : Int) (n : Int) = (a : Int) := by omega
        have hwr : IntKind.i64.wrap ((k : Int) + (a : Int)) = (k : Int) + (a : Int) := by rw [IntKind.wrap_i64]; omega
        obtain ⟨g1, hg1⟩ : ∃ g1, g1 = if rs = [] then g else [] := ⟨_, rfl⟩
        have hg1l : g1.length ≤ 1000 := by
          rw [hg1]
          by_cases hq : rs = []
          · rw [if_pos hq]; omega
          · rw [if_neg hq]; simp
        rw [← hg1] at HPN
        have hcat := str_cat g1 g2
        have hov : ¬ 9223372036854775807 < (strOf g1).size + (strOf g2).size := by rw [size8, size8]; omega
        have HG1 := Lib.hid hg1
        clear hg1
        by_cases hn0 : n = 0
        · subst hn0
          obtain rfl : a = 1 := by omega
          clear hmx hav hwr
          have hmx : max (1 : Int) 0 = 1 := by decide
          have hwr : IntKind.i64.wrap ((k : Int) + 1) = (k : Int) + 1 := by rw [IntKind.wrap_i64]; omega
          go_wp2_with fail
          (with_reducible refine HN2.out.mono ?_)
          rintro e w2 ⟨rfl, hbw⟩
          simp only
          have M2 := Lib.hid (HM.out.below hbw)
          have B2 := Lib.hid (HB.out.trans (hbw.mono (by have := HM.out.lt; omega)))
          clear hbw
          go_wp2_with (first
            | (go_at_call 22; (with_reducible refine (HDN.out w2 _ _ _ M2.out).mono ?_); rintro e w3 ⟨rfl, b3, y0, y1, y2, m3⟩; rw [← HG1.out] at m3; have M3 := Lib.hid m3; have B3 := Lib.hid (B2.out.trans b3); have cg3 := m3.cg; have f6 := m3.fr 6 (by omega); clear m3 b3))
          go_region
          have M4 := Lib.hid ((M3.out.setGap (g1 ++ g2)).below ((Below.refl _ _).drew))
          have B4 := Lib.hid ((set_low B3.out (H + 6) (by omega) (.string (strOf (g1 ++ g2)))).trans ((Below.refl H _).drew))
          clear M3 B3 hcat hwr cg3 f6
          generalize (w3.setCell ⟨H + 6, 0, none⟩ (.string (strOf (g1 ++ g2)))).drew = w9 at *
          go_wp2_with fail
          go_roundg (l.length - (k + 1))
          case measure => omega
          case rel => exact ⟨k + 1, emitE E g rs, g1 ++ g2, [], _, _, _, by go_num, by omega, Nat.le_refl _, HPN, M4, B4⟩
        · obtain rfl : a = n := by omega
          have hnI : (0 : Int) < (a : Int) := by omega
          have hnd : decide ((0 : Int) < (a : Int)) = true := decide_eq_true hnI
          clear hav
          go_wp2_with fail
          (with_reducible refine HN2.out.mono ?_)
          rintro e w2 ⟨rfl, hbw⟩
          simp only
          have M2 := Lib.hid (HM.out.below hbw)
          have B2 := Lib.hid (HB.out.trans (hbw.mono (by have := HM.out.lt; omega)))
          clear hbw
          go_wp2_with (first
            | (go_at_call 14; refine (letter_any (r : Int) (by omega) (by omega) _).mono ?_; rintro e w7 ⟨rfl, rfl⟩; rw [hlb])
            | (go_at_call 22; (with_reducible refine (HDN.out w2 _ _ _ M2.out).mono ?_); rintro e w3 ⟨rfl, b3, y0, y1, y2, m3⟩; rw [← HG1.out] at m3; have M3 := Lib.hid m3; have B3 := Lib.hid (B2.out.trans b3); have cg3 := m3.cg; have f6 := m3.fr 6 (by omega); clear m3 b3))
          go_region
          have M4 := Lib.hid ((M3.out.setGap (g1 ++ g2)).below ((Below.refl _ _).drew))
          have B4 := Lib.hid ((set_low B3.out (H + 6) (by omega) (.string (strOf (g1 ++ g2)))).trans ((Below.refl H _).drew))
          clear M3 B3 hcat hwr cg3 f6
          generalize (w3.setCell ⟨H + 6, 0, none⟩ (.string (strOf (g1 ++ g2)))).drew = w9 at *
          go_wp2_with fail
          go_roundg (l.length - (k + a))
          case measure => omega
          case rel => exact ⟨k + a, emitE E g rs, g1 ++ g2, [], _, _, _, by go_num, by omega, Nat.le_refl _, HPN, M4, B4⟩
    · obtain rfl : k = l.length := by omega
      have HF : Hid (chL l = emitE E g rs) := by
        have := HP.out
        rw [List.drop_length] at this
        exact this.fin
      go_wp2_with (go_at_call 22; (with_reducible refine (HDN.out wr _ _ _ HM.out).mono ?_); rintro e w3 ⟨rfl, b3, y0, y1, y2, m3⟩; rw [← HF.out] at m3; have M3 := Lib.hid m3; have B3 := Lib.hid (HB.out.trans b3); have cw3 := m3.cw; have cs3 := m3.cs; have cp3 := m3.cp; clear m3 b3)
      go_quiet (fail)
      go_wp2_with fail
      go_ret3
      have hlt := M3.out.lt
      refine ⟨_, _, _, rfl, ⟨?_, ?_, ?_⟩, ?_⟩
      · rw [← HH.out]; exact own_below M3.out.r0 (below_drewN (Below.refl _ _) _)
      · rw [← HH.out]; exact own_below M3.out.r1 (below_drewN (Below.refl _ _) _)
      · rw [← HH.out]; exact own_below M3.out.r2 (below_drewN (Below.refl _ _) _)
      · rw [← HH.out]; exact below_drewN B3.out _
set_option maxHeartbeats 8000000 in
theorem splits_walk (l : B8) (w : World) (_hl : l.length ≤ 9223372036854775807) (hT : UT w) :
    Calls Tryd.prog 3 #[.string (strOf l)] w fun e w' => e = .returned (.bool true) ∧ Below w.heap.size w w' := by
  have HH := Lib.hid (head_any w hT)
  have HT := Lib.hid hT
  clear hT
  have hsz := size8 l
  by_cases hbig : 600 < l.length
  · have hbI : (600 : Int) < (l.length : Int) := by omega
    go_enter Tryd.func3, Tryd.ntmps3
    go_wp2_with fail
    (with_reducible refine HH.out.mono ?_)
    rintro e w1 ⟨rfl, b1⟩
    go_wp2_with fail
    go_ret
    exact ⟨rfl, b1⟩
  have hbI : ¬ (600 : Int) < (l.length : Int) := by omega
  have HS1 := Lib.hid (fun W hW => split_any l (by omega) W hW)
  have HS2 := Lib.hid (fun W hW => lsplit_any l (by omega) W hW)
  go_enter Tryd.func3, Tryd.ntmps3
  go_wp2_with fail
  (with_reducible refine HH.out.mono ?_)
  rintro e w1 ⟨rfl, b1⟩
  have HT1 := Lib.hid (ut_keep HT.out b1)
  have B1 := Lib.hid b1
  clear b1
  go_wp2_with fail
  (with_reducible refine (HS1.out w1 HT1.out).mono ?_)
  rintro e w2 ⟨vw, vs, vp, rfl, ⟨r0, r1, r2⟩, b2⟩
  obtain ⟨Aw, cw, rfl, hcw, hmw, hkw⟩ := own_cs r0
  obtain ⟨As, cs, rfl, hcs, hms, hks⟩ := own_cs r1
  obtain ⟨Ap, cp, rfl, hcp, hmp, hkp⟩ := own_cs r2
  have B2 := Lib.hid (B1.out.trans (b2.mono B1.out.size))
  have KW := Lib.hid hkw
  have KS := Lib.hid hks
  have KP := Lib.hid hkp
  clear r0 r1 r2 b2 hkw hks hkp
  obtain ⟨ws, hws⟩ : ∃ ws, ws = wordsOf (chL l) := ⟨_, rfl⟩
  obtain ⟨ss, hss⟩ : ∃ ss, ss = sentF 0 (chL l) := ⟨_, rfl⟩
  obtain ⟨ps, hps⟩ : ∃ ps, ps = parsF 0 (chL l) := ⟨_, rfl⟩
  have HWSP : Hid (wordsOf (chL l) = ws ∧ sentF 0 (chL l) = ss ∧ parsF 0 (chL l) = ps) := ⟨hws.symm, hss.symm, hps.symm⟩
  rw [← hws] at hcw KW ⊢
  rw [← hss] at hcs KS ⊢
  rw [← hps] at hcp KP ⊢
  clear hws hss hps
  go_upto_region 6 with (fail)
  obtain ⟨W, hW⟩ : ∃ W, W = w2.alloc (.cells #[.slice Aw ws.length cw, .slice As ss.length cs, .slice Ap ps.length cp] 26) := ⟨_, rfl⟩
  rw [← hW]
  obtain ⟨d0, d1, d2, hbW, hWs⟩ := txt_var w2 _ _ _ _ W hW
  have BW := Lib.hid (B2.out.trans (hbW.mono B2.out.size))
  have KW2 := Lib.hid ((KW.out.below hbW).more hbW.size)
  have KS2 := Lib.hid ((KS.out.below hbW).more hbW.size)
  have KP2 := Lib.hid ((KP.out.below hbW).more hbW.size)
  have HU2 := Lib.hid (ut_keep HT.out BW.out)
  have hlt2 : w2.heap.size < W.heap.size := by omega
  clear hW hbW hWs KW KS KP
  go_wp2_with fail
  (with_reducible refine (HS2.out W HU2.out).mono ?_)
  rintro e w3 ⟨uw, us, up, rfl, ⟨r0, r1, r2⟩, b3⟩
  simp only
  rw [HWSP.out.1] at r0
  rw [HWSP.out.2.1] at r1
  rw [HWSP.out.2.2] at r2
  obtain ⟨Bw, ew, rfl, hew, hnw, hjw⟩ := own_cs r0
  obtain ⟨Bs, es, rfl, hes, hns, hjs⟩ := own_cs r1
  obtain ⟨Bp, ep, rfl, hep, hnp, hjp⟩ := own_cs r2
  have z0 : w3.cell? ⟨w2.heap.size, 0, none⟩ = some (.slice Aw ws.length cw) := (b3.cell (p := ⟨w2.heap.size, 0, none⟩) hlt2).trans d0
  have z1 : w3.cell? ⟨w2.heap.size, 1, none⟩ = some (.slice As ss.length cs) := (b3.cell (p := ⟨w2.heap.size, 1, none⟩) hlt2).trans d1
  have z2 : w3.cell? ⟨w2.heap.size, 2, none⟩ = some (.slice Ap ps.length cp) := (b3.cell (p := ⟨w2.heap.size, 2, none⟩) hlt2).trans d2
  have B3 := Lib.hid (BW.out.trans (b3.mono BW.out.size))
  have hlt3 : w2.heap.size < w3.heap.size := Nat.lt_of_lt_of_le hlt2 b3.size
  have HTX := Lib.hid (texts_same ws Aw Bw cw ew hcw hew hmw hnw w3 ((KW2.out.below b3).more b3.size) hjw)
  have HIS := Lib.hid (fun W4 (hb : Below w3.heap.size w3 W4) => ints_same ss As Bs cs es hcs hes hms hns W4 ((((KS2.out.below b3).more b3.size).below hb).more hb.size) ((hjs.below hb).more hb.size))
  have HIP := Lib.hid (fun W4 (hb : Below w3.heap.size w3 W4) => ints_same ps Ap Bp cp ep hcp hep hmp hnp W4 ((((KP2.out.below b3).more b3.size).below hb).more hb.size) ((hjp.below hb).more hb.size))
  clear r0 r1 r2 b3 d0 d1 d2 hjw hjs hjp
  go_wp2_with fail
  (with_reducible refine HTX.out.mono ?_)
  rintro e w4 ⟨rfl, b4⟩
  have y1 : w4.cell? ⟨w2.heap.size, 1, none⟩ = some (.slice As ss.length cs) := (b4.cell (p := ⟨w2.heap.size, 1, none⟩) hlt3).trans z1
  have HI4 := Lib.hid (HIS.out w4 b4)
  have B4 := Lib.hid b4
  clear b4
  go_wp2_with fail
  (with_reducible refine HI4.out.mono ?_)
  rintro e w5 ⟨rfl, b5⟩
  have b35 : Below w3.heap.size w3 w5 := B4.out.trans (b5.mono B4.out.size)
  have y2 : w5.cell? ⟨w2.heap.size, 2, none⟩ = some (.slice Ap ps.length cp) := (b35.cell (p := ⟨w2.heap.size, 2, none⟩) hlt3).trans z2
  have HP5 := Lib.hid (HIP.out w5 b35)
  have B5 := Lib.hid (B3.out.trans (b35.mono B3.out.size))
  clear b5 b35
  go_wp2_with fail
  (with_reducible refine HP5.out.mono ?_)
  rintro e w6 ⟨rfl, b6⟩
  have B6 := Lib.hid (B5.out.trans (b6.mono B5.out.size))
  clear b6
  go_wp2_with fail
  go_ret
  exact ⟨rfl, B6.out⟩
end Go.Proofs.YtpgfiecfndkheaaDoor
