/- TokenWords answers true. -/
import Derived.Test.YtpgfiecfndkheaaDoorTkCmp
import Derived.Test.YtpgfiecfndkheaaDoorTkWd
namespace Go.Proofs.YtpgfiecfndkheaaDoor
open Go.RowKit
set_option maxRecDepth 100000

theorem str_cat (l m : B8) : strOf l ++ strOf m = strOf (l ++ m) := by
  apply ByteArray.ext
  apply Array.toList_inj.1
  simp [strOf]
theorem jn_snoc (a : List (List Nat)) (cs : List Nat) : jn (a ++ [cs]) = (jn a ++ encW cs) ++ [32] := by
  unfold jn
  rw [List.flatMap_append]
  show _ ++ ((encW cs ++ [32]) ++ []) = _
  rw [List.append_nil, List.append_assoc]
theorem own_cs {w : World} {base : Nat} {t : TypeId} {size : Nat} {v : Value} {n : Nat} {xs : List Value} (h : w.ownsRow base t size v n xs) : ∃ A c, v = .slice A n c ∧ n ≤ c ∧ c ≤ 9223372036854775807 ∧ CS w w.heap.size A xs := by
  obtain ⟨A, c, h1, h2, h3, h4, _⟩ := own_form h
  unfold maxLen at h3
  exact ⟨A, c, h1, h2, h3, h4⟩
set_option maxHeartbeats 4000000 in
theorem words_walk (l : B8) (w : World) (_hl : l.length ≤ 9223372036854775807) (hT : UT w) :
    Calls Tryd.prog 4 #[.string (strOf l)] w fun e w' => e = .returned (.bool true) ∧ Below w.heap.size w w' := by
  have HH := Lib.hid (head_any w hT)
  have HT := Lib.hid hT
  clear hT
  have hsz := size8 l
  by_cases hbig : 600 < l.length
  · have hbI : (600 : Int) < (l.length : Int) := by omega
    go_enter Tryd.func4, Tryd.ntmps4
    go_wp2_with fail
    (with_reducible refine HH.out.mono ?_)
    rintro e w1 ⟨rfl, b1⟩
    go_wp2_with fail
    go_ret
    exact ⟨rfl, b1⟩
  have hbI : ¬ (600 : Int) < (l.length : Int) := by omega
  obtain ⟨css, hcss⟩ : ∃ css, css = cutsOf l := ⟨_, rfl⟩
  have HOK : Hid (∀ cs ∈ css, Lts cs ∧ cs ≠ [] ∧ cutR cs 0 = cs ∧ (encW cs).length ≤ 80) := by rw [hcss]; exact cutsOf_ok l
  have HJ := Lib.hid (jn_split l)
  rw [← hcss] at HJ
  have HWS : Hid (wordsOf (chL l) = css.map encW) := by rw [hcss]; exact cutsOf_words l
  obtain ⟨n, hn⟩ : ∃ n, n = css.length := ⟨_, rfl⟩
  have hn6 : n ≤ 600 := by rw [hn, hcss]; unfold cutsOf; rw [List.length_map]; have := ch_len l; omega
  have HN := Lib.hid hn
  have HS1 := Lib.hid (fun W hW => split_any l (by omega) W hW)
  clear hcss hn
  go_enter Tryd.func4, Tryd.ntmps4
  go_wp2_with fail
  (with_reducible refine HH.out.mono ?_)
  rintro e w1 ⟨rfl, b1⟩
  have HT1 := Lib.hid (ut_keep HT.out b1)
  have B1 := Lib.hid b1
  clear b1
  go_wp2_with fail
  (with_reducible refine (HS1.out w1 HT1.out).mono ?_)
  rintro e w2 ⟨vw, vs, vp, rfl, ⟨r0, r1, r2⟩, b2⟩
  obtain ⟨Aw, cw, rfl, hcw, hmw, hcsw⟩ := own_cs r0
  obtain ⟨As, cs', rfl, hcs', hms, _⟩ := own_cs r1
  obtain ⟨Ap, cp, rfl, hcp, hmp, _⟩ := own_cs r2
  rw [HWS.out, List.length_map, ← HN.out] at hcw ⊢
  rw [HWS.out] at hcsw
  have B2 := Lib.hid (B1.out.trans (b2.mono B1.out.size))
  have HCW := Lib.hid hcsw
  clear r0 r1 r2 b2 hcsw hcs' hcp
  generalize (sentF 0 (chL l)).length = ns at *
  generalize (parsF 0 (chL l)).length = np at *
  go_upto_region 6 with (fail)
  obtain ⟨W, hW⟩ : ∃ W, W = w2.alloc (.cells #[.slice Aw n cw, .slice As ns cs', .slice Ap np cp] 26) := ⟨_, rfl⟩
  rw [← hW]
  obtain ⟨d0, d1, d2, hbW, hWs⟩ := txt_var w2 _ _ _ _ W hW
  have BW := Lib.hid (B2.out.trans (hbW.mono B2.out.size))
  have HCW2 := Lib.hid (HCW.out.below hbW)
  have HD0 := Lib.hid d0
  have HWS2 := Lib.hid hWs
  have h2lt : w2.heap.size < W.heap.size := by omega
  clear hW hbW d1 d2 HCW hWs
  go_wp2_with fail
  clear d0
  go_loopg [4, 21] n (fun gg jo ix wr => ∃ k : Nat, jo = .string (strOf (jn (css.take k))) ∧ ix = .int .i64 k ∧ k ≤ n ∧ n - k ≤ gg ∧ Hid (Below W.heap.size W wr))
  case atStart => exact ⟨0, rfl, rfl, Nat.zero_le _, by omega, Below.refl _ _⟩
  case round =>
    obtain ⟨k, rfl, rfl, hk, hg, HB⟩ := hrel
    by_cases hlt : k < n
    · have hltI : (k : Int) < (n : Int) := by omega
      have hkl : k < css.length := by rw [← HN.out]; exact hlt
      obtain ⟨cs, hcs⟩ : ∃ cs, cs = css[k] := ⟨_, rfl⟩
      obtain ⟨o1, o2, o3, o4⟩ := HOK.out cs (by rw [hcs]; exact List.getElem_mem hkl)
      have HTK : Hid (css.take (k + 1) = css.take k ++ [cs]) := by show _ = _; rw [List.take_succ_eq_append_getElem hkl, hcs]
      obtain ⟨b, o, hA, hbB, hcell⟩ := HCW2.out (by rw [tCells_len, List.length_map]; omega)
      have hcx : (tCells (css.map encW))[k]? = some (.string (strOf (encW cs))) := by
        unfold tCells
        rw [List.getElem?_map, List.getElem?_map, List.getElem?_eq_getElem hkl, hcs]; rfl
      have l1 : wr.cell? ⟨b, o + k, none⟩ = some (.string (strOf (encW cs))) := (HB.out.cell (p := ⟨b, o + k, none⟩) (Nat.lt_trans hbB h2lt)).trans (hcell k _ hcx)
      subst hA
      have hz1 := encW_pos cs o2
      have hzs := size8 (encW cs)
      have HLT := Lib.hid o1
      have hjl : (jn (css.take k)).length ≤ 81 * k := by
        have := jn_len (css.take k) (fun x hx => (HOK.out x (List.mem_of_mem_take hx)).2.2.2)
        rw [List.length_take] at this
        omega
      have hzj := size8 (jn (css.take k))
      have e1 := str_cat (jn (css.take k)) (encW cs)
      have e2 : strOf (jn (css.take k) ++ encW cs) ++ (⟨#[32]⟩ : ByteArray) = strOf (jn (css.take (k + 1))) := by rw [HTK.out, jn_snoc]; exact str_cat _ [32]
      have q1 : ¬ 9223372036854775807 < (strOf (jn (css.take k))).size + (strOf (encW cs)).size := by rw [hzj, hzs]; omega
      have q2 : ¬ 9223372036854775807 < (strOf (jn (css.take k) ++ encW cs)).size + (⟨#[32]⟩ : ByteArray).size := by rw [size8, List.length_append]; show ¬ _ < _ + 1; omega
      have hzz : (encW cs).length ≤ 80 := o4
      have HE1 := Lib.hid e1
      have HE2 := Lib.hid e2
      have HQ1 := Lib.hid q1
      have HQ2 := Lib.hid q2
      have HCN : Hid (cs.drop 0 = cs) := rfl
      clear hcell hcx hcs o1 o2 o3 e1 e2 q1 q2 HTK hzj
      obtain ⟨z, hz⟩ : ∃ z, z = (encW cs).length := ⟨_, rfl⟩
      rw [← hz] at hzs hz1 hzz o4
      have hzn : ((z : Int) == 0) = false := by simp; omega
      have hzd : decide ((80 : Int) < (z : Int)) = false := decide_eq_false (by omega)
      have HZ := Lib.hid hz
      clear hz
      go_wp2_with fail
      go_loopg [7] cs.length (fun g2 x w5 => ∃ j : Nat, x = .string (strOf (encW (cs.drop j))) ∧ j ≤ cs.length ∧ cs.length - j ≤ g2 ∧ Hid (Below W.heap.size W w5))
      case atStart => exact ⟨0, rfl, Nat.zero_le _, by omega, HB⟩
      case round =>
        obtain ⟨j, rfl, hj, hg2, HB5⟩ := hrel
        by_cases hjl2 : j < cs.length
        · have hdr : cs.drop j = cs[j] :: cs.drop (j + 1) := List.drop_eq_getElem_cons hjl2
          have hsr := HLT.out cs[j] (List.getElem_mem hjl2)
          generalize cs[j] = r at *
          have HNX := Lib.hid (next_any (encW (cs.drop j)) wr (ut_keep HT.out (BW.out.trans (HB5.out.mono BW.out.size))))
          rw [hdr, encW_cons, nextN_enc r hsr.1, ← encW_cons, ← hdr] at HNX
          have hcut : (strOf (encW (cs.drop j))).extract (encS r).length (strOf (encW (cs.drop j))).size = strOf (encW (cs.drop (j + 1))) := by rw [cut8, hdr, encW_cons, List.drop_left]
          have hr1 := (encS_len r).1
          have hr4 := (encS_len r).2
          have hrb := hsr.1.1
          have hlet := hsr.2
          have hxs : (encS r).length ≤ (strOf (encW (cs.drop j))).size := by rw [size8, hdr, encW_cons, List.length_append]; omega
          have hxb : (strOf (encW (cs.drop j))).size ≤ 100000 := by
            rw [size8]
            have h1 : encW cs = encW (cs.take j) ++ encW (cs.drop j) := by rw [← encW_app, List.take_append_drop]
            have h2 := congrArg List.length h1
            rw [List.length_append] at h2
            have := HZ.out
            omega
          clear hdr hsr
          generalize (encS r).length = q at *
          generalize hys : (strOf (encW (cs.drop j))).size = y at *
          have hyI : (0 : Int) < (y : Int) := by omega
          have hqn : ((q : Int) == 0) = false := by simp; omega
          go_wp2_with fail
          (with_reducible refine HNX.out.mono ?_)
          rintro e w6 ⟨rfl, b6⟩
          simp only
          have B6 := Lib.hid (HB5.out.trans (b6.mono HB5.out.size))
          clear b6
          go_wp2_with (go_at_call 14; refine (letter_any (r : Int) (by omega) (by omega) _).mono ?_; rintro e w7 ⟨rfl, rfl⟩; rw [hlet])
          go_roundg (cs.length - (j + 1))
          case measure => omega
          case rel => exact ⟨j + 1, rfl, by omega, Nat.le_refl _, B6⟩
        · have hdn : cs.drop j = [] := List.drop_eq_nil_of_le (by omega)
          rw [hdn]
          have hs0 : (strOf (encW [])).size = 0 := rfl
          have e1 := HE1.out
          have e2 := HE2.out
          have q1 := HQ1.out
          have q2 := HQ2.out
          clear hdn
          go_wp2_with fail
          go_roundg (n - (k + 1))
          case measure => omega
          case rel => exact ⟨k + 1, rfl, by go_num, by omega, Nat.le_refl _, HB5⟩
    · obtain rfl : k = n := by omega
      have hfull : css.take k = css := List.take_of_length_le (by rw [← HN.out]; omega)
      rw [hfull]
      have hjl : (jn css).length ≤ 81 * k := by
        have := jn_len css (fun x hx => (HOK.out x hx).2.2.2)
        rw [← HN.out] at this
        omega
      have HSP := Lib.hid (split_any (jn css) (by omega) wr (ut_keep HT.out (BW.out.trans (HB.out.mono BW.out.size))))
      have dz : wr.cell? ⟨w2.heap.size, 0, none⟩ = some (.slice Aw k cw) := (HB.out.cell (p := ⟨w2.heap.size, 0, none⟩) h2lt).trans HD0.out
      have hszr := HB.out.size
      clear hfull
      go_wp2_with fail
      (with_reducible refine HSP.out.mono ?_)
      rintro e w6 ⟨uw, us, up, rfl, ⟨r0, r1, r2⟩, b6⟩
      rw [HJ.out.1, HWS.out] at r0
      rw [HJ.out.2.1] at r1
      rw [HJ.out.2.2] at r2
      obtain ⟨Bw, dw, rfl, hdw, hmdw, hcsu⟩ := own_cs r0
      obtain ⟨Bs, ds, rfl, hds, hmds, _⟩ := own_cs r1
      obtain ⟨Bp, dp, rfl, hdp, hmdp, _⟩ := own_cs r2
      rw [List.length_map, ← HN.out] at hdw ⊢
      have d6 : w6.cell? ⟨w2.heap.size, 0, none⟩ = some (.slice Aw k cw) := (b6.cell (p := ⟨w2.heap.size, 0, none⟩) (Nat.lt_of_lt_of_le h2lt hszr)).trans dz
      have B6 := Lib.hid (BW.out.trans ((HB.out.trans (b6.mono HB.out.size)).mono BW.out.size))
      have hsz6 : W.heap.size ≤ w6.heap.size := Nat.le_trans hszr b6.size
      have HCU := Lib.hid hcsu
      have HCT : Hid (CS w6 w6.heap.size Aw (tCells (css.map encW))) := ((((HCW2.out.more (Nat.le_of_lt h2lt)).below HB.out).more hszr).below b6).more b6.size
      have hlm : (([] : List Nat)).length = 0 := rfl
      rw [hlm] at hds hdp ⊢
      clear r0 r1 r2 b6 hcsu dz hlm HSP
      go_upto_region 21 with (fail)
      obtain ⟨V, hV⟩ : ∃ V, V = w6.alloc (.cells #[.slice Bw k dw, .slice Bs 0 ds, .slice Bp 0 dp] 26) := ⟨_, rfl⟩
      rw [← hV]
      obtain ⟨f0, f1, f2, hbV, hVs⟩ := txt_var w6 _ _ _ _ V hV
      have f3 : V.cell? ⟨w2.heap.size, 0, none⟩ = some (.slice Aw k cw) := (hbV.cell (p := ⟨w2.heap.size, 0, none⟩) (Nat.lt_of_lt_of_le h2lt hsz6)).trans d6
      have HTX := Lib.hid (texts_same (css.map encW) Bw Aw dw cw (by rw [List.length_map, ← HN.out]; exact hdw) (by rw [List.length_map, ← HN.out]; exact hcw) hmdw hmw V ((HCU.out.below hbV).more hbV.size) ((HCT.out.below hbV).more hbV.size))
      rw [List.length_map, ← HN.out] at HTX
      have BV := Lib.hid (B6.out.trans (hbV.mono B6.out.size))
      have hVlt : w6.heap.size < V.heap.size := by omega
      clear hV hbV hVs
      go_wp2_with fail
      (with_reducible refine HTX.out.mono ?_)
      rintro e w8 ⟨rfl, b8⟩
      have g1 : w8.cell? ⟨w6.heap.size, 1, none⟩ = some (.slice Bs 0 ds) := (b8.cell (p := ⟨w6.heap.size, 1, none⟩) hVlt).trans f1
      have g2 : w8.cell? ⟨w6.heap.size, 2, none⟩ = some (.slice Bp 0 dp) := (b8.cell (p := ⟨w6.heap.size, 2, none⟩) hVlt).trans f2
      have B8 := Lib.hid (BV.out.trans (b8.mono BV.out.size))
      clear b8
      go_wp2_with fail
      go_ret
      exact ⟨rfl, B8.out⟩
end Go.Proofs.YtpgfiecfndkheaaDoor
