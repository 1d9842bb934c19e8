/- DictPrefixes answers true. -/
import Derived.Test.YtbchmfkdhaggbaaDcHd
import Derived.Laws.Cover1
namespace Go.Proofs.Ytbchmfkdhaggbaa
open Go.RowKit Go.Sort
set_option maxRecDepth 100000

theorem cut_at (x : B8) (n : Nat) : (⟨x.toArray⟩ : ByteArray).extract 0 n = ⟨(x.take n).toArray⟩ := by
  apply ByteArray.ext
  simp [ByteArray.data_extract]
theorem size_at (x : B8) : (⟨x.toArray⟩ : ByteArray).size = x.length := by simp [ByteArray.size]
set_option maxHeartbeats 2000000 in
theorem dp_many (A : Option Addr) (n c : Nat) (xs : List B8) (p : ByteArray) (hn : Hid (n = xs.length ∧ fewB xs = false)) (hnm : n ≤ 9223372036854775807) (w : World) (hI : CS w w.heap.size A (xs.map encStr)) :
    Calls Try.prog 4 #[.slice A n c, .string p] w fun e w' => e = .returned (.bool true) ∧ Below w.heap.size w w' := by
  have HCS := Lib.hid hI
  clear hI
  go_enter Try.func4, Try.ntmps4
  go_wp2_with fail
  with_reducible refine (head_any _).mono ?_
  rintro e w1 ⟨rfl, b1⟩
  go_wp2_with fail
  with_reducible refine (few_is A n c xs false hn hnm _ ((HCS.out.below b1).more b1.size)).mono ?_
  rintro e w2 ⟨rfl, rfl⟩
  go_wp2_with fail
  go_ret
  exact ⟨rfl, b1⟩
set_option maxHeartbeats 16000000 in
theorem dp_few (A : Option Addr) (n c : Nat) (xs : List B8) (p : B8) (_hpm : p.length ≤ 9223372036854775807) (hn : Hid (n = xs.length ∧ fewB xs = true)) (w : World) (hI : CS w w.heap.size A (xs.map encStr)) :
    Calls Try.prog 4 #[.slice A n c, .string ⟨p.toArray⟩] w fun e w' => e = .returned (.bool true) ∧ Below w.heap.size w w' := by
  have HCS := Lib.hid hI
  obtain ⟨f1, f2⟩ := few_true hn.out.2
  have hn60 : n ≤ 60 := by rw [hn.out.1]; exact f1
  have hr := dct_rises xs
  have HXL : Hid (∀ x ∈ dct xs, x.length ≤ 40) := fun x h => f2 x ((dct_mem xs x).1 h)
  have hdl := dct_len xs
  obtain ⟨ws, hws⟩ : ∃ ws, dct xs = ws := ⟨_, rfl⟩
  have HM : Hid (n = xs.length ∧ xs.length ≤ 1000 ∧ (∀ x ∈ xs, x.length ≤ 1000) ∧ dct xs = ws) := ⟨hn.out.1, by omega, fun x h => by have := f2 x h; omega, hws⟩
  rw [hws] at hr hdl HXL
  have hpl := pcnt_le ws p
  have hbt := fun k hk => beg_at hr p k hk
  have hcp := (cnt_parts hr p).1
  obtain ⟨m, hm⟩ : ∃ m, cnt ws p = m := ⟨_, rfl⟩
  obtain ⟨t, ht⟩ : ∃ t, cnt ws p + pcnt ws p = t := ⟨_, rfl⟩
  have HP : Hid (ws.Pairwise (· < ·) ∧ cnt ws p = m ∧ cnt ws p + pcnt ws p = t) := ⟨hr, hm, ht⟩
  have hmt : m ≤ t := by omega
  have HBT : Hid (∀ k (hk : k < ws.length), beg ws[k] p = (decide (m ≤ k) && decide (k < t))) := fun k hk => by rw [hbt k hk, hm, show m + pcnt ws p = t by omega]
  have HCP : Hid (∀ k (hk : k < ws.length), k < m → ws[k] < p) := fun k hk h => hcp k hk (by omega)
  have htl : t ≤ ws.length := by omega
  have hw60 : ws.length ≤ 60 := by omega
  have HWL := Lib.hid (And.intro htl hw60)
  obtain ⟨sp, hsp⟩ : ∃ sp, sp = (⟨p.toArray⟩ : ByteArray) := ⟨_, rfl⟩
  have hspz : sp.size = p.length := by rw [hsp]; exact size_at p
  have HSP := Lib.hid hsp
  obtain ⟨pl, hpl2⟩ : ∃ pl, pl = p.length := ⟨_, rfl⟩
  rw [← hpl2] at hspz _hpm
  have HPL := Lib.hid hpl2
  have hspl : sp.toList = p := by rw [hsp, ByteArray.toList_eq]
  have HSL := Lib.hid hspl
  rw [← hsp]
  clear hI hr hdl hpl hbt hcp hm ht htl hw60 hws f1 f2 hsp hpl2 hspl
  go_enter Try.func4, Try.ntmps4
  go_wp2_with fail
  with_reducible refine (head_any _).mono ?_
  rintro e w1 ⟨rfl, b1⟩
  have HC1 := Lib.hid ((HCS.out.below b1).more b1.size)
  go_wp2_with fail
  with_reducible refine (few_is A n c xs true hn (by omega) _ HC1.out).mono ?_
  rintro e w2 ⟨rfl, rfl⟩
  go_wp2_with fail
  with_reducible refine (make_is _ _ _ _ _ HM _ HC1.out).mono ?_
  rintro e w3 ⟨A2, n2, c2, rfl, hD, b3⟩
  have hn2 : n2 = ws.length := hD.len
  have hnt : t ≤ n2 ∧ n2 ≤ 60 := by rw [hn2]; exact HWL.out
  have HN2 := Lib.hid hn2
  obtain ⟨Y, hY⟩ : ∃ Y, w3.alloc (.cells #[.slice A2 n2 c2] 26) = Y := ⟨_, rfl⟩
  have bY : Below w3.heap.size w3 Y := by rw [← hY]; exact (Below.refl _ _).alloc (Nat.le_refl _) _
  have HD := Lib.hid (hD.keep bY)
  have cY : Y.cell? ⟨w3.heap.size, 0, none⟩ = some (.slice A2 n2 c2) := by
    rw [← hY]
    have z := new_cells w3 #[.slice A2 n2 c2] 26 (0, 0) 0 _ rfl
    rwa [add_addr, Nat.zero_add] at z
  have HCY : Hid (∀ W, Below Y.heap.size Y W → W.cell? ⟨w3.heap.size, 0, none⟩ = some (.slice A2 n2 c2)) := fun W hb => (hb.cell (World.block_lt_of_cell? Y _ cY)).trans cY
  have HBY := Lib.hid (b1.trans ((b3.trans (bY.mono b3.size)).mono b1.size))
  have HPF : Hid (∀ W, DT W A2 n2 c2 ws → Calls Try.prog 16 #[.agg #[.slice A2 n2 c2], .string sp] W fun e w' => e = .returned (.tuple #[.int .i64 (m : Nat), .int .i64 (t : Nat)]) ∧ Below W.heap.size W w') := fun W hd => by rw [HSP.out]; exact prefix_is A2 n2 c2 ws p m t HP W hd
  clear hD b1 b3 bY hn2 HC1 HCS
  obtain ⟨ht2, hn2⟩ := hnt
  go_wp2_with fail
  with_reducible refine (HPF.out _ HD.out).mono ?_
  rintro e w4 ⟨rfl, b4⟩
  have c4 := HCY.out w4 b4
  have hmt' : decide (t < m) = false := decide_eq_false (by omega)
  have hm0 : decide ((m : Int) < 0) = false := decide_eq_false (by omega)
  go_wp2_with fail
  with_reducible refine (len_any _ _ _ _).mono ?_
  rintro e w5 ⟨rfl, b5⟩
  replace b5 := b4.trans (b5.mono b4.size)
  have htn : decide (n2 < t) = false := decide_eq_false (by omega)
  clear c4 b4 cY
  go_wp2_with fail
  go_loopw [8] (fun i wr => ∃ k : Nat, k ≤ n2 ∧ i = .int .i64 k ∧ Below Y.heap.size Y wr) (fun i _ => n2 - (intOf i).toNat)
  case atStart => exact ⟨0, Nat.zero_le _, rfl, b5⟩
  case round =>
    obtain ⟨k, hk, rfl, hb⟩ := hrel
    have cw := HCY.out wr hb
    clear b5
    by_cases hlt : k < n2
    · have hkw : k < ws.length := by rw [← HN2.out]; exact hlt
      obtain ⟨x, hx⟩ : ∃ x, x = ws[k] := ⟨_, rfl⟩
      have HX : Hid (ws[k]? = some x) := by show _ = _; rw [hx]; exact List.getElem?_eq_getElem hkw
      have hxl : x.length ≤ 40 := HXL.out x (by rw [hx]; exact List.getElem_mem hkw)
      have hbx := HBT.out k hkw
      have hcx := HCP.out k hkw
      rw [← hx] at hbx hcx
      have htk := Lib.hasPrefix_of_take x p
      rw [show Lib.hasPrefix x p = beg x p from rfl, hbx, ← HPL.out] at htk
      obtain ⟨sx, hsx⟩ : ∃ sx, sx = (⟨x.toArray⟩ : ByteArray) := ⟨_, rfl⟩
      obtain ⟨xl, hxl2⟩ : ∃ xl, xl = x.length := ⟨_, rfl⟩
      have hsz : sx.size = xl := by rw [hsx, hxl2]; exact size_at x
      rw [← hxl2] at htk hxl
      have HWD : Hid (∀ W, DT W A2 n2 c2 ws → Calls Try.prog 14 #[.agg #[.slice A2 n2 c2], .int .i64 k] W fun e w' => e = .returned (.string sx) ∧ Below W.heap.size W w') := fun W hd => by rw [hsx]; exact word_is A2 n2 c2 ws k x HX W hd
      obtain ⟨sy, hsy⟩ : ∃ sy, sy = sx.extract 0 pl := ⟨_, rfl⟩
      have hye : (sy.toList == sp.toList) = (x.take pl == p) := by rw [hsy, HSL.out, hsx, cut_at, ByteArray.toList_eq]
      have hless : Op.bytesLess sx.toList sp.toList = decide (x < p) := by rw [HSL.out, hsx, ByteArray.toList_eq]; exact bytesLess_eq x p
      have hcut : sx.extract 0 pl = sy := hsy.symm
      have HTK := Lib.hid htk
      clear hx hbx htk hsx hxl2 hsy
      go_wp2_with fail
      with_reducible refine (len_any _ _ _ _).mono ?_
      rintro e w6 ⟨rfl, b6⟩
      replace b6 := hb.trans (b6.mono hb.size)
      have c6 := HCY.out w6 b6
      clear cw
      have hltI : (k : Int) < (n2 : Int) := by omega
      go_wp2_with fail
      with_reducible refine (HWD.out _ (HD.out.keep b6)).mono ?_
      rintro e w7 ⟨rfl, b7⟩
      replace b7 := b6.trans (b7.mono b6.size)
      clear c6
      rcases Nat.lt_or_ge k m with hkm | hkm
      · have hxp := hcx hkm
        rw [decide_eq_true hxp] at hless
        have hkmI : (k : Int) < (m : Int) := by omega
        have hkn : ¬ (m : Int) ≤ (k : Int) := by omega
        have ht0 := HTK.out
        rw [decide_eq_false (show ¬ m ≤ k by omega), Bool.false_and] at ht0
        by_cases hpx : pl ≤ xl
        · rw [decide_eq_true hpx, Bool.true_and] at ht0
          rw [ht0] at hye
          have hpxI : (pl : Int) ≤ (xl : Int) := by omega
          clear ht0
          go_wp2_with fail
          exact ⟨⟨k + 1, by omega, by go_num, b7⟩, by simp [intOf]; omega⟩
        · have hpxI : ¬ (pl : Int) ≤ (xl : Int) := by omega
          clear ht0 hye
          go_wp2_with fail
          exact ⟨⟨k + 1, by omega, by go_num, b7⟩, by simp [intOf]; omega⟩
      · have hkmI : (m : Int) ≤ (k : Int) := by omega
        have hkm2 : ¬ (k : Int) < (m : Int) := by omega
        rcases Nat.lt_or_ge k t with hkt | hkt
        · have hktI : (k : Int) < (t : Int) := by omega
          have ht0 := HTK.out
          rw [decide_eq_true hkm, decide_eq_true hkt, Bool.and_self, Bool.and_eq_true] at ht0
          have hpx : pl ≤ xl := of_decide_eq_true ht0.1
          have hpxI : (pl : Int) ≤ (xl : Int) := by omega
          rw [ht0.2] at hye
          clear ht0 hless
          go_wp2_with fail
          exact ⟨⟨k + 1, by omega, by go_num, b7⟩, by simp [intOf]; omega⟩
        · have hktI : ¬ (k : Int) < (t : Int) := by omega
          have ht0 := HTK.out
          rw [decide_eq_true hkm, decide_eq_false (show ¬ k < t by omega), Bool.and_false] at ht0
          clear hless
          by_cases hpx : pl ≤ xl
          · rw [decide_eq_true hpx, Bool.true_and] at ht0
            rw [ht0] at hye
            have hpxI : (pl : Int) ≤ (xl : Int) := by omega
            clear ht0
            go_wp2_with fail
            exact ⟨⟨k + 1, by omega, by go_num, b7⟩, by simp [intOf]; omega⟩
          · have hpxI : ¬ (pl : Int) ≤ (xl : Int) := by omega
            clear ht0 hye
            go_wp2_with fail
            exact ⟨⟨k + 1, by omega, by go_num, b7⟩, by simp [intOf]; omega⟩
    · have hltI : ¬ (k : Int) < (n2 : Int) := by omega
      go_wp2_with fail
      with_reducible refine (len_any _ _ _ _).mono ?_
      rintro e w6 ⟨rfl, b6⟩
      replace b6 := hb.trans (b6.mono hb.size)
      clear cw
      go_wp2_with fail
      go_ret
      exact ⟨rfl, HBY.out.trans (b6.mono HBY.out.size)⟩
end Go.Proofs.Ytbchmfkdhaggbaa
