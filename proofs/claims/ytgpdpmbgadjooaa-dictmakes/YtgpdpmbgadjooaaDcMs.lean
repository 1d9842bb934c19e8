/- DictMakes answers true. -/
import Derived.Test.YtgpdpmbgadjooaaDcSo
import Derived.Test.YtgpdpmbgadjooaaQuB
import Derived.WalkSmall
namespace Go.Proofs.Ytgpdpmbgadjooaa
open Go.RowKit Go.Sort
set_option maxRecDepth 100000

theorem cell_new2 (w : World) (v : Value) (t : TypeId) : (w.alloc (.cells #[v] t)).cell? ⟨w.heap.size, 0, none⟩ = some v := by
  have z := new_cells w #[v] t (0, 0) 0 v rfl
  rwa [add_addr, Nat.zero_add] at z
theorem cnt_self {D : List B8} (hr : D.Pairwise (· < ·)) (k : Nat) (hk : k < D.length) : cnt D D[k] = k :=
  cnt_eq D D[k] k (by omega) (fun j h hj => rises_at hr j k hj hk) fun j h hj => by
    rcases Nat.lt_or_ge k j with g | g
    · exact fun e => lt_irr _ (lt_tr (rises_at hr k j g h) e)
    · obtain rfl : j = k := by omega
      exact lt_irr _
theorem cnt_take (D : List B8) (q : B8) (k : Nat) (hk : k < D.length) : cnt (D.take (k + 1)) q = cnt (D.take k) q + (if D[k] < q then 1 else 0) := by
  unfold cnt
  rw [List.take_succ_eq_append_getElem hk, List.countP_append, List.countP_singleton]
  by_cases h : D[k] < q
  · simp [h]
  · simp [h]
theorem mem_take (D : List B8) (q : B8) (k : Nat) (hk : k < D.length) : decide (q ∈ D.take (k + 1)) = (decide (q ∈ D.take k) || decide (D[k] = q)) := by
  rw [List.take_succ_eq_append_getElem hk, ← Bool.decide_or]
  refine decide_eq_decide.2 ?_
  rw [List.mem_append, List.mem_singleton]
  exact or_congr_right eq_comm
set_option maxHeartbeats 2000000 in
theorem dm_many (A : Option Addr) (n c : Nat) (xs : List B8) (q : ByteArray) (i : Int) (hn : Hid (n = xs.length ∧ fewB xs = false)) (hnm : n ≤ 9223372036854775807) (w : World) (hI : CS w w.heap.size A (xs.map encStr)) :
    Calls Try.prog 10 #[.slice A n c, .string q, .int .i64 i] w fun e w' => e = .returned (.bool true) ∧ Below w.heap.size w w' := by
  have HCS := Lib.hid hI
  clear hI
  go_enter Try.func10, Try.ntmps10
  go_wp2_with fail
  with_reducible refine (head_any _).mono ?_
  rintro e w1 ⟨rfl, b1⟩
  go_wp2_with fail
  with_reducible refine (few_is A n c xs false hn hnm _ ((HCS.out.below b1).more b1.size)).mono ?_
  rintro e w2 ⟨rfl, rfl⟩
  go_wp2_with fail
  go_ret
  exact ⟨rfl, b1⟩
set_option maxHeartbeats 1500000 in
theorem dm_few (A : Option Addr) (n c : Nat) (xs : List B8) (q : B8) (i : Int) (hn : Hid (n = xs.length ∧ fewB xs = true)) (w : World) (hI : CS w w.heap.size A (xs.map encStr)) :
    Calls Try.prog 10 #[.slice A n c, .string ⟨q.toArray⟩, .int .i64 i] w fun e w' => e = .returned (.bool true) ∧ Below w.heap.size w w' := by
  have HCS := Lib.hid hI
  obtain ⟨f1, f2⟩ := few_true hn.out.2
  have hn60 : n ≤ 60 := by rw [hn.out.1]; exact f1
  have hr := dct_rises xs
  have hdl := dct_len xs
  obtain ⟨D, hD⟩ : ∃ D, dct xs = D := ⟨_, rfl⟩
  have HM : Hid (n = xs.length ∧ xs.length ≤ 1000 ∧ (∀ x ∈ xs, x.length ≤ 1000) ∧ dct xs = D) := ⟨hn.out.1, by omega, fun x h => by have := f2 x h; omega, hD⟩
  have HSO : Hid (n = xs.length ∧ dct xs = D) := ⟨hn.out.1, hD⟩
  rw [hD] at hr hdl
  have HD60 : Hid (D.length ≤ 60) := by show _ ≤ _; omega
  have HR := Lib.hid hr
  obtain ⟨mq, hmq⟩ : ∃ m, cnt D q = m := ⟨_, rfl⟩
  obtain ⟨qq, hqq⟩ : ∃ b, decide (q ∈ D) = b := ⟨_, rfl⟩
  have FQ : Hid (D.Pairwise (· < ·) ∧ cnt D q = mq ∧ decide (q ∈ D) = qq) := ⟨hr, hmq, hqq⟩
  obtain ⟨sq, hsq⟩ : ∃ sq, sq = (⟨q.toArray⟩ : ByteArray) := ⟨_, rfl⟩
  have HSQ := Lib.hid hsq
  rw [← hsq]
  clear hI hr hdl f1 f2 hD hmq hqq hsq
  go_enter Try.func10, Try.ntmps10
  go_wp2_with fail
  with_reducible refine (head_any _).mono ?_
  rintro e w1 ⟨rfl, b1⟩
  have C1 := Lib.hid ((HCS.out.below b1).more b1.size)
  go_wp2_with fail
  with_reducible refine (few_is A n c xs true hn (by omega) _ C1.out).mono ?_
  rintro e w2 ⟨rfl, rfl⟩
  go_wp2_with fail
  with_reducible refine (make_is _ _ _ _ _ HM _ C1.out).mono ?_
  rintro e w2 ⟨A2, n2, c2, rfl, hD2, b2⟩
  obtain ⟨W2, hW2⟩ : ∃ W2, w2.alloc (.cells #[.slice A2 n2 c2] 55) = W2 := ⟨_, rfl⟩
  have bW2 : Below w2.heap.size w2 W2 := by rw [← hW2]; exact (Below.refl _ _).alloc (Nat.le_refl _) _
  have x2 : W2.cell? ⟨w2.heap.size, 0, none⟩ = some (.slice A2 n2 c2) := by rw [← hW2]; exact cell_new2 _ _ _
  have b12 := b2.trans (bW2.mono b2.size)
  have C2 := Lib.hid ((C1.out.below b12).more b12.size)
  have D2 := Lib.hid (hD2.keep bW2)
  have B2 := Lib.hid (b1.trans (b12.mono b1.size))
  have X2 := Lib.hid x2
  clear hD2 b2 bW2 b12 b1 x2 C1
  go_wp2_with fail
  with_reducible refine (lsorted_any A n c xs D HSO hn60 _ C2.out).mono ?_
  rintro e w3 ⟨A3, m3, c3, rfl, hD3, b3⟩
  have ED := Lib.hid (D2.out.keep b3)
  have ES := Lib.hid hD3
  have B3 := Lib.hid (B2.out.trans (b3.mono B2.out.size))
  have x3 := (b3.cell (World.block_lt_of_cell? W2 _ X2.out)).trans X2.out
  have HK : Hid (∀ W, Below w3.heap.size w3 W → W.cell? ⟨w2.heap.size, 0, none⟩ = some (.slice A2 n2 c2)) := fun W hb => (hb.cell (World.block_lt_of_cell? w3 _ x3)).trans x3
  have hnm : n2 = m3 := by rw [D2.out.len, hD3.len]
  subst hnm
  have HNL : Hid (n2 = D.length) := hD3.len
  have hn2 : n2 ≤ 60 := by rw [HNL.out]; exact HD60.out
  clear hD3 b3 D2 B2 X2 C2
  go_wp2_with fail
  with_reducible refine (len_any _ _ _ _).mono ?_
  rintro e w4 ⟨rfl, b4⟩
  clear x3
  go_wp2_with fail
  go_loopw [9, 10, 33] (fun s9 s10 s33 wr => ∃ k : Nat, k ≤ n2 ∧ s33 = .int .i64 k ∧ s9 = .int .i64 (cnt (D.take k) q : Nat) ∧ s10 = .bool (decide (q ∈ D.take k)) ∧ Below w3.heap.size w3 wr) (fun _ _ i _ => n2 - (intOf i).toNat)
  case atStart => exact ⟨0, Nat.zero_le _, rfl, rfl, rfl, b4⟩
  case round =>
    obtain ⟨k, hk, rfl, rfl, rfl, hb⟩ := hrel
    clear b4
    have y1 := HK.out wr hb
    by_cases hlt : k < n2
    · have hkd : k < D.length := by rw [← HNL.out]; exact hlt
      obtain ⟨bb, o, rfl, hbb, hcx⟩ := (ES.out.keep hb).at k hkd
      have hct := cnt_take D q k hkd
      have hmt := mem_take D q k hkd
      have hcs := cnt_self HR.out k hkd
      obtain ⟨x, hx⟩ : ∃ x, x = D[k] := ⟨_, rfl⟩
      have HX : Hid (D[k]? = some x) := by show _ = _; rw [hx]; exact List.getElem?_eq_getElem hkd
      have hxm : x ∈ D := by rw [hx]; exact List.getElem_mem hkd
      rw [← hx] at hct hmt hcs hcx
      have FX : Hid (D.Pairwise (· < ·) ∧ cnt D x = k ∧ decide (x ∈ D) = true) := ⟨HR.out, hcs, decide_eq_true hxm⟩
      have hck : cnt (D.take k) q ≤ k := by have := cnt_le (D.take k) q; rw [List.length_take] at this; omega
      obtain ⟨ck, hck2⟩ : ∃ ck, ck = cnt (D.take k) q := ⟨_, rfl⟩
      obtain ⟨mk, hmk⟩ : ∃ mk, mk = decide (q ∈ D.take k) := ⟨_, rfl⟩
      rw [← hck2] at hct hck ⊢
      rw [← hmk] at hmt ⊢
      have HCT := Lib.hid hct
      have HMT := Lib.hid hmt
      obtain ⟨sx, hsx⟩ : ∃ sx, sx = (⟨x.toArray⟩ : ByteArray) := ⟨_, rfl⟩
      have KW : Hid (∀ W, Below w3.heap.size w3 W → Calls Try.prog 31 #[.agg #[.slice A2 n2 c2], .int .i64 k] W fun e w' => e = .returned (.string sx) ∧ Below w3.heap.size w3 w') := fun W hb => by rw [hsx]; exact (word_is A2 n2 c2 D k x HX W (ED.out.keep hb)).mono fun e w' h => ⟨h.1, hb.trans (h.2.mono hb.size)⟩
      have KF : Hid (∀ W, Below w3.heap.size w3 W → Calls Try.prog 32 #[.agg #[.slice A2 n2 c2], .string sx] W fun e w' => e = .returned (.tuple #[.int .i64 (k : Nat), .bool true]) ∧ Below w3.heap.size w3 w') := fun W hb => by rw [hsx]; exact (find_is A2 n2 c2 D x k true FX W (ED.out.keep hb)).mono fun e w' h => ⟨h.1, hb.trans (h.2.mono hb.size)⟩
      have hless : Op.bytesLess sx.toList sq.toList = decide (x < q) := by rw [hsx, HSQ.out, ByteArray.toList_eq, ByteArray.toList_eq]; exact bytesLess_eq x q
      have heq : (sx.toList == sq.toList) = decide (x = q) := by rw [hsx, HSQ.out]; exact str_eq x q
      rw [← hsx] at hcx
      have hltI : (k : Int) < (n2 : Int) := by omega
      clear hx hxm hct hmt hcs hck2 hmk hsx
      go_wp2_with fail
      with_reducible refine (KW.out _ hb).mono ?_
      rintro e wa ⟨rfl, ba⟩
      clear y1
      have y1 := HK.out wa ba
      go_wp2_with fail
      with_reducible refine (KF.out _ ba).mono ?_
      rintro e wb ⟨rfl, bb2⟩
      clear y1 hcx
      have fin : ∀ (cn : Nat) (mn : Bool), cn = ck + (if x < q then 1 else 0) → mn = (mk || decide (x = q)) → cnt (D.take (k + 1)) q = cn ∧ decide (q ∈ D.take (k + 1)) = mn := fun cn mn h1 h2 => ⟨by rw [HCT.out, h1], by rw [HMT.out, h2]⟩
      have HFIN := Lib.hid fin
      clear fin
      by_cases hxq : x < q
      · have hne : ¬ x = q := fun e => by subst e; exact lt_irr _ hxq
        rw [decide_eq_true hxq] at hless
        rw [decide_eq_false hne] at heq
        obtain ⟨g1, g2⟩ := HFIN.out (ck + 1) mk (by rw [if_pos hxq]) (by rw [decide_eq_false hne, Bool.or_false])
        have G := Lib.hid (And.intro g1 g2)
        clear g1 g2
        cases mk
        all_goals
          go_wp2_with fail
          exact ⟨⟨k + 1, by omega, by go_num, by rw [G.out.1]; go_num, by rw [G.out.2], bb2⟩, by simp [intOf]; omega⟩
      · rw [decide_eq_false hxq] at hless
        by_cases hxe : x = q
        · rw [decide_eq_true hxe] at heq
          obtain ⟨g1, g2⟩ := HFIN.out ck true (by rw [if_neg hxq]; rfl) (by rw [decide_eq_true hxe, Bool.or_true])
          have G := Lib.hid (And.intro g1 g2)
          clear g1 g2
          cases mk
          all_goals
            go_wp2_with fail
            exact ⟨⟨k + 1, by omega, by go_num, by rw [G.out.1], by rw [G.out.2], bb2⟩, by simp [intOf]; omega⟩
        · rw [decide_eq_false hxe] at heq
          obtain ⟨g1, g2⟩ := HFIN.out ck mk (by rw [if_neg hxq]; rfl) (by rw [decide_eq_false hxe, Bool.or_false])
          have G := Lib.hid (And.intro g1 g2)
          clear g1 g2
          cases mk
          all_goals
            go_wp2_with fail
            exact ⟨⟨k + 1, by omega, by go_num, by rw [G.out.1], by rw [G.out.2], bb2⟩, by simp [intOf]; omega⟩
    · have hkd : D.take k = D := List.take_of_length_le (by rw [← HNL.out]; omega)
      rw [hkd, FQ.out.2.1, FQ.out.2.2]
      have hltI : ¬ (k : Int) < (n2 : Int) := by omega
      have KF : Hid (∀ W, Below w3.heap.size w3 W → Calls Try.prog 32 #[.agg #[.slice A2 n2 c2], .string sq] W fun e w' => e = .returned (.tuple #[.int .i64 (mq : Nat), .bool qq]) ∧ Below w3.heap.size w3 w') := fun W hb => by rw [HSQ.out]; exact (find_is A2 n2 c2 D q mq qq FQ W (ED.out.keep hb)).mono fun e w' h => ⟨h.1, hb.trans (h.2.mono hb.size)⟩
      clear hkd
      go_wp2_with fail
      with_reducible refine (KF.out _ hb).mono ?_
      rintro e wa ⟨rfl, ba⟩
      clear y1
      have y1 := HK.out wa ba
      have EW := Lib.hid (ES.out.keep ba)
      have EA := Lib.hid (ED.out.keep ba)
      have hmx : Try.prog.follows .mixedOrders = true := by kernel_rfl
      have HBA := Lib.hid (B3.out.trans (ba.mono B3.out.size))
      have l1 : ∀ p : WB wa.heap.size wa, p.w.cell? ⟨w2.heap.size, 0, none⟩ = some (.slice A2 n2 c2) := fun p => HK.out p.w (ba.trans (p.ok.mono ba.size))
      have fin : ∀ p : WB wa.heap.size wa, Below w.heap.size w p.w := fun p => HBA.out.trans (p.ok.mono HBA.out.size)
      have HFIN := Lib.hid fin
      clear fin
      by_cases hi0 : 0 ≤ i
      · obtain ⟨iN, rfl⟩ : ∃ iN : Nat, i = (iN : Int) := ⟨i.toNat, by omega⟩
        by_cases hin : iN < n2
        · have hid : iN < D.length := by rw [← HNL.out]; exact hin
          obtain ⟨bb, o, rfl, hbb, hcx⟩ := EW.out.at iN hid
          obtain ⟨x, hx⟩ : ∃ x, x = D[iN] := ⟨_, rfl⟩
          have HX : Hid (D[iN]? = some x) := by show _ = _; rw [hx]; exact List.getElem?_eq_getElem hid
          rw [← hx] at hcx
          obtain ⟨sx, hsx⟩ : ∃ sx, sx = (⟨x.toArray⟩ : ByteArray) := ⟨_, rfl⟩
          have KW : Hid (∀ p : WB wa.heap.size wa, Calls Try.prog 31 #[.agg #[.slice A2 n2 c2], .int .i64 iN] p.w fun e w' => e = .returned (.string sx) ∧ Below p.w.heap.size p.w w') := fun p => by rw [hsx]; exact word_is A2 n2 c2 D iN x HX _ (EA.out.keep p.ok)
          rw [← hsx] at hcx
          have l2 : ∀ p : WB wa.heap.size wa, p.w.cell? ⟨bb, o + iN, none⟩ = some (.string sx) := fun p => (p.ok.cell (p := ⟨bb, o + iN, none⟩) hbb).trans hcx
          have d1 : decide ((0 : Int) ≤ (iN : Int)) = true := decide_eq_true (by omega)
          have d2 : decide ((iN : Int) < (n2 : Int)) = true := decide_eq_true (by omega)
          have d2' : decide (iN < n2) = true := decide_eq_true hin
          have d3 : decide ((iN : Int) < 0) = false := decide_eq_false (by omega)
          have d4 : decide ((n2 : Int) ≤ (iN : Int)) = false := decide_eq_false (by omega)
          have d4' : decide (n2 ≤ iN) = false := decide_eq_false (by omega)
          have hinI : (iN : Int) < (n2 : Int) := by omega
          clear hx hsx
          go_wp2_with fail
          refine wp_region_quietB wa.heap.size wa hmx (by kernel_rfl) (Below.refl _ _) ?_
          repeat (go_big_quiet_step ((go_at_call 31; with_reducible exact calls_quietB (KW.out _) (Nat.le_refl _))))
          refine wpQuiet_nil ?_
          intro _ hw'
          obtain ⟨pq, rfl⟩ := hw'
          go_wp2_with fail
          go_ret
          exact ⟨by simp, HFIN.out pq⟩
        · have KW : Hid (∀ p : WB wa.heap.size wa, Calls Try.prog 31 #[.agg #[.slice A2 n2 c2], .int .i64 iN] p.w fun e w' => e = .returned (.string ⟨#[]⟩) ∧ Below p.w.heap.size p.w w') := fun p => word_out A2 n2 c2 _ (.inr ⟨by omega, by omega⟩) _
          have d1 : decide ((0 : Int) ≤ (iN : Int)) = true := decide_eq_true (by omega)
          have d2 : decide ((iN : Int) < (n2 : Int)) = false := decide_eq_false (by omega)
          have d2' : decide (iN < n2) = false := decide_eq_false hin
          have d3 : decide ((iN : Int) < 0) = false := decide_eq_false (by omega)
          have d4 : decide ((n2 : Int) ≤ (iN : Int)) = true := decide_eq_true (by omega)
          have d4' : decide (n2 ≤ iN) = true := decide_eq_true (by omega)
          go_wp2_with fail
          refine wp_region_quietB wa.heap.size wa hmx (by kernel_rfl) (Below.refl _ _) ?_
          repeat (go_big_quiet_step ((go_at_call 31; with_reducible exact calls_quietB (KW.out _) (Nat.le_refl _))))
          refine wpQuiet_nil ?_
          intro _ hw'
          obtain ⟨pq, rfl⟩ := hw'
          go_wp2_with fail
          go_ret
          exact ⟨by simp, HFIN.out pq⟩
      · have KW : Hid (∀ p : WB wa.heap.size wa, Calls Try.prog 31 #[.agg #[.slice A2 n2 c2], .int .i64 i] p.w fun e w' => e = .returned (.string ⟨#[]⟩) ∧ Below p.w.heap.size p.w w') := fun p => word_out A2 n2 c2 _ (.inl (by omega)) _
        have d1 : decide ((0 : Int) ≤ i) = false := decide_eq_false hi0
        have d3 : decide (i < 0) = true := decide_eq_true (by omega)
        go_wp2_with fail
        refine wp_region_quietB wa.heap.size wa hmx (by kernel_rfl) (Below.refl _ _) ?_
        repeat (go_big_quiet_step ((go_at_call 31; with_reducible exact calls_quietB (KW.out _) (Nat.le_refl _))))
        refine wpQuiet_nil ?_
        intro _ hw'
        obtain ⟨pq, rfl⟩ := hw'
        go_wp2_with fail
        go_ret
        exact ⟨by simp, HFIN.out pq⟩
end Go.Proofs.Ytgpdpmbgadjooaa
