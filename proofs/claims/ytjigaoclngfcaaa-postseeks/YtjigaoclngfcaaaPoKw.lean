/- PostSkips answers true. -/
import Derived.Test.YtjigaoclngfcaaaPoCw
import Derived.Test.YtjigaoclngfcaaaPoMy
namespace Go.Proofs.Ytjigaoclngfcaaa
open Go.RowKit
set_option maxRecDepth 100000

theorem seek_skips (hs : List HI) (doc : Int) (h : rgt (-1) hs = true) (s : PS) (hs0 : s = openP (eP hs)) (f : Nat) (hf : s.he + s.bh + 1 ≤ f) : (seekP doc f s).2.sk = skp doc (BL hs) := by
  obtain ⟨hR, h0⟩ := RI.opened hs [] h
  rw [List.append_nil, ← hs0] at hR h0
  rcases RI.seek doc f s (-1) [] hs hR hf with ⟨_, s2, a2, g2, _, g4⟩ | ⟨pre, x, c2, r2, s2, _, _, _, g3, _, g5⟩
  · rw [show bel doc [] = true from rfl, if_pos rfl, h0] at g4
    rw [g2]
    simpa using g4
  · rw [show bel doc [] = true from rfl, if_pos rfl, h0] at g5
    rw [g3]
    simpa using g5
theorem skp_here (doc : Int) (hs : List HI) (i q : Nat) (hi : i < hs.length) (hq : q = min (i + 3) (hs.length - 1)) (hql : q < hs.length) :
    (hs[q].1 < doc → skp doc (BL (hs.drop i)) = skp doc (BL (hs.drop (i + 4))) + 1) ∧ (¬ hs[q].1 < doc → skp doc (BL (hs.drop i)) = 0) := by
  have hne : hs.drop i ≠ [] := fun e => by have := congrArg List.length e; rw [List.length_drop, List.length_nil] at this; omega
  have hl : ((hs.drop i).take 4).length = min 4 (hs.length - i) := by rw [List.length_take, List.length_drop]
  have hp : 0 < ((hs.drop i).take 4).length := by rw [hl]; omega
  have e : docOf 0 ((hs.drop i).take 4) = hs[q].1 := by
    rw [docOf_last _ hp, List.getElem_take, List.getElem_drop]
    congr 2
    rw [hl]
    omega
  rw [BL_cons _ hne, skp, e, List.drop_drop]
  exact ⟨fun h => by rw [if_pos h], fun h => by rw [if_neg h]⟩
set_option maxHeartbeats 1000000 in
theorem ps_many (A : Option Addr) (n c : Nat) (doc : Int) (hs : List HI) (hn : Hid (n = hs.length ∧ fewH hs = false)) (hnm : n ≤ 9223372036854775807) (w : World) (hI : HS w w.heap.size A hs) :
    Calls Try.prog 6 #[.slice A n c, .int .i64 doc] w fun e w' => e = .returned (.bool true) ∧ Below w.heap.size w w' := by
  have HCS := Lib.hid hI
  clear hI
  go_enter Try.func6, Try.ntmps6
  go_wp2_with fail
  with_reducible refine (head_any _).mono ?_
  rintro e w1 ⟨rfl, b1⟩
  have KF := Lib.hid (few_any A n c hs hn.out.1 hnm w1 ((HCS.out.below b1).more b1.size))
  rw [hn.out.2] at KF
  go_wp2_with fail
  with_reducible refine KF.out.mono ?_
  rintro e w2 ⟨rfl, b2⟩
  have hb := b1.trans (b2.mono b1.size)
  clear b1 b2 KF
  go_wp2_with fail
  go_ret
  exact ⟨rfl, hb⟩
set_option maxHeartbeats 1000000 in
theorem ps_wrong (A : Option Addr) (n c : Nat) (doc : Int) (hs : List HI) (hn : Hid (n = hs.length ∧ fewH hs = true ∧ rgt (-1) hs = false)) (hnm : n ≤ 40) (w : World) (hI : HS w w.heap.size A hs) :
    Calls Try.prog 6 #[.slice A n c, .int .i64 doc] w fun e w' => e = .returned (.bool true) ∧ Below w.heap.size w w' := by
  have HCS := Lib.hid hI
  have HSM : Hid (∀ h ∈ hs, h.2.length ≤ 100000) := fun h hh => Nat.le_trans ((fewH_some hn.out.2.1).2 h hh) (by decide)
  clear hI
  go_enter Try.func6, Try.ntmps6
  go_wp2_with fail
  with_reducible refine (head_any _).mono ?_
  rintro e w1 ⟨rfl, b1⟩
  have KF := Lib.hid (few_any A n c hs hn.out.1 (by omega) w1 ((HCS.out.below b1).more b1.size))
  rw [hn.out.2.1] at KF
  go_wp2_with fail
  with_reducible refine KF.out.mono ?_
  rintro e w2 ⟨rfl, b2⟩
  have hb := b1.trans (b2.mono b1.size)
  have KR := Lib.hid (lright_any A n c hs hn.out.1 (by omega) w2 ((HCS.out.below hb).more hb.size) HSM)
  rw [hn.out.2.2] at KR
  have HB := Lib.hid hb
  clear b1 b2 KF hb
  go_wp2_with fail
  with_reducible refine KR.out.mono ?_
  rintro e w3 ⟨rfl, b3⟩
  go_wp2_with fail
  go_ret
  exact ⟨rfl, HB.out.trans (b3.mono HB.out.size)⟩
set_option maxHeartbeats 4000000 in
theorem ps_any (A : Option Addr) (n c : Nat) (doc : Int) (hs : List HI) (hn : Hid (n = hs.length ∧ fewH hs = true ∧ rgt (-1) hs = true)) (hnm : n ≤ 40) (hnc : n ≤ c) (w : World) (hI : HS w w.heap.size A hs) :
    Calls Try.prog 6 #[.slice A n c, .int .i64 doc] w fun e w' => e = .returned (.bool true) ∧ Below w.heap.size w w' := by
  have HCS := Lib.hid hI
  have HSM : Hid (∀ h ∈ hs, h.2.length ≤ 100000) := fun h hh => Nat.le_trans ((fewH_some hn.out.2.1).2 h hh) (by decide)
  have HSE : Hid (n = hs.length ∧ ∀ h ∈ hs, h.2.length ≤ 6000) := ⟨hn.out.1, fun h hh => Nat.le_trans ((fewH_some hn.out.2.1).2 h hh) (by decide)⟩
  obtain ⟨L, hL⟩ : ∃ L, L = eP hs := ⟨_, rfl⟩
  obtain ⟨l5, l0⟩ := eP_few hs hn.out.2.2 hn.out.2.1
  rw [← hL] at l5 l0
  obtain ⟨m, hm⟩ : ∃ m, m = L.length := ⟨_, rfl⟩
  rw [← hm] at l5 l0
  have HL := Lib.hid hL
  have HM := Lib.hid hm
  clear hI hL hm
  go_enter Try.func6, Try.ntmps6
  go_wp2_with fail
  with_reducible refine (head_any _).mono ?_
  rintro e w1 ⟨rfl, b1⟩
  have KF := Lib.hid (few_any A n c hs hn.out.1 (by omega) w1 ((HCS.out.below b1).more b1.size))
  rw [hn.out.2.1] at KF
  go_wp2_with fail
  with_reducible refine KF.out.mono ?_
  rintro e w2 ⟨rfl, b2⟩
  have hb := b1.trans (b2.mono b1.size)
  have KR := Lib.hid (lright_any A n c hs hn.out.1 (by omega) w2 ((HCS.out.below hb).more hb.size) HSM)
  rw [hn.out.2.2] at KR
  have HB := Lib.hid hb
  clear b1 b2 KF hb
  go_wp2_with fail
  with_reducible refine KR.out.mono ?_
  rintro e w3 ⟨rfl, b3⟩
  have hb := HB.out.trans (b3.mono HB.out.size)
  have KE := Lib.hid (enc_ok A n c hs HSE (by omega) hnc w3 ((HCS.out.below hb).more hb.size) hn.out.2.2)
  have HB3 := Lib.hid hb
  clear b3 KR hb
  go_wp2_with fail
  with_reducible refine KE.out.mono ?_
  rintro e w4 ⟨v7, rfl, o7, b4⟩
  obtain ⟨A7, c7, rfl, hmc, hmm, hbs7, _⟩ := o7.form
  rw [← HL.out] at hbs7
  rw [← HL.out, ← HM.out]
  have KO := Lib.hid (open_any (fun _ => False) A7 m c7 L HM (by rw [← HM.out]; omega) w4 (fun _ h => h.elim) hbs7)
  have HB4 := Lib.hid (HB3.out.trans (b4.mono HB3.out.size))
  clear o7 b4 KE hbs7 hmc hmm
  go_wp2_with fail
  with_reducible refine KO.out.mono ?_
  rintro e w5 ⟨C, rfl, hc1, b5, hC1, hC2⟩
  obtain ⟨s0, hs0⟩ : ∃ s0, s0 = openP L := ⟨_, rfl⟩
  rw [← hs0] at hc1
  have hC3 : w.heap.size ≤ C := by have := HB4.out.size; omega
  have KS := Lib.hid (seek_any (fun _ => False) C s0 w5 doc hc1 (fun _ h => h.elim) (s0.he + s0.bh + 1) (by omega))
  have HSK := Lib.hid (seek_skips hs doc hn.out.2.2 s0 (by rw [hs0, HL.out]) (s0.he + s0.bh + 1) (Nat.le_refl _))
  have HB5 := Lib.hid (HB4.out.trans (b5.mono HB4.out.size))
  clear hc1 b5 hs0 KO
  go_wp2_with fail
  with_reducible refine KS.out.mono ?_
  rintro e w6 ⟨v6, rfl, _, hc6, k6⟩
  have hsk := hc6.sk
  rw [HSK.out] at hsk
  obtain ⟨S, hS⟩ : ∃ S, S = skp doc (BL hs) := ⟨_, rfl⟩
  rw [← hS] at hsk
  have HS0 := Lib.hid hS
  have HB6 := Lib.hid (HB5.out.trans (k6.below hC3 HB5.out.size))
  clear hc6 k6 KS hS
  go_wp2_with fail
  go_loopw [8, 9] (fun s8 i wr => ∃ k : Nat, 4 * k < n + 4 ∧ s8 = .int .i64 k ∧ i = .int .i64 (4 * k : Nat) ∧ wr = w6 ∧ Hid (S = k + skp doc (BL (hs.drop (4 * k))))) (fun _ i _ => n + 4 - (intOf i).toNat)
  case atStart => exact ⟨0, by omega, rfl, rfl, rfl, by show _ = _; rw [HS0.out]; simp⟩
  case round =>
    obtain ⟨k, hk, rfl, rfl, rfl, HK⟩ := hrel
    obtain ⟨i, hi⟩ : ∃ i, i = 4 * k := ⟨_, rfl⟩
    rw [← hi] at HK hk ⊢
    have HI4 := Lib.hid hi
    clear hi
    by_cases hlt : i < n
    · have hil : i < hs.length := by rw [← hn.out.1]; exact hlt
      obtain ⟨q, hq⟩ : ∃ q, q = min (i + 3) (hs.length - 1) := ⟨_, rfl⟩
      have hqn : q = min (i + 3) (n - 1) := by rw [hn.out.1]; exact hq
      have hql : q < hs.length := by omega
      obtain ⟨h1, h2⟩ := skp_here doc hs i q hil hq hql
      obtain ⟨b, o, rfl, _, hcl⟩ := (HCS.out.below HB6.out) (by omega)
      have hx := (hcl q hql).1
      obtain ⟨x, hxe⟩ : ∃ x, x = hs[q].1 := ⟨_, rfl⟩
      rw [← hxe] at hx h1 h2
      obtain ⟨i3, hi3⟩ : ∃ i3, i3 = i + 3 := ⟨_, rfl⟩
      obtain ⟨j, hj⟩ : ∃ j, j + 1 = n := ⟨n - 1, by omega⟩
      have w3 : IntKind.i64.wrap ((i : Int) + 3) = (i3 : Int) := by rw [IntKind.wrap_i64]; omega
      have wj : IntKind.i64.wrap ((n : Int) - 1) = (j : Int) := by rw [IntKind.wrap_i64]; omega
      have w4 : IntKind.i64.wrap ((i : Int) + 4) = (i : Int) + 4 := by rw [IntKind.wrap_i64]; omega
      have wk : IntKind.i64.wrap ((k : Int) + 1) = (k : Int) + 1 := by have := HI4.out; rw [IntKind.wrap_i64]; omega
      have H12 := Lib.hid (And.intro h1 h2)
      have hqlt : q < n := by omega
      have hqI : (q : Int) < (n : Int) := by omega
      have hmin : min (i3 : Int) (j : Int) = (q : Int) := by omega
      clear hq hql h1 h2 hcl hxe hil hqn hi3 hj
      by_cases hd : x < doc
      · have hdI : ¬ doc ≤ x := by omega
        have hdb : decide (doc ≤ x) = false := decide_eq_false hdI
        have HST := Lib.hid (H12.out.1 hd)
        go_wp2_with fail
        refine ⟨⟨k + 1, by have := HI4.out; omega, by go_num, by rw [HI4.out]; go_num, by first | rfl | trivial, ?_⟩, by simp [intOf]; omega⟩
        show _ = _
        rw [HK.out, HST.out, show i + 4 = 4 * (k + 1) by have := HI4.out; omega]
        omega
      · have hdI : doc ≤ x := by omega
        have hdb : decide (doc ≤ x) = true := decide_eq_true hdI
        have hst := H12.out.2 hd
        have hSk : S = k := by rw [HK.out, hst]; rfl
        have HSK2 := Lib.hid hSk
        clear hst hSk
        go_wp2_with fail
        go_ret
        exact ⟨by rw [HSK2.out]; simp, HB6.out⟩
    · have hSk : S = k := by
        have e := HK.out
        rw [List.drop_eq_nil_of_le (by rw [← hn.out.1]; omega)] at e
        exact e
      have HSK2 := Lib.hid hSk
      clear hSk
      go_wp2_with fail
      go_ret
      exact ⟨by rw [HSK2.out]; simp, HB6.out⟩
end Go.Proofs.Ytjigaoclngfcaaa
