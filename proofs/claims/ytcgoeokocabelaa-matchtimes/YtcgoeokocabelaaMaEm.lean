/- MatchEmpty answers true. -/
import Derived.Test.YtcgoeokocabelaaMaTi
namespace Go.Proofs.Ytcgoeokocabelaa
open Go.RowKit
set_option maxRecDepth 100000

theorem and_7 (b : Int) : ∃ n : Nat, bits .and .i64 b 7 = (n : Int) ∧ n ≤ 7 := by
  have h : (BitVec.ofInt 64 b &&& BitVec.ofInt 64 7).toNat ≤ 7 := by
    rw [BitVec.toNat_and]
    exact Nat.le_trans Nat.and_le_right (by decide)
  refine ⟨(BitVec.ofInt 64 b &&& BitVec.ofInt 64 7).toNat, ?_, h⟩
  show IntKind.i64.wrap ((BitVec.ofInt 64 b &&& BitVec.ofInt 64 7).toNat : Int) = _
  rw [IntKind.wrap_i64]
  omega
theorem chM_out (a : List Mt) (h : ∀ m ∈ a, m.2 = []) (c : List Nat) : (chM a c).2 = [] := by
  have key : ∀ l : List Nat, (chM a l.reverse).2 = [] := fun l => by
    induction l with
    | nil => rfl
    | cons i t ih =>
      rw [List.reverse_cons, chM_snoc]
      have hg : (a.getD i ([], [])).2 = [] := by
        rw [List.getD_eq_getElem?_getD]
        cases hq : a[i]? with
        | none => rfl
        | some m => exact h m (List.mem_of_getElem? hq)
      unfold joinI
      simp only [ih, hg, List.append_nil]
  have := key c.reverse
  rwa [List.reverse_reverse] at this
theorem holds_some (a : List Mt) (h : ∀ m ∈ a, m.2 = []) (k : Nat) : holdsL (someL a k) = decide (k ≤ a.length) := by
  by_cases hk : k ≤ a.length
  · rw [decide_eq_true hk]
    have hp := suf_pos a.length (List.range' 0 k) (okC_range _ _ _ (by omega))
    rw [suf_first _ _ _ (by omega)] at hp
    unfold holdsL
    rw [List.any_eq_true]
    refine ⟨chM a (allF a.length k 0)[0], ?_, by rw [chM_out a h]; rfl⟩
    exact List.mem_map.2 ⟨_, List.getElem_mem hp, rfl⟩
  · rw [decide_eq_false hk, someL_none a k (by omega)]
    rfl
theorem times_nil (lo hi : Nat) : timesL [] lo (hi : Int) = some (someL [] lo) := by
  unfold timesL
  rw [if_neg (by omega), if_pos (by simp)]
set_option maxHeartbeats 1000000 in
theorem empty_no (A : Option Addr) (n c : Nat) (lo hi : Int) (ms : List Mt) (H : Hid (n = ms.length)) (hn : n ≤ 9223372036854775807) (HG : Hid (goodB ms 20 = false)) (w : World) (h0 : MS w w.heap.size A ms) :
    Calls Try.prog 11 #[.slice A n c, .int .i64 lo, .int .i64 hi] w fun e w' => e = .returned (.bool true) ∧ Below w.heap.size w w' := by
  have K0 : Hid (∀ W, Below w.heap.size w W → Calls Try.prog 14 #[.slice A n c, .int .i64 20] W fun e w' => e = .returned (.bool false) ∧ Below w.heap.size w w') := fun W hW => (good_any A n c ms 20 H.out hn W (h0.up hW)).mono fun e w' h => ⟨by rw [← HG.out]; exact h.1, hW.trans (h.2.mono hW.size)⟩
  clear h0
  go_enter Try.func11, Try.ntmps11
  go_wp2_with fail
  with_reducible refine (head_any w).mono ?_
  rintro e w1 ⟨rfl, b1⟩
  have B1 := Lib.hid b1
  clear b1
  go_wp2_with (go_at_call 14; (with_reducible refine (K0.out _ B1.out).mono ?_); rintro e w2 ⟨rfl, b2⟩; have B2 := Lib.hid b2; clear b2)
  go_ret
  exact ⟨rfl, B2.out⟩
set_option maxHeartbeats 4000000 in
theorem empty_yes (A : Option Addr) (n c : Nat) (lo0 hi0 : Int) (ms : List Mt) (H : Hid (n = ms.length)) (HG : Hid (goodB ms 20 = true)) (w : World) (h0 : MS w w.heap.size A ms) :
    Calls Try.prog 11 #[.slice A n c, .int .i64 lo0, .int .i64 hi0] w fun e w' => e = .returned (.bool true) ∧ Below w.heap.size w w' := by
  obtain ⟨g0, gl0⟩ := good_sm HG.out
  have l0 : n ≤ 20 := by have := H.out; omega
  obtain ⟨lo, hlo, hlo7⟩ := and_7 lo0
  obtain ⟨hi, hhi, hhi7⟩ := and_7 hi0
  have HS0 : Hid (smM ms) := fun m hm => by have := g0 m hm; omega
  have K0 : Hid (∀ W, Below w.heap.size w W → Calls Try.prog 14 #[.slice A n c, .int .i64 20] W fun e w' => e = .returned (.bool true) ∧ Below w.heap.size w w') := fun W hW => (good_any A n c ms 20 H.out (by omega) W (h0.up hW)).mono fun e w' h => ⟨by rw [← HG.out]; exact h.1, hW.trans (h.2.mono hW.size)⟩
  have KO : Hid (∀ W, Below w.heap.size w W → Calls Try.prog 15 #[.slice none 0 0, .slice A n c] W fun e w' => ∃ A' c', e = .returned (.tuple #[.slice A' n c', .int .i64 0]) ∧ MS w' w'.heap.size A' ms ∧ Below w.heap.size w w' ∧ Below W.heap.size W w') := fun W hW => (or_any none A 0 0 n c [] ms ⟨rfl, H.out⟩ (by omega) HS0.out W (MS.nil _ _ _) (h0.up hW)).mono fun e w' ⟨v, zs, he, hk⟩ => by
    obtain ⟨A', c', rfl, _, _, hm⟩ := hk.out
    rw [List.nil_append, ← H.out] at he
    exact ⟨A', c', he, hm, hW.trans (hk.kb.mono hW.size), hk.kb⟩
  have KA : Hid (∀ W, Below w.heap.size w W → Calls Try.prog 16 #[.slice none 0 0, .slice A n c] W fun e w' => e = .returned (.tuple #[.slice none 0 0, .int .i64 0]) ∧ Below w.heap.size w w' ∧ Below W.heap.size W w') := fun W hW => (and_none none A 0 n c W).mono fun e w' h => ⟨h.1, hW.trans (h.2.mono hW.size), h.2⟩
  have KN : Hid (∀ W, Below w.heap.size w W → Calls Try.prog 17 #[.slice none 0 0] W fun e w' => ∃ A' c', e = .returned (.tuple #[.slice A' 1 c', .int .i64 0]) ∧ MS w' w'.heap.size A' [([], [])] ∧ Below w.heap.size w w' ∧ Below W.heap.size W w') := fun W hW => (not_any none 0 0 [] rfl (by decide) (fun m hm => by cases hm) W (MS.nil _ _ _)).mono fun e w' h => by
    obtain ⟨A', c', he, _, _, hm⟩ := h.2.1 1 rfl
    exact ⟨A', c', he, hm, hW.trans (h.2.2.mono hW.size), h.2.2⟩
  have KT : Hid (∀ W, Below w.heap.size w W → Calls Try.prog 44 #[.slice none 0 0, .agg #[.int .i64 (lo : Int), .int .i64 (hi : Int)]] W fun e w' => ∃ A' N c', e = .returned (.tuple #[.slice A' N c', .int .i64 0]) ∧ N = (someL [] lo).length ∧ MS w' w'.heap.size A' (someL [] lo) ∧ Below w.heap.size w w' ∧ Below W.heap.size W w') := fun W hW => (times_any none 0 0 lo (hi : Int) [] rfl (by decide) (by omega) (fun m hm => by cases hm) W (MS.nil _ _ _)).mono fun e w' ⟨A', N, c', er, he, h, hb⟩ => by
    rw [times_nil] at h
    rcases h with ⟨h, _⟩ | ⟨L, h, e1, e2, hm⟩
    · cases h
    · injection h with h
      subst h
      subst e1
      exact ⟨A', N, c', he, e2, hm, hW.trans (hb.mono hW.size), hb⟩
  have HM0 := Lib.hid h0
  clear h0 g0 gl0
  go_enter Try.func11, Try.ntmps11
  go_wp2_with fail
  with_reducible refine (head_any w).mono ?_
  rintro e w1 ⟨rfl, b1⟩
  have B1 := Lib.hid b1
  clear b1
  go_upto_region 9 with (first
    | (go_at_call 14; (with_reducible refine (K0.out _ B1.out).mono ?_); rintro e w2 ⟨rfl, b2⟩; have B2 := Lib.hid b2; clear b2)
    | (go_at_call 15; (with_reducible refine (KO.out _ B2.out).mono ?_); rintro e w3 ⟨A3, c3, rfl, m3, b3, _⟩; have M3 := Lib.hid m3; have B3 := Lib.hid b3; clear b3 m3)
    | (go_at_call 16; (with_reducible refine (KA.out _ B3.out).mono ?_); rintro e w4 ⟨rfl, b4, b34⟩; have B4 := Lib.hid b4; have B34 := Lib.hid b34; clear b4 b34)
    | (go_at_call 17; (with_reducible refine (KN.out _ B4.out).mono ?_); rintro e w5 ⟨A5, c5, rfl, m5, b5, b45⟩; have M5 := Lib.hid m5; have B5 := Lib.hid b5; have B45 := Lib.hid b45; clear b5 m5 b45)
    | (go_at_call 44; (with_reducible refine (KT.out _ B5.out).mono ?_); rintro e w6 ⟨A6, N6, c6, rfl, hN6, m6, b6, b56⟩; have M6 := Lib.hid (And.intro hN6 m6); have B6 := Lib.hid b6; have B56 := Lib.hid b56; clear b6 m6 hN6 b56))
  have B46 : Hid (Below w3.heap.size w3 w6) := B34.out.trans ((B45.out.trans (B56.out.mono B45.out.size)).mono B34.out.size)
  have hN35 : N6 ≤ 35 := by rw [M6.out.1]; exact someL_few [] lo (by decide)
  have BR := Lib.hid (Below.refl w6.heap.size w6)
  have KS : Hid (∀ W, Below w6.heap.size w6 W → Calls Try.prog 22 #[.slice A3 n c3, .slice A n c] W fun e w' => e = .returned (.bool true) ∧ Below w6.heap.size w6 w') := fun W hW => (same_any A3 A n c3 n c ms ms H.out H.out (by omega) HS0 W ((M3.out.up B46.out).up hW) (HM0.out.up (B6.out.trans (hW.mono B6.out.size)))).mono fun e w' h => ⟨by rw [← decide_eq_true (rfl : ms = ms)]; exact h.1, hW.trans (h.2.mono hW.size)⟩
  have KH5 : Hid (∀ W, Below w6.heap.size w6 W → Calls Try.prog 21 #[.slice A5 1 c5] W fun e w' => e = .returned (.bool true) ∧ Below w6.heap.size w6 w') := fun W hW => (holds_any A5 1 c5 [([], [])] rfl (by decide) W ((M5.out.up B56.out).up hW)).mono fun e w' h => ⟨h.1, hW.trans (h.2.mono hW.size)⟩
  have KH6 : Hid (∀ W, Below w6.heap.size w6 W → Calls Try.prog 21 #[.slice A6 N6 c6] W fun e w' => e = .returned (.bool (decide (lo ≤ 0))) ∧ Below w6.heap.size w6 w') := fun W hW => (holds_any A6 N6 c6 (someL [] lo) M6.out.1 (by omega) W (M6.out.2.up hW)).mono fun e w' h => ⟨by rw [h.1, holds_some [] (fun m hm => by cases hm)]; rfl, hW.trans (h.2.mono hW.size)⟩
  have KF : Hid (∀ W, Below w6.heap.size w6 W → Calls Try.prog 46 #[.slice none 0 0] W fun e w' => ∃ A' c', e = .returned (.slice A' 0 c') ∧ Below w6.heap.size w6 w') := fun W hW => (of_any none 0 0 [] rfl (by decide) W (CS.nil _ _ _)).mono fun e w' ⟨v, zs, he, hk⟩ => by
    obtain ⟨A', c', rfl, _, _, hm⟩ := hk.out
    exact ⟨A', c', he, hW.trans (hk.kb.mono hW.size)⟩
  have KH0 : Hid (∀ W, Below w6.heap.size w6 W → Calls Try.prog 21 #[.slice none 0 0] W fun e w' => e = .returned (.bool false) ∧ Below w6.heap.size w6 w') := fun W hW => (holds_any none 0 0 [] rfl (by decide) W (MS.nil _ _ _)).mono fun e w' h => ⟨h.1, hW.trans (h.2.mono hW.size)⟩
  clear K0 KO KA KN KT M3 M5 M6 HM0
  by_cases hz : lo = 0
  · subst hz
    have KH6' := Lib.hid KH6.out
    simp only [Nat.le_refl, decide_true] at KH6'
    clear KH6
    go_wp2_with (first
      | (go_at_call 22; (with_reducible refine (KS.out _ BR.out).mono ?_); rintro e w7 ⟨rfl, b7⟩)
      | (go_at_call 21; (with_reducible refine (KH5.out _ b7).mono ?_); rintro e w8 ⟨rfl, b8⟩)
      | (go_at_call 21; (with_reducible refine (KH6'.out _ b8).mono ?_); rintro e w9 ⟨rfl, b9⟩)
      | (go_at_call 46; (with_reducible refine (KF.out _ b9).mono ?_); rintro e w10 ⟨A10, c10, rfl, b10⟩)
      | (go_at_call 21; (with_reducible refine (KH0.out _ b10).mono ?_); rintro e w11 ⟨rfl, b11⟩))
    have HB11 := Lib.hid (B6.out.trans (b11.mono B6.out.size))
    go_ret
    exact ⟨rfl, HB11.out⟩
  · have KH6' : Hid (∀ W, Below w6.heap.size w6 W → Calls Try.prog 21 #[.slice A6 N6 c6] W fun e w' => e = .returned (.bool false) ∧ Below w6.heap.size w6 w') := by
      have h := KH6.out
      rw [decide_eq_false (by omega)] at h
      exact h
    have hzb : ((lo : Int) == 0) = false := beq_eq_false_iff_ne.2 (by omega)
    clear KH6
    go_wp2_with (first
      | (go_at_call 22; (with_reducible refine (KS.out _ BR.out).mono ?_); rintro e w7 ⟨rfl, b7⟩)
      | (go_at_call 21; (with_reducible refine (KH5.out _ b7).mono ?_); rintro e w8 ⟨rfl, b8⟩)
      | (go_at_call 21; (with_reducible refine (KH6'.out _ b8).mono ?_); rintro e w9 ⟨rfl, b9⟩)
      | (go_at_call 46; (with_reducible refine (KF.out _ b9).mono ?_); rintro e w10 ⟨A10, c10, rfl, b10⟩)
      | (go_at_call 21; (with_reducible refine (KH0.out _ b10).mono ?_); rintro e w11 ⟨rfl, b11⟩))
    have HB11 := Lib.hid (B6.out.trans (b11.mono B6.out.size))
    go_ret
    exact ⟨rfl, HB11.out⟩
end Go.Proofs.Ytcgoeokocabelaa
