/- MatchTimes answers true. -/
import Derived.Test.YtcgoeokocabelaaMaLc
import Derived.Test.YtcgoeokocabelaaMaEm
namespace Go.Proofs.Ytcgoeokocabelaa
open Go.RowKit
set_option maxRecDepth 100000

theorem and_15 (b : Int) : ∃ n : Nat, bits .and .i64 b 15 = (n : Int) ∧ n ≤ 15 := by
  have h : (BitVec.ofInt 64 b &&& BitVec.ofInt 64 15).toNat ≤ 15 := by
    rw [BitVec.toNat_and]
    exact Nat.le_trans Nat.and_le_right (by decide)
  refine ⟨(BitVec.ofInt 64 b &&& BitVec.ofInt 64 15).toNat, ?_, h⟩
  show IntKind.i64.wrap ((BitVec.ofInt 64 b &&& BitVec.ofInt 64 15).toNat : Int) = _
  rw [IntKind.wrap_i64]
  omega
set_option maxHeartbeats 1000000 in
theorem mt_no (A : Option Addr) (n c : Nat) (lo hi : Int) (ms : List Mt) (H : Hid (n = ms.length)) (hn : n ≤ 9223372036854775807) (HG : Hid (goodB ms 7 = false)) (w : World) (h0 : MS w w.heap.size A ms) :
    Calls Try.prog 8 #[.slice A n c, .int .i64 lo, .int .i64 hi] w fun e w' => e = .returned (.bool true) ∧ Below w.heap.size w w' := by
  have K0 : Hid (∀ W, Below w.heap.size w W → Calls Try.prog 14 #[.slice A n c, .int .i64 7] W fun e w' => e = .returned (.bool false) ∧ Below w.heap.size w w') := fun W hW => (good_any A n c ms 7 H.out hn W (h0.up hW)).mono fun e w' h => ⟨by rw [← HG.out]; exact h.1, hW.trans (h.2.mono hW.size)⟩
  clear h0
  go_enter Try.func8, Try.ntmps8
  go_wp2_with fail
  with_reducible refine (head_any w).mono ?_
  rintro e w1 ⟨rfl, b1⟩
  have B1 := Lib.hid b1
  clear b1
  go_wp2_with (go_at_call 14; (with_reducible refine (K0.out _ B1.out).mono ?_); rintro e w2 ⟨rfl, b2⟩; have B2 := Lib.hid b2; clear b2)
  go_ret
  exact ⟨rfl, B2.out⟩
set_option maxHeartbeats 8000000 in
theorem mt_neg (A : Option Addr) (n c x lo : Nat)  (lo0 hi0 : Int) (hlo : bits .and .i64 lo0 7 = (lo : Int)) (hlo7 : lo ≤ 7) (hx : bits .and .i64 hi0 15 = (x : Int)) (ms : List Mt) (H : Hid (n = ms.length)) (hx0 : x = 0) (HG : Hid (goodB ms 7 = true)) (w : World) (h0 : MS w w.heap.size A ms) :
    Calls Try.prog 8 #[.slice A n c, .int .i64 lo0, .int .i64 hi0] w fun e w' => e = .returned (.bool true) ∧ Below w.heap.size w w' := by
  obtain ⟨g0, gl0⟩ := good_sm HG.out
  have l7 : n ≤ 7 := by have := H.out; omega
  have HS5 : Hid (∀ m ∈ ms, m.1.length ≤ 5 ∧ m.2.length ≤ 5) := g0
  have HS1 : Hid (∀ m ∈ ms, m.1.length ≤ 100 ∧ m.2.length ≤ 100) := fun m hm => by have := g0 m hm; omega
  subst hx0
  have K0 : Hid (∀ W, Below w.heap.size w W → Calls Try.prog 14 #[.slice A n c, .int .i64 7] W fun e w' => e = .returned (.bool true) ∧ Below w.heap.size w w') := fun W hW => (good_any A n c ms 7 H.out (by omega) W (h0.up hW)).mono fun e w' h => ⟨by rw [← HG.out]; exact h.1, hW.trans (h.2.mono hW.size)⟩
  have KT : Hid (∀ W, Below w.heap.size w W → Calls Try.prog 44 #[.slice A n c, .agg #[.int .i64 (lo : Int), .int .i64 (-1)]] W fun e w' => TQ W (timesL ms lo (-1)) e w') := fun W hW => times_any A n c lo (-1) ms H.out l7 (by omega) HS1.out W (h0.up hW)
  have KC : Hid (∀ W, Below w.heap.size w W → Calls Try.prog 45 #[.slice A n c, .int .i64 0, .int .i64 (lo : Int), .agg #[.slice none 0 0, .slice none 0 0], .slice none 0 0] W fun e w' => ∃ A' N c', e = .returned (.slice A' N c') ∧ N = (someL ms lo).length ∧ MS w' w'.heap.size A' (someL ms lo) ∧ Below w.heap.size w w' ∧ Below W.heap.size W w') := fun W hW => (choose_top A n c lo ms H.out l7 (by omega) HS1.out W (h0.up hW)).mono fun e w' ⟨A', N, c', h1, h2, h3, h4⟩ => ⟨A', N, c', h1, h2, h3, hW.trans (h4.mono hW.size), h4⟩
  have hL0 := someL_few ms lo (by rw [← H.out]; exact l7)
  have HSM : Hid (smM (someL ms lo)) := fun m hm => by
    rcases Nat.lt_or_ge n lo with h | h
    · rw [someL_none ms lo (by rw [← H.out]; exact h)] at hm; cases hm
    · have := someL_small ms 100 lo HS1.out m hm
      have : 100 * lo ≤ 700 := by omega
      omega

  clear h0 g0 gl0
  go_enter Try.func8, Try.ntmps8
  go_wp2_with fail
  with_reducible refine (head_any w).mono ?_
  rintro e w1 ⟨rfl, b1⟩
  have B1 := Lib.hid b1
  clear b1
  go_upto_region 9 with (first
    | (go_at_call 14; (with_reducible refine (K0.out _ B1.out).mono ?_); rintro e w2 ⟨rfl, b2⟩; have B2 := Lib.hid b2; clear b2)
    | (go_at_call 44; (with_reducible refine (KT.out _ B2.out).mono ?_); rintro e w3 ⟨A3, N3, c3, r3, rfl, m3, b3⟩; have M3 := Lib.hid m3; have B3 := Lib.hid (B2.out.trans (b3.mono B2.out.size)); clear b3 m3)
    | (go_at_call 45; (with_reducible refine (KC.out _ B3.out).mono ?_); rintro e w4 ⟨A4, N4, c4, rfl, hN4, m4, b4, b34⟩; have M4 := Lib.hid (And.intro hN4 m4); have B4 := Lib.hid b4; have B34 := Lib.hid b34; clear b4 b34 m4 hN4))
  have hlt : decide ((-1 : Int) < (n : Int)) = true := decide_eq_true (by omega)
  have HE : Hid (r3 = 0 ∧ 0 = N3) := by
    rcases M3.out with ⟨h, _⟩ | ⟨L, h, e1, e2, _⟩
    · simp [timesL] at h
    · have e : timesL ms lo (-1) = some [] := by unfold timesL; rw [if_pos (by decide)]
      rw [e] at h
      injection h with h
      exact ⟨e1, by rw [e2, ← h]; rfl⟩
  obtain ⟨rfl, rfl⟩ := HE.out
  clear M3 M4
  go_wp2_with fail
  go_ret
  exact ⟨rfl, B4.out⟩
set_option maxHeartbeats 8000000 in
theorem mt_all (A : Option Addr) (n c x lo : Nat) (h : Nat) (lo0 hi0 : Int) (hlo : bits .and .i64 lo0 7 = (lo : Int)) (hlo7 : lo ≤ 7) (hx : bits .and .i64 hi0 15 = (x : Int)) (ms : List Mt) (H : Hid (n = ms.length)) (hxh : x = h + 1) (hh : h ≤ 14) (hnh : n ≤ h) (HG : Hid (goodB ms 7 = true)) (w : World) (h0 : MS w w.heap.size A ms) :
    Calls Try.prog 8 #[.slice A n c, .int .i64 lo0, .int .i64 hi0] w fun e w' => e = .returned (.bool true) ∧ Below w.heap.size w w' := by
  obtain ⟨g0, gl0⟩ := good_sm HG.out
  have l7 : n ≤ 7 := by have := H.out; omega
  have HS5 : Hid (∀ m ∈ ms, m.1.length ≤ 5 ∧ m.2.length ≤ 5) := g0
  have HS1 : Hid (∀ m ∈ ms, m.1.length ≤ 100 ∧ m.2.length ≤ 100) := fun m hm => by have := g0 m hm; omega
  have hw : IntKind.i64.wrap ((x : Int) - 1) = (h : Int) := by rw [IntKind.wrap_i64]; omega
  have K0 : Hid (∀ W, Below w.heap.size w W → Calls Try.prog 14 #[.slice A n c, .int .i64 7] W fun e w' => e = .returned (.bool true) ∧ Below w.heap.size w w') := fun W hW => (good_any A n c ms 7 H.out (by omega) W (h0.up hW)).mono fun e w' h => ⟨by rw [← HG.out]; exact h.1, hW.trans (h.2.mono hW.size)⟩
  have KT : Hid (∀ W, Below w.heap.size w W → Calls Try.prog 44 #[.slice A n c, .agg #[.int .i64 (lo : Int), .int .i64 ((h : Int))]] W fun e w' => TQ W (timesL ms lo ((h : Int))) e w') := fun W hW => times_any A n c lo ((h : Int)) ms H.out l7 (by omega) HS1.out W (h0.up hW)
  have KC : Hid (∀ W, Below w.heap.size w W → Calls Try.prog 45 #[.slice A n c, .int .i64 0, .int .i64 (lo : Int), .agg #[.slice none 0 0, .slice none 0 0], .slice none 0 0] W fun e w' => ∃ A' N c', e = .returned (.slice A' N c') ∧ N = (someL ms lo).length ∧ MS w' w'.heap.size A' (someL ms lo) ∧ Below w.heap.size w w' ∧ Below W.heap.size W w') := fun W hW => (choose_top A n c lo ms H.out l7 (by omega) HS1.out W (h0.up hW)).mono fun e w' ⟨A', N, c', h1, h2, h3, h4⟩ => ⟨A', N, c', h1, h2, h3, hW.trans (h4.mono hW.size), h4⟩
  have hL0 := someL_few ms lo (by rw [← H.out]; exact l7)
  have HSM : Hid (smM (someL ms lo)) := fun m hm => by
    rcases Nat.lt_or_ge n lo with h | h
    · rw [someL_none ms lo (by rw [← H.out]; exact h)] at hm; cases hm
    · have := someL_small ms 100 lo HS1.out m hm
      have : 100 * lo ≤ 700 := by omega
      omega

  clear h0 g0 gl0
  go_enter Try.func8, Try.ntmps8
  go_wp2_with fail
  with_reducible refine (head_any w).mono ?_
  rintro e w1 ⟨rfl, b1⟩
  have B1 := Lib.hid b1
  clear b1
  go_upto_region 9 with (first
    | (go_at_call 14; (with_reducible refine (K0.out _ B1.out).mono ?_); rintro e w2 ⟨rfl, b2⟩; have B2 := Lib.hid b2; clear b2)
    | (go_at_call 44; (with_reducible refine (KT.out _ B2.out).mono ?_); rintro e w3 ⟨A3, N3, c3, r3, rfl, m3, b3⟩; have M3 := Lib.hid m3; have B3 := Lib.hid (B2.out.trans (b3.mono B2.out.size)); clear b3 m3)
    | (go_at_call 45; (with_reducible refine (KC.out _ B3.out).mono ?_); rintro e w4 ⟨A4, N4, c4, rfl, hN4, m4, b4, b34⟩; have M4 := Lib.hid (And.intro hN4 m4); have B4 := Lib.hid b4; have B34 := Lib.hid b34; clear b4 b34 m4 hN4))
  have hlt : decide ((h : Int) < (n : Int)) = false := decide_eq_false (by omega)
  have HE : Hid (r3 = 0 ∧ N3 = (someL ms lo).length ∧ MS w3 w3.heap.size A3 (someL ms lo)) := by
    have e : timesL ms lo (h : Int) = some (someL ms lo) := by unfold timesL; rw [if_neg (by omega), if_pos (by have := H.out; omega)]
    rcases M3.out with ⟨h, _⟩ | ⟨L, h, e1, e2, hm⟩
    · rw [e] at h; cases h
    · rw [e] at h
      injection h with h
      subst h
      exact ⟨e1, e2, hm⟩
  have e3 := HE.out.1
  subst e3
  have KS := Lib.hid (same_any A3 A4 N3 c3 N4 c4 (someL ms lo) (someL ms lo) HE.out.2.1 M4.out.1 (by have := HE.out.2.1; omega) HSM w4 (HE.out.2.2.up B34.out) M4.out.2)
  rw [decide_eq_true (rfl : someL ms lo = someL ms lo)] at KS
  clear M3 M4 HE
  go_wp2_with (go_at_call 22; (with_reducible refine KS.out.mono ?_); rintro e w5 ⟨rfl, b5⟩)
  have HB5 := Lib.hid (B4.out.trans (b5.mono B4.out.size))
  go_ret
  exact ⟨rfl, HB5.out⟩
set_option maxHeartbeats 8000000 in
theorem mt_more (A : Option Addr) (n c x lo : Nat) (h : Nat) (lo0 hi0 : Int) (hlo : bits .and .i64 lo0 7 = (lo : Int)) (hlo7 : lo ≤ 7) (hx : bits .and .i64 hi0 15 = (x : Int)) (ms : List Mt) (H : Hid (n = ms.length)) (hxh : x = h + 1) (hnh : h < n) (HG : Hid (goodB ms 7 = true)) (w : World) (h0 : MS w w.heap.size A ms) :
    Calls Try.prog 8 #[.slice A n c, .int .i64 lo0, .int .i64 hi0] w fun e w' => e = .returned (.bool true) ∧ Below w.heap.size w w' := by
  obtain ⟨g0, gl0⟩ := good_sm HG.out
  have l7 : n ≤ 7 := by have := H.out; omega
  have HS5 : Hid (∀ m ∈ ms, m.1.length ≤ 5 ∧ m.2.length ≤ 5) := g0
  have HS1 : Hid (∀ m ∈ ms, m.1.length ≤ 100 ∧ m.2.length ≤ 100) := fun m hm => by have := g0 m hm; omega
  have hw : IntKind.i64.wrap ((x : Int) - 1) = (h : Int) := by rw [IntKind.wrap_i64]; omega
  have K0 : Hid (∀ W, Below w.heap.size w W → Calls Try.prog 14 #[.slice A n c, .int .i64 7] W fun e w' => e = .returned (.bool true) ∧ Below w.heap.size w w') := fun W hW => (good_any A n c ms 7 H.out (by omega) W (h0.up hW)).mono fun e w' h => ⟨by rw [← HG.out]; exact h.1, hW.trans (h.2.mono hW.size)⟩
  have KT : Hid (∀ W, Below w.heap.size w W → Calls Try.prog 44 #[.slice A n c, .agg #[.int .i64 (lo : Int), .int .i64 ((h : Int))]] W fun e w' => TQ W (timesL ms lo ((h : Int))) e w') := fun W hW => times_any A n c lo ((h : Int)) ms H.out l7 (by omega) HS1.out W (h0.up hW)
  have KC : Hid (∀ W, Below w.heap.size w W → Calls Try.prog 45 #[.slice A n c, .int .i64 0, .int .i64 (lo : Int), .agg #[.slice none 0 0, .slice none 0 0], .slice none 0 0] W fun e w' => ∃ A' N c', e = .returned (.slice A' N c') ∧ N = (someL ms lo).length ∧ MS w' w'.heap.size A' (someL ms lo) ∧ Below w.heap.size w w' ∧ Below W.heap.size W w') := fun W hW => (choose_top A n c lo ms H.out l7 (by omega) HS1.out W (h0.up hW)).mono fun e w' ⟨A', N, c', h1, h2, h3, h4⟩ => ⟨A', N, c', h1, h2, h3, hW.trans (h4.mono hW.size), h4⟩
  have hL0 := someL_few ms lo (by rw [← H.out]; exact l7)
  have HSM : Hid (smM (someL ms lo)) := fun m hm => by
    rcases Nat.lt_or_ge n lo with h | h
    · rw [someL_none ms lo (by rw [← H.out]; exact h)] at hm; cases hm
    · have := someL_small ms 100 lo HS1.out m hm
      have : 100 * lo ≤ 700 := by omega
      omega
  have KD : Hid (∀ W, Below w.heap.size w W → Calls Try.prog 45 #[.slice A n c, .int .i64 0, .int .i64 ((h : Int) + 1), .agg #[.slice none 0 0, .slice none 0 0], .slice none 0 0] W fun e w' => ∃ A' N c', e = .returned (.slice A' N c') ∧ N = (someL ms (h + 1)).length ∧ MS w' w'.heap.size A' (someL ms (h + 1)) ∧ Below w.heap.size w w' ∧ Below W.heap.size W w') := fun W hW => by
    have hc := choose_top A n c (h + 1) ms H.out l7 (by omega) HS1.out W (h0.up hW)
    rw [show ((h + 1 : Nat) : Int) = (h : Int) + 1 by omega] at hc
    exact hc.mono fun e w' ⟨A', N, c', h1, h2, h3, h4⟩ => ⟨A', N, c', h1, h2, h3, hW.trans (h4.mono hW.size), h4⟩
  have hL1 := someL_few ms (h + 1) (by rw [← H.out]; exact l7)
  have HS35 : Hid (∀ m ∈ someL ms (h + 1), m.1.length ≤ 100 ∧ m.2.length ≤ 100) := fun m hm => by
    have := someL_small ms 5 (h + 1) HS5.out m hm
    have : 5 * (h + 1) ≤ 35 := by omega
    omega
  have hwh : IntKind.i64.wrap ((h : Int) + 1) = (h : Int) + 1 := by rw [IntKind.wrap_i64]; omega
  have HTL : Hid (timesL ms lo (h : Int) = match waysF 1 (someL ms (h + 1)) with
      | none => none
      | some W => if (someL ms lo).length * W ≤ 400 then some (andL (someL ms lo) (notL (someL ms (h + 1)))) else none) := by
    show _ = _
    unfold timesL
    rw [if_neg (by omega), if_neg (by have := H.out; omega)]
    rfl
  clear h0 g0 gl0
  go_enter Try.func8, Try.ntmps8
  go_wp2_with fail
  with_reducible refine (head_any w).mono ?_
  rintro e w1 ⟨rfl, b1⟩
  have B1 := Lib.hid b1
  clear b1
  go_upto_region 9 with (first
    | (go_at_call 14; (with_reducible refine (K0.out _ B1.out).mono ?_); rintro e w2 ⟨rfl, b2⟩; have B2 := Lib.hid b2; clear b2)
    | (go_at_call 44; (with_reducible refine (KT.out _ B2.out).mono ?_); rintro e w3 ⟨A3, N3, c3, r3, rfl, m3, b3⟩; have M3 := Lib.hid m3; have B3 := Lib.hid (B2.out.trans (b3.mono B2.out.size)); clear b3 m3)
    | (go_at_call 45; (with_reducible refine (KC.out _ B3.out).mono ?_); rintro e w4 ⟨A4, N4, c4, rfl, hN4, m4, b4, b34⟩; have M4 := Lib.hid (And.intro hN4 m4); have B4 := Lib.hid b4; have B34 := Lib.hid b34; clear b4 b34 m4 hN4))
  have hlt : decide ((h : Int) < (n : Int)) = true := decide_eq_true (by omega)
  have hge : decide ((h : Int) < 0) = false := decide_eq_false (by omega)
  have hh14 : h ≤ 14 := by omega
  go_upto_region 13 with (first
    | (go_at_call 45; (with_reducible refine (KD.out _ B4.out).mono ?_); rintro e w5 ⟨A5, N5, c5, rfl, hN5, m5, b5, b45⟩; have M5 := Lib.hid (And.intro hN5 m5); have B5 := Lib.hid b5; have B45 := Lib.hid b45; have KN := Lib.hid (lnot_any A5 N5 c5 (someL ms (h + 1)) hN5 (by omega) HS35.out w5 m5); clear b5 b45 m5 hN5)
    | (go_at_call 19; (with_reducible refine KN.out.mono ?_); rintro e w6 ⟨A6, N6, c6, t6, rfl, h6, b6⟩; have M6 := Lib.hid h6; have B56 := Lib.hid b6; have B6 := Lib.hid (B5.out.trans (b6.mono B5.out.size)); clear h6 b6))
  have HTV := HTL.out
  rcases M6.out with ⟨hw6, rfl, rfl⟩ | ⟨hw6, rfl, m6⟩
  · rw [hw6] at HTV
    have HE : Hid (r3 = 23 ∧ 0 = N3) := by
      rcases M3.out with ⟨_, e1, e2⟩ | ⟨L, hL, _⟩
      · exact ⟨e1, e2.symm⟩
      · rw [HTV] at hL; cases hL
    obtain ⟨rfl, rfl⟩ := HE.out
    clear M3 M4 M5 M6 HTV hw6
    go_wp2_with fail
    go_ret
    exact ⟨rfl, B6.out⟩
  · rw [hw6] at HTV
    simp only at HTV
    have e6 : N6 = (notL (someL ms (h + 1))).length := by rw [notL_len]; have := waysF_some _ 1 N6 hw6; omega
    have l6 : N6 ≤ 400 := waysF_le _ 1 N6 (by decide) hw6
    have B46 : Hid (Below w4.heap.size w4 w6) := B45.out.trans (B56.out.mono B45.out.size)
    have hN4 : N4 ≤ 35 := by have := M4.out.1; omega
    have hPl : N4 * N6 ≤ 35 * 400 := Nat.mul_le_mul hN4 l6
    have KA := Lib.hid (land_any A4 A6 N4 c4 N6 c6 (someL ms lo) (notL (someL ms (h + 1))) ⟨M4.out.1, e6⟩ (by omega) (by omega) (by omega) ⟨HSM.out, notL_sm _ (by have := M5.out.1; omega)⟩ w6 (M4.out.2.up B46.out) m6)
    rw [← M4.out.1] at HTV
    have HANL : Hid (smM (andL (someL ms lo) (notL (someL ms (h + 1))))) := fun z hz => by
      obtain ⟨p, hp, hz⟩ := List.mem_flatMap.1 hz
      obtain ⟨q, hq, rfl⟩ := List.mem_map.1 hz
      have k1 := notL_size _ q hq
      have k0 : p.1.length ≤ 700 ∧ p.2.length ≤ 700 := by
        rcases Nat.lt_or_ge n lo with hh | hh
        · rw [someL_none ms lo (by rw [← H.out]; exact hh)] at hp; cases hp
        · have := someL_small ms 100 lo HS1.out p hp
          have : 100 * lo ≤ 700 := by omega
          omega
      have k2 := M5.out.1
      unfold joinM
      rw [List.length_append, List.length_append]
      have := hL1
      omega
    have HLN : Hid ((andL (someL ms lo) (notL (someL ms (h + 1)))).length = N4 * N6) := by show _ = _; rw [andL_len, M4.out.1, e6]
    by_cases hP : N4 * N6 ≤ 400
    · rw [decide_eq_true hP] at KA
      rw [if_pos hP] at HTV
      have HE : Hid (r3 = 0 ∧ N3 = (andL (someL ms lo) (notL (someL ms (h + 1)))).length ∧ MS w3 w3.heap.size A3 (andL (someL ms lo) (notL (someL ms (h + 1))))) := by
        rcases M3.out with ⟨e0, _⟩ | ⟨L, hL, e1, e2, hm⟩
        · rw [HTV] at e0; cases e0
        · rw [HTV] at hL
          injection hL with hL
          rw [← hL] at e2 hm
          exact ⟨e1, e2, hm⟩
      have e3 := HE.out.1
      subst e3
      have HE3 := Lib.hid (And.intro HE.out.2.1 (HE.out.2.2.up (B34.out.trans (B46.out.mono B34.out.size))))
      obtain ⟨LL, hLL⟩ : ∃ LL, LL = andL (someL ms lo) (notL (someL ms (h + 1))) := ⟨_, rfl⟩
      rw [← hLL] at KA HE3 HANL HLN
      clear M3 M4 M5 M6 HTV hw6 HE m6 hPl e6 hLL HTL
      go_wp2_with (go_at_call 18; (with_reducible refine KA.out.mono ?_); rintro e w7 ⟨v7, z7, rfl, k7⟩; obtain ⟨A7, c7, rfl, _, _, m7⟩ := k7.out; have M7 := Lib.hid m7; have B7 := Lib.hid (B6.out.trans (k7.kb.mono B6.out.size)); have KS0 := same_any A3 A7 N3 c3 LL.length c7 LL LL HE3.out.1 rfl (by have := HE3.out.1; have := HLN.out; omega) HANL w7 (HE3.out.2.up k7.kb) m7; rw [decide_eq_true (rfl : LL = LL)] at KS0; have KS := Lib.hid KS0; clear m7 k7 KS0)
      go_wp2_with (go_at_call 22; (with_reducible refine KS.out.mono ?_); rintro e w8 ⟨rfl, b8⟩; have B8 := Lib.hid (B7.out.trans (b8.mono B7.out.size)))
      go_ret
      exact ⟨rfl, B8.out⟩
    · rw [decide_eq_false hP] at KA
      rw [if_neg hP] at HTV
      have HE : Hid (r3 = 23 ∧ 0 = N3) := by
        rcases M3.out with ⟨_, e1, e2⟩ | ⟨L, hL, _⟩
        · exact ⟨e1, e2.symm⟩
        · rw [HTV] at hL; cases hL
      obtain ⟨rfl, rfl⟩ := HE.out
      clear M3 M4 M5 M6 HTV hw6 m6 HTL HE e6 HLN
      go_wp2_with ((go_at_call 18; (with_reducible refine KA.out.mono ?_); rintro e w7 ⟨v7, z7, rfl, k7⟩; obtain ⟨A7, c7, rfl, _, _, _⟩ := k7.out; have B7 := Lib.hid (B6.out.trans (k7.kb.mono B6.out.size)); clear k7))
      go_ret
      exact ⟨rfl, B7.out⟩
theorem mt_any (A : Option Addr) (n c : Nat) (lo0 hi0 : Int) (ms : List Mt) (H : Hid (n = ms.length)) (hn : n ≤ 9223372036854775807) (w : World) (h0 : MS w w.heap.size A ms) :
    Calls Try.prog 8 #[.slice A n c, .int .i64 lo0, .int .i64 hi0] w fun e w' => e = .returned (.bool true) ∧ Below w.heap.size w w' := by
  cases hg : goodB ms 7 with
  | false => exact mt_no A n c lo0 hi0 ms H hn hg w h0
  | true =>
    obtain ⟨lo, hlo, hlo7⟩ := and_7 lo0
    obtain ⟨x, hx, hx15⟩ := and_15 hi0
    rcases Nat.eq_zero_or_pos x with h | h
    · exact mt_neg A n c x lo lo0 hi0 hlo hlo7 hx ms H h hg w h0
    · rcases Nat.lt_or_ge (x - 1) n with h1 | h1
      · exact mt_more A n c x lo (x - 1) lo0 hi0 hlo hlo7 hx ms H (by omega) h1 hg w h0
      · exact mt_all A n c x lo (x - 1) lo0 hi0 hlo hlo7 hx ms H (by omega) (by omega) h1 hg w h0
end Go.Proofs.Ytcgoeokocabelaa
