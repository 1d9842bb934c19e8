/- MatchJoins answers true. -/
import Derived.Test.YtcgoeokocabelaaMaJo
import Derived.Deep.DeepCutAuto
namespace Go.Proofs.Ytcgoeokocabelaa
open Go.RowKit
set_option maxRecDepth 100000

theorem ms_two {w' : World} {B : Nat} {A : Option Addr} {zs ys : List (Value × Value)} {ms ns : List Mt} (h1 : CS w' B A (zC zs ++ zC ys)) (m1 : MZ w' B zs ms) (m2 : MZ w' B ys ns) : MS w' B A (ms ++ ns) := ⟨zs ++ ys, by rw [zC_app]; exact h1, m1.app m2⟩
set_option maxHeartbeats 4000000 in
theorem joins_no (A0 A1 : Option Addr) (n0 c0 n1 c1 : Nat) (ms ns : List Mt) (H : Hid (n0 = ms.length ∧ n1 = ns.length)) (l0 : n0 ≤ 9223372036854775807) (l1 : n1 ≤ 9223372036854775807) (HG : Hid ((goodB ms 25 && goodB ns 25) = false)) (w : World) (h0 : MS w w.heap.size A0 ms) (h1 : MS w w.heap.size A1 ns) :
    Calls Try.prog 3 #[.slice A0 n0 c0, .slice A1 n1 c1] w fun e w' => e = .returned (.bool true) ∧ Below w.heap.size w w' := by
  have K0 : Hid (∀ W, Below w.heap.size w W → Calls Try.prog 14 #[.slice A0 n0 c0, .int .i64 25] W fun e w' => e = .returned (.bool (goodB ms 25)) ∧ Below w.heap.size w w') := fun W hW => (good_any A0 n0 c0 ms 25 H.out.1 l0 W (h0.up hW)).mono fun e w' h => ⟨h.1, hW.trans (h.2.mono hW.size)⟩
  have K1 : Hid (∀ W, Below w.heap.size w W → Calls Try.prog 14 #[.slice A1 n1 c1, .int .i64 25] W fun e w' => e = .returned (.bool (goodB ns 25)) ∧ Below w.heap.size w w') := fun W hW => (good_any A1 n1 c1 ns 25 H.out.2 l1 W (h1.up hW)).mono fun e w' h => ⟨h.1, hW.trans (h.2.mono hW.size)⟩
  obtain ⟨g0, hg0⟩ : ∃ g, g = goodB ms 25 := ⟨_, rfl⟩
  obtain ⟨g1, hg1⟩ : ∃ g, g = goodB ns 25 := ⟨_, rfl⟩
  rw [← hg0] at K0 HG
  rw [← hg1] at K1 HG
  clear h0 h1 hg0 hg1
  go_enter Try.func3, Try.ntmps3
  go_wp2_with fail
  with_reducible refine (head_any w).mono ?_
  rintro e w1 ⟨rfl, b1⟩
  have B1 := Lib.hid b1
  clear b1
  cases g0
  · go_wp2_with (first
      | (go_at_call 14; (with_reducible refine (K0.out _ B1.out).mono ?_); rintro e w2 ⟨rfl, b2⟩; have B2 := Lib.hid b2; clear b2))
    go_ret
    exact ⟨rfl, B2.out⟩
  · cases g1
    · go_wp2_with (first
        | (go_at_call 14; (with_reducible refine (K0.out _ B1.out).mono ?_); rintro e w2 ⟨rfl, b2⟩; have B2 := Lib.hid b2; clear b2)
        | (go_at_call 14; (with_reducible refine (K1.out _ B2.out).mono ?_); rintro e w3 ⟨rfl, b3⟩; have B3 := Lib.hid b3; clear b3))
      go_ret
      exact ⟨rfl, B3.out⟩
    · cases HG.out
theorem NotQ.uni {w w' : World} {ms : List Mt} {e : Ending} (h : NotQ w ms e w') : ∃ A N c er, e = .returned (.tuple #[.slice A N c, .int .i64 er]) ∧ ((waysF 1 ms = none ∧ er = 23 ∧ N = 0) ∨ (waysF 1 ms = some N ∧ er = 0 ∧ MS w' w'.heap.size A (notL ms))) ∧ Below w.heap.size w w' := by
  obtain ⟨h1, h2, h3⟩ := h
  cases hw : waysF 1 ms with
  | none => exact ⟨none, 0, 0, 23, h1 hw, .inl ⟨rfl, rfl, rfl⟩, h3⟩
  | some W =>
    obtain ⟨A, c, he, _, _, hm⟩ := h2 W hw
    exact ⟨A, W, c, 0, he, .inr ⟨rfl, rfl, hm⟩, h3⟩
set_option maxHeartbeats 16000000 in
theorem joins_yes (A0 A1 : Option Addr) (n0 c0 n1 c1 : Nat) (ms ns : List Mt) (H : Hid (n0 = ms.length ∧ n1 = ns.length)) (HG : Hid (goodB ms 25 = true ∧ goodB ns 25 = true)) (w : World) (h0 : MS w w.heap.size A0 ms) (h1 : MS w w.heap.size A1 ns) :
    Calls Try.prog 3 #[.slice A0 n0 c0, .slice A1 n1 c1] w fun e w' => e = .returned (.bool true) ∧ Below w.heap.size w w' := by
  obtain ⟨g0, gl0⟩ := good_sm HG.out.1
  obtain ⟨g1, gl1⟩ := good_sm HG.out.2
  have l0 : n0 ≤ 25 := by have := H.out.1; omega
  have l1 : n1 ≤ 25 := by have := H.out.2; omega
  have HS0 : Hid (smM ms) := fun m hm => by have := g0 m hm; omega
  have HS1 : Hid (smM ns) := fun m hm => by have := g1 m hm; omega
  have K0 : Hid (∀ W, Below w.heap.size w W → Calls Try.prog 14 #[.slice A0 n0 c0, .int .i64 25] W fun e w' => e = .returned (.bool true) ∧ Below w.heap.size w w') := fun W hW => (good_any A0 n0 c0 ms 25 H.out.1 (by omega) W (h0.up hW)).mono fun e w' h => ⟨by rw [← HG.out.1]; exact h.1, hW.trans (h.2.mono hW.size)⟩
  have K1 : Hid (∀ W, Below w.heap.size w W → Calls Try.prog 14 #[.slice A1 n1 c1, .int .i64 25] W fun e w' => e = .returned (.bool true) ∧ Below w.heap.size w w') := fun W hW => (good_any A1 n1 c1 ns 25 H.out.2 (by omega) W (h1.up hW)).mono fun e w' h => ⟨by rw [← HG.out.2]; exact h.1, hW.trans (h.2.mono hW.size)⟩
  have KO : Hid (∀ W, Below w.heap.size w W → Calls Try.prog 15 #[.slice A0 n0 c0, .slice A1 n1 c1] W fun e w' => ∃ A N c, e = .returned (.tuple #[.slice A N c, .int .i64 0]) ∧ N = n0 + n1 ∧ MS w' w'.heap.size A (ms ++ ns) ∧ Below w.heap.size w w') := fun W hW => (or_any A0 A1 n0 c0 n1 c1 ms ns H.out (by omega) (HS0.out.app HS1.out) W (h0.up hW) (h1.up hW)).mono fun e w' ⟨v, zs, he, hk⟩ => by
    obtain ⟨A, c, rfl, _, _, hm⟩ := hk.out
    exact ⟨A, _, c, he, by rw [List.length_append, H.out.1, H.out.2], hm, hW.trans (hk.kb.mono hW.size)⟩
  have KA : Hid (∀ W, Below w.heap.size w W → Calls Try.prog 16 #[.slice A0 n0 c0, .slice A1 n1 c1] W fun e w' => AndQ W ms ns e w') := fun W hW => and_all A0 A1 n0 c0 n1 c1 ms ns H.out.1 H.out.2 (by omega) HS0.out HS1.out W (h0.up hW) (h1.up hW)
  have KN : Hid (∀ W, Below w.heap.size w W → Calls Try.prog 17 #[.slice A0 n0 c0] W (NotQ W ms)) := fun W hW => not_any A0 n0 c0 ms H.out.1 (by omega) HS0.out W (h0.up hW)
  have hpn : n0 * n1 ≤ 25 * 25 := Nat.mul_le_mul l0 l1
  have KB : Hid (∀ W, Below w.heap.size w W → Calls Try.prog 18 #[.slice A0 n0 c0, .slice A1 n1 c1] W fun e w' => ∃ A N c t, e = .returned (.tuple #[.slice A N c, .bool t]) ∧ ((t = true ∧ ms.length * ns.length ≤ 400) ∨ (t = false ∧ 400 < ms.length * ns.length)) ∧ N = ms.length * ns.length ∧ MS w' w'.heap.size A (andL ms ns) ∧ Below w.heap.size w w' ∧ Below W.heap.size W w') := fun W hW => (land_any A0 A1 n0 c0 n1 c1 ms ns H.out (by omega) (by omega) (by omega) ⟨HS0.out, HS1.out⟩ W (h0.up hW) (h1.up hW)).mono fun e w' ⟨v, zs, he, hk⟩ => by
    obtain ⟨A, c, rfl, _, _, hm⟩ := hk.out
    rw [H.out.1, H.out.2] at he
    exact ⟨A, _, c, _, he, (by by_cases hq : ms.length * ns.length ≤ 400; (rw [decide_eq_true hq]; exact .inl ⟨rfl, hq⟩); (rw [decide_eq_false hq]; exact .inr ⟨rfl, by omega⟩)), andL_len ms ns, hm, hW.trans (hk.kb.mono hW.size), hk.kb⟩
  have KM : Hid (∀ W, Below w.heap.size w W → Calls Try.prog 19 #[.slice A0 n0 c0] W (LNotQ W ms)) := fun W hW => lnot_any A0 n0 c0 ms H.out.1 (by omega) (fun m hm => by have := g0 m hm; omega) W (h0.up hW)
  obtain ⟨zs0, cs0, mz0⟩ := id h0
  obtain ⟨zs1, cs1, mz1⟩ := id h1
  have HZ0 : Hid (zs0.length = n0 ∧ CS w w.heap.size A0 (zC zs0) ∧ MZ w w.heap.size zs0 ms) := ⟨by rw [mz0.len, H.out.1], cs0, mz0⟩
  have HZ1 : Hid (zs1.length = n1 ∧ CS w w.heap.size A1 (zC zs1) ∧ MZ w w.heap.size zs1 ns) := ⟨by rw [mz1.len, H.out.2], cs1, mz1⟩
  have HSA : Hid (smM (andL ms ns)) := fun x hx => by
    obtain ⟨y, hy, hx⟩ := List.mem_flatMap.1 hx
    obtain ⟨z, hz, rfl⟩ := List.mem_map.1 hx
    have k0 := g0 y hy
    have k1 := g1 z hz
    unfold joinM
    rw [List.length_append, List.length_append]
    omega
  have HSN : Hid (smM (notL ms)) := notL_sm ms (by have := H.out.1; omega)
  have HM0 := Lib.hid h0
  have HM1 := Lib.hid h1
  clear h0 h1 g0 g1 gl0 gl1 hpn cs0 cs1 mz0 mz1
  go_enter Try.func3, Try.ntmps3
  go_wp2_with fail
  with_reducible refine (head_any w).mono ?_
  rintro e w1 ⟨rfl, b1⟩
  have B1 := Lib.hid b1
  clear b1
  go_upto_region 11 with (first
    | (go_at_call 14; (with_reducible refine (K0.out _ B1.out).mono ?_); rintro e w2 ⟨rfl, b2⟩; have B2 := Lib.hid b2; clear b2)
    | (go_at_call 14; (with_reducible refine (K1.out _ B2.out).mono ?_); rintro e w3 ⟨rfl, b3⟩; have B3 := Lib.hid b3; clear b3)
    | (go_at_call 15; (with_reducible refine (KO.out _ B3.out).mono ?_); rintro e w4 ⟨A4, N4, c4, rfl, hN4, m4, b4⟩; have M4 := Lib.hid (And.intro hN4 m4); have B4 := Lib.hid b4; clear b4 m4 hN4)
    | (go_at_call 16; (with_reducible refine (KA.out _ B4.out).mono ?_); rintro e w5 ⟨A5, N5, c5, r5, rfl, m5, b5⟩; have M5 := Lib.hid m5; have B45 := Lib.hid b5; have B5 := Lib.hid (B4.out.trans (b5.mono B4.out.size)); clear b5 m5)
    | (go_at_call 17; (with_reducible refine (KN.out _ B5.out).mono ?_); rintro e w6 h6; obtain ⟨A6, N6, c6, r6, rfl, m6, b6⟩ := h6.uni; have M6 := Lib.hid m6; have B56 := Lib.hid b6; have B6 := Lib.hid (B5.out.trans (b6.mono B5.out.size)); clear b6 m6 h6)
    | (go_at_call 18; (with_reducible refine (KB.out _ B6.out).mono ?_); rintro e w7 ⟨A7, N7, c7, t7, rfl, ht7, hN7, m7, b7, b67⟩; have M7 := Lib.hid (And.intro ht7 (And.intro hN7 m7)); clear ht7; have B7 := Lib.hid b7; have B67 := Lib.hid b67; clear b7 m7 hN7 b67)
    | (go_at_call 19; (with_reducible refine (KM.out _ B7.out).mono ?_); rintro e w8 ⟨A8, N8, c8, t8, rfl, m8, b8⟩; have M8 := Lib.hid m8; have B78 := Lib.hid b8; have B8 := Lib.hid (B7.out.trans (b8.mono B7.out.size)); clear b8 m8))
  obtain ⟨ba, hba⟩ : ∃ b, b = holdsL ms := ⟨_, rfl⟩
  obtain ⟨bb, hbb⟩ : ∃ b, b = holdsL ns := ⟨_, rfl⟩
  have L0 := Lib.hid l0
  have L1 := Lib.hid l1
  have bw6 := B56.out.trans (B67.out.mono B56.out.size)
  have HM5' : Hid (∀ W, Below w8.heap.size w8 W → ∀ X : World, True) := fun _ _ _ => trivial
  have KHa : Hid (∀ W, Below w8.heap.size w8 W → Calls Try.prog 21 #[.slice A0 n0 c0] W fun e w' => e = .returned (.bool ba) ∧ Below w8.heap.size w8 w') := fun W hW => (holds_any A0 n0 c0 ms H.out.1 (by omega) W (HM0.out.up (B8.out.trans (hW.mono B8.out.size)))).mono fun e w' h => ⟨by rw [hba]; exact h.1, hW.trans (h.2.mono hW.size)⟩
  have KLa : Hid (∀ W, Below w8.heap.size w8 W → Calls Try.prog 20 #[.slice A0 n0 c0] W fun e w' => e = .returned (.bool ba) ∧ Below w8.heap.size w8 w') := fun W hW => (lholds_any A0 n0 c0 ms H.out.1 (by omega) W (HM0.out.up (B8.out.trans (hW.mono B8.out.size)))).mono fun e w' h => ⟨by rw [hba]; exact h.1, hW.trans (h.2.mono hW.size)⟩
  have KLb : Hid (∀ W, Below w8.heap.size w8 W → Calls Try.prog 20 #[.slice A1 n1 c1] W fun e w' => e = .returned (.bool bb) ∧ Below w8.heap.size w8 w') := fun W hW => (lholds_any A1 n1 c1 ns H.out.2 (by omega) W (HM1.out.up (B8.out.trans (hW.mono B8.out.size)))).mono fun e w' h => ⟨by rw [hbb]; exact h.1, hW.trans (h.2.mono hW.size)⟩
  have B48 : Hid (Below w4.heap.size w4 w8) := B45.out.trans ((B56.out.trans ((B67.out.trans (B78.out.mono B67.out.size)).mono B56.out.size)).mono B45.out.size)
  have M48 : Hid (N4 = (ms ++ ns).length ∧ MS w8 w8.heap.size A4 (ms ++ ns)) := ⟨by rw [M4.out.1, List.length_append, H.out.1, H.out.2], M4.out.2.up B48.out⟩
  have KHo : Hid (∀ W, Below w8.heap.size w8 W → Calls Try.prog 21 #[.slice A4 N4 c4] W fun e w' => e = .returned (.bool (ba || bb)) ∧ Below w8.heap.size w8 w') := fun W hW => (holds_any A4 N4 c4 (ms ++ ns) M48.out.1 (by have := M4.out.1; omega) W (M48.out.2.up hW)).mono fun e w' h => ⟨by rw [hba, hbb, ← holdsL_app]; exact h.1, hW.trans (h.2.mono hW.size)⟩
  have KS4 : Hid (∀ W A c, Below w8.heap.size w8 W → MS W W.heap.size A (ms ++ ns) → Calls Try.prog 22 #[.slice A4 N4 c4, .slice A N4 c] W fun e w' => e = .returned (.bool true) ∧ Below w8.heap.size w8 w') := fun W A c hW hA => (same_any A4 A N4 c4 N4 c (ms ++ ns) (ms ++ ns) M48.out.1 M48.out.1 (by have := M4.out.1; omega) (HS0.out.app HS1.out) W (M48.out.2.up hW) hA).mono fun e w' h => ⟨by rw [← decide_eq_true (rfl : ms ++ ns = ms ++ ns)]; exact h.1, hW.trans (h.2.mono hW.size)⟩
  have hN4 : n0 + n1 = N4 := M4.out.1.symm
  have HBA := Lib.hid (And.intro hba hbb)
  have BR := Lib.hid (Below.refl w8.heap.size w8)
  clear bw6 HM5' hba hbb K0 K1 KO KA KN KB KM B1 B2 B3
  go_cut [86] (fun s wx => s = .bool false ∧ Hid (Below w8.heap.size w8 wx))
  case first =>
    clear HBA M5 M6 M7 M8
    cases ba <;> cases bb
    all_goals
      go_wp2_with (first
        | (go_at_call 21; (with_reducible refine (KHa.out _ BR.out).mono ?_); rintro e w5 ⟨rfl, b5⟩)
        | (go_at_call 20; (with_reducible refine (KLa.out _ b5).mono ?_); rintro e w6 ⟨rfl, b6⟩)
        | (at_builtin; (refine wpList_appG elMt (w6.alloc (.cells #[] 34)) rfl (.tmp 66) (.tmp 67) rfl w6.heap.size (.slice (some ⟨w6.heap.size, 0, none⟩) 0 0) 0 [] rfl (own_lit w6 34 2 (0, 0) rfl) A0 n0 c0 w.heap.size (zC zs0) rfl (by rw [zC_len, HZ0.out.1]) HZ0.out.2.2.cells (HZ0.out.2.1.below (B8.out.trans ((b6.alloc b6.size _).mono B8.out.size))) n0 (by omega) (by omega) (by simp) ?_; intro v7 w7 hown7 hg7 _; have b7 := own_grow (own_lit w6 34 2 (0, 0) rfl) b6.size (b6.alloc b6.size _) (by simp) hg7; have b67 := own_grow (own_lit w6 34 2 (0, 0) rfl) (Nat.le_refl _) ((Below.refl _ w6).alloc (Nat.le_refl _) _) (by simp) hg7))
        | (at_builtin; (refine wpList_appG elMt w7 rfl (.tmp 68) (.tmp 69) rfl w6.heap.size v7 n0 ([] ++ zC zs0) rfl hown7 A1 n1 c1 w.heap.size (zC zs1) rfl (by rw [zC_len, HZ1.out.1]) HZ1.out.2.2.cells (HZ1.out.2.1.below (B8.out.trans (b7.mono B8.out.size))) N4 hN4 (by omega) b67.size ?_; intro v9 w9 hown9 hg9 _; have b9 := own_grow hown7 b6.size b7 b67.size hg9; obtain ⟨A9, c9, rfl, _, _, cs9, _⟩ := own_form hown9; rw [List.nil_append] at cs9; have m9 := ms_two cs9 ((HZ0.out.2.2.below (B8.out.trans (b9.mono B8.out.size))).more (B8.out.trans (b9.mono B8.out.size)).size) ((HZ1.out.2.2.below (B8.out.trans (b9.mono B8.out.size))).more (B8.out.trans (b9.mono B8.out.size)).size)))
        | (go_at_call 22; (with_reducible refine (KS4.out _ A9 c9 b9 m9).mono ?_); rintro e w10 ⟨rfl, b10⟩)
        | (go_at_call 21; (with_reducible refine (KHo.out _ b10).mono ?_); rintro e w11 ⟨rfl, b11⟩)
        | (go_at_call 20; (with_reducible refine (KLa.out _ b11).mono ?_); rintro e w12 ⟨rfl, b12⟩)
        | (go_at_call 20; (with_reducible refine (KLb.out _ b12).mono ?_); rintro e w13 ⟨rfl, b13⟩))
      go_meet
      case rel => exact ⟨rfl, by assumption⟩
  case rest =>
    obtain ⟨rfl, HBc⟩ := hcut
    go_upto_region 13 with fail
    go_cut [123] (fun s wx => s = .bool false ∧ Hid (Below w8.heap.size w8 wx))
    case first =>
      have B58 : Hid (Below w5.heap.size w5 w8) := B56.out.trans ((B67.out.trans (B78.out.mono B67.out.size)).mono B56.out.size)
      rcases M7.out.1 with ⟨rfl, hp⟩ | ⟨rfl, hp⟩
      · rcases M5.out with ⟨_, rfl, e5, m5⟩ | ⟨hq, _, _⟩
        · have KSx : Hid (∀ W, Below w8.heap.size w8 W → Calls Try.prog 22 #[.slice A5 N5 c5, .slice A7 N7 c7] W fun e w' => e = .returned (.bool true) ∧ Below w8.heap.size w8 w') := fun W hW => (same_any A5 A7 N5 c5 N7 c7 (andL ms ns) (andL ms ns) (show _ = _ by rw [andL_len, e5]) (show _ = _ by rw [andL_len, M7.out.2.1]) (by omega) HSA.out W ((m5.up B58.out).up hW) ((M7.out.2.2.up B78.out).up hW)).mono fun e w' h => ⟨by rw [← decide_eq_true (rfl : andL ms ns = andL ms ns)]; exact h.1, hW.trans (h.2.mono hW.size)⟩
          have KHx : Hid (∀ W, Below w8.heap.size w8 W → Calls Try.prog 21 #[.slice A5 N5 c5] W fun e w' => e = .returned (.bool (ba && bb)) ∧ Below w8.heap.size w8 w') := fun W hW => (holds_any A5 N5 c5 (andL ms ns) (show _ = _ by rw [andL_len, e5]) (by omega) W ((m5.up B58.out).up hW)).mono fun e w' h => ⟨by rw [HBA.out.1, HBA.out.2, ← holdsL_and]; exact h.1, hW.trans (h.2.mono hW.size)⟩
          clear e5 m5 HBA M5 M6 M7 M8
          cases ba <;> cases bb
          all_goals
            go_wp2_with (first
              | (go_at_call 22; (with_reducible refine (KSx.out _ HBc.out).mono ?_); rintro e w15 ⟨rfl, b15⟩)
              | (go_at_call 21; (with_reducible refine (KHx.out _ b15).mono ?_); rintro e w16 ⟨rfl, b16⟩)
              | (go_at_call 20; (with_reducible refine (KLa.out _ b16).mono ?_); rintro e w17 ⟨rfl, b17⟩)
              | (go_at_call 20; (with_reducible refine (KLb.out _ b17).mono ?_); rintro e w18 ⟨rfl, b18⟩))
            go_meet
            case rel => exact ⟨rfl, by assumption⟩
        · omega
      · rcases M5.out with ⟨hq, _⟩ | ⟨_, rfl, rfl⟩
        · omega
        · clear M5 M6 M7 M8
          go_wp2_with fail
          go_meet
          case rel => exact ⟨rfl, HBc⟩
    case rest =>
      obtain ⟨rfl, HBd⟩ := hcut
      have B68 : Hid (Below w6.heap.size w6 w8) := B67.out.trans (B78.out.mono B67.out.size)
      have HBE := Lib.hid (B8.out.trans (HBd.out.mono B8.out.size))
      rcases M6.out with ⟨hw, rfl, rfl⟩ | ⟨hw, rfl, m6⟩
      · rcases M8.out with ⟨_, rfl, rfl⟩ | ⟨hv, _⟩
        · clear M5 M6 M7 M8 hw
          go_wp2_with fail
          go_ret
          exact ⟨rfl, HBE.out⟩
        · rw [hw] at hv
          cases hv
      · rcases M8.out with ⟨hv, _⟩ | ⟨hv, rfl, m8⟩
        · rw [hw] at hv
          cases hv
        · have e68 : N6 = N8 := by rw [hw] at hv; injection hv
          have e6 : N6 = (notL ms).length := by rw [notL_len]; have := waysF_some ms 1 N6 hw; omega
          have l6 : N6 ≤ 400 := waysF_le ms 1 N6 (by decide) hw
          have KSn : Hid (∀ W, Below w8.heap.size w8 W → Calls Try.prog 22 #[.slice A6 N6 c6, .slice A8 N8 c8] W fun e w' => e = .returned (.bool true) ∧ Below w8.heap.size w8 w') := fun W hW => (same_any A6 A8 N6 c6 N8 c8 (notL ms) (notL ms) e6 (show _ = _ by rw [← e68, e6]) (by omega) HSN.out W ((m6.up B68.out).up hW) (m8.up hW)).mono fun e w' h => ⟨by rw [← decide_eq_true (rfl : notL ms = notL ms)]; exact h.1, hW.trans (h.2.mono hW.size)⟩
          have KHn : Hid (∀ W, Below w8.heap.size w8 W → Calls Try.prog 21 #[.slice A6 N6 c6] W fun e w' => e = .returned (.bool (!ba)) ∧ Below w8.heap.size w8 w') := fun W hW => (holds_any A6 N6 c6 (notL ms) e6 (by omega) W ((m6.up B68.out).up hW)).mono fun e w' h => ⟨by rw [HBA.out.1, ← holdsL_not]; exact h.1, hW.trans (h.2.mono hW.size)⟩
          clear e6 m6 m8 l6 e68 hw hv HBA M5 M6 M7 M8
          cases ba
          all_goals
            go_wp2_with (first
              | (go_at_call 22; (with_reducible refine (KSn.out _ HBd.out).mono ?_); rintro e w15 ⟨rfl, b15⟩)
              | (go_at_call 21; (with_reducible refine (KHn.out _ b15).mono ?_); rintro e w16 ⟨rfl, b16⟩)
              | (go_at_call 20; (with_reducible refine (KLa.out _ b16).mono ?_); rintro e w17 ⟨rfl, b17⟩))
            have HB17 := Lib.hid (B8.out.trans (b17.mono B8.out.size))
            go_ret
            exact ⟨rfl, HB17.out⟩

end Go.Proofs.Ytcgoeokocabelaa
