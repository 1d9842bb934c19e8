/- MatchCounts answers true. -/
import Derived.Test.YtcgoeokocabelaaMaEm
import Derived.Test.YtcgoeokocabelaaMaLk
namespace Go.Proofs.Ytcgoeokocabelaa
open Go.RowKit
set_option maxRecDepth 100000

theorem ofL_out (l : List Sp) : ∀ m ∈ ofL l, m.2 = [] := fun m hm => by
  obtain ⟨s, _, rfl⟩ := List.mem_map.1 hm
  rfl
theorem times_holds (a : List Mt) (h : ∀ m ∈ a, m.2 = []) (lo hi : Nat) (L : List Mt) (hL : timesL a lo (hi : Int) = some L) : holdsL L = (decide (lo ≤ a.length) && decide (a.length ≤ hi)) := by
  unfold timesL at hL
  rw [if_neg (by omega)] at hL
  by_cases h1 : a.length ≤ hi
  · rw [if_pos (by omega)] at hL
    injection hL with hL
    rw [← hL, holds_some a h, decide_eq_true h1, Bool.and_true]
  · rw [if_neg (by omega)] at hL
    cases hw : waysF 1 (someL a ((hi : Int).toNat + 1)) with
    | none => rw [hw] at hL; cases hL
    | some W =>
      rw [hw] at hL
      simp only at hL
      by_cases h2 : (someL a lo).length * W ≤ 400
      · rw [if_pos h2] at hL
        injection hL with hL
        rw [← hL, holdsL_and, holdsL_not, holds_some a h, holds_some a h, decide_eq_false h1, Bool.and_false, show decide ((hi : Int).toNat + 1 ≤ a.length) = true from decide_eq_true (by omega), Bool.not_true, Bool.and_false]
      · rw [if_neg h2] at hL
        cases hL
theorem counts_bool (n lo hi : Nat) : ((decide ((lo : Int) ≤ (n : Int)) && decide ((n : Int) ≤ (hi : Int)))) = (decide (lo ≤ n) && decide (n ≤ hi)) := by
  by_cases h1 : lo ≤ n <;> by_cases h2 : n ≤ hi <;> simp [h1, h2] <;> omega
set_option maxHeartbeats 4000000 in
theorem counts_any (n0 lo0 hi0 : Int) (w : World) :
    Calls Try.prog 9 #[.int .i64 n0, .int .i64 lo0, .int .i64 hi0] w fun e w' => e = .returned (.bool true) ∧ Below w.heap.size w w' := by
  obtain ⟨n, hn, hn7⟩ := and_7 n0
  obtain ⟨lo, hlo, hlo7⟩ := and_7 lo0
  obtain ⟨h, hh, hh7⟩ := and_7 hi0
  obtain ⟨hi, hhi⟩ : ∃ hi, lo + h = hi := ⟨_, rfl⟩
  have hwh : IntKind.i64.wrap ((lo : Int) + (h : Int)) = (hi : Int) := by rw [IntKind.wrap_i64]; omega
  clear hhi
  go_enter Try.func9, Try.ntmps9
  go_wp2_with fail
  with_reducible refine (head_any w).mono ?_
  rintro e w1 ⟨rfl, b1⟩
  have bA : Below w1.heap.size w1 (w1.alloc (.cells #[] 38)) := (Below.refl _ _).alloc (Nat.le_refl _) _
  have HO : Hid ((w1.alloc (.cells #[] 38)).ownsRow w1.heap.size 38 4 (.slice (some ⟨w1.heap.size, 0, none⟩) 0 0) 0 (spCs (spK 0))) := own_lit w1 _ 4 (0, 0) rfl
  have HB := Lib.hid bA
  have B1 := Lib.hid b1
  clear bA b1
  go_wp2_with fail
  go_loopw [7, 8] (fun s3 i wr => ∃ (k : Nat) (v : Value), k ≤ n ∧ i = .int .i64 k ∧ v = s3 ∧ Hid (wr.ownsRow w1.heap.size 38 4 v k (spCs (spK k))) ∧ Hid (Below w1.heap.size w1 wr)) (fun _ i _ => n - (intOf i).toNat)
  case atStart => exact ⟨0, _, Nat.zero_le _, rfl, rfl, HO, HB⟩
  case round =>
    obtain ⟨k, v, hk, rfl, rfl, HQ, HQB⟩ := hrel
    by_cases hlt : k < n
    · have HLT := Lib.hid hlt
      obtain ⟨X, hX⟩ : ∃ X, wr.alloc (.cells #[.int .i64 (k : Int), .int .i64 (k : Int), .int .i64 0, .int .i64 0] 38) = X := ⟨_, rfl⟩
      have bX : Below wr.heap.size wr X := by rw [← hX]; exact (Below.refl _ _).alloc (Nat.le_refl _) _
      have HCN : Hid (CS X X.heap.size (some ⟨wr.heap.size, 0, none⟩) (spCs [((k : Int), (k : Int), 0, 0)])) := by
        have h := cells_new wr #[.int .i64 (k : Int), .int .i64 (k : Int), .int .i64 0, .int .i64 0] 38 X.heap.size (by rw [← hX]; simp)
        rw [hX] at h
        exact h
      have HX := Lib.hid hX
      have HOX := Lib.hid (own_below HQ.out bX)
      have HBX := Lib.hid (HQB.out.trans (bX.mono HQB.out.size))
      have hbs := HBX.out.size
      have wk : IntKind.i64.wrap ((k : Int) + 1) = (k : Int) + 1 := by rw [IntKind.wrap_i64]; omega
      clear hX bX
      go_wp2_with (at_builtin; (rw [HX.out]; refine wpList_appR elSp X rfl (.tmp 27) (.tmp 31) rfl w1.heap.size v k (spCs (spK k)) rfl HOX.out (some ⟨wr.heap.size, 0, none⟩) 1 1 X.heap.size (spCs [((k : Int), (k : Int), 0, 0)]) rfl rfl (spCs_one _) HCN.out (k + 1) rfl (by omega) hbs ?_; intro v4 w4 hown4 hg4 _; rw [← spCs_app, ← spK_succ] at hown4; have H4 := Lib.hid (And.intro hown4 (own_grow HOX.out (Nat.le_refl _) HBX.out hbs hg4)); clear hown4 hg4))
      exact ⟨⟨k + 1, v4, HLT.out, by go_num, rfl, H4.out.1, H4.out.2⟩, by have := HLT.out; simp [intOf]; omega⟩
    · obtain rfl : n = k := by omega
      obtain ⟨A, c, rfl, _, _, hcs, _⟩ := own_form HQ.out
      have KO := Lib.hid (of_any A n c (spK n) (spK_len n).symm (by omega) wr hcs)
      have HBR := Lib.hid (B1.out.trans (HQB.out.mono B1.out.size))
      clear hcs hk hlt
      go_wp2_with fail
      with_reducible refine KO.out.mono ?_
      rintro e w5 ⟨v5, zs, rfl, hmk⟩
      obtain ⟨A5, c5, e5, _, _, m5⟩ := hmk.out
      rw [ofL_len, spK_len] at e5
      subst e5
      have KT := Lib.hid (times_any A5 n c5 lo (hi : Int) (ofL (spK n)) (show _ = _ by rw [ofL_len, spK_len]) hn7 (by omega) (fun m hm => by have := ofL_small (spK n) m hm; obtain ⟨s, _, rfl⟩ := List.mem_map.1 hm; exact ⟨by show 1 ≤ 100; decide, by show 0 ≤ 100; decide⟩) w5 m5)
      have HB5 := Lib.hid (HBR.out.trans (hmk.kb.mono HBR.out.size))
      clear hmk m5 KO
      go_wp2_with fail
      with_reducible refine KT.out.mono ?_
      rintro e w6 ⟨A6, N6, c6, er, rfl, h6, b6⟩
      have HB6 := Lib.hid (HB5.out.trans (b6.mono HB5.out.size))
      rcases h6 with ⟨_, rfl, rfl⟩ | ⟨L, hL, rfl, hN6, m6⟩
      · clear KT b6
        go_wp2_with fail
        go_ret
        exact ⟨rfl, HB6.out⟩
      · have hh := times_holds (ofL (spK n)) (ofL_out _) lo hi L hL
        rw [ofL_len, spK_len] at hh
        have hl : L.length ≤ 100000 := by
          unfold timesL at hL
          rw [if_neg (by omega)] at hL
          have l7 : (ofL (spK n)).length ≤ 7 := by rw [ofL_len, spK_len]; exact hn7
          by_cases q1 : ((ofL (spK n)).length : Int) ≤ hi
          · rw [if_pos q1] at hL
            injection hL with hL
            rw [← hL]
            have := someL_few (ofL (spK n)) lo l7
            omega
          · rw [if_neg q1] at hL
            cases hw : waysF 1 (someL (ofL (spK n)) ((hi : Int).toNat + 1)) with
            | none => rw [hw] at hL; cases hL
            | some W =>
              rw [hw] at hL
              simp only at hL
              by_cases h2 : (someL (ofL (spK n)) lo).length * W ≤ 400
              · rw [if_pos h2] at hL
                injection hL with hL
                rw [← hL, andL_len, notL_len, show PW (someL (ofL (spK n)) ((hi : Int).toNat + 1)) = W by have := waysF_some _ 1 W hw; omega]
                omega
              · rw [if_neg h2] at hL
                cases hL
        have KH := Lib.hid (holds_any A6 N6 c6 L hN6 (by omega) w6 m6)
        rw [hh] at KH
        clear KT b6 hL hN6 m6 hh hl
        by_cases q1 : lo ≤ n <;> by_cases q2 : n ≤ hi
        · have d1 : decide ((lo : Int) ≤ (n : Int)) = true := decide_eq_true (by omega)
          have d2 : decide ((n : Int) ≤ (hi : Int)) = true := decide_eq_true (by omega)
          rw [decide_eq_true q1, decide_eq_true q2] at KH
          go_wp2_with (go_at_call 21; (with_reducible refine KH.out.mono ?_); rintro e w7 ⟨rfl, b7⟩)
          have HB7 := Lib.hid (HB6.out.trans (b7.mono HB6.out.size))
          go_ret
          exact ⟨rfl, HB7.out⟩
        · have d1 : decide ((lo : Int) ≤ (n : Int)) = true := decide_eq_true (by omega)
          have d2 : decide ((n : Int) ≤ (hi : Int)) = false := decide_eq_false (by omega)
          rw [decide_eq_true q1, decide_eq_false q2] at KH
          go_wp2_with (go_at_call 21; (with_reducible refine KH.out.mono ?_); rintro e w7 ⟨rfl, b7⟩)
          have HB7 := Lib.hid (HB6.out.trans (b7.mono HB6.out.size))
          go_ret
          exact ⟨rfl, HB7.out⟩
        · have d1 : decide ((lo : Int) ≤ (n : Int)) = false := decide_eq_false (by omega)
          rw [decide_eq_false q1, decide_eq_true q2] at KH
          go_wp2_with (go_at_call 21; (with_reducible refine KH.out.mono ?_); rintro e w7 ⟨rfl, b7⟩)
          have HB7 := Lib.hid (HB6.out.trans (b7.mono HB6.out.size))
          go_ret
          exact ⟨rfl, HB7.out⟩
        · have d1 : decide ((lo : Int) ≤ (n : Int)) = false := decide_eq_false (by omega)
          rw [decide_eq_false q1, decide_eq_false q2] at KH
          go_wp2_with (go_at_call 21; (with_reducible refine KH.out.mono ?_); rintro e w7 ⟨rfl, b7⟩)
          have HB7 := Lib.hid (HB6.out.trans (b7.mono HB6.out.size))
          go_ret
          exact ⟨rfl, HB7.out⟩
end Go.Proofs.Ytcgoeokocabelaa
