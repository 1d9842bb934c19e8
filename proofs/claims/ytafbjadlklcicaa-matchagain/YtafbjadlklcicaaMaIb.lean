/- slices.ContainsFunc over spans with a method bound to a span; Ordered: what is dropped. -/
import Derived.Test.YtafbjadlklcicaaMaIx
import Derived.Laws.EntriesVeiled
namespace Go.Proofs.Ytafbjadlklcicaa
open Go.RowKit
set_option maxRecDepth 100000

/-- A method, bound to a span, that tells p of a span, and leaves what lies there. -/
def FnB (F : Nat) (t0 : Sp) (p : Sp → Bool) (w : World) : Prop :=
  (∀ args W, (callFunc F args).run Try.prog W = .ok (.enter F args) W) ∧
  ∀ W, Below w.heap.size w W → ∀ s, Calls Try.prog F #[spV t0, spV s] W fun e w' => e = .returned (.bool (p s)) ∧ Below W.heap.size W w'
set_option maxHeartbeats 2000000 in
theorem sindexB_any (F : Nat) (t0 : Sp) (p : Sp → Bool) (A : Option Addr) (n c : Nat) (l : List Sp) (HN : Hid (n = l.length)) (hn : n ≤ 100000) (w : World) (h : CS w w.heap.size A (spCs l)) (hF : Hid (FnB F t0 p w)) :
    Calls Try.prog 74 #[.slice A n c, .func (.func F) #[spV t0] #[]] w fun e w' => ∃ r : Int, e = .returned (.int .i64 r) ∧ decide (0 ≤ r) = l.any p ∧ Below w.heap.size w w' := by
  have HA := Lib.hid h
  have HCF := hF.out.1
  clear h
  go_enter Try.func74, Try.ntmps74
  go_wp2_with fail
  go_loopw [8] (fun i wr => ∃ k : Nat, k ≤ n ∧ i = .int .i64 k ∧ Hid ((l.take k).any p = false) ∧ Hid (Below w.heap.size w wr)) (fun i _ => n - (intOf i).toNat)
  case atStart => exact ⟨0, Nat.zero_le _, rfl, rfl, Below.refl _ _⟩
  case round =>
    obtain ⟨k, hk, rfl, HF, HB⟩ := hrel
    by_cases hlt : k < n
    · have hkl : k < l.length := by rw [← HN.out]; exact hlt
      have HLT := Lib.hid hlt
      obtain ⟨b, o, rfl, hb, hc⟩ := (HA.out.below HB.out) (by rw [spCs_len]; omega)
      obtain ⟨c0, c1, c2, c3⟩ := spCs_at l k hkl
      have e0 := hc _ _ c0
      have e1 := hc _ _ c1
      have e2 := hc _ _ c2
      have e3 := hc _ _ c3
      rw [← Nat.add_assoc] at e1 e2 e3
      have HS : Hid ((l.take (k + 1)).any p = p l[k]) := by show _ = _; rw [any_snoc' p l k hkl, HF.out, Bool.false_or]
      have HAL : Hid (p l[k] = true → l.any p = true) := fun h => List.any_eq_true.2 ⟨_, List.getElem_mem hkl, h⟩
      obtain ⟨s, hs⟩ : ∃ s, s = l[k] := ⟨_, rfl⟩
      rw [← hs] at e0 e1 e2 e3 HS HAL
      have KF := hF.out.2 wr HB.out s
      obtain ⟨q, hq⟩ : ∃ q, q = p s := ⟨_, rfl⟩
      rw [← hq] at HS HAL KF
      have HKF := Lib.hid KF
      have wk : IntKind.i64.wrap ((k : Int) + 1) = (k : Int) + 1 := by rw [IntKind.wrap_i64]; omega
      clear hc c0 c1 c2 c3 hs hb hq KF
      obtain ⟨f, t, u, v⟩ := s
      simp only at e0 e1 e2 e3 HKF
      go_wp2_with fail
      with_reducible refine HKF.out.mono ?_
      rintro e w5 ⟨rfl, b5⟩
      have HB5 := Lib.hid (HB.out.trans (b5.mono HB.out.size))
      clear b5 e0 e1 e2 e3
      cases q
      · have HT : Hid ((l.take (k + 1)).any p = false) := HS.out
        go_wp2_with fail
        exact ⟨⟨k + 1, HLT.out, by go_num, HT, HB5⟩, by have := HLT.out; simp [intOf]; omega⟩
      · have HT : Hid (l.any p = true) := HAL.out rfl
        go_wp2_with fail
        go_ret
        exact ⟨_, rfl, by rw [HT.out]; exact decide_eq_true (by omega), HB5.out⟩
    · obtain rfl : k = n := by omega
      have HT : Hid (l.any p = false) := by show _ = _; rw [← HF.out, List.take_of_length_le (by rw [HN.out]; exact Nat.le_refl _)]
      go_wp2_with fail
      go_ret
      exact ⟨_, rfl, by rw [HT.out]; exact decide_eq_false (by decide), HB.out⟩
theorem scontainsB_any (F : Nat) (t0 : Sp) (p : Sp → Bool) (A : Option Addr) (n c : Nat) (l : List Sp) (HN : Hid (n = l.length)) (hn : n ≤ 100000) (w : World) (h : CS w w.heap.size A (spCs l)) (hF : Hid (FnB F t0 p w)) :
    Calls Try.prog 47 #[.slice A n c, .func (.func F) #[spV t0] #[]] w fun e w' => e = .returned (.bool (l.any p)) ∧ Below w.heap.size w w' := by
  have KI := Lib.hid (sindexB_any F t0 p A n c l HN hn w h hF)
  clear h hF
  go_enter Try.func47, Try.ntmps47
  go_wp2_with fail
  with_reducible refine KI.out.mono ?_
  rintro e w5 ⟨r, rfl, hr, b5⟩
  have HRR := Lib.hid hr
  have HB5 := Lib.hid b5
  clear hr b5
  go_wp2_with fail
  go_ret
  exact ⟨by rw [← HRR.out]; rfl, HB5.out⟩

/-- Two spans come the other way round than the question has them. -/
def crs (s t : Sp) : Bool := (decide (s.2.2.1 < t.2.2.1) && decide (t.1 < s.1)) || (decide (t.2.2.1 < s.2.2.1) && decide (s.1 < t.1))
set_option maxHeartbeats 4000000 in
theorem crs_any (s t : Sp) (w : World) : Calls Try.prog 48 #[spV s, spV t] w fun e w' => e = .returned (.bool (crs s t)) ∧ Below w.heap.size w w' := by
  obtain ⟨s0, s1, s2, s3⟩ := s
  obtain ⟨t0, t1, t2, t3⟩ := t
  unfold spV crs
  simp only
  go_enter Try.func48, Try.ntmps48
  by_cases h1 : s2 < t2 <;> by_cases h2 : t0 < s0 <;> by_cases h3 : t2 < s2 <;> by_cases h4 : s0 < t0
  all_goals
    try (exfalso; omega)
  all_goals
    go_wp2_with fail
  all_goals
    go_ret
    refine ⟨by simp [h1, h2, h3, h4], ?_⟩
    exact ((Below.refl w.heap.size w).alloc (Nat.le_refl _) _).trans (((Below.refl _ _).alloc (Nat.le_refl _) _).mono (by simp))
end Go.Proofs.Ytafbjadlklcicaa
