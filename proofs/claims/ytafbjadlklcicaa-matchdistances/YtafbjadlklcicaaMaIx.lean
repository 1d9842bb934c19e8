/- slices.ContainsFunc over spans, whatever function value says so. -/
import Derived.Test.YtafbjadlklcicaaMaTh
namespace Go.Proofs.Ytafbjadlklcicaa
open Go.RowKit
set_option maxRecDepth 100000

abbrev spV (s : Sp) : Value := .agg #[.int .i64 s.1, .int .i64 s.2.1, .int .i64 s.2.2.1, .int .i64 s.2.2.2]
/-- A function value that tells p of a span, and leaves what lies there. -/
def FnS (F : Nat) (cb : Array Value) (p : Sp → Bool) (w : World) : Prop :=
  (∀ args W, (callFunc F args).run Try.prog W = .ok (.enter F args) W) ∧
  ∀ W, Below w.heap.size w W → ∀ s, Calls Try.prog F (#[spV s] ++ cb) W fun e w' => e = .returned (.bool (p s)) ∧ Below W.heap.size W w'
theorem FnS.up {F : Nat} {cb : Array Value} {p : Sp → Bool} {w w' : World} (h : FnS F cb p w) (hb : Below w.heap.size w w') : FnS F cb p w' := ⟨h.1, fun W hW s => h.2 W (hb.trans (hW.mono hb.size)) s⟩
theorem any_snoc' {α : Type} (p : α → Bool) (l : List α) (k : Nat) (hk : k < l.length) : (l.take (k + 1)).any p = ((l.take k).any p || p l[k]) := by
  rw [List.take_succ_eq_append_getElem hk, List.any_append]
  simp
set_option maxHeartbeats 2000000 in
theorem sindex_any (F : Nat) (cb : Array Value) (p : Sp → Bool) (A : Option Addr) (n c : Nat) (l : List Sp) (HN : Hid (n = l.length)) (hn : n ≤ 100000) (w : World) (h : CS w w.heap.size A (spCs l)) (hF : Hid (FnS F cb p w)) :
    Calls Try.prog 74 #[.slice A n c, .func (.func F) #[] cb] w fun e w' => ∃ r : Int, e = .returned (.int .i64 r) ∧ decide (0 ≤ r) = l.any p ∧ Below w.heap.size w w' := by
  have HA := Lib.hid h
  have HCF := hF.out.1
  clear h
  go_enter Try.func74, Try.ntmps74
  go_wp2_with fail
  go_loopw [8] (fun i wr => ∃ k : Nat, k ≤ n ∧ i = .int .i64 k ∧ Hid ((l.take k).any p = false) ∧ Hid (Below w.heap.size w wr)) (fun i _ => n - (intOf i).toNat)
  case atStart => exact ⟨0, Nat.zero_le _, rfl, rfl, Below.refl _ _⟩
  case round =>
    obtain ⟨k, hk, rfl, HF, HB⟩ := hrel
    by_cases hlt : k < n
    · have hkl : k < l.length := by rw [← HN.out]; exact hlt
      have HLT := Lib.hid hlt
      obtain ⟨b, o, rfl, hb, hc⟩ := (HA.out.below HB.out) (by rw [spCs_len]; omega)
      obtain ⟨c0, c1, c2, c3⟩ := spCs_at l k hkl
      have e0 := hc _ _ c0
      have e1 := hc _ _ c1
      have e2 := hc _ _ c2
      have e3 := hc _ _ c3
      rw [← Nat.add_assoc] at e1 e2 e3
      have HS : Hid ((l.take (k + 1)).any p = p l[k]) := by show _ = _; rw [any_snoc' p l k hkl, HF.out, Bool.false_or]
      have HAL : Hid (p l[k] = true → l.any p = true) := fun h => List.any_eq_true.2 ⟨_, List.getElem_mem hkl, h⟩
      obtain ⟨s, hs⟩ : ∃ s, s = l[k] := ⟨_, rfl⟩
      rw [← hs] at e0 e1 e2 e3 HS HAL
      have KF := hF.out.2 wr HB.out s
      obtain ⟨q, hq⟩ : ∃ q, q = p s := ⟨_, rfl⟩
      rw [← hq] at HS HAL KF
      have HKF := Lib.hid KF
      have wk : IntKind.i64.wrap ((k : Int) + 1) = (k : Int) + 1 := by rw [IntKind.wrap_i64]; omega
      clear hc c0 c1 c2 c3 hs hb hq KF
      obtain ⟨f, t, u, v⟩ := s
      simp only at e0 e1 e2 e3 HKF
      go_wp2_with fail
      with_reducible refine HKF.out.mono ?_
      rintro e w5 ⟨rfl, b5⟩
      have HB5 := Lib.hid (HB.out.trans (b5.mono HB.out.size))
      clear b5 e0 e1 e2 e3
      cases q
      · have HT : Hid ((l.take (k + 1)).any p = false) := HS.out
        go_wp2_with fail
        exact ⟨⟨k + 1, HLT.out, by go_num, HT, HB5⟩, by have := HLT.out; simp [intOf]; omega⟩
      · have HT : Hid (l.any p = true) := HAL.out rfl
        go_wp2_with fail
        go_ret
        exact ⟨_, rfl, by rw [HT.out]; exact decide_eq_true (by omega), HB5.out⟩
    · obtain rfl : k = n := by omega
      have HT : Hid (l.any p = false) := by show _ = _; rw [← HF.out, List.take_of_length_le (by rw [HN.out]; exact Nat.le_refl _)]
      go_wp2_with fail
      go_ret
      exact ⟨_, rfl, by rw [HT.out]; exact decide_eq_false (by decide), HB.out⟩
theorem scontains_any (F : Nat) (cb : Array Value) (p : Sp → Bool) (A : Option Addr) (n c : Nat) (l : List Sp) (HN : Hid (n = l.length)) (hn : n ≤ 100000) (w : World) (h : CS w w.heap.size A (spCs l)) (hF : Hid (FnS F cb p w)) :
    Calls Try.prog 47 #[.slice A n c, .func (.func F) #[] cb] w fun e w' => e = .returned (.bool (l.any p)) ∧ Below w.heap.size w w' := by
  have KI := Lib.hid (sindex_any F cb p A n c l HN hn w h hF)
  clear h hF
  go_enter Try.func47, Try.ntmps47
  go_wp2_with fail
  with_reducible refine KI.out.mono ?_
  rintro e w5 ⟨r, rfl, hr, b5⟩
  have HRR := Lib.hid hr
  have HB5 := Lib.hid b5
  clear hr b5
  go_wp2_with fail
  go_ret
  exact ⟨by rw [← HRR.out]; rfl, HB5.out⟩
end Go.Proofs.Ytafbjadlklcicaa
