/- The Reader's Num, Text by the plain functions rdN, rdT. -/
import Derived.Test.YtjigaoclngfcaaaRdO
import Derived.Test.YtjigaoclngfcaaaRdSp
namespace Go.Proofs.Ytjigaoclngfcaaa
open Go.RowKit
set_option maxRecDepth 100000

theorem num_some_o (R o : Nat) (P : Nat → Prop) (l : List UInt8) (most N : Nat) (r : List UInt8) (w : World) (h : RdO w R o P l 0) (hn : l.length ≤ 1000000) (HG : Hid (rdN l most = some (N, r))) (h8 : most ≤ 9223372036854775807) :
    Calls Try.prog 45 #[.pointer (some ⟨R, o, none⟩), .int .i64 most] w fun e w' => e = .returned (.int .i64 N) ∧ MvO w w' R o P r 0 := by
  have hg := HG.out
  unfold rdN at hg
  by_cases hc : (getN l).2 = 0 ∨ most < (getN l).1
  · rw [if_pos hc] at hg; cases hg
  · rw [if_neg hc] at hg
    simp only [Option.some.injEq, Prod.mk.injEq] at hg
    obtain ⟨rfl, rfl⟩ := hg
    exact num_ok_o R o P l most (getN l).1 (getN l).2 w h hn rfl (by omega) (by omega) (by omega)
theorem num_none_o (R o : Nat) (P : Nat → Prop) (l : List UInt8) (most : Nat) (w : World) (h : RdO w R o P l 0) (hn : l.length ≤ 1000000) (HG : Hid (rdN l most = none)) (h8 : most ≤ 9223372036854775807) :
    Calls Try.prog 45 #[.pointer (some ⟨R, o, none⟩), .int .i64 most] w fun e w' => e = .returned (.int .i64 0) ∧ MvO w w' R o P l 2 := by
  have hg := HG.out
  unfold rdN at hg
  by_cases hc : (getN l).2 = 0 ∨ most < (getN l).1
  · refine (num_bad_o R o P l most (getN l).1 (getN l).2 w h hn rfl (by omega) (by omega) (by omega)).mono fun e w' h' => ⟨h'.1, ?_⟩
    rw [← h'.2]
    exact moved_err_o h
  · rw [if_neg hc] at hg; cases hg
theorem text_some_o (R o : Nat) (P : Nat → Prop) (l t r : List UInt8) (w : World) (h : RdO w R o P l 0) (hn : l.length ≤ 1000000) (HG : Hid (rdT l = some (t, r))) :
    Calls Try.prog 56 #[.pointer (some ⟨R, o, none⟩), .int .i64 (l.length : Nat)] w fun e w' => e = .returned (.string ⟨t.toArray⟩) ∧ MvO w w' R o P r 0 := by
  have hg := HG.out
  unfold rdT rdN at hg
  by_cases hc : (getN l).2 = 0 ∨ l.length < (getN l).1
  · rw [if_pos hc] at hg; cases hg
  · rw [if_neg hc] at hg
    simp only [Option.bind_some] at hg
    by_cases hd : (l.drop (getN l).2).length < (getN l).1
    · rw [if_pos hd] at hg; cases hg
    · rw [if_neg hd] at hg
      simp only [Option.some.injEq, Prod.mk.injEq] at hg
      obtain ⟨rfl, rfl⟩ := hg
      rw [List.length_drop] at hd
      exact rtext_ok_o R o P l l.length (getN l).1 (getN l).2 w h hn rfl (by omega) (by omega) (by omega) (by omega)
theorem text_none_o (R o : Nat) (P : Nat → Prop) (l : List UInt8) (w : World) (h : RdO w R o P l 0) (hn : l.length ≤ 1000000) (HG : Hid (rdT l = none)) :
    Calls Try.prog 56 #[.pointer (some ⟨R, o, none⟩), .int .i64 (l.length : Nat)] w fun e w' => e = .returned (.string ⟨#[]⟩) ∧ ∃ r, r.length ≤ l.length ∧ MvO w w' R o P r 2 := by
  have hg := HG.out
  unfold rdT rdN at hg
  by_cases hc : (getN l).2 = 0 ∨ l.length < (getN l).1
  · exact (rtext_bad_o R o P l l.length (getN l).1 (getN l).2 w h hn rfl (by omega) (by omega) (by omega)).mono fun e w' h' => ⟨h'.1, l, Nat.le_refl _, h'.2⟩
  · rw [if_neg hc] at hg
    simp only [Option.bind_some] at hg
    by_cases hd : (l.drop (getN l).2).length < (getN l).1
    · rw [List.length_drop] at hd
      exact (rtext_cut_o R o P l l.length (getN l).1 (getN l).2 w h hn rfl (by omega) (by omega) (by omega) (by omega)).mono fun e w' h' => ⟨h'.1, _, by simp, h'.2⟩
    · rw [if_neg hd] at hg; cases hg
end Go.Proofs.Ytjigaoclngfcaaa
