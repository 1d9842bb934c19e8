/- Stop of package alike. -/
import Derived.Test.YtjeccmmhmdgdgaaGreatDoorAlW1
namespace Go.Proofs.YtjeccmmhmdgdgaaGreatDoor
open Go.RowKit
set_option maxRecDepth 100000

theorem stop_yes {d l : List UInt8} (h : stopB l = stopWords.any fun x => decide (d = x)) (x : List UInt8) (hx : stopWords.contains x = true) (hd : ((strOf d).toList == x) = true) : true = stopB l := by
  rw [str_eqL, decide_eq_true_eq] at hd
  rw [h, hd]
  exact (List.any_eq_true.2 ⟨x, by simpa using hx, by simp⟩).symm
set_option maxHeartbeats 8000000 in
theorem stop_any (l : List UInt8) (hl : l.length ≤ 10000000) (w : World) (hT : UT w) :
    Calls Tryz.prog 14 #[.string (strOf l)] w fun e w' => e = .returned (.bool (stopB l)) ∧ Below w.heap.size w w' := by
  obtain ⟨d, hd⟩ : ∃ d, mapL lowN l = d := ⟨_, rfl⟩
  have HM : Hid (mapL lowN l = d ∧ l.length ≤ 40000000) := ⟨hd, by omega⟩
  have HS : Hid (stopB l = stopWords.any fun x => decide (d = x)) := by show _ = _; rw [← hd]; rfl
  clear hd
  go_enter Tryz.func14, Tryz.ntmps14
  go_wp2_with fail
  refine (mapl_is l d HM _ hT).mono ?_
  rintro e w1 ⟨rfl, b1⟩
  go_wp2_with fail
  all_goals go_ret
  all_goals first
    | exact ⟨ret_bool (stop_yes HS.out _ (by decide) ‹_›), b1⟩
    | (exfalso; simp only [str_eqL, decide_eq_true_eq, decide_eq_false_iff_not] at *; contradiction)
    | (refine ⟨ret_bool ?_, b1⟩; rw [HS.out]; simp only [str_eqL, decide_eq_false_iff_not] at *; simp [stopWords, *]; done)
theorem stop_is (l : List UInt8) (b : Bool) (h : Hid (stopB l = b ∧ l.length ≤ 10000000)) (w : World) (hT : UT w) :
    Calls Tryz.prog 14 #[.string (strOf l)] w fun e w' => e = .returned (.bool b) ∧ Below w.heap.size w w' := by
  obtain ⟨h1, h2⟩ := h.out; subst h1; exact stop_any l h2 w hT
end Go.Proofs.YtjeccmmhmdgdgaaGreatDoor
