/- What is laid is read again; no bytes cut off, none with more behind are read: plain. -/
import Derived.Test.YtjigaoclngfcaaaPoDc
import Derived.Test.YtjigaoclngfcaaaPoRt
namespace Go.Proofs.Ytjigaoclngfcaaa
set_option maxRecDepth 100000

theorem decH_eP (hs : List HI) (more : B8') (h : rgt (-1) hs = true) : decH (eP hs ++ more) = hs := by
  obtain ⟨hR, _⟩ := RI.opened hs more h
  unfold decH runA
  exact RI.run _ _ _ [] hs hR (Nat.le_succ _)
theorem isH_eP (hs : List HI) (h : rgt (-1) hs = true) : decH (eP hs) = hs ∧ isH (eP hs) = true := by
  have e := decH_eP hs [] h
  rw [List.append_nil] at e
  refine ⟨e, ?_⟩
  unfold isH
  rw [e, h, decide_eq_true rfl]
  rfl
theorem isH_more (hs : List HI) (more : B8') (h : rgt (-1) hs = true) (hm : more ≠ []) : isH (eP hs ++ more) = false := by
  unfold isH
  rw [decH_eP hs more h, decide_eq_false fun e => hm (List.self_eq_append_right.1 e), Bool.and_false]
theorem isH_cut (hs : List HI) (k : Nat) (h : rgt (-1) hs = true) (hk : k < (eP hs).length) : isH ((eP hs).take k) = false := by
  refine Bool.eq_false_iff.2 fun hi => ?_
  unfold isH at hi
  rw [Bool.and_eq_true] at hi
  obtain ⟨h1, h2⟩ := hi
  have e := of_decide_eq_true h2
  have d1 := decH_eP _ ((eP hs).drop k) h1
  rw [e, List.take_append_drop, (isH_eP hs h).1] at d1
  have l := congrArg List.length e
  rw [← d1, List.length_take] at l
  omega
end Go.Proofs.Ytjigaoclngfcaaa
