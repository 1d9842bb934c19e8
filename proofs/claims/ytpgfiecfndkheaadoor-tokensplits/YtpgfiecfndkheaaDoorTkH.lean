/- The head of layer 7's laws. -/
import Derived.Test.YtpgfiecfndkheaaDoorTkW4
namespace Go.Proofs.YtpgfiecfndkheaaDoor
open Go.RowKit
set_option maxRecDepth 100000

theorem own_some {w : World} {base : Nat} {t : TypeId} {size : Nat} {v : Value} {n : Nat} {xs : List Value} (h : w.ownsRow base t size v n xs) (hn : 0 < n) : ∃ g c, v = .slice (some ⟨g, 0, none⟩) n c ∧ base ≤ g ∧ g < w.heap.size ∧ n ≤ c ∧ c ≤ maxLen ∧ v.ownBlock = some g ∧ ∀ k u, xs[k]? = some u → w.cell? ⟨g, k, none⟩ = some u := by
  rcases h.2 with ⟨_, h0⟩ | ⟨g, cap, cur, rfl, hg, hh, hnc, hm, hs, ht⟩
  · omega
  · refine ⟨g, cap, rfl, hg, row_lt hh, hnc, hm, rfl, fun k u hu => ?_⟩
    have hk : k < n * size := by
      have := (List.getElem?_eq_some_iff.1 hu).1
      rw [h.1] at this
      exact this
    rw [← ht, List.getElem?_take_of_lt hk] at hu
    simp only [World.cell?, hh]
    simpa using hu
/-- A Text put into a new variable. -/
theorem txt_var (w : World) (t : TypeId) (a b c : Value) : ∀ W, W = w.alloc (.cells #[a, b, c] t) →
    W.cell? ⟨w.heap.size, 0, none⟩ = some a ∧ W.cell? ⟨w.heap.size, 1, none⟩ = some b ∧ W.cell? ⟨w.heap.size, 2, none⟩ = some c ∧ Below w.heap.size w W ∧ W.heap.size = w.heap.size + 1 := by
  intro W hW
  subst hW
  have h := heap_alloc_new w (.cells #[a, b, c] t)
  refine ⟨?_, ?_, ?_, (Below.refl _ w).alloc (Nat.le_refl _) _, by simp⟩
  · simp only [World.cell?, h]; rfl
  · simp only [World.cell?, h]; rfl
  · simp only [World.cell?, h]; rfl
def headT : B8 := [84, 104, 101, 32, 99, 97, 116, 46, 32, 73, 116, 32, 115, 97, 116, 33]
theorem head_w : wordsOf (chL headT) = [[84, 104, 101], [99, 97, 116], [73, 116], [115, 97, 116]] := by kernel_rfl
theorem head_s : sentF 0 (chL headT) = [2] := by kernel_rfl
theorem head_p : parsF 0 (chL headT) = [] := by kernel_rfl
set_option maxHeartbeats 4000000 in
theorem head_any (w : World) (hT : UT w) : Calls Tryd.prog 8 #[] w fun e w' => e = .returned (.bool true) ∧ Below w.heap.size w w' := by
  have HS := Lib.hid (split_any headT (by decide) w hT)
  go_enter Tryd.func8, Tryd.ntmps8
  go_wp2_with fail
  refine HS.out.mono ?_
  rintro e w1 ⟨vw, vs, vp, rfl, ⟨r0, r1, r2⟩, b1⟩
  rw [head_w] at r0
  rw [head_s] at r1
  rw [head_p] at r2
  obtain ⟨g0, cp0, rfl, _, hg0, hc0, hm0, _, hcell0⟩ := own_some r0 (by decide)
  obtain ⟨g1, cp1, rfl, _, hg1, hc1, hm1, _, hcell1⟩ := own_some r1 (by decide)
  obtain ⟨A2, cp2, rfl, hc2, hm2, _, _⟩ := own_form r2
  have l0 : w1.cell? ⟨g0, 2, none⟩ = some (.string (strOf [73, 116])) := hcell0 2 _ rfl
  have l1 : w1.cell? ⟨g1, 0, none⟩ = some (.int .i64 2) := hcell1 0 _ rfl
  have HL0 := Lib.hid l0
  have HL1 := Lib.hid l1
  have B1 := Lib.hid b1
  clear hcell0 hcell1 r0 r1 r2 l0 l1 b1
  simp only [List.length_cons, List.length_nil, Nat.reduceAdd] at *
  go_upto_region 2 with (fail)
  obtain ⟨W, hW⟩ : ∃ W, W = w1.alloc (.cells #[.slice (some ⟨g0, 0, none⟩) 4 cp0, .slice (some ⟨g1, 0, none⟩) 1 cp1, .slice A2 0 cp2] 26) := ⟨_, rfl⟩
  rw [← hW]
  obtain ⟨d0, d1, d2, hbW, _⟩ := txt_var w1 _ _ _ _ W hW
  have l0 : W.cell? ⟨g0, 2, none⟩ = some (.string (strOf [73, 116])) := (hbW.cell (p := ⟨g0, 2, none⟩) hg0).trans HL0.out
  have l1 : W.cell? ⟨g1, 0, none⟩ = some (.int .i64 2) := (hbW.cell (p := ⟨g1, 0, none⟩) hg1).trans HL1.out
  have s1 : ((strOf [73, 116]).toList == [73, 116]) = true := by rw [ByteArray.toList_eq, str_data]; rfl
  have BW := Lib.hid (B1.out.trans (hbW.mono B1.out.size))
  clear hW hbW
  go_wp2_with fail
  go_ret
  exact ⟨rfl, BW.out⟩
end Go.Proofs.YtpgfiecfndkheaaDoor
