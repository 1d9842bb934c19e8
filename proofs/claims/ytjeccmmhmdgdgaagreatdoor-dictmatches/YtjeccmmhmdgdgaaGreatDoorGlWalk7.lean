/- Match of what is no text of signs, and of none; Prefix. -/
import Derived.Test.YtjeccmmhmdgdgaaGreatDoorGlWalk6
import Derived.Test.YtjeccmmhmdgdgaaGreatDoorMapSpec
namespace Go.Proofs.YtjeccmmhmdgdgaaGreatDoor
open Go.RowKit
set_option maxRecDepth 100000

set_option maxHeartbeats 1000000 in
theorem match_bad (l : List UInt8) (hl : l.length ≤ 1000000) (hv : Lib.validD l = false) (R : Nat) (w : World) (hT : UT w) :
    Calls Tryz.prog 22 #[.pointer (some ⟨R, 0, none⟩), .string (strOf l)] w fun e w' => e = .returned (.bool false) ∧ Below w.heap.size w w' := by
  have HV := Lib.hid hv
  clear hv
  go_enter Tryz.func22, Tryz.ntmps22
  go_wp2_with fail
  with_reducible refine (right_is _ _ HV _ hT (by omega)).mono ?_
  rintro e w1 ⟨rfl, b1⟩
  go_wp2_with fail
  go_ret
  exact ⟨rfl, b1⟩
theorem match_nil (s : Value) (w : World) : Calls Tryz.prog 22 #[.pointer none, s] w fun e w' => e = .returned (.bool false) ∧ w = w' := by
  go_enter Tryz.func22, Tryz.ntmps22
  go_wp2_with fail
  go_ret
  exact ⟨rfl, rfl⟩
theorem prefix_nil (w : World) : Calls Tryz.prog 39 #[.pointer none] w fun e w' => e = .returned (.string ⟨#[]⟩) ∧ w = w' := by
  go_enter Tryz.func39, Tryz.ntmps39
  go_wp2_with fail
  go_ret
  exact ⟨rfl, rfl⟩

/-- Put, whatever the number. -/
theorem uput_all (v : Value) (l : List UInt8) (base : Nat) (c : Int) (w : World) (hown : Own8 w base 5 v l) (hbase : base ≤ w.heap.size) (hlen : l.length ≤ 1000000000) :
    Calls Tryz.prog 46 #[v, .int .i32 c] w fun e w' => ∃ v', e = .returned v' ∧ Own8 w' base 5 v' (l ++ putL c) ∧ w.grownBy w' v.ownBlock := by
  by_cases hs : 0 ≤ c ∧ isSign c.toNat
  · obtain ⟨n, rfl⟩ := Int.eq_ofNat_of_zero_le hs.1
    have h : isSign n := by simpa using hs.2
    rw [putL_sign n h]
    exact uput_any v l base n h w hown hbase hlen
  · have hb : signB c = false := by
      unfold signB
      refine decide_eq_false (fun h => hs ⟨h.1, ?_⟩)
      unfold isSign
      omega
    have hp : putL c = [] := by unfold putL; rw [if_neg hs]
    rw [hp, List.append_nil]
    refine (uput_bad v c hb w).mono ?_
    rintro e w' ⟨rfl, rfl⟩
    exact ⟨v, rfl, hown, ⟨rfl, rfl, rfl, Nat.le_refl _, fun _ _ _ => rfl⟩⟩
def prefL : List GP → List UInt8
  | [] => []
  | p :: t => if p.1 then [] else putL p.2.1 ++ prefL t

set_option maxHeartbeats 4000000 in
theorem prefix_any (ps : List GP) (hps : ps.length ≤ 200) (B R : Nat) (w : World) (hG : GlobAt w B R ps) :
    Calls Tryz.prog 39 #[.pointer (some ⟨R, 0, none⟩)] w fun e w' => e = .returned (.string (strOf (prefL ps))) ∧ Below w.heap.size w w' := by
  obtain ⟨hBR, hR, hfR, v, hcR, hown⟩ := hG
  obtain ⟨A, c, rfl, hac, hcm, hcs, hob⟩ := own_form hown
  unfold maxLen at hcm
  obtain ⟨N, hNp⟩ : ∃ N, N = ps.length := ⟨_, rfl⟩
  have HNP := Lib.hid hNp
  rw [← hNp] at hps hcR hac
  clear hown hob hNp
  go_enter Tryz.func39, Tryz.ntmps39
  go_wp2_with fail
  go_loopw [3, 13] (fun b i wr => ∃ (k : Nat) (d : List UInt8), k ≤ N ∧ i = .int .i64 k ∧ Own8 wr w.heap.size 5 b d ∧ d.length ≤ 4 * k ∧ Hid (prefL ps = d ++ prefL (ps.drop k)) ∧ Below w.heap.size w wr) (fun _ i _ => N - (intOf i).toNat)
  case atStart => exact ⟨0, [], Nat.zero_le _, rfl, Own8.nil _ _ _, by simp, rfl, Below.refl _ _⟩
  case round =>
    obtain ⟨k, d, hk, rfl, hown, hdl, HP, hbel⟩ := hrel
    have fin : ∀ (wf : World), Own8 wf w.heap.size 5 u3 d → ∃ A3 c3 m3, u3 = .slice A3 m3 c3 ∧ (convert 78 9 (.slice A3 m3 c3)).run Tryz.prog wf = .ok (.string (strOf d)) wf := fun wf h => by
      obtain ⟨A3, c3, e, _, _, hbs, _⟩ := h.form
      exact ⟨A3, c3, d.length, e, hbs.conv d.length c3 rfl⟩
    by_cases hlt : k < N
    · have hkl : k < ps.length := by rw [← HNP.out]; exact hlt
      obtain ⟨pb, po, rfl, hpb, hcell⟩ := hcs (by rw [gpCells_len]; omega)
      obtain ⟨q0, q1, q2, q3⟩ := gpCells_at ps k hkl
      have HX : Hid (prefL (ps.drop k) = if ps[k].1 then [] else putL ps[k].2.1 ++ prefL (ps.drop (k + 1))) := by
        show _ = _
        rw [List.drop_eq_getElem_cons hkl]; rfl
      have tr : ∀ o u, w.cell? ⟨pb, o, none⟩ = some u → wr.cell? ⟨pb, o, none⟩ = some u := fun o u h => (hbel.cell (p := ⟨pb, o, none⟩) hpb).trans h
      have m0 : wr.cell? ⟨pb, po + k * 4, none⟩ = _ := tr _ _ (hcell _ _ q0)
      have m1 : wr.cell? ⟨pb, po + k * 4 + 1, none⟩ = _ := tr _ _ (hcell _ _ q1)
      have m2 : wr.cell? ⟨pb, po + k * 4 + 2, none⟩ = _ := tr _ _ (hcell _ _ q2)
      have m3 : wr.cell? ⟨pb, po + k * 4 + 3, none⟩ = _ := tr _ _ (hcell _ _ q3)
      clear q0 q1 q2 q3 tr hcell
      generalize ps[k] = p at *
      obtain ⟨dt, sg, lo, hi⟩ := p
      simp only at m0 m1 m2 m3 HX
      have hbelA : Below w.heap.size w (wr.alloc (.cells #[.bool dt, .int .i32 sg, .int .i64 lo, .int .i64 hi] 68)) := hbel.alloc hbel.size _
      have hownA : Own8 (wr.alloc (.cells #[.bool dt, .int .i32 sg, .int .i64 lo, .int .i64 hi] 68)) w.heap.size 5 u3 d := hown.below ((Below.refl _ _).alloc (Nat.le_refl _) _)
      have hszA : w.heap.size ≤ (wr.alloc (.cells #[.bool dt, .int .i32 sg, .int .i64 lo, .int .i64 hi] 68)).heap.size := hbelA.size
      cases dt
      · have HX2 : Hid (prefL ps = (d ++ putL sg) ++ prefL (ps.drop (k + 1))) := by show _ = _; rw [HP.out, HX.out, List.append_assoc]; rfl
        have hpl := putL_len sg
        clear HX HP fin
        go_wp2_with fail
        refine (uput_all _ d w.heap.size sg _ hownA hszA (by omega)).mono ?_
        rintro e w4 ⟨v4, rfl, hown4, hg4⟩
        have hbel4 := hownA.grow (Nat.le_refl _) hbelA hszA hg4
        clear hownA hg4 hown
        go_wp2_with fail
        exact ⟨⟨k + 1, d ++ putL sg, by omega, by go_num, hown4, by simp; omega, HX2, hbel4⟩, by simp [intOf]; omega⟩
      · have HX2 : Hid (prefL ps = d) := by show _ = _; rw [HP.out, HX.out]; simp
        obtain ⟨A3, c3, m3', rfl, hcv⟩ := fin _ hownA
        clear HX HP fin hownA hown
        go_wp2_with fail
        go_ret
        exact ⟨by rw [HX2.out]; rfl, hbelA⟩
    · have HX2 : Hid (prefL ps = d) := by
        show _ = _
        rw [HP.out, List.drop_eq_nil_of_le (by rw [← HNP.out]; omega)]
        simp [prefL]
      obtain ⟨A3, c3, m3', rfl, hcv⟩ := fin _ hown
      clear HP fin hown
      go_wp2_with fail
      go_ret
      exact ⟨by rw [HX2.out]; rfl, hbel⟩
end Go.Proofs.YtjeccmmhmdgdgaaGreatDoor
