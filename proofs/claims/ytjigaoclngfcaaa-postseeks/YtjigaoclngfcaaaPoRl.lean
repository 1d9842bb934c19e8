/- Whether hits are right, by the law's own loops. -/
import Derived.Test.YtjigaoclngfcaaaPoFw
namespace Go.Proofs.Ytjigaoclngfcaaa
open Go.RowKit
set_option maxRecDepth 100000

def lstI (a : Int) (xs : List Int) : Int := xs.getLast?.getD a
theorem upI_app : ∀ (xs ys : List Int) (a lim : Int), upI a lim (xs ++ ys) = (upI a lim xs && upI (lstI a xs) lim ys)
  | [], ys, a, lim => by simp [upI, lstI]
  | x :: t, ys, a, lim => by
    rw [List.cons_append, upI, upI, upI_app t ys x lim]
    have e : lstI a (x :: t) = lstI x t := by
      unfold lstI
      cases t with
      | nil => rfl
      | cons y u => simp [List.getLast?_cons]
    rw [e]
    simp only [Bool.and_assoc]
theorem lstI_at (xs : List Int) (a : Int) (q : Nat) (h : q < xs.length) : lstI a (xs.take (q + 1)) = xs[q] := by
  unfold lstI
  rw [List.take_succ_eq_append_getElem h, List.getLast?_append]
  rfl
theorem docOf_at (hs : List HI) (a : Int) (k : Nat) (h : k < hs.length) : docOf a (hs.take (k + 1)) = hs[k].1 := by
  unfold docOf
  rw [List.take_succ_eq_append_getElem h, List.map_append, List.getLast?_append]
  rfl
theorem up_step (xs : List Int) (q : Nat) (hq : q < xs.length) (h : upI (-1) 65536 (xs.take q) = true) :
    ((decide (lstI (-1) (xs.take q) < xs[q]) && decide (xs[q] < 65536)) = true → upI (-1) 65536 (xs.take (q + 1)) = true) ∧ ((decide (lstI (-1) (xs.take q) < xs[q]) && decide (xs[q] < 65536)) = false → upI (-1) 65536 xs = false) := by
  refine ⟨fun k => ?_, fun k => ?_⟩
  · rw [List.take_succ_eq_append_getElem hq, upI_app, h]
    simp only [upI, Bool.and_true, Bool.true_and]
    exact k
  · conv => lhs; rw [← List.take_append_drop q xs, List.drop_eq_getElem_cons hq, upI_app]
    rw [upI, ← Bool.and_assoc (decide _), k]
    simp
theorem lrgt_step (hs : List HI) (k : Nat) (hk : k < hs.length) (h : rgt (-1) (hs.take k) = true) :
    (hitOk (docOf (-1) (hs.take k)) hs[k] = true → rgt (-1) (hs.take (k + 1)) = true) ∧ (hitOk (docOf (-1) (hs.take k)) hs[k] = false → rgt (-1) hs = false) := by
  refine ⟨fun g => ?_, fun g => ?_⟩
  · rw [List.take_succ_eq_append_getElem hk, rgt_app, h, rgt, g]; rfl
  · conv => lhs; rw [← List.take_append_drop k hs, List.drop_eq_getElem_cons hk, rgt_app]
    rw [rgt, g]
    simp
set_option maxHeartbeats 4000000 in
theorem lright_any (A : Option Addr) (n c : Nat) (hs : List HI) (hn : Hid (n = hs.length)) (hnm : n ≤ 100000) (w : World) (hI : HS w w.heap.size A hs) (HSM : Hid (∀ h ∈ hs, h.2.length ≤ 100000)) :
    Calls Try.prog 18 #[.slice A n c] w fun e w' => e = .returned (.bool (rgt (-1) hs)) ∧ Below w.heap.size w w' := by
  have HCS := Lib.hid hI
  clear hI
  obtain ⟨R, hR⟩ : ∃ R, R = rgt (-1) hs := ⟨_, rfl⟩
  rw [← hR]
  have HR := Lib.hid hR
  have hmx : Try.prog.follows .mixedOrders = true := by kernel_rfl
  clear hR
  go_enter Try.func18, Try.ntmps18
  go_wp2_with fail
  go_loopw [9] (fun i wr => ∃ k : Nat, k ≤ n ∧ i = .int .i64 k ∧ Hid (rgt (-1) (hs.take k) = true) ∧ Below w.heap.size w wr) (fun i _ => n - (intOf i).toNat)
  case atStart => exact ⟨0, Nat.zero_le _, rfl, rfl, Below.refl _ _⟩
  case round =>
    obtain ⟨k, hk, rfl, HT, hb⟩ := hrel
    have HB := Lib.hid hb
    by_cases hlt : k < n
    · have hkx : k < hs.length := by rw [← hn.out]; exact hlt
      obtain ⟨b, o, rfl, hbB, hc⟩ := (HCS.out.below hb) (by omega)
      obtain ⟨hc1, Ak, ck, hc2, hlk, hmk, hck⟩ := hc k hkx
      have hst := lrgt_step hs k hkx HT.out
      have hsm := HSM.out hs[k] (List.getElem_mem hkx)
      obtain ⟨pd, hpd⟩ : ∃ pd, pd = docOf (-1) (hs.take k) := ⟨_, rfl⟩
      have hp0 : k = 0 → pd = -1 := fun e => by rw [hpd, e]; rfl
      have hp1 : ∀ j, j + 1 = k → wr.cell? ⟨b, o + j * 2, none⟩ = some (.int .i64 pd) := fun j e => by
        have hj : j < hs.length := by omega
        rw [hpd, ← e, docOf_at hs _ j hj]
        exact (hc j hj).1
      have hpm : -1 ≤ pd := by
        rw [hpd]
        by_cases hz : hs.take k = []
        · rw [hz]; exact Int.le_refl _
        · have := (rgt_doc _ _ HT.out hz).1; omega
      rw [← hpd] at hst
      obtain ⟨h, hh⟩ : ∃ h, h = hs[k] := ⟨_, rfl⟩
      rw [← hh] at hc1 hc2 hlk hck hst hsm
      obtain ⟨d, ps⟩ := h
      simp only at hc1 hc2 hlk hck hsm
      obtain ⟨m, hm⟩ : ∃ m, m = ps.length := ⟨_, rfl⟩
      rw [← hm] at hc2 hlk hsm
      have HM := Lib.hid hm
      have HST := Lib.hid hst
      unfold maxLen at hmk
      obtain ⟨W1, hW1⟩ : ∃ W, wr.alloc (.cells #[.int .i64 d, .slice Ak m ck] 37) = W := ⟨_, rfl⟩
      have bA : Below wr.heap.size wr W1 := by rw [← hW1]; exact (Below.refl _ _).alloc (Nat.le_refl _) _
      have y0 : W1.cell? ⟨wr.heap.size, 0, none⟩ = some (.int .i64 d) := by rw [← hW1]; simp
      have y1 : W1.cell? ⟨wr.heap.size, 1, none⟩ = some (.slice Ak m ck) := by rw [← hW1]; simp
      have HBA := Lib.hid (hb.trans (bA.mono hb.size))
      have HCK := Lib.hid ((hck.more hb.size).up' bA)
      have HW1 := Lib.hid hW1
      have z0 : ∀ r : WB W1.heap.size W1, r.w.cell? ⟨wr.heap.size, 0, none⟩ = some (.int .i64 d) := fun r => (r.ok.cell (World.block_lt_of_cell? W1 _ y0)).trans y0
      have z1 : ∀ r : WB W1.heap.size W1, r.w.cell? ⟨wr.heap.size, 1, none⟩ = some (.slice Ak m ck) := fun r => (r.ok.cell (World.block_lt_of_cell? W1 _ y1)).trans y1
      have zp : ∀ j, j + 1 = k → ∀ r : WB W1.heap.size W1, r.w.cell? ⟨b, o + j * 2, none⟩ = some (.int .i64 pd) := fun j e r => by
        have y := (bA.cell (World.block_lt_of_cell? wr _ (hp1 j e))).trans (hp1 j e)
        exact (r.ok.cell (World.block_lt_of_cell? W1 _ y)).trans y
      have HZP := Lib.hid zp
      have HP0 := Lib.hid hp0
      have HHF : Hid (hitOk pd (d, ps) = false → R = false) := fun g => by rw [HR.out]; exact HST.out.2 g
      clear hst hpd hp0 hp1 hh hm hc hck hb bA y0 y1 hW1 zp
      by_cases h1 : d < 0
      · have h1b : decide (d < 0) = true := decide_eq_true h1
        have HF : Hid (R = false) := HHF.out (by unfold hitOk; rw [decide_eq_false (show ¬ (pd < d) by omega)]; rfl)
        go_wp2_with fail
        rw [HW1.out]
        refine wp_region_quietB W1.heap.size W1 hmx (by kernel_rfl) (Below.refl _ _) ?_
        repeat (go_big_quiet_step (fail))
        refine wpQuiet_nil ?_
        intro _ hw'
        obtain ⟨pq, rfl⟩ := hw'
        go_wp2_with fail
        go_ret
        exact ⟨by rw [HF.out]; rfl, HBA.out.trans (pq.ok.mono HBA.out.size)⟩
      · have h1b : decide (d < 0) = false := decide_eq_false h1
        by_cases h2 : 999 < d
        · have h2b : decide (999 < d) = true := decide_eq_true h2
          have HF : Hid (R = false) := HHF.out (by unfold hitOk; rw [decide_eq_false (show ¬ (d < 1000) by omega)]; simp)
          go_wp2_with fail
          rw [HW1.out]
          refine wp_region_quietB W1.heap.size W1 hmx (by kernel_rfl) (Below.refl _ _) ?_
          repeat (go_big_quiet_step (fail))
          refine wpQuiet_nil ?_
          intro _ hw'
          obtain ⟨pq, rfl⟩ := hw'
          go_wp2_with fail
          go_ret
          exact ⟨by rw [HF.out]; rfl, HBA.out.trans (pq.ok.mono HBA.out.size)⟩
        · have h2b : decide (999 < d) = false := decide_eq_false h2
          by_cases h3 : (0 : Int) < (k : Int) ∧ d ≤ pd
          · obtain ⟨h3a, h3b⟩ := h3
            have h3n : 0 < k := by omega
            have h3c : decide (0 < k) = true := decide_eq_true h3n
            have h3d : decide (d ≤ pd) = true := decide_eq_true h3b
            have HF : Hid (R = false) := HHF.out (by unfold hitOk; rw [decide_eq_false (show ¬ (pd < d) by omega)]; rfl)
            obtain ⟨j, hj⟩ : ∃ j, j + 1 = k := ⟨k - 1, by omega⟩
            have zj := HZP.out j hj
            have wj : IntKind.i64.wrap ((k : Int) - 1) = (j : Int) := by rw [IntKind.wrap_i64]; omega
            have hjn : (j : Int) < (n : Int) := by omega
            have hjn2 : j < n := by omega
            clear hj
            go_wp2_with fail
            rw [HW1.out]
            refine wp_region_quietB W1.heap.size W1 hmx (by kernel_rfl) (Below.refl _ _) ?_
            repeat (go_big_quiet_step (fail))
            refine wpQuiet_nil ?_
            intro _ hw'
            obtain ⟨pq, rfl⟩ := hw'
            go_wp2_with fail
            go_ret
            exact ⟨by rw [HF.out]; rfl, HBA.out.trans (pq.ok.mono HBA.out.size)⟩
          · have HPD : pd < d := by
              rcases Nat.eq_zero_or_pos k with e | e
              · have := HP0.out e; omega
              · omega
            by_cases hm0 : m = 0
            · have hm0b : ((m : Int) == 0) = true := by simp [hm0]
              have HF : Hid (R = false) := HHF.out (by unfold hitOk; simp only; rw [← HM.out, hm0]; simp)
              rcases Nat.eq_zero_or_pos k with hk0 | hk0
              · have h3c : decide (0 < k) = false := decide_eq_false (by omega)
                clear hk0 hm0
                go_wp2_with fail
                rw [HW1.out]
                refine wp_region_quietB W1.heap.size W1 hmx (by kernel_rfl) (Below.refl _ _) ?_
                repeat (go_big_quiet_step (fail))
                refine wpQuiet_nil ?_
                intro _ hw'
                obtain ⟨pq, rfl⟩ := hw'
                go_wp2_with fail
                go_ret
                exact ⟨by rw [HF.out]; rfl, HBA.out.trans (pq.ok.mono HBA.out.size)⟩
              · have h3c : decide (0 < k) = true := decide_eq_true hk0
                have h3d : decide (d ≤ pd) = false := decide_eq_false (by omega)
                obtain ⟨j, hj⟩ : ∃ j, j + 1 = k := ⟨k - 1, by omega⟩
                have zj := HZP.out j hj
                have wj : IntKind.i64.wrap ((k : Int) - 1) = (j : Int) := by rw [IntKind.wrap_i64]; omega
                have hjn : (j : Int) < (n : Int) := by omega
                have hjn2 : j < n := by omega
                clear hj hm0
                go_wp2_with fail
                rw [HW1.out]
                refine wp_region_quietB W1.heap.size W1 hmx (by kernel_rfl) (Below.refl _ _) ?_
                repeat (go_big_quiet_step (fail))
                refine wpQuiet_nil ?_
                intro _ hw'
                obtain ⟨pq, rfl⟩ := hw'
                go_wp2_with fail
                go_ret
                exact ⟨by rw [HF.out]; rfl, HBA.out.trans (pq.ok.mono HBA.out.size)⟩
            · have hm0b : ((m : Int) == 0) = false := by simp [hm0]
              have hk0b : decide (0 < k) = false ∨ (decide (0 < k) = true ∧ ∃ j, j + 1 = k) := by
                rcases Nat.eq_zero_or_pos k with hk0 | hk0
                · exact .inl (decide_eq_false (by omega))
                · exact .inr ⟨decide_eq_true hk0, k - 1, by omega⟩
              rcases hk0b with h3c | ⟨h3c, j, hj⟩
              · go_wp2_with fail
                rw [HW1.out]
                refine wp_region_quietB W1.heap.size W1 hmx (by kernel_rfl) (Below.refl _ _) ?_
                repeat (go_big_quiet_step (fail))
                refine wpQuiet_nil ?_
                intro _ hw'
                obtain ⟨pq, rfl⟩ := hw'
                go_wp2_with fail
                go_loopw [46] (fun i wq => ∃ q : Nat, q ≤ m ∧ i = .int .i64 q ∧ Hid (upI (-1) 65536 (ps.take q) = true) ∧ Below W1.heap.size W1 wq) (fun i _ => m - (intOf i).toNat)
                case atStart => exact ⟨0, Nat.zero_le _, rfl, rfl, pq.ok⟩
                case round =>
                  obtain ⟨q, hq, rfl, HTQ, hbq⟩ := hrel
                  have HBQ := Lib.hid hbq
                  by_cases hqm : q < m
                  · have hqx : q < ps.length := by rw [← HM.out]; exact hqm
                    obtain ⟨b2, o2, e2, hb2, hcq⟩ := (HCK.out.up' hbq) (by rw [List.length_map]; omega)
                    have hx0 := hcq q _ (eI_get hqx)
                    have hst := up_step ps q hqx HTQ.out
                    obtain ⟨pl, hpl⟩ : ∃ pl, pl = lstI (-1) (ps.take q) := ⟨_, rfl⟩
                    have hl1 : ∀ i, i + 1 = q → wr.cell? ⟨b2, o2 + i, none⟩ = some (.int .i64 pl) ∧ -1 < pl := fun i e => by
                      have hi : i < ps.length := by omega
                      rw [hpl, ← e, lstI_at ps _ i hi]
                      have hmm : ps[i] ∈ ps.take (i + 1) := by rw [List.take_succ_eq_append_getElem hi]; exact List.mem_append_right _ (List.mem_singleton.2 rfl)
                      rw [e] at hmm
                      exact ⟨hcq i _ (eI_get hi), (upI_bound _ _ _ HTQ.out ps[i] hmm).1⟩
                    have hl0 : q = 0 → pl = -1 := fun e => by rw [hpl, e]; rfl
                    rw [← hpl] at hst
                    obtain ⟨x, hx⟩ : ∃ x, x = ps[q] := ⟨_, rfl⟩
                    rw [← hx] at hx0 hst
                    have y1 := z1 ⟨wr, hbq⟩
                    change wr.cell? _ = _ at y1
                    subst e2
                    have hcase : (decide (0 < q) = false ∧ pl = -1) ∨ (decide (0 < q) = true ∧ ∃ i, i + 1 = q) := by
                      rcases Nat.eq_zero_or_pos q with e | e
                      · exact .inl ⟨decide_eq_false (by omega), hl0 e⟩
                      · exact .inr ⟨decide_eq_true e, q - 1, by omega⟩
                    have hpm : -1 ≤ pl := by
                      rcases hcase with ⟨_, e⟩ | ⟨_, i, e⟩
                      · omega
                      · have := (hl1 i e).2; omega
                    have HSQ := Lib.hid hst
                    have HL1 := Lib.hid hl1
                    have HCA := Lib.hid hcase
                    have HHQ : Hid (upI (-1) 65536 ps = false → R = false) := fun g => HHF.out (by unfold hitOk; simp only; rw [g]; simp)
                    clear hx hpl hl1 hl0 hst hcq hcase hb2 hbq
                    by_cases g1 : x < 0
                    · have g1b : decide (x < 0) = true := decide_eq_true g1
                      have HF := Lib.hid (HHQ.out (HSQ.out.2 (by rw [decide_eq_false (show ¬ pl < x by omega)]; rfl)))
                      go_wp2_with fail
                      go_ret
                      exact ⟨by rw [HF.out]; rfl, HBA.out.trans (HBQ.out.mono HBA.out.size)⟩
                    · have g1b : decide (x < 0) = false := decide_eq_false g1
                      by_cases g2 : 65535 < x
                      · have g2b : decide (65535 < x) = true := decide_eq_true g2
                        have HF := Lib.hid (HHQ.out (HSQ.out.2 (by rw [decide_eq_false (show ¬ x < 65536 by omega)]; simp)))
                        go_wp2_with fail
                        go_ret
                        exact ⟨by rw [HF.out]; rfl, HBA.out.trans (HBQ.out.mono HBA.out.size)⟩
                      · have g2b : decide (65535 < x) = false := decide_eq_false g2
                        rcases HCA.out with ⟨g3, gp⟩ | ⟨g3, i, gi⟩
                        · have g3n : ¬ 0 < q := of_decide_eq_false g3
                          have HTN := Lib.hid (HSQ.out.1 (by rw [decide_eq_true (show pl < x by omega), decide_eq_true (show x < 65536 by omega)]; rfl))
                          clear gp
                          go_wp2_with fail
                          exact ⟨⟨q + 1, hqm, by go_num, HTN, HBQ.out⟩, by simp [intOf]; omega⟩
                        · have g3n : 0 < q := of_decide_eq_true g3
                          have g3i : (0 : Int) < (q : Int) := by omega
                          have yi := (HL1.out i gi).1
                          have wi : IntKind.i64.wrap ((q : Int) - 1) = (i : Int) := by rw [IntKind.wrap_i64]; omega
                          have him : (i : Int) < (m : Int) := by omega
                          have him2 : i < m := by omega
                          clear gi
                          by_cases g4 : x ≤ pl
                          · have g4b : decide (x ≤ pl) = true := decide_eq_true g4
                            have HF := Lib.hid (HHQ.out (HSQ.out.2 (by rw [decide_eq_false (show ¬ pl < x by omega)]; rfl)))
                            go_wp2_with fail
                            go_ret
                            exact ⟨by rw [HF.out]; rfl, HBA.out.trans (HBQ.out.mono HBA.out.size)⟩
                          · have g4b : decide (x ≤ pl) = false := decide_eq_false g4
                            have HTN := Lib.hid (HSQ.out.1 (by rw [decide_eq_true (show pl < x by omega), decide_eq_true (show x < 65536 by omega)]; rfl))
                            go_wp2_with fail
                            exact ⟨⟨q + 1, hqm, by go_num, HTN, HBQ.out⟩, by simp [intOf]; omega⟩
                  · obtain rfl : q = m := by omega
                    have HUP : Hid (upI (-1) 65536 ps = true) := by
                      show _ = _
                      have e := HTQ.out
                      rwa [List.take_of_length_le (by have := HM.out; omega)] at e
                    have HTN := Lib.hid (HST.out.1 (by unfold hitOk; simp only; rw [HUP.out, ← HM.out, decide_eq_true HPD, decide_eq_true (show d < 1000 by omega), decide_eq_true (show 0 < q by omega)]; rfl))
                    go_wp2_with fail
                    exact ⟨⟨k + 1, hlt, by go_num, HTN, HBA.out.trans (HBQ.out.mono HBA.out.size)⟩, by simp [intOf]; omega⟩
              · have h3d : decide (d ≤ pd) = false := decide_eq_false (by omega)
                have zj := HZP.out j hj
                have wj : IntKind.i64.wrap ((k : Int) - 1) = (j : Int) := by rw [IntKind.wrap_i64]; omega
                have hjn : (j : Int) < (n : Int) := by omega
                have hjn2 : j < n := by omega
                clear hj
                go_wp2_with fail
                rw [HW1.out]
                refine wp_region_quietB W1.heap.size W1 hmx (by kernel_rfl) (Below.refl _ _) ?_
                repeat (go_big_quiet_step (fail))
                refine wpQuiet_nil ?_
                intro _ hw'
                obtain ⟨pq, rfl⟩ := hw'
                go_wp2_with fail
                go_loopw [46] (fun i wq => ∃ q : Nat, q ≤ m ∧ i = .int .i64 q ∧ Hid (upI (-1) 65536 (ps.take q) = true) ∧ Below W1.heap.size W1 wq) (fun i _ => m - (intOf i).toNat)
                case atStart => exact ⟨0, Nat.zero_le _, rfl, rfl, pq.ok⟩
                case round =>
                  obtain ⟨q, hq, rfl, HTQ, hbq⟩ := hrel
                  have HBQ := Lib.hid hbq
                  by_cases hqm : q < m
                  · have hqx : q < ps.length := by rw [← HM.out]; exact hqm
                    obtain ⟨b2, o2, e2, hb2, hcq⟩ := (HCK.out.up' hbq) (by rw [List.length_map]; omega)
                    have hx0 := hcq q _ (eI_get hqx)
                    have hst := up_step ps q hqx HTQ.out
                    obtain ⟨pl, hpl⟩ : ∃ pl, pl = lstI (-1) (ps.take q) := ⟨_, rfl⟩
                    have hl1 : ∀ i, i + 1 = q → wr.cell? ⟨b2, o2 + i, none⟩ = some (.int .i64 pl) ∧ -1 < pl := fun i e => by
                      have hi : i < ps.length := by omega
                      rw [hpl, ← e, lstI_at ps _ i hi]
                      have hmm : ps[i] ∈ ps.take (i + 1) := by rw [List.take_succ_eq_append_getElem hi]; exact List.mem_append_right _ (List.mem_singleton.2 rfl)
                      rw [e] at hmm
                      exact ⟨hcq i _ (eI_get hi), (upI_bound _ _ _ HTQ.out ps[i] hmm).1⟩
                    have hl0 : q = 0 → pl = -1 := fun e => by rw [hpl, e]; rfl
                    rw [← hpl] at hst
                    obtain ⟨x, hx⟩ : ∃ x, x = ps[q] := ⟨_, rfl⟩
                    rw [← hx] at hx0 hst
                    have y1 := z1 ⟨wr, hbq⟩
                    change wr.cell? _ = _ at y1
                    subst e2
                    have hcase : (decide (0 < q) = false ∧ pl = -1) ∨ (decide (0 < q) = true ∧ ∃ i, i + 1 = q) := by
                      rcases Nat.eq_zero_or_pos q with e | e
                      · exact .inl ⟨decide_eq_false (by omega), hl0 e⟩
                      · exact .inr ⟨decide_eq_true e, q - 1, by omega⟩
                    have hpm : -1 ≤ pl := by
                      rcases hcase with ⟨_, e⟩ | ⟨_, i, e⟩
                      · omega
                      · have := (hl1 i e).2; omega
                    have HSQ := Lib.hid hst
                    have HL1 := Lib.hid hl1
                    have HCA := Lib.hid hcase
                    have HHQ : Hid (upI (-1) 65536 ps = false → R = false) := fun g => HHF.out (by unfold hitOk; simp only; rw [g]; simp)
                    clear hx hpl hl1 hl0 hst hcq hcase hb2 hbq
                    by_cases g1 : x < 0
                    · have g1b : decide (x < 0) = true := decide_eq_true g1
                      have HF := Lib.hid (HHQ.out (HSQ.out.2 (by rw [decide_eq_false (show ¬ pl < x by omega)]; rfl)))
                      go_wp2_with fail
                      go_ret
                      exact ⟨by rw [HF.out]; rfl, HBA.out.trans (HBQ.out.mono HBA.out.size)⟩
                    · have g1b : decide (x < 0) = false := decide_eq_false g1
                      by_cases g2 : 65535 < x
                      · have g2b : decide (65535 < x) = true := decide_eq_true g2
                        have HF := Lib.hid (HHQ.out (HSQ.out.2 (by rw [decide_eq_false (show ¬ x < 65536 by omega)]; simp)))
                        go_wp2_with fail
                        go_ret
                        exact ⟨by rw [HF.out]; rfl, HBA.out.trans (HBQ.out.mono HBA.out.size)⟩
                      · have g2b : decide (65535 < x) = false := decide_eq_false g2
                        rcases HCA.out with ⟨g3, gp⟩ | ⟨g3, i, gi⟩
                        · have g3n : ¬ 0 < q := of_decide_eq_false g3
                          have HTN := Lib.hid (HSQ.out.1 (by rw [decide_eq_true (show pl < x by omega), decide_eq_true (show x < 65536 by omega)]; rfl))
                          clear gp
                          go_wp2_with fail
                          exact ⟨⟨q + 1, hqm, by go_num, HTN, HBQ.out⟩, by simp [intOf]; omega⟩
                        · have g3n : 0 < q := of_decide_eq_true g3
                          have g3i : (0 : Int) < (q : Int) := by omega
                          have yi := (HL1.out i gi).1
                          have wi : IntKind.i64.wrap ((q : Int) - 1) = (i : Int) := by rw [IntKind.wrap_i64]; omega
                          have him : (i : Int) < (m : Int) := by omega
                          have him2 : i < m := by omega
                          clear gi
                          by_cases g4 : x ≤ pl
                          · have g4b : decide (x ≤ pl) = true := decide_eq_true g4
                            have HF := Lib.hid (HHQ.out (HSQ.out.2 (by rw [decide_eq_false (show ¬ pl < x by omega)]; rfl)))
                            go_wp2_with fail
                            go_ret
                            exact ⟨by rw [HF.out]; rfl, HBA.out.trans (HBQ.out.mono HBA.out.size)⟩
                          · have g4b : decide (x ≤ pl) = false := decide_eq_false g4
                            have HTN := Lib.hid (HSQ.out.1 (by rw [decide_eq_true (show pl < x by omega), decide_eq_true (show x < 65536 by omega)]; rfl))
                            go_wp2_with fail
                            exact ⟨⟨q + 1, hqm, by go_num, HTN, HBQ.out⟩, by simp [intOf]; omega⟩
                  · obtain rfl : q = m := by omega
                    have HUP : Hid (upI (-1) 65536 ps = true) := by
                      show _ = _
                      have e := HTQ.out
                      rwa [List.take_of_length_le (by have := HM.out; omega)] at e
                    have HTN := Lib.hid (HST.out.1 (by unfold hitOk; simp only; rw [HUP.out, ← HM.out, decide_eq_true HPD, decide_eq_true (show d < 1000 by omega), decide_eq_true (show 0 < q by omega)]; rfl))
                    go_wp2_with fail
                    exact ⟨⟨k + 1, hlt, by go_num, HTN, HBA.out.trans (HBQ.out.mono HBA.out.size)⟩, by simp [intOf]; omega⟩
    · obtain rfl : k = n := by omega
      have HF : Hid (R = true) := by
        show _ = _
        rw [HR.out, ← HT.out, List.take_of_length_le (by have := hn.out; omega)]
      go_wp2_with fail
      go_ret
      exact ⟨by rw [HF.out]; rfl, HB.out⟩
end Go.Proofs.Ytjigaoclngfcaaa
