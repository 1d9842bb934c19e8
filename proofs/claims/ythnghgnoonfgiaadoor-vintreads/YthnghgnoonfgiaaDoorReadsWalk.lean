/- VintReads: it answers true; nothing that was there is written. -/
import Derived.Test.YthnghgnoonfgiaaDoorHeadWalk
import Derived.Test.YthnghgnoonfgiaaDoorReadsSpec
import Derived.WalkKit
import Derived.WalkSpells
import Derived.Outline
import Derived.Lib.Hide
namespace Go.Proofs.YthnghgnoonfgiaaDoor
open Go.RowKit
set_option maxRecDepth 100000

/-- A slice of parts that came in. -/
def SP (w : World) (B : Nat) (A : Option Addr) (ps : List Pt) : Prop :=
  0 < ps.length → ∃ b o, A = some ⟨b, o, none⟩ ∧ b < B ∧ ∀ k, k < ps.length → w.cell? ⟨b, o + k * 3, none⟩ = some (.bool (ptAt ps k).1) ∧ w.cell? ⟨b, o + k * 3 + 1, none⟩ = some (.int .i64 (ptAt ps k).2.1) ∧ w.cell? ⟨b, o + k * 3 + 2, none⟩ = some (.string (ptAt ps k).2.2)
/-- A slice of integers that came in. -/
def SI (w : World) (B : Nat) (A : Option Addr) (ms : List Int) : Prop :=
  0 < ms.length → ∃ b o, A = some ⟨b, o, none⟩ ∧ b < B ∧ ∀ k, k < ms.length → w.cell? ⟨b, o + k, none⟩ = some (.int .i64 (ms.getD k 0)) ∧ -9223372036854775808 ≤ ms.getD k 0 ∧ ms.getD k 0 ≤ 9223372036854775807

theorem Rd.below {w w' : World} {R B : Nat} {l : List UInt8} {e : Int} (h : Rd w R l e) (hb : Below B w w') (hR : R < B) : Rd w' R l e := by
  obtain ⟨A, c, h0, h1, f0, f1, hc, hbs⟩ := h
  have fz : ∀ o, w'.frozen? ⟨R, o, none⟩ = w.frozen? ⟨R, o, none⟩ := fun o => by
    unfold World.frozen?
    rw [hb.block R hR]
  exact ⟨A, c, (hb.cell (p := ⟨R, 0, none⟩) hR).trans h0, (hb.cell (p := ⟨R, 1, none⟩) hR).trans h1, (fz 0).trans f0, (fz 1).trans f1, hc, hbs.below (hb.mono (Nat.le_of_lt hR))⟩

theorem part_cells {wr w' : World} {R : Nat} (pb : Bool) (pn : Int) (pst : ByteArray) (h : ∀ g, g ≠ R → w'.heap[g]? = (wr.alloc (.cells #[.bool pb, .int .i64 pn, .string pst] 35)).heap[g]?) (hR : R < wr.heap.size) :
    w'.cell? ⟨wr.heap.size, 0, none⟩ = some (.bool pb) ∧ w'.cell? ⟨wr.heap.size, 1, none⟩ = some (.int .i64 pn) ∧ w'.cell? ⟨wr.heap.size, 2, none⟩ = some (.string pst) := by
  have k : ∀ o, w'.cell? ⟨wr.heap.size, o, none⟩ = (wr.alloc (.cells #[.bool pb, .int .i64 pn, .string pst] 35)).cell? ⟨wr.heap.size, o, none⟩ := fun o => World.cell?_of_block (h wr.heap.size (by omega))
  refine ⟨(k 0).trans ?_, (k 1).trans ?_, (k 2).trans ?_⟩ <;> simp

set_option maxHeartbeats 8000000 in
theorem reads_main (A A1 : Option Addr) (n c n1 c1 : Nat) (ps : List Pt) (ms : List Int) (cut : Int) (w : World) (hT : Tab w) (HL : Hid (n = ps.length)) (HL1 : Hid (n1 = ms.length)) (hb : SP w w.heap.size A ps) (hb1 : SI w w.heap.size A1 ms) (hn : n ≤ 20) (hn1 : n1 ≤ 20) :
    Calls Tryd.prog 5 #[.slice A n c, .slice A1 n1 c1, .int .i64 cut] w fun e w' => e = .returned (.bool true) ∧ Below w.heap.size w w' := by
  have hd1 : decide ((20 : Int) < (n : Int)) = false := decide_eq_false (by omega)
  have hd2 : decide ((20 : Int) < (n1 : Int)) = false := decide_eq_false (by omega)
  go_enter Tryd.func5, Tryd.ntmps5
  go_wp2_with fail
  refine (head_any _ hT).mono ?_
  rintro e w3 ⟨rfl, hbW⟩
  clear hT
  go_wp2_with fail
  go_loopw [7, 34] (fun v i wr => ∃ k : Nat, k ≤ n ∧ i = .int .i64 k ∧ Below w.heap.size w wr ∧ w3.heap.size ≤ wr.heap.size ∧ Own8 wr w3.heap.size 5 v (layP (ps.take k)) ∧ ∀ j, j < k → (ptAt ps j).2.2.size ≤ 100) (fun _ i _ => n - (intOf i).toNat)
  case atStart => exact ⟨0, Nat.zero_le _, rfl, hbW.alloc hbW.size _, by simp, Own8.lit w3 (0, 0) rfl, fun j h => absurd h (by omega)⟩
  case round =>
    obtain ⟨k, hk, rfl, hbel, hsz, hown, hall⟩ := hrel
    have hws : w.heap.size ≤ w3.heap.size := hbW.size
    have hlay := layP_len ps k (by rw [← HL.out]; exact hk) hall
    have HALL := Lib.hid hall
    clear hall
    by_cases hlt : k < n
    · have hkl : k < ps.length := by rw [← HL.out]; exact hlt
      obtain ⟨b', o, rfl, hbw, hc⟩ := hb (by omega)
      obtain ⟨⟨pb, pn, pst⟩, hpt⟩ : ∃ p, p = ptAt ps k := ⟨_, rfl⟩
      have hc0 := hc k hkl
      rw [← hpt] at hc0
      have hc1 : wr.cell? ⟨b', o + k * 3, none⟩ = some (.bool pb) := (hbel.cell (p := ⟨b', o + k * 3, none⟩) hbw).trans hc0.1
      have hc2 : wr.cell? ⟨b', o + k * 3 + 1, none⟩ = some (.int .i64 pn) := (hbel.cell (p := ⟨b', o + k * 3 + 1, none⟩) hbw).trans hc0.2.1
      have hc3 : wr.cell? ⟨b', o + k * 3 + 2, none⟩ = some (.string pst) := (hbel.cell (p := ⟨b', o + k * 3 + 2, none⟩) hbw).trans hc0.2.2
      clear hc hc0
      have HPT := Lib.hid hpt
      clear hpt
      by_cases hs : pst.size ≤ 100
      · have hs' : (pst.size : Int) ≤ 100 := by omega
        have HA2 : Hid (∀ j, j < k + 1 → (ptAt ps j).2.2.size ≤ 100) := fun j hj => by
          rcases Nat.lt_or_ge j k with h | h
          · exact HALL.out j h
          · rw [show j = k by omega, ← HPT.out]; exact hs
        have HLS := Lib.hid (layP_snoc ps k hkl)
        rw [← HPT.out] at HLS
        have hbelA : Below w.heap.size w (wr.alloc (.cells #[.bool pb, .int .i64 pn, .string pst] 35)) := hbel.alloc hbel.size _
        have hownA : Own8 (wr.alloc (.cells #[.bool pb, .int .i64 pn, .string pst] 35)) w3.heap.size 5 u7 (layP (ps.take k)) := hown.below ((Below.refl _ _).alloc (Nat.le_refl _) _)
        have hszA : w3.heap.size ≤ (wr.alloc (.cells #[.bool pb, .int .i64 pn, .string pst] 35)).heap.size := by simp; omega
        cases pb
        · have ha := and24 pn
          have hnl := numP_lt pn
          go_wp2_with fail
          refine (put_any _ (layP (ps.take k)) w3.heap.size (numP pn) (by omega) _ hownA hszA (by omega)).mono ?_
          rintro e w4 ⟨v4, rfl, hown4, hg4, _⟩
          have hbel4 := hownA.grow hws hbelA hszA hg4
          have hs4 : w3.heap.size ≤ w4.heap.size := Nat.le_trans hszA hg4.size
          rw [show layP (ps.take k) ++ enc (numP pn) = layP (ps.take (k + 1)) from HLS.out.symm] at hown4
          clear hown hownA hg4 ha
          go_wp2_with fail
          refine ⟨⟨k + 1, by omega, by go_num, hbel4, hs4, hown4, HA2.out⟩, ?_⟩
          simp [intOf]
          omega
        · go_wp2_with fail
          refine (text_any _ (layP (ps.take k)) w3.heap.size pst (by omega) _ hownA hszA (by omega)).mono ?_
          rintro e w4 ⟨v4, rfl, hown4, hg4, _⟩
          have hbel4 := hownA.grow hws hbelA hszA hg4
          have hs4 : w3.heap.size ≤ w4.heap.size := Nat.le_trans hszA hg4.size
          rw [show layP (ps.take k) ++ (enc pst.size ++ pst.data.toList) = layP (ps.take (k + 1)) from HLS.out.symm] at hown4
          clear hown hownA hg4
          go_wp2_with fail
          refine ⟨⟨k + 1, by omega, by go_num, hbel4, hs4, hown4, HA2.out⟩, ?_⟩
          simp [intOf]
          omega
      · have hs' : (100 : Int) < (pst.size : Int) := by omega
        have hbelA : Below w.heap.size w (wr.alloc (.cells #[.bool pb, .int .i64 pn, .string pst] 35)) := hbel.alloc hbel.size _
        go_wp2_with fail
        go_ret
        exact ⟨rfl, hbelA⟩
    · have hk2 : n = k := by omega
      subst hk2
      have htk : ps.take n = ps := List.take_of_length_le (by rw [← HL.out]; exact Nat.le_refl _)
      rw [htk] at hown hlay
      obtain ⟨A5, c5, hv5, hc5, _, hbs5, _⟩ := hown.form
      rw [hv5]
      clear hv5 htk
      obtain ⟨t5, ht5⟩ : ∃ t5, t5 = (layP ps).length := ⟨_, rfl⟩
      rw [← ht5] at hc5 hlay ⊢
      have HT5 := Lib.hid ht5
      clear ht5
      go_wp2_with fail
      refine (read_any A5 t5 c5 (layP ps) wr HT5.out (by have := HT5.out; omega) hbs5).mono ?_
      rintro e w6 ⟨R, rfl, hrd, hb6, hR1, hR2⟩
      have hwR : w.heap.size ≤ R := by omega
      have hbel6 : Below w.heap.size w w6 := hbel.trans (hb6.mono (by omega))
      have hbs6 : BS w6 R A5 (layP ps) := (hbs5.below hb6).more hR1
      clear hown hbs5
      go_wp2_with fail
      go_loopw [11, 59] (fun bd i wq => ∃ (k : Nat) (bad : Bool), k ≤ n ∧ i = .int .i64 k ∧ bd = .bool bad ∧ Below R w6 wq ∧ R < wq.heap.size ∧ ((bad = false ∧ Rd wq R (layP (ps.drop k)) 0) ∨ (bad = true ∧ ∃ l, Rd wq R l 2))) (fun _ i _ => n - (intOf i).toNat)
      case atStart => exact ⟨0, false, Nat.zero_le _, rfl, rfl, Below.refl _ _, hR2, .inl ⟨rfl, hrd⟩⟩
      case round =>
        obtain ⟨k, bad, hk, rfl, rfl, hbq, hRq, hst⟩ := hrel
        have hbelq : Below w.heap.size w wr := hbel6.trans (hbq.mono hwR)
        by_cases hlt : k < n
        · have hkl : k < ps.length := by rw [← HL.out]; exact hlt
          obtain ⟨b', o, rfl, hbw, hc⟩ := hb (by omega)
          obtain ⟨⟨pb, pn, pst⟩, hpt⟩ : ∃ p, p = ptAt ps k := ⟨_, rfl⟩
          have hc0 := hc k hkl
          rw [← hpt] at hc0
          have hc1 : wr.cell? ⟨b', o + k * 3, none⟩ = some (.bool pb) := (hbelq.cell (p := ⟨b', o + k * 3, none⟩) hbw).trans hc0.1
          have hc2 : wr.cell? ⟨b', o + k * 3 + 1, none⟩ = some (.int .i64 pn) := (hbelq.cell (p := ⟨b', o + k * 3 + 1, none⟩) hbw).trans hc0.2.1
          have hc3 : wr.cell? ⟨b', o + k * 3 + 2, none⟩ = some (.string pst) := (hbelq.cell (p := ⟨b', o + k * 3 + 2, none⟩) hbw).trans hc0.2.2
          have hps : pst.size ≤ 100 := by have := HALL.out k hlt; rw [← hpt] at this; exact this
          have HPT := Lib.hid hpt
          clear hc hc0 hpt
          have hlenA : ∀ q, (layP (ps.drop q)).length ≤ 1000000 := fun q => by have := layP_part ps q; have := HT5.out; omega
          have HDR := Lib.hid (layP_drop ps k hkl)
          rw [← HPT.out] at HDR
          have hbA : Below wr.heap.size wr (wr.alloc (.cells #[.bool pb, .int .i64 pn, .string pst] 35)) := (Below.refl _ _).alloc (Nat.le_refl _) _
          have hbqA : Below R w6 (wr.alloc (.cells #[.bool pb, .int .i64 pn, .string pst] 35)) := hbq.trans (hbA.mono (Nat.le_of_lt hRq))
          have hRA : R < (wr.alloc (.cells #[.bool pb, .int .i64 pn, .string pst] 35)).heap.size := by simp; omega
          have hbelA : Below w.heap.size w (wr.alloc (.cells #[.bool pb, .int .i64 pn, .string pst] 35)) := hbel6.trans (hbqA.mono hwR)
          obtain ⟨m, hm9, hm8, hmm⟩ : ∃ m : Int, -9223372036854775808 ≤ m ∧ m ≤ 9223372036854775807 ∧ ((k < n1 ∧ ∃ b1 o1, A1 = some ⟨b1, o1, none⟩ ∧ (wr.alloc (.cells #[.bool pb, .int .i64 pn, .string pst] 35)).cell? ⟨b1, o1 + k, none⟩ = some (.int .i64 m)) ∨ (¬ k < n1 ∧ m = 1073741824)) := by
            by_cases hi : k < n1
            · obtain ⟨b1, o1, rfl, hbw1, hcm⟩ := hb1 (by rw [← HL1.out]; omega)
              obtain ⟨h1, h2, h3⟩ := hcm k (by rw [← HL1.out]; exact hi)
              exact ⟨_, h2, h3, .inl ⟨hi, b1, o1, rfl, (hbelA.cell (p := ⟨b1, o1 + k, none⟩) hbw1).trans h1⟩⟩
            · exact ⟨1073741824, by decide, by decide, .inr ⟨hi, rfl⟩⟩
          rcases hst with ⟨rfl, hrd2⟩ | ⟨rfl, l2, hrd2⟩
          · have hrdA := hrd2.below hbA hRq
            rw [HDR.out] at hrdA
            have hlA := hlenA k
            rw [HDR.out] at hlA
            cases pb
            · obtain ⟨N, hNN⟩ : ∃ N, N = numP pn := ⟨_, rfl⟩
              have ha := and24 pn
              rw [← hNN] at ha
              have hNl : N < 16777216 := by rw [hNN]; exact numP_lt pn
              by_cases hN : ((N : Nat) : Int) ≤ max m 0
              · have HR := Lib.hid (part_num (false, pn, pst) rfl (layP (ps.drop (k + 1))) R m _ hrdA hlA (by rw [← show N = numP (false, pn, pst).2.1 from hNN]; exact hN) hm9 hm8)
                rw [← show N = numP (false, pn, pst).2.1 from hNN] at HR
                have hcs : (m ≤ 0 ∧ ¬ (0 : Int) < (N : Int)) ∨ (0 < m ∧ (N : Int) ≤ m) := by omega
                clear hrdA hlA hN hNN
                rcases hmm with ⟨hi, b1, o1, rfl, hcm⟩ | ⟨hi, rfl⟩
                all_goals rcases hcs with ⟨hm0, hle⟩ | ⟨hm0, hle⟩
                all_goals try (exact absurd hm0 (by decide))
                all_goals
                  go_wp2_with fail
                  refine HR.out.mono ?_
                  rintro e w7 ⟨rfl, hmv⟩
                  obtain ⟨hp1, hp2, hp3⟩ := part_cells false pn pst hmv.2.2.2 hRq
                  go_wp2_with fail
                  refine (err_some R _ 0 _ hmv.1).mono ?_
                  rintro e w8 ⟨rfl, rfl⟩
                  go_wp2_with fail
                  refine ⟨⟨k + 1, false, by omega, by go_num, rfl, hbqA.trans hmv.2.1, by have := hmv.2.2.1; omega, .inl ⟨rfl, hmv.1⟩⟩, ?_⟩
                  simp [intOf]
                  omega
              · have HR := Lib.hid (part_num_bad (false, pn, pst) rfl (layP (ps.drop (k + 1))) R m _ hrdA hlA (by rw [← show N = numP (false, pn, pst).2.1 from hNN]; omega) hm9 hm8)
                have hcs : (m ≤ 0 ∧ (0 : Int) < (N : Int)) ∨ (0 < m ∧ m < (N : Int)) := by omega
                clear hrdA hlA hN hNN
                rcases hmm with ⟨hi, b1, o1, rfl, hcm⟩ | ⟨hi, rfl⟩
                all_goals rcases hcs with ⟨hm0, hle⟩ | ⟨hm0, hle⟩
                all_goals try (exact absurd hm0 (by decide))
                all_goals try (exact absurd hle (by omega))
                all_goals
                  go_wp2_with fail
                  refine HR.out.mono ?_
                  rintro e w7 ⟨rfl, hmv⟩
                  obtain ⟨hp1, hp2, hp3⟩ := part_cells false pn pst hmv.2.2.2 hRq
                  go_wp2_with fail
                  refine (err_some R _ 2 _ hmv.1).mono ?_
                  rintro e w8 ⟨rfl, rfl⟩
                  go_wp2_with fail
                  refine ⟨⟨k + 1, true, by omega, by go_num, rfl, hbqA.trans hmv.2.1, by have := hmv.2.2.1; omega, .inr ⟨rfl, _, hmv.1⟩⟩, ?_⟩
                  simp [intOf]
                  omega
            · by_cases hN : ((pst.size : Nat) : Int) ≤ max m 0
              · have HR := Lib.hid (part_text (true, pn, pst) rfl hps (layP (ps.drop (k + 1))) R m _ hrdA hlA hN hm9 hm8)
                have hcs : (m ≤ 0 ∧ pst = ByteArray.empty) ∨ (0 < m ∧ (pst.size : Int) ≤ m) := by
                  by_cases h0 : 0 < m
                  · exact .inr ⟨h0, by omega⟩
                  · exact .inl ⟨by omega, ByteArray.size_eq_zero_iff.1 (by omega)⟩
                clear hrdA hlA hN
                rcases hmm with ⟨hi, b1, o1, rfl, hcm⟩ | ⟨hi, rfl⟩
                all_goals rcases hcs with ⟨hm0, rfl⟩ | ⟨hm0, hle⟩
                all_goals try (exact absurd hm0 (by decide))
                all_goals
                  go_wp2_with fail
                  refine HR.out.mono ?_
                  rintro e w7 ⟨rfl, hmv⟩
                  obtain ⟨hp1, hp2, hp3⟩ := part_cells true pn _ hmv.2.2.2 hRq
                  go_wp2_with fail
                  refine (err_some R _ 0 _ hmv.1).mono ?_
                  rintro e w8 ⟨rfl, rfl⟩
                  go_wp2_with fail
                  refine ⟨⟨k + 1, false, by omega, by go_num, rfl, hbqA.trans hmv.2.1, by have := hmv.2.2.1; omega, .inl ⟨rfl, hmv.1⟩⟩, ?_⟩
                  simp [intOf]
                  omega
              · have HR := Lib.hid (part_text_bad (true, pn, pst) rfl hps (layP (ps.drop (k + 1))) R m _ hrdA hlA (by show max m 0 < ((pst.size : Nat) : Int); omega) hm9 hm8)
                have hcs : (m ≤ 0 ∧ 0 < pst.size) ∨ (0 < m ∧ m < (pst.size : Int)) := by omega
                clear hrdA hlA hN
                rcases hmm with ⟨hi, b1, o1, rfl, hcm⟩ | ⟨hi, rfl⟩
                all_goals rcases hcs with ⟨hm0, hle⟩ | ⟨hm0, hle⟩
                all_goals try (exact absurd hm0 (by decide))
                all_goals try (exact absurd hle (by omega))
                all_goals
                  go_wp2_with fail
                  refine HR.out.mono ?_
                  rintro e w7 ⟨rfl, hmv⟩
                  obtain ⟨hp1, hp2, hp3⟩ := part_cells true pn pst hmv.2.2.2 hRq
                  go_wp2_with fail
                  refine (err_some R _ 2 _ hmv.1).mono ?_
                  rintro e w8 ⟨rfl, rfl⟩
                  go_wp2_with fail
                  refine ⟨⟨k + 1, true, by omega, by go_num, rfl, hbqA.trans hmv.2.1, by have := hmv.2.2.1; omega, .inr ⟨rfl, _, hmv.1⟩⟩, ?_⟩
                  simp [intOf]
                  omega
          · have hrdA := hrd2.below hbA hRq
            have HRD := Lib.hid hrdA
            clear hrdA hrd2
            cases pb
            · rcases hmm with ⟨hi, b1, o1, rfl, hcm⟩ | ⟨hi, rfl⟩
              all_goals
                go_wp2_with fail
                refine (num_err R l2 _ _ HRD.out).mono ?_
                rintro e w7 ⟨rfl, rfl⟩
                go_wp2_with fail
                refine (err_some R _ 2 _ HRD.out).mono ?_
                rintro e w8 ⟨rfl, rfl⟩
                go_wp2_with fail
                refine ⟨⟨k + 1, true, by omega, by go_num, rfl, hbqA, hRA, .inr ⟨rfl, _, HRD.out⟩⟩, ?_⟩
                simp [intOf]
                omega
            · rcases hmm with ⟨hi, b1, o1, rfl, hcm⟩ | ⟨hi, rfl⟩
              all_goals
                go_wp2_with fail
                refine (rtext_err R l2 _ _ HRD.out).mono ?_
                rintro e w7 ⟨rfl, rfl⟩
                go_wp2_with fail
                refine (err_some R _ 2 _ HRD.out).mono ?_
                rintro e w8 ⟨rfl, rfl⟩
                go_wp2_with fail
                refine ⟨⟨k + 1, true, by omega, by go_num, rfl, hbqA, hRA, .inr ⟨rfl, _, HRD.out⟩⟩, ?_⟩
                simp [intOf]
                omega
        · have hk2 : n = k := by omega
          subst hk2
          have hdn : layP (ps.drop n) = [] := by rw [List.drop_of_length_le (by rw [← HL.out]; exact Nat.le_refl _)]; rfl
          rw [hdn] at hst
          have HDN := Lib.hid hdn
          clear hdn
          obtain ⟨c8, hc8, hc8l⟩ : ∃ c8 : Nat, bits .and .i64 cut 255 = (c8 : Int) ∧ c8 < 256 := ⟨(cut % 256).toNat, and8 cut, by omega⟩
          obtain ⟨d, hd⟩ : ∃ d : Nat, d = c8 % (t5 + 1) := ⟨_, rfl⟩
          have hdl : d ≤ t5 := by have := Nat.mod_lt c8 (show 0 < t5 + 1 by omega); omega
          have hrem : (c8 : Int) % ((t5 : Int) + 1) = (d : Int) := by rw [hd]; simp
          have hdl' : (d : Int) ≤ (t5 : Int) := by omega
          obtain ⟨hto, hbt⟩ := ((hbs6.below hbq)).to_ t5 c5 d HT5.out hdl hc5
          have hlt2 : d = ((layP ps).take d).length := by rw [List.length_take, ← HT5.out]; omega
          have HRE := Lib.hid (read_any A5 d c5 ((layP ps).take d) wr hlt2 (by rw [← hlt2]; omega) (hbt.more (Nat.le_of_lt hRq)))
          clear hlt2 hbt hd
          rcases hst with ⟨rfl, hrd2⟩ | ⟨rfl, l2, hrd2⟩
          · have HE := Lib.hid (end_some R [] wr hrd2)
            rw [if_pos (by rfl)] at HE
            have HLE := Lib.hid (left_some R [] 0 wr hrd2)
            rw [show (([] : List UInt8).length : Nat) = 0 from rfl] at HLE
            clear hrd2
            go_wp2_with fail
            refine HE.out.mono ?_
            rintro e w7 ⟨rfl, rfl⟩
            go_wp2_with fail
            refine HLE.out.mono ?_
            rintro e w7 ⟨rfl, rfl⟩
            go_wp2_with fail
            refine HRE.out.mono ?_
            rintro e w9 ⟨R2, rfl, hrd9, hb9, hR21, hR22⟩
            have hbel9 : Below w.heap.size w w9 := hbelq.trans (hb9.mono hbelq.size)
            have hwR2 : w.heap.size ≤ R2 := by have := hbelq.size; omega
            clear HE HLE HRE hto
            go_wp2_with fail
            go_loopw [167] (fun i wq => ∃ k : Nat, k ≤ n ∧ i = .int .i64 k ∧ Below R2 w9 wq ∧ R2 < wq.heap.size ∧ ((∃ m, m ≤ (layP (ps.drop k)).length ∧ (m = (layP (ps.drop k)).length ↔ d = t5) ∧ Rd wq R2 ((layP (ps.drop k)).take m) 0) ∨ (d ≠ t5 ∧ ∃ l, Rd wq R2 l 2))) (fun i _ => n - (intOf i).toNat)
            case atStart => exact ⟨0, Nat.zero_le _, rfl, Below.refl _ _, hR22, .inl ⟨d, by rw [List.drop_zero, ← HT5.out]; exact hdl, by rw [List.drop_zero, ← HT5.out], hrd9⟩⟩
            case round =>
              obtain ⟨k, hk, rfl, hbz, hRz, hst⟩ := hrel
              have hbelz : Below w.heap.size w wr := hbel9.trans (hbz.mono hwR2)
              clear hrem hc8
              by_cases hlt : k < n
              · have hkl : k < ps.length := by rw [← HL.out]; exact hlt
                obtain ⟨b', o, rfl, hbw, hc⟩ := hb (by omega)
                obtain ⟨⟨pb, pn, pst⟩, hpt⟩ : ∃ p, p = ptAt ps k := ⟨_, rfl⟩
                have hc0 := hc k hkl
                rw [← hpt] at hc0
                have hc1 : wr.cell? ⟨b', o + k * 3, none⟩ = some (.bool pb) := (hbelz.cell (p := ⟨b', o + k * 3, none⟩) hbw).trans hc0.1
                have hc2 : wr.cell? ⟨b', o + k * 3 + 1, none⟩ = some (.int .i64 pn) := (hbelz.cell (p := ⟨b', o + k * 3 + 1, none⟩) hbw).trans hc0.2.1
                have hc3 : wr.cell? ⟨b', o + k * 3 + 2, none⟩ = some (.string pst) := (hbelz.cell (p := ⟨b', o + k * 3 + 2, none⟩) hbw).trans hc0.2.2
                have hps : pst.size ≤ 100 := by have := HALL.out k hlt; rw [← hpt] at this; exact this
                have HDR := Lib.hid (layP_drop ps k hkl)
                rw [← hpt] at HDR
                have hlA : (layP (ps.drop k)).length ≤ 1000000 := by have := layP_part ps k; have := HT5.out; omega
                clear hc hc0 hpt
                have hbA : Below wr.heap.size wr (wr.alloc (.cells #[.bool pb, .int .i64 pn, .string pst] 35)) := (Below.refl _ _).alloc (Nat.le_refl _) _
                have hbzA : Below R2 w9 (wr.alloc (.cells #[.bool pb, .int .i64 pn, .string pst] 35)) := hbz.trans (hbA.mono (Nat.le_of_lt hRz))
                have hRA : R2 < (wr.alloc (.cells #[.bool pb, .int .i64 pn, .string pst] 35)).heap.size := by simp; omega
                rcases hst with ⟨m, hml, hiff, hrd⟩ | ⟨hne, l3, hrd⟩
                · have hrdA := hrd.below hbA hRz
                  rw [HDR.out] at hrdA hlA hml hiff
                  rw [List.length_append] at hml hiff hlA
                  by_cases hE : (enP (pb, pn, pst)).length ≤ m
                  · have ht : (enP (pb, pn, pst) ++ layP (ps.drop (k + 1))).take m = enP (pb, pn, pst) ++ (layP (ps.drop (k + 1))).take (m - (enP (pb, pn, pst)).length) := by rw [List.take_append, List.take_of_length_le hE]
                    rw [ht] at hrdA
                    have hlB : (enP (pb, pn, pst) ++ (layP (ps.drop (k + 1))).take (m - (enP (pb, pn, pst)).length)).length ≤ 1000000 := by rw [List.length_append, List.length_take]; omega
                    have HIF : Hid (m - (enP (pb, pn, pst)).length = (layP (ps.drop (k + 1))).length ↔ d = t5) := ⟨fun h => hiff.1 (by omega), fun h => by have := hiff.2 h; omega⟩
                    have HML : Hid (m - (enP (pb, pn, pst)).length ≤ (layP (ps.drop (k + 1))).length) := by show _ ≤ _; omega
                    cases pb
                    · have HR := Lib.hid (part_num (false, pn, pst) rfl _ R2 1073741824 _ hrdA hlB (by have := numP_lt pn; show ((numP pn : Nat) : Int) ≤ _; omega) (by decide) (by decide))
                      clear hrdA hlB hlA ht hiff hml hE hrd
                      go_wp2_with fail
                      refine HR.out.mono ?_
                      rintro e w7 ⟨rfl, hmv⟩
                      go_wp2_with fail
                      refine ⟨⟨k + 1, by omega, by go_num, hbzA.trans hmv.2.1, by have := hmv.2.2.1; omega, .inl ⟨_, HML.out, HIF.out, hmv.1⟩⟩, ?_⟩
                      simp [intOf]
                      omega
                    · have HR := Lib.hid (part_text (true, pn, pst) rfl hps _ R2 1073741824 _ hrdA hlB (by show ((pst.size : Nat) : Int) ≤ _; omega) (by decide) (by decide))
                      clear hrdA hlB hlA ht hiff hml hE hrd
                      go_wp2_with fail
                      refine HR.out.mono ?_
                      rintro e w7 ⟨rfl, hmv⟩
                      go_wp2_with fail
                      refine ⟨⟨k + 1, by omega, by go_num, hbzA.trans hmv.2.1, by have := hmv.2.2.1; omega, .inl ⟨_, HML.out, HIF.out, hmv.1⟩⟩, ?_⟩
                      simp [intOf]
                      omega
                  · have ht : (enP (pb, pn, pst) ++ layP (ps.drop (k + 1))).take m = (enP (pb, pn, pst)).take m := List.take_append_of_le_length (by omega)
                    rw [ht] at hrdA
                    have HNE : Hid (d ≠ t5) := fun h => by have := hiff.2 h; omega
                    have hlB : (enP (pb, pn, pst)).length ≤ 1000000 := by omega
                    have hE' : m < (enP (pb, pn, pst)).length := by omega
                    cases pb
                    · have HR := Lib.hid (cut_num (false, pn, pst) rfl m R2 hE' _ hrdA hlB)
                      clear hrdA hlB hlA ht hiff hml hE hrd hE'
                      go_wp2_with fail
                      refine HR.out.mono ?_
                      rintro e w7 ⟨v7, l7, rfl, hmv⟩
                      go_wp2_with fail
                      refine ⟨⟨k + 1, by omega, by go_num, hbzA.trans hmv.2.1, by have := hmv.2.2.1; omega, .inr ⟨HNE.out, _, hmv.1⟩⟩, ?_⟩
                      simp [intOf]
                      omega
                    · have HR := Lib.hid (cut_text (true, pn, pst) rfl hps m R2 hE' _ hrdA hlB)
                      clear hrdA hlB hlA ht hiff hml hE hrd hE'
                      go_wp2_with fail
                      refine HR.out.mono ?_
                      rintro e w7 ⟨v7, l7, rfl, hmv⟩
                      go_wp2_with fail
                      refine ⟨⟨k + 1, by omega, by go_num, hbzA.trans hmv.2.1, by have := hmv.2.2.1; omega, .inr ⟨HNE.out, _, hmv.1⟩⟩, ?_⟩
                      simp [intOf]
                      omega
                · have HRD := Lib.hid (hrd.below hbA hRz)
                  have HNE := Lib.hid hne
                  clear hrd hlA hne
                  cases pb
                  · go_wp2_with fail
                    refine (num_err R2 l3 _ _ HRD.out).mono ?_
                    rintro e w7 ⟨rfl, rfl⟩
                    go_wp2_with fail
                    refine ⟨⟨k + 1, by omega, by go_num, hbzA, hRA, .inr ⟨HNE.out, _, HRD.out⟩⟩, ?_⟩
                    simp [intOf]
                    omega
                  · go_wp2_with fail
                    refine (rtext_err R2 l3 _ _ HRD.out).mono ?_
                    rintro e w7 ⟨rfl, rfl⟩
                    go_wp2_with fail
                    refine ⟨⟨k + 1, by omega, by go_num, hbzA, hRA, .inr ⟨HNE.out, _, HRD.out⟩⟩, ?_⟩
                    simp [intOf]
                    omega
              · have hk2 : n = k := by omega
                subst hk2
                rw [HDN.out] at hst
                obtain ⟨err, l4, hrd4, hfin⟩ : ∃ err l4, Rd wr R2 l4 err ∧ ((err = 0 ∧ d = t5) ∨ (err = 2 ∧ d ≠ t5)) := by
                  rcases hst with ⟨m, hml, hiff, hrd⟩ | ⟨hne, l3, hrd⟩
                  · exact ⟨0, _, hrd, .inl ⟨rfl, hiff.1 (by simpa using hml)⟩⟩
                  · exact ⟨2, _, hrd, .inr ⟨rfl, hne⟩⟩
                have HRD := Lib.hid (err_some R2 l4 err wr hrd4)
                clear hst hrd4
                rcases hfin with ⟨rfl, hdt⟩ | ⟨rfl, hdt⟩
                · have hq : ((d : Int) == (t5 : Int)) = true := by simp; omega
                  clear hdt
                  go_wp2_with fail
                  refine HRD.out.mono ?_
                  rintro e w7 ⟨rfl, rfl⟩
                  go_wp2_with (first
                    | (go_at_call 16; (with_reducible refine (num_nil _ _).mono ?_); rintro e w' ⟨rfl, rfl⟩)
                    | (go_at_call 15; (with_reducible refine (rtext_nil _ _).mono ?_); rintro e w' ⟨rfl, rfl⟩)
                    | (go_at_call 19; (with_reducible refine (left_nil _).mono ?_); rintro e w' ⟨rfl, rfl⟩)
                    | (go_at_call 17; (with_reducible refine (err_nil _).mono ?_); rintro e w' ⟨rfl, rfl⟩)
                    | (go_at_call 18; (with_reducible refine (end_nil _).mono ?_); rintro e w' ⟨rfl, rfl⟩))
                  go_ret
                  exact ⟨rfl, hbelz⟩
                · have hq : ((d : Int) == (t5 : Int)) = false := by simp; omega
                  clear hdt
                  go_wp2_with fail
                  refine HRD.out.mono ?_
                  rintro e w7 ⟨rfl, rfl⟩
                  go_wp2_with (first
                    | (go_at_call 16; (with_reducible refine (num_nil _ _).mono ?_); rintro e w' ⟨rfl, rfl⟩)
                    | (go_at_call 15; (with_reducible refine (rtext_nil _ _).mono ?_); rintro e w' ⟨rfl, rfl⟩)
                    | (go_at_call 19; (with_reducible refine (left_nil _).mono ?_); rintro e w' ⟨rfl, rfl⟩)
                    | (go_at_call 17; (with_reducible refine (err_nil _).mono ?_); rintro e w' ⟨rfl, rfl⟩)
                    | (go_at_call 18; (with_reducible refine (end_nil _).mono ?_); rintro e w' ⟨rfl, rfl⟩))
                  go_ret
                  exact ⟨rfl, hbelz⟩
          · have HE := Lib.hid (end_err R l2 wr hrd2)
            clear hrd2
            go_wp2_with fail
            refine HE.out.mono ?_
            rintro e w7 ⟨rfl, rfl⟩
            go_wp2_with fail
            refine HRE.out.mono ?_
            rintro e w9 ⟨R2, rfl, hrd9, hb9, hR21, hR22⟩
            have hbel9 : Below w.heap.size w w9 := hbelq.trans (hb9.mono hbelq.size)
            have hwR2 : w.heap.size ≤ R2 := by have := hbelq.size; omega
            clear HE HRE hto
            go_wp2_with fail
            go_loopw [167] (fun i wq => ∃ k : Nat, k ≤ n ∧ i = .int .i64 k ∧ Below R2 w9 wq ∧ R2 < wq.heap.size ∧ ((∃ m, m ≤ (layP (ps.drop k)).length ∧ (m = (layP (ps.drop k)).length ↔ d = t5) ∧ Rd wq R2 ((layP (ps.drop k)).take m) 0) ∨ (d ≠ t5 ∧ ∃ l, Rd wq R2 l 2))) (fun i _ => n - (intOf i).toNat)
            case atStart => exact ⟨0, Nat.zero_le _, rfl, Below.refl _ _, hR22, .inl ⟨d, by rw [List.drop_zero, ← HT5.out]; exact hdl, by rw [List.drop_zero, ← HT5.out], hrd9⟩⟩
            case round =>
              obtain ⟨k, hk, rfl, hbz, hRz, hst⟩ := hrel
              have hbelz : Below w.heap.size w wr := hbel9.trans (hbz.mono hwR2)
              clear hrem hc8
              by_cases hlt : k < n
              · have hkl : k < ps.length := by rw [← HL.out]; exact hlt
                obtain ⟨b', o, rfl, hbw, hc⟩ := hb (by omega)
                obtain ⟨⟨pb, pn, pst⟩, hpt⟩ : ∃ p, p = ptAt ps k := ⟨_, rfl⟩
                have hc0 := hc k hkl
                rw [← hpt] at hc0
                have hc1 : wr.cell? ⟨b', o + k * 3, none⟩ = some (.bool pb) := (hbelz.cell (p := ⟨b', o + k * 3, none⟩) hbw).trans hc0.1
                have hc2 : wr.cell? ⟨b', o + k * 3 + 1, none⟩ = some (.int .i64 pn) := (hbelz.cell (p := ⟨b', o + k * 3 + 1, none⟩) hbw).trans hc0.2.1
                have hc3 : wr.cell? ⟨b', o + k * 3 + 2, none⟩ = some (.string pst) := (hbelz.cell (p := ⟨b', o + k * 3 + 2, none⟩) hbw).trans hc0.2.2
                have hps : pst.size ≤ 100 := by have := HALL.out k hlt; rw [← hpt] at this; exact this
                have HDR := Lib.hid (layP_drop ps k hkl)
                rw [← hpt] at HDR
                have hlA : (layP (ps.drop k)).length ≤ 1000000 := by have := layP_part ps k; have := HT5.out; omega
                clear hc hc0 hpt
                have hbA : Below wr.heap.size wr (wr.alloc (.cells #[.bool pb, .int .i64 pn, .string pst] 35)) := (Below.refl _ _).alloc (Nat.le_refl _) _
                have hbzA : Below R2 w9 (wr.alloc (.cells #[.bool pb, .int .i64 pn, .string pst] 35)) := hbz.trans (hbA.mono (Nat.le_of_lt hRz))
                have hRA : R2 < (wr.alloc (.cells #[.bool pb, .int .i64 pn, .string pst] 35)).heap.size := by simp; omega
                rcases hst with ⟨m, hml, hiff, hrd⟩ | ⟨hne, l3, hrd⟩
                · have hrdA := hrd.below hbA hRz
                  rw [HDR.out] at hrdA hlA hml hiff
                  rw [List.length_append] at hml hiff hlA
                  by_cases hE : (enP (pb, pn, pst)).length ≤ m
                  · have ht : (enP (pb, pn, pst) ++ layP (ps.drop (k + 1))).take m = enP (pb, pn, pst) ++ (layP (ps.drop (k + 1))).take (m - (enP (pb, pn, pst)).length) := by rw [List.take_append, List.take_of_length_le hE]
                    rw [ht] at hrdA
                    have hlB : (enP (pb, pn, pst) ++ (layP (ps.drop (k + 1))).take (m - (enP (pb, pn, pst)).length)).length ≤ 1000000 := by rw [List.length_append, List.length_take]; omega
                    have HIF : Hid (m - (enP (pb, pn, pst)).length = (layP (ps.drop (k + 1))).length ↔ d = t5) := ⟨fun h => hiff.1 (by omega), fun h => by have := hiff.2 h; omega⟩
                    have HML : Hid (m - (enP (pb, pn, pst)).length ≤ (layP (ps.drop (k + 1))).length) := by show _ ≤ _; omega
                    cases pb
                    · have HR := Lib.hid (part_num (false, pn, pst) rfl _ R2 1073741824 _ hrdA hlB (by have := numP_lt pn; show ((numP pn : Nat) : Int) ≤ _; omega) (by decide) (by decide))
                      clear hrdA hlB hlA ht hiff hml hE hrd
                      go_wp2_with fail
                      refine HR.out.mono ?_
                      rintro e w7 ⟨rfl, hmv⟩
                      go_wp2_with fail
                      refine ⟨⟨k + 1, by omega, by go_num, hbzA.trans hmv.2.1, by have := hmv.2.2.1; omega, .inl ⟨_, HML.out, HIF.out, hmv.1⟩⟩, ?_⟩
                      simp [intOf]
                      omega
                    · have HR := Lib.hid (part_text (true, pn, pst) rfl hps _ R2 1073741824 _ hrdA hlB (by show ((pst.size : Nat) : Int) ≤ _; omega) (by decide) (by decide))
                      clear hrdA hlB hlA ht hiff hml hE hrd
                      go_wp2_with fail
                      refine HR.out.mono ?_
                      rintro e w7 ⟨rfl, hmv⟩
                      go_wp2_with fail
                      refine ⟨⟨k + 1, by omega, by go_num, hbzA.trans hmv.2.1, by have := hmv.2.2.1; omega, .inl ⟨_, HML.out, HIF.out, hmv.1⟩⟩, ?_⟩
                      simp [intOf]
                      omega
                  · have ht : (enP (pb, pn, pst) ++ layP (ps.drop (k + 1))).take m = (enP (pb, pn, pst)).take m := List.take_append_of_le_length (by omega)
                    rw [ht] at hrdA
                    have HNE : Hid (d ≠ t5) := fun h => by have := hiff.2 h; omega
                    have hlB : (enP (pb, pn, pst)).length ≤ 1000000 := by omega
                    have hE' : m < (enP (pb, pn, pst)).length := by omega
                    cases pb
                    · have HR := Lib.hid (cut_num (false, pn, pst) rfl m R2 hE' _ hrdA hlB)
                      clear hrdA hlB hlA ht hiff hml hE hrd hE'
                      go_wp2_with fail
                      refine HR.out.mono ?_
                      rintro e w7 ⟨v7, l7, rfl, hmv⟩
                      go_wp2_with fail
                      refine ⟨⟨k + 1, by omega, by go_num, hbzA.trans hmv.2.1, by have := hmv.2.2.1; omega, .inr ⟨HNE.out, _, hmv.1⟩⟩, ?_⟩
                      simp [intOf]
                      omega
                    · have HR := Lib.hid (cut_text (true, pn, pst) rfl hps m R2 hE' _ hrdA hlB)
                      clear hrdA hlB hlA ht hiff hml hE hrd hE'
                      go_wp2_with fail
                      refine HR.out.mono ?_
                      rintro e w7 ⟨v7, l7, rfl, hmv⟩
                      go_wp2_with fail
                      refine ⟨⟨k + 1, by omega, by go_num, hbzA.trans hmv.2.1, by have := hmv.2.2.1; omega, .inr ⟨HNE.out, _, hmv.1⟩⟩, ?_⟩
                      simp [intOf]
                      omega
                · have HRD := Lib.hid (hrd.below hbA hRz)
                  have HNE := Lib.hid hne
                  clear hrd hlA hne
                  cases pb
                  · go_wp2_with fail
                    refine (num_err R2 l3 _ _ HRD.out).mono ?_
                    rintro e w7 ⟨rfl, rfl⟩
                    go_wp2_with fail
                    refine ⟨⟨k + 1, by omega, by go_num, hbzA, hRA, .inr ⟨HNE.out, _, HRD.out⟩⟩, ?_⟩
                    simp [intOf]
                    omega
                  · go_wp2_with fail
                    refine (rtext_err R2 l3 _ _ HRD.out).mono ?_
                    rintro e w7 ⟨rfl, rfl⟩
                    go_wp2_with fail
                    refine ⟨⟨k + 1, by omega, by go_num, hbzA, hRA, .inr ⟨HNE.out, _, HRD.out⟩⟩, ?_⟩
                    simp [intOf]
                    omega
              · have hk2 : n = k := by omega
                subst hk2
                rw [HDN.out] at hst
                obtain ⟨err, l4, hrd4, hfin⟩ : ∃ err l4, Rd wr R2 l4 err ∧ ((err = 0 ∧ d = t5) ∨ (err = 2 ∧ d ≠ t5)) := by
                  rcases hst with ⟨m, hml, hiff, hrd⟩ | ⟨hne, l3, hrd⟩
                  · exact ⟨0, _, hrd, .inl ⟨rfl, hiff.1 (by simpa using hml)⟩⟩
                  · exact ⟨2, _, hrd, .inr ⟨rfl, hne⟩⟩
                have HRD := Lib.hid (err_some R2 l4 err wr hrd4)
                clear hst hrd4
                rcases hfin with ⟨rfl, hdt⟩ | ⟨rfl, hdt⟩
                · have hq : ((d : Int) == (t5 : Int)) = true := by simp; omega
                  clear hdt
                  go_wp2_with fail
                  refine HRD.out.mono ?_
                  rintro e w7 ⟨rfl, rfl⟩
                  go_wp2_with (first
                    | (go_at_call 16; (with_reducible refine (num_nil _ _).mono ?_); rintro e w' ⟨rfl, rfl⟩)
                    | (go_at_call 15; (with_reducible refine (rtext_nil _ _).mono ?_); rintro e w' ⟨rfl, rfl⟩)
                    | (go_at_call 19; (with_reducible refine (left_nil _).mono ?_); rintro e w' ⟨rfl, rfl⟩)
                    | (go_at_call 17; (with_reducible refine (err_nil _).mono ?_); rintro e w' ⟨rfl, rfl⟩)
                    | (go_at_call 18; (with_reducible refine (end_nil _).mono ?_); rintro e w' ⟨rfl, rfl⟩))
                  go_ret
                  exact ⟨rfl, hbelz⟩
                · have hq : ((d : Int) == (t5 : Int)) = false := by simp; omega
                  clear hdt
                  go_wp2_with fail
                  refine HRD.out.mono ?_
                  rintro e w7 ⟨rfl, rfl⟩
                  go_wp2_with (first
                    | (go_at_call 16; (with_reducible refine (num_nil _ _).mono ?_); rintro e w' ⟨rfl, rfl⟩)
                    | (go_at_call 15; (with_reducible refine (rtext_nil _ _).mono ?_); rintro e w' ⟨rfl, rfl⟩)
                    | (go_at_call 19; (with_reducible refine (left_nil _).mono ?_); rintro e w' ⟨rfl, rfl⟩)
                    | (go_at_call 17; (with_reducible refine (err_nil _).mono ?_); rintro e w' ⟨rfl, rfl⟩)
                    | (go_at_call 18; (with_reducible refine (end_nil _).mono ?_); rintro e w' ⟨rfl, rfl⟩))
                  go_ret
                  exact ⟨rfl, hbelz⟩

set_option maxHeartbeats 2000000 in
theorem reads_walk (A A1 : Option Addr) (n c n1 c1 : Nat) (ps : List Pt) (ms : List Int) (cut : Int) (w : World) (hT : Tab w) (HL : Hid (n = ps.length)) (HL1 : Hid (n1 = ms.length)) (hb : SP w w.heap.size A ps) (hb1 : SI w w.heap.size A1 ms) :
    Calls Tryd.prog 5 #[.slice A n c, .slice A1 n1 c1, .int .i64 cut] w fun e w' => e = .returned (.bool true) ∧ Below w.heap.size w w' := by
  by_cases h1 : n ≤ 20
  · by_cases h2 : n1 ≤ 20
    · exact reads_main A A1 n c n1 c1 ps ms cut w hT HL HL1 hb hb1 h1 h2
    · have hd1 : decide ((20 : Int) < (n : Int)) = false := decide_eq_false (by omega)
      have hd2 : (20 : Int) < (n1 : Int) := by omega
      go_enter Tryd.func5, Tryd.ntmps5
      go_wp2_with fail
      refine (head_any _ hT).mono ?_
      rintro e w3 ⟨rfl, hbW⟩
      go_wp2_with fail
      go_ret
      exact ⟨rfl, hbW⟩
  · have hd1 : (20 : Int) < (n : Int) := by omega
    go_enter Tryd.func5, Tryd.ntmps5
    go_wp2_with fail
    refine (head_any _ hT).mono ?_
    rintro e w3 ⟨rfl, hbW⟩
    go_wp2_with fail
    go_ret
    exact ⟨rfl, hbW⟩
end Go.Proofs.YthnghgnoonfgiaaDoor
