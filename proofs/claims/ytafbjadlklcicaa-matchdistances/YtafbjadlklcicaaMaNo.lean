/- Not. -/
import Derived.Test.YtafbjadlklcicaaMaNt
namespace Go.Proofs.Ytafbjadlklcicaa
open Go.RowKit
set_option maxRecDepth 100000

theorem make_M (n : Nat) (hn : n ≤ 1000000) (W : World) : (Instr.makeSlice 22 (.int .i64 (n : Int)) (.int .i64 (n : Int))).run Try.prog W = .ok (.slice (some ⟨W.heap.size, 0, none⟩) n n) (W.alloc (.cells (madeCells #[.slice none 0 0, .slice none 0 0] (n * 2)) 60)) := by
  obtain ⟨i0, hi0, hz0, hz1, hz2⟩ := info_parts infoMt
  have h := run_make (P := Try.prog) W 22 60 i0 _ Try.underlying22 hi0 hz0 .i64 .i64 (n : Int) (n : Int) (by omega) (by omega) (by rw [hz2]; omega) (by omega)
  rw [h, hz1]
  simp [Value.cells]
theorem made_M (W : World) (n : Nat) : ∀ j, j < 2 * n → (W.alloc (.cells (madeCells #[.slice none 0 0, .slice none 0 0] (n * 2)) 60)).cell? ⟨W.heap.size, j, none⟩ = some (.slice none 0 0) := fun j hj => by
  rw [World.cell?_alloc_mark]
  have h2 : j < n * 2 := by omega
  rcases Nat.mod_two_eq_zero_or_one j with e | e
  · simp [madeCells, h2, e]
  · simp [madeCells, h2, e]
def NotQ (w : World) (ms : List Mt) (e : Ending) (w' : World) : Prop := (waysF 1 ms = none → e = .returned (.tuple #[.slice none 0 0, .int .i64 23])) ∧ (∀ W, waysF 1 ms = some W → ∃ A c, e = .returned (.tuple #[.slice A W c, .int .i64 0]) ∧ W ≤ c ∧ c ≤ maxLen ∧ MS w' w'.heap.size A (notL ms)) ∧ Below w.heap.size w w'
theorem NotQ.no {w w' : World} {ms : List Mt} (h : waysF 1 ms = none) (hb : Below w.heap.size w w') : NotQ w ms (.returned (.tuple #[.slice none 0 0, .int .i64 23])) w' := ⟨fun _ => rfl, (fun W hW => by rw [h] at hW; cases hW), hb⟩
theorem NotQ.yes {w w' : World} {ms : List Mt} {W : Nat} (h : waysF 1 ms = some W) {A : Option Addr} {c : Nat} (h1 : W ≤ c) (h2 : c ≤ maxLen) (hm : MS w' w'.heap.size A (notL ms)) (hb : Below w.heap.size w w') : NotQ w ms (.returned (.tuple #[.slice A W c, .int .i64 0])) w' := by
  refine ⟨(fun hW => by rw [h] at hW; cases hW), (fun V hV => ?_), hb⟩
  rw [h] at hV
  injection hV with hV
  subst hV
  exact ⟨A, c, rfl, h1, h2, hm⟩
set_option maxHeartbeats 4000000 in
theorem not_any (A : Option Addr) (n c : Nat) (ms : List Mt) (HN : Hid (n = ms.length)) (hn : n ≤ 100000) (HSM : Hid (smM ms)) (w : World) (h : MS w w.heap.size A ms) :
    Calls Try.prog 33 #[.slice A n c] w (NotQ w ms) := by
  have HA := Lib.hid h
  clear h
  go_enter Try.func33, Try.ntmps33
  go_wp2_with fail
  go_loopw [4, 14] (fun s4 i wr => ∃ k acc : Nat, k ≤ n ∧ i = .int .i64 k ∧ s4 = .int .i64 acc ∧ acc ≤ 400 ∧ Hid (waysF 1 ms = waysF acc (ms.drop k)) ∧ Below w.heap.size w wr) (fun _ i _ => n - (intOf i).toNat)
  case atStart => exact ⟨0, 1, Nat.zero_le _, rfl, rfl, by decide, rfl, Below.refl _ _⟩
  case round =>
    obtain ⟨k, acc, hk, rfl, rfl, hacc, HR, hb⟩ := hrel
    have HB := Lib.hid hb
    by_cases hlt : k < n
    · have hkl : k < ms.length := by rw [← HN.out]; exact hlt
      have HLT := Lib.hid hlt
      obtain ⟨b, o, z0, z1, rfl, _, e0, e1, y0, y1⟩ := (HA.out.below hb).at_ k hkl
      obtain ⟨S0, d0, rfl, _⟩ := id y0
      obtain ⟨S1, d1, rfl, _⟩ := id y1
      have HSK := HSM.out _ (List.getElem_mem hkl)
      have HD := HR.out
      rw [List.drop_eq_getElem_cons hkl, waysF] at HD
      obtain ⟨m, hm⟩ : ∃ m, m = ms[k] := ⟨_, rfl⟩
      rw [← hm] at e0 e1 y0 y1 HSK HD
      have KS := size_any (.slice S0 m.1.length d0) (.slice S1 m.2.length d1) m (wr.alloc (.cells #[.slice S0 m.1.length d0, .slice S1 m.2.length d1] 60)) w.heap.size (y0.below ((Below.refl _ _).alloc hb.size _)) (y1.below ((Below.refl _ _).alloc hb.size _)) (by omega)
      obtain ⟨N, hN⟩ : ∃ N, N = m.1.length + m.2.length := ⟨_, rfl⟩
      rw [← hN] at KS
      rw [show szM m = N from hN.symm] at HD
      obtain ⟨l0, hl0⟩ : ∃ l, l = m.1.length := ⟨_, rfl⟩
      obtain ⟨l1, hl1⟩ : ∃ l, l = m.2.length := ⟨_, rfl⟩
      rw [← hl0, ← hl1] at KS
      rw [← hl0] at e0
      rw [← hl1] at e1
      have hNl : N ≤ 40000 := by omega
      obtain ⟨P, hP⟩ : ∃ P, acc * N = P := ⟨_, rfl⟩
      rw [hP] at HD
      have hPl : P ≤ 400 * 40000 := by rw [← hP]; exact Nat.mul_le_mul hacc hNl
      have wP : IntKind.i64.wrap ((acc : Int) * (N : Int)) = (P : Int) := by rw [← hP]; rw [IntKind.wrap_i64]; push_cast; rw [show (acc : Int) * (N : Int) = (P : Int) by rw [← hP]; push_cast; rfl]; omega
      have HKS := Lib.hid KS
      have HHD := Lib.hid HD
      clear KS hm y0 y1 hN hl0 hl1 HSK hP HD hb
      go_wp2_with fail
      with_reducible refine HKS.out.mono ?_
      rintro e w5 ⟨rfl, b5⟩
      have HB5 := Lib.hid ((HB.out.alloc HB.out.size (.cells #[.slice S0 l0 d0, .slice S1 l1 d1] 60)).trans (b5.mono (by have := HB.out.size; simp; omega)))
      clear b5
      by_cases h4 : P ≤ 400
      · have hI : ¬ (400 : Int) < (P : Int) := by omega
        have hbI : decide ((400 : Int) < (P : Int)) = false := decide_eq_false hI
        have HRR : Hid (waysF 1 ms = waysF P (ms.drop (k + 1))) := by have h := HHD.out; rw [if_pos h4] at h; exact h
        go_wp2_with fail
        exact ⟨⟨k + 1, P, HLT.out, by go_num, by go_num, h4, HRR, HB5.out⟩, by have := HLT.out; simp [intOf]; omega⟩
      · have hI : (400 : Int) < (P : Int) := by omega
        have hbI : decide ((400 : Int) < (P : Int)) = true := decide_eq_true hI
        have HRR : Hid (waysF 1 ms = none) := by have h := HHD.out; rw [if_neg h4] at h; exact h
        go_wp2_with fail
        go_ret2
        exact NotQ.no HRR.out HB5.out
    · obtain rfl : k = n := by omega
      have HRS : Hid (waysF 1 ms = some acc) := by show _ = _; rw [HR.out, List.drop_eq_nil_of_le (by rw [HN.out]; exact Nat.le_refl _)]; rfl
      have HWP : Hid (acc = PW ms) := by have := waysF_some _ _ _ HRS.out; rw [Nat.one_mul] at this; exact this
      have hmk := make_M acc (by omega)
      clear hb HR
      have hmk0 : ∀ W : World, (Instr.makeSlice 22 (.int .i64 0) (.int .i64 0)).run Try.prog W = .ok (.slice (some ⟨W.heap.size, 0, none⟩) 0 0) (W.alloc (.cells (madeCells #[.slice none 0 0, .slice none 0 0] (0 * 2)) 60)) := fun W => make_M 0 (by omega) W
      by_cases ha0 : acc = 0
      · subst ha0
        have HNL : Hid (notL ms = []) := List.eq_nil_of_length_eq_zero (by rw [notL_len, ← HWP.out])
        go_wp2_with fail
        go_ret2
        have hbb : Below w.heap.size w (wr.alloc (.cells (madeCells #[.slice none 0 0, .slice none 0 0] (0 * 2)) 60)) := HB.out.alloc HB.out.size _
        exact NotQ.yes HRS.out (Nat.le_refl _) (by decide) (by rw [HNL.out]; exact MS.nil _ _ _) (by first | exact hbb | simpa using hbb)
      · have hap : 0 < acc := by omega
        have haI : ¬ (acc : Int) = 0 := by omega
        have hab : ((acc : Int) == 0) = false := by simp; omega
        obtain ⟨L, hL⟩ : ∃ L, L = wr.heap.size := ⟨_, rfl⟩
        obtain ⟨X, hX⟩ : ∃ X, wr.alloc (.cells (madeCells #[.slice none 0 0, .slice none 0 0] (acc * 2)) 60) = X := ⟨_, rfl⟩
        have hN0 : NL (fun b => b = L) wr X L acc (fun i => curM ms acc 0 i) := by
          rw [hL]
          refine NL.made wr acc _ (fun i hi => cur_zero ms acc i hi) X (by rw [← hX]; exact (Below.refl _ _).alloc (Nat.le_refl _) _) (by rw [← hX]; simp) (by rw [← hX]; exact made_M wr acc) fun j => by rw [← hX]; simp
        have HN0 := Lib.hid hN0
        have HX := Lib.hid hX
        obtain ⟨wB, hwB⟩ : ∃ wB, wB = wr := ⟨_, rfl⟩
        have HWB := Lib.hid hwB
        have hE0 : acc = acc / PW (ms.take 0) := by rw [List.take_zero, show PW [] = 1 from rfl, Nat.div_one]
        have HE0 := Lib.hid hE0
        clear hN0 hX hwB hE0
        go_wp2_with fail
        rw [← hL, HX.out]
        have HBW : Hid (Below w.heap.size w wB) := by show Below _ _ _; rw [HWB.out]; exact HB.out
        have HN0' : Hid (NL (fun b => b = L) wB X L acc (fun i => curM ms acc 0 i)) := by show NL _ _ _ _ _ _; rw [HWB.out]; exact HN0.out
        clear hL HX HWB HN0 HB hmk hmk0
        go_loopw [8, 33] (fun s8 i wr => ∃ k2 E : Nat, k2 ≤ k ∧ i = .int .i64 k2 ∧ s8 = .int .i64 E ∧ Hid (E = acc / PW (ms.take k2)) ∧ Hid (NL (fun b => b = L) wB wr L acc (fun i => curM ms acc k2 i))) (fun _ i _ => k - (intOf i).toNat)
        case atStart => exact ⟨0, acc, Nat.zero_le _, rfl, rfl, HE0, HN0'⟩
        case round =>
          obtain ⟨k2, E, hk2, rfl, rfl, HE, HNL⟩ := hrel
          by_cases hl2 : k2 < k
          · have hkl : k2 < ms.length := by rw [← HN.out]; exact hl2
            have HL2 := Lib.hid hl2
            have hbw := HBW.out.trans (HNL.out.kb.mono HBW.out.size)
            obtain ⟨b, o, z0, z1, rfl, _, e0, e1, y0, y1⟩ := (HA.out.below hbw).at_ k2 hkl
            obtain ⟨S0, d0, rfl, _⟩ := id y0
            obtain ⟨S1, d1, rfl, _⟩ := id y1
            have HSK := HSM.out _ (List.getElem_mem hkl)
            obtain ⟨q1, q2, q3, q4⟩ := each_step ms acc k2 HWP.out hap hkl
            clear q4
            obtain ⟨N, hN⟩ : ∃ N, N = szM ms[k2] := ⟨_, rfl⟩
            obtain ⟨E1, hE1⟩ : ∃ E1, E1 = acc / PW (ms.take (k2 + 1)) := ⟨_, rfl⟩
            rw [← hE1, ← hN, ← HE.out] at q3
            rw [← hN] at q1
            rw [← hE1] at q2
            have HE1 := Lib.hid hE1
            have HNS := Lib.hid hN
            obtain ⟨l0, hl0⟩ : ∃ l, l = ms[k2].1.length := ⟨_, rfl⟩
            obtain ⟨l1, hl1⟩ : ∃ l, l = ms[k2].2.length := ⟨_, rfl⟩
            rw [← hl0] at e0 y0 HSK
            rw [← hl1] at e1 y1 HSK
            have HY : Hid (∀ W, Below w.heap.size w W → SV W W.heap.size (.slice S0 l0 d0) ms[k2].1 ∧ SV W W.heap.size (.slice S1 l1 d1) ms[k2].2) := fun W hW =>
              ⟨(y0.move y0.lt fun g g1 _ => ⟨(hW.block g g1).trans (hbw.block g g1).symm, by have := hW.size; omega⟩), (y1.move y1.lt fun g g1 _ => ⟨(hW.block g g1).trans (hbw.block g g1).symm, by have := hW.size; omega⟩)⟩
            have HSZ : Hid (∀ W, Below w.heap.size w W → Calls Try.prog 65 #[.agg #[.slice S0 l0 d0, .slice S1 l1 d1]] W fun e w' => e = .returned (.int .i64 N) ∧ Below W.heap.size W w') := fun W hW => by
              have h := size_any (.slice S0 l0 d0) (.slice S1 l1 d1) ms[k2] W W.heap.size (HY.out W hW).1 (HY.out W hW).2 (by omega)
              rw [show ms[k2].1.length + ms[k2].2.length = N from hN.symm] at h
              exact h
            obtain ⟨D, hD⟩ : ∃ D, D = wr.heap.size := ⟨_, rfl⟩
            obtain ⟨X1, hX1⟩ : ∃ X1, wr.alloc (.cells #[.slice S0 l0 d0, .slice S1 l1 d1] 60) = X1 := ⟨_, rfl⟩
            have HB1 : Hid (NL (fun b => b = L ∨ b = D) wB X1 L acc (fun i => curM ms acc k2 i)) := by show NL _ _ _ _ _ _; rw [← hX1, hD]; exact HNL.out.box _
            have HC1 : Hid (X1.cell? ⟨D, 0, none⟩ = some (.slice S0 l0 d0) ∧ X1.cell? ⟨D, 1, none⟩ = some (.slice S1 l1 d1)) := by show _ ∧ _; rw [← hX1, hD]; exact box2 wr _ _ _
            have HLD : Hid (D ≠ L) := by show _ ≠ _; have := HNL.out.gl L rfl; omega
            have HX1 := Lib.hid hX1
            have hE400 : acc ≤ 400 := hacc
            have hEl : E ≤ 400 := by have h := HE.out; rw [h]; exact Nat.le_trans (Nat.div_le_self _ _) hacc
            have hE1l : E1 ≤ 400 := by rw [hE1]; exact Nat.le_trans (Nat.div_le_self _ _) hacc
            have hNl : N ≤ 40000 := by rw [hN]; show ms[k2].1.length + ms[k2].2.length ≤ _; omega
            have hdiv : (E : Int).tdiv (N : Int) = (E1 : Int) := by
              have h : E / N = E1 := by rw [q3]; exact Nat.mul_div_cancel _ q1
              rw [← h]; exact (Int.ofNat_tdiv _ _).symm
            have wE1 : IntKind.i64.wrap (E1 : Int) = (E1 : Int) := by rw [IntKind.wrap_i64]; omega
            have hNb : ((N : Int) == 0) = false := by simp; omega
            have hNI : ¬ (N : Int) = 0 := by omega
            have hE1b : ((E1 : Int) == 0) = false := by simp; omega
            have hE1I : ¬ (E1 : Int) = 0 := by omega
            have w2 : IntKind.i64.wrap ((k2 : Int) + 1) = (k2 : Int) + 1 := by rw [IntKind.wrap_i64]; omega
            have KZ := HSZ.out X1 (by rw [← hX1]; exact hbw.alloc hbw.size _)
            have HKZ := Lib.hid KZ
            clear KZ y0 y1 hl0 hl1 hX1 hbw hN hE1 q3
            go_wp2_with fail
            rw [← hD, HX1.out]
            with_reducible refine HKZ.out.mono ?_
            rintro e w5 ⟨rfl, b5⟩
            have HB5 := Lib.hid (HB1.out.below b5)
            have HC5 : Hid (w5.cell? ⟨D, 0, none⟩ = some (.slice S0 l0 d0) ∧ w5.cell? ⟨D, 1, none⟩ = some (.slice S1 l1 d1)) := ⟨(b5.cell (World.block_lt_of_cell? X1 _ HC1.out.1)).trans HC1.out.1, (b5.cell (World.block_lt_of_cell? X1 _ HC1.out.2)).trans HC1.out.2⟩
            have HEL := Lib.hid (And.intro hE1l hNl)
            have HQ12 := Lib.hid (And.intro q1 q2)
            clear b5 hD HX1 HB1 HC1 HKZ hE400 hEl hE1l hNl q1 q2 e0 e1
            go_wp2_with fail
            go_loopw [43] (fun i wr => ∃ j : Nat, j ≤ acc ∧ i = .int .i64 j ∧ Hid (NL (fun b => b = L ∨ b = D) wB wr L acc (midF ms acc k2 j)) ∧ Hid (wr.cell? ⟨D, 0, none⟩ = some (.slice S0 l0 d0) ∧ wr.cell? ⟨D, 1, none⟩ = some (.slice S1 l1 d1))) (fun i _ => acc - (intOf i).toNat)
            case atStart => exact ⟨0, Nat.zero_le _, rfl, HB5.out.same fun i _ => by unfold midF; rw [if_neg (Nat.not_lt_zero _)], HC5⟩
            case round =>
              obtain ⟨j, hj, rfl, HQ, HCD⟩ := hrel
              by_cases hlj : j < acc
              · have HLJ := Lib.hid hlj
                obtain ⟨q, hq⟩ : ∃ q, q = j / E1 := ⟨_, rfl⟩
                obtain ⟨r, hr⟩ : ∃ r, r = q % N := ⟨_, rfl⟩
                have hd1 : (j : Int).tdiv (E1 : Int) = (q : Int) := by rw [hq]; exact (Int.ofNat_tdiv _ _).symm
                have hm1 : (q : Int).tmod (N : Int) = (r : Int) := by rw [hr]; exact (Int.ofNat_tmod _ _).symm
                have hql : q ≤ 400 := by rw [hq]; exact Nat.le_trans (Nat.div_le_self _ _) (by omega)
                have hrl : r ≤ 400 := by rw [hr]; exact Nat.le_trans (Nat.mod_le _ _) hql
                have wq : IntKind.i64.wrap (q : Int) = (q : Int) := by rw [IntKind.wrap_i64]; omega
                have wr' : IntKind.i64.wrap (r : Int) = (r : Int) := by rw [IntKind.wrap_i64]; omega
                have wj : IntKind.i64.wrap ((j : Int) + 1) = (j : Int) + 1 := by rw [IntKind.wrap_i64]; omega
                obtain ⟨hE1l, hNl⟩ := HEL.out
                have HRR : Hid (r = j / (acc / PW (ms.take (k2 + 1))) % szM ms[k2]) := by show _ = _; rw [hr, hq, HE1.out, HNS.out]
                have hjI : (j : Int) < (acc : Int) := by omega
                have hE1N : ¬ E1 = 0 := by omega
                have hNN : ¬ N = 0 := by omega
                have hE1B : (E1 == 0) = false := by simp; omega
                have hNB : (N == 0) = false := by simp; omega
                have hbw := HBW.out.trans (HQ.out.kb.mono HBW.out.size)
                have HZW : Hid (∀ W, Below wr.heap.size wr W → Calls Try.prog 65 #[.agg #[.slice S0 l0 d0, .slice S1 l1 d1]] W fun e w' => e = .returned (.int .i64 N) ∧ Below wr.heap.size wr w') := fun W hW =>
                  (HSZ.out W (hbw.trans (hW.mono hbw.size))).mono fun e w' ⟨h1, h2⟩ => ⟨h1, hW.trans (h2.mono hW.size)⟩
                have HKC : Hid (∀ W, Below wr.heap.size wr W → W.cell? ⟨D, 0, none⟩ = some (.slice S0 l0 d0) ∧ W.cell? ⟨D, 1, none⟩ = some (.slice S1 l1 d1)) := fun W hW => ⟨(hW.cell (World.block_lt_of_cell? wr _ HCD.out.1)).trans HCD.out.1, (hW.cell (World.block_lt_of_cell? wr _ HCD.out.2)).trans HCD.out.2⟩
                have HKT : Hid (∀ W, Below wr.heap.size wr W → Calls Try.prog 66 #[.pointer (some ⟨L, j * 2, none⟩), .agg #[.slice S0 l0 d0, .slice S1 l1 d1], .int .i64 r] W fun e w' => e = .returned (.tuple #[]) ∧ NL (fun b => b = L ∨ b = D) wB w' L acc (midF ms acc k2 (j + 1)) ∧ (w'.cell? ⟨D, 0, none⟩ = some (.slice S0 l0 d0) ∧ w'.cell? ⟨D, 1, none⟩ = some (.slice S1 l1 d1))) := fun W hW => by
                  obtain ⟨v0, v1⟩ := HY.out W (hbw.trans (hW.mono hbw.size))
                  refine (turn_any (fun b => b = L ∨ b = D) wB W L acc ms k2 j r HWP.out hap hkl (by rw [← HN.out]; exact hn) HLJ.out HRR.out (HQ.out.below hW) S0 S1 l0 d0 l1 d1 v0 v1 (by omega) (by omega)).mono fun e w' ⟨h1, h2, h3⟩ => ⟨h1, h2, ?_⟩
                  have hb := h3 D (.inr rfl) HLD.out
                  obtain ⟨k0, k1⟩ := HKC.out W hW
                  simp only [World.cell?, hb] at k0 k1 ⊢
                  exact ⟨k0, k1⟩
                have BR := Lib.hid (Below.refl wr.heap.size wr)
                obtain ⟨x0, x1⟩ := HCD.out
                clear hq hr hbw
                go_wp2_with fail
                go_region_held3 (fun W => W.cell? ⟨D, 0, none⟩ = some (.slice S0 l0 d0) ∧ W.cell? ⟨D, 1, none⟩ = some (.slice S1 l1 d1))
                  (first | exact HKC.out _ BR.out.drew | exact HKC.out _ b7 | exact t8)
                  (first
                    | (go_at_call 65; (with_reducible refine (HZW.out _ BR.out.drew).mono ?_); rintro e w7 ⟨rfl, b7⟩)
                    | (go_at_call 66; (with_reducible refine (HKT.out _ b7).mono ?_); rintro e w8 ⟨rfl, n8, t8⟩))
                all_goals
                  have HN8 := Lib.hid n8
                  have HT8 := Lib.hid t8
                  clear n8 t8 x0 x1
                  go_wp2_with fail
                  exact ⟨⟨j + 1, HLJ.out, by go_num, HN8.out, HT8.out⟩, by have := HLJ.out; simp [intOf]; omega⟩
              · have hja : j = acc := by omega
                have hjI : ¬ (j : Int) < (acc : Int) := by omega
                have HF : Hid (NL (fun b => b = L) wB wr L acc (fun i => curM ms acc (k2 + 1) i)) := by
                  refine (HQ.out.fewer (G' := fun b => b = L) (fun b g => .inl g) rfl).same fun i hi => ?_
                  unfold midF
                  rw [if_pos (by omega)]
                clear hja
                go_wp2_with fail
                exact ⟨⟨k2 + 1, E1, HL2.out, by go_num, by go_num, HE1.out, HF⟩, by have := HL2.out; simp [intOf]; omega⟩
          · obtain rfl : k2 = k := by omega
            have HMS : Hid (MS wr wr.heap.size (some ⟨L, 0, none⟩) (notL ms)) := by
              have h := HNL.out
              rw [HN.out] at h
              exact h.ms (notL ms) (by rw [notL_len, HWP.out]) fun i hi => cur_all ms acc HWP.out hap i hi
            have HBB := Lib.hid (HBW.out.trans (HNL.out.kb.mono HBW.out.size))
            go_wp2_with fail
            go_ret2
            exact NotQ.yes HRS.out (Nat.le_refl _) (by unfold maxLen; omega) HMS.out HBB.out
end Go.Proofs.Ytafbjadlklcicaa
