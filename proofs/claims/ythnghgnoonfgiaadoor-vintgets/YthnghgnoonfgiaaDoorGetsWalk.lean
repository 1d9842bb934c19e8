/- VintGets: it answers true; nothing that was there is written. -/
import Derived.Test.YthnghgnoonfgiaaDoorLawPut
import Derived.Test.YthnghgnoonfgiaaDoorGetWalk
import Derived.Deep.RegionHeld3
import Derived.WalkKit
import Derived.WalkSpells
import Derived.Outline
namespace Go.Proofs.YthnghgnoonfgiaaDoor
open Go.RowKit
set_option maxRecDepth 100000

set_option maxHeartbeats 2000000 in
theorem gets_some (A : Option Addr) (m c N k : Nat) (l : List UInt8) (w : World) (hT : Tab w) (HL : Hid (m = l.length)) (hb : BS w w.heap.size A l) (hmc : m ≤ c) (hm : m ≤ 50) (HG : Hid (getN l = (N, k))) (hk : 0 < k) :
    Calls Tryd.prog 4 #[.slice A m c] w fun e w' => e = .returned (.bool true) ∧ Below w.heap.size w w' := by
  have hg := getN_some l (by rw [HG.out]; exact hk)
  rw [HG.out] at hg
  obtain ⟨hkm, hN, henc⟩ := hg
  simp only at hkm hN henc
  have hkm' : k ≤ m := by rw [HL.out]; exact hkm
  clear hkm
  have HE := Lib.hid henc
  clear henc
  go_enter Tryd.func4, Tryd.ntmps4
  go_wp2_with fail
  refine (head_any _ hT).mono ?_
  rintro e w1 ⟨rfl, hb1⟩
  go_wp2_with fail
  refine (get_any A m c l w.heap.size w1 HL.out (by rw [← HL.out]; omega) (hb.below hb1)).mono ?_
  rw [HG.out]
  rintro e w2 ⟨rfl, rfl⟩
  obtain ⟨hto, hbsk⟩ := (hb.below hb1).to_ m c k HL.out hkm' hmc
  have hS : Hid (∀ w', Below w1.heap.size w1 w' → Below w1.heap.size w1 w' ∧ (convert 22 9 (.slice A k c)).run Tryd.prog w' = .ok (.string (strOf (enc N))) w') := fun w' h =>
    ⟨h, by rw [HE.out]; exact (hbsk.below (h.mono hb1.size)).conv _ _ (by rw [List.length_take, ← HL.out]; omega)⟩
  clear hT hb hbsk
  go_wp2_with fail
  go_region_held3 (fun w' => Below w1.heap.size w1 w' ∧ (convert 22 9 (.slice A k c)).run Tryd.prog w' = .ok (.string (strOf (enc N))) w')
    (first | exact hS.out _ (Below.refl _ _).drew | exact hS.out _ ((Below.refl _ _).drew.trans hb4))
    (first | (go_at_call 11; refine (lawput_any N hN _).mono ?_; rintro e w4 ⟨rfl, hb4⟩))
  go_wp2_with fail
  go_ret
  exact ⟨rfl, hb1.trans (((Below.refl _ _).drew.trans hb4).mono hb1.size)⟩

/-- Where nothing was read, a number's end that is met all the same stands behind a first byte of 128: no number's form. -/
theorem none_form (l : List UInt8) (i acc : Nat) (hi : i < l.length) (h0 : (getN l).2 = 0) (hgo : getGo 0 0 l = getGo acc i (l.drop i)) (ha : acc / 144115188075855872 = 0) (he : l[i].toNat < 128) (v : Nat) : enc v ≠ l.take (i + 1) := by
  intro e
  have hd : l.drop i = l[i] :: l.drop (i + 1) := List.drop_eq_getElem_cons hi
  rw [hd, getGo_end _ _ _ _ ha he] at hgo
  unfold getN at h0
  by_cases h : l[0]? = some 128
  · apply enc_head v
    rw [e, List.getElem?_take_of_lt (by omega), h]
  · rw [if_neg h, hgo] at h0
    simp at h0

set_option maxHeartbeats 2000000 in
theorem gets_none (A : Option Addr) (m c : Nat) (l : List UInt8) (w : World) (hT : Tab w) (HL : Hid (m = l.length)) (hb : BS w w.heap.size A l) (hmc : m ≤ c) (hm : m ≤ 50) (HG : Hid (getN l = (0, 0))) :
    Calls Tryd.prog 4 #[.slice A m c] w fun e w' => e = .returned (.bool true) ∧ Below w.heap.size w w' := by
  go_enter Tryd.func4, Tryd.ntmps4
  go_wp2_with fail
  refine (head_any _ hT).mono ?_
  rintro e w1 ⟨rfl, hb1⟩
  have hbs := hb.below hb1
  clear hT hb
  go_wp2_with fail
  refine (get_any A m c l w.heap.size w1 HL.out (by rw [← HL.out]; omega) hbs).mono ?_
  rw [HG.out]
  rintro e w2 ⟨rfl, rfl⟩
  simp only
  go_wp2_with fail
  go_loop [5, 6] (fun x i => ∃ k acc : Nat, k ≤ m ∧ k ≤ 10 ∧ acc < 18446744073709551616 ∧ i = .int .i64 k ∧ x = .int .u64 acc ∧ getGo 0 0 l = getGo acc k (l.drop k)) (fun _ i => m - (intOf i).toNat)
  case atStart => exact ⟨0, 0, Nat.zero_le _, by decide, by decide, rfl, rfl, rfl⟩
  case round =>
    obtain ⟨k, acc, hk, hk10, hacc, rfl, rfl, hgo⟩ := hrel
    have HO := Lib.hid hgo
    clear hgo
    by_cases hlt : k < m
    · by_cases ht : k < 10
      · have hkl : k < l.length := by rw [← HL.out]; exact hlt
        obtain ⟨b, o, rfl, _, hc⟩ := hbs (by omega)
        have hcell := hc k hkl
        clear hc
        have hd : l.drop k = l[k] :: l.drop (k + 1) := List.drop_eq_getElem_cons hkl
        have h8 := at8_eq l k hkl
        have hb8 := (l[k]).toNat_lt
        by_cases hov : acc / 144115188075855872 = 0
        · have hj := join7 acc l[k].toNat (by omega) hb8
          rw [← h8] at hj
          have hle : acc ≤ 144115188075855871 := by omega
          by_cases hend : l[k].toNat < 128
          · have hte : at8 l k < 128 := by omega
            have hnf := none_form l k acc hkl (by rw [HG.out]) HO.out hov hend (acc * 128 + l[k].toNat % 128)
            have hnx : acc * 128 + l[k].toNat % 128 < 18446744073709551616 := by omega
            clear hd h8
            generalize acc * 128 + l[k].toNat % 128 = nx at hj hnf hnx
            obtain ⟨hto, hbsk⟩ := hbs.to_ m c (k + 1) HL.out (by omega) hmc
            have ec : ((k + 1 : Nat) : Int) = (k : Int) + 1 := by omega
            rw [ec] at hto
            have hS : Hid (∀ w', Below w1.heap.size w1 w' → Below w1.heap.size w1 w' ∧ (convert 22 9 (.slice (some ⟨b, o, none⟩) (k + 1) c)).run Tryd.prog w' = .ok (.string (strOf (l.take (k + 1)))) w') := fun w' h =>
              ⟨h, (hbsk.below (h.mono hb1.size)).conv _ _ (by rw [List.length_take, ← HL.out]; omega)⟩
            clear hbsk hbs
            have hwrap : IntKind.i64.wrap ((k : Int) + 1) = (k : Int) + 1 := by rw [IntKind.wrap_i64]; omega
            go_wp2_with fail
            go_region_held3 (fun w' => Below w1.heap.size w1 w' ∧ (convert 22 9 (.slice (some ⟨b, o, none⟩) (k + 1) c)).run Tryd.prog w' = .ok (.string (strOf (l.take (k + 1)))) w')
              (first | exact hS.out _ (Below.refl _ _).drew | exact hS.out _ ((Below.refl _ _).drew.trans hb4))
              (first | (go_at_call 11; refine (lawput_any nx hnx _).mono ?_; rintro e w4 ⟨rfl, hb4⟩))
            go_wp2_with fail
            go_ret
            exact ⟨ret_bool (str_neq _ _ hnf), hb1.trans (((Below.refl _ _).drew.trans hb4).mono hb1.size)⟩
          · have hte : ¬ at8 l k < 128 := by omega
            have HR : Hid (getGo 0 0 l = getGo (acc * 128 + l[k].toNat % 128) (k + 1) (l.drop (k + 1))) := by
              show _ = _
              rw [HO.out, hd, getGo_on _ _ _ _ hov hend]
            have hnx : acc * 128 + l[k].toNat % 128 < 18446744073709551616 := by omega
            clear hd h8
            generalize acc * 128 + l[k].toNat % 128 = nx at hj HR hnx
            go_wp2
            go_round
            case rel => exact ⟨k + 1, nx, by omega, by omega, hnx, by go_num, rfl, HR.out⟩
            case measure => simp [intOf]; omega
        · have hgt : 144115188075855871 < acc := by omega
          go_wp2
          go_ret
          exact ⟨rfl, hb1⟩
      · go_wp2
        go_ret
        exact ⟨rfl, hb1⟩
    · go_wp2
      go_ret
      exact ⟨rfl, hb1⟩

set_option maxHeartbeats 1000000 in
theorem gets_walk (A : Option Addr) (m c : Nat) (l : List UInt8) (w : World) (hT : Tab w) (HL : Hid (m = l.length)) (hb : BS w w.heap.size A l) (hmc : m ≤ c) (hm9 : m ≤ 9223372036854775807) :
    Calls Tryd.prog 4 #[.slice A m c] w fun e w' => e = .returned (.bool true) ∧ Below w.heap.size w w' := by
  by_cases hm : m ≤ 50
  · obtain ⟨N, k, hg⟩ : ∃ N k, getN l = (N, k) := ⟨_, _, rfl⟩
    rcases Nat.eq_zero_or_pos k with h0 | h0
    · subst h0
      have := (getN_lt l).2.2
      rw [hg] at this
      have hN : N = 0 := this rfl
      subst hN
      exact gets_none A m c l w hT HL hb hmc hm hg
    · exact gets_some A m c N k l w hT HL hb hmc hm hg h0
  · have hm' : (50 : Int) < (m : Int) := by omega
    go_enter Tryd.func4, Tryd.ntmps4
    go_wp2_with (go_at_call 9; (with_reducible refine (head_any _ hT).mono ?_); rintro e w1 ⟨rfl, hb1⟩)
    go_ret
    exact ⟨rfl, hb1⟩
end Go.Proofs.YthnghgnoonfgiaaDoor
