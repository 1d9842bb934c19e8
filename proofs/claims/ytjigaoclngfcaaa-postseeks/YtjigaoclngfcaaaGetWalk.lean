/- vint.Get's contract. -/
import Derived.Test.YtjigaoclngfcaaaChecked
import Derived.Test.YtjigaoclngfcaaaVg
import Derived.Test.YtjigaoclngfcaaaMem
import Derived.Laws.BitsAllLaws
import Derived.WalkKit
import Derived.WalkSpells
import Derived.Outline
import Derived.Lib.Hide
import Derived.Deep.Light
namespace Go.Proofs.Ytjigaoclngfcaaa
open Go.RowKit
set_option maxRecDepth 100000

theorem join7 (acc c : Nat) (h : acc < 144115188075855872) (hc : c < 256) :
    bits .or .u64 ((acc : Int) * 128) (IntKind.u64.wrap (bits .and .u8 (c : Int) 127)) = ((acc * 128 + c % 128 : Nat) : Int) := by
  have e1 : bits .and .u8 (c : Int) 127 = ((c % 128 : Nat) : Int) := by
    have := u8_and_nat c 127 hc (by decide)
    rw [nat_mask7] at this
    exact this
  have e2 : IntKind.u64.wrap ((c % 128 : Nat) : Int) = ((c % 128 : Nat) : Int) := by rw [IntKind.wrap_u64]; omega
  have e3 : ((acc : Int) * 128) = ((acc * 128 : Nat) : Int) := by omega
  rw [e1, e2, e3, u64_or_nat _ _ (by omega) (by omega), nat_join 7 _ _ (by omega) (by omega)]

set_option maxHeartbeats 1000000 in
theorem get_some (b o n c : Nat) (l : List UInt8) (w : World) (HL : Hid (n = l.length)) (hn : n ≤ 1000000) (hp : 0 < n) (hc : ∀ k, k < n → w.cell? ⟨b, o + k, none⟩ = some (.int .u8 (at8 l k))) :
    Calls Try.prog 63 #[.slice (some ⟨b, o, none⟩) n c] w fun e w' => e = .returned (.tuple #[.int .u64 (getN l).1, .int .i64 (getN l).2]) ∧ w = w' := by
  have h0 := hc 0 hp
  rw [Nat.add_zero] at h0
  have hp' : (0 : Int) < (n : Int) := by omega
  have hne : ((n : Int) == 0) = false := by simp; omega
  by_cases h128 : l[0]? = some 128
  · have e0 : (at8 l 0 == 128) = true := by unfold at8; rw [h128]; rfl
    have HG : Hid (getN l = (0, 0)) := by show _ = _; unfold getN; rw [if_pos h128]
    clear h128
    go_enter Try.func63, Try.ntmps63
    go_wp2
    go_ret2
    rw [HG.out]
    exact ⟨rfl, rfl⟩
  · have e0 : (at8 l 0 == 128) = false := by
      have : at8 l 0 ≠ 128 := by
        intro e
        apply h128
        unfold at8 at e
        rw [List.getElem?_eq_getElem (by rw [← HL.out]; exact hp)] at e ⊢
        simp only [Option.getD_some] at e
        congr 1
        apply UInt8.toNat_inj.1
        show _ = 128
        omega
      simpa using this
    have HG : Hid (getN l = (getGo 0 0 l).getD (0, 0)) := by show _ = _; unfold getN; rw [if_neg h128]
    clear h128
    go_enter Try.func63, Try.ntmps63
    go_wp2
    go_loop [4, 18] (fun x i => ∃ k acc : Nat, k ≤ n ∧ acc < 18446744073709551616 ∧ i = .int .i64 k ∧ x = .int .u64 acc ∧ getGo 0 0 l = getGo acc k (l.drop k)) (fun _ i => n - (intOf i).toNat)
    case atStart => exact ⟨0, 0, Nat.zero_le _, by decide, rfl, rfl, rfl⟩
    case round =>
      obtain ⟨k, acc, hk, hacc, rfl, rfl, hgo⟩ := hrel
      have HO := Lib.hid hgo
      clear hgo
      by_cases hlt : k < n
      · have hcell := hc k hlt
        clear hc
        have hkl : k < l.length := by rw [← HL.out]; exact hlt
        have hd : l.drop k = l[k] :: l.drop (k + 1) := List.drop_eq_getElem_cons hkl
        have h8 := at8_eq l k hkl
        have hb8 := (l[k]).toNat_lt
        by_cases hov : acc / 144115188075855872 = 0
        · have hov' : ((acc : Int) / 144115188075855872 != 0) = false := by
            have : (acc : Int) / 144115188075855872 = 0 := by omega
            simp [this]
          have hj := join7 acc l[k].toNat (by omega) hb8
          rw [← h8] at hj
          by_cases hend : l[k].toNat < 128
          · have ht : at8 l k < 128 := by omega
            have HR : Hid (getN l = (acc * 128 + l[k].toNat % 128, k + 1)) := by
              show _ = _
              rw [HG.out, HO.out, hd, getGo_end _ _ _ _ hov hend]; rfl
            clear hd h8
            generalize acc * 128 + l[k].toNat % 128 = nx at hj HR
            go_wp2
            go_ret2
            rw [HR.out]
            exact ⟨rfl, rfl⟩
          · have ht : ¬ at8 l k < 128 := by omega
            have HR : Hid (getGo 0 0 l = getGo (acc * 128 + l[k].toNat % 128) (k + 1) (l.drop (k + 1))) := by
              show _ = _
              rw [HO.out, hd, getGo_on _ _ _ _ hov hend]
            have hnx : acc * 128 + l[k].toNat % 128 < 18446744073709551616 := by omega
            clear hd h8
            generalize acc * 128 + l[k].toNat % 128 = nx at hj HR hnx
            go_wp2
            go_round
            case rel => exact ⟨k + 1, nx, by omega, hnx, by go_num, rfl, HR.out⟩
            case measure => simp [intOf]; omega
        · have hov' : ((acc : Int) / 144115188075855872 != 0) = true := by
            have : (acc : Int) / 144115188075855872 ≠ 0 := by omega
            simpa using this
          have HR : Hid (getN l = (0, 0)) := by
            show _ = _
            rw [HG.out, HO.out, hd, getGo_over _ _ _ _ hov]; rfl
          clear hd h8 hov
          go_wp2
          go_ret2
          rw [HR.out]
          exact ⟨rfl, rfl⟩
      · have HR : Hid (getN l = (0, 0)) := by
          show _ = _
          rw [HG.out, HO.out, List.drop_of_length_le (by rw [← HL.out]; omega)]; rfl
        go_wp2
        go_ret2
        rw [HR.out]
        exact ⟨rfl, rfl⟩

theorem get_none (A : Option Addr) (c : Nat) (w : World) :
    Calls Try.prog 63 #[.slice A 0 c] w fun e w' => e = .returned (.tuple #[.int .u64 (getN []).1, .int .i64 (getN []).2]) ∧ w = w' := by
  go_enter Try.func63, Try.ntmps63
  go_wp2
  go_ret2
  exact ⟨rfl, rfl⟩
theorem get_any (A : Option Addr) (n c : Nat) (l : List UInt8) (B : Nat) (w : World) (hl : n = l.length) (hn : l.length ≤ 1000000) (h : BS w B A l) :
    Calls Try.prog 63 #[.slice A n c] w fun e w' => e = .returned (.tuple #[.int .u64 (getN l).1, .int .i64 (getN l).2]) ∧ w = w' := by
  rcases Nat.eq_zero_or_pos l.length with h0 | h0
  · obtain rfl := List.eq_nil_of_length_eq_zero h0
    subst hl
    exact get_none A c w
  · obtain ⟨b, o, rfl, _, hc⟩ := h h0
    exact get_some b o n c l w hl (by omega) (by omega) (fun k hk => hc k (by omega))
end Go.Proofs.Ytjigaoclngfcaaa
