/- Lists compared and searched: Texts, Ints, has. -/
import Derived.Test.YtpgfiecfndkheaaDoorTkH
namespace Go.Proofs.YtpgfiecfndkheaaDoor
open Go.RowKit
set_option maxRecDepth 100000

theorem str_same (l : B8) : ((strOf l).toList == (strOf l).toList) = true := by simp
theorem str_is (l : B8) : (strOf l).toList = l := by rw [ByteArray.toList_eq, str_data]
set_option maxHeartbeats 4000000 in
theorem texts_same (ws : List B8) (Aa Ab : Option Addr) (ca cb : Nat) (hca : ws.length ≤ ca) (hcb : ws.length ≤ cb) (hma : ca ≤ 9223372036854775807) (_hmb : cb ≤ 9223372036854775807) (w : World) (ha : CS w w.heap.size Aa (tCells ws)) (hb : CS w w.heap.size Ab (tCells ws)) :
    Calls Tryd.prog 11 #[.slice Aa ws.length ca, .slice Ab ws.length cb] w fun e w' => e = .returned (.bool true) ∧ Below w.heap.size w w' := by
  have HA := Lib.hid ha
  have HB := Lib.hid hb
  clear ha hb
  obtain ⟨n, hn⟩ : ∃ n, n = ws.length := ⟨_, rfl⟩
  have HN := Lib.hid hn
  rw [← hn] at hca hcb ⊢
  clear hn
  go_enter Tryd.func11, Tryd.ntmps11
  go_wp2_with fail
  go_loopg [13] n (fun gg i wr => ∃ k : Nat, i = .int .i64 k ∧ k ≤ n ∧ n - k ≤ gg ∧ Hid (Below w.heap.size w wr))
  case atStart => exact ⟨0, rfl, Nat.zero_le _, by omega, Below.refl _ _⟩
  case round =>
    obtain ⟨k, rfl, hk, hg, HW⟩ := hrel
    by_cases hlt : k < n
    · obtain ⟨b1, o1, hA, hB1, hc1⟩ := HA.out (by rw [tCells_len, ← HN.out]; omega)
      obtain ⟨b2, o2, hB, hB2, hc2⟩ := HB.out (by rw [tCells_len, ← HN.out]; omega)
      obtain ⟨x, hx⟩ : ∃ x, ws[k]? = some x := ⟨_, List.getElem?_eq_getElem (by rw [← HN.out]; exact hlt)⟩
      have hcx : (tCells ws)[k]? = some (.string (strOf x)) := by unfold tCells; rw [List.getElem?_map, hx]; rfl
      have l1 : wr.cell? ⟨b1, o1 + k, none⟩ = some (.string (strOf x)) := (HW.out.cell (p := ⟨b1, o1 + k, none⟩) hB1).trans (hc1 k _ hcx)
      have l2 : wr.cell? ⟨b2, o2 + k, none⟩ = some (.string (strOf x)) := (HW.out.cell (p := ⟨b2, o2 + k, none⟩) hB2).trans (hc2 k _ hcx)
      subst hA hB
      have hkI : (k : Int) < (n : Int) := by omega
      clear hc1 hc2 hcx hx
      go_wp2_with fail
      go_quiet (fail)
      go_wp2_with fail
      go_roundg (n - (k + 1))
      case measure => omega
      case rel => exact ⟨k + 1, by go_num, by omega, Nat.le_refl _, below_drewN HW.out _⟩
    · obtain rfl : k = n := by omega
      go_wp2_with fail
      go_ret
      exact ⟨rfl, HW.out⟩
set_option maxHeartbeats 4000000 in
theorem ints_same (ns : List Nat) (Aa Ab : Option Addr) (ca cb : Nat) (hca : ns.length ≤ ca) (hcb : ns.length ≤ cb) (hma : ca ≤ 9223372036854775807) (_hmb : cb ≤ 9223372036854775807) (w : World) (ha : CS w w.heap.size Aa (nCells ns)) (hb : CS w w.heap.size Ab (nCells ns)) :
    Calls Tryd.prog 12 #[.slice Aa ns.length ca, .slice Ab ns.length cb] w fun e w' => e = .returned (.bool true) ∧ Below w.heap.size w w' := by
  have HA := Lib.hid ha
  have HB := Lib.hid hb
  clear ha hb
  obtain ⟨n, hn⟩ : ∃ n, n = ns.length := ⟨_, rfl⟩
  have HN := Lib.hid hn
  rw [← hn] at hca hcb ⊢
  clear hn
  go_enter Tryd.func12, Tryd.ntmps12
  go_wp2_with fail
  go_loopg [13] n (fun gg i wr => ∃ k : Nat, i = .int .i64 k ∧ k ≤ n ∧ n - k ≤ gg ∧ Hid (Below w.heap.size w wr))
  case atStart => exact ⟨0, rfl, Nat.zero_le _, by omega, Below.refl _ _⟩
  case round =>
    obtain ⟨k, rfl, hk, hg, HW⟩ := hrel
    by_cases hlt : k < n
    · obtain ⟨b1, o1, hA, hB1, hc1⟩ := HA.out (by rw [nCells_len, ← HN.out]; omega)
      obtain ⟨b2, o2, hB, hB2, hc2⟩ := HB.out (by rw [nCells_len, ← HN.out]; omega)
      obtain ⟨x, hx⟩ : ∃ x, ns[k]? = some x := ⟨_, List.getElem?_eq_getElem (by rw [← HN.out]; exact hlt)⟩
      have hcx : (nCells ns)[k]? = some (.int .i64 (x : Int)) := by unfold nCells; rw [List.getElem?_map, hx]; rfl
      have l1 : wr.cell? ⟨b1, o1 + k, none⟩ = some (.int .i64 (x : Int)) := (HW.out.cell (p := ⟨b1, o1 + k, none⟩) hB1).trans (hc1 k _ hcx)
      have l2 : wr.cell? ⟨b2, o2 + k, none⟩ = some (.int .i64 (x : Int)) := (HW.out.cell (p := ⟨b2, o2 + k, none⟩) hB2).trans (hc2 k _ hcx)
      subst hA hB
      have hkI : (k : Int) < (n : Int) := by omega
      clear hc1 hc2 hcx hx
      go_wp2_with fail
      go_quiet (fail)
      go_wp2_with fail
      go_roundg (n - (k + 1))
      case measure => omega
      case rel => exact ⟨k + 1, by go_num, by omega, Nat.le_refl _, below_drewN HW.out _⟩
    · obtain rfl : k = n := by omega
      go_wp2_with fail
      go_ret
      exact ⟨rfl, HW.out⟩
set_option maxHeartbeats 4000000 in
theorem has_any (ns : List Nat) (A : Option Addr) (c x : Nat) (hc : ns.length ≤ c) (hm : c ≤ 9223372036854775807) (w : World) (hA : CS w w.heap.size A (nCells ns)) :
    Calls Tryd.prog 17 #[.slice A ns.length c, .int .i64 (x : Int)] w fun e w' => e = .returned (.bool (decide (x ∈ ns))) ∧ w = w' := by
  have HA := Lib.hid hA
  clear hA
  obtain ⟨n, hn⟩ : ∃ n, n = ns.length := ⟨_, rfl⟩
  have HN := Lib.hid hn
  rw [← hn] at hc ⊢
  clear hn
  go_enter Tryd.func17, Tryd.ntmps17
  go_wp2_with fail
  go_loopg [9] n (fun gg i wr => ∃ k : Nat, i = .int .i64 k ∧ k ≤ n ∧ n - k ≤ gg ∧ Hid (x ∉ ns.take k) ∧ w = wr)
  case atStart => exact ⟨0, rfl, Nat.zero_le _, by omega, by show x ∉ _; simp, rfl⟩
  case round =>
    obtain ⟨k, rfl, hk, hg, HX, rfl⟩ := hrel
    by_cases hlt : k < n
    · obtain ⟨b1, o1, hA, hB1, hc1⟩ := HA.out (by rw [nCells_len, ← HN.out]; omega)
      have hkl : k < ns.length := by rw [← HN.out]; exact hlt
      obtain ⟨y, hy⟩ : ∃ y, ns[k] = y := ⟨_, rfl⟩
      have hcx : (nCells ns)[k]? = some (.int .i64 (y : Int)) := by unfold nCells; rw [List.getElem?_map, List.getElem?_eq_getElem hkl, hy]; rfl
      have l1 := hc1 k _ hcx
      subst hA
      have hkI : (k : Int) < (n : Int) := by omega
      by_cases hxy : y = x
      · have hm2 : Hid (x ∈ ns) := by show x ∈ ns; rw [← hxy, ← hy]; exact List.getElem_mem hkl
        have hbb : ((y : Int) == (x : Int)) = true := by simp [hxy]
        clear hc1 hcx hxy hy
        go_wp2_with fail
        go_ret
        exact ⟨by rw [decide_eq_true hm2.out]; rfl, rfl⟩
      · have hbb : ((y : Int) == (x : Int)) = false := by simp; omega
        have HX2 : Hid (x ∉ ns.take (k + 1)) := by
          show x ∉ _
          rw [List.take_succ_eq_append_getElem hkl, hy, List.mem_append]
          rintro (h | h)
          · exact HX.out h
          · exact hxy (List.mem_singleton.1 h).symm
        clear hc1 hcx hxy hy
        go_wp2_with fail
        go_roundg (n - (k + 1))
        case measure => omega
        case rel => exact ⟨k + 1, by go_num, by omega, Nat.le_refl _, HX2, rfl⟩
    · obtain rfl : k = n := by omega
      have hno : Hid (x ∉ ns) := by show x ∉ _; have := HX.out; rwa [HN.out, List.take_length] at this
      go_wp2_with fail
      go_ret
      exact ⟨by rw [decide_eq_false hno.out]; rfl, rfl⟩
end Go.Proofs.YtpgfiecfndkheaaDoor
