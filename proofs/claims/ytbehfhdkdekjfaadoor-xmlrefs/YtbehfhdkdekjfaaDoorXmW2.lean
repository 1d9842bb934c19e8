/- The reader of package xml: upTo, blanks, sign. -/
import Derived.Test.YtbehfhdkdekjfaaDoorXmW1
import Derived.Lib.IndexMore
import Derived.IntWalk
namespace Go.Proofs.YtbehfhdkdekjfaaDoor
open Go.RowKit
set_option maxRecDepth 100000

theorem up_index (p : L8) (hp : p ≠ []) : ∀ l : L8, upL p l = if 0 ≤ Lib.index l p then some (l.take (Lib.index l p).toNat, l.drop ((Lib.index l p).toNat + p.length)) else none
  | [] => by
    have : p.isEmpty = false := by simpa using hp
    simp [upL, Lib.index, this]
  | c :: t => by
    have ih := up_index p hp t
    have hg := Lib.index_ge t p
    unfold upL Lib.index
    by_cases h : p.isPrefixOf (c :: t) = true
    · simp [h]
    · rw [if_neg h, if_neg h, ih]
      by_cases h2 : Lib.index t p = -1
      · simp [h2]
      · have h3 : 0 ≤ Lib.index t p := by omega
        have e : (Lib.index t p == -1) = false := by simpa using h2
        rw [if_pos h3, e, if_neg (by simp : ¬ (false = true)), if_pos (by omega : 0 ≤ Lib.index t p + 1)]
        have e2 : (Lib.index t p + 1).toNat = (Lib.index t p).toNat + 1 := by omega
        rw [e2]
        simp [Nat.add_right_comm]
theorem cut_up {p l a b : L8} (hp : p ≠ []) (h : upL p l = some (a, b)) : Lib.cut l p = (a, b, true) := by
  rw [up_index p hp] at h
  unfold Lib.cut
  split at h
  · rename_i c
    rw [if_pos c]
    injection h with h
    injection h with h1 h2
    rw [h1, h2]
  · cases h
theorem cut_no {p l : L8} (hp : p ≠ []) (h : upL p l = none) : Lib.cut l p = (l, [], false) := by
  rw [up_index p hp] at h
  unfold Lib.cut
  split at h
  · cases h
  · rename_i c
    rw [if_neg c]
theorem up_app {p : L8} : ∀ {l a b : L8}, upL p l = some (a, b) → l = a ++ (p ++ b)
  | [], a, b, h => by
    unfold upL at h
    split at h
    · rename_i c
      have : p = [] := by simpa using c
      injection h with h; injection h with h1 h2
      rw [this, ← h1, ← h2]; rfl
    · cases h
  | c :: t, a, b, h => by
    unfold upL at h
    split at h
    · rename_i hc
      injection h with h; injection h with h1 h2
      rw [← h1, ← h2]
      rw [List.isPrefixOf_iff_prefix] at hc
      obtain ⟨u, hu⟩ := hc
      rw [← hu]; simp
    · cases hr : upL p t with
      | none => rw [hr] at h; cases h
      | some x =>
        obtain ⟨x1, x2⟩ := x
        rw [hr] at h
        injection h with h; injection h with h1 h2
        subst h1; subst h2
        rw [up_app hr]; rfl
theorem up_len {p l a b : L8} (h : upL p l = some (a, b)) : l.length = a.length + p.length + b.length := by rw [up_app h]; simp; omega

set_option maxHeartbeats 1000000 in
theorem upTo_yes (R : Nat) (p : L8) (hp : p ≠ []) {l a b : L8} (hk : upL p l = some (a, b)) (hl : l.length ≤ 1000000) (w : World) (h : Rst w R l) (hE : Env w) :
    Calls Tryd.prog 50 #[.pointer (some ⟨R, 0, none⟩), .string (strOf p)] w fun e w' => e = .returned (.tuple #[.string (strOf a), .int .i64 0]) ∧ Mv w w' R ∧ Rst w' R b := by
  obtain ⟨_, ⟨m, hm⟩, _⟩ := hE
  have HC := Lib.hid (Tryd.strings_Cut (strOf l) (strOf p) m w (by rw [size8]; omega) hm)
  rw [str_data, str_data, cut_up hp hk] at HC
  have hc := h.cell
  have hf := h.frz
  have hlt := h.lt
  have H := Lib.hid h
  clear h hk hm
  go_enter Tryd.func50, Tryd.ntmps50
  go_wp2_with fail
  refine HC.out.mono ?_
  rintro e w1 ⟨rfl, n, rfl⟩
  simp only
  have hc1 : (w.drewN n).cell? ⟨R, 0, none⟩ = some (.string (strOf l)) := hc
  have hf1 : (w.drewN n).frozen? ⟨R, 0, none⟩ = false := hf
  go_wp2_with fail
  go_ret2
  exact ⟨rfl, below_set H.out (below_drewN (Below.refl _ _) n) _⟩
set_option maxHeartbeats 1000000 in
theorem upTo_no (R : Nat) (p : L8) (hp : p ≠ []) {l : L8} (hk : upL p l = none) (hl : l.length ≤ 1000000) (w : World) (h : Rst w R l) (hE : Env w) :
    Calls Tryd.prog 50 #[.pointer (some ⟨R, 0, none⟩), .string (strOf p)] w fun e w' => e = .returned (.tuple #[.string ⟨#[]⟩, .int .i64 11]) ∧ Mv w w' R ∧ Rst w' R l := by
  obtain ⟨_, ⟨m, hm⟩, _⟩ := hE
  have HC := Lib.hid (Tryd.strings_Cut (strOf l) (strOf p) m w (by rw [size8]; omega) hm)
  rw [str_data, str_data, cut_no hp hk] at HC
  have hc := h.cell
  have hf := h.frz
  have hlt := h.lt
  have H := Lib.hid h
  clear h hk hm
  go_enter Tryd.func50, Tryd.ntmps50
  go_wp2_with fail
  refine HC.out.mono ?_
  rintro e w1 ⟨rfl, n, rfl⟩
  simp only
  go_wp2_with fail
  go_ret2
  exact ⟨rfl, Mv.of H.out.lt (below_drewN (Below.refl _ _) n), H.out.below (below_drewN (Below.refl _ _) n)⟩

theorem blank_any (c : UInt8) (w : World) : Calls Tryd.prog 49 #[.int .u8 (c.toNat : Int)] w fun e w' => e = .returned (.bool (isBl c)) ∧ w = w' := by
  have e1 : ((c.toNat : Int) == 32) = (c == 32) := by rw [Bool.eq_iff_iff, beq_iff_eq, beq_iff_eq, ← UInt8.toNat_inj]; simp; omega
  have e2 : ((c.toNat : Int) == 9) = (c == 9) := by rw [Bool.eq_iff_iff, beq_iff_eq, beq_iff_eq, ← UInt8.toNat_inj]; simp; omega
  have e3 : ((c.toNat : Int) == 10) = (c == 10) := by rw [Bool.eq_iff_iff, beq_iff_eq, beq_iff_eq, ← UInt8.toNat_inj]; simp; omega
  have e4 : ((c.toNat : Int) == 13) = (c == 13) := by rw [Bool.eq_iff_iff, beq_iff_eq, beq_iff_eq, ← UInt8.toNat_inj]; simp; omega
  have HI : Hid (isBl c = (c == 32 || c == 9 || c == 10 || c == 13)) := rfl
  generalize (c.toNat : Int) = z at *
  generalize (c == 32) = b1 at *
  generalize (c == 9) = b2 at *
  generalize (c == 10) = b3 at *
  generalize (c == 13) = b4 at *
  go_enter Tryd.func49, Tryd.ntmps49
  cases b1 <;> cases b2 <;> cases b3 <;> cases b4 <;> (go_wp2_with fail; go_ret; exact ⟨by rw [HI.out]; rfl, rfl⟩)

theorem skip_at (l : L8) (k : Nat) (h1 : (l.take k).all isBl = true) (h2 : hasB (l.drop k) = false) : skipB l = l.drop k := by
  unfold skipB
  conv => lhs; rw [← List.take_append_drop k l]
  rw [List.dropWhile_append_of_pos (by simpa using h1)]
  cases hd : l.drop k with
  | nil => rfl
  | cons c t => rw [hd] at h2; simp only [hasB] at h2; rw [List.dropWhile_cons, h2]; rfl
theorem hasB_at (l : L8) (k : Nat) (h1 : (l.take k).all isBl = true) (h2 : hasB (l.drop k) = false) (hk : k ≤ l.length) : hasB l = decide (0 < k) := by
  cases k with
  | zero => simpa using h2
  | succ k =>
    cases l with
    | nil => simp at hk
    | cons c t => simp at h1; simp [hasB, h1.1]
set_option maxHeartbeats 1000000 in
theorem blanks_any (R : Nat) (l : L8) (hl : l.length ≤ 1000000) (w : World) (h : Rst w R l) :
    Calls Tryd.prog 51 #[.pointer (some ⟨R, 0, none⟩)] w fun e w' => e = .returned (.bool (hasB l)) ∧ Mv w w' R ∧ Rst w' R (skipB l) := by
  have hc := h.cell
  have hf := h.frz
  have hlt := h.lt
  have H := Lib.hid h
  have hs : (strOf l).size ≤ 1000000 := by rw [size8]; exact hl
  have HZ := Lib.hid (size8 l)
  clear h
  go_enter Tryd.func51, Tryd.ntmps51
  go_wp2_with fail
  go_loop [3] (fun i => ∃ k : Nat, k ≤ (strOf l).size ∧ i = .int .i64 k ∧ Hid ((l.take k).all isBl = true)) (fun i => (strOf l).size - (intOf i).toNat)
  case atStart => exact ⟨0, Nat.zero_le _, rfl, rfl⟩
  case round =>
    obtain ⟨k, hk, rfl, HA⟩ := hrel
    by_cases hlt2 : k < (strOf l).size
    · have HD := Lib.hid (drop_cons l k hlt2)
      cases hb : isBl ((strOf l)[k]'hlt2)
      · have HN : Hid (hasB (l.drop k) = false) := by show _ = _; rw [HD.out]; exact hb
        have hcut := cut8 l k
        have HB := fun W => Lib.hid (blank_any ((strOf l)[k]'hlt2) W)
        rw [hb] at HB
        clear hb
        go_wp2_with (go_at_call 49; refine (HB _).out.mono ?_; rintro e w' ⟨rfl, rfl⟩)
        go_ret
        refine ⟨by rw [hasB_at l k HA.out HN.out (by rw [← HZ.out]; exact hk)]; simp, ?_⟩
        rw [skip_at l k HA.out HN.out]
        exact below_set H.out (Below.refl _ _) _
      · have HE : Hid ((l.take (k + 1)).all isBl = true) := by
          show _ = _
          rw [take_snoc8 l k (by rw [← HZ.out]; exact hlt2), List.all_append, HA.out]
          simp only [List.all_cons, List.all_nil, Bool.and_true, Bool.true_and]; exact hb
        have HB := fun W => Lib.hid (blank_any ((strOf l)[k]'hlt2) W)
        rw [hb] at HB
        clear hb
        go_wp2_with (go_at_call 49; refine (HB _).out.mono ?_; rintro e w' ⟨rfl, rfl⟩)
        go_round
        case rel => exact ⟨k + 1, by omega, by go_num, HE⟩
        case measure => simp only [intOf]; omega
    · obtain rfl : k = (strOf l).size := by omega
      have HN : Hid (hasB (l.drop (strOf l).size) = false) := by show _ = _; rw [HZ.out, List.drop_length]; rfl
      have hcut := cut8 l (strOf l).size
      go_wp2_with fail
      go_ret
      refine ⟨by rw [hasB_at l _ HA.out HN.out (by rw [HZ.out]; omega)]; simp, ?_⟩
      rw [skip_at l _ HA.out HN.out, HZ.out, List.drop_length]
      exact below_set H.out (Below.refl _ _) []
set_option maxHeartbeats 1000000 in
theorem sign_any (R : Nat) (l : L8) (hl : l.length ≤ 1000000) (w : World) (h : Rst w R l) (hE : Env w) :
    Calls Tryd.prog 62 #[.pointer (some ⟨R, 0, none⟩)] w fun e w' => e = .returned (.string (strOf (l.take (nextN l).2))) ∧ Mv w w' R ∧ Rst w' R (l.drop (nextN l).2) := by
  have hc := h.cell
  have hf := h.frz
  have hlt := h.lt
  have H := Lib.hid h
  have hs : (strOf l).size ≤ 1000000 := by rw [size8]; exact hl
  have nb := (next_bd l).1
  rw [← size8] at nb
  have HN := Lib.hid (next_any l w hE.1)
  clear h hE
  generalize nextN l = x at *
  obtain ⟨x1, x2⟩ := x
  simp only at nb HN
  have c1 := cut8 l x2
  have c2 := take8 l x2
  go_enter Tryd.func62, Tryd.ntmps62
  go_wp2_with fail
  refine HN.out.mono ?_
  rintro e w1 ⟨rfl, b1⟩
  have hc1 := (b1.cell (p := ⟨R, 0, none⟩) hlt).trans hc
  have hf1 := (b1.frozen (p := ⟨R, 0, none⟩) hlt).trans hf
  go_wp2_with fail
  go_ret
  exact ⟨rfl, below_set H.out b1 _⟩
end Go.Proofs.YtbehfhdkdekjfaaDoor
