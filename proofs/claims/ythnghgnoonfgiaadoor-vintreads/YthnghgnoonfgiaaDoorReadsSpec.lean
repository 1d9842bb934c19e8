/- Numbers and texts laid one behind the other: plain lists. -/
import Derived.Test.YthnghgnoonfgiaaDoorVg
import Derived.Test.YthnghgnoonfgiaaDoorReadWalk
namespace Go.Proofs.YthnghgnoonfgiaaDoor
open Go.RowKit
set_option maxRecDepth 100000

def numP (n : Int) : Nat := (n % 16777216).toNat
theorem numP_lt (n : Int) : numP n < 16777216 := by unfold numP; omega
theorem and_low (n : Int) (k : Nat) (hk : k < 63) : bits .and .i64 n ((2 ^ k - 1 : Nat) : Int) = ((n % ((2 ^ k : Nat) : Int)).toNat : Int) := by
  show IntKind.i64.wrap ((BitVec.ofInt 64 n &&& BitVec.ofInt 64 ((2 ^ k - 1 : Nat) : Int)).toNat : Int) = _
  have hp : 2 ^ k < 2 ^ 63 := Nat.pow_lt_pow_right (by decide) hk
  have hp0 : 0 < 2 ^ k := Nat.two_pow_pos k
  have h1 : (BitVec.ofInt 64 ((2 ^ k - 1 : Nat) : Int)).toNat = 2 ^ k - 1 := by
    rw [BitVec.ofInt_natCast, BitVec.toNat_ofNat]
    exact Nat.mod_eq_of_lt (by omega)
  have h2 : (BitVec.ofInt 64 n).toNat = (n % (2 ^ 64 : Nat)).toNat := by rw [BitVec.toNat_ofInt]
  have hd : (2 ^ k : Nat) ∣ (2 ^ 64 : Nat) := Nat.pow_dvd_pow 2 (by omega)
  have h3 : ((n % ((2 ^ 64 : Nat) : Int)).toNat % 2 ^ k : Nat) = (n % ((2 ^ k : Nat) : Int)).toNat := by
    have e : n % ((2 ^ 64 : Nat) : Int) % ((2 ^ k : Nat) : Int) = n % ((2 ^ k : Nat) : Int) := Int.emod_emod_of_dvd n (Int.natCast_dvd_natCast.2 hd)
    have p1 : 0 ≤ n % ((2 ^ 64 : Nat) : Int) := Int.emod_nonneg _ (by decide)
    have : (((n % ((2 ^ 64 : Nat) : Int)).toNat % 2 ^ k : Nat) : Int) = n % ((2 ^ k : Nat) : Int) := by
      rw [Int.natCast_emod, Int.toNat_of_nonneg p1, e]
    omega
  rw [BitVec.toNat_and, h1, Nat.and_two_pow_sub_one_eq_mod, h2, h3]
  have hlt : n % ((2 ^ k : Nat) : Int) < ((2 ^ k : Nat) : Int) := Int.emod_lt_of_pos _ (by omega)
  rw [IntKind.wrap_i64]
  omega
theorem and24 (n : Int) : bits .and .i64 n 16777215 = (numP n : Int) := and_low n 24 (by decide)
theorem and8 (n : Int) : bits .and .i64 n 255 = ((n % 256).toNat : Int) := and_low n 8 (by decide)

abbrev Pt := Bool × Int × ByteArray
def enP (p : Pt) : List UInt8 := if p.1 = true then enc p.2.2.size ++ p.2.2.data.toList else enc (numP p.2.1)
def layP (ps : List Pt) : List UInt8 := (ps.map enP).flatten
def ptAt (ps : List Pt) (k : Nat) : Pt := ps[k]?.getD (false, 0, ByteArray.empty)
theorem layP_snoc (ps : List Pt) (k : Nat) (h : k < ps.length) : layP (ps.take (k + 1)) = layP (ps.take k) ++ enP (ptAt ps k) := by
  unfold layP ptAt
  rw [List.take_succ_eq_append_getElem h, List.map_append, List.flatten_append, List.getElem?_eq_getElem h]
  simp
theorem layP_drop (ps : List Pt) (k : Nat) (h : k < ps.length) : layP (ps.drop k) = enP (ptAt ps k) ++ layP (ps.drop (k + 1)) := by
  unfold layP ptAt
  rw [List.drop_eq_getElem_cons h, List.map_cons, List.flatten_cons, List.getElem?_eq_getElem h]
  rfl
theorem enP_len (p : Pt) (h : p.2.2.size ≤ 100) : (enP p).length ≤ 110 := by
  unfold enP
  split
  · have h2 := glen_le10 p.2.2.size (by omega)
    have h3 : p.2.2.data.toList.length = p.2.2.size := by simp
    unfold glen at h2
    rw [List.length_append, h3]
    omega
  · have := glen_le10 (numP p.2.1) (by have := numP_lt p.2.1; omega)
    unfold glen at this
    omega
theorem layP_len (ps : List Pt) (k : Nat) (hk : k ≤ ps.length) (h : ∀ j, j < k → (ptAt ps j).2.2.size ≤ 100) : (layP (ps.take k)).length ≤ 110 * k := by
  induction k with
  | zero => simp [layP]
  | succ k ih =>
    have := ih (by omega) (fun j hj => h j (by omega))
    have h1 := enP_len _ (h k (by omega))
    rw [layP_snoc ps k (by omega), List.length_append]
    omega
theorem layP_part (ps : List Pt) (k : Nat) : (layP (ps.drop k)).length ≤ (layP ps).length := by
  have : layP ps = layP (ps.take k) ++ layP (ps.drop k) := by unfold layP; rw [← List.flatten_append, ← List.map_append, List.take_append_drop]
  rw [this, List.length_append]
  omega
/-- A number's form, cut, is none. -/
theorem getN_cut (n m : Nat) (hn : n < 18446744073709551616) (hm : m < glen n) : (getN ((enc n).take m)).2 = 0 := by
  by_cases h : 0 < (getN ((enc n).take m)).2
  · exfalso
    obtain ⟨h1, h2, h3⟩ := getN_some _ h
    have e : enc (getN ((enc n).take m)).1 ++ (((enc n).take m).drop (getN ((enc n).take m)).2 ++ (enc n).drop m) = enc n := by
      rw [h3, ← List.append_assoc, List.take_append_drop, List.take_append_drop]
    have g1 := getN_enc _ h2 (((enc n).take m).drop (getN ((enc n).take m)).2 ++ (enc n).drop m)
    rw [e] at g1
    have g2 := getN_enc n hn []
    rw [List.append_nil, g1] at g2
    injection g2 with _ g3
    have l3 := congrArg List.length h3
    rw [List.length_take, List.length_take] at l3
    unfold glen at g3 hm
    omega
  · omega

set_option maxHeartbeats 1000000 in
theorem num_ok2 (R : Nat) (l : List UInt8) (most : Int) (N k : Nat) (w : World) (h : Rd w R l 0) (hn : l.length ≤ 1000000) (HG : Hid (getN l = (N, k))) (hk : 0 < k) (hN : (N : Int) ≤ max most 0) (h9 : -9223372036854775808 ≤ most) (h8 : most ≤ 9223372036854775807) :
    Calls Tryd.prog 16 #[.pointer (some ⟨R, 0, none⟩), .int .i64 most] w fun e w' => e = .returned (.int .i64 N) ∧ Moved w w' R (l.drop k) 0 := by
  by_cases hm : 0 ≤ most
  · exact num_ok R l most N k w h hn HG hk (by omega) h8
  · have h' := h
    obtain ⟨A, c, h0, h1, f0, f1, hc, hb⟩ := h'
    have hlt := getN_lt l
    rw [HG.out] at hlt
    have hkl : k ≤ l.length := hlt.2.1
    clear hlt
    obtain ⟨A', hcut, hbs'⟩ := hb.from_ l.length c k rfl hkl hc
    have hk1 : ((k : Int) == 0) = false := by simp; omega
    obtain rfl : N = 0 := by omega
    have hm' : most < 0 := by omega
    have hmv := moved_on h A' (l.length - k) (c - k) (by rw [List.length_drop]) (by omega) hbs'
    have HM := Lib.hid hmv
    clear hmv hbs' hN
    go_enter Tryd.func16, Tryd.ntmps16
    go_wp2_with fail
    refine (err_some R l 0 _ h).mono ?_
    rintro e w' ⟨rfl, rfl⟩
    go_wp2_with fail
    refine (get_any A _ c l R w rfl hn hb).mono ?_
    rw [HG.out]
    rintro e w' ⟨rfl, rfl⟩
    go_wp2_with fail
    go_ret
    exact ⟨rfl, HM.out⟩
set_option maxHeartbeats 1000000 in
theorem rtext_ok2 (R : Nat) (l : List UInt8) (most : Int) (N k : Nat) (w : World) (h : Rd w R l 0) (hn : l.length ≤ 1000000) (HG : Hid (getN l = (N, k))) (hk : 0 < k) (hN : (N : Int) ≤ max most 0) (h9 : -9223372036854775808 ≤ most) (h8 : most ≤ 9223372036854775807) (hfit : N ≤ l.length - k) :
    Calls Tryd.prog 15 #[.pointer (some ⟨R, 0, none⟩), .int .i64 most] w fun e w' => e = .returned (.string ⟨((l.drop k).take N).toArray⟩) ∧ Moved w w' R ((l.drop k).drop N) 0 := by
  have HNum := Lib.hid (num_ok2 R l most N k w h hn HG hk hN h9 h8)
  clear hN
  go_enter Tryd.func15, Tryd.ntmps15
  go_wp2_with fail
  refine HNum.out.mono ?_
  rintro e w1 ⟨rfl, hmv⟩
  go_wp2_with fail
  refine (err_some R _ 0 _ hmv.1).mono ?_
  rintro e w' ⟨rfl, rfl⟩
  have hrd := hmv.1
  obtain ⟨A, c, h0, h1, f0, f1, hc, hb⟩ := hmv.1
  obtain ⟨q, hq⟩ : ∃ q, q = (l.drop k).length := ⟨_, rfl⟩
  have hqN : N ≤ q := by rw [hq, List.length_drop]; exact hfit
  rw [← hq] at h0 hc
  obtain ⟨hto, hbt⟩ := hb.to_ q c N hq hqN hc
  obtain ⟨A', hfrom, hbf⟩ := hb.from_ q c N hq hqN hc
  have hconv := hbt.conv N c (by rw [List.length_take, ← hq]; omega)
  have HM := Lib.hid (hmv.trans (moved_on hrd A' (q - N) (c - N) (by rw [List.length_drop, hq]) (by omega) hbf))
  clear hmv hrd hb hbt hbf hq
  go_wp2_with fail
  go_ret
  exact ⟨rfl, HM.out⟩

/-- The next part is read, or is above its most. -/
theorem part_num (p : Pt) (hp : p.1 = false) (more : List UInt8) (R : Nat) (most : Int) (w : World) (h : Rd w R (enP p ++ more) 0) (hn : (enP p ++ more).length ≤ 1000000) (hN : ((numP p.2.1 : Nat) : Int) ≤ max most 0) (h9 : -9223372036854775808 ≤ most) (h8 : most ≤ 9223372036854775807) :
    Calls Tryd.prog 16 #[.pointer (some ⟨R, 0, none⟩), .int .i64 most] w fun e w' => e = .returned (.int .i64 (numP p.2.1 : Nat)) ∧ Moved w w' R more 0 := by
  have e : enP p = enc (numP p.2.1) := by unfold enP; rw [hp]; rfl
  rw [e] at h hn
  have c := num_ok2 R _ most (numP p.2.1) (glen (numP p.2.1)) w h hn (getN_enc _ (by have := numP_lt p.2.1; omega) more) (glen_pos _) hN h9 h8
  rwa [show (enc (numP p.2.1) ++ more).drop (glen (numP p.2.1)) = more from List.drop_left] at c
theorem part_text (p : Pt) (hp : p.1 = true) (hs : p.2.2.size ≤ 100) (more : List UInt8) (R : Nat) (most : Int) (w : World) (h : Rd w R (enP p ++ more) 0) (hn : (enP p ++ more).length ≤ 1000000) (hN : ((p.2.2.size : Nat) : Int) ≤ max most 0) (h9 : -9223372036854775808 ≤ most) (h8 : most ≤ 9223372036854775807) :
    Calls Tryd.prog 15 #[.pointer (some ⟨R, 0, none⟩), .int .i64 most] w fun e w' => e = .returned (.string p.2.2) ∧ Moved w w' R more 0 := by
  have e : enP p ++ more = enc p.2.2.size ++ (p.2.2.data.toList ++ more) := by unfold enP; rw [hp, if_pos rfl, List.append_assoc]
  rw [e] at h hn
  have hlen : p.2.2.data.toList.length = p.2.2.size := by simp
  have hd : (enc p.2.2.size ++ (p.2.2.data.toList ++ more)).drop (glen p.2.2.size) = p.2.2.data.toList ++ more := List.drop_left
  have c := rtext_ok2 R _ most p.2.2.size (glen p.2.2.size) w h hn (getN_enc _ (by omega) _) (glen_pos _) hN h9 h8 (by
    rw [List.length_append, List.length_append, hlen]
    unfold glen
    omega)
  rw [hd] at c
  have e1 : (p.2.2.data.toList ++ more).take p.2.2.size = p.2.2.data.toList := by rw [← hlen]; exact List.take_left
  have e2 : (p.2.2.data.toList ++ more).drop p.2.2.size = more := by rw [← hlen]; exact List.drop_left
  have e3 : (⟨p.2.2.data.toList.toArray⟩ : ByteArray) = p.2.2 := by cases p.2.2; simp
  rw [e1, e2, e3] at c
  exact c
theorem part_num_bad (p : Pt) (hp : p.1 = false) (more : List UInt8) (R : Nat) (most : Int) (w : World) (h : Rd w R (enP p ++ more) 0) (hn : (enP p ++ more).length ≤ 1000000) (hN : max most 0 < ((numP p.2.1 : Nat) : Int)) (h9 : -9223372036854775808 ≤ most) (h8 : most ≤ 9223372036854775807) :
    Calls Tryd.prog 16 #[.pointer (some ⟨R, 0, none⟩), .int .i64 most] w fun e w' => e = .returned (.int .i64 0) ∧ Moved w w' R (enP p ++ more) 2 := by
  have e : enP p = enc (numP p.2.1) := by unfold enP; rw [hp]; rfl
  have h' := h
  rw [e] at h hn
  refine (num_bad R _ most (numP p.2.1) (glen (numP p.2.1)) w h hn (getN_enc _ (by have := numP_lt p.2.1; omega) more) h9 h8 (.inr hN)).mono ?_
  rintro x w' ⟨rfl, rfl⟩
  exact ⟨rfl, moved_err h'⟩
theorem part_text_bad (p : Pt) (hp : p.1 = true) (hs : p.2.2.size ≤ 100) (more : List UInt8) (R : Nat) (most : Int) (w : World) (h : Rd w R (enP p ++ more) 0) (hn : (enP p ++ more).length ≤ 1000000) (hN : max most 0 < ((p.2.2.size : Nat) : Int)) (h9 : -9223372036854775808 ≤ most) (h8 : most ≤ 9223372036854775807) :
    Calls Tryd.prog 15 #[.pointer (some ⟨R, 0, none⟩), .int .i64 most] w fun e w' => e = .returned (.string ⟨#[]⟩) ∧ Moved w w' R (enP p ++ more) 2 := by
  have e : enP p ++ more = enc p.2.2.size ++ (p.2.2.data.toList ++ more) := by unfold enP; rw [hp, if_pos rfl, List.append_assoc]
  rw [e] at h hn ⊢
  exact rtext_bad R _ most p.2.2.size (glen p.2.2.size) w h hn (getN_enc _ (by omega) _) h9 h8 (.inr hN)
theorem cut_num (p : Pt) (hp : p.1 = false) (m R : Nat) (hm : m < (enP p).length) (w : World) (h : Rd w R ((enP p).take m) 0) (hn : (enP p).length ≤ 1000000) :
    Calls Tryd.prog 16 #[.pointer (some ⟨R, 0, none⟩), .int .i64 1073741824] w fun e w' => ∃ v l', e = .returned v ∧ Moved w w' R l' 2 := by
  have e : enP p = enc (numP p.2.1) := by unfold enP; rw [hp]; rfl
  have h' := h
  rw [e] at h hn hm
  have hc := getN_cut (numP p.2.1) m (by have := numP_lt p.2.1; omega) hm
  refine (num_bad R _ 1073741824 (getN ((enc (numP p.2.1)).take m)).1 (getN ((enc (numP p.2.1)).take m)).2 w h (by rw [List.length_take]; omega) rfl (by decide) (by decide) (.inl hc)).mono ?_
  rintro x w' ⟨rfl, rfl⟩
  exact ⟨_, _, rfl, moved_err h'⟩
theorem cut_text (p : Pt) (hp : p.1 = true) (hs : p.2.2.size ≤ 100) (m R : Nat) (hm : m < (enP p).length) (w : World) (h : Rd w R ((enP p).take m) 0) (hn : (enP p).length ≤ 1000000) :
    Calls Tryd.prog 15 #[.pointer (some ⟨R, 0, none⟩), .int .i64 1073741824] w fun e w' => ∃ v l', e = .returned v ∧ Moved w w' R l' 2 := by
  have e : enP p = enc p.2.2.size ++ p.2.2.data.toList := by unfold enP; rw [hp]; rfl
  rw [e] at h hn hm
  have hlen : p.2.2.data.toList.length = p.2.2.size := by simp
  by_cases hg : m < glen p.2.2.size
  · have ht : (enc p.2.2.size ++ p.2.2.data.toList).take m = (enc p.2.2.size).take m := by
      rw [List.take_append_of_le_length (by unfold glen at hg; omega)]
    rw [ht] at h
    have hc := getN_cut p.2.2.size m (by omega) hg
    refine (rtext_bad R _ 1073741824 (getN ((enc p.2.2.size).take m)).1 (getN ((enc p.2.2.size).take m)).2 w h (by rw [List.length_take]; unfold glen at hg; omega) rfl (by decide) (by decide) (.inl hc)).mono ?_
    rintro x w' ⟨rfl, hmv⟩
    exact ⟨_, _, rfl, hmv⟩
  · have ht : (enc p.2.2.size ++ p.2.2.data.toList).take m = enc p.2.2.size ++ p.2.2.data.toList.take (m - (enc p.2.2.size).length) := by
      rw [List.take_append, List.take_of_length_le (by unfold glen at hg; omega)]
    rw [ht] at h
    rw [List.length_append, hlen] at hm
    refine (rtext_cut R _ 1073741824 p.2.2.size (glen p.2.2.size) w h ?_ (getN_enc _ (by omega) _) (glen_pos _) (by omega) (by decide) ?_).mono ?_
    · rw [List.length_append, List.length_take, hlen]
      rw [List.length_append, hlen] at hn
      omega
    · rw [List.length_append, List.length_take, hlen]
      unfold glen at hg ⊢
      omega
    · rintro x w' ⟨rfl, hmv⟩
      exact ⟨_, _, rfl, hmv⟩
end Go.Proofs.YthnghgnoonfgiaaDoor
