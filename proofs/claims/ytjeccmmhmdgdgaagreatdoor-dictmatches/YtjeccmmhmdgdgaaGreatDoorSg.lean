/- Signs and their bytes (UTF-8): plain functions and their laws. No Go in sight. -/
import Derived.WalkKit
import Derived.Lib.DecodeN
import Derived.Lib.RuneBytes
import Derived.Lib.ValidU
import Derived.Lib.RuneCountTail
import Derived.Shelf.Unicode.DecodeSlow
namespace Go.Proofs.YtjeccmmhmdgdgaaGreatDoor
open Go.Lib
set_option maxRecDepth 100000

def isSign (r : Nat) : Prop := r ≤ 1114111 ∧ ¬ (55296 ≤ r ∧ r ≤ 57343)
instance (r : Nat) : Decidable (isSign r) := by unfold isSign; exact inferInstance
/-- A sign's bytes, by the page. -/
def encS (r : Nat) : List UInt8 :=
  if r < 128 then [UInt8.ofNat r]
  else if r < 2048 then [UInt8.ofNat (192 + r / 64), UInt8.ofNat (128 + r % 64)]
  else if r < 65536 then [UInt8.ofNat (224 + r / 4096), UInt8.ofNat (128 + r / 64 % 64), UInt8.ofNat (128 + r % 64)]
  else [UInt8.ofNat (240 + r / 262144), UInt8.ofNat (128 + r / 4096 % 64), UInt8.ofNat (128 + r / 64 % 64), UInt8.ofNat (128 + r % 64)]
def bt (l : List UInt8) (i : Nat) : Nat := (l[i]?.getD 0).toNat
theorem bt_lt (l : List UInt8) (i : Nat) : bt l i < 256 := (l[i]?.getD 0).toNat_lt
/-- What the library tells of the beginning of a text. -/
def decL (l : List UInt8) : Nat × Nat := if l = [] then (65533, 0) else decodeN l.length (bt l 0) (bt l 1) (bt l 2) (bt l 3)
/-- Next, by the page. -/
def nextN (l : List UInt8) : Nat × Nat := if (decL l).1 = 65533 ∧ (decL l).2 < 2 then (0, 0) else decL l

theorem encS_len (r : Nat) : 1 ≤ (encS r).length ∧ (encS r).length ≤ 4 := by
  unfold encS; split <;> (try split) <;> (try split) <;> simp
theorem ofNat_toNat (x : Nat) (h : x < 256) : (UInt8.ofNat x).toNat = x := by rw [UInt8.toNat_ofNat']; omega

theorem get_bt (l : List UInt8) (i : Nat) : ((⟨l.toArray⟩ : ByteArray).get! i).toNat = bt l i := by
  unfold bt
  have h := getD_get!' (⟨l.toArray⟩ : ByteArray) i
  rw [← h, List.getD_eq_getElem?_getD]
theorem decodeGo_eq (l : List UInt8) : decodeGo ⟨l.toArray⟩ = decL l := by
  unfold decodeGo decL
  have hs : (⟨l.toArray⟩ : ByteArray).size = l.length := by simp [ByteArray.size]
  by_cases h : l = []
  · subst h; rfl
  · have hp : (⟨l.toArray⟩ : ByteArray).size ≠ 0 := by rw [hs]; intro e; exact h (List.eq_nil_of_length_eq_zero e)
    rw [if_neg hp, if_neg h, decode_at, hs, get_bt, get_bt, get_bt, get_bt]
    rfl
theorem decodeL_eq (l : List UInt8) (h : l ≠ []) : decodeL l = decL l := by
  unfold decodeL decL
  have hs : (⟨l.toArray⟩ : ByteArray).size = l.length := by simp [ByteArray.size]
  rw [if_neg h, decode_at, hs, get_bt, get_bt, get_bt, get_bt]
  rfl

theorem dec1 (n r b1 b2 b3 : Nat) (h : r < 128) : decodeN n r b1 b2 b3 = (r, 1) := by unfold decodeN; rw [if_pos h]
theorem dec2 (n r b2 b3 : Nat) (h : 128 ≤ r) (h' : r < 2048) (hn : 2 ≤ n) : decodeN n (192 + r / 64) (128 + r % 64) b2 b3 = (r, 2) := by
  unfold decodeN
  rw [if_neg (by omega), if_pos (by omega), if_pos (by omega)]
  congr 1; omega
theorem dec3 (n r b3 : Nat) (h : 2048 ≤ r) (h' : r < 65536) (hs : isSign r) (hn : 3 ≤ n) : decodeN n (224 + r / 4096) (128 + r / 64 % 64) (128 + r % 64) b3 = (r, 3) := by
  unfold isSign at hs
  unfold decodeN
  have e : (224 + r / 4096) % 16 * 4096 + (128 + r / 64 % 64) % 64 * 64 + (128 + r % 64) % 64 = r := by omega
  rw [if_neg (by omega), if_neg (by omega), if_pos (by omega), e, if_pos (by omega)]
theorem dec4 (n r : Nat) (h : 65536 ≤ r) (hs : isSign r) (hn : 4 ≤ n) : decodeN n (240 + r / 262144) (128 + r / 4096 % 64) (128 + r / 64 % 64) (128 + r % 64) = (r, 4) := by
  unfold isSign at hs
  unfold decodeN
  have e : (240 + r / 262144) % 8 * 262144 + (128 + r / 4096 % 64) % 64 * 4096 + (128 + r / 64 % 64) % 64 * 64 + (128 + r % 64) % 64 = r := by omega
  rw [if_neg (by omega), if_neg (by omega), if_neg (by omega), if_pos (by omega), e, if_pos (by omega)]
/-- A sign laid is read, whatever stands behind it. -/
theorem decL_enc (r : Nat) (hs : isSign r) (more : List UInt8) : decL (encS r ++ more) = (r, (encS r).length) := by
  have hs' := hs
  unfold isSign at hs'
  unfold decL
  rw [if_neg (by have h := encS_len r; intro e; have h' := congrArg List.length e; rw [List.length_append, List.length_nil] at h'; omega)]
  unfold encS
  by_cases h1 : r < 128
  · rw [if_pos h1]
    have b0 : bt ([UInt8.ofNat r] ++ more) 0 = r := by simp [bt]; omega
    rw [b0, dec1 _ _ _ _ _ h1]; rfl
  · by_cases h2 : r < 2048
    · rw [if_neg h1, if_pos h2]
      have b0 : bt ([UInt8.ofNat (192 + r / 64), UInt8.ofNat (128 + r % 64)] ++ more) 0 = 192 + r / 64 := by show (UInt8.ofNat (192 + r / 64)).toNat = _; exact ofNat_toNat _ (by omega)
      have b1 : bt ([UInt8.ofNat (192 + r / 64), UInt8.ofNat (128 + r % 64)] ++ more) 1 = 128 + r % 64 := by show (UInt8.ofNat (128 + r % 64)).toNat = _; exact ofNat_toNat _ (by omega)
      rw [b0, b1, dec2 _ _ _ _ (by omega) h2 (by simp)]; rfl
    · by_cases h3 : r < 65536
      · rw [if_neg h1, if_neg h2, if_pos h3]
        have b0 : bt ([UInt8.ofNat (224 + r / 4096), UInt8.ofNat (128 + r / 64 % 64), UInt8.ofNat (128 + r % 64)] ++ more) 0 = 224 + r / 4096 := by show (UInt8.ofNat (224 + r / 4096)).toNat = _; exact ofNat_toNat _ (by omega)
        have b1 : bt ([UInt8.ofNat (224 + r / 4096), UInt8.ofNat (128 + r / 64 % 64), UInt8.ofNat (128 + r % 64)] ++ more) 1 = 128 + r / 64 % 64 := by show (UInt8.ofNat (128 + r / 64 % 64)).toNat = _; exact ofNat_toNat _ (by omega)
        have b2 : bt ([UInt8.ofNat (224 + r / 4096), UInt8.ofNat (128 + r / 64 % 64), UInt8.ofNat (128 + r % 64)] ++ more) 2 = 128 + r % 64 := by show (UInt8.ofNat (128 + r % 64)).toNat = _; exact ofNat_toNat _ (by omega)
        rw [b0, b1, b2, dec3 _ _ _ (by omega) h3 hs (by simp)]; rfl
      · rw [if_neg h1, if_neg h2, if_neg h3]
        have b0 : bt ([UInt8.ofNat (240 + r / 262144), UInt8.ofNat (128 + r / 4096 % 64), UInt8.ofNat (128 + r / 64 % 64), UInt8.ofNat (128 + r % 64)] ++ more) 0 = 240 + r / 262144 := by show (UInt8.ofNat (240 + r / 262144)).toNat = _; exact ofNat_toNat _ (by omega)
        have b1 : bt ([UInt8.ofNat (240 + r / 262144), UInt8.ofNat (128 + r / 4096 % 64), UInt8.ofNat (128 + r / 64 % 64), UInt8.ofNat (128 + r % 64)] ++ more) 1 = 128 + r / 4096 % 64 := by show (UInt8.ofNat (128 + r / 4096 % 64)).toNat = _; exact ofNat_toNat _ (by omega)
        have b2 : bt ([UInt8.ofNat (240 + r / 262144), UInt8.ofNat (128 + r / 4096 % 64), UInt8.ofNat (128 + r / 64 % 64), UInt8.ofNat (128 + r % 64)] ++ more) 2 = 128 + r / 64 % 64 := by show (UInt8.ofNat (128 + r / 64 % 64)).toNat = _; exact ofNat_toNat _ (by omega)
        have b3 : bt ([UInt8.ofNat (240 + r / 262144), UInt8.ofNat (128 + r / 4096 % 64), UInt8.ofNat (128 + r / 64 % 64), UInt8.ofNat (128 + r % 64)] ++ more) 3 = 128 + r % 64 := by show (UInt8.ofNat (128 + r % 64)).toNat = _; exact ofNat_toNat _ (by omega)
        rw [b0, b1, b2, b3, dec4 _ _ (by omega) hs (by simp)]; rfl
theorem nextN_enc (r : Nat) (hs : isSign r) (more : List UInt8) : nextN (encS r ++ more) = (r, (encS r).length) := by
  unfold nextN
  rw [decL_enc r hs more, if_neg]
  rintro ⟨h, h2⟩
  simp only at h h2
  rw [h] at h2
  exact absurd h2 (by decide)

set_option maxHeartbeats 4000000 in
/-- What the library's answer says of the bytes. -/
theorem decN_cases (n b0 b1 b2 b3 r k : Nat) (h0 : b0 < 256) (h1 : b1 < 256) (_h2 : b2 < 256) (_h3 : b3 < 256) (hd : decodeN n b0 b1 b2 b3 = (r, k)) :
    (r = 65533 ∧ k = 1) ∨ (k = 1 ∧ r = b0 ∧ r < 128) ∨ (k = 2 ∧ 2 ≤ n ∧ 128 ≤ r ∧ r < 2048 ∧ b0 = 192 + r / 64 ∧ b1 = 128 + r % 64) ∨
      (k = 3 ∧ 3 ≤ n ∧ 2048 ≤ r ∧ r < 65536 ∧ ¬ (55296 ≤ r ∧ r ≤ 57343) ∧ b0 = 224 + r / 4096 ∧ b1 = 128 + r / 64 % 64 ∧ b2 = 128 + r % 64) ∨
      (k = 4 ∧ 4 ≤ n ∧ 65536 ≤ r ∧ r ≤ 1114111 ∧ b0 = 240 + r / 262144 ∧ b1 = 128 + r / 4096 % 64 ∧ b2 = 128 + r / 64 % 64 ∧ b3 = 128 + r % 64) := by
  unfold decodeN at hd
  by_cases c1 : b0 < 128
  · rw [if_pos c1] at hd; injection hd with e1 e2; omega
  · rw [if_neg c1] at hd
    by_cases c2 : b0 / 32 = 6 ∧ (1 < n ∧ b1 / 64 = 2)
    · rw [if_pos c2] at hd
      by_cases d : b0 % 32 * 64 + b1 % 64 ≥ 128
      · rw [if_pos d] at hd; injection hd with e1 e2; omega
      · rw [if_neg d] at hd; injection hd with e1 e2; omega
    · rw [if_neg c2] at hd
      by_cases c3 : b0 / 16 = 14 ∧ (1 < n ∧ b1 / 64 = 2) ∧ (2 < n ∧ b2 / 64 = 2)
      · rw [if_pos c3] at hd
        split at hd
        · injection hd with e1 e2; omega
        · injection hd with e1 e2; omega
      · rw [if_neg c3] at hd
        split at hd
        · split at hd
          · injection hd with e1 e2; omega
          · injection hd with e1 e2; omega
        · injection hd with e1 e2; omega
theorem bt_at (l : List UInt8) (i x : Nat) (hi : i < l.length) (h : bt l i = x) : l[i] = UInt8.ofNat x := by
  unfold bt at h
  rw [List.getElem?_eq_getElem hi] at h
  simp only [Option.getD_some] at h
  rw [← h]
  simp
/-- What is read is laid so. -/
theorem nextN_some (l : List UInt8) (r k : Nat) (h : nextN l = (r, k)) (hk : 0 < k) : isSign r ∧ k ≤ l.length ∧ l.take k = encS r := by
  unfold nextN at h
  by_cases c : (decL l).1 = 65533 ∧ (decL l).2 < 2
  · rw [if_pos c] at h; injection h with e1 e2; omega
  · rw [if_neg c] at h
    have hl : l ≠ [] := by rintro rfl; unfold decL at h; rw [if_pos rfl] at h; injection h with e1 e2; omega
    rw [h] at c
    simp only at c
    unfold decL at h
    rw [if_neg hl] at h
    have hp : 0 < l.length := List.length_pos_iff.2 hl
    rcases decN_cases _ _ _ _ _ r k (bt_lt _ _) (bt_lt _ _) (bt_lt _ _) (bt_lt _ _) h with ⟨a, b⟩ | ⟨a, b, d⟩ | ⟨a, b, d, e, f0, f1⟩ | ⟨a, b, d, e, g, f0, f1, f2⟩ | ⟨a, b, d, e, f0, f1, f2, f3⟩
    · omega
    · subst a
      refine ⟨by unfold isSign; omega, by omega, ?_⟩
      have e0 := bt_at l 0 r hp b.symm
      unfold encS
      rw [if_pos d, ← e0, List.take_succ_eq_append_getElem hp]
      rfl
    · subst a
      refine ⟨by unfold isSign; omega, by omega, ?_⟩
      have e0 := bt_at l 0 _ hp f0
      have e1 := bt_at l 1 _ (by omega) f1
      unfold encS
      rw [if_neg (by omega), if_pos e, ← e0, ← e1, List.take_succ_eq_append_getElem (by omega), List.take_succ_eq_append_getElem (by omega)]
      rfl
    · subst a
      refine ⟨by unfold isSign; omega, by omega, ?_⟩
      have e0 := bt_at l 0 _ hp f0
      have e1 := bt_at l 1 _ (by omega) f1
      have e2 := bt_at l 2 _ (by omega) f2
      unfold encS
      rw [if_neg (by omega), if_neg (by omega), if_pos e, ← e0, ← e1, ← e2, List.take_succ_eq_append_getElem (by omega), List.take_succ_eq_append_getElem (by omega), List.take_succ_eq_append_getElem (by omega)]
      rfl
    · subst a
      refine ⟨by unfold isSign; omega, by omega, ?_⟩
      have e0 := bt_at l 0 _ hp f0
      have e1 := bt_at l 1 _ (by omega) f1
      have e2 := bt_at l 2 _ (by omega) f2
      have e3 := bt_at l 3 _ (by omega) f3
      unfold encS
      rw [if_neg (by omega), if_neg (by omega), if_neg (by omega), ← e0, ← e1, ← e2, ← e3, List.take_succ_eq_append_getElem (by omega), List.take_succ_eq_append_getElem (by omega), List.take_succ_eq_append_getElem (by omega), List.take_succ_eq_append_getElem (by omega)]
      rfl
theorem nextN_zero (l : List UInt8) (r k : Nat) (h : nextN l = (r, k)) (hk : k = 0) : r = 0 ∧ (l = [] ∨ decL l = (65533, 1)) := by
  unfold nextN at h
  by_cases c : (decL l).1 = 65533 ∧ (decL l).2 < 2
  · rw [if_pos c] at h
    injection h with e1 e2
    refine ⟨e1.symm, ?_⟩
    by_cases hl : l = []
    · exact .inl hl
    · right
      obtain ⟨x, y, hd⟩ : ∃ x y, decL l = (x, y) := ⟨_, _, rfl⟩
      have hd' := hd
      rw [hd] at c
      unfold decL at hd
      rw [if_neg hl] at hd
      have := decN_cases _ _ _ _ _ x y (bt_lt _ _) (bt_lt _ _) (bt_lt _ _) (bt_lt _ _) hd
      simp only at c
      rw [hd']
      have : x = 65533 ∧ y = 1 := by omega
      rw [this.1, this.2]
  · rw [if_neg c] at h
    by_cases hl : l = []
    · subst hl; exact absurd ⟨rfl, by decide⟩ c
    · have hd := h
      unfold decL at hd
      rw [if_neg hl] at hd
      have := decN_cases _ _ _ _ _ r k (bt_lt _ _) (bt_lt _ _) (bt_lt _ _) (bt_lt _ _) hd
      omega
/-- Where none is read, no sign's bytes stand. -/
theorem nextN_none (l : List UInt8) (r : Nat) (h : nextN l = (r, 0)) (v k : Nat) (hv : isSign v) (e : encS v = l.take k) : False := by
  have hl := List.take_append_drop k l
  rw [← e] at hl
  have h2 := nextN_enc v hv (l.drop k)
  rw [hl, h] at h2
  injection h2 with _ h3
  have := encS_len v
  omega
/-- Right: signs alone. -/
theorem valid_nil : validD [] = true := rfl
theorem valid_bad (l : List UInt8) (hl : l ≠ []) (h : decL l = (65533, 1)) : validD l = false := by
  unfold validD
  obtain ⟨n, hn⟩ : ∃ n, l.length = n + 1 := ⟨l.length - 1, by have := List.length_pos_iff.2 hl; omega⟩
  rw [hn]
  unfold validGoD
  rw [if_neg hl, decodeL_eq l hl, h, if_pos ⟨rfl, rfl⟩]
end Go.Proofs.YtjeccmmhmdgdgaaGreatDoor
