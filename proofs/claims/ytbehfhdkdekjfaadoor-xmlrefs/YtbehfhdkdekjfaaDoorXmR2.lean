/- References to a number, in a text and in a value: what Parse makes of them. -/
import Derived.Test.YtbehfhdkdekjfaaDoorXmR1
namespace Go.Proofs.YtbehfhdkdekjfaaDoor
set_option maxRecDepth 100000

structure RB (n : Nat) (rb : L8) : Prop where
  ref : ∀ t, refL (rb ++ t) = (if okSign n then some n else none).map fun k => (k, t)
  asc : ∀ c ∈ rb, c.toNat < 128 ∧ okSign c.toNat = true
  len : rb.length ≤ 100
theorem asc_small (l : L8) (h : l.all (fun c => decide (c.toNat < 128) && okSign c.toNat) = true) : ∀ c ∈ l, c.toNat < 128 ∧ okSign c.toNat = true := by
  intro c hc
  have := List.all_eq_true.1 h c hc
  simpa using this
theorem RB.text {n : Nat} {rb : L8} (h : RB n rb) : parseX (60 :: 97 :: 62 :: 38 :: (rb ++ [60, 47, 97, 62])) = if okSign n then .ok [nodeA 2, ⟨[], encS n, [], 0, 1, 2⟩] else .error 11 := by
  have hl := h.len
  have hc : checkL (60 :: 97 :: 62 :: 38 :: (rb ++ [60, 47, 97, 62])).length (60 :: 97 :: 62 :: 38 :: (rb ++ [60, 47, 97, 62])) = 0 := by
    refine check_ascii _ _ fun c hc => ?_
    have hc2 : c ∈ ([60, 97, 62, 38] : L8) ++ (rb ++ [60, 47, 97, 62]) := hc
    rcases List.mem_append.1 hc2 with hc | hc
    · exact asc_small [60, 97, 62, 38] (by decide) c hc
    · rcases List.mem_append.1 hc with hc | hc
      · exact h.asc c hc
      · exact asc_small [60, 47, 97, 62] (by decide) c hc
  unfold parseX
  rw [if_neg (by simp; omega), if_neg (by rw [hc]; simp), text_ref rb _ (h.ref _)]
  by_cases hk : okSign n = true
  · rw [if_pos hk, if_pos hk]; rfl
  · rw [if_neg hk, if_neg hk]; rfl
theorem RB.attr {n : Nat} {rb : L8} (h : RB n rb) : parseX (60 :: 97 :: 32 :: 98 :: 61 :: 34 :: 38 :: (rb ++ [34, 47, 62])) = if okSign n then .ok [⟨[97], [], [([98], encS n)], -1, 0, 1⟩] else .error 11 := by
  have hl := h.len
  have hc : checkL (60 :: 97 :: 32 :: 98 :: 61 :: 34 :: 38 :: (rb ++ [34, 47, 62])).length (60 :: 97 :: 32 :: 98 :: 61 :: 34 :: 38 :: (rb ++ [34, 47, 62])) = 0 := by
    refine check_ascii _ _ fun c hc => ?_
    have hc2 : c ∈ ([60, 97, 32, 98, 61, 34, 38] : L8) ++ (rb ++ [34, 47, 62]) := hc
    rcases List.mem_append.1 hc2 with hc | hc
    · exact asc_small [60, 97, 32, 98, 61, 34, 38] (by decide) c hc
    · rcases List.mem_append.1 hc with hc | hc
      · exact h.asc c hc
      · exact asc_small [34, 47, 62] (by decide) c hc
  unfold parseX
  rw [if_neg (by simp; omega), if_neg (by rw [hc]; simp), attr_ref rb _ (h.ref _)]
  by_cases hk : okSign n = true
  · rw [if_pos hk, if_pos hk]; rfl
  · rw [if_neg hk, if_neg hk]; rfl
theorem dec_dg (n : Nat) : ∀ u, u ≤ n → ∀ c ∈ Lib.decDigits u, isDg c := by
  have one : ∀ d, d < 10 → isDg (UInt8.ofNat (48 + d)) := fun d h => by
    unfold isDg
    rw [UInt8.toNat_ofNat']
    omega
  induction n with
  | zero =>
    intro u hu c hc
    obtain rfl : u = 0 := by omega
    rw [Lib.decDigits_one (by omega)] at hc
    rw [List.mem_singleton.1 hc]; exact one 0 (by omega)
  | succ n ih =>
    intro u hu c hc
    by_cases h : u < 10
    · rw [Lib.decDigits_one h] at hc
      rw [List.mem_singleton.1 hc]; exact one u h
    · rw [Lib.decDigits, dif_neg h] at hc
      rcases List.mem_append.1 hc with hc | hc
      · exact ih (u / 10) (by omega) c hc
      · rw [List.mem_singleton.1 hc]; exact one _ (by omega)
theorem dec_len (f : Nat) : ∀ u, u < 10 ^ (f + 1) → 1 ≤ (Lib.decDigits u).length ∧ (Lib.decDigits u).length ≤ f + 1 := by
  induction f with
  | zero => intro u hu; rw [Lib.decDigits_one (by simpa using hu)]; simp
  | succ f ih =>
    intro u hu
    by_cases h : u < 10
    · rw [Lib.decDigits_one h]; simp
    · rw [Lib.decDigits, dif_neg h, List.length_append]
      have := ih (u / 10) (by rw [Nat.pow_succ] at hu; omega)
      simp
      omega
theorem hex_dg (g : UInt8 → UInt8) (hg : ∀ d, d < 16 → isDg (g (hexC d))) (f : Nat) : ∀ u, u < 16 ^ (f + 1) → ∀ c ∈ (hexD f u).map g, isDg c := by
  have one : ∀ f u, u < 16 → ∀ c ∈ (hexD f u).map g, isDg c := fun f u h c hc => by
    rw [hexD_small f u h] at hc
    rw [List.mem_singleton.1 hc]; exact hg u h
  induction f with
  | zero => intro u hu; exact one 0 u (by simpa using hu)
  | succ f ih =>
    intro u hu c hc
    by_cases h : u < 16
    · exact one _ u h c hc
    · rw [hexD_great f u h, List.map_append] at hc
      rcases List.mem_append.1 hc with hc | hc
      · exact ih (u / 16) (by rw [Nat.pow_succ] at hu; omega) c hc
      · rw [List.mem_singleton.1 hc]; exact hg _ (by omega)
theorem zero_dg (z : Nat) : ∀ c ∈ List.replicate z (48 : UInt8), isDg c := by
  intro c hc
  rw [(List.mem_replicate.1 hc).2]
  exact .inl ⟨by decide, by decide⟩
theorem RB.of (pre : L8) (base n z : Nat) (ds : L8) (hb : 0 < base) (hz : z ≤ 7) (hne : ds ≠ []) (hl : ds.length ≤ 10) (hdg : ∀ c ∈ ds, isDg c) (hnum : numG base ds 0 = lim n) (hpre : pre.length ≤ 2 ∧ ∀ c ∈ pre, c.toNat < 128 ∧ okSign c.toNat = true)
    (href : ∀ d t, d ≠ [] → (∀ c ∈ d, isDg c) → refL (pre ++ (d ++ 59 :: t)) = (refN base d).map fun k => (k, t)) : RB n (pre ++ ((List.replicate z 48 ++ ds) ++ [59])) := by
  have hdd : ∀ c ∈ List.replicate z (48 : UInt8) ++ ds, isDg c := fun c hc => by
    rcases List.mem_append.1 hc with hc | hc
    · exact zero_dg z c hc
    · exact hdg c hc
  have hdn : List.replicate z (48 : UInt8) ++ ds ≠ [] := by simp [hne]
  refine ⟨fun t => ?_, fun c hc => ?_, ?_⟩
  · rw [List.append_assoc, List.append_assoc]
    show refL (pre ++ ((List.replicate z 48 ++ ds) ++ 59 :: t)) = _
    rw [href _ t hdn hdd, ref_lim base n _ hdn (by rw [numG_zeros base hb]; exact hnum)]
  · rcases List.mem_append.1 hc with hc | hc
    · exact hpre.2 c hc
    · rcases List.mem_append.1 hc with hc | hc
      · exact (dg_ok c (hdd c hc)).1
      · rw [List.mem_singleton.1 hc]; decide
  · have := hpre.1
    simp
    omega
theorem no59 (d : L8) (h : ∀ c ∈ d, isDg c) : (59 : UInt8) ∉ d := fun e => (dg_ok 59 (h 59 e)).2.1 rfl
theorem RB.dec (n z : Nat) (hn : n < 4294967296) (hz : z ≤ 7) : RB n ([35] ++ ((List.replicate z 48 ++ Lib.decDigits n) ++ [59])) := by
  have hl := dec_len 9 n (by omega)
  refine RB.of [35] 10 n z _ (by omega) hz (fun e => by rw [e] at hl; simp at hl) hl.2 (dec_dg n n (Nat.le_refl _)) (num10 n n (Nat.le_refl _)) ⟨by decide, asc_small [35] (by decide)⟩ fun d t hd hdg => ?_
  cases d with
  | nil => exact absurd rfl hd
  | cons c d => exact ref10 c d t (dg_ok c (hdg c (by simp))).2.2 (no59 _ hdg)
def hexM (up : Bool) (n : Nat) : L8 := if up then (hexD 7 n).map upC else hexD 7 n
theorem hexDg_all : ∀ i : Fin 16, ((48 ≤ (hexC i.val).toNat ∧ (hexC i.val).toNat ≤ 57) ∨ (97 ≤ (hexC i.val).toNat ∧ (hexC i.val).toNat ≤ 102)) ∧ ((48 ≤ (upC (hexC i.val)).toNat ∧ (upC (hexC i.val)).toNat ≤ 57) ∨ (65 ≤ (upC (hexC i.val)).toNat ∧ (upC (hexC i.val)).toNat ≤ 70)) := by decide
theorem RB.hex (up : Bool) (n z : Nat) (hn : n < 4294967296) (hz : z ≤ 7) : RB n ([35, 120] ++ ((List.replicate z 48 ++ hexM up n) ++ [59])) := by
  have hl := hexD_len 7 n
  have key : ∀ g : UInt8 → UInt8, (∀ d, d < 16 → digV 16 (g (hexC d)) = some d) → (∀ d, d < 16 → isDg (g (hexC d))) → RB n ([35, 120] ++ ((List.replicate z 48 ++ (hexD 7 n).map g) ++ [59])) := fun g h1 h2 => by
    have hmn : (hexD 7 n).map g ≠ [] := by
      intro e
      have h0 : (hexD 7 n).length = 0 := by rw [← List.length_map (f := g), e]; rfl
      omega
    refine RB.of [35, 120] 16 n z _ (by omega) hz hmn (by rw [List.length_map]; omega) (hex_dg g h2 7 n (by omega)) (num16 g h1 7 n (by omega)) ⟨by decide, asc_small [35, 120] (by decide)⟩ fun d t hd hdg => ?_
    exact ref16 d t (no59 _ hdg)
  cases up
  · have := key id (fun d h => (hexC_all ⟨d, h⟩).1) (fun d h => by have := (hexDg_all ⟨d, h⟩).1; exact this.elim .inl fun h => .inr (.inl h))
    rw [List.map_id] at this
    exact this
  · exact key upC (fun d h => (hexC_all ⟨d, h⟩).2) (fun d h => by have := (hexDg_all ⟨d, h⟩).2; exact this.elim .inl fun h => .inr (.inr h))
/-- The law's own word for the signs that may be. -/
theorem ok_law (n : Nat) : okSign n = (n == 9 || n == 10 || n == 13 || (decide (32 ≤ n) && decide (n < 55296)) || (decide (57344 ≤ n) && decide (n ≤ 1114111) && n != 65534 && n != 65535)) := by
  unfold okSign
  by_cases h1 : n = 9
  · subst h1; rfl
  by_cases h2 : n = 10
  · subst h2; rfl
  by_cases h3 : n = 13
  · subst h3; rfl
  have hs : decide (isSign n) = (decide (n < 55296) || (decide (57344 ≤ n) && decide (n ≤ 1114111))) := by
    by_cases h : isSign n
    · rw [decide_eq_true h]
      unfold isSign at h
      by_cases h5 : n < 55296
      · simp [h5]
      · have h6 : 57344 ≤ n := by omega
        simp [h6, h.1]
    · rw [decide_eq_false h]
      unfold isSign at h
      have h5 : ¬ n < 55296 := by omega
      by_cases h6 : 57344 ≤ n
      · have h7 : ¬ n ≤ 1114111 := by omega
        simp [h5, h7]
      · simp [h5, h6]
  rw [hs]
  by_cases h4 : 32 ≤ n
  · by_cases h5 : n < 55296
    · have h8 : n ≠ 65534 := by omega
      have h9 : n ≠ 65535 := by omega
      simp [h4, h5, h8, h9]
    · simp [h4, h5]
  · have h6 : ¬ 57344 ≤ n := by omega
    simp [h4, h6]
end Go.Proofs.YtbehfhdkdekjfaaDoor
