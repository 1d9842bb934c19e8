/- Stems by the page, as plain functions on lists of bytes; what the steps keep. No Go in sight. -/
import Derived.WalkKit
import Derived.Lib.Strings
import Derived.Lib.IndexAny
import Derived.Lib.LastIndexByte
namespace Go.Proofs.YtjeccmmhmdgdgaaGreatDoor.St
set_option maxRecDepth 100000

def strOf (l : List UInt8) : ByteArray := ⟨l.toArray⟩
def isV (c : UInt8) : Bool := c == 97 || c == 101 || c == 105 || c == 111 || c == 117
def vow (c : UInt8) (first before : Bool) : Bool := isV c || (c == 121 && (!first && !before))
/-- One letter on: is it the first one, is the one ahead a vowel, what has been measured so far. -/
def vst (s : Bool × Bool × Nat) (c : UInt8) : Bool × Bool × Nat := (false, vow c s.1 s.2.1, if s.2.1 && !(vow c s.1 s.2.1) then s.2.2 + 1 else s.2.2)
def vfold (l : List UInt8) : Bool × Bool × Nat := l.foldl vst (true, false, 0)
/-- Is the last letter a vowel? -/
def openL (l : List UInt8) : Bool := (vfold l).2.1
/-- What a word measures. -/
def measL (l : List UInt8) : Nat := (vfold l).2.2
theorem vfold_snoc (l : List UInt8) (c : UInt8) : vfold (l ++ [c]) = vst (vfold l) c := by unfold vfold; rw [List.foldl_append]; rfl
theorem vfold_first (l : List UInt8) : (vfold l).1 = l.isEmpty := by
  rcases List.eq_nil_or_concat l with rfl | ⟨t, c, rfl⟩
  · rfl
  · rw [List.concat_eq_append, vfold_snoc]; simp [vst]
theorem openL_snoc (l : List UInt8) (c : UInt8) : openL (l ++ [c]) = vow c l.isEmpty (openL l) := by unfold openL; rw [vfold_snoc]; simp only [vst, vfold_first]
theorem measL_snoc (l : List UInt8) (c : UInt8) : measL (l ++ [c]) = if openL l && !openL (l ++ [c]) then measL l + 1 else measL l := by
  rw [openL_snoc]; unfold measL openL; rw [vfold_snoc]; simp only [vst, vfold_first]
theorem snoc_ind {p : List UInt8 → Prop} (h0 : p []) (h1 : ∀ l c, p l → p (l ++ [c])) : ∀ l, p l := by
  intro l
  rw [← List.reverse_reverse l]
  induction l.reverse with
  | nil => exact h0
  | cons c t ih => rw [List.reverse_cons]; exact h1 _ c ih
theorem measL_half (l : List UInt8) : 2 * measL l + (if openL l then 1 else 0) ≤ l.length := by
  induction l using snoc_ind with
  | h0 => decide
  | h1 l c ih => 
    rw [measL_snoc, List.length_append, List.length_singleton]
    generalize openL (l ++ [c]) = b at *
    generalize openL l = a at *
    cases a <;> cases b <;> simp at ih ⊢ <;> omega
theorem measL_le (l : List UInt8) : measL l ≤ l.length := by have := measL_half l; omega

def suf (l p : List UInt8) : Bool := Lib.hasSuffix l p
def cutL (l : List UInt8) (n : Nat) : List UInt8 := l.take (l.length - n)
def hasV (l : List UInt8) : Bool := Lib.containsAny l [97, 101, 105, 111, 117] || decide (0 < Lib.lastIndexByte (strOf l) 121)
def lastL (l : List UInt8) (k : Nat) : UInt8 := l[l.length - k]?.getD 0
def shortL (l : List UInt8) : Bool := decide (3 ≤ l.length) && !decide (0 ≤ Lib.indexByte [119, 120, 121] (lastL l 1)) && (!openL (cutL l 2) && openL (cutL l 1) && !openL l)
def smallL (l : List UInt8) : Bool := l.all fun c => decide (97 ≤ c.toNat) && decide (c.toNat ≤ 122)
def dblL (l : List UInt8) : Bool := decide (2 ≤ l.length) && (lastL l 1 == lastL l 2) && !decide (0 ≤ Lib.indexByte [108, 115, 122] (lastL l 1)) && !openL l

def st1a (l : List UInt8) : List UInt8 :=
  if suf l [115, 115, 101, 115] || suf l [105, 101, 115] then cutL l 2 else if suf l [115] && !suf l [115, 115] then cutL l 1 else l
def mendL (l : List UInt8) : List UInt8 :=
  if suf l [97, 116] || suf l [98, 108] || suf l [105, 122] then l ++ [101] else if dblL l then cutL l 1 else if measL l == 1 && shortL l then l ++ [101] else l
def st1b (l : List UInt8) : List UInt8 :=
  if suf l [101, 101, 100] then (if 0 < measL (cutL l 3) then cutL l 3 ++ [101, 101] else l)
  else if suf l [101, 100] then (if hasV (cutL l 2) then mendL (cutL l 2) else l)
  else if suf l [105, 110, 103] then (if hasV (cutL l 3) then mendL (cutL l 3) else l) else l
def st1c (l : List UInt8) : List UInt8 := if suf l [121] && hasV (cutL l 1) then cutL l 1 ++ [105] else l
def chg (l : List UInt8) (above : Nat) : List (List UInt8 × List UInt8) → List UInt8
  | [] => l
  | (a, b) :: t => if suf l a then (if above < measL (cutL l a.length) then cutL l a.length ++ b else l) else chg l above t
def list2 : List (List UInt8 × List UInt8) := [
  ([97, 116, 105, 111, 110, 97, 108], [97, 116, 101]), ([116, 105, 111, 110, 97, 108], [116, 105, 111, 110]), ([101, 110, 99, 105], [101, 110, 99, 101]), ([97, 110, 99, 105], [97, 110, 99, 101]), ([105, 122, 101, 114], [105, 122, 101]),
  ([97, 98, 108, 105], [97, 98, 108, 101]), ([97, 108, 108, 105], [97, 108]), ([101, 110, 116, 108, 105], [101, 110, 116]), ([101, 108, 105], [101]), ([111, 117, 115, 108, 105], [111, 117, 115]),
  ([105, 122, 97, 116, 105, 111, 110], [105, 122, 101]), ([97, 116, 105, 111, 110], [97, 116, 101]), ([97, 116, 111, 114], [97, 116, 101]), ([97, 108, 105, 115, 109], [97, 108]), ([105, 118, 101, 110, 101, 115, 115], [105, 118, 101]),
  ([102, 117, 108, 110, 101, 115, 115], [102, 117, 108]), ([111, 117, 115, 110, 101, 115, 115], [111, 117, 115]), ([97, 108, 105, 116, 105], [97, 108]), ([105, 118, 105, 116, 105], [105, 118, 101]), ([98, 105, 108, 105, 116, 105], [98, 108, 101])]
def list3 : List (List UInt8 × List UInt8) := [
  ([105, 99, 97, 116, 101], [105, 99]), ([97, 116, 105, 118, 101], []), ([97, 108, 105, 122, 101], [97, 108]), ([105, 99, 105, 116, 105], [105, 99]), ([105, 99, 97, 108], [105, 99]), ([102, 117, 108], []), ([110, 101, 115, 115], [])]
def list4 : List (List UInt8 × List UInt8) := [
  ([97, 108], []), ([97, 110, 99, 101], []), ([101, 110, 99, 101], []), ([101, 114], []), ([105, 99], []), ([97, 98, 108, 101], []), ([105, 98, 108, 101], []), ([97, 110, 116], []),
  ([101, 109, 101, 110, 116], []), ([109, 101, 110, 116], []), ([101, 110, 116], []), ([111, 117], []), ([105, 115, 109], []), ([97, 116, 101], []), ([105, 116, 105], []), ([111, 117, 115], []),
  ([105, 118, 101], []), ([105, 122, 101], [])]
def st4 (l : List UInt8) : List UInt8 :=
  if suf l [105, 111, 110] then (if decide (1 < measL (cutL l 3)) && (suf (cutL l 3) [115] || suf (cutL l 3) [116]) then cutL l 3 else l) else chg l 1 list4
def st5a (l : List UInt8) : List UInt8 := if suf l [101] && (decide (1 < measL (cutL l 1)) || (measL (cutL l 1) == 1 && !shortL (cutL l 1))) then cutL l 1 else l
def st5b (l : List UInt8) : List UInt8 := if suf l [108, 108] && decide (1 < measL (cutL l 1)) then cutL l 1 else l
def stems (l : List UInt8) : List UInt8 := st5b (st5a (st4 (chg (chg (st1c (st1b (st1a l))) 0 list2) 0 list3)))
def stemL (l : List UInt8) : List UInt8 := if decide (l.length < 3) || !smallL l then l else stems l

/-- What stays: the first letter; small letters alone; no longer. -/
def Fine (w l : List UInt8) : Prop := l.length ≤ w.length ∧ 0 < l.length ∧ l.head? = w.head? ∧ smallL l = true
theorem small_append (a b : List UInt8) (ha : smallL a = true) (hb : smallL b = true) : smallL (a ++ b) = true := by unfold smallL at *; rw [List.all_append, ha, hb]; rfl
theorem small_take (a : List UInt8) (k : Nat) (ha : smallL a = true) : smallL (a.take k) = true := by
  unfold smallL at *; rw [List.all_eq_true] at *; exact fun x hx => ha x (List.mem_of_mem_take hx)
theorem Fine.cut {w l : List UInt8} (h : Fine w l) (n : Nat) (e : List UInt8) (hp : 0 < (cutL l n).length) (he : e.length ≤ n) (hs : smallL e = true) : Fine w (cutL l n ++ e) := by
  obtain ⟨h1, h2, h3, h4⟩ := h
  unfold cutL at *
  rw [List.length_take] at hp
  refine ⟨by rw [List.length_append, List.length_take]; omega, by rw [List.length_append, List.length_take]; omega, ?_, small_append _ _ (small_take _ _ h4) hs⟩
  rw [← h3]
  cases l with
  | nil => simp at h2
  | cons c t =>
    obtain ⟨k, hk⟩ : ∃ k, (c :: t).length - n = k + 1 := ⟨(c :: t).length - n - 1, by omega⟩
    rw [hk]; rfl
theorem Fine.cut0 {w l : List UInt8} (h : Fine w l) (n : Nat) (hp : 0 < (cutL l n).length) : Fine w (cutL l n) := by simpa using h.cut n [] hp (by simp) rfl
theorem pos_of_meas {l : List UInt8} {k : Nat} (h : k < measL l) : 0 < l.length := by
  cases l with
  | nil => exact absurd h (by show ¬ k < 0; omega)
  | cons c t => simp
theorem pos_of_hasV {l : List UInt8} (h : hasV l = true) : 0 < l.length := by
  cases l with
  | nil => exact absurd h (by decide)
  | cons c t => simp
theorem suf_len {l p : List UInt8} (h : suf l p = true) : p.length ≤ l.length := by
  unfold suf Lib.hasSuffix at h
  exact (List.isSuffixOf_iff_suffix.1 h).length_le
theorem cut_len (l : List UInt8) (n : Nat) : (cutL l n).length = l.length - n := by unfold cutL; rw [List.length_take]; omega
theorem fine_1a {w l : List UInt8} (h : Fine w l) (h3 : 3 ≤ l.length) : Fine w (st1a l) := by
  unfold st1a
  split
  · exact h.cut0 2 (by rw [cut_len]; omega)
  · split
    · exact h.cut0 1 (by rw [cut_len]; omega)
    · exact h
theorem fine_mend {w l : List UInt8} (h : Fine w l) (n : Nat) (hn : 2 ≤ n) (hp : 0 < (cutL l n).length) : Fine w (mendL (cutL l n)) := by
  unfold mendL
  split
  · exact h.cut n [101] hp (by simp; omega) rfl
  · split
    · rename_i hd
      refine (h.cut0 n hp).cut0 1 ?_
      unfold dblL at hd
      simp only [Bool.and_eq_true, decide_eq_true_eq] at hd
      rw [cut_len]; omega
    · split
      · exact h.cut n [101] hp (by simp; omega) rfl
      · exact h.cut0 n hp
theorem fine_1b {w l : List UInt8} (h : Fine w l) : Fine w (st1b l) := by
  unfold st1b
  split
  · split
    · rename_i hm; exact h.cut 3 [101, 101] (pos_of_meas hm) (by simp) rfl
    · exact h
  · split
    · split
      · rename_i hv; exact fine_mend h 2 (by omega) (pos_of_hasV hv)
      · exact h
    · split
      · split
        · rename_i hv; exact fine_mend h 3 (by omega) (pos_of_hasV hv)
        · exact h
      · exact h
theorem fine_1c {w l : List UInt8} (h : Fine w l) : Fine w (st1c l) := by
  unfold st1c
  split
  · rename_i hv
    rw [Bool.and_eq_true] at hv
    exact h.cut 1 [105] (pos_of_hasV hv.2) (by simp) rfl
  · exact h
theorem fine_chg {w l : List UInt8} (h : Fine w l) (k : Nat) : ∀ (cs : List (List UInt8 × List UInt8)), (∀ x ∈ cs, x.2.length ≤ x.1.length ∧ smallL x.2 = true) → Fine w (chg l k cs)
  | [], _ => h
  | (a, b) :: t, hc => by
    unfold chg
    split
    · split
      · rename_i hm
        obtain ⟨h1, h2⟩ := hc (a, b) (by simp)
        exact h.cut a.length b (pos_of_meas hm) h1 h2
      · exact h
    · exact fine_chg h k t fun x hx => hc x (by simp [hx])
theorem fine_4 {w l : List UInt8} (h : Fine w l) : Fine w (st4 l) := by
  unfold st4
  split
  · split
    · rename_i hm
      simp only [Bool.and_eq_true, decide_eq_true_eq] at hm
      exact h.cut0 3 (pos_of_meas hm.1)
    · exact h
  · exact fine_chg h 1 list4 (by decide)
theorem fine_5a {w l : List UInt8} (h : Fine w l) : Fine w (st5a l) := by
  unfold st5a
  split
  · rename_i hm
    simp only [Bool.and_eq_true, Bool.or_eq_true, decide_eq_true_eq, beq_iff_eq] at hm
    refine h.cut0 1 ?_
    rcases hm.2 with hm | hm
    · exact pos_of_meas hm
    · exact pos_of_meas (k := 0) (by omega)
  · exact h
theorem fine_5b {w l : List UInt8} (h : Fine w l) : Fine w (st5b l) := by
  unfold st5b
  split
  · rename_i hm
    simp only [Bool.and_eq_true, decide_eq_true_eq] at hm
    exact h.cut0 1 (pos_of_meas hm.2)
  · exact h
theorem fine_2 {w l : List UInt8} (h : Fine w l) : Fine w (chg l 0 list2) := fine_chg h 0 list2 (by decide)
theorem fine_3 {w l : List UInt8} (h : Fine w l) : Fine w (chg l 0 list3) := fine_chg h 0 list3 (by decide)
theorem Fine.refl {l : List UInt8} (h3 : 3 ≤ l.length) (hs : smallL l = true) : Fine l l := ⟨Nat.le_refl _, by omega, rfl, hs⟩
theorem fine_stems {l : List UInt8} (h3 : 3 ≤ l.length) (hs : smallL l = true) : Fine l (stems l) :=
  fine_5b (fine_5a (fine_4 (fine_3 (fine_2 (fine_1c (fine_1b (fine_1a (Fine.refl h3 hs) h3)))))))
/-- A word's plural, where the end says just that. -/
theorem suf_snoc1 (l : List UInt8) (c d : UInt8) : suf (l ++ [c]) [d] = (c == d) := by
  unfold suf Lib.hasSuffix
  rw [Bool.eq_iff_iff, List.isSuffixOf_iff_suffix, beq_iff_eq]
  constructor
  · intro h
    obtain ⟨t, ht⟩ := h
    exact ((List.append_inj' ht rfl).2 ▸ rfl : [c] = [d]) |> fun e => by simpa using e
  · rintro rfl; exact ⟨l, rfl⟩
end Go.Proofs.YtjeccmmhmdgdgaaGreatDoor.St
