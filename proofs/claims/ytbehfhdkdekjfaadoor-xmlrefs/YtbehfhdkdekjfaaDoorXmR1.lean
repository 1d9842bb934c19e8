/- References to numbers: what is plain in XmlRefs. -/
import Derived.Test.YtbehfhdkdekjfaaDoorXmPk
import Derived.Test.YtbehfhdkdekjfaaDoorXmFx
import Derived.Lib.ItoaNum
namespace Go.Proofs.YtbehfhdkdekjfaaDoor
set_option maxRecDepth 100000

theorem upL_semi (d t : L8) (h : (59 : UInt8) ∉ d) : upL [59] (d ++ 59 :: t) = some (d, t) := by
  induction d with
  | nil => show (if ([59] : L8).isPrefixOf (59 :: t) = true then _ else _) = _; rw [if_pos (by simp)]; rfl
  | cons c d ih =>
    have hc : c ≠ 59 := fun e => h (by rw [e]; simp)
    show (if ([59] : L8).isPrefixOf (c :: (d ++ 59 :: t)) = true then _ else _) = _
    rw [if_neg (by simp [List.isPrefixOf]; intro e; exact hc e.symm)]
    show Option.map _ (upL [59] (d ++ 59 :: t)) = _
    rw [ih (fun e => h (by simp [e]))]
    rfl
/-- What a number's digits come to: the sign, or none. -/
def refN (base : Nat) (d : L8) : Option Nat := match numX base d with | none => none | some n => if okSign n then some n else none
theorem number_eq (base : Nat) (d t : L8) (h : (59 : UInt8) ∉ d) : numberL base (d ++ 59 :: t) = (refN base d).map fun n => (n, t) := by
  unfold numberL refN
  rw [upL_semi d t h]
  simp only
  cases hx : numX base d with
  | none => rfl
  | some n =>
    show (if okSign n = true then some (n, t) else none) = Option.map _ (if okSign n = true then some n else none)
    by_cases hk : okSign n = true
    · rw [if_pos hk, if_pos hk]; rfl
    · rw [if_neg hk, if_neg hk]; rfl
theorem ref16 (d t : L8) (h : (59 : UInt8) ∉ d) : refL (35 :: 120 :: (d ++ 59 :: t)) = (refN 16 d).map fun n => (n, t) := by
  rw [← number_eq 16 d t h]; rfl
theorem ref10 (c : UInt8) (d t : L8) (hc : c ≠ 120) (h : (59 : UInt8) ∉ c :: d) : refL (35 :: ((c :: d) ++ 59 :: t)) = (refN 10 (c :: d)).map fun n => (n, t) := by
  rw [← number_eq 10 (c :: d) t h]
  have hp : ([35, 120] : L8).isPrefixOf (35 :: ((c :: d) ++ 59 :: t)) = false := by
    simp [List.isPrefixOf]; intro e; exact hc e.symm
  have ht : tk [35, 120] (35 :: ((c :: d) ++ 59 :: t)) = none := by unfold tk; rw [hp]; rfl
  unfold refL
  rw [ht]
  rfl
/-- The reader behind <a>. -/
def nodeA (f : Int) : Nd := ⟨[97], [], [], -1, 0, f⟩
theorem tail_a (x : L8) (hx : x ≠ []) (f : Nat) : partsS (f + 2) { rest := [60, 47, 97, 62], nodes := [nodeA 1], opn := [0], text := x } = .ok { rest := [], nodes := [nodeA 2, ⟨[], x, [], 0, 1, 2⟩], opn := [], text := [] } := by
  have h1 : endText { rest := [60, 47, 97, 62], nodes := [nodeA 1], opn := [0], text := x } = { rest := [60, 47, 97, 62], nodes := [nodeA 1, ⟨[], x, [], 0, 1, 2⟩], opn := [0], text := [] } := by
    unfold endText; rw [if_neg hx]; rfl
  have h2 : partS { rest := [60, 47, 97, 62], nodes := [nodeA 1], opn := [0], text := x } = .ok { rest := [], nodes := [nodeA 2, ⟨[], x, [], 0, 1, 2⟩], opn := [], text := [] } := by
    show markS (endText { rest := [60, 47, 97, 62], nodes := [nodeA 1], opn := [0], text := x }) = _
    rw [h1]
    rfl
  rw [partsS, if_neg (by simp), h2]
  rfl
theorem doc_a (l : L8) : docL (60 :: 97 :: 62 :: l) = bodyL { rest := l, nodes := [nodeA 1], opn := [0], text := [] } := by
  have hb := begin_open (st0 (97 :: 62 :: l)) 97 l (name_a l) rfl (by simp [st0]) (by simp [st0])
  rw [doc_eq]
  have h1 : headingL (60 :: 97 :: 62 :: l) = some (60 :: 97 :: 62 :: l) := rfl
  have h3 : betweenL ((60 :: 97 :: 62 :: l).length + 1) (60 :: 97 :: 62 :: l) = some (60 :: 97 :: 62 :: l) := rfl
  rw [h1]
  simp only
  rw [h3]
  show (match beginS (st0 (97 :: 62 :: l)) with | .error e => Except.error e | .ok s => bodyL s) = _
  rw [hb]
  rfl
/-- A reference in a text. -/
theorem text_ref (rb : L8) (o : Option Nat) (h : refL (rb ++ [60, 47, 97, 62]) = o.map fun n => (n, [60, 47, 97, 62])) :
    docL (60 :: 97 :: 62 :: 38 :: (rb ++ [60, 47, 97, 62])) = o.elim (.error 11) fun n => .ok [nodeA 2, ⟨[], encS n, [], 0, 1, 2⟩] := by
  rw [doc_a]
  unfold bodyL
  have hp : partS { rest := 38 :: (rb ++ [60, 47, 97, 62]), nodes := [nodeA 1], opn := [0], text := [] } = (match refL (rb ++ [60, 47, 97, 62]) with | none => .error 11 | some (n, r) => goOn { rest := r, nodes := [nodeA 1], opn := [0], text := [] } (encS n)) := rfl
  cases o with
  | none =>
    rw [h] at hp
    rw [partsS, if_neg (by simp), hp]
    rfl
  | some n =>
    rw [h] at hp
    have hne : encS n ≠ [] := fun e => by have := (encS_len n).1; rw [e] at this; simp at this
    have hg : goOn { rest := [60, 47, 97, 62], nodes := [nodeA 1], opn := [0], text := [] } (encS n) = .ok { rest := [60, 47, 97, 62], nodes := [nodeA 1], opn := [0], text := encS n } := by
      unfold goOn; rw [if_neg (fun h => absurd h.2 (by decide))]; rfl
    have hp2 : partS { rest := 38 :: (rb ++ [60, 47, 97, 62]), nodes := [nodeA 1], opn := [0], text := [] } = .ok { rest := [60, 47, 97, 62], nodes := [nodeA 1], opn := [0], text := encS n } := hp.trans hg
    have hl : (38 :: (rb ++ [60, 47, 97, 62])).length + 1 = (rb.length + 3) + 2 + 1 := by simp
    show (match partsS ((38 :: (rb ++ [60, 47, 97, 62])).length + 1) _ with | .error e => Except.error e | .ok s => lastL s) = _
    rw [hl, partsS, if_neg (by simp), hp2]
    simp only
    rw [tail_a _ hne]
    rfl
theorem val_ref (rb : L8) (o : Option Nat) (f : Nat) (h : refL (rb ++ [34, 47, 62]) = o.map fun n => (n, [34, 47, 62])) :
    valL 34 (f + 2) (38 :: (rb ++ [34, 47, 62])) [] = o.map fun n => (encS n, [47, 62]) := by
  have h1 : valL 34 (f + 2) (38 :: (rb ++ [34, 47, 62])) [] = (match refL (rb ++ [34, 47, 62]) with | none => none | some (n, r) => valL 34 (f + 1) r ([] ++ encS n)) := rfl
  rw [h1, h]
  cases o with
  | none => rfl
  | some n =>
    show valL 34 (f + 1) [34, 47, 62] ([] ++ encS n) = some (encS n, [47, 62])
    rw [List.nil_append]
    rfl
/-- A reference in a value. -/
theorem attr_ref (rb : L8) (o : Option Nat) (h : refL (rb ++ [34, 47, 62]) = o.map fun n => (n, [34, 47, 62])) :
    docL (60 :: 97 :: 32 :: 98 :: 61 :: 34 :: 38 :: (rb ++ [34, 47, 62])) = o.elim (.error 11) fun n => .ok [⟨[97], [], [([98], encS n)], -1, 0, 1⟩] := by
  have hn : nameL (97 :: 32 :: 98 :: 61 :: 34 :: 38 :: (rb ++ [34, 47, 62])) = ([97], 32 :: 98 :: 61 :: 34 :: 38 :: (rb ++ [34, 47, 62])) := rfl
  have ha : attrL (98 :: 61 :: 34 :: 38 :: (rb ++ [34, 47, 62])) = (valL 34 ((38 :: (rb ++ [34, 47, 62])).length + 1) (38 :: (rb ++ [34, 47, 62])) []).map fun x => (([98], x.1), x.2) := rfl
  have hl : (38 :: (rb ++ [34, 47, 62])).length + 1 = (rb.length + 3) + 2 := by simp
  rw [hl, val_ref rb o _ h] at ha
  have hat : ∀ g, attrsL (g + 2) (32 :: 98 :: 61 :: 34 :: 38 :: (rb ++ [34, 47, 62])) [] = o.map fun n => ([([98], encS n)], [47, 62]) := fun g => by
    have h1 : attrsL (g + 2) (32 :: 98 :: 61 :: 34 :: 38 :: (rb ++ [34, 47, 62])) [] = (match attrL (98 :: 61 :: 34 :: 38 :: (rb ++ [34, 47, 62])) with | none => none | some (a, r) => if ([] : List At).any (fun b => b.1 == a.1) then none else attrsL (g + 1) r ([] ++ [a])) := rfl
    rw [h1, ha]
    cases o with
    | none => rfl
    | some n => rfl
  have hb : beginS (st0 (97 :: 32 :: 98 :: 61 :: 34 :: 38 :: (rb ++ [34, 47, 62]))) = (match o with | none => .error 11 | some n => .ok { rest := [], nodes := [⟨[97], [], [([98], encS n)], -1, 0, 1⟩], opn := [], text := [] }) := by
    unfold beginS
    rw [show (st0 (97 :: 32 :: 98 :: 61 :: 34 :: 38 :: (rb ++ [34, 47, 62]))).rest = 97 :: 32 :: 98 :: 61 :: 34 :: 38 :: (rb ++ [34, 47, 62]) from rfl, hn]
    simp only
    rw [if_neg (by simp), show (32 :: 98 :: 61 :: 34 :: 38 :: (rb ++ [34, 47, 62])).length + 1 = (rb.length + 7) + 2 by simp, hat]
    cases o with
    | none => rfl
    | some n => rfl
  rw [doc_eq]
  have h1 : headingL (60 :: 97 :: 32 :: 98 :: 61 :: 34 :: 38 :: (rb ++ [34, 47, 62])) = some (60 :: 97 :: 32 :: 98 :: 61 :: 34 :: 38 :: (rb ++ [34, 47, 62])) := rfl
  have h3 : betweenL ((60 :: 97 :: 32 :: 98 :: 61 :: 34 :: 38 :: (rb ++ [34, 47, 62])).length + 1) (60 :: 97 :: 32 :: 98 :: 61 :: 34 :: 38 :: (rb ++ [34, 47, 62])) = some (60 :: 97 :: 32 :: 98 :: 61 :: 34 :: 38 :: (rb ++ [34, 47, 62])) := rfl
  rw [h1]
  simp only
  rw [h3]
  show (match beginS (st0 (97 :: 32 :: 98 :: 61 :: 34 :: 38 :: (rb ++ [34, 47, 62]))) with | .error e => Except.error e | .ok s => bodyL s) = _
  rw [hb]
  cases o with
  | none => rfl
  | some n => rfl
/-- Digits of references. -/
def isDg (c : UInt8) : Prop := (48 ≤ c.toNat ∧ c.toNat ≤ 57) ∨ (97 ≤ c.toNat ∧ c.toNat ≤ 102) ∨ (65 ≤ c.toNat ∧ c.toNat ≤ 70)
theorem dg_ok (c : UInt8) (h : isDg c) : (c.toNat < 128 ∧ okSign c.toNat = true) ∧ c ≠ 59 ∧ c ≠ 120 := by
  unfold isDg at h
  have hs : isSign c.toNat := by unfold isSign; omega
  refine ⟨⟨by omega, ?_⟩, fun e => by rw [e] at h; revert h; decide, fun e => by rw [e] at h; revert h; decide⟩
  unfold okSign
  simp [hs]
  omega
theorem numG_snoc (base : Nat) (c : UInt8) (a : L8) : ∀ m, numG base (a ++ [c]) m = (numG base a m).bind fun v => (digV base c).bind fun d => if v * base + d ≤ 2147483647 then some (v * base + d) else none := by
  induction a with
  | nil =>
    intro m
    show (match digV base c with | none => none | some d => if m * base + d ≤ 2147483647 then numG base [] (m * base + d) else none) = (digV base c).bind _
    cases digV base c with
    | none => rfl
    | some d => rfl
  | cons x a ih =>
    intro m
    show (match digV base x with | none => none | some d => if m * base + d ≤ 2147483647 then numG base (a ++ [c]) (m * base + d) else none) = Option.bind (match digV base x with | none => none | some d => if m * base + d ≤ 2147483647 then numG base a (m * base + d) else none) _
    cases digV base x with
    | none => rfl
    | some d =>
      simp only
      by_cases h : m * base + d ≤ 2147483647
      · rw [if_pos h, if_pos h, ih]
      · rw [if_neg h, if_neg h]; rfl
theorem numG_zeros (base : Nat) (hb : 0 < base) (t : L8) (z : Nat) : numG base (List.replicate z 48 ++ t) 0 = numG base t 0 := by
  induction z with
  | zero => rfl
  | succ z ih =>
    have h0 : digV base 48 = some 0 := by
      unfold digV
      rw [if_pos (by decide), if_pos (by show (48 : UInt8).toNat - 48 < base; exact hb)]
      rfl
    rw [List.replicate_succ]
    show (match digV base 48 with | none => none | some d => if 0 * base + d ≤ 2147483647 then numG base (List.replicate z 48 ++ t) (0 * base + d) else none) = _
    rw [h0]
    simp only [Nat.zero_mul, Nat.zero_add]
    rw [if_pos (by omega), ih]
def lim (u : Nat) : Option Nat := if u ≤ 2147483647 then some u else none
theorem lim_step (base u d : Nat) (hb : 1 ≤ base) (_hd : d < base) : ((lim (u / base)).bind fun v => (some d).bind fun d => if v * base + d ≤ 2147483647 then some (v * base + d) else none) = lim (u / base * base + d) := by
  unfold lim
  have h2 : u / base * 1 ≤ u / base * base := Nat.mul_le_mul_left _ hb
  by_cases h1 : u / base ≤ 2147483647
  · rw [if_pos h1]; rfl
  · rw [if_neg h1, if_neg (by omega)]; rfl
theorem dig10 (d : Nat) (h : d < 10) : digV 10 (UInt8.ofNat (48 + d)) = some d := by
  have : ∀ i : Fin 10, digV 10 (UInt8.ofNat (48 + i.val)) = some i.val := by decide
  exact this ⟨d, h⟩
theorem num10 (n : Nat) : ∀ u, u ≤ n → numG 10 (Lib.decDigits u) 0 = lim u := by
  induction n with
  | zero =>
    intro u hu
    obtain rfl : u = 0 := by omega
    rw [Lib.decDigits_one (by omega)]
    rfl
  | succ n ih =>
    intro u hu
    by_cases h : u < 10
    · rw [Lib.decDigits_one h]
      show (match digV 10 (UInt8.ofNat (48 + u)) with | none => none | some d => if 0 * 10 + d ≤ 2147483647 then numG 10 [] (0 * 10 + d) else none) = _
      rw [dig10 u h]
      unfold lim
      rw [if_pos (by omega)]
      simp only [Nat.zero_mul, Nat.zero_add]
      rw [if_pos (by omega)]
      rfl
    · rw [Lib.decDigits, dif_neg h, numG_snoc, ih (u / 10) (by omega), dig10 _ (by omega), lim_step 10 u (u % 10) (by omega) (by omega)]
      congr 1
      omega
theorem num16 (g : UInt8 → UInt8) (hg : ∀ d, d < 16 → digV 16 (g (hexC d)) = some d) (f : Nat) : ∀ u, u < 16 ^ (f + 1) → numG 16 ((hexD f u).map g) 0 = lim u := by
  have one : ∀ f u, u < 16 → numG 16 ((hexD f u).map g) 0 = lim u := fun f u h => by
    rw [hexD_small f u h]
    show (match digV 16 (g (hexC u)) with | none => none | some d => if 0 * 16 + d ≤ 2147483647 then numG 16 [] (0 * 16 + d) else none) = _
    rw [hg u h]
    unfold lim
    rw [if_pos (by omega)]
    simp only [Nat.zero_mul, Nat.zero_add]
    rw [if_pos (by omega)]
    rfl
  induction f with
  | zero => intro u hu; exact one 0 u (by simpa using hu)
  | succ f ih =>
    intro u hu
    by_cases h : u < 16
    · exact one _ u h
    · rw [hexD_great f u h, List.map_append, List.map_cons, List.map_nil, numG_snoc, ih (u / 16) (by rw [Nat.pow_succ] at hu; omega), hg _ (by omega), lim_step 16 u (u % 16) (by omega) (by omega)]
      congr 1
      omega
/-- A great letter of a small one. -/
def upC (c : UInt8) : UInt8 := if 97 ≤ c.toNat then UInt8.ofNat (c.toNat - 32) else c
theorem hexC_all : ∀ i : Fin 16, digV 16 (hexC i.val) = some i.val ∧ digV 16 (upC (hexC i.val)) = some i.val := by decide
theorem ok_lim (n : Nat) (h : okSign n = true) : n ≤ 1114111 := by
  unfold okSign at h
  simp only [Bool.or_eq_true, Bool.and_eq_true, decide_eq_true_eq, beq_iff_eq] at h
  have hs : isSign n → n ≤ 1114111 := fun h => h.1
  rcases h with ((h | h) | h) | h
  · omega
  · omega
  · omega
  · exact hs h.1.1.2
theorem ref_lim (base n : Nat) (d : L8) (hd : d ≠ []) (h : numG base d 0 = lim n) : refN base d = if okSign n then some n else none := by
  unfold refN numX
  rw [if_neg hd, h]
  unfold lim
  by_cases hn : n ≤ 2147483647
  · rw [if_pos hn]
  · rw [if_neg hn]
    have : okSign n ≠ true := fun e => by have := ok_lim n e; omega
    rw [if_neg this]
end Go.Proofs.YtbehfhdkdekjfaaDoor
