/- The reader of package xml: name. -/
import Derived.Test.YtbehfhdkdekjfaaDoorXmW2
namespace Go.Proofs.YtbehfhdkdekjfaaDoor
open Go.RowKit
set_option maxRecDepth 100000

def bgR (r : Nat) : Bool := (decide (65 ≤ r) && decide (r ≤ 90)) || (decide (97 ≤ r) && decide (r ≤ 122)) || r == 95 || r == 58 || decide (128 ≤ r)
def inR (r : Nat) : Bool := bgR r || (decide (48 ≤ r) && decide (r ≤ 57)) || r == 45 || r == 46
theorem bg_eq (c : UInt8) : bgN c = bgR c.toNat := rfl
theorem in_eq (c : UInt8) : inN c = inR c.toNat := rfl
theorem inR_high (r : Nat) (h : 128 ≤ r) : inR r = true := by simp [inR, bgR, h]
theorem decode_drop (l : List UInt8) (i : Nat) (h : l.drop i ≠ []) : Utf8.decode ⟨l.toArray⟩ i = decL (l.drop i) := by
  have hs : (⟨l.toArray⟩ : ByteArray).size = l.length := by simp [ByteArray.size]
  have hb : ∀ j, bt l (i + j) = bt (l.drop i) j := fun j => by unfold bt; rw [List.getElem?_drop]
  rw [Lib.decode_at, hs, get_bt, get_bt, get_bt, get_bt]
  unfold decL
  rw [if_neg h, List.length_drop, ← hb 0, ← hb 1, ← hb 2, ← hb 3]
  rfl
/-- The bytes of a sign from 128 on are so, too. -/
theorem enc_high (r : Nat) (hs : isSign r) (h : 128 ≤ r) : ∀ c ∈ encS r, 128 ≤ c.toNat := by
  unfold isSign at hs
  unfold encS
  rw [if_neg (by omega)]
  split
  · intro c hc; simp only [List.mem_cons, List.not_mem_nil, or_false] at hc; rcases hc with rfl | rfl <;> rw [ofNat_toNat _ (by omega)] <;> omega
  · split
    · intro c hc; simp only [List.mem_cons, List.not_mem_nil, or_false] at hc; rcases hc with rfl | rfl | rfl <;> rw [ofNat_toNat _ (by omega)] <;> omega
    · intro c hc; simp only [List.mem_cons, List.not_mem_nil, or_false] at hc; rcases hc with rfl | rfl | rfl | rfl <;> rw [ofNat_toNat _ (by omega)] <;> omega
theorem enc_low (r : Nat) (h : r < 128) : encS r = [UInt8.ofNat r] := by unfold encS; rw [if_pos h]
theorem tw_app (p : UInt8 → Bool) (a b : L8) (h : a.all p = true) : (a ++ b).takeWhile p = a ++ b.takeWhile p := by
  induction a with
  | nil => rfl
  | cons c t ih => simp at h; rw [List.cons_append, List.takeWhile_cons, h.1]; simp; exact ih (by simpa using h.2)
theorem idx_name : ∀ (n : Nat) (rest pre : L8) (f : Nat), rest.length ≤ n → rest.length ≤ f → Lib.validD rest = true →
    Lib.idxFuncFrom (fun r => !inR r) true (strOf (pre ++ rest)) f pre.length = if rest.all inN then -1 else ((pre.length + (rest.takeWhile inN).length : Nat) : Int)
  | n, [], pre, f, _, _, _ => by
    rw [Lib.idxFuncFrom_end _ _ _ _ _ (by rw [size8]; simp)]
    rfl
  | 0, c :: t, _, _, h, _, _ => by simp at h
  | n + 1, c :: t, pre, 0, _, h, _ => by simp at h
  | n + 1, c :: t, pre, f + 1, hn, hf, hv => by
    obtain ⟨r, rest', hs, e, hr⟩ := valid_head _ (by simp) hv
    have hlt : pre.length < (strOf (pre ++ c :: t)).size := by rw [size8]; simp
    have hdrop : (pre ++ c :: t).drop pre.length = c :: t := by simp
    have hdec : Utf8.decode (strOf (pre ++ c :: t)) pre.length = (r, (encS r).length) := by
      rw [show strOf (pre ++ c :: t) = ⟨(pre ++ c :: t).toArray⟩ from rfl, decode_drop _ _ (by rw [hdrop]; simp), hdrop, e, decL_enc r hs]
    unfold Lib.idxFuncFrom
    rw [if_pos hlt, hdec]
    have el := encS_len r
    have el2 := congrArg List.length e
    rw [List.length_append] at el2
    by_cases hi : inR r = true
    · have hall : (encS r).all inN = true := by
        rw [List.all_eq_true]
        intro x hx
        by_cases h128 : r < 128
        · rw [enc_low r h128] at hx
          simp at hx
          rw [hx, in_eq, ofNat_toNat _ (by omega)]; exact hi
        · rw [in_eq]; exact inR_high _ (enc_high r hs (by omega) x hx)
      rw [if_neg (by simp [hi])]
      have ih := idx_name n rest' (pre ++ encS r) f (by omega) (by omega) hr
      rw [List.length_append, List.append_assoc, ← e] at ih
      simp only at ih ⊢
      rw [ih, e, List.all_append, hall, Bool.true_and, tw_app _ _ _ hall, List.length_append]
      simp only [Nat.add_assoc]
    · have h128 : r < 128 := by
        rcases Nat.lt_or_ge r 128 with h | h
        · exact h
        · exact absurd (inR_high r h) hi
      have hi' : inR r = false := by simpa using hi
      rw [if_pos (by simp [hi'])]
      rw [e, enc_low r h128]
      have : inN (UInt8.ofNat r) = false := by rw [in_eq, ofNat_toNat _ (by omega)]; exact hi'
      simp [this]
theorem idx_all (l : L8) (hv : Lib.validD l = true) : Lib.idxFunc (fun r => !inR r) true (strOf l) = if l.all inN then -1 else (((l.takeWhile inN).length : Nat) : Int) := by
  unfold Lib.idxFunc
  have := idx_name l.length l [] (strOf l).size (Nat.le_refl _) (by rw [size8]; omega) hv
  simpa using this
theorem tw_all (p : UInt8 → Bool) (l : L8) (h : l.all p = true) : l.takeWhile p = l ∧ l.dropWhile p = [] := by
  constructor
  · have := tw_app p l [] h; simpa using this
  · have := (tw_app p l [] h); have e := List.takeWhile_append_dropWhile (p := p) (l := l); rw [List.append_nil] at this; rw [this] at e; simpa using e
theorem tw_split (p : UInt8 → Bool) (l : L8) : l.take (l.takeWhile p).length = l.takeWhile p ∧ l.drop (l.takeWhile p).length = l.dropWhile p := by
  induction l with
  | nil => exact ⟨rfl, rfl⟩
  | cons c t ih =>
    rw [List.takeWhile_cons, List.dropWhile_cons]
    cases p c with
    | false => exact ⟨rfl, rfl⟩
    | true => exact ⟨by simp [ih.1], by simp [ih.2]⟩
/-- The first sign of a text of signs alone. -/
theorem next_bg (l : L8) (hv : Lib.validD l = true) : bgR (nextN l).1 = hdN l := by
  cases l with
  | nil => rfl
  | cons c t =>
    obtain ⟨r, rest', hs, e, hr⟩ := valid_head _ (by simp) hv
    have hn : (nextN (c :: t)).1 = r := by rw [e, nextN_enc r hs]
    rw [hn]
    by_cases h128 : r < 128
    · rw [enc_low r h128] at e
      injection e with e1 _
      simp only [hdN]
      rw [e1, bg_eq, ofNat_toNat _ (by omega)]
    · obtain ⟨c', t', e', _⟩ := enc_first r hs
      have : 128 ≤ c'.toNat := enc_high r hs (by omega) c' (by rw [e']; simp)
      rw [e'] at e
      injection e with e1 _
      simp only [hdN]
      rw [e1, bg_eq]
      simp [bgR, this, show 128 ≤ r by omega]

set_option maxHeartbeats 1000000 in
theorem begins_any (r : Nat) (w : World) : Calls Tryd.prog 73 #[.int .i32 (r : Int)] w fun e w' => e = .returned (.bool (bgR r)) ∧ w = w' := by
  obtain ⟨b, HB⟩ : ∃ b, Hid (bgR r = b) := ⟨_, rfl⟩
  rw [HB.out]
  obtain ⟨z, hz⟩ : ∃ z : Int, z = r := ⟨_, rfl⟩
  rw [← hz]
  have hcase : (z < 58 ∧ b = false) ∨ (z = 58 ∧ b = true) ∨ (58 < z ∧ z < 65 ∧ b = false) ∨ (65 ≤ z ∧ z ≤ 90 ∧ b = true) ∨ (90 < z ∧ z < 95 ∧ b = false) ∨ (z = 95 ∧ b = true) ∨ (z = 96 ∧ b = false) ∨ (97 ≤ z ∧ z ≤ 122 ∧ b = true) ∨ (122 < z ∧ z < 128 ∧ b = false) ∨ (128 ≤ z ∧ b = true) := by
    rw [← HB.out, Bool.eq_false_iff]
    simp only [bgR, ne_eq, Bool.or_eq_true, Bool.and_eq_true, decide_eq_true_eq, beq_iff_eq]
    omega
  clear hz HB
  rcases hcase with ⟨h1, rfl⟩ | ⟨rfl, rfl⟩ | ⟨h1, h2, rfl⟩ | ⟨h1, h2, rfl⟩ | ⟨h1, h2, rfl⟩ | ⟨rfl, rfl⟩ | ⟨rfl, rfl⟩ | ⟨h1, h2, rfl⟩ | ⟨h1, h2, rfl⟩ | ⟨h1, rfl⟩
  all_goals
    go_enter Tryd.func73, Tryd.ntmps73
    go_wp2_with fail
    go_ret
    first | exact ⟨rfl, rfl⟩ | exact ⟨ret_bool (by simp; omega), rfl⟩
set_option maxHeartbeats 1000000 in
theorem inName_any (r : Nat) (w : World) : Calls Tryd.prog 76 #[.int .i32 (r : Int)] w fun e w' => e = .returned (.bool (inR r)) ∧ w = w' := by
  obtain ⟨b, HB⟩ : ∃ b, Hid (inR r = b) := ⟨_, rfl⟩
  rw [HB.out]
  have HC := fun W => Lib.hid (begins_any r W)
  obtain ⟨g, hg⟩ : ∃ g, bgR r = g := ⟨_, rfl⟩
  rw [hg] at HC
  obtain ⟨z, hz⟩ : ∃ z : Int, z = r := ⟨_, rfl⟩
  have hcase : (g = true ∧ b = true) ∨ (g = false ∧ ((z < 45 ∧ b = false) ∨ (z = 45 ∧ b = true) ∨ (z = 46 ∧ b = true) ∨ (z = 47 ∧ b = false) ∨ (48 ≤ z ∧ z ≤ 57 ∧ b = true) ∨ (57 < z ∧ b = false))) := by
    rw [← HB.out]
    unfold inR
    rw [hg]
    cases g with
    | true => left; simp
    | false =>
      right
      refine ⟨rfl, ?_⟩
      rw [Bool.eq_false_iff]
      simp only [ne_eq, Bool.or_eq_true, Bool.and_eq_true, decide_eq_true_eq, beq_iff_eq, Bool.false_eq_true, false_or]
      omega
  rw [← hz] at HC ⊢
  clear hz HB hg
  rcases hcase with ⟨rfl, rfl⟩ | ⟨rfl, ⟨h1, rfl⟩ | ⟨rfl, rfl⟩ | ⟨rfl, rfl⟩ | ⟨rfl, rfl⟩ | ⟨h1, h2, rfl⟩ | ⟨h1, rfl⟩⟩
  all_goals
    go_enter Tryd.func76, Tryd.ntmps76
    go_wp2_with (go_at_call 73; refine (HC _).out.mono ?_; rintro e w' ⟨rfl, rfl⟩)
    go_ret
    first | exact ⟨rfl, rfl⟩ | exact ⟨ret_bool (by simp; omega), rfl⟩
theorem outName_any (r : Nat) (w : World) : Calls Tryd.prog 75 #[.int .i32 (r : Int)] w fun e w' => e = .returned (.bool (!inR r)) ∧ w = w' := by
  have HC := fun W => Lib.hid (inName_any r W)
  go_enter Tryd.func75, Tryd.ntmps75
  go_wp2_with (go_at_call 76; refine (HC _).out.mono ?_; rintro e w' ⟨rfl, rfl⟩)
  go_ret
  exact ⟨rfl, rfl⟩
theorem enter_of {P : Program} {F : FuncId} {fn : Func} (hf : P.funcs[F]? = some fn) (hn : (fn.name == "runtime.NumGoroutine") = false) (hb : fn.body.isNone = false) (args : Array Value) (W : World) : (callFunc F args).run P W = .ok (.enter F args) W := by
  have hn' : ¬ fn.name = "runtime.NumGoroutine" := beq_eq_false_iff_ne.1 hn
  have hb' : ¬ fn.body = none := fun e => by rw [e] at hb; cases hb
  simp [callFunc, go_sem, hf, hn', hb']
theorem idxf_any (l : L8) (w : World) :
    Calls Tryd.prog 74 #[.string (strOf l), .func (.func 75) #[] #[]] w fun e w' => e = .returned (.int .i64 (Lib.idxFunc (fun r => !inR r) true (strOf l))) ∧ Below w.heap.size w w' :=
  Tryd.strings_IndexFunc 75 #[] (fun args W => enter_of Tryd.func75 (by kernel_rfl) (by kernel_rfl) args W) (fun r => !inR r) (strOf l) w
    (fun W x _ => (outName_any x W).mono fun e w' ⟨h1, h2⟩ => ⟨h1, 0, h2.symm⟩)
theorem clone_any (l : L8) (hl : l.length ≤ 1000000) (w : World) :
    Calls Tryd.prog 77 #[.string (strOf l)] w fun e w' => e = .returned (.string (strOf l)) ∧ Below w.heap.size w w' := by
  have HC := Lib.hid (Tryd.stringslite_Clone (strOf l) w (by rw [size8]; omega))
  go_enter Tryd.func77, Tryd.ntmps77
  go_wp2_with fail
  refine HC.out.mono ?_
  rintro e w1 ⟨rfl, b1⟩
  go_wp2_with fail
  go_ret
  exact ⟨rfl, b1⟩

set_option maxHeartbeats 2000000 in
theorem name_any (R : Nat) (l : L8) (hl : l.length ≤ 1000000) (hv : Lib.validD l = true) (w : World) (h : Rst w R l) (hE : Env w) :
    Calls Tryd.prog 54 #[.pointer (some ⟨R, 0, none⟩)] w fun e w' => e = .returned (.string (strOf (nameL l).1)) ∧ Mv w w' R ∧ Rst w' R (nameL l).2 := by
  have hc := h.cell
  have hf := h.frz
  have hlt := h.lt
  have H := Lib.hid h
  have hs : (strOf l).size ≤ 1000000 := by rw [size8]; exact hl
  have HN := Lib.hid (next_any l w hE.1)
  have hbg := next_bg l hv
  have HNm : Hid (nameL l = if hdN l then (l.takeWhile inN, l.dropWhile inN) else ([], l)) := rfl
  have HI := fun W => Lib.hid (idxf_any l W)
  rw [idx_all l hv] at HI
  generalize hdN l = g at *
  have HB := fun W => Lib.hid (begins_any (nextN l).1 W)
  rw [hbg] at HB
  clear h hE hbg hv
  generalize nextN l = x at *
  obtain ⟨x1, x2⟩ := x
  simp only at HN HB
  cases g with
  | false =>
    go_enter Tryd.func54, Tryd.ntmps54
    go_wp2_with fail
    refine HN.out.mono ?_
    rintro e w1 ⟨rfl, b1⟩
    go_wp2_with fail
    refine (HB _).out.mono ?_
    rintro e w2 ⟨rfl, rfl⟩
    go_wp2_with fail
    go_ret
    rw [HNm.out]
    exact ⟨rfl, Mv.of H.out.lt b1, H.out.below b1⟩
  | true =>
    obtain ⟨k, HK⟩ : ∃ k : Nat, Hid (k = (l.takeWhile inN).length) := ⟨_, rfl⟩
    have hks : k ≤ (strOf l).size := by
      rw [HK.out, size8]
      have := congrArg List.length (List.takeWhile_append_dropWhile (p := inN) (l := l))
      rw [List.length_append] at this
      omega
    have c1 := cut8 l k
    have c2 := take8 l k
    have HC : Hid (l.take k = l.takeWhile inN ∧ l.drop k = l.dropWhile inN) := by rw [HK.out]; exact tw_split inN l
    have HCl := fun W => Lib.hid (clone_any (l.take k) (by simp; omega) W)
    have key : ∀ (w1 w2 w3 : World), Below w.heap.size w w1 → Below w1.heap.size w1 w2 → Below w2.heap.size w2 w3 → Mv w (w3.setCell ⟨R, 0, none⟩ (.string (strOf (l.drop k)))) R ∧ Rst (w3.setCell ⟨R, 0, none⟩ (.string (strOf (l.drop k)))) R (nameL l).2 := by
      intro w1 w2 w3 b1 b2 b3
      have b := (b1.trans (b2.mono b1.size)).trans (b3.mono (Nat.le_trans b1.size b2.size))
      rw [HNm.out, if_pos rfl, ← HC.out.2]
      exact below_set H.out b _
    have HKey := Lib.hid key
    have HR : Hid (strOf (nameL l).1 = strOf (l.take k)) := by show _ = _; rw [HNm.out, if_pos rfl, HC.out.1]
    clear key
    cases hall : l.all inN with
    | true =>
      rw [hall, if_pos rfl] at HI
      have hk2 : k = (strOf l).size := by rw [HK.out, (tw_all inN l hall).1, size8]
      subst hk2
      go_enter Tryd.func54, Tryd.ntmps54
      go_wp2_with fail
      refine HN.out.mono ?_
      rintro e w1 ⟨rfl, b1⟩
      have hc1 := (b1.cell (p := ⟨R, 0, none⟩) hlt).trans hc
      go_wp2_with fail
      refine (HB _).out.mono ?_
      rintro e w2 ⟨rfl, rfl⟩
      go_wp2_with fail
      refine (HI _).out.mono ?_
      rintro e w2 ⟨rfl, b2⟩
      have hlt1 := Nat.lt_of_lt_of_le hlt b1.size
      have hc2 := (b2.cell (p := ⟨R, 0, none⟩) hlt1).trans hc1
      go_wp2_with fail
      refine (HCl _).out.mono ?_
      rintro e w3 ⟨rfl, b3⟩
      have hc3 := (b3.cell (p := ⟨R, 0, none⟩) (Nat.lt_of_lt_of_le hlt1 b2.size)).trans hc2
      have hf3 := (HKey.out w1 w2 w3 b1 b2 b3).2.frz
      have hf4 : w3.frozen? ⟨R, 0, none⟩ = false := by simpa using hf3
      go_wp2_with fail
      go_ret
      rw [HR.out]
      have HKl := HKey.out w1 w2 w3 b1 b2 b3
      rw [show List.drop (strOf l).size l = [] by rw [size8]; exact List.drop_length] at HKl
      exact ⟨rfl, HKl⟩
    | false =>
      rw [hall, if_neg (by simp), ← HK.out] at HI
      have hk0 : ¬ ((k : Int) < 0) := by omega
      clear hall
      go_enter Tryd.func54, Tryd.ntmps54
      go_wp2_with fail
      refine HN.out.mono ?_
      rintro e w1 ⟨rfl, b1⟩
      have hc1 := (b1.cell (p := ⟨R, 0, none⟩) hlt).trans hc
      go_wp2_with fail
      refine (HB _).out.mono ?_
      rintro e w2 ⟨rfl, rfl⟩
      go_wp2_with fail
      refine (HI _).out.mono ?_
      rintro e w2 ⟨rfl, b2⟩
      have hlt1 := Nat.lt_of_lt_of_le hlt b1.size
      have hc2 := (b2.cell (p := ⟨R, 0, none⟩) hlt1).trans hc1
      go_wp2_with fail
      refine (HCl _).out.mono ?_
      rintro e w3 ⟨rfl, b3⟩
      have hc3 := (b3.cell (p := ⟨R, 0, none⟩) (Nat.lt_of_lt_of_le hlt1 b2.size)).trans hc2
      have hf3 := (HKey.out w1 w2 w3 b1 b2 b3).2.frz
      have hf4 : w3.frozen? ⟨R, 0, none⟩ = false := by simpa using hf3
      go_wp2_with fail
      go_ret
      rw [HR.out]
      exact ⟨rfl, HKey.out w1 w2 w3 b1 b2 b3⟩
end Go.Proofs.YtbehfhdkdekjfaaDoor
