/- Times. -/
import Derived.Test.YtcgoeokocabelaaMaSo
import Derived.Test.YtcgoeokocabelaaMaJw
namespace Go.Proofs.Ytcgoeokocabelaa
open Go.RowKit
set_option maxRecDepth 100000

theorem chM_small (a : List Mt) (M : Nat) (h : ∀ m ∈ a, m.1.length ≤ M ∧ m.2.length ≤ M) (c : List Nat) : (chM a c).1.length ≤ M * c.length ∧ (chM a c).2.length ≤ M * c.length := by
  have key : ∀ l : List Nat, (chM a l.reverse).1.length ≤ M * l.length ∧ (chM a l.reverse).2.length ≤ M * l.length := fun l => by
    induction l with
    | nil => exact ⟨Nat.zero_le _, Nat.zero_le _⟩
    | cons i t ih =>
      rw [List.reverse_cons, chM_snoc]
      have hg : (a.getD i ([], [])).1.length ≤ M ∧ (a.getD i ([], [])).2.length ≤ M := by
        rw [List.getD_eq_getElem?_getD]
        cases hq : a[i]? with
        | none => exact ⟨Nat.zero_le _, Nat.zero_le _⟩
        | some m => exact h m (List.mem_of_getElem? hq)
      unfold joinI
      simp only [List.length_append, List.length_cons, Nat.mul_add, Nat.mul_one]
      omega
  have := key c.reverse
  rwa [List.reverse_reverse, List.length_reverse] at this
theorem someL_small (a : List Mt) (M k : Nat) (h : ∀ m ∈ a, m.1.length ≤ M ∧ m.2.length ≤ M) : ∀ m ∈ someL a k, m.1.length ≤ M * k ∧ m.2.length ≤ M * k := fun m hm => by
  obtain ⟨c, hc, rfl⟩ := List.mem_map.1 hm
  rw [← (allF_mem _ _ _ c hc).1]
  exact chM_small a M h c
def timesL (a : List Mt) (lo : Nat) (hi : Int) : Option (List Mt) :=
  if hi < 0 then some [] else if (a.length : Int) ≤ hi then some (someL a lo) else
    match waysF 1 (someL a (hi.toNat + 1)) with
    | none => none
    | some W => if (someL a lo).length * W ≤ 400 then some (andL (someL a lo) (notL (someL a (hi.toNat + 1)))) else none
def TQ (w : World) (r : Option (List Mt)) (e : Ending) (w' : World) : Prop := ∃ A N c er, e = .returned (.tuple #[.slice A N c, .int .i64 er]) ∧ ((r = none ∧ er = 23 ∧ N = 0) ∨ ∃ L, r = some L ∧ er = 0 ∧ N = L.length ∧ MS w' w'.heap.size A L) ∧ Below w.heap.size w w'
theorem times_neg (A : Option Addr) (n cA : Nat) (lo hi : Int) (h : hi < 0) (w : World) :
    Calls Try.prog 44 #[.slice A n cA, .agg #[.int .i64 lo, .int .i64 hi]] w (TQ w (some [])) := by
  obtain ⟨x0, x1⟩ := box2 w (.int .i64 lo) (.int .i64 hi) 60
  have hd : decide (hi < 0) = true := decide_eq_true h
  go_enter Try.func44, Try.ntmps44
  go_wp2_with fail
  go_ret2
  exact ⟨_, _, _, _, rfl, .inr ⟨[], rfl, rfl, rfl, MS.nil _ _ _⟩, (Below.refl _ _).alloc (Nat.le_refl _) _⟩
set_option maxHeartbeats 1000000 in
theorem times_all (A : Option Addr) (n cA lo : Nat) (hi : Int) (a : List Mt) (HN : Hid (n = a.length)) (hn : n ≤ 7) (hlo : lo ≤ 1000) (h0 : 0 ≤ hi) (h : (n : Int) ≤ hi) (HM : Hid (∀ m ∈ a, m.1.length ≤ 100 ∧ m.2.length ≤ 100)) (w : World) (hA : MS w w.heap.size A a) :
    Calls Try.prog 44 #[.slice A n cA, .agg #[.int .i64 (lo : Int), .int .i64 hi]] w (TQ w (some (someL a lo))) := by
  obtain ⟨X, hX⟩ : ∃ X, w.alloc (.cells #[.int .i64 (lo : Int), .int .i64 hi] 60) = X := ⟨_, rfl⟩
  have bX : Below w.heap.size w X := by rw [← hX]; exact (Below.refl _ _).alloc (Nat.le_refl _) _
  obtain ⟨x0, x1⟩ := box2 w (.int .i64 (lo : Int)) (.int .i64 hi) 60
  rw [hX] at x0 x1
  have hd : decide (hi < 0) = false := decide_eq_false (by omega)
  have hd2 : decide ((n : Int) ≤ hi) = true := decide_eq_true h
  have KS := Lib.hid (some_any A n cA lo a HN hn hlo HM X (hA.up bX))
  have HX1 := Lib.hid x1
  have HBX := Lib.hid bX
  have HX := Lib.hid hX
  clear hA bX hX
  go_enter Try.func44, Try.ntmps44
  go_wp2_with fail
  rw [HX.out]
  with_reducible refine KS.out.mono ?_
  rintro e w5 ⟨A5, c5, rfl, m5, b5⟩
  have y1 := (b5.cell (World.block_lt_of_cell? X _ x1)).trans x1
  have HF : Hid (TQ w (some (someL a lo)) (.returned (.tuple #[.slice A5 (someL a lo).length c5, .int .i64 0])) w5) := ⟨_, _, _, _, rfl, .inr ⟨_, rfl, rfl, rfl, m5⟩, HBX.out.trans (b5.mono HBX.out.size)⟩
  clear m5 b5 x0 x1
  go_wp2_with fail
  go_ret2
  exact HF.out
set_option maxHeartbeats 4000000 in
theorem times_more (A : Option Addr) (n cA lo hi : Nat) (a : List Mt) (HN : Hid (n = a.length)) (hn : n ≤ 7) (hlo : lo ≤ 1000) (h : hi < n) (HM : Hid (∀ m ∈ a, m.1.length ≤ 100 ∧ m.2.length ≤ 100)) (w : World) (hA : MS w w.heap.size A a) :
    Calls Try.prog 44 #[.slice A n cA, .agg #[.int .i64 (lo : Int), .int .i64 (hi : Int)]] w (TQ w (timesL a lo (hi : Int))) := by
  obtain ⟨X, hX⟩ : ∃ X, w.alloc (.cells #[.int .i64 (lo : Int), .int .i64 (hi : Int)] 60) = X := ⟨_, rfl⟩
  have bX : Below w.heap.size w X := by rw [← hX]; exact (Below.refl _ _).alloc (Nat.le_refl _) _
  obtain ⟨x0, x1⟩ := box2 w (.int .i64 (lo : Int)) (.int .i64 (hi : Int)) 60
  rw [hX] at x0 x1
  have hd2 : decide ((n : Int) ≤ (hi : Int)) = false := decide_eq_false (by omega)
  have hwk : IntKind.i64.wrap ((hi : Int) + 1) = (hi : Int) + 1 := by rw [IntKind.wrap_i64]; omega
  have KS := Lib.hid (some_any A n cA lo a HN hn hlo HM X (hA.up bX))
  have KT : Hid (∀ W, Below X.heap.size X W → Calls Try.prog 84 #[.slice A n cA, .int .i64 ((hi : Int) + 1)] W (SoQ W (someL a (hi + 1)))) := fun W hW => by
    have h := some_any A n cA (hi + 1) a HN hn (by omega) HM W ((hA.up bX).up hW)
    rw [show ((hi + 1 : Nat) : Int) = (hi : Int) + 1 by omega] at h
    exact h
  have HSA : Hid (smM (someL a lo)) := fun m hm => by
    rcases Nat.lt_or_ge n lo with h | h
    · rw [someL_none a lo (by rw [← HN.out]; exact h)] at hm; cases hm
    · have := someL_small a 100 lo HM.out m hm
      have : 100 * lo ≤ 700 := by omega
      omega
  have HSB : Hid (smM (someL a (hi + 1))) := fun m hm => by
    have := someL_small a 100 (hi + 1) HM.out m hm
    have : 100 * (hi + 1) ≤ 700 := by omega
    omega
  have HTL : Hid (timesL a lo (hi : Int) = match waysF 1 (someL a (hi + 1)) with
      | none => none
      | some W => if (someL a lo).length * W ≤ 400 then some (andL (someL a lo) (notL (someL a (hi + 1)))) else none) := by
    show _ = _
    unfold timesL
    rw [if_neg (by omega), if_neg (by have := HN.out; omega)]
    rfl
  have l7 : a.length ≤ 7 := by rw [← HN.out]; exact hn
  have hL0 := someL_few a lo l7
  have hL1 := someL_few a (hi + 1) l7
  obtain ⟨La, hLa⟩ : ∃ L, L = someL a lo := ⟨_, rfl⟩
  obtain ⟨Lb, hLb⟩ : ∃ L, L = someL a (hi + 1) := ⟨_, rfl⟩
  rw [← hLa] at KS HSA HTL hL0
  rw [← hLb] at KT HSB HTL hL1
  have HBX := Lib.hid bX
  have HX := Lib.hid hX
  have HK1 : Hid (∀ W, Below X.heap.size X W → W.cell? ⟨w.heap.size, 1, none⟩ = some (.int .i64 (hi : Int))) := fun W hW => (hW.cell (World.block_lt_of_cell? X _ x1)).trans x1
  have BR := Lib.hid (Below.refl X.heap.size X)
  obtain ⟨r, hr⟩ : ∃ r, r = timesL a lo (hi : Int) := ⟨_, rfl⟩
  rw [← hr] at HTL ⊢
  clear hA bX hX hLa hLb l7 hr
  have x1 := HK1.out _ BR.out
  go_enter Try.func44, Try.ntmps44
  go_wp2_with fail
  rw [HX.out]
  with_reducible refine KS.out.mono ?_
  rintro e w5 ⟨A5, c5, rfl, m5, b5⟩
  have y1 := HK1.out _ b5
  have HM5 := Lib.hid m5
  have HB5 := Lib.hid b5
  obtain ⟨N5, hN5⟩ : ∃ N, N = La.length := ⟨_, rfl⟩
  rw [← hN5] at hL0 ⊢
  have HN5 := Lib.hid hN5
  clear m5 b5 x0 x1 hN5
  go_wp2_with fail
  with_reducible refine (KT.out _ HB5.out).mono ?_
  rintro e w6 ⟨A6, c6, rfl, m6, b6⟩
  obtain ⟨N6, hN6⟩ : ∃ N, N = Lb.length := ⟨_, rfl⟩
  rw [← hN6] at hL1 ⊢
  have HN6 := Lib.hid hN6
  have HB6 := Lib.hid (HB5.out.trans (b6.mono HB5.out.size))
  have HM5b := Lib.hid (HM5.out.up b6)
  have KN := Lib.hid (not_any A6 N6 c6 Lb HN6.out (by omega) HSB.out w6 m6)
  clear m6 b6 hN6 y1
  go_wp2_with fail
  with_reducible refine KN.out.mono ?_
  rintro e w7 h7
  obtain ⟨A7, N7, c7, r7, rfl, h7', b7⟩ := h7.uni
  have HB7 := Lib.hid (HB6.out.trans (b7.mono HB6.out.size))
  have HM7 := Lib.hid (HM5b.out.up b7)
  clear b7 h7
  rcases h7' with ⟨hw, rfl, rfl⟩ | ⟨hw, rfl, m7⟩
  · have HF : Hid (TQ w r (.returned (.tuple #[.slice none 0 0, .int .i64 23])) w7) := by
      have h := HTL.out
      rw [hw] at h
      exact ⟨_, _, _, _, rfl, .inl ⟨h, rfl, rfl⟩, HBX.out.trans (HB7.out.mono HBX.out.size)⟩
    clear hw
    go_wp2_with fail
    go_ret2
    exact HF.out
  · have e7 : N7 = (notL Lb).length := by rw [notL_len]; have := waysF_some Lb 1 N7 hw; omega
    have HTW := HTL.out
    rw [hw] at HTW
    have HTV := Lib.hid HTW
    have KA := Lib.hid (and_all A5 A7 N5 c5 N7 c7 La (notL Lb) HN5.out e7 (by omega) HSA.out (notL_sm Lb (by rw [← HN6.out]; omega)) w7 HM7.out m7)
    have HE7 := Lib.hid e7
    clear hw m7 e7 HTW
    go_wp2_with fail
    with_reducible refine KA.out.mono ?_
    rintro e w8 ⟨A8, N8, c8, r8, rfl, h8, b8⟩
    have HF : Hid (TQ w r (.returned (.tuple #[.slice A8 N8 c8, .int .i64 r8])) w8) := by
      refine ⟨_, _, _, _, rfl, ?_, (HBX.out.trans (HB7.out.mono HBX.out.size)).trans (b8.mono (HBX.out.trans (HB7.out.mono HBX.out.size)).size)⟩
      have h := HTV.out
      rw [HE7.out] at h
      rcases h8 with ⟨hp, e1, e2, m8⟩ | ⟨hp, e1, e2⟩
      · rw [if_pos hp] at h
        exact .inr ⟨_, h, e1, by rw [e2, andL_len], m8⟩
      · rw [if_neg (by omega)] at h
        exact .inl ⟨h, e1, e2⟩
    clear h8 b8
    go_wp2_with fail
    go_ret2
    exact HF.out
theorem times_any (A : Option Addr) (n cA lo : Nat) (hi : Int) (a : List Mt) (HN : Hid (n = a.length)) (hn : n ≤ 7) (hlo : lo ≤ 1000) (HM : Hid (∀ m ∈ a, m.1.length ≤ 100 ∧ m.2.length ≤ 100)) (w : World) (hA : MS w w.heap.size A a) :
    Calls Try.prog 44 #[.slice A n cA, .agg #[.int .i64 (lo : Int), .int .i64 hi]] w (TQ w (timesL a lo hi)) := by
  by_cases h0 : hi < 0
  · have e : timesL a lo hi = some [] := by unfold timesL; rw [if_pos h0]
    rw [e]
    exact times_neg A n cA lo hi h0 w
  · by_cases h1 : (n : Int) ≤ hi
    · have e : timesL a lo hi = some (someL a lo) := by unfold timesL; rw [if_neg h0, if_pos (by rw [← HN.out]; exact h1)]
      rw [e]
      exact times_all A n cA lo hi a HN hn hlo (by omega) h1 HM w hA
    · obtain ⟨k, rfl⟩ : ∃ k : Nat, hi = (k : Int) := ⟨hi.toNat, by omega⟩
      exact times_more A n cA lo k a HN hn hlo (by omega) HM w hA
end Go.Proofs.Ytcgoeokocabelaa
