/- few, head of the laws on package dict. -/
import Derived.Test.YtgpdpmbgadjooaaDcPf
namespace Go.Proofs.Ytgpdpmbgadjooaa
open Go.RowKit Go.Sort
set_option maxRecDepth 100000

def fewB (xs : List B8) : Bool := xs.all (fun x => decide (x.length ≤ 40)) && decide (xs.length ≤ 60)
theorem few_no (xs : List B8) (k : Nat) (hk : k < xs.length) (h : ¬ xs[k].length ≤ 40) : fewB xs = false := by
  unfold fewB
  rw [show (xs.all fun x => decide (x.length ≤ 40)) = false from (by
    rw [List.all_eq_false]
    exact ⟨xs[k], List.getElem_mem hk, by simpa using h⟩)]
  rfl
theorem few_yes (xs : List B8) (h : ∀ j (hj : j < xs.length), xs[j].length ≤ 40) : fewB xs = decide (xs.length ≤ 60) := by
  unfold fewB
  rw [show (xs.all fun x => decide (x.length ≤ 40)) = true from (by
    rw [List.all_eq_true]
    intro x hx
    obtain ⟨j, hj, rfl⟩ := List.mem_iff_getElem.1 hx
    simpa using h j hj)]
  rfl
theorem few_true {xs : List B8} (h : fewB xs = true) : xs.length ≤ 60 ∧ ∀ x ∈ xs, x.length ≤ 40 := by
  unfold fewB at h
  simp only [Bool.and_eq_true, List.all_eq_true, decide_eq_true_eq] at h
  exact ⟨h.2, h.1⟩
set_option maxHeartbeats 2000000 in
theorem few_any (A : Option Addr) (n c : Nat) (xs : List B8) (hn : Hid (n = xs.length)) (hnm : n ≤ 9223372036854775807) (w : World) (hI : CS w w.heap.size A (xs.map encStr)) :
    Calls Try.prog 27 #[.slice A n c] w fun e w' => e = .returned (.bool (fewB xs)) ∧ w = w' := by
  have HCS := Lib.hid hI
  clear hI
  go_enter Try.func27, Try.ntmps27
  go_wp2_with fail
  go_loop [7] (fun i => ∃ k : Nat, k ≤ n ∧ i = .int .i64 k ∧ Hid (∀ j (hj : j < xs.length), j < k → xs[j].length ≤ 40)) (fun i => n - (intOf i).toNat)
  case atStart => exact ⟨0, Nat.zero_le _, rfl, fun j _ h => absurd h (Nat.not_lt_zero _)⟩
  case round =>
    obtain ⟨k, hk, rfl, HI⟩ := hrel
    by_cases hlt : k < n
    · have hkx : k < xs.length := by rw [← hn.out]; exact hlt
      obtain ⟨b, o, rfl, hb, hc⟩ := HCS.out (by rw [List.length_map]; omega)
      have hcx := hc k _ (enc_cells_at xs k hkx)
      obtain ⟨ss, hss⟩ : ∃ ss, ss = (⟨(xs[k]).toArray⟩ : ByteArray) := ⟨_, rfl⟩
      have hcx' : w.cell? ⟨b, o + k, none⟩ = some (.string ss) := by rw [hss]; exact hcx
      obtain ⟨m, hm⟩ : ∃ m, m = (xs[k]).length := ⟨_, rfl⟩
      have hsz : ss.size = m := by rw [hss, hm]; simp [ByteArray.size]
      have HM := Lib.hid hm
      clear hcx hc hss hm
      by_cases h40 : m ≤ 40
      · have h40' : (m : Int) ≤ 40 := by omega
        go_wp2_with fail
        go_round
        case rel => exact ⟨k + 1, by omega, by go_num, fun j hj h => by
          rcases Nat.lt_or_ge j k with g | g
          · exact HI.out j hj g
          · obtain rfl : j = k := by omega
            rw [← HM.out]; exact h40⟩
        case measure => simp [intOf]; omega
      · have h40' : (40 : Int) < (m : Int) := by omega
        have HF : Hid (fewB xs = false) := few_no xs k hkx (by rw [← HM.out]; exact h40)
        go_wp2_with fail
        go_ret
        exact ⟨by rw [HF.out]; rfl, rfl⟩
    · have HF : Hid (fewB xs = decide (n ≤ 60)) := by show _ = _; rw [hn.out]; exact few_yes xs fun j hj => HI.out j hj (by have := hn.out; omega)
      by_cases h60 : n ≤ 60
      · have h60' : (n : Int) ≤ 60 := by omega
        go_wp2_with fail
        go_ret
        exact ⟨by rw [HF.out, decide_eq_true h60]; rfl, rfl⟩
      · have h60' : ¬ (n : Int) ≤ 60 := by omega
        go_wp2_with fail
        go_ret
        exact ⟨by rw [HF.out, decide_eq_false h60]; rfl, rfl⟩
theorem few_is (A : Option Addr) (n c : Nat) (xs : List B8) (q : Bool) (h : Hid (n = xs.length ∧ fewB xs = q)) (hnm : n ≤ 9223372036854775807) (w : World) (hI : CS w w.heap.size A (xs.map encStr)) :
    Calls Try.prog 27 #[.slice A n c] w fun e w' => e = .returned (.bool q) ∧ w = w' := by
  obtain ⟨h1, h2⟩ := h.out
  rw [← h2]
  exact few_any A n c xs h1 hnm w hI
theorem make_is (A : Option Addr) (n cap : Nat) (xs ds : List B8) (h : Hid (n = xs.length ∧ xs.length ≤ 1000 ∧ (∀ x ∈ xs, x.length ≤ 1000) ∧ dct xs = ds)) (w : World) (hI : CS w w.heap.size A (xs.map encStr)) :
    Calls Try.prog 28 #[.slice A n cap] w fun e w' => ∃ A2 n2 c2, e = .returned (.agg #[.slice A2 n2 c2]) ∧ DT w' A2 n2 c2 ds ∧ Below w.heap.size w w' := by
  obtain ⟨h1, h2, h3, h4⟩ := h.out
  subst h1 h4
  refine (make_any A cap xs h2 h3 w hI).mono ?_
  rintro e w' ⟨v, rfl, hr, hb⟩
  obtain ⟨A2, c2, rfl, k1, k2, k3, _⟩ := own_form hr
  exact ⟨A2, _, c2, rfl, ⟨rfl, k1, k2, by have := dct_len xs; omega, k3⟩, hb⟩
theorem prefix_is (A : Option Addr) (n c : Nat) (ws : List B8) (p : B8) (m t : Nat) (h : Hid (ws.Pairwise (· < ·) ∧ cnt ws p = m ∧ cnt ws p + pcnt ws p = t)) (w : World) (hD : DT w A n c ws) :
    Calls Try.prog 38 #[.agg #[.slice A n c], .string ⟨p.toArray⟩] w fun e w' => e = .returned (.tuple #[.int .i64 (m : Nat), .int .i64 (t : Nat)]) ∧ Below w.heap.size w w' := by
  obtain ⟨h1, h2, h3⟩ := h.out
  have := prefix_any A n c ws h1 p w hD
  rw [h3, h2] at this
  exact this
theorem find_is (A : Option Addr) (n c : Nat) (ws : List B8) (p : B8) (m : Nat) (q : Bool) (h : Hid (ws.Pairwise (· < ·) ∧ cnt ws p = m ∧ decide (p ∈ ws) = q)) (w : World) (hD : DT w A n c ws) :
    Calls Try.prog 32 #[.agg #[.slice A n c], .string ⟨p.toArray⟩] w fun e w' => e = .returned (.tuple #[.int .i64 (m : Nat), .bool q]) ∧ Below w.heap.size w w' := by
  obtain ⟨h1, h2, h3⟩ := h.out
  have := find_any A n c ws h1 p w hD
  rw [h3, h2] at this
  exact this
theorem word_is (A : Option Addr) (n c : Nat) (ws : List B8) (k : Nat) (x : B8) (h : Hid (ws[k]? = some x)) (w : World) (hD : DT w A n c ws) : Calls Try.prog 31 #[.agg #[.slice A n c], .int .i64 k] w fun e w' => e = .returned (.string ⟨x.toArray⟩) ∧ Below w.heap.size w w' := by
  obtain ⟨hk, e⟩ := List.getElem?_eq_some_iff.1 h.out
  rw [← e]
  exact word_in A n c ws w hD k hk
theorem word_lit (A : Option Addr) (n c : Nat) (ws : List B8) (x : B8) (h : Hid (ws[1]? = some x)) (w : World) (hD : DT w A n c ws) : Calls Try.prog 31 #[.agg #[.slice A n c], .int .i64 1] w fun e w' => e = .returned (.string ⟨x.toArray⟩) ∧ Below w.heap.size w w' := word_is A n c ws 1 x h w hD
theorem dct_head : dct [[98], [97], [97, 98], [98]] = [[97], [97, 98], [98]] := by
  refine rises_ext _ _ (dct_rises _) (by decide) fun a => ?_
  rw [dct_mem]
  simp only [List.mem_cons, List.not_mem_nil, or_false]
  constructor
  · rintro (h | h | h | h) <;> simp [h]
  · rintro (h | h | h) <;> simp [h]
set_option maxHeartbeats 4000000 in
theorem head_any (w : World) : Calls Try.prog 26 #[] w fun e w' => e = .returned (.bool true) ∧ Below w.heap.size w w' := by
  have HM : Hid (4 = ([[98], [97], [97, 98], [98]] : List B8).length ∧ ([[98], [97], [97, 98], [98]] : List B8).length ≤ 1000 ∧ (∀ x ∈ ([[98], [97], [97, 98], [98]] : List B8), x.length ≤ 1000) ∧ dct [[98], [97], [97, 98], [98]] = [[97], [97, 98], [98]]) := ⟨rfl, by decide, by decide, dct_head⟩
  have HP : Hid (([[97], [97, 98], [98]] : List B8).Pairwise (· < ·) ∧ cnt [[97], [97, 98], [98]] [97] = 0 ∧ cnt [[97], [97, 98], [98]] [97] + pcnt [[97], [97, 98], [98]] [97] = 2) := ⟨by decide, by decide +kernel, by decide +kernel⟩
  have HW : Hid (([[97], [97, 98], [98]] : List B8)[1]? = some [97, 98]) := rfl
  obtain ⟨X, hX⟩ : ∃ X, w.alloc (.cells #[.string ⟨#[98]⟩, .string ⟨#[97]⟩, .string ⟨#[97, 98]⟩, .string ⟨#[98]⟩] 9) = X := ⟨_, rfl⟩
  have bX : Below w.heap.size w X := by rw [← hX]; exact (Below.refl _ _).alloc (Nat.le_refl _) _
  have HI : Hid (CS X X.heap.size (some ⟨w.heap.size, 0, none⟩) (([[98], [97], [97, 98], [98]] : List B8).map encStr)) := fun _ => ⟨w.heap.size, 0, rfl, by rw [← hX]; simp, fun k u hu => by
    rw [← hX]
    have z := new_cells w #[.string ⟨#[98]⟩, .string ⟨#[97]⟩, .string ⟨#[97, 98]⟩, .string ⟨#[98]⟩] 9 (0, 0) k u hu
    rwa [add_addr] at z⟩
  have HBX := Lib.hid bX
  clear bX
  go_enter Try.func26, Try.ntmps26
  go_wp2_with fail
  with_reducible refine (make_is _ _ _ _ _ HM _ HI.out).mono ?_
  rintro e w1 ⟨A2, n2, c2, rfl, hD, b1⟩
  have hn2 : n2 = 3 := hD.len
  subst hn2
  obtain ⟨Y, hY⟩ : ∃ Y, w1.alloc (.cells #[.slice A2 3 c2] 55) = Y := ⟨_, rfl⟩
  have bY : Below w1.heap.size w1 Y := by rw [← hY]; exact (Below.refl _ _).alloc (Nat.le_refl _) _
  have HD := Lib.hid (hD.keep bY)
  have cY : Y.cell? ⟨w1.heap.size, 0, none⟩ = some (.slice A2 3 c2) := by
    rw [← hY]
    have z := new_cells w1 #[.slice A2 3 c2] 55 (0, 0) 0 _ rfl
    rwa [add_addr, Nat.zero_add] at z
  have HCY : Hid (∀ W, Below Y.heap.size Y W → W.cell? ⟨w1.heap.size, 0, none⟩ = some (.slice A2 3 c2)) := fun W hb => (hb.cell (World.block_lt_of_cell? Y _ cY)).trans cY
  have HBY := Lib.hid (HBX.out.trans ((b1.trans (bY.mono b1.size)).mono HBX.out.size))
  clear hD b1 bY HBX HI
  go_wp2_with fail
  with_reducible refine (prefix_is _ _ _ _ [97] _ _ HP _ HD.out).mono ?_
  rintro e w2 ⟨rfl, b2⟩
  have c2' := HCY.out w2 b2
  go_wp2_with fail
  with_reducible refine (len_any _ _ _ _).mono ?_
  rintro e w3 ⟨rfl, b3⟩
  replace b3 := b2.trans (b3.mono b2.size)
  have c3' := HCY.out w3 b3
  clear c2'
  go_wp2_with fail
  with_reducible refine (word_lit _ _ _ _ _ HW _ (HD.out.keep b3)).mono ?_
  rintro e w4 ⟨rfl, b4⟩
  replace b4 := b3.trans (b4.mono b3.size)
  go_wp2_with fail
  go_ret
  exact ⟨rfl, HBY.out.trans (b4.mono HBY.out.size)⟩
end Go.Proofs.Ytgpdpmbgadjooaa
