/- PostWithin answers true. -/
import Derived.Test.YtgpdpmbgadjooaaPoWi
namespace Go.Proofs.Ytgpdpmbgadjooaa
open Go.RowKit
set_option maxRecDepth 100000

theorem fil_take (us : List Int) (g : Int → Bool) (k : Nat) (hk : k < us.length) : (us.take (k + 1)).filter g = (us.take k).filter g ++ (if g us[k] then [us[k]] else []) := by
  rw [List.take_succ_eq_append_getElem hk, List.filter_append]
  congr 1
  simp [List.filter_cons]
theorem fil_at (us : List Int) (g : Int → Bool) (k : Nat) (hk : k < us.length) (h : g us[k] = true) : (us.filter g)[((us.take k).filter g).length]? = some us[k] := by
  have e : us.filter g = (us.take k).filter g ++ (us.drop k).filter g := by rw [← List.filter_append, List.take_append_drop]
  rw [e]
  rw [List.getElem?_append_right (Nat.le_refl _), Nat.sub_self, List.drop_eq_getElem_cons hk, List.filter_cons, if_pos h]
  rfl
set_option maxHeartbeats 1000000 in
theorem wi_long (A : Option Addr) (n c : Nat) (f t : Int) (hn : 60 < n) (hnm : n ≤ 9223372036854775807) (w : World) :
    Calls Try.prog 7 #[.slice A n c, .int .i64 f, .int .i64 t] w fun e w' => e = .returned (.bool true) ∧ Below w.heap.size w w' := by
  have hn' : (60 : Int) < (n : Int) := by omega
  go_enter Try.func7, Try.ntmps7
  go_wp2_with fail
  with_reducible refine (head_any _).mono ?_
  rintro e w1 ⟨rfl, b1⟩
  go_wp2_with fail
  go_ret
  exact ⟨rfl, b1⟩
set_option maxHeartbeats 4000000 in
theorem wi_any (A : Option Addr) (n c : Nat) (zs : List Int) (f t : Int) (HN : Hid (n = zs.length)) (hn : n ≤ 60) (w : World) (hI : CS w w.heap.size A (zs.map eI)) :
    Calls Try.prog 7 #[.slice A n c, .int .i64 f, .int .i64 t] w fun e w' => e = .returned (.bool true) ∧ Below w.heap.size w w' := by
  have hn' : ¬ (60 : Int) < (n : Int) := by omega
  have HCS := Lib.hid hI
  clear hI
  go_enter Try.func7, Try.ntmps7
  go_wp2_with fail
  with_reducible refine (head_any _).mono ?_
  rintro e w1 ⟨rfl, b1⟩
  have HB1 := Lib.hid b1
  have bL : Below w1.heap.size w1 (w1.alloc (.cells #[] 3)) := (Below.refl _ _).alloc (Nat.le_refl _) _
  have HO0 := Lib.hid (own_lit w1 3 1 (0, 0) rfl)
  have HBL := Lib.hid bL
  clear b1 bL
  go_wp2_with fail
  go_loopw [7, 8, 23] (fun s7 s8 i wr => ∃ (k l : Nat) (v : Value) (us : List Int), k ≤ n ∧ i = .int .i64 k ∧ v = s7 ∧ s8 = .int .i64 l ∧ l ≤ 8 * k ∧ Hid (us.length = k) ∧ Hid (us.Pairwise (· < ·) ∧ ∀ u ∈ us, u ≤ l) ∧ Hid (wr.ownsRow w1.heap.size 3 1 v k (us.map eI)) ∧ Hid (Below w1.heap.size w1 wr)) (fun _ _ i _ => n - (intOf i).toNat)
  case atStart => exact ⟨0, 0, _, [], Nat.zero_le _, rfl, rfl, rfl, Nat.zero_le _, rfl, ⟨.nil, by simp⟩, HO0, HBL⟩
  case round =>
    obtain ⟨k, l, v, us, hk, rfl, rfl, rfl, hl8, HLU, HPU, HO, HB⟩ := hrel
    by_cases hlt : k < n
    · have hkx : k < zs.length := by rw [← HN.out]; exact hlt
      obtain ⟨b, o, rfl, hb, hc⟩ := ((HCS.out.below (HB1.out.trans (HB.out.mono HB1.out.size)))) (by rw [List.length_map]; omega)
      have hcx := hc k _ (eI_at zs k hkx)
      obtain ⟨x, hx⟩ : ∃ x, x = zs[k] := ⟨_, rfl⟩
      rw [← hx] at hcx
      obtain ⟨d, hd, hd7⟩ := and_7 x
      obtain ⟨l2, hl2⟩ : ∃ l2, l2 = l + (1 + d) := ⟨_, rfl⟩
      have e1 : (l : Int) + (1 + (d : Int)) = (l2 : Int) := by omega
      have hl28 : l2 ≤ 8 * (k + 1) := by omega
      have HPN : Hid ((us ++ [(l2 : Int)]).Pairwise (· < ·) ∧ ∀ u ∈ us ++ [(l2 : Int)], u ≤ l2) := by
        obtain ⟨p1, p2⟩ := HPU.out
        refine ⟨List.pairwise_append.2 ⟨p1, by simp, fun a ha b hb => ?_⟩, fun u hu => ?_⟩
        · simp only [List.mem_singleton] at hb
          have := p2 a ha
          omega
        · rcases List.mem_append.1 hu with hu | hu
          · have := p2 u hu; omega
          · simp only [List.mem_singleton] at hu; omega
      have HLN : Hid ((us ++ [(l2 : Int)]).length = k + 1) := by show _ = _; rw [List.length_append, HLU.out]; rfl
      have bA : Below wr.heap.size wr (wr.alloc (.cells #[.int .i64 (l2 : Int)] 3)) := (Below.refl _ _).alloc (Nat.le_refl _) _
      have HOA := Lib.hid (own_below HO.out bA)
      have HCA : Hid (CS (wr.alloc (.cells #[.int .i64 (l2 : Int)] 3)) (wr.heap.size + 1) (some ⟨wr.heap.size, 0, none⟩) (([(l2 : Int)] : List Int).map eI)) := fun _ => ⟨wr.heap.size, 0, rfl, by omega, fun q u hu => by
        have z := new_cells wr #[.int .i64 (l2 : Int)] 3 (0, 0) q u hu
        rwa [add_addr] at z⟩
      have HBA := Lib.hid (HB.out.trans (bA.mono HB.out.size))
      have hsA : w1.heap.size ≤ (wr.alloc (.cells #[.int .i64 (l2 : Int)] 3)).heap.size := HBA.out.size
      clear hx hc bA hl2
      go_wp2_with (first
        | (at_builtin; refine wpList_appendI _ rfl (.tmp 32) (.tmp 34) rfl w1.heap.size v us k HLU.out rfl HOA.out (some ⟨wr.heap.size, 0, none⟩) 1 1 _ [(l2 : Int)] (us ++ [(l2 : Int)]) (k + 1) rfl rfl HCA.out rfl HLN.out (by omega) hsA ?_; intro v4 w4 hown4 hg4; have HB4 := Lib.hid (own_grow HOA.out (Nat.le_refl _) HBA.out hsA hg4); have HO4 := Lib.hid hown4))
      exact ⟨⟨k + 1, l2, v4, us ++ [(l2 : Int)], hlt, by go_num, rfl, rfl, hl28, HLN, HPN, HO4, HB4⟩, by simp [intOf]; omega⟩
    · obtain rfl : k = n := by omega
      obtain ⟨A2, c2, rfl, hc2, hm2, hcs2, _⟩ := own_form HO.out
      have KW := Lib.hid (within_any A2 k c2 us 0 f t HLU.out.symm (by omega) hc2 HPU.out.1 wr hcs2)
      have HC2 := Lib.hid hcs2
      obtain ⟨fs, hfs⟩ : ∃ fs, fs = us.filter (inB f t) := ⟨_, rfl⟩
      rw [← hfs] at KW
      have HFS := Lib.hid hfs
      obtain ⟨m, hm⟩ : ∃ m, m = fs.length := ⟨_, rfl⟩
      rw [← hm] at KW
      have HM := Lib.hid hm
      have hmk : m ≤ k := by rw [hm, hfs, ← HLU.out]; exact List.length_filter_le _ _
      unfold maxLen at hm2
      clear hcs2 hfs hm
      go_wp2_with fail
      with_reducible refine KW.out.mono ?_
      rintro e w2 ⟨A3, c3, rfl, h3, b3⟩
      have HC3 := Lib.hid h3
      have HU2 := Lib.hid (HC2.out.up' b3)
      have HB2 := Lib.hid (HB1.out.trans ((HB.out.trans (b3.mono HB.out.size)).mono HB1.out.size))
      clear h3 b3
      go_wp2_with fail
      go_loop [12, 44] (fun s12 i => ∃ (j q : Nat), j ≤ k ∧ i = .int .i64 j ∧ s12 = .int .i64 q ∧ q ≤ j ∧ Hid (q = ((us.take j).filter (inB f t)).length)) (fun _ i => k - (intOf i).toNat)
      case atStart => exact ⟨0, 0, Nat.zero_le _, rfl, rfl, Nat.le_refl _, rfl⟩
      case round =>
        obtain ⟨j, q, hj, rfl, rfl, hqj, HQ⟩ := hrel
        by_cases hjt : j < k
        · have hjx : j < us.length := by rw [HLU.out]; exact hjt
          obtain ⟨b, o, rfl, hb, hc⟩ := HU2.out (by rw [List.length_map]; omega)
          have hcx := hc j _ (eI_at us j hjx)
          have hft := fil_take us (inB f t) j hjx
          have hfa := fil_at us (inB f t) j hjx
          obtain ⟨x, hx⟩ : ∃ x, x = us[j] := ⟨_, rfl⟩
          rw [← hx] at hcx hft hfa
          have HFT := Lib.hid hft
          have HFA := Lib.hid hfa
          clear hx hc hft hfa
          by_cases h1 : x < f
          · have HN1 : Hid (q = ((us.take (j + 1)).filter (inB f t)).length) := by
              show _ = _
              rw [HFT.out, show inB f t x = false by unfold inB; rw [decide_eq_false (show ¬ f ≤ x by omega)]; rfl, List.length_append, ← HQ.out]
              rfl
            go_wp2_with fail
            go_round
            case rel => exact ⟨j + 1, q, by omega, by go_num, rfl, by omega, HN1⟩
            case measure => simp [intOf]; omega
          · by_cases h2 : t ≤ x
            · have HN1 : Hid (q = ((us.take (j + 1)).filter (inB f t)).length) := by
                show _ = _
                rw [HFT.out, show inB f t x = false by unfold inB; rw [decide_eq_false (show ¬ x < t by omega), Bool.and_false], List.length_append, ← HQ.out]
                rfl
              go_wp2_with fail
              go_round
              case rel => exact ⟨j + 1, q, by omega, by go_num, rfl, by omega, HN1⟩
              case measure => simp [intOf]; omega
            · have hin : inB f t x = true := by unfold inB; rw [decide_eq_true (show f ≤ x by omega), decide_eq_true (show x < t by omega)]; rfl
              have hat : fs[q]? = some x := by rw [HFS.out, HQ.out]; exact HFA.out hin
              obtain ⟨hqm, hat2⟩ := List.getElem?_eq_some_iff.1 hat
              have hqm' : q < m := by rw [HM.out]; exact hqm
              obtain ⟨b3, o3, rfl, hb3, hc3⟩ := HC3.out (by rw [List.length_map]; omega)
              have hcq := hc3 q _ (eI_at fs q hqm)
              rw [hat2] at hcq
              have HN1 : Hid (q + 1 = ((us.take (j + 1)).filter (inB f t)).length) := by
                show _ = _
                rw [HFT.out, hin, List.length_append, ← HQ.out]
                rfl
              have hne : (x != x) = false := by simp
              clear hat hat2 hc3 hin hqm
              go_wp2_with fail
              go_round
              case rel => exact ⟨j + 1, q + 1, by omega, by go_num, by go_num, by omega, HN1⟩
              case measure => simp [intOf]; omega
        · obtain rfl : j = k := by omega
          have hqm : q = m := by rw [HQ.out, HM.out, HFS.out, List.take_of_length_le (by have := HLU.out; omega)]
          subst hqm
          go_wp2_with fail
          go_ret
          exact ⟨by simp, HB2.out⟩
end Go.Proofs.Ytgpdpmbgadjooaa
