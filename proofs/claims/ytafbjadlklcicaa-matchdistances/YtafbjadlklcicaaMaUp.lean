/- The law's up and rank. -/
import Derived.Test.YtafbjadlklcicaaMaRk
import Derived.Laws.EntriesVeiled
namespace Go.Proofs.Ytafbjadlklcicaa
open Go.RowKit Go.Shelf
set_option maxRecDepth 100000

theorem cntI_snoc (us : List Int) (x : Int) (k : Nat) (h : k < us.length) : cntI (us.take (k + 1)) x = cntI (us.take k) x + if us[k] ≤ x then 1 else 0 := by
  unfold cntI
  rw [List.take_succ_eq_append_getElem h, List.countP_append]
  simp [List.countP_cons]
set_option maxHeartbeats 2000000 in
theorem lrank_any (f t u x : Int) (A1 : Option Addr) (n1 c1 : Nat) (A2 : Option Addr) (n2 c2 : Nat) (ss ps : List Int) (hu : u = 0 ∨ u = 1 ∨ u = 2) (w : World) (h : Tx w A1 n1 c1 A2 n2 c2 ss ps) :
    Calls Try.prog 17 #[txV f t A1 n1 c1 A2 n2 c2, .int .i64 u, .int .i64 x] w fun e w' => e = .returned (.int .i64 (rkL u ss ps x)) ∧ Below w.heap.size w w' := by
  obtain ⟨X, hX⟩ : ∃ X, (w.alloc (.cells #[.int .i64 f, .int .i64 t, .slice A1 n1 c1, .slice A2 n2 c2] 38)).alloc (.cells #[] 3) = X := ⟨_, rfl⟩
  have bX : Below w.heap.size w X := by rw [← hX]; exact ((Below.refl _ _).alloc (Nat.le_refl _) _).alloc (by simp) _
  have h' := h.up bX
  have HX := Lib.hid hX
  have HB := Lib.hid bX
  have zz : ∀ j u, [Value.int .i64 f, .int .i64 t, .slice A1 n1 c1, .slice A2 n2 c2][j]? = some u → X.cell? ⟨w.heap.size, j, none⟩ = some u := fun j u hu => by
    rw [← hX]
    have := new_cells w #[.int .i64 f, .int .i64 t, .slice A1 n1 c1, .slice A2 n2 c2] 38 (0, 0) j u hu
    rw [add_addr, Nat.zero_add] at this
    exact Lib.cell?_alloc_some _ this
  have z2 := zz 2 _ rfl
  have z3 := zz 3 _ rfl
  clear hX bX h zz
  unfold txV rkL
  rcases hu with rfl | hu
  · go_enter Try.func17, Try.ntmps17
    clear z2 z3
    go_wp2_with fail
    go_ret
    exact ⟨rfl, by rw [HX.out]; exact HB.out⟩
  · obtain ⟨A, n, c, us, hn, hs, hb, hc⟩ : ∃ A n c us, n = us.length ∧ CS X X.heap.size A (iv us) ∧ n ≤ 1000 ∧ ((u = 1 ∧ A = A1 ∧ n = n1 ∧ c = c1 ∧ us = ss) ∨ (u = 2 ∧ A = A2 ∧ n = n2 ∧ c = c2 ∧ us = ps)) := by
      rcases hu with rfl | rfl
      · exact ⟨A1, n1, c1, ss, h'.l1, h'.s1, h'.b1, .inl ⟨rfl, rfl, rfl, rfl, rfl⟩⟩
      · exact ⟨A2, n2, c2, ps, h'.l2, h'.s2, h'.b2, .inr ⟨rfl, rfl, rfl, rfl, rfl⟩⟩
    obtain ⟨R, hR⟩ : ∃ R, R = cntI us x := ⟨_, rfl⟩
    have HRR : Hid ((if u = 0 then x else if u = 1 then (cntI ss x : Int) else (cntI ps x : Int)) = (R : Int)) := by
      rcases hc with ⟨rfl, _, _, _, rfl⟩ | ⟨rfl, _, _, _, rfl⟩ <;> rw [hR] <;> rfl
    rw [HRR.out]
    have HN := Lib.hid hn
    have HS := Lib.hid hs
    have HR := Lib.hid hR
    clear hn hs hR h' HRR
    go_enter Try.func17, Try.ntmps17
    rcases hc with ⟨rfl, rfl, rfl, rfl, rfl⟩ | ⟨rfl, rfl, rfl, rfl, rfl⟩
    all_goals
      go_upto_region 2 with fail
      rw [HX.out]
      go_wp2_with fail
      go_loopw [8, 24] (fun s8 i wr => ∃ j m : Nat, j ≤ n ∧ i = .int .i64 j ∧ s8 = .int .i64 m ∧ m ≤ j ∧ Hid (m = cntI (us.take j) x) ∧ Hid (Below X.heap.size X wr)) (fun _ i _ => n - (intOf i).toNat)
      case atStart => exact ⟨0, 0, Nat.zero_le _, rfl, rfl, Nat.le_refl _, rfl, Below.refl _ _⟩
      case round =>
        obtain ⟨j, m, hj, rfl, rfl, hm, HM, HB2⟩ := hrel
        by_cases hlt : j < n
        · have hju : j < us.length := by rw [← HN.out]; exact hlt
          have HLT := Lib.hid hlt
          obtain ⟨b, o, rfl, _, hc⟩ := (HS.out.below HB2.out) (by rw [List.length_map]; omega)
          have e0 := hc j (.int .i64 us[j]) (by rw [List.getElem?_map, List.getElem?_eq_getElem hju]; rfl)
          have HC := Lib.hid (cntI_snoc us x j hju)
          obtain ⟨y, hy⟩ : ∃ y, y = us[j] := ⟨_, rfl⟩
          rw [← hy] at e0 HC
          have wj : IntKind.i64.wrap ((j : Int) + 1) = (j : Int) + 1 := by rw [IntKind.wrap_i64]; omega
          have wm : IntKind.i64.wrap ((m : Int) + 1) = (m : Int) + 1 := by rw [IntKind.wrap_i64]; omega
          clear hc hy hju
          by_cases hyx : y ≤ x
          · have HM' : Hid (m + 1 = cntI (us.take (j + 1)) x) := by show _ = _; rw [HC.out, if_pos hyx, ← HM.out]
            go_wp2_with fail
            exact ⟨⟨j + 1, m + 1, HLT.out, by go_num, by go_num, by omega, HM', HB2.out⟩, by have := HLT.out; simp [intOf]; omega⟩
          · have HM' : Hid (m = cntI (us.take (j + 1)) x) := by show _ = _; rw [HC.out, if_neg hyx, ← HM.out, Nat.add_zero]
            go_wp2_with fail
            exact ⟨⟨j + 1, m, HLT.out, by go_num, rfl, by omega, HM', HB2.out⟩, by have := HLT.out; simp [intOf]; omega⟩
        · obtain rfl : j = n := by omega
          have HF : Hid (m = R) := by show _ = _; rw [HR.out, HM.out, List.take_of_length_le (by rw [HN.out]; exact Nat.le_refl _)]
          go_wp2_with fail
          go_ret
          exact ⟨by rw [HF.out]; rfl, HB.out.trans (HB2.out.mono HB.out.size)⟩
theorem and_15' (b : Int) : ∃ n : Nat, bits .and .i64 b 15 = (n : Int) ∧ n ≤ 15 :=  by
  have h : (BitVec.ofInt 64 b &&& BitVec.ofInt 64 15).toNat ≤ 15 := by
    rw [BitVec.toNat_and]
    exact Nat.le_trans Nat.and_le_right (by decide)
  refine ⟨(BitVec.ofInt 64 b &&& BitVec.ofInt 64 15).toNat, ?_, h⟩
  show IntKind.i64.wrap ((BitVec.ofInt 64 b &&& BitVec.ofInt 64 15).toNat : Int) = _
  rw [IntKind.wrap_i64]
  omega
def m15 (z : Int) : Int := bits .and .i64 z 15
theorem m15_le (z : Int) : 0 ≤ m15 z ∧ m15 z ≤ 15 := by
  obtain ⟨n, h1, h2⟩ := and_15' z
  unfold m15
  omega
def upR (last : Int) : List Int → List Int
  | [] => []
  | z :: t => (last + (1 + m15 z)) :: upR (last + (1 + m15 z)) t
def endR (last : Int) : List Int → Int
  | [] => last
  | z :: t => endR (last + (1 + m15 z)) t
theorem upR_len : ∀ (zs : List Int) (l : Int), (upR l zs).length = zs.length
  | [], _ => rfl
  | z :: t, l => by rw [upR, List.length_cons, upR_len t, List.length_cons]
theorem upR_snoc : ∀ (zs : List Int) (l z : Int), upR l (zs ++ [z]) = upR l zs ++ [endR l zs + (1 + m15 z)]
  | [], _, _ => rfl
  | y :: t, l, z => by rw [List.cons_append, upR, upR_snoc t, upR, endR, List.cons_append]
theorem endR_snoc : ∀ (zs : List Int) (l z : Int), endR l (zs ++ [z]) = endR l zs + (1 + m15 z)
  | [], _, _ => rfl
  | y :: t, l, z => by rw [List.cons_append, endR, endR_snoc t, endR]
theorem endR_le : ∀ (zs : List Int) (l : Int), l ≤ endR l zs ∧ endR l zs ≤ l + 16 * zs.length
  | [], l => by simp [endR]
  | y :: t, l => by
    have := endR_le t (l + (1 + m15 y))
    have := m15_le y
    rw [endR, List.length_cons]
    omega
theorem upR_gt : ∀ (zs : List Int) (l : Int), ∀ x ∈ upR l zs, l < x
  | [], _, x, h => by cases h
  | y :: t, l, x, h => by
    rw [upR] at h
    have := m15_le y
    rcases List.mem_cons.1 h with h | h
    · omega
    · have := upR_gt t _ x h; omega
theorem upR_rise : ∀ (zs : List Int) (l : Int), (upR l zs).Pairwise (· < ·)
  | [], _ => List.Pairwise.nil
  | y :: t, l => by
    rw [upR]
    exact List.pairwise_cons.2 ⟨fun x hx => upR_gt t _ x hx, upR_rise t _⟩
def upL (zs : List Int) : List Int := upR 0 (zs.take 50)
theorem upL_len (zs : List Int) : (upL zs).length ≤ 50 := by unfold upL; rw [upR_len, List.length_take]; omega
set_option maxHeartbeats 2000000 in
theorem up_any (A : Option Addr) (n c : Nat) (zs : List Int) (HN : Hid (n = zs.length)) (hn : n ≤ 9223372036854775807) (w : World) (h : CS w w.heap.size A (iv zs)) :
    Calls Try.prog 15 #[.slice A n c] w fun e w' => ∃ v, e = .returned v ∧ w'.ownsRow w.heap.size 3 1 v (upL zs).length (iv (upL zs)) ∧ Below w.heap.size w w' := by
  have HS := Lib.hid h
  have HO0 : Hid ((w.alloc (.cells #[] 3)).ownsRow w.heap.size 3 1 (.slice (some ⟨w.heap.size, 0, none⟩) 0 0) 0 (iv (upR 0 (zs.take 0)))) := own_lit w _ 1 (0, 0) rfl
  have HB0 : Hid (Below w.heap.size w (w.alloc (.cells #[] 3))) := (Below.refl _ _).alloc (Nat.le_refl _) _
  clear h
  go_enter Try.func15, Try.ntmps15
  go_wp2_with fail
  go_loopw [3, 4, 5] (fun s3 s4 i wr => ∃ (k : Nat) (l : Int), k ≤ n ∧ k ≤ 50 ∧ i = .int .i64 k ∧ s4 = .int .i64 l ∧ 0 ≤ l ∧ l ≤ 16 * k ∧ Hid (l = endR 0 (zs.take k)) ∧ Hid (wr.ownsRow w.heap.size 3 1 s3 k (iv (upR 0 (zs.take k)))) ∧ Hid (Below w.heap.size w wr)) (fun _ _ i _ => 50 - (intOf i).toNat)
  case atStart => exact ⟨0, 0, Nat.zero_le _, by omega, rfl, rfl, Int.le_refl _, by omega, rfl, HO0, HB0⟩
  case round =>
    obtain ⟨k, l, hk, hk5, rfl, rfl, hl0, hl1, HL, HO, HB⟩ := hrel
    obtain ⟨A3, c3, rfl, _⟩ := own_form HO.out
    by_cases hlt : k < n
    · by_cases h50 : k < 50
      · have hkz : k < zs.length := by rw [← HN.out]; exact hlt
        have HLT := Lib.hid hlt
        obtain ⟨b, o, rfl, _, hc⟩ := (HS.out.below HB.out) (by rw [List.length_map]; omega)
        have e0 := hc k (.int .i64 zs[k]) (by rw [List.getElem?_map, List.getElem?_eq_getElem hkz]; rfl)
        have HU : Hid (iv (upR 0 (zs.take (k + 1))) = iv (upR 0 (zs.take k)) ++ [.int .i64 (l + (1 + m15 zs[k]))]) := by show _ = _; rw [List.take_succ_eq_append_getElem hkz, upR_snoc, ← HL.out]; simp
        have HE : Hid (l + (1 + m15 zs[k]) = endR 0 (zs.take (k + 1))) := by show _ = _; rw [List.take_succ_eq_append_getElem hkz, endR_snoc, ← HL.out]
        obtain ⟨y, hy⟩ : ∃ y, y = zs[k] := ⟨_, rfl⟩
        rw [← hy] at e0 HU HE
        have hm := m15_le y
        unfold m15 at HU HE hm
        obtain ⟨q, hq⟩ : ∃ q, q = bits .and .i64 y 15 := ⟨_, rfl⟩
        rw [← hq] at HU HE hm
        have hq' : bits .and .i64 y 15 = q := hq.symm
        obtain ⟨l', hl'⟩ : ∃ l', l' = l + (1 + q) := ⟨_, rfl⟩
        rw [← hl'] at HU HE
        have w1 : wrap64 (1 + q) = 1 + q := by unfold wrap64; omega
        have w1' : IntKind.i64.wrap (1 + q) = 1 + q := by rw [IntKind.wrap_i64]; omega
        have w2 : wrap64 (l + (1 + q)) = l' := by rw [hl']; unfold wrap64; omega
        have w2' : IntKind.i64.wrap (l + (1 + q)) = l' := by rw [hl', IntKind.wrap_i64]; omega
        have hl'0 : 0 ≤ l' ∧ l' ≤ 16 * ((k + 1 : Nat) : Int) := by omega
        have HL'0 := Lib.hid hl'0
        have wk : IntKind.i64.wrap ((k : Int) + 1) = (k : Int) + 1 := by rw [IntKind.wrap_i64]; omega
        have hkI : (k : Int) < (n : Int) := by omega
        have h50I : (k : Int) < 50 := by omega
        obtain ⟨X, hX⟩ : ∃ X, wr.alloc (.cells #[.int .i64 l'] 3) = X := ⟨_, rfl⟩
        have bX : Below wr.heap.size wr X := by rw [← hX]; exact (Below.refl _ _).alloc (Nat.le_refl _) _
        have HCN : Hid (CS X X.heap.size (some ⟨wr.heap.size, 0, none⟩) [.int .i64 l']) := by
          have h := cells_new wr #[.int .i64 l'] 3 X.heap.size (by rw [← hX]; simp)
          rw [hX] at h
          exact h
        have HOX := Lib.hid (own_below HO.out bX)
        have hbs : w.heap.size ≤ X.heap.size := Nat.le_trans HB.out.size bX.size
        have HBX := Lib.hid (HB.out.trans (bX.mono HB.out.size))
        have HX := Lib.hid hX
        clear hc hy hkz hq hm hl' hl'0 hX bX
        go_wp2_with (at_builtin; (rw [HX.out]; refine wpList_appR elInt X rfl (.tmp 25) (.tmp 27) rfl w.heap.size (.slice A3 k c3) k (iv (upR 0 (zs.take k))) rfl HOX.out (some ⟨wr.heap.size, 0, none⟩) 1 1 X.heap.size [.int .i64 l'] rfl rfl (fun u hu => by simp at hu; subst hu; rfl) HCN.out (k + 1) rfl (by omega) hbs ?_; intro v7 w7 hown7 hg7 hv7; have HB7 := Lib.hid (own_grow HOX.out (Nat.le_refl _) HBX.out hbs hg7); have HO7 := Lib.hid hown7; clear hown7 hg7 hv7))
        exact ⟨⟨k + 1, l', HLT.out, by omega, by go_num, rfl, HL'0.out.1, HL'0.out.2, HE.out, by show World.ownsRow _ _ _ _ _ _ _; rw [HU.out]; exact HO7.out, HB7.out⟩, by simp [intOf]; omega⟩
      · obtain rfl : k = 50 := by omega
        have HF : Hid (upR 0 (zs.take 50) = upL zs) := rfl
        have hlen : 50 = (upL zs).length := by unfold upL; rw [upR_len, List.length_take, ← HN.out]; omega
        have HFF : Hid (wr.ownsRow w.heap.size 3 1 (.slice A3 50 c3) (upL zs).length (iv (upL zs))) := by show World.ownsRow _ _ _ _ _ _ _; rw [← hlen]; exact HO.out
        have hkI : (50 : Int) < (n : Int) := by omega
        clear hlen
        go_wp2_with fail
        go_ret
        exact ⟨_, rfl, HFF.out, HB.out⟩
    · obtain rfl : k = n := by omega
      have hlen : k = (upL zs).length := by unfold upL; rw [upR_len, List.length_take, ← HN.out]; omega
      have HFF : Hid (wr.ownsRow w.heap.size 3 1 (.slice A3 k c3) (upL zs).length (iv (upL zs))) := by
        show World.ownsRow _ _ _ _ _ _ _
        have h := HO.out
        rw [show zs.take k = zs.take 50 by rw [List.take_of_length_le (by rw [HN.out]; exact Nat.le_refl _), List.take_of_length_le (by rw [← HN.out]; exact hk5)]] at h
        rw [← hlen]
        exact h
      clear hlen
      go_wp2_with fail
      go_ret
      exact ⟨_, rfl, HFF.out, HB.out⟩
end Go.Proofs.Ytafbjadlklcicaa
