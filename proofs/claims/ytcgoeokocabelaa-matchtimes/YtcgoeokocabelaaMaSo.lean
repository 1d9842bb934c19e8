/- some: a match for each choice of so many. -/
import Derived.Test.YtcgoeokocabelaaMaFe
namespace Go.Proofs.Ytcgoeokocabelaa
open Go.RowKit
set_option maxRecDepth 100000

theorem make_I (n : Nat) (hn : n ≤ 1000000) (W : World) : (Instr.makeSlice 45 (.int .i64 (n : Int)) (.int .i64 (n : Int))).run Try.prog W = .ok (.slice (some ⟨W.heap.size, 0, none⟩) n n) (W.alloc (.cells (madeCells #[.int .i64 0] (n * 1)) 3)) := by
  obtain ⟨i0, hi0, hz0, hz1, hz2⟩ := info_parts infoInt
  have h := run_make (P := Try.prog) W 45 3 i0 _ Try.underlying45 hi0 hz0 .i64 .i64 (n : Int) (n : Int) (by omega) (by omega) (by rw [hz2]; omega) (by omega)
  rw [h, hz1]
  simp [Value.cells]
theorem made_I (W : World) (n : Nat) : CH (W.alloc (.cells (madeCells #[.int .i64 0] (n * 1)) 3)) W.heap.size (List.replicate n 0) := by
  show (W.alloc _).heap[W.heap.size]? = _
  rw [World.alloc_heap_new]
  congr 2
  apply Array.ext
  · simp [madeCells, ciV]
  · intro i h1 h2
    simp [madeCells, ciV, Nat.mod_one]
/-- The first choice, as far as it is written. -/
def fst_ (k j : Nat) : List Nat := List.range' 0 j ++ List.replicate (k - j) 0
theorem fst_len (k j : Nat) (h : j ≤ k) : (fst_ k j).length = k := by unfold fst_; rw [List.length_append, List.length_range', List.length_replicate]; omega
theorem fst_set (k j : Nat) (h : j < k) : (fst_ k j).set j j = fst_ k (j + 1) := by
  unfold fst_
  rw [List.set_append_right _ _ (by rw [List.length_range']; exact Nat.le_refl _), List.length_range', Nat.sub_self, show k - j = (k - (j + 1)) + 1 by omega, List.replicate_succ, List.set_cons_zero, List.range'_1_concat]
  simp
theorem fst_zero (k : Nat) : fst_ k 0 = List.replicate k 0 := by unfold fst_; simp
theorem fst_end (k : Nat) : fst_ k k = List.range' 0 k := by unfold fst_; simp
theorem MK.stored {w wr w' : World} {b : Nat} {v : Value} {zs : List (Value × Value)} {ms : List Mt} (h : MK w wr v zs ms) (hn : v.ownBlock ≠ some b ∧ ∀ z ∈ zs, At (fun g => g ≠ b) z.1 ∧ At (fun g => g ≠ b) z.2) (hb : w.heap.size ≤ b) (hg : wr.grownBy w' (some b)) : MK w w' v zs ms := by
  obtain ⟨_, _, _, _, _, _, hob⟩ := own_form h.own
  have same : ∀ g, g ≠ b → g < wr.heap.size → w'.heap[g]? = wr.heap[g]? ∧ g < w'.heap.size := fun g h1 h2 => ⟨hg.block g h2 (fun e => by injection e with e; exact h1 e), Nat.lt_of_lt_of_le h2 hg.size⟩
  refine ⟨own_at h.own fun g hg' hlt => (same g (fun e => hn.1 (by rw [hg', e])) hlt).1, ⟨h.mz.len, fun k h1 h2 => ?_⟩, h.kb.grown hg (by have := h.kb.size; omega) (fun k e => by injection e with e; omega), h.fz⟩
  obtain ⟨s1, s2⟩ := h.mz.at_ k h1 h2
  obtain ⟨a1, a2⟩ := hn.2 zs[k] (List.getElem_mem h1)
  exact ⟨s1.move a1 same, s2.move a2 same⟩
def lenV : Value → Nat
  | .slice _ n _ => n
  | _ => 0
def SoQ (w : World) (L : List Mt) (e : Ending) (w' : World) : Prop := ∃ A c, e = .returned (.tuple #[.slice A L.length c, .int .i64 0]) ∧ MS w' w'.heap.size A L ∧ Below w.heap.size w w'
theorem someL_none (a : List Mt) (k : Nat) (h : a.length < k) : someL a k = [] := by
  unfold someL
  rw [allF_none _ _ _ (by omega) (by omega)]
  rfl
theorem someL_few (a : List Mt) (k : Nat) (h : a.length ≤ 7) : (someL a k).length ≤ 35 := by
  rcases Nat.lt_or_ge a.length k with hk | hk
  · rw [someL_none a k hk]; exact Nat.zero_le _
  · unfold someL
    rw [List.length_map]
    exact allF_seven ⟨a.length, by omega⟩ ⟨k, by omega⟩
theorem suf_pos (of : Nat) (c : List Nat) (h : okC of c) : 0 < (suf of c).length := by
  obtain ⟨h1, h2⟩ := next_suf of c h
  cases hn : nextL of c with
  | none => rw [h2 hn]; exact Nat.one_pos
  | some c' => rw [(h1 c' hn).1]; exact Nat.succ_pos _
theorem okC_lt (of : Nat) : ∀ c : List Nat, okC of c → ∀ x ∈ c, x < of
  | [], _, x, h => by cases h
  | i :: t, h, x, hx => by
    rcases List.mem_cons.1 hx with e | hx
    · have := h.1; omega
    · exact okC_lt of t h.2 x hx
def NB (b : Nat) (v : Value) (zs : List (Value × Value)) : Prop := v.ownBlock ≠ some b ∧ ∀ z ∈ zs, At (fun g => g ≠ b) z.1 ∧ At (fun g => g ≠ b) z.2
/-- What is still to come. -/
def Left (wr : World) (b n k : Nat) (a : List Mt) (ms : List Mt) : Prop := ∃ c, CH wr b c ∧ okC n c ∧ c.length = k ∧ ms ++ (suf n c).map (chM a) = someL a k
theorem some_no (A : Option Addr) (n cA k : Nat) (hk : n < k) (hkl : k ≤ 1000) (w : World) :
    Calls Try.prog 84 #[.slice A n cA, .int .i64 (k : Int)] w (SoQ w []) := by
  have hmx : max (k : Int) 0 = (k : Int) := by omega
  have hgt : decide ((n : Int) < (k : Int)) = true := decide_eq_true (by omega)
  go_enter Try.func84, Try.ntmps84
  go_wp2_with fail
  go_ret2
  exact ⟨_, _, rfl, MS.nil _ _ _, Below.refl _ _⟩
set_option maxHeartbeats 4000000 in
theorem some_yes (A : Option Addr) (n cA k : Nat) (a : List Mt) (HN : Hid (n = a.length)) (hn : n ≤ 7) (hk : k ≤ n) (HM : Hid (∀ m ∈ a, m.1.length ≤ 100 ∧ m.2.length ≤ 100)) (w : World) (hA : MS w w.heap.size A a) :
    Calls Try.prog 84 #[.slice A n cA, .int .i64 (k : Int)] w (SoQ w (someL a k)) := by
  have hmx : max (k : Int) 0 = (k : Int) := by omega
  have hgt : decide ((n : Int) < (k : Int)) = false := decide_eq_false (by omega)
  have HA := Lib.hid hA
  have KF := Lib.hid (few_any n k hk hn w)
  obtain ⟨M, hM⟩ : ∃ M, M = (someL a k).length := ⟨_, rfl⟩
  have hM35 : M ≤ 35 := by rw [hM]; exact someL_few a k (by rw [← HN.out]; exact hn)
  have HMM := Lib.hid hM
  have HKN := Lib.hid hk
  have hk7 : k ≤ 7 := by omega
  clear hA hM
  go_enter Try.func84, Try.ntmps84
  go_wp2_with fail
  with_reducible refine KF.out.mono ?_
  rintro e w1 ⟨rfl, b1⟩
  have hmk := make_I k (by omega) w1
  obtain ⟨W, hW⟩ : ∃ W, w1.alloc (.cells (madeCells #[.int .i64 0] (k * 1)) 3) = W := ⟨_, rfl⟩
  rw [hW] at hmk
  have bW : Below w1.heap.size w1 W := by rw [← hW]; exact (Below.refl _ _).alloc (Nat.le_refl _) _
  have hC0 : CH W w1.heap.size (fst_ k 0) := by rw [← hW, fst_zero]; exact made_I w1 k
  obtain ⟨b, hb⟩ : ∃ b, b = w1.heap.size := ⟨_, rfl⟩
  rw [← hb] at hmk hC0
  have hbw : w.heap.size ≤ b := by rw [hb]; exact b1.size
  have HC0 := Lib.hid hC0
  have HBW := Lib.hid (b1.trans (bW.mono b1.size))
  clear b1 bW hW hb hC0
  go_wp2_with fail
  go_loopw [25] (fun i wr => ∃ j : Nat, j ≤ k ∧ i = .int .i64 j ∧ Hid (CH wr b (fst_ k j)) ∧ Hid (Below w.heap.size w wr)) (fun i _ => k - (intOf i).toNat)
  case atStart => exact ⟨0, Nat.zero_le _, rfl, HC0, HBW⟩
  case round =>
    obtain ⟨j, hj, rfl, HC, HB⟩ := hrel
    by_cases hlj : j < k
    · have HLJ := Lib.hid hlj
      have hjl : j < (fst_ k j).length := by rw [fst_len k j hj]; exact hlj
      have e0 := HC.out.cell j hjl
      have f0 := HC.out.frozen j
      obtain ⟨old, hold⟩ : ∃ old, old = (fst_ k j)[j] := ⟨_, rfl⟩
      rw [← hold] at e0
      have HC2 : Hid (CH (wr.setCell ⟨b, j, none⟩ (.int .i64 (j : Int))) b (fst_ k (j + 1))) := by show CH _ _ _; rw [← fst_set k j hlj]; exact HC.out.set j j
      have HB2 : Hid (Below w.heap.size w (wr.setCell ⟨b, j, none⟩ (.int .i64 (j : Int)))) := HB.out.setCell (p := ⟨b, j, none⟩) hbw _
      have wj : IntKind.i64.wrap ((j : Int) + 1) = (j : Int) + 1 := by rw [IntKind.wrap_i64]; omega
      clear hold hjl
      go_wp2_with fail
      exact ⟨⟨j + 1, HLJ.out, by go_num, HC2, HB2⟩, by have := HLJ.out; simp [intOf]; omega⟩
    · obtain rfl : k = j := by omega
      have HC2 : Hid (CH wr b (List.range' 0 k)) := by have := HC.out; rwa [fst_end] at this
      have HOK : Hid (okC n (List.range' 0 k)) := okC_range n k 0 (by have := HKN.out; omega)
      have HSU : Hid ((suf n (List.range' 0 k)).map (chM a) = someL a k) := by show _ = _; rw [suf_first n k 0 (by have := HKN.out; omega), HN.out]; rfl
      clear HC hj hlj
      go_wp2_with fail
      have HL0 : Hid (true = true → Left wr b n k a []) := fun _ => ⟨_, HC2.out, HOK.out, by simp, by rw [List.nil_append]; exact HSU.out⟩
      have HMK0 : Hid (MK w wr (.slice none 0 0) [] []) := ⟨World.ownsRow_nil _ _ _ _, MZ.nil _ _, HB.out, fun z h => by cases h⟩
      have HNB0 : Hid (NB b (.slice none 0 0) []) := ⟨by simp [Value.ownBlock], fun z h => by cases h⟩
      have HBL := Lib.hid HC2.out.lt
      clear HC2 HOK HSU
      go_loopw [6, 9] (fun s6 s9 wr => ∃ (v : Value) (zs : List (Value × Value)) (ms : List Mt) (bo : Bool), v = s6 ∧ s9 = .bool bo ∧ ms.length ≤ M ∧ Hid (MK w wr v zs ms) ∧ Hid (NB b v zs) ∧ Hid (bo = true → Left wr b n k a ms) ∧ Hid (bo = false → ms = someL a k) ∧ Hid (b < wr.heap.size)) (fun s6 _ _ => M - lenV s6)
      case atStart => exact ⟨_, [], [], true, rfl, rfl, Nat.zero_le _, HMK0, HNB0, HL0, (fun h => by cases h), HBL⟩
      case round =>
        obtain ⟨v, zs, ms, bo, rfl, rfl, hml, HK, HNB, HLF, HDN, HBB⟩ := hrel
        cases bo
        · obtain ⟨A6, c6, rfl, _, _, m6⟩ := HK.out.out
          have HF : Hid (SoQ w (someL a k) (.returned (.tuple #[.slice A6 ms.length c6, .int .i64 0])) wr) := by
            have e := HDN.out rfl
            rw [e] at m6 ⊢
            exact ⟨_, _, rfl, m6, HK.out.kb⟩
          clear m6
          go_wp2_with fail
          go_ret2
          exact HF.out
        · obtain ⟨c, hC, hok, hck, heq⟩ := HLF.out rfl
          have hlt : ms.length < M := by
            have h1 := congrArg List.length heq
            rw [List.length_append, List.length_map, ← HMM.out] at h1
            have := suf_pos n c hok
            omega
          have HLT := Lib.hid hlt
          have hzl : zs.length = ms.length := HK.out.mz.len
          have HEQ := Lib.hid heq
          have HOK := Lib.hid hok
          have hcl := okC_lt n c hok
          have KC := Lib.hid (chosen_any A n cA b k k a c ⟨HN.out, hck.symm⟩ (by omega) HM.out hcl wr (HA.out.up HK.out.kb) hC)
          obtain ⟨A6, c6, rfl, _⟩ := own_form HK.out.own
          rw [hzl] at HK HNB ⊢
          obtain ⟨L, hL⟩ : ∃ L, L = ms.length := ⟨_, rfl⟩
          rw [← hL] at HK HNB ⊢ hml hlt HLT hzl
          have HLM := Lib.hid hL
          have HZL := Lib.hid hzl
          have HCK := Lib.hid hck
          have HCH := Lib.hid hC
          have HCV : Hid (∀ x ∈ c, x ≤ 1000) := fun x hx => by have := hcl x hx; omega
          clear hL heq hok hC hcl hck hzl
          go_wp2_with fail
          with_reducible refine KC.out.mono ?_
          rintro e w5 ⟨z0, z1, rfl, s0, s1, b5, f0, f1⟩
          obtain ⟨T0, g0, rfl, _⟩ := id s0
          obtain ⟨T1, g1, rfl, _⟩ := id s1
          obtain ⟨l0, hl0⟩ : ∃ l, l = (chM a c).1.length := ⟨_, rfl⟩
          obtain ⟨l1, hl1⟩ : ∃ l, l = (chM a c).2.length := ⟨_, rfl⟩
          rw [← hl0] at s0 f0 ⊢
          rw [← hl1] at s1 f1 ⊢
          obtain ⟨X, hX⟩ : ∃ X, w5.alloc (.cells #[.slice T0 l0 g0, .slice T1 l1 g1] 34) = X := ⟨_, rfl⟩
          have bX : Below w5.heap.size w5 X := by rw [← hX]; exact (Below.refl _ _).alloc (Nat.le_refl _) _
          have HCN : Hid (CS X X.heap.size (some ⟨w5.heap.size, 0, none⟩) [.slice T0 l0 g0, .slice T1 l1 g1]) := by
            have h := cells_new w5 #[.slice T0 l0 g0, .slice T1 l1 g1] 34 X.heap.size (by rw [← hX]; simp)
            rw [hX] at h
            exact h
          have bwX := b5.trans (bX.mono b5.size)
          have HOX : Hid (X.ownsRow w.heap.size 34 2 (.slice A6 L c6) L (zC zs)) := by have := own_below HK.out.own bwX; rw [HZL.out] at this; exact this
          have HSX := Lib.hid (And.intro (s0.up bX) (And.intro (s1.up bX) (And.intro f0 (And.intro f1 bwX))))
          have hbs : w.heap.size ≤ X.heap.size := by have := HK.out.kb.size; have := bwX.size; omega
          have HX := Lib.hid hX
          clear s0 s1 f0 f1 b5 bX hX bwX hl0 hl1 KC
          go_wp2_with (at_builtin; (rw [HX.out]; refine wpList_appR elMt X rfl (.tmp 38) (.tmp 42) rfl w.heap.size (.slice A6 L c6) L (zC zs) rfl HOX.out (some ⟨w5.heap.size, 0, none⟩) 1 1 X.heap.size [.slice T0 l0 g0, .slice T1 l1 g1] rfl rfl (fun u hu => by simp at hu; rcases hu with rfl | rfl <;> rfl) HCN.out (L + 1) rfl (by omega) hbs ?_; intro v4 w4 hown4 hg4 hv4; rw [← HZL.out] at hown4; have HM4 := Lib.hid (HK.out.app HSX.out.2.2.2.2 (.slice T0 l0 g0, .slice T1 l1 g1) (chM a c) HSX.out.1 HSX.out.2.1 HSX.out.2.2.1 HSX.out.2.2.2.1 hown4 hg4 hv4); have HG4 := Lib.hid (And.intro hg4 hv4); clear hown4 hg4 hv4))
          have hbX : b < X.heap.size := Nat.lt_of_lt_of_le HBB.out HSX.out.2.2.2.2.size
          have HN4 : Hid (NB b v4 (zs ++ [(.slice T0 l0 g0, .slice T1 l1 g1)])) := by
            refine ⟨?_, fun z hz => ?_⟩
            · rcases HG4.out.2 with h | h
              · rw [h]; exact HNB.out.1
              · rw [h]; intro e; injection e with e; omega
            · rcases List.mem_append.1 hz with hz | hz
              · exact HNB.out.2 z hz
              · rw [List.mem_singleton.1 hz]
                have hq : ∀ g, wr.heap.size ≤ g → g ≠ b := fun g hg e => by have := HBB.out; omega
                exact ⟨HSX.out.2.2.1.imp hq, HSX.out.2.2.2.1.imp hq⟩
          have hC4 : CH w4 b c := (HCH.out.below HSX.out.2.2.2.2).kept HG4.out.1 (fun e => HNB.out.1 e.symm)
          have KX := Lib.hid (next_any b k k n c HCK.out.symm (by omega) (Nat.le_refl _) HCV.out w4 hC4)
          have hb4 : b < w4.heap.size := hC4.lt
          clear hC4 hbX HOX HCN HX
          go_wp2_with fail
          with_reducible refine KX.out.mono ?_
          rintro e w6 ⟨g6, h6⟩
          have HK6 := Lib.hid (HM4.out.stored HN4.out hbw g6)
          have HB6 : Hid (b < w6.heap.size) := Nat.lt_of_lt_of_le hb4 g6.size
          have hne : Hid (L + 1 = (ms ++ [chM a c]).length) := by show _ = _; rw [List.length_append, HLM.out]; rfl
          rcases h6 with ⟨hn6, rfl, hc6⟩ | ⟨c', hn6, rfl, hc6⟩
          · have HD : Hid (ms ++ [chM a c] = someL a k) := by
              have h := HEQ.out
              rw [(next_suf n c HOK.out).2 hn6] at h
              exact h
            clear hn6 hc6 g6 KX
            go_wp2_with fail
            obtain ⟨A7, c7, rfl, _, _, _⟩ := HK6.out.out
            refine ⟨⟨_, _, ms ++ [chM a c], false, rfl, rfl, ?_, HK6, HN4, (fun h => by cases h), (fun _ => HD.out), HB6⟩, ?_⟩
            · rw [← hne.out]; exact HLT.out
            · have := HLT.out; simp only [lenV]; rw [← hne.out]; omega
          · have HD : Hid (true = true → Left w6 b n k a (ms ++ [chM a c])) := fun _ => by
              obtain ⟨e1, e2, e3⟩ := (next_suf n c HOK.out).1 c' hn6
              refine ⟨c', hc6, e2, by rw [e3, HCK.out], ?_⟩
              have h := HEQ.out
              rw [e1, List.map_cons] at h
              rw [List.append_assoc]
              exact h
            clear hn6 hc6 g6 KX
            go_wp2_with fail
            obtain ⟨A7, c7, rfl, _, _, _⟩ := HK6.out.out
            refine ⟨⟨_, _, ms ++ [chM a c], true, rfl, rfl, ?_, HK6, HN4, (fun _ => HD.out trivial), (fun h => by cases h), HB6⟩, ?_⟩
            · rw [← hne.out]; exact HLT.out
            · have := HLT.out; simp only [lenV]; rw [← hne.out]; omega
theorem some_any (A : Option Addr) (n cA k : Nat) (a : List Mt) (HN : Hid (n = a.length)) (hn : n ≤ 7) (hk : k ≤ 1000) (HM : Hid (∀ m ∈ a, m.1.length ≤ 100 ∧ m.2.length ≤ 100)) (w : World) (hA : MS w w.heap.size A a) :
    Calls Try.prog 84 #[.slice A n cA, .int .i64 (k : Int)] w (SoQ w (someL a k)) := by
  rcases Nat.lt_or_ge n k with h | h
  · rw [someL_none a k (by rw [← HN.out]; exact h)]
    exact some_no A n cA k h hk w
  · exact some_yes A n cA k a HN hn h HM w hA
end Go.Proofs.Ytcgoeokocabelaa
