/- slices.DeleteFunc at spans. -/
import Derived.Test.YtafbjadlklcicaaMaDl
import Derived.Laws.EntriesVeiled
import Derived.Deep.DeepCutAuto
namespace Go.Proofs.Ytafbjadlklcicaa
open Go.RowKit
set_option maxRecDepth 100000

abbrev keptL (p : Sp → Bool) (l : List Sp) : List Sp := l.filter fun s => !p s
theorem kept_all {p : Sp → Bool} {l : List Sp} (h : l.any p = false) : keptL p l = l := List.filter_eq_self.2 fun s hs => by
  have := List.any_eq_false.1 h s hs
  simpa using this
/-- The row behind j rounds: the first i are what stays of the first j; behind j all is as it was. -/
structure DI (p : Sp → Bool) (l d : List Sp) (i j : Nat) : Prop where
  len : d.length = l.length
  i_ : i = (keptL p (l.take j)).length
  tk : d.take i = keptL p (l.take j)
  dr : ∀ k (h1 : k < d.length) (h2 : k < l.length), j ≤ k → d[k] = l[k]
theorem kept_snoc (p : Sp → Bool) (l : List Sp) (j : Nat) (hj : j < l.length) : keptL p (l.take (j + 1)) = keptL p (l.take j) ++ cond (p l[j]) [] [l[j]] := by
  unfold keptL
  rw [List.take_succ_eq_append_getElem hj, List.filter_append]
  refine congrArg _ ?_
  cases h : p l[j] <;> simp [h]
theorem DI.start {p : Sp → Bool} {l : List Sp} {k : Nat} (hk : k < l.length) (h1 : p l[k] = true) (h2 : (l.take k).any p = false) : DI p l l k (k + 1) := by
  have e : keptL p (l.take (k + 1)) = l.take k := by rw [kept_snoc p l k hk, h1, kept_all h2]; simp
  exact ⟨rfl, by rw [e, List.length_take]; omega, e.symm, fun _ _ _ _ => rfl⟩
theorem DI.lt {p : Sp → Bool} {l d : List Sp} {i j : Nat} (h : DI p l d i j) : i ≤ j := by
  rw [h.i_]
  exact Nat.le_trans (List.length_filter_le _ _) (by rw [List.length_take]; omega)
theorem DI.skip {p : Sp → Bool} {l d : List Sp} {i j : Nat} (h : DI p l d i j) (hj : j < l.length) (hp : p l[j] = true) : DI p l d i (j + 1) := by
  have e : keptL p (l.take (j + 1)) = keptL p (l.take j) := by rw [kept_snoc p l j hj, hp]; simp
  exact ⟨h.len, by rw [e]; exact h.i_, by rw [e]; exact h.tk, fun k h1 h2 h3 => h.dr k h1 h2 (by omega)⟩
theorem DI.keep {p : Sp → Bool} {l d : List Sp} {i j : Nat} (h : DI p l d i j) (hj : j < l.length) (hp : p l[j] = false) : DI p l (d.set i l[j]) (i + 1) (j + 1) := by
  have e : keptL p (l.take (j + 1)) = keptL p (l.take j) ++ [l[j]] := by rw [kept_snoc p l j hj, hp]; rfl
  have hij := h.lt
  have hl := h.len
  refine ⟨by rw [List.length_set]; exact hl, by rw [e, List.length_append, ← h.i_]; rfl, ?_, fun k h1 h2 h3 => ?_⟩
  · rw [e, ← h.tk, List.take_succ_eq_append_getElem (by rw [List.length_set]; omega), List.take_set_of_le (Nat.le_refl i)]
    simp
  · rw [List.getElem_set_ne (by omega)]
    exact h.dr k (by omega) h2 (by omega)
theorem DI.done {p : Sp → Bool} {l d : List Sp} {i : Nat} (h : DI p l d i l.length) : d.take i = keptL p l := by rw [h.tk, List.take_length]
theorem spCs_take : ∀ (l : List Sp) (i : Nat), (spCs l).take (i * 4) = spCs (l.take i)
  | [], i => by simp [spCs_nil]
  | s :: t, 0 => by simp [spCs_nil]
  | s :: t, i + 1 => by
    rw [List.take_succ_cons, spCs_cons, spCs_cons, show (i + 1) * 4 = (spC s).length + i * 4 by rw [show (spC s).length = 4 from rfl]; omega, List.take_length_add_append, spCs_take t i]
set_option maxHeartbeats 4000000 in
theorem delete_any (F : Nat) (cb : Array Value) (p : Sp → Bool) (base : Nat) (A : Option Addr) (n c : Nat) (l : List Sp) (HN : Hid (n = l.length)) (hn : n ≤ 100000) (w : World) (h : w.ownsRow base 26 4 (.slice A n c) n (spCs l)) (hF : Hid (FnD F cb p (Value.slice A n c).ownBlock w)) :
    Calls Try.prog 73 #[.slice A n c, .func (.func F) #[] cb] w fun e w' => ∃ m, e = .returned (.slice A m c) ∧ m = (keptL p l).length ∧ w'.ownsRow base 26 4 (.slice A m c) m (spCs (keptL p l)) ∧ w.grownBy w' (Value.slice A n c).ownBlock := by
  have HO := Lib.hid h
  have HCF := hF.out.1
  have KI := Lib.hid (sfirst_any F cb p A n c l HN hn w (by obtain ⟨A', c', e, _, _, h3, _⟩ := own_form h; injection e with e1 e2 e3; subst e1; exact h3) hF.out.s)
  clear h
  go_enter Try.func73, Try.ntmps73
  go_wp2_with fail
  with_reducible refine KI.out.mono ?_
  rintro e w1 ⟨r, rfl, hr, b1⟩
  have HB1 := Lib.hid b1
  have HR := Lib.hid hr
  clear hr b1 KI
  rcases HR.out with ⟨rfl, ha⟩ | ⟨k, hk, rfl, hpk, hbk⟩
  · have HE := Lib.hid (kept_all ha)
    clear ha HR
    go_wp2_with fail
    go_ret
    refine ⟨n, rfl, by rw [HE.out]; exact HN.out, ?_, grown_below HB1.out⟩
    rw [HE.out]
    exact own_below HO.out HB1.out
  · obtain ⟨g, rfl⟩ : ∃ g, A = some ⟨g, 0, none⟩ := by
      rcases HO.out.2 with ⟨_, h⟩ | ⟨g, _, _, e, _⟩
      · have := HN.out; omega
      · injection e with e _ _
        exact ⟨g, e⟩
    have hk1 : ((k : Int) == -1) = false := beq_eq_false_iff_ne.2 (by omega)
    have HD0 : Hid (DI p l l k (k + 1)) := DI.start hk hpk hbk
    have HO1 : Hid (w1.ownsRow base 26 4 (.slice (some ⟨g, 0, none⟩) n c) n (spCs l)) := own_below HO.out HB1.out
    have HG1 : Hid (w.grownBy w1 (some g)) := grown_below HB1.out
    have hkn : k < n := by rw [HN.out]; exact hk
    have hnc : n ≤ c := by obtain ⟨A', c', e, h1, _⟩ := own_form HO.out; injection e with _ _ e3; subst e3; exact h1
    have HKN := Lib.hid hkn
    have HNC := Lib.hid hnc
    have wk : IntKind.i64.wrap ((k : Int) + 1) = ((k + 1 : Nat) : Int) := by rw [IntKind.wrap_i64]; omega
    clear hk hpk hbk HR hkn hnc
    go_wp2_with fail
    go_loopw [5, 6] (fun s5 s6 wr => ∃ (i j : Nat) (d : List Sp), s5 = .int .i64 i ∧ s6 = .int .i64 j ∧ j ≤ n ∧ i < j ∧ Hid (DI p l d i j) ∧ Hid (wr.ownsRow base 26 4 (.slice (some ⟨g, 0, none⟩) n c) n (spCs d)) ∧ Hid (w.grownBy wr (some g))) (fun _ s6 _ => n - (intOf s6).toNat)
    case atStart => exact ⟨k, k + 1, l, rfl, rfl, HKN.out, Nat.lt_succ_self k, HD0, HO1, HG1⟩
    case round =>
      obtain ⟨i, j, d, rfl, rfl, hjn, hij, HD, HW, HG⟩ := hrel
      by_cases hlt : j < n
      · have hjd : j < d.length := by rw [HD.out.len, ← HN.out]; exact hlt
        have hjl : j < l.length := by rw [← HN.out]; exact hlt
        have HLT := Lib.hid hlt
        have hdj := HD.out.dr j hjd hjl (Nat.le_refl j)
        obtain ⟨c0, c1, c2, c3⟩ := spCs_at d j hjd
        rw [hdj] at c0 c1 c2 c3
        have e0 := (HW.out.cellAt (j * 4) (by omega)).trans c0
        have e1 := (HW.out.cellAt (j * 4 + 1) (by omega)).trans c1
        have e2 := (HW.out.cellAt (j * 4 + 2) (by omega)).trans c2
        have e3 := (HW.out.cellAt (j * 4 + 3) (by omega)).trans c3
        obtain ⟨q, hq⟩ : ∃ q, q = p l[j] := ⟨_, rfl⟩
        have HSK : Hid (q = true → DI p l d i (j + 1)) := fun h => HD.out.skip hjl (hq.symm.trans h)
        have HKP : Hid (q = false → DI p l (d.set i l[j]) (i + 1) (j + 1)) := fun h => HD.out.keep hjl (hq.symm.trans h)
        obtain ⟨s, hs⟩ : ∃ s, s = l[j] := ⟨_, rfl⟩
        rw [← hs] at e0 e1 e2 e3 hq HKP
        have HLD : Hid (d.length = n) := by show _ = _; rw [HD.out.len, HN.out]
        obtain ⟨X, hX⟩ : ∃ X, wr.alloc (.cells #[.int .i64 s.1, .int .i64 s.2.1, .int .i64 s.2.2.1, .int .i64 s.2.2.2] 26) = X := ⟨_, rfl⟩
        have bX : Below wr.heap.size wr X := by rw [← hX]; exact (Below.refl _ _).alloc (Nat.le_refl _) _
        have HGX : Hid (w.grownBy X (some g)) := grown_trans HG.out (grown_below bX)
        have KF := hF.out.2 X HGX.out s
        rw [← hq] at KF
        have HKF := Lib.hid KF
        have HX := Lib.hid hX
        have HBX := Lib.hid bX
        have wj : IntKind.i64.wrap ((j : Int) + 1) = ((j + 1 : Nat) : Int) := by rw [IntKind.wrap_i64]; omega
        have wi : IntKind.i64.wrap ((i : Int) + 1) = ((i + 1 : Nat) : Int) := by rw [IntKind.wrap_i64]; omega
        have hjI : (j : Int) < (n : Int) := by omega
        have hiI : (i : Int) < (n : Int) := by omega
        clear hX bX hs hq KF c0 c1 c2 c3 hdj hjd hjl
        obtain ⟨f, t, u, v⟩ := s
        simp only at e0 e1 e2 e3 HKF HX
        go_upto_region 8 with fail
        rw [HX.out]
        clear e0 e1 e2 e3
        have x0 : X.cell? ⟨wr.heap.size, 0, none⟩ = some (.int .i64 f) := by rw [← HX.out]; exact new_cells wr #[.int .i64 f, .int .i64 t, .int .i64 u, .int .i64 v] 26 (0, 0) 0 _ rfl
        have x1 : X.cell? ⟨wr.heap.size, 1, none⟩ = some (.int .i64 t) := by rw [← HX.out]; exact new_cells wr #[.int .i64 f, .int .i64 t, .int .i64 u, .int .i64 v] 26 (0, 0) 1 _ rfl
        have x2 : X.cell? ⟨wr.heap.size, 2, none⟩ = some (.int .i64 u) := by rw [← HX.out]; exact new_cells wr #[.int .i64 f, .int .i64 t, .int .i64 u, .int .i64 v] 26 (0, 0) 2 _ rfl
        have x3 : X.cell? ⟨wr.heap.size, 3, none⟩ = some (.int .i64 v) := by rw [← HX.out]; exact new_cells wr #[.int .i64 f, .int .i64 t, .int .i64 u, .int .i64 v] 26 (0, 0) 3 _ rfl
        go_wp2_with fail
        with_reducible refine HKF.out.mono ?_
        rintro e w5 ⟨rfl, b5⟩
        have y0 := (b5.cell (World.block_lt_of_cell? X _ x0)).trans x0
        have y1 := (b5.cell (World.block_lt_of_cell? X _ x1)).trans x1
        have y2 := (b5.cell (World.block_lt_of_cell? X _ x2)).trans x2
        have y3 := (b5.cell (World.block_lt_of_cell? X _ x3)).trans x3
        have HG5 : Hid (w.grownBy w5 (some g)) := grown_trans HGX.out (grown_below b5)
        have HW5 := Lib.hid (own_below (own_below HW.out HBX.out) b5)
        clear x0 x1 x2 x3 b5
        cases q
        · have HK := Lib.hid (HKP.out rfl)
          obtain ⟨h4, g4⟩ := stored4 HW5.out i (by rw [HLD.out]; omega) (f, t, u, v)
          have HW6 := Lib.hid h4
          have HG6 : Hid (w.grownBy _ (some g)) := grown_trans HG5.out g4
          have ci : ∀ m, m < 4 → (w5.cell? ⟨g, i * 4 + m, none⟩).isSome = true := fun m hm => by rw [HW5.out.cellAt (i * 4 + m) (by omega)]; simp [spCs_len, HLD.out]; omega
          have fi : ∀ m, w5.frozen? ⟨g, m, none⟩ = false := fun m => HW5.out.frozenAt m
          have c0 := ci 0 (by omega)
          have c1 := ci 1 (by omega)
          have c2 := ci 2 (by omega)
          have c3 := ci 3 (by omega)
          rw [Nat.add_zero] at c0
          obtain ⟨z0, k0⟩ := Option.isSome_iff_exists.1 c0
          obtain ⟨z1, k1⟩ := Option.isSome_iff_exists.1 c1
          obtain ⟨z2, k2⟩ := Option.isSome_iff_exists.1 c2
          obtain ⟨z3, k3⟩ := Option.isSome_iff_exists.1 c3
          clear ci c0 c1 c2 c3 h4 g4
          go_wp2_with fail
          exact ⟨⟨i + 1, j + 1, _, by go_num, by go_num, HLT.out, by omega, HK, HW6, HG6⟩, by have := HLT.out; simp [intOf]; omega⟩
        · have HK := Lib.hid (HSK.out rfl)
          go_wp2_with fail
          exact ⟨⟨i, j + 1, d, rfl, by go_num, HLT.out, by omega, HK, HW5, HG5⟩, by have := HLT.out; simp [intOf]; omega⟩
      · obtain rfl : j = n := by omega
        have HD' : Hid (DI p l d i l.length) := by rw [← HN.out]; exact HD.out
        have HE : Hid (d.take i = keptL p l ∧ i = (keptL p l).length) := ⟨HD'.out.done, by have := HD'.out.i_; rwa [List.take_length] at this⟩
        have hiI : (i : Int) < (j : Int) := by omega
        have hinc : (i : Int) ≤ (c : Int) := by have := HNC.out; omega
        obtain ⟨vs, hvl, hcl⟩ := run_clear4 wr 0 g (i * 4) (j - i) (c - i) (by omega) (fun k hk => by rw [HW.out.cellAt (i * 4 + k) (by omega)]; have := HW.out.1; rw [List.getElem?_eq_getElem (by rw [this]; omega)]; rfl) (fun k _ => HW.out.frozenAt _)
        have hci : ¬ c = i := by have := HNC.out; omega
        obtain ⟨ys, o1, o2, o3⟩ := own_setCells vs (i * 4) wr (spCs d) HW.out
        have HF : Hid (∃ m, Ending.returned (Value.slice (some ⟨g, 0, none⟩) i c) = .returned (.slice (some ⟨g, 0, none⟩) m c) ∧ m = (keptL p l).length ∧ (wr.setCells g (i * 4) vs).ownsRow base 26 4 (.slice (some ⟨g, 0, none⟩) m c) m (spCs (keptL p l)) ∧ w.grownBy (wr.setCells g (i * 4) vs) (some g)) := by
          refine ⟨i, rfl, HE.out.2, ?_, grown_trans HG.out o3⟩
          have h := own_cut o1 (m := i) (by omega)
          rw [o2, spCs_take, HE.out.1] at h
          exact h
        clear HN HKN o1 o2 o3 hvl
        go_wp2_with fail
        go_ret
        exact HF.out
end Go.Proofs.Ytafbjadlklcicaa
