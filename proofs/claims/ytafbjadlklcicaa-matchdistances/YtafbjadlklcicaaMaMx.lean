/- slices.MinFunc at spans, by a number of theirs. -/
import Derived.Test.YtafbjadlklcicaaMaIs
import Derived.Laws.EntriesVeiled
namespace Go.Proofs.Ytafbjadlklcicaa
open Go.RowKit Go.Shelf
set_option maxRecDepth 100000

theorem Box4.lt {W : World} {E : Nat} {x : Sp} (h : Box4 W E x) : E < W.heap.size := (Array.getElem?_eq_some_iff.1 h).1
theorem Box4.below {W W' : World} {E : Nat} {x : Sp} (h : Box4 W E x) (hb : Below W.heap.size W W') : Box4 W' E x := (hb.block E h.lt).trans h
theorem Box4.frozen {W : World} {E : Nat} {x : Sp} (h : Box4 W E x) (j : Nat) : W.frozen? ⟨E, j, none⟩ = false := by simp [World.frozen?, show W.heap[E]? = _ from h]
theorem Box4.new (W : World) (x : Sp) : Box4 (W.alloc (.cells #[.int .i64 x.1, .int .i64 x.2.1, .int .i64 x.2.2.1, .int .i64 x.2.2.2] 26)) W.heap.size x := World.alloc_heap_new W _
/-- A box is stored into. -/
abbrev set4 (W : World) (E : Nat) (y : Sp) : World := (((W.setCell ⟨E, 0, none⟩ (.int .i64 y.1)).setCell ⟨E, 1, none⟩ (.int .i64 y.2.1)).setCell ⟨E, 2, none⟩ (.int .i64 y.2.2.1)).setCell ⟨E, 3, none⟩ (.int .i64 y.2.2.2)
theorem Box4.set {W : World} {E : Nat} {x : Sp} (h : Box4 W E x) (y : Sp) : Box4 (set4 W E y) E y := by
  have step : ∀ (W : World) (cs : Array Value) (j : Nat) (v : Value), W.heap[E]? = some (.cells cs 26 (0, 0)) → (W.setCell ⟨E, j, none⟩ v).heap[E]? = some (.cells (cs.setIfInBounds j v) 26 (0, 0)) := fun W cs j v h => heap_setCell_same W E j cs 26 v h
  have a := step _ _ 0 (.int .i64 y.1) h
  have b := step _ _ 1 (.int .i64 y.2.1) a
  have c := step _ _ 2 (.int .i64 y.2.2.1) b
  have d := step _ _ 3 (.int .i64 y.2.2.2) c
  exact d
theorem Box4.far {W : World} {E E' : Nat} {x : Sp} (h : Box4 W E x) (hne : E ≠ E') (y : Sp) : Box4 (set4 W E' y) E x := by
  have step : ∀ (W : World) (j : Nat) (v : Value), (W.setCell ⟨E', j, none⟩ v).heap[E]? = W.heap[E]? := fun W j v => Below.heap_setCell _ _ _ _ hne
  unfold Box4 set4
  rw [step, step, step, step]
  exact h
theorem below_set4 {B E : Nat} {W : World} (hB : B ≤ E) (y : Sp) : Below B W (set4 W E y) := ((((Below.refl _ _).setCell hB _).setCell hB _).setCell hB _).setCell hB _
def cfK (a : Sp → Int) (x y : Sp) : Int := Lib.compareInt (a x) (a y)
/-- The least of a number of spans. -/
def lo : List Sp → Int
  | [] => 0
  | s :: t => t.foldl (fun m x => min m x.1) s.1
def hi : List Sp → Int
  | [] => 0
  | s :: t => t.foldl (fun m x => max m x.2.1) s.2.1
theorem foldmin (t : List Sp) : ∀ m : Int, (∀ x ∈ t, t.foldl (fun m x => min m x.1) m ≤ x.1) ∧ t.foldl (fun m x => min m x.1) m ≤ m ∧ (t.foldl (fun m x => min m x.1) m = m ∨ ∃ x ∈ t, t.foldl (fun m x => min m x.1) m = x.1) := by
  induction t with
  | nil => intro m; exact ⟨(fun x h => by cases h), Int.le_refl _, .inl rfl⟩
  | cons s t ih =>
    intro m
    obtain ⟨h1, h2, h3⟩ := ih (min m s.1)
    rw [List.foldl_cons]
    refine ⟨fun x hx => ?_, by omega, ?_⟩
    · rcases List.mem_cons.1 hx with rfl | hx
      · omega
      · exact h1 x hx
    · rcases h3 with h3 | ⟨x, hx, h3⟩
      · rcases (by omega : min m s.1 = m ∨ min m s.1 = s.1) with e | e
        · exact .inl (h3.trans e)
        · exact .inr ⟨s, by simp, h3.trans e⟩
      · exact .inr ⟨x, List.mem_cons_of_mem _ hx, h3⟩
theorem foldmax (t : List Sp) : ∀ m : Int, (∀ x ∈ t, x.2.1 ≤ t.foldl (fun m x => max m x.2.1) m) ∧ m ≤ t.foldl (fun m x => max m x.2.1) m ∧ (t.foldl (fun m x => max m x.2.1) m = m ∨ ∃ x ∈ t, t.foldl (fun m x => max m x.2.1) m = x.2.1) := by
  induction t with
  | nil => intro m; exact ⟨(fun x h => by cases h), Int.le_refl _, .inl rfl⟩
  | cons s t ih =>
    intro m
    obtain ⟨h1, h2, h3⟩ := ih (max m s.2.1)
    rw [List.foldl_cons]
    refine ⟨fun x hx => ?_, by omega, ?_⟩
    · rcases List.mem_cons.1 hx with rfl | hx
      · omega
      · exact h1 x hx
    · rcases h3 with h3 | ⟨x, hx, h3⟩
      · rcases (by omega : max m s.2.1 = m ∨ max m s.2.1 = s.2.1) with e | e
        · exact .inl (h3.trans e)
        · exact .inr ⟨s, by simp, h3.trans e⟩
      · exact .inr ⟨x, List.mem_cons_of_mem _ hx, h3⟩
theorem lo_spec (l : List Sp) (h : l ≠ []) : (∀ s ∈ l, lo l ≤ s.1) ∧ ∃ s ∈ l, lo l = s.1 := by
  cases l with
  | nil => exact absurd rfl h
  | cons s t =>
    obtain ⟨h1, h2, h3⟩ := foldmin t s.1
    refine ⟨fun x hx => ?_, ?_⟩
    · rcases List.mem_cons.1 hx with rfl | hx
      · exact h2
      · exact h1 x hx
    · rcases h3 with h3 | ⟨x, hx, h3⟩
      · exact ⟨s, by simp, h3⟩
      · exact ⟨x, List.mem_cons_of_mem _ hx, h3⟩
theorem hi_spec (l : List Sp) (h : l ≠ []) : (∀ s ∈ l, s.2.1 ≤ hi l) ∧ ∃ s ∈ l, hi l = s.2.1 := by
  cases l with
  | nil => exact absurd rfl h
  | cons s t =>
    obtain ⟨h1, h2, h3⟩ := foldmax t s.2.1
    refine ⟨fun x hx => ?_, ?_⟩
    · rcases List.mem_cons.1 hx with rfl | hx
      · exact h2
      · exact h1 x hx
    · rcases h3 with h3 | ⟨x, hx, h3⟩
      · exact ⟨s, by simp, h3⟩
      · exact ⟨x, List.mem_cons_of_mem _ hx, h3⟩
theorem lo_eq (l : List Sp) (m : Sp) (hm : m ∈ l) (h : ∀ s ∈ l, m.1 ≤ s.1) : m.1 = lo l := by
  obtain ⟨a, s, hs, b⟩ := lo_spec l (List.ne_nil_of_mem hm)
  have := a m hm
  have := h s hs
  omega
theorem hi_eq (l : List Sp) (m : Sp) (hm : m ∈ l) (h : ∀ s ∈ l, s.2.1 ≤ m.2.1) : m.2.1 = hi l := by
  obtain ⟨a, s, hs, b⟩ := hi_spec l (List.ne_nil_of_mem hm)
  have := a m hm
  have := h s hs
  omega
/-- One of the first ones, no greater than any of them. -/
def MinI (a : Sp → Int) (l : List Sp) (k : Nat) (m : Sp) : Prop := m ∈ l ∧ ∀ s ∈ l.take k, a m ≤ a s
theorem MinI.keep {a : Sp → Int} {l : List Sp} {k : Nat} {m : Sp} (h : MinI a l k m) (hk : k < l.length) (hv : ¬ cfK a l[k] m < 0) : MinI a l (k + 1) m := by
  refine ⟨h.1, fun s hs => ?_⟩
  rw [List.take_succ_eq_append_getElem hk] at hs
  rcases List.mem_append.1 hs with hs | hs
  · exact h.2 s hs
  · rw [List.mem_singleton.1 hs]
    unfold cfK at hv
    rw [cmpI_lt] at hv
    omega
theorem MinI.less {a : Sp → Int} {l : List Sp} {k : Nat} {m : Sp} (h : MinI a l k m) (hk : k < l.length) (hv : cfK a l[k] m < 0) : MinI a l (k + 1) l[k] := by
  unfold cfK at hv
  rw [cmpI_lt] at hv
  refine ⟨List.getElem_mem hk, fun s hs => ?_⟩
  rw [List.take_succ_eq_append_getElem hk] at hs
  rcases List.mem_append.1 hs with hs | hs
  · have := h.2 s hs; omega
  · rw [List.mem_singleton.1 hs]; exact Int.le_refl _
set_option maxHeartbeats 4000000 in
theorem minf_any (F : Nat) (a : Sp → Int) (hF : CmpOf F (cfK a)) (A : Option Addr) (n c : Nat) (l : List Sp) (HN : Hid (n = l.length)) (hn : n ≤ 1000000) (h0 : 0 < n) (w : World) (h : CS w w.heap.size A (spCs l)) :
    Calls Try.prog 77 #[.slice A n c, .func (.func F) #[] #[]] w fun e w' => ∃ m, e = .returned (spV m) ∧ MinI a l l.length m ∧ Below w.heap.size w w' := by
  have HA := Lib.hid h
  have HCF := hF.1
  have HF := Lib.hid hF
  have hmx : Try.prog.follows .mixedOrders = true := by kernel_rfl
  clear h hF
  have hl0 : 0 < l.length := by rw [← HN.out]; exact h0
  have HM0 : Hid (MinI a l 1 l[0]) := ⟨List.getElem_mem hl0, fun s hs => by rw [show l.take 1 = [l[0]] by rw [List.take_succ_eq_append_getElem hl0]; rfl] at hs; rw [List.mem_singleton.1 hs]; exact Int.le_refl _⟩
  obtain ⟨b, o, rfl, hb, hc⟩ := HA.out (by rw [spCs_len]; omega)
  obtain ⟨c0, c1, c2, c3⟩ := spCs_at l 0 hl0
  have e0 := hc _ _ c0
  have e1 := hc _ _ c1
  have e2 := hc _ _ c2
  have e3 := hc _ _ c3
  rw [Nat.zero_mul, Nat.add_zero] at e0
  rw [Nat.zero_mul, Nat.zero_add] at e1 e2 e3
  obtain ⟨m0, hm0⟩ : ∃ m0, m0 = l[0] := ⟨_, rfl⟩
  rw [← hm0] at e0 e1 e2 e3 HM0
  have hn1 : ¬ (n : Int) < 1 := by omega
  have h0I : (0 : Int) < (n : Int) := by omega
  obtain ⟨X, hX⟩ : ∃ X, (w.alloc (.cells #[.int .i64 0, .int .i64 0, .int .i64 0, .int .i64 0] 26)).alloc (.cells #[.int .i64 m0.1, .int .i64 m0.2.1, .int .i64 m0.2.2.1, .int .i64 m0.2.2.2] 26) = X := ⟨_, rfl⟩
  have HB4 : Hid (∃ z, Box4 X w.heap.size z) := ⟨(0, 0, 0, 0), by rw [← hX]; exact (Box4.new w (0, 0, 0, 0)).below ((Below.refl _ _).alloc (Nat.le_refl _) _)⟩
  have HB5 : Hid (Box4 X (w.heap.size + 1) m0) := by
    have h := Box4.new (w.alloc (.cells #[.int .i64 0, .int .i64 0, .int .i64 0, .int .i64 0] 26)) m0
    rw [hX] at h
    simp only [World.size_alloc] at h
    exact h
  have HBX : Hid (Below w.heap.size w X) := by rw [← hX]; exact ((Below.refl _ _).alloc (Nat.le_refl _) _).alloc (by simp) _
  have HX := Lib.hid hX
  clear hX hc c0 c1 c2 c3 hm0 hl0
  obtain ⟨f, t, u, v⟩ := m0
  simp only at e0 e1 e2 e3 HX
  go_enter Try.func77, Try.ntmps77
  go_upto_region 4 with fail
  rw [HX.out]
  clear e0 e1 e2 e3
  go_wp2_with fail
  go_loopw [6] (fun i wr => ∃ (k : Nat) (m : Sp), 1 ≤ k ∧ k ≤ n ∧ i = .int .i64 k ∧ Hid (MinI a l k m) ∧ Hid (∃ z, Box4 wr w.heap.size z) ∧ Hid (Box4 wr (w.heap.size + 1) m) ∧ Hid (Below w.heap.size w wr)) (fun i _ => n - (intOf i).toNat)
  case atStart => exact ⟨1, (f, t, u, v), Nat.le_refl _, h0, rfl, HM0, HB4, HB5, HBX⟩
  case round =>
    obtain ⟨k, m, hk1, hk, rfl, HM, HB4, HB5, HB⟩ := hrel
    by_cases hlt : k < n
    · have hkl : k < l.length := by rw [← HN.out]; exact hlt
      have HLT := Lib.hid hlt
      obtain ⟨b', o', hA, _, hc⟩ := (HA.out.below HB.out) (by rw [spCs_len]; omega)
      injection hA with hA
      injection hA with hA1 hA2
      subst hA1 hA2
      obtain ⟨d0, d1, d2, d3⟩ := spCs_at l k hkl
      have e0 := hc _ _ d0
      have e1 := hc _ _ d1
      have e2 := hc _ _ d2
      have e3 := hc _ _ d3
      rw [← Nat.add_assoc] at e1 e2 e3
      have HK : Hid (¬ cfK a l[k] m < 0 → MinI a l (k + 1) m) := HM.out.keep hkl
      have HL : Hid (cfK a l[k] m < 0 → MinI a l (k + 1) l[k]) := HM.out.less hkl
      obtain ⟨x, hx⟩ : ∃ x, x = l[k] := ⟨_, rfl⟩
      rw [← hx] at e0 e1 e2 e3 HK HL
      have KF : Hid (∀ r : WB wr.heap.size wr, Calls Try.prog F #[spV x, spV m] r.w fun e w' => e = .returned (.int .i64 (cfK a x m)) ∧ Below r.w.heap.size r.w w') := fun r => HF.out.below x m r.w
      obtain ⟨v', hv⟩ : ∃ v, v = cfK a x m := ⟨_, rfl⟩
      rw [← hv] at KF HK HL
      obtain ⟨g0, g1, g2, g3⟩ := HB5.out.cells
      have HX4 : Hid (∀ r : WB wr.heap.size wr, (∃ z, Box4 r.w w.heap.size z) ∧ Box4 r.w (w.heap.size + 1) m ∧ Below w.heap.size w r.w) := fun r => ⟨by obtain ⟨z, hz⟩ := HB4.out; exact ⟨z, hz.below r.ok⟩, HB5.out.below r.ok, HB.out.trans (r.ok.mono HB.out.size)⟩
      obtain ⟨f', t', u', v2⟩ := x
      obtain ⟨mf, mt, mu, mv⟩ := m
      unfold spV at KF
      simp only at e0 e1 e2 e3 g0 g1 g2 g3 KF
      have z0 : ∀ r : WB wr.heap.size wr, r.w.cell? ⟨b, o + k * 4, none⟩ = some (.int .i64 f') := fun r => (r.ok.cell (World.block_lt_of_cell? wr _ e0)).trans e0
      have z1 : ∀ r : WB wr.heap.size wr, r.w.cell? ⟨b, o + k * 4 + 1, none⟩ = some (.int .i64 t') := fun r => (r.ok.cell (World.block_lt_of_cell? wr _ e1)).trans e1
      have z2 : ∀ r : WB wr.heap.size wr, r.w.cell? ⟨b, o + k * 4 + 2, none⟩ = some (.int .i64 u') := fun r => (r.ok.cell (World.block_lt_of_cell? wr _ e2)).trans e2
      have z3 : ∀ r : WB wr.heap.size wr, r.w.cell? ⟨b, o + k * 4 + 3, none⟩ = some (.int .i64 v2) := fun r => (r.ok.cell (World.block_lt_of_cell? wr _ e3)).trans e3
      have y0 : ∀ r : WB wr.heap.size wr, r.w.cell? ⟨w.heap.size + 1, 0, none⟩ = some (.int .i64 mf) := fun r => (r.ok.cell (World.block_lt_of_cell? wr _ g0)).trans g0
      have y1 : ∀ r : WB wr.heap.size wr, r.w.cell? ⟨w.heap.size + 1, 1, none⟩ = some (.int .i64 mt) := fun r => (r.ok.cell (World.block_lt_of_cell? wr _ g1)).trans g1
      have y2 : ∀ r : WB wr.heap.size wr, r.w.cell? ⟨w.heap.size + 1, 2, none⟩ = some (.int .i64 mu) := fun r => (r.ok.cell (World.block_lt_of_cell? wr _ g2)).trans g2
      have y3 : ∀ r : WB wr.heap.size wr, r.w.cell? ⟨w.heap.size + 1, 3, none⟩ = some (.int .i64 mv) := fun r => (r.ok.cell (World.block_lt_of_cell? wr _ g3)).trans g3
      have hkI : (k : Int) < (n : Int) := by omega
      have wk : IntKind.i64.wrap ((k : Int) + 1) = (k : Int) + 1 := by rw [IntKind.wrap_i64]; omega
      clear e0 e1 e2 e3 g0 g1 g2 g3 d0 d1 d2 d3 hx hc hv hkl HB4 HB5
      by_cases hv0 : v' < 0
      · have dv : decide (v' < 0) = true := decide_eq_true hv0
        have HX := Lib.hid (HL.out hv0)
        go_wp2_with fail
        refine wp_region_quietB wr.heap.size wr hmx (by kernel_rfl) (Below.refl _ _) ?_
        repeat (go_big_quiet_step ((go_at_fn F; with_reducible exact calls_quietB (KF.out _) (Nat.le_refl _))))
        refine wpQuiet_nil ?_
        intro _ hw'
        obtain ⟨pq, rfl⟩ := hw'
        obtain ⟨⟨z, hz4⟩, hz5, hzb⟩ := HX4.out pq
        have f0 := hz5.frozen 0
        have f1 := hz5.frozen 1
        have f2 := hz5.frozen 2
        have f3 := hz5.frozen 3
        have HY : Hid ((∃ z, Box4 (set4 pq.w (w.heap.size + 1) (f', t', u', v2)) w.heap.size z) ∧ Box4 (set4 pq.w (w.heap.size + 1) (f', t', u', v2)) (w.heap.size + 1) (f', t', u', v2) ∧ Below w.heap.size w (set4 pq.w (w.heap.size + 1) (f', t', u', v2))) := ⟨⟨z, hz4.far (by omega) _⟩, hz5.set _, hzb.trans (below_set4 (by omega) _)⟩
        unfold set4 at HY
        simp only at HY
        clear hz4 hz5 hzb
        go_wp2_with fail
        exact ⟨⟨k + 1, (f', t', u', v2), by omega, HLT.out, by go_num, HX.out, HY.out.1, HY.out.2.1, HY.out.2.2⟩, by have := HLT.out; simp [intOf]; omega⟩
      · have dv : decide (v' < 0) = false := decide_eq_false hv0
        have HX := Lib.hid (HK.out hv0)
        go_wp2_with fail
        refine wp_region_quietB wr.heap.size wr hmx (by kernel_rfl) (Below.refl _ _) ?_
        repeat (go_big_quiet_step ((go_at_fn F; with_reducible exact calls_quietB (KF.out _) (Nat.le_refl _))))
        refine wpQuiet_nil ?_
        intro _ hw'
        obtain ⟨pq, rfl⟩ := hw'
        have HY := Lib.hid (HX4.out pq)
        go_wp2_with fail
        exact ⟨⟨k + 1, (mf, mt, mu, mv), by omega, HLT.out, by go_num, HX.out, HY.out.1, HY.out.2.1, HY.out.2.2⟩, by have := HLT.out; simp [intOf]; omega⟩
    · obtain rfl : k = n := by omega
      have HF : Hid (MinI a l l.length m) := by rw [← HN.out]; exact HM.out
      obtain ⟨z, hz4⟩ := HB4.out
      obtain ⟨g0, g1, g2, g3⟩ := HB5.out.cells
      obtain ⟨x0, x1, x2, x3⟩ := hz4.cells
      have f0 := hz4.frozen 0
      have f1 := hz4.frozen 1
      have f2 := hz4.frozen 2
      have f3 := hz4.frozen 3
      obtain ⟨q0, q1, q2, q3⟩ := (hz4.set m).cells
      have HY : Hid (Below w.heap.size w (set4 wr w.heap.size m)) := HB.out.trans (below_set4 (Nat.le_refl _) _)
      unfold set4 at HY q0 q1 q2 q3
      clear hz4 HB4 HB5
      obtain ⟨mf, mt, mu, mv⟩ := m
      simp only at g0 g1 g2 g3 q0 q1 q2 q3 HY
      go_wp2_with fail
      refine bodyPost_ret (v := spV (mf, mt, mu, mv)) ?_ rfl ⟨_, rfl, HF.out, HY.out⟩
      simp [results, Try.results77, go_sem, q0, q1, q2, q3]
end Go.Proofs.Ytafbjadlklcicaa
