/- slices.MaxFunc at spans; hull. -/
import Derived.Test.YtafbjadlklcicaaMaMx
import Derived.Laws.EntriesVeiled
namespace Go.Proofs.Ytafbjadlklcicaa
open Go.RowKit Go.Shelf
set_option maxRecDepth 100000

theorem cmpI_gt (x y : Int) : 0 < Lib.compareInt x y ↔ y < x := by
  unfold Lib.compareInt
  by_cases h1 : x < y
  · simp [h1]; omega
  · by_cases h2 : y < x <;> simp [h1, h2]
def MaxI (a : Sp → Int) (l : List Sp) (k : Nat) (m : Sp) : Prop := m ∈ l ∧ ∀ s ∈ l.take k, a s ≤ a m
theorem MaxI.keep {a : Sp → Int} {l : List Sp} {k : Nat} {m : Sp} (h : MaxI a l k m) (hk : k < l.length) (hv : ¬ 0 < cfK a l[k] m) : MaxI a l (k + 1) m := by
  refine ⟨h.1, fun s hs => ?_⟩
  rw [List.take_succ_eq_append_getElem hk] at hs
  rcases List.mem_append.1 hs with hs | hs
  · exact h.2 s hs
  · rw [List.mem_singleton.1 hs]
    unfold cfK at hv
    rw [cmpI_gt] at hv
    omega
theorem MaxI.more {a : Sp → Int} {l : List Sp} {k : Nat} {m : Sp} (h : MaxI a l k m) (hk : k < l.length) (hv : 0 < cfK a l[k] m) : MaxI a l (k + 1) l[k] := by
  unfold cfK at hv
  rw [cmpI_gt] at hv
  refine ⟨List.getElem_mem hk, fun s hs => ?_⟩
  rw [List.take_succ_eq_append_getElem hk] at hs
  rcases List.mem_append.1 hs with hs | hs
  · have := h.2 s hs; omega
  · rw [List.mem_singleton.1 hs]; exact Int.le_refl _
set_option maxHeartbeats 4000000 in
theorem maxf_any (F : Nat) (a : Sp → Int) (hF : CmpOf F (cfK a)) (A : Option Addr) (n c : Nat) (l : List Sp) (HN : Hid (n = l.length)) (hn : n ≤ 1000000) (h0 : 0 < n) (w : World) (h : CS w w.heap.size A (spCs l)) :
    Calls Try.prog 79 #[.slice A n c, .func (.func F) #[] #[]] w fun e w' => ∃ m, e = .returned (spV m) ∧ MaxI a l l.length m ∧ Below w.heap.size w w' := by
  have HA := Lib.hid h
  have HCF := hF.1
  have HF := Lib.hid hF
  have hmx : Try.prog.follows .mixedOrders = true := by kernel_rfl
  clear h hF
  have hl0 : 0 < l.length := by rw [← HN.out]; exact h0
  have HM0 : Hid (MaxI a l 1 l[0]) := ⟨List.getElem_mem hl0, fun s hs => by rw [show l.take 1 = [l[0]] by rw [List.take_succ_eq_append_getElem hl0]; rfl] at hs; rw [List.mem_singleton.1 hs]; exact Int.le_refl _⟩
  obtain ⟨b, o, rfl, hb, hc⟩ := HA.out (by rw [spCs_len]; omega)
  obtain ⟨c0, c1, c2, c3⟩ := spCs_at l 0 hl0
  have e0 := hc _ _ c0
  have e1 := hc _ _ c1
  have e2 := hc _ _ c2
  have e3 := hc _ _ c3
  rw [Nat.zero_mul, Nat.add_zero] at e0
  rw [Nat.zero_mul, Nat.zero_add] at e1 e2 e3
  obtain ⟨m0, hm0⟩ : ∃ m0, m0 = l[0] := ⟨_, rfl⟩
  rw [← hm0] at e0 e1 e2 e3 HM0
  have hn1 : ¬ (n : Int) < 1 := by omega
  have h0I : (0 : Int) < (n : Int) := by omega
  obtain ⟨X, hX⟩ : ∃ X, (w.alloc (.cells #[.int .i64 0, .int .i64 0, .int .i64 0, .int .i64 0] 26)).alloc (.cells #[.int .i64 m0.1, .int .i64 m0.2.1, .int .i64 m0.2.2.1, .int .i64 m0.2.2.2] 26) = X := ⟨_, rfl⟩
  have HB4 : Hid (∃ z, Box4 X w.heap.size z) := ⟨(0, 0, 0, 0), by rw [← hX]; exact (Box4.new w (0, 0, 0, 0)).below ((Below.refl _ _).alloc (Nat.le_refl _) _)⟩
  have HB5 : Hid (Box4 X (w.heap.size + 1) m0) := by
    have h := Box4.new (w.alloc (.cells #[.int .i64 0, .int .i64 0, .int .i64 0, .int .i64 0] 26)) m0
    rw [hX] at h
    simp only [World.size_alloc] at h
    exact h
  have HBX : Hid (Below w.heap.size w X) := by rw [← hX]; exact ((Below.refl _ _).alloc (Nat.le_refl _) _).alloc (by simp) _
  have HX := Lib.hid hX
  clear hX hc c0 c1 c2 c3 hm0 hl0
  obtain ⟨f, t, u, v⟩ := m0
  simp only at e0 e1 e2 e3 HX
  go_enter Try.func79, Try.ntmps79
  go_upto_region 4 with fail
  rw [HX.out]
  clear e0 e1 e2 e3
  go_wp2_with fail
  go_loopw [6] (fun i wr => ∃ (k : Nat) (m : Sp), 1 ≤ k ∧ k ≤ n ∧ i = .int .i64 k ∧ Hid (MaxI a l k m) ∧ Hid (∃ z, Box4 wr w.heap.size z) ∧ Hid (Box4 wr (w.heap.size + 1) m) ∧ Hid (Below w.heap.size w wr)) (fun i _ => n - (intOf i).toNat)
  case atStart => exact ⟨1, (f, t, u, v), Nat.le_refl _, h0, rfl, HM0, HB4, HB5, HBX⟩
  case round =>
    obtain ⟨k, m, hk1, hk, rfl, HM, HB4, HB5, HB⟩ := hrel
    by_cases hlt : k < n
    · have hkl : k < l.length := by rw [← HN.out]; exact hlt
      have HLT := Lib.hid hlt
      obtain ⟨b', o', hA, _, hc⟩ := (HA.out.below HB.out) (by rw [spCs_len]; omega)
      injection hA with hA
      injection hA with hA1 hA2
      subst hA1 hA2
      obtain ⟨d0, d1, d2, d3⟩ := spCs_at l k hkl
      have e0 := hc _ _ d0
      have e1 := hc _ _ d1
      have e2 := hc _ _ d2
      have e3 := hc _ _ d3
      rw [← Nat.add_assoc] at e1 e2 e3
      have HK : Hid (¬ 0 < cfK a l[k] m → MaxI a l (k + 1) m) := HM.out.keep hkl
      have HL : Hid (0 < cfK a l[k] m → MaxI a l (k + 1) l[k]) := HM.out.more hkl
      obtain ⟨x, hx⟩ : ∃ x, x = l[k] := ⟨_, rfl⟩
      rw [← hx] at e0 e1 e2 e3 HK HL
      have KF : Hid (∀ r : WB wr.heap.size wr, Calls Try.prog F #[spV x, spV m] r.w fun e w' => e = .returned (.int .i64 (cfK a x m)) ∧ Below r.w.heap.size r.w w') := fun r => HF.out.below x m r.w
      obtain ⟨v', hv⟩ : ∃ v, v = cfK a x m := ⟨_, rfl⟩
      rw [← hv] at KF HK HL
      obtain ⟨g0, g1, g2, g3⟩ := HB5.out.cells
      have HX4 : Hid (∀ r : WB wr.heap.size wr, (∃ z, Box4 r.w w.heap.size z) ∧ Box4 r.w (w.heap.size + 1) m ∧ Below w.heap.size w r.w) := fun r => ⟨by obtain ⟨z, hz⟩ := HB4.out; exact ⟨z, hz.below r.ok⟩, HB5.out.below r.ok, HB.out.trans (r.ok.mono HB.out.size)⟩
      obtain ⟨f', t', u', v2⟩ := x
      obtain ⟨mf, mt, mu, mv⟩ := m
      unfold spV at KF
      simp only at e0 e1 e2 e3 g0 g1 g2 g3 KF
      have z0 : ∀ r : WB wr.heap.size wr, r.w.cell? ⟨b, o + k * 4, none⟩ = some (.int .i64 f') := fun r => (r.ok.cell (World.block_lt_of_cell? wr _ e0)).trans e0
      have z1 : ∀ r : WB wr.heap.size wr, r.w.cell? ⟨b, o + k * 4 + 1, none⟩ = some (.int .i64 t') := fun r => (r.ok.cell (World.block_lt_of_cell? wr _ e1)).trans e1
      have z2 : ∀ r : WB wr.heap.size wr, r.w.cell? ⟨b, o + k * 4 + 2, none⟩ = some (.int .i64 u') := fun r => (r.ok.cell (World.block_lt_of_cell? wr _ e2)).trans e2
      have z3 : ∀ r : WB wr.heap.size wr, r.w.cell? ⟨b, o + k * 4 + 3, none⟩ = some (.int .i64 v2) := fun r => (r.ok.cell (World.block_lt_of_cell? wr _ e3)).trans e3
      have y0 : ∀ r : WB wr.heap.size wr, r.w.cell? ⟨w.heap.size + 1, 0, none⟩ = some (.int .i64 mf) := fun r => (r.ok.cell (World.block_lt_of_cell? wr _ g0)).trans g0
      have y1 : ∀ r : WB wr.heap.size wr, r.w.cell? ⟨w.heap.size + 1, 1, none⟩ = some (.int .i64 mt) := fun r => (r.ok.cell (World.block_lt_of_cell? wr _ g1)).trans g1
      have y2 : ∀ r : WB wr.heap.size wr, r.w.cell? ⟨w.heap.size + 1, 2, none⟩ = some (.int .i64 mu) := fun r => (r.ok.cell (World.block_lt_of_cell? wr _ g2)).trans g2
      have y3 : ∀ r : WB wr.heap.size wr, r.w.cell? ⟨w.heap.size + 1, 3, none⟩ = some (.int .i64 mv) := fun r => (r.ok.cell (World.block_lt_of_cell? wr _ g3)).trans g3
      have hkI : (k : Int) < (n : Int) := by omega
      have wk : IntKind.i64.wrap ((k : Int) + 1) = (k : Int) + 1 := by rw [IntKind.wrap_i64]; omega
      clear e0 e1 e2 e3 g0 g1 g2 g3 d0 d1 d2 d3 hx hc hv hkl HB4 HB5
      by_cases hv0 : 0 < v'
      · have dv : decide (0 < v') = true := decide_eq_true hv0
        have HX := Lib.hid (HL.out hv0)
        go_wp2_with fail
        refine wp_region_quietB wr.heap.size wr hmx (by kernel_rfl) (Below.refl _ _) ?_
        repeat (go_big_quiet_step ((go_at_fn F; with_reducible exact calls_quietB (KF.out _) (Nat.le_refl _))))
        refine wpQuiet_nil ?_
        intro _ hw'
        obtain ⟨pq, rfl⟩ := hw'
        obtain ⟨⟨z, hz4⟩, hz5, hzb⟩ := HX4.out pq
        have f0 := hz5.frozen 0
        have f1 := hz5.frozen 1
        have f2 := hz5.frozen 2
        have f3 := hz5.frozen 3
        have HY : Hid ((∃ z, Box4 (set4 pq.w (w.heap.size + 1) (f', t', u', v2)) w.heap.size z) ∧ Box4 (set4 pq.w (w.heap.size + 1) (f', t', u', v2)) (w.heap.size + 1) (f', t', u', v2) ∧ Below w.heap.size w (set4 pq.w (w.heap.size + 1) (f', t', u', v2))) := ⟨⟨z, hz4.far (by omega) _⟩, hz5.set _, hzb.trans (below_set4 (by omega) _)⟩
        unfold set4 at HY
        simp only at HY
        clear hz4 hz5 hzb
        go_wp2_with fail
        exact ⟨⟨k + 1, (f', t', u', v2), by omega, HLT.out, by go_num, HX.out, HY.out.1, HY.out.2.1, HY.out.2.2⟩, by have := HLT.out; simp [intOf]; omega⟩
      · have dv : decide (0 < v') = false := decide_eq_false hv0
        have HX := Lib.hid (HK.out hv0)
        go_wp2_with fail
        refine wp_region_quietB wr.heap.size wr hmx (by kernel_rfl) (Below.refl _ _) ?_
        repeat (go_big_quiet_step ((go_at_fn F; with_reducible exact calls_quietB (KF.out _) (Nat.le_refl _))))
        refine wpQuiet_nil ?_
        intro _ hw'
        obtain ⟨pq, rfl⟩ := hw'
        have HY := Lib.hid (HX4.out pq)
        go_wp2_with fail
        exact ⟨⟨k + 1, (mf, mt, mu, mv), by omega, HLT.out, by go_num, HX.out, HY.out.1, HY.out.2.1, HY.out.2.2⟩, by have := HLT.out; simp [intOf]; omega⟩
    · obtain rfl : k = n := by omega
      have HF : Hid (MaxI a l l.length m) := by rw [← HN.out]; exact HM.out
      obtain ⟨z, hz4⟩ := HB4.out
      obtain ⟨g0, g1, g2, g3⟩ := HB5.out.cells
      obtain ⟨x0, x1, x2, x3⟩ := hz4.cells
      have f0 := hz4.frozen 0
      have f1 := hz4.frozen 1
      have f2 := hz4.frozen 2
      have f3 := hz4.frozen 3
      obtain ⟨q0, q1, q2, q3⟩ := (hz4.set m).cells
      have HY : Hid (Below w.heap.size w (set4 wr w.heap.size m)) := HB.out.trans (below_set4 (Nat.le_refl _) _)
      unfold set4 at HY q0 q1 q2 q3
      clear hz4 HB4 HB5
      obtain ⟨mf, mt, mu, mv⟩ := m
      simp only at g0 g1 g2 g3 q0 q1 q2 q3 HY
      go_wp2_with fail
      refine bodyPost_ret (v := spV (mf, mt, mu, mv)) ?_ rfl ⟨_, rfl, HF.out, HY.out⟩
      simp [results, Try.results79, go_sem, q0, q1, q2, q3]
theorem hull1_cmp : CmpOf 78 (cfK (·.1)) := by
  refine ⟨enters_of Try.func78 (by kernel_rfl) rfl, fun x y W => ?_⟩
  obtain ⟨x0, x1, x2, x3⟩ := x
  obtain ⟨y0, y1, y2, y3⟩ := y
  have hcon := fun W' => AnyG.cmp_Compare_int Try.cmpI x0 y0 W'
  change ∀ W', Calls Try.prog 41 _ _ _ at hcon
  show Calls _ _ #[.agg #[.int .i64 x0, .int .i64 x1, .int .i64 x2, .int .i64 x3], .agg #[.int .i64 y0, .int .i64 y1, .int .i64 y2, .int .i64 y3]] W fun e w' => e = .returned (.int .i64 (Lib.compareInt x0 y0)) ∧ _
  generalize Lib.compareInt x0 y0 = r at hcon ⊢
  go_enter Try.func78, Try.ntmps78
  go_wp2_with (go_at_call 41; refine (hcon _).mono ?_; rintro e w' ⟨rfl, rfl⟩)
  go_ret
  exact ⟨rfl, 0, _, by rw [Go.Sort.alloc_eq_grow, Go.Sort.alloc_eq_grow, Go.Sort.grow_grow]; rfl⟩
theorem hull2_cmp : CmpOf 80 (cfK (·.2.1)) := by
  refine ⟨enters_of Try.func80 (by kernel_rfl) rfl, fun x y W => ?_⟩
  obtain ⟨x0, x1, x2, x3⟩ := x
  obtain ⟨y0, y1, y2, y3⟩ := y
  have hcon := fun W' => AnyG.cmp_Compare_int Try.cmpI x1 y1 W'
  change ∀ W', Calls Try.prog 41 _ _ _ at hcon
  show Calls _ _ #[.agg #[.int .i64 x0, .int .i64 x1, .int .i64 x2, .int .i64 x3], .agg #[.int .i64 y0, .int .i64 y1, .int .i64 y2, .int .i64 y3]] W fun e w' => e = .returned (.int .i64 (Lib.compareInt x1 y1)) ∧ _
  generalize Lib.compareInt x1 y1 = r at hcon ⊢
  go_enter Try.func80, Try.ntmps80
  go_wp2_with (go_at_call 41; refine (hcon _).mono ?_; rintro e w' ⟨rfl, rfl⟩)
  go_ret
  exact ⟨rfl, 0, _, by rw [Go.Sort.alloc_eq_grow, Go.Sort.alloc_eq_grow, Go.Sort.grow_grow]; rfl⟩
/-- From where the first one begins to where the last one ends. -/
def hullL (l : List Sp) : Sp := (lo l, hi l, 0, 0)
set_option maxHeartbeats 2000000 in
theorem hull_any (v : Value) (l : List Sp) (hl : l.length ≤ 1000000) (h0 : l ≠ []) (w : World) (h : SV w w.heap.size v l) :
    Calls Try.prog 51 #[v] w fun e w' => e = .returned (spV (hullL l)) ∧ Below w.heap.size w w' := by
  obtain ⟨A, c, rfl, _, _, h3⟩ := h
  have hp : 0 < l.length := List.length_pos_iff.2 h0
  obtain ⟨X, hX⟩ : ∃ X, w.alloc (.cells #[.int .i64 0, .int .i64 0, .int .i64 0, .int .i64 0] 26) = X := ⟨_, rfl⟩
  have bX : Below w.heap.size w X := by rw [← hX]; exact (Below.refl _ _).alloc (Nat.le_refl _) _
  have HB2 : Hid (Box4 X w.heap.size (0, 0, 0, 0)) := by rw [← hX]; exact Box4.new w (0, 0, 0, 0)
  have KM : Hid (Calls Try.prog 77 #[.slice A l.length c, .func (.func 78) #[] #[]] X fun e w' => ∃ m, e = .returned (spV m) ∧ MinI (·.1) l l.length m ∧ Below X.heap.size X w') := minf_any 78 _ hull1_cmp A l.length c l rfl hl hp X ((h3.below bX).more bX.size)
  have KX : Hid (∀ W, Below X.heap.size X W → Calls Try.prog 79 #[.slice A l.length c, .func (.func 80) #[] #[]] W fun e w' => ∃ m, e = .returned (spV m) ∧ MaxI (·.2.1) l l.length m ∧ Below W.heap.size W w') := fun W hW => maxf_any 80 _ hull2_cmp A l.length c l rfl hl hp W ((((h3.below bX).more bX.size).below hW).more hW.size)
  have HX := Lib.hid hX
  have HBX := Lib.hid bX
  obtain ⟨n, hn⟩ : ∃ n, n = l.length := ⟨_, rfl⟩
  have HNT : Hid (l.take n = l) := by show _ = _; rw [hn, List.take_length]
  rw [← hn] at KM KX ⊢
  clear hX bX h3 hp hl hn
  go_enter Try.func51, Try.ntmps51
  go_upto_region 1 with fail
  rw [HX.out]
  go_wp2_with fail
  with_reducible refine KM.out.mono ?_
  rintro e w1 ⟨m, rfl, hm, b1⟩
  have hlo : m.1 = lo l := lo_eq l m hm.1 fun s hs => hm.2 s (by rw [HNT.out]; exact hs)
  have HLO := Lib.hid hlo
  obtain ⟨Y, hY⟩ : ∃ Y, w1.alloc (.cells #[.int .i64 m.1, .int .i64 m.2.1, .int .i64 m.2.2.1, .int .i64 m.2.2.2] 26) = Y := ⟨_, rfl⟩
  have bY : Below w1.heap.size w1 Y := by rw [← hY]; exact (Below.refl _ _).alloc (Nat.le_refl _) _
  have HB3 : Hid (Box4 Y w1.heap.size m) := by rw [← hY]; exact Box4.new w1 m
  have HBY := Lib.hid (b1.trans (bY.mono b1.size))
  have KXY := Lib.hid (KX.out Y HBY.out)
  have hs1 : X.heap.size ≤ w1.heap.size := b1.size
  have HY := Lib.hid hY
  clear hm hlo hY bY b1 KM KX
  obtain ⟨mf, mt, mu, mv⟩ := m
  unfold spV
  simp only at HY
  go_upto_region 2 with fail
  rw [HY.out]
  go_wp2_with fail
  with_reducible refine KXY.out.mono ?_
  rintro e w2 ⟨m2, rfl, hm2, b2⟩
  have hhi : m2.2.1 = hi l := hi_eq l m2 hm2.1 fun s hs => hm2.2 s (by rw [HNT.out]; exact hs)
  have HHI := Lib.hid hhi
  obtain ⟨Z, hZ⟩ : ∃ Z, w2.alloc (.cells #[.int .i64 m2.1, .int .i64 m2.2.1, .int .i64 m2.2.2.1, .int .i64 m2.2.2.2] 26) = Z := ⟨_, rfl⟩
  have bZ : Below w2.heap.size w2 Z := by rw [← hZ]; exact (Below.refl _ _).alloc (Nat.le_refl _) _
  have hB4 : Box4 Z w2.heap.size m2 := by rw [← hZ]; exact Box4.new w2 m2
  have bYZ := b2.trans (bZ.mono b2.size)
  have hB3 := HB3.out.below bYZ
  have bXZ := HBY.out.trans (bYZ.mono HBY.out.size)
  have hB2 := HB2.out.below bXZ
  obtain ⟨p0, _, _, _⟩ := hB3.cells
  obtain ⟨_, q1, _, _⟩ := hB4.cells
  obtain ⟨x0, x1, x2, x3⟩ := hB2.cells
  have f0 := hB2.frozen 0
  have f1 := hB2.frozen 1
  have f2 := hB2.frozen 2
  have f3 := hB2.frozen 3
  have HZ := Lib.hid hZ
  have HR : Hid ((mf, m2.2.1, (0 : Int), (0 : Int)) = hullL l) := by unfold hullL; rw [← HHI.out, ← HLO.out]; rfl
  obtain ⟨r0, r1, r2, r3⟩ := (hB2.set (mf, m2.2.1, 0, 0)).cells
  have HF : Hid (Below w.heap.size w (set4 Z w.heap.size (mf, m2.2.1, 0, 0))) := (HBX.out.trans (bXZ.mono HBX.out.size)).trans (below_set4 (Nat.le_refl _) _)
  unfold set4 at HF r0 r1 r2 r3
  clear hm2 hhi hZ bZ hB4 bYZ hB3 bXZ hB2 b2 KXY
  obtain ⟨nf, nt, nu, nv⟩ := m2
  simp only at HZ q1 r0 r1 r2 r3 HF HR p0 x0 x1 x2 x3
  unfold spV
  go_upto_region 3 with fail
  rw [HZ.out]
  go_wp2_with fail
  refine bodyPost_ret (v := spV (mf, nt, 0, 0)) ?_ rfl ⟨by rw [HR.out], HF.out⟩
  simp [results, Try.results51, go_sem, r0, r1, r2, r3]
end Go.Proofs.Ytafbjadlklcicaa
