/- MatchOrders answers true. -/
import Derived.Test.YtafbjadlklcicaaMaO2
import Derived.Test.YtafbjadlklcicaaMaFi
import Derived.Test.YtafbjadlklcicaaMaGd
import Derived.Test.YtafbjadlklcicaaMaHd
import Derived.Laws.EntriesVeiled
namespace Go.Proofs.Ytafbjadlklcicaa
open Go.RowKit Go.Shelf
set_option maxRecDepth 100000

theorem all_snoc' {α : Type} (p : α → Bool) (l : List α) (k : Nat) (hk : k < l.length) : (l.take (k + 1)).all p = ((l.take k).all p && p l[k]) := by
  rw [List.take_succ_eq_append_getElem hk, List.all_append]
  simp
/-- The law's 'with'. -/
def witO (l : List Sp) (s : Sp) : Bool := l.all fun x => inO x s
set_option maxHeartbeats 2000000 in
theorem wit_any (D : Nat) (v : Value) (l : List Sp) (hl : l.length ≤ 1000) (s : Sp) (w : World) (hD : w.cell? ⟨D, 0, none⟩ = some (.func (.func 9) #[] #[])) (h : SV w w.heap.size v l) :
    Calls Try.prog 10 #[v, spV s, .pointer (some ⟨D, 0, none⟩)] w fun e w' => e = .returned (.bool (witO l s)) ∧ Below w.heap.size w w' := by
  obtain ⟨A, c, rfl, _, _, h3⟩ := h
  obtain ⟨X, hX⟩ : ∃ X, w.alloc (.cells #[.int .i64 s.1, .int .i64 s.2.1, .int .i64 s.2.2.1, .int .i64 s.2.2.2] 26) = X := ⟨_, rfl⟩
  have bX : Below w.heap.size w X := by rw [← hX]; exact (Below.refl _ _).alloc (Nat.le_refl _) _
  have sX : w.heap.size < X.heap.size := by rw [← hX]; simp
  have zz : ∀ j u, [Value.int .i64 s.1, .int .i64 s.2.1, .int .i64 s.2.2.1, .int .i64 s.2.2.2][j]? = some u → X.cell? ⟨w.heap.size, j, none⟩ = some u := fun j u hu => by
    have := new_cells w #[.int .i64 s.1, .int .i64 s.2.1, .int .i64 s.2.2.1, .int .i64 s.2.2.2] 26 (0, 0) j u hu
    rw [add_addr, hX, Nat.zero_add] at this
    exact this
  have HCW : Hid (∀ W, Below X.heap.size X W → (W.cell? ⟨w.heap.size, 0, none⟩ = some (.int .i64 s.1) ∧ W.cell? ⟨w.heap.size, 1, none⟩ = some (.int .i64 s.2.1) ∧ W.cell? ⟨w.heap.size, 2, none⟩ = some (.int .i64 s.2.2.1) ∧ W.cell? ⟨w.heap.size, 3, none⟩ = some (.int .i64 s.2.2.2)) ∧ W.cell? ⟨D, 0, none⟩ = some (.func (.func 9) #[] #[]) ∧ CS W W.heap.size A (spCs l)) := fun W hW =>
    ⟨⟨(hW.cell sX).trans (zz 0 _ rfl), (hW.cell sX).trans (zz 1 _ rfl), (hW.cell sX).trans (zz 2 _ rfl), (hW.cell sX).trans (zz 3 _ rfl)⟩, (hW.cell (p := ⟨D, 0, none⟩) (Nat.lt_trans (World.block_lt_of_cell? w _ hD) sX)).trans ((bX.cell (World.block_lt_of_cell? w _ hD)).trans hD), (((h3.below bX).more bX.size).below hW).more hW.size⟩
  obtain ⟨n, hn⟩ : ∃ n, n = l.length := ⟨_, rfl⟩
  have HN := Lib.hid hn
  have HX := Lib.hid hX
  have HBX := Lib.hid bX
  have BR := Lib.hid (Below.refl X.heap.size X)
  rw [← hn] at hl ⊢
  clear hD h3 hX bX sX zz hn
  obtain ⟨s0, s1, s2, s3⟩ := s
  unfold spV
  simp only at HCW HX ⊢
  obtain ⟨R, hR⟩ : ∃ R, R = witO l (s0, s1, s2, s3) := ⟨_, rfl⟩
  rw [← hR]
  have HR := Lib.hid hR
  clear hR
  go_enter Try.func10, Try.ntmps10
  go_wp2_with fail
  rw [HX.out]
  go_loopw [10] (fun i wr => ∃ k : Nat, k ≤ n ∧ i = .int .i64 k ∧ Hid ((l.take k).all (fun x => inO x (s0, s1, s2, s3)) = true) ∧ Hid (Below X.heap.size X wr)) (fun i _ => n - (intOf i).toNat)
  case atStart => exact ⟨0, Nat.zero_le _, rfl, rfl, BR⟩
  case round =>
    obtain ⟨k, hk, rfl, HF, HB⟩ := hrel
    by_cases hlt : k < n
    · have hkl : k < l.length := by rw [← HN.out]; exact hlt
      have HLT := Lib.hid hlt
      obtain ⟨_, _, hcs⟩ := HCW.out wr HB.out
      obtain ⟨b, o, rfl, hb, hc⟩ := hcs (by rw [spCs_len]; omega)
      obtain ⟨c0, c1, c2, c3⟩ := spCs_at l k hkl
      have e0 := hc _ _ c0
      have e1 := hc _ _ c1
      have e2 := hc _ _ c2
      have e3 := hc _ _ c3
      rw [← Nat.add_assoc] at e1 e2 e3
      have HS : Hid ((l.take (k + 1)).all (fun x => inO x (s0, s1, s2, s3)) = inO l[k] (s0, s1, s2, s3)) := by show _ = _; rw [all_snoc' _ l k hkl, HF.out, Bool.true_and]
      have HAL : Hid (inO l[k] (s0, s1, s2, s3) = false → R = false) := fun h => by rw [HR.out]; exact List.all_eq_false.2 ⟨_, List.getElem_mem hkl, by rw [h]; simp⟩
      obtain ⟨x, hx⟩ : ∃ x, x = l[k] := ⟨_, rfl⟩
      rw [← hx] at e0 e1 e2 e3 HS HAL
      obtain ⟨Z, hZ⟩ : ∃ Z, wr.alloc (.cells #[.int .i64 x.1, .int .i64 x.2.1, .int .i64 x.2.2.1, .int .i64 x.2.2.2] 26) = Z := ⟨_, rfl⟩
      have bZ : Below wr.heap.size wr Z := by rw [← hZ]; exact (Below.refl _ _).alloc (Nat.le_refl _) _
      have zz : ∀ j u, [Value.int .i64 x.1, .int .i64 x.2.1, .int .i64 x.2.2.1, .int .i64 x.2.2.2][j]? = some u → Z.cell? ⟨wr.heap.size, j, none⟩ = some u := fun j u hu => by
        have := new_cells wr #[.int .i64 x.1, .int .i64 x.2.1, .int .i64 x.2.2.1, .int .i64 x.2.2.2] 26 (0, 0) j u hu
        rw [add_addr, hZ, Nat.zero_add] at this
        exact this
      have HBZ := Lib.hid (HB.out.trans (bZ.mono HB.out.size))
      obtain ⟨⟨g0, g1, g2, g3⟩, gD, _⟩ := HCW.out Z HBZ.out
      have x0 := zz 0 _ rfl
      have x1 := zz 1 _ rfl
      have x2 := zz 2 _ rfl
      have x3 := zz 3 _ rfl
      have KF := Lib.hid (inO_any x (s0, s1, s2, s3) Z)
      obtain ⟨q, hq⟩ : ∃ q, q = inO x (s0, s1, s2, s3) := ⟨_, rfl⟩
      rw [← hq] at HS HAL KF
      have HZ := Lib.hid hZ
      have wk : IntKind.i64.wrap ((k : Int) + 1) = (k : Int) + 1 := by rw [IntKind.wrap_i64]; omega
      clear hc c0 c1 c2 c3 hx hb hq hZ bZ zz hcs hkl
      obtain ⟨f, t, u, v⟩ := x
      unfold spV at KF
      simp only at e0 e1 e2 e3 KF x0 x1 x2 x3 HZ
      go_upto_region 4 with fail
      rw [HZ.out]
      clear e0 e1 e2 e3
      go_wp2_with fail
      with_reducible refine KF.out.mono ?_
      rintro e w5 ⟨rfl, b5⟩
      have HB5 := Lib.hid (HBZ.out.trans (b5.mono HBZ.out.size))
      clear b5 x0 x1 x2 x3 g0 g1 g2 g3 gD
      cases q
      · have HT := Lib.hid (HAL.out rfl)
        go_wp2_with fail
        go_ret
        exact ⟨by rw [HT.out]; rfl, HBX.out.trans (HB5.out.mono HBX.out.size)⟩
      · have HT : Hid ((l.take (k + 1)).all (fun x => inO x (s0, s1, s2, s3)) = true) := HS.out
        go_wp2_with fail
        exact ⟨⟨k + 1, HLT.out, by go_num, HT, HB5⟩, by have := HLT.out; simp [intOf]; omega⟩
    · obtain rfl : k = n := by omega
      have HT : Hid (R = true) := by show _ = _; rw [HR.out]; unfold witO; rw [← HF.out, List.take_of_length_le (by rw [HN.out]; exact Nat.le_refl _)]
      go_wp2_with fail
      go_ret
      exact ⟨by rw [HT.out]; rfl, HBX.out.trans (HB.out.mono HBX.out.size)⟩
theorem ordP_wit (l : List Sp) : ordP l = l.all (witO l) := rfl
theorem ordQ_not (l : List Sp) (s : Sp) : (!ordQ l s) = witO l s := by
  unfold ordQ witO
  rw [List.not_any_eq_all_not]
  congr 1
  funext x
  rw [crs_not, Bool.not_not]
theorem filO (ms : List Mt) : filL ordP witO ms = (thruL ordP ms).map (dropM ordQ) := by
  unfold filL
  refine List.map_congr_left fun m _ => ?_
  unfold filM dropM keptL
  congr 2
  funext s
  exact (ordQ_not m.1 s).symm
set_option maxHeartbeats 2000000 in
theorem ok_any (D E : Nat) (v : Value) (l : List Sp) (hl : l.length ≤ 1000) (w : World) (hD : w.cell? ⟨D, 0, none⟩ = some (.func (.func 9) #[] #[])) (hE : w.cell? ⟨E, 0, none⟩ = some (.func (.func 10) #[] #[.pointer (some ⟨D, 0, none⟩)])) (h : SV w w.heap.size v l) :
    Calls Try.prog 12 #[v, .pointer (some ⟨E, 0, none⟩)] w fun e w' => e = .returned (.bool (ordP l)) ∧ Below w.heap.size w w' := by
  have HV := Lib.hid h
  obtain ⟨A, c, rfl, _, _, h3⟩ := h
  have HCW : Hid (∀ W, Below w.heap.size w W → W.cell? ⟨E, 0, none⟩ = some (.func (.func 10) #[] #[.pointer (some ⟨D, 0, none⟩)]) ∧ CS W W.heap.size A (spCs l)) := fun W hW =>
    ⟨(hW.cell (World.block_lt_of_cell? w _ hE)).trans hE, (h3.below hW).more hW.size⟩
  obtain ⟨n, hn⟩ : ∃ n, n = l.length := ⟨_, rfl⟩
  have HN := Lib.hid hn
  have KW : Hid (∀ W, Below w.heap.size w W → ∀ s, Calls Try.prog 10 #[.slice A n c, spV s, .pointer (some ⟨D, 0, none⟩)] W fun e w' => e = .returned (.bool (witO l s)) ∧ Below W.heap.size W w') := fun W hW s => by
    rw [hn]
    exact wit_any D _ l hl s W ((hW.cell (World.block_lt_of_cell? w _ hD)).trans hD) (HV.out.up hW)
  have BR := Lib.hid (Below.refl w.heap.size w)
  rw [← hn] at hl ⊢
  clear hD hE h3 hn HV
  obtain ⟨R, hR⟩ : ∃ R, R = ordP l := ⟨_, rfl⟩
  rw [← hR]
  have HR := Lib.hid hR
  clear hR
  go_enter Try.func12, Try.ntmps12
  go_wp2_with fail
  go_loopw [8] (fun i wr => ∃ k : Nat, k ≤ n ∧ i = .int .i64 k ∧ Hid ((l.take k).all (witO l) = true) ∧ Hid (Below w.heap.size w wr)) (fun i _ => n - (intOf i).toNat)
  case atStart => exact ⟨0, Nat.zero_le _, rfl, rfl, BR⟩
  case round =>
    obtain ⟨k, hk, rfl, HF, HB⟩ := hrel
    by_cases hlt : k < n
    · have hkl : k < l.length := by rw [← HN.out]; exact hlt
      have HLT := Lib.hid hlt
      obtain ⟨_, hcs⟩ := HCW.out wr HB.out
      obtain ⟨b, o, rfl, hb, hc⟩ := hcs (by rw [spCs_len]; omega)
      obtain ⟨c0, c1, c2, c3⟩ := spCs_at l k hkl
      have e0 := hc _ _ c0
      have e1 := hc _ _ c1
      have e2 := hc _ _ c2
      have e3 := hc _ _ c3
      rw [← Nat.add_assoc] at e1 e2 e3
      have HS : Hid ((l.take (k + 1)).all (witO l) = witO l l[k]) := by show _ = _; rw [all_snoc' _ l k hkl, HF.out, Bool.true_and]
      have HAL : Hid (witO l l[k] = false → R = false) := fun h => by rw [HR.out, ordP_wit]; exact List.all_eq_false.2 ⟨_, List.getElem_mem hkl, by rw [h]; simp⟩
      obtain ⟨x, hx⟩ : ∃ x, x = l[k] := ⟨_, rfl⟩
      rw [← hx] at e0 e1 e2 e3 HS HAL
      obtain ⟨Z, hZ⟩ : ∃ Z, wr.alloc (.cells #[.int .i64 x.1, .int .i64 x.2.1, .int .i64 x.2.2.1, .int .i64 x.2.2.2] 26) = Z := ⟨_, rfl⟩
      have bZ : Below wr.heap.size wr Z := by rw [← hZ]; exact (Below.refl _ _).alloc (Nat.le_refl _) _
      have zz : ∀ j u, [Value.int .i64 x.1, .int .i64 x.2.1, .int .i64 x.2.2.1, .int .i64 x.2.2.2][j]? = some u → Z.cell? ⟨wr.heap.size, j, none⟩ = some u := fun j u hu => by
        have := new_cells wr #[.int .i64 x.1, .int .i64 x.2.1, .int .i64 x.2.2.1, .int .i64 x.2.2.2] 26 (0, 0) j u hu
        rw [add_addr, hZ, Nat.zero_add] at this
        exact this
      have HBZ := Lib.hid (HB.out.trans (bZ.mono HB.out.size))
      obtain ⟨gE, _⟩ := HCW.out Z HBZ.out
      have x0 := zz 0 _ rfl
      have x1 := zz 1 _ rfl
      have x2 := zz 2 _ rfl
      have x3 := zz 3 _ rfl
      have KF := Lib.hid (KW.out Z HBZ.out x)
      obtain ⟨q, hq⟩ : ∃ q, q = witO l x := ⟨_, rfl⟩
      rw [← hq] at HS HAL KF
      have HZ := Lib.hid hZ
      have wk : IntKind.i64.wrap ((k : Int) + 1) = (k : Int) + 1 := by rw [IntKind.wrap_i64]; omega
      clear hc c0 c1 c2 c3 hx hb hq hZ bZ zz hcs hkl
      obtain ⟨f, t, u, v⟩ := x
      unfold spV at KF
      simp only at e0 e1 e2 e3 KF x0 x1 x2 x3 HZ
      go_upto_region 4 with fail
      rw [HZ.out]
      clear e0 e1 e2 e3
      go_wp2_with fail
      with_reducible refine KF.out.mono ?_
      rintro e w5 ⟨rfl, b5⟩
      have HB5 := Lib.hid (HBZ.out.trans (b5.mono HBZ.out.size))
      clear b5 x0 x1 x2 x3 gE
      cases q
      · have HT := Lib.hid (HAL.out rfl)
        go_wp2_with fail
        go_ret
        exact ⟨by rw [HT.out]; rfl, HB5.out⟩
      · have HT : Hid ((l.take (k + 1)).all (witO l) = true) := HS.out
        go_wp2_with fail
        exact ⟨⟨k + 1, HLT.out, by go_num, HT, HB5⟩, by have := HLT.out; simp [intOf]; omega⟩
    · obtain rfl : k = n := by omega
      have HT : Hid (R = true) := by show _ = _; rw [HR.out, ordP_wit, ← HF.out, List.take_of_length_le (by rw [HN.out]; exact Nat.le_refl _)]
      go_wp2_with fail
      go_ret
      exact ⟨by rw [HT.out]; rfl, HB.out⟩
set_option maxHeartbeats 4000000 in
theorem mo_any (A : Option Addr) (n c : Nat) (ms : List Mt) (HN : Hid (n = ms.length)) (hn : n ≤ 9223372036854775807) (w : World) (h : MS w w.heap.size A ms) :
    Calls Try.prog 3 #[.slice A n c] w fun e w' => e = .returned (.bool true) ∧ Below w.heap.size w w' := by
  obtain ⟨gd, hgd⟩ : ∃ g, g = goodB ms 30 := ⟨_, rfl⟩
  have K0 : Hid (∀ W, Below w.heap.size w W → Calls Try.prog 8 #[.slice A n c, .int .i64 30] W fun e w' => e = .returned (.bool gd) ∧ Below w.heap.size w w') := fun W hW => (good_any A n c ms 30 HN hn W (h.up hW)).mono fun e w' h => ⟨by rw [hgd]; exact h.1, hW.trans (h.2.mono hW.size)⟩
  have HGD : Hid (gd = true → (∀ m ∈ ms, m.1.length ≤ 5 ∧ m.2.length ≤ 5) ∧ n ≤ 30) := fun e => by
    obtain ⟨g0, g1⟩ := good_sm (hgd.symm.trans e)
    exact ⟨g0, by have := HN.out; omega⟩
  have HA := Lib.hid h
  clear h hgd
  go_enter Try.func3, Try.ntmps3
  go_wp2_with fail
  with_reducible refine (head_any w).mono ?_
  rintro e w1 ⟨rfl, b1⟩
  have B1 := Lib.hid b1
  clear b1
  go_wp2_with fail
  with_reducible refine (K0.out _ B1.out).mono ?_
  rintro e w2 ⟨rfl, b2⟩
  have B2 := Lib.hid b2
  clear b2 K0
  cases gd
  · go_wp2_with fail
    go_ret
    exact ⟨rfl, B2.out⟩
  · obtain ⟨hs, hn30⟩ := HGD.out rfl
    have HSM : Hid (∀ m ∈ ms, m.1.length ≤ 1000 ∧ m.2.length ≤ 1000) := fun m hm => by have := hs m hm; omega
    have HSM2 : Hid (smM ms) := fun m hm => by have := hs m hm; omega
    clear hs HGD
    obtain ⟨X, hX⟩ : ∃ X, (w2.alloc (.cells #[.func (.func 9) #[] #[]] 27)).alloc (.cells #[.func (.func 10) #[] #[.pointer (some ⟨w2.heap.size, 0, none⟩)]] 29) = X := ⟨_, rfl⟩
    have bX : Below w2.heap.size w2 X := by rw [← hX]; exact ((Below.refl _ _).alloc (Nat.le_refl _) _).alloc (by simp) _
    have cD : X.cell? ⟨w2.heap.size, 0, none⟩ = some (.func (.func 9) #[] #[]) := by rw [← hX]; exact Lib.cell?_alloc_some _ (new_cells w2 #[.func (.func 9) #[] #[]] 27 (0, 0) 0 _ rfl)
    have cE : X.cell? ⟨w2.heap.size + 1, 0, none⟩ = some (.func (.func 10) #[] #[.pointer (some ⟨w2.heap.size, 0, none⟩)]) := by
      rw [← hX]
      have h := new_cells (w2.alloc (.cells #[.func (.func 9) #[] #[]] 27)) #[.func (.func 10) #[] #[.pointer (some ⟨w2.heap.size, 0, none⟩)]] 29 (0, 0) 0 _ rfl
      rw [add_addr] at h
      simp only [World.size_alloc, Nat.zero_add] at h
      exact h
    have BX := Lib.hid (B2.out.trans (bX.mono B2.out.size))
    have cDW : ∀ W, Below X.heap.size X W → W.cell? ⟨w2.heap.size, 0, none⟩ = some (.func (.func 9) #[] #[]) := fun W hW => (hW.cell (World.block_lt_of_cell? X _ cD)).trans cD
    have cEW : ∀ W, Below X.heap.size X W → W.cell? ⟨w2.heap.size + 1, 0, none⟩ = some (.func (.func 10) #[] #[.pointer (some ⟨w2.heap.size, 0, none⟩)]) := fun W hW => (hW.cell (World.block_lt_of_cell? X _ cE)).trans cE
    have KF := Lib.hid (filter_any 12 10 #[.pointer (some ⟨w2.heap.size + 1, 0, none⟩)] #[.pointer (some ⟨w2.heap.size, 0, none⟩)] ordP witO A n c ms HN (by omega) HSM X (HA.out.up BX.out)
      ⟨enters_of Try.func12 (by kernel_rfl) rfl, fun W hW v l hv hl => ok_any _ _ v l hl W (cDW W hW) (cEW W hW) hv⟩
      ⟨enters_of Try.func10 (by kernel_rfl) rfl, fun W hW v l s hv hl => wit_any _ v l hl s W (cDW W hW) hv⟩)
    have HX := Lib.hid hX
    rw [filO] at KF
    obtain ⟨LL, hLL⟩ : ∃ LL, LL = (thruL ordP ms).map (dropM ordQ) := ⟨_, rfl⟩
    have HLL : Hid (smM LL ∧ LL.length ≤ 30) := by
      rw [hLL]
      refine ⟨fun x hx => ?_, by rw [List.length_map]; exact Nat.le_trans (List.length_filter_le _ _) (by rw [← HN.out]; exact hn30)⟩
      obtain ⟨m, hm, rfl⟩ := List.mem_map.1 hx
      have := HSM2.out m (List.mem_filter.1 hm).1
      exact ⟨this.1, Nat.le_trans (List.length_filter_le _ _) this.2⟩
    have KO : Hid (∀ W, Below w.heap.size w W → Calls Try.prog 14 #[.slice A n c] W fun e w' => ∃ v zs, e = .returned v ∧ MO W w' v zs LL) := fun W hW => by rw [hLL]; exact ordered_any A n c ms HN (by omega) HSM2 W (HA.out.up hW)
    rw [← hLL] at KF
    clear hX bX cD cDW cEW hLL
    go_upto_region 7 with fail
    rw [HX.out]
    go_wp2_with fail
    with_reducible refine KF.out.mono ?_
    rintro e w3 ⟨v3, z3, rfl, m3⟩
    obtain ⟨A3, c3, rfl, _, _, hm3⟩ := m3.out
    have B3 := Lib.hid (BX.out.trans (m3.kb.mono BX.out.size))
    have HM3 := Lib.hid hm3
    have KO3 := Lib.hid (KO.out w3 B3.out)
    clear m3 hm3 KF
    obtain ⟨N, hN⟩ : ∃ N, N = LL.length := ⟨_, rfl⟩
    rw [← hN]
    have HNL := Lib.hid hN
    clear hN
    go_wp2_with fail
    with_reducible refine KO3.out.mono ?_
    rintro e w4 ⟨v4, z4, rfl, m4⟩
    obtain ⟨A4, c4, rfl, _, _, hm4⟩ := m4.out
    have KS0 := same_any A4 A3 LL.length c4 LL.length c3 LL LL rfl rfl (by have := HLL.out.2; omega) HLL.out.1 w4 hm4 (HM3.out.up m4.kb)
    rw [decide_eq_true (rfl : LL = LL), ← HNL.out] at KS0
    have KS := Lib.hid KS0
    have B4 := Lib.hid (B3.out.trans (m4.kb.mono B3.out.size))
    rw [← HNL.out]
    clear m4 hm4 KS0 KO3
    go_wp2_with fail
    with_reducible refine KS.out.mono ?_
    rintro e w5 ⟨rfl, b5⟩
    have B5 := Lib.hid (B4.out.trans (b5.mono B4.out.size))
    clear b5
    go_wp2_with fail
    go_ret
    exact ⟨rfl, B5.out⟩
end Go.Proofs.Ytafbjadlklcicaa
