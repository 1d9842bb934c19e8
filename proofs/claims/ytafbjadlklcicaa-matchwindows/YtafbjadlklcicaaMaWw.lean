/- MatchWindows answers true. -/
import Derived.Test.YtafbjadlklcicaaMaWe
import Derived.Laws.EntriesVeiled
import Derived.Deep.RegionHeld3
namespace Go.Proofs.Ytafbjadlklcicaa
open Go.RowKit Go.Shelf
set_option maxRecDepth 100000

theorem unit3 (z : Int) : ∃ u : Int, wrap64 ((IntKind.u64.wrap z).tmod 3) = u ∧ (u = 0 ∨ u = 1 ∨ u = 2) := by
  refine ⟨_, rfl, ?_⟩
  have h : 0 ≤ IntKind.u64.wrap z := by rw [IntKind.wrap_u64]; omega
  unfold wrap64
  rw [Int.tmod_eq_emod_of_nonneg h]
  omega
theorem winL_len (u : Int) (ss ps : List Int) (n : Int) (ms : List Mt) : (winL u ss ps n ms).length ≤ ms.length := by
  unfold winL
  rw [List.length_map]
  exact List.length_filter_le _ _
theorem winL_sm {u : Int} {ss ps : List Int} {n : Int} {ms : List Mt} (h : smM ms) : smM (winL u ss ps n ms) := fun x hx => by
  obtain ⟨m, hm, rfl⟩ := List.mem_map.1 hx
  have := h m (List.mem_filter.1 hm).1
  exact ⟨this.1, Nat.le_trans (List.length_filter_le _ _) this.2⟩
set_option maxHeartbeats 8000000 in
theorem ww_any (A : Option Addr) (n c : Nat) (ms : List Mt) (B1 : Option Addr) (nb1 cb1 : Nat) (zs1 : List Int) (B2 : Option Addr) (nb2 cb2 : Nat) (zs2 : List Int) (nn uu : Int) (HN : Hid (n = ms.length)) (hn : n ≤ 9223372036854775807) (HNB1 : Hid (nb1 = zs1.length)) (hnb1 : nb1 ≤ 9223372036854775807) (HNB2 : Hid (nb2 = zs2.length)) (hnb2 : nb2 ≤ 9223372036854775807) (w : World) (h : MS w w.heap.size A ms) (hz1 : CS w w.heap.size B1 (iv zs1)) (hz2 : CS w w.heap.size B2 (iv zs2)) :
    Calls Try.prog 4 #[.slice A n c, .slice B1 nb1 cb1, .slice B2 nb2 cb2, .int .i64 nn, .int .i64 uu] w fun e w' => e = .returned (.bool true) ∧ Below w.heap.size w w' := by
  have hmx : Try.prog.follows .mixedOrders = true := by kernel_rfl
  obtain ⟨gd, hgd⟩ : ∃ g, g = goodB ms 30 := ⟨_, rfl⟩
  have K0 : Hid (∀ W, Below w.heap.size w W → Calls Try.prog 8 #[.slice A n c, .int .i64 30] W fun e w' => e = .returned (.bool gd) ∧ Below w.heap.size w w' ∧ Below W.heap.size W w') := fun W hW => (good_any A n c ms 30 HN hn W (h.up hW)).mono fun e w' h => ⟨by rw [hgd]; exact h.1, hW.trans (h.2.mono hW.size), h.2⟩
  have HGD : Hid (gd = true → ((∀ m ∈ ms, m.1.length ≤ 5 ∧ m.2.length ≤ 5) ∧ n ≤ 30) ∧ ∀ m ∈ ms, okL m.1 ∧ okL m.2) := fun e => by
    obtain ⟨g0, g1⟩ := good_sm (hgd.symm.trans e)
    exact ⟨⟨g0, by have := HN.out; omega⟩, good_ok (hgd.symm.trans e)⟩
  have HA := Lib.hid h
  have KU1 : Hid (∀ W, Below w.heap.size w W → Calls Try.prog 15 #[.slice B1 nb1 cb1] W fun e w' => ∃ v, e = .returned v ∧ w'.ownsRow W.heap.size 3 1 v (upL zs1).length (iv (upL zs1)) ∧ Below W.heap.size W w') := fun W hW => up_any B1 nb1 cb1 zs1 HNB1 hnb1 W ((hz1.below hW).more hW.size)
  have KU2 : Hid (∀ W, Below w.heap.size w W → Calls Try.prog 15 #[.slice B2 nb2 cb2] W fun e w' => ∃ v, e = .returned v ∧ w'.ownsRow W.heap.size 3 1 v (upL zs2).length (iv (upL zs2)) ∧ Below W.heap.size W w') := fun W hW => up_any B2 nb2 cb2 zs2 HNB2 hnb2 W ((hz2.below hW).more hW.size)
  obtain ⟨ss, hss⟩ : ∃ k, k = upL zs1 := ⟨_, rfl⟩
  obtain ⟨ps, hps⟩ : ∃ k, k = upL zs2 := ⟨_, rfl⟩
  obtain ⟨m1, hm1⟩ : ∃ k, k = ss.length := ⟨_, rfl⟩
  obtain ⟨m2, hm2⟩ : ∃ k, k = ps.length := ⟨_, rfl⟩
  have HNU : Hid ((m1 = ss.length ∧ m1 ≤ 50 ∧ ss.Pairwise (· < ·)) ∧ (m2 = ps.length ∧ m2 ≤ 50 ∧ ps.Pairwise (· < ·))) := ⟨⟨hm1, by rw [hm1, hss]; exact upL_len _, by rw [hss]; exact upR_rise _ _⟩, hm2, by rw [hm2, hps]; exact upL_len _, by rw [hps]; exact upR_rise _ _⟩
  rw [← hss, ← hm1] at KU1
  rw [← hps, ← hm2] at KU2
  obtain ⟨X0, hX0⟩ : ∃ X, w.alloc (.cells #[.slice A n c] 22) = X := ⟨_, rfl⟩
  have bX0 : Below w.heap.size w X0 := by rw [← hX0]; exact (Below.refl _ _).alloc (Nat.le_refl _) _
  have ca : X0.cell? ⟨w.heap.size, 0, none⟩ = some (.slice A n c) := by rw [← hX0]; exact new_at w _ _ 0 _ rfl
  have HCA : Hid (∀ W, Below X0.heap.size X0 W → W.cell? ⟨w.heap.size, 0, none⟩ = some (.slice A n c)) := fun W hW => (Kept.of hW).cell ca
  have HX0 := Lib.hid hX0
  have B0 := Lib.hid bX0
  have R0 := Lib.hid (Below.refl X0.heap.size X0)
  clear h hgd hz1 hz2 hss hps hm1 hm2 hX0 bX0 ca
  go_enter Try.func4, Try.ntmps4
  go_upto_region 1 with fail
  rw [HX0.out]
  go_wp2_with fail
  with_reducible refine (head_any X0).mono ?_
  rintro e w1 ⟨rfl, b1⟩
  have B1' := Lib.hid (B0.out.trans (b1.mono B0.out.size))
  have R1 := Lib.hid b1
  have ca := HCA.out w1 b1
  clear b1
  go_wp2_with fail
  with_reducible refine (K0.out _ B1'.out).mono ?_
  rintro e w2 ⟨rfl, b2, s2⟩
  have B2' := Lib.hid b2
  have R2 := Lib.hid (R1.out.trans (s2.mono R1.out.size))
  clear b2 s2 K0 ca
  cases gd
  · go_wp2_with fail
    go_ret
    exact ⟨rfl, B2'.out⟩
  · obtain ⟨⟨hs, hn30⟩, hok⟩ := HGD.out rfl
    have HOK := Lib.hid hok
    have HSM : Hid (smM ms) := fun m hm => by have := hs m hm; omega
    have HSM2 : Hid (∀ m ∈ ms, m.1.length ≤ 1000 ∧ m.2.length ≤ 1000) := fun m hm => by have := hs m hm; omega
    clear hs hok HGD
    go_wp2_with fail
    with_reducible refine (KU1.out _ B2'.out).mono ?_
    rintro e w3 ⟨v3, rfl, o3, b3⟩
    obtain ⟨U1, d1, ev, _, _, hc3, _⟩ := own_form o3
    subst ev
    have HC3 := Lib.hid hc3
    have B3 := Lib.hid (B2'.out.trans (b3.mono B2'.out.size))
    have R3 := Lib.hid (R2.out.trans (b3.mono R2.out.size))
    clear o3 b3 hc3
    go_wp2_with fail
    with_reducible refine (KU2.out _ B3.out).mono ?_
    rintro e w4 ⟨v4, rfl, o4, b4⟩
    obtain ⟨U2, d2, ev, _, _, hc4, _⟩ := own_form o4
    subst ev
    have HT4 : Hid (Tx w4 U1 m1 d1 U2 m2 d2 ss ps) := ⟨HNU.out.1.1, HNU.out.2.1, by have := HNU.out.1.2.1; omega, by have := HNU.out.2.2.1; omega, HNU.out.1.2.2, HNU.out.2.2.2, (HC3.out.below b4).more b4.size, hc4⟩
    have B4 := Lib.hid (B3.out.trans (b4.mono B3.out.size))
    have R4 := Lib.hid (R3.out.trans (b4.mono R3.out.size))
    clear o4 b4 hc4 HC3 KU1 KU2
    obtain ⟨u, hu, hu3⟩ := unit3 uu
    have HU3 := Lib.hid hu3
    obtain ⟨X, hX⟩ : ∃ X, ((w4.alloc (.cells #[.int .i64 0, .int .i64 1000, .slice U1 m1 d1, .slice U2 m2 d2] 38)).alloc (.cells #[.int .i64 u] 39)).alloc (.cells #[widF w4.heap.size (w4.heap.size + 1)] 42) = X := ⟨_, rfl⟩
    have bX : Below w4.heap.size w4 X := by rw [← hX]; exact (((Below.refl _ _).alloc (Nat.le_refl _) _).alloc (by simp only [World.size_alloc]; omega) _).alloc (by simp only [World.size_alloc]; omega) _
    have hTC : TC X w4.heap.size (w4.heap.size + 1) 0 1000 u U1 m1 d1 U2 m2 d2 ss ps := by
      have a : ∀ j v, (#[.int .i64 0, .int .i64 1000, .slice U1 m1 d1, .slice U2 m2 d2] : Array Value)[j]? = some v → X.cell? ⟨w4.heap.size, j, none⟩ = some v := fun j v h => by
        rw [← hX]
        exact old_at _ _ _ _ (old_at _ _ _ _ (new_at w4 _ _ j v h))
      refine ⟨?_, a 0 _ rfl, a 1 _ rfl, a 2 _ rfl, a 3 _ rfl, HT4.out.up bX, hu3⟩
      rw [← hX]
      have h := new_at (w4.alloc (.cells #[.int .i64 0, .int .i64 1000, .slice U1 m1 d1, .slice U2 m2 d2] 38)) #[.int .i64 u] 39 0 _ rfl
      simp only [World.size_alloc] at h
      exact old_at _ _ _ _ h
    have hcw : X.cell? ⟨w4.heap.size + 2, 0, none⟩ = some (widF w4.heap.size (w4.heap.size + 1)) := by
      rw [← hX]
      have h := new_at ((w4.alloc (.cells #[.int .i64 0, .int .i64 1000, .slice U1 m1 d1, .slice U2 m2 d2] 38)).alloc (.cells #[.int .i64 u] 39)) #[widF w4.heap.size (w4.heap.size + 1)] 42 0 _ rfl
      simp only [World.size_alloc] at h
      exact h
    have BX := Lib.hid (B4.out.trans (bX.mono B4.out.size))
    have RX := Lib.hid (R4.out.trans (bX.mono R4.out.size))
    have HTC := Lib.hid hTC
    have HCW := Lib.hid hcw
    have HX := Lib.hid hX
    have hnb' := HN.out
    have h50 : ss.length ≤ 1000 ∧ ps.length ≤ 1000 := by have := HNU.out; omega
    have HMA : Hid (∀ W, Below X.heap.size X W → MS W W.heap.size A ms) := fun W hW => (HA.out.up BX.out).up hW
    obtain ⟨Ly, hLy⟩ : ∃ L, L = winL u ss ps nn ms := ⟨_, rfl⟩
    obtain ⟨Ny, hNy⟩ : ∃ N, N = Ly.length := ⟨_, rfl⟩
    have Hy : Hid (Ny ≤ 30 ∧ smM Ly) := ⟨by rw [hNy, hLy]; exact Nat.le_trans (winL_len _ _ _ _ _) (by rw [← hnb']; exact hn30), by rw [hLy]; exact winL_sm HSM.out⟩
    obtain ⟨Lz, hLz⟩ : ∃ L, L = winL u ss ps 1 ms := ⟨_, rfl⟩
    obtain ⟨Nz, hNz⟩ : ∃ N, N = Lz.length := ⟨_, rfl⟩
    have Hz : Hid (Nz ≤ 30 ∧ smM Lz) := ⟨by rw [hNz, hLz]; exact Nat.le_trans (winL_len _ _ _ _ _) (by rw [← hnb']; exact hn30), by rw [hLz]; exact winL_sm HSM.out⟩
    obtain ⟨Lv, hLv⟩ : ∃ L, L = thruL (apP u ss ps) ms := ⟨_, rfl⟩
    obtain ⟨Nv, hNv⟩ : ∃ N, N = Lv.length := ⟨_, rfl⟩
    have Hv : Hid (Nv ≤ 30 ∧ smM Lv) := ⟨by rw [hNv, hLv]; exact Nat.le_trans (List.length_filter_le _ _) (by rw [← hnb']; exact hn30), by rw [hLv]; exact fun x hx => HSM.out x (List.mem_filter.1 hx).1⟩
    have KF := Lib.hid (filter_any 22 23 #[.pointer (some ⟨w4.heap.size, 0, none⟩), .pointer (some ⟨w4.heap.size + 1, 0, none⟩)] #[] (lapP u ss ps) (fun _ _ => true) A n c ms HN (by omega) HSM2 X (HMA.out X (Below.refl _ _))
      ⟨enters_of Try.func22 (by kernel_rfl) rfl, fun W hW v l hv hl => lap_any _ _ 0 1000 u U1 m1 d1 U2 m2 d2 ss ps v l (by omega) W (HTC.out.kept (Kept.of hW)) hv⟩
      ⟨enters_of Try.func23 (by kernel_rfl) rfl, fun W hW v l s hv hl => lall_any v s W⟩)
    rw [lapL_eq u ss ps HOK.out, ← hLv] at KF
    have RQX : ∀ {F : Nat} {args : Array Value} {W : World} {L : List Mt} {N : Nat}, N = L.length → Below X.heap.size X W → (Calls Try.prog F args W fun e w' => ∃ v zs, e = .returned v ∧ MO W w' v zs L) → Calls Try.prog F args W fun e w' => ∃ A c, e = .returned (.slice A N c) ∧ MS w' w'.heap.size A L ∧ Below W.heap.size W w' := fun hN hW h => h.mono fun e w' ⟨v, zs, he, hm⟩ => by
      obtain ⟨A, c, ev, _, _, h3⟩ := hm.out
      subst ev
      exact ⟨A, c, by rw [hN]; exact he, h3, hm.kb⟩
    have RFX : ∀ {F : Nat} {args : Array Value} {W : World} {L : List Mt} {N : Nat}, N = L.length → Below X.heap.size X W → (Calls Try.prog F args W fun e w' => ∃ v zs, e = .returned v ∧ MF W w' v zs L) → Calls Try.prog F args W fun e w' => ∃ A c, e = .returned (.slice A N c) ∧ MS w' w'.heap.size A L ∧ Below W.heap.size W w' := fun hN hW h => h.mono fun e w' ⟨v, zs, he, hm⟩ => by
      obtain ⟨A, c, ev, _, _, h3⟩ := hm.out
      subst ev
      exact ⟨A, c, by rw [hN]; exact he, h3, hm.kb⟩
    have hn10 : n ≤ 10000 := by omega
    have KW : Hid (∀ W, Below X.heap.size X W → Calls Try.prog 25 #[txV 0 1000 U1 m1 d1 U2 m2 d2, .slice A n c, .int .i64 nn, .int .i64 u] W fun e w' => ∃ A c, e = .returned (.slice A Ny c) ∧ MS w' w'.heap.size A Ly ∧ Below W.heap.size W w') := fun W hW => RQX hNy hW (by rw [hLy]; exact window_any 0 1000 u nn U1 m1 d1 U2 m2 d2 ss ps HU3.out A n c ms HN hn10 HSM.out W (HTC.out.tx.up hW) (HMA.out W hW))
    have KT : Hid (∀ W, Below X.heap.size X W → Calls Try.prog 26 #[txV 0 1000 U1 m1 d1 U2 m2 d2, .slice A n c, .int .i64 u] W fun e w' => ∃ A c, e = .returned (.slice A Nz c) ∧ MS w' w'.heap.size A Lz ∧ Below W.heap.size W w') := fun W hW => RQX hNz hW (by rw [hLz]; exact tsame_any 0 1000 u U1 m1 d1 U2 m2 d2 ss ps HU3.out A n c ms HN hn10 HSM.out W (HTC.out.tx.up hW) (HMA.out W hW))
    have KA : Hid (∀ W, Below X.heap.size X W → Calls Try.prog 27 #[txV 0 1000 U1 m1 d1 U2 m2 d2, .slice A n c, .int .i64 u] W fun e w' => ∃ A c, e = .returned (.slice A Nv c) ∧ MS w' w'.heap.size A Lv ∧ Below W.heap.size W w') := fun W hW => RQX hNv hW (by rw [hLv]; exact apart_any 0 1000 u U1 m1 d1 U2 m2 d2 ss ps HU3.out A n c ms HN hn10 HSM.out W (HTC.out.tx.up hW) (HMA.out W hW))
    have KI : ∀ k, Hid (∀ W, Below X.heap.size X W → Calls Try.prog 18 #[.int .i64 k, .pointer (some ⟨w.heap.size, 0, none⟩), .pointer (some ⟨w4.heap.size + 2, 0, none⟩)] W fun e w' => ∃ v zs, e = .returned v ∧ MF W w' v zs (winL u ss ps k ms)) := fun k W hW => by
      have h := into_any w.heap.size (w4.heap.size + 2) w4.heap.size (w4.heap.size + 1) k 0 1000 u U1 m1 d1 U2 m2 d2 ss ps A n c ms HN hn10 HSM2 W (HCA.out W (RX.out.trans (hW.mono RX.out.size))) ((Kept.of hW).cell hcw) (hTC.kept (Kept.of hW)) (HMA.out W hW)
      rw [into_eq h50.1 h50.2 HOK.out k] at h
      exact h
    have KI1 : Hid (∀ W, Below X.heap.size X W → Calls Try.prog 18 #[.int .i64 nn, .pointer (some ⟨w.heap.size, 0, none⟩), .pointer (some ⟨w4.heap.size + 2, 0, none⟩)] W fun e w' => ∃ A c, e = .returned (.slice A Ny c) ∧ MS w' w'.heap.size A Ly ∧ Below W.heap.size W w') := fun W hW => RFX hNy hW (by rw [hLy]; exact (KI nn).out W hW)
    have KI2 : Hid (∀ W, Below X.heap.size X W → Calls Try.prog 18 #[.int .i64 1, .pointer (some ⟨w.heap.size, 0, none⟩), .pointer (some ⟨w4.heap.size + 2, 0, none⟩)] W fun e w' => ∃ A c, e = .returned (.slice A Nz c) ∧ MS w' w'.heap.size A Lz ∧ Below W.heap.size W w') := fun W hW => RFX hNz hW (by rw [hLz]; exact (KI 1).out W hW)
    have KSA : Hid (∀ (L : List Mt) (N : Nat), N = L.length → N ≤ 30 → smM L → ∀ W A1 c1 A2 c2, MS W W.heap.size A1 L → MS W W.heap.size A2 L → Calls Try.prog 13 #[.slice A1 N c1, .slice A2 N c2] W fun e w' => e = .returned (.bool true) ∧ Below W.heap.size W w') := fun L N hN h30 hsm W A1 c1 A2 c2 h1 h2 => by
      have k := same_any A1 A2 N c1 N c2 L L hN hN (by omega) hsm W h1 h2
      rw [decide_eq_true (rfl : L = L)] at k
      exact k
    have KSy := Lib.hid (KSA.out Ly Ny hNy Hy.out.1 Hy.out.2)
    have KSz := Lib.hid (KSA.out Lz Nz hNz Hz.out.1 Hz.out.2)
    have KSv := Lib.hid (KSA.out Lv Nv hNv Hv.out.1 Hv.out.2)
    have KR1 : Hid (∀ W, Below X.heap.size X W → ∀ x, Calls Try.prog 24 #[txV 0 1000 U1 m1 d1 U2 m2 d2, .int .i64 u, .int .i64 x] W fun e w' => e = .returned (.int .i64 (rkL u ss ps x)) ∧ Below W.heap.size W w') := fun W hW x => trank_any 0 1000 u x U1 m1 d1 U2 m2 d2 ss ps HU3.out W (HTC.out.tx.up hW)
    have KR2 : Hid (∀ W, Below X.heap.size X W → ∀ x, Calls Try.prog 17 #[txV 0 1000 U1 m1 d1 U2 m2 d2, .int .i64 u, .int .i64 x] W fun e w' => e = .returned (.int .i64 (rkL u ss ps x)) ∧ Below W.heap.size W w') := fun W hW x => lrank_any 0 1000 u x U1 m1 d1 U2 m2 d2 ss ps HU3.out W (HTC.out.tx.up hW)
    have HNv : Hid (Nv = Lv.length) := hNv
    unfold txV at KW KT KA KR1 KR2
    have HCELL : Hid (∀ W, Below X.heap.size X W → (W.cell? ⟨w.heap.size, 0, none⟩ = some (.slice A n c) ∧ W.cell? ⟨w4.heap.size + 1, 0, none⟩ = some (.int .i64 u)) ∧ W.cell? ⟨w4.heap.size, 0, none⟩ = some (.int .i64 0) ∧ W.cell? ⟨w4.heap.size, 1, none⟩ = some (.int .i64 1000) ∧ W.cell? ⟨w4.heap.size, 2, none⟩ = some (.slice U1 m1 d1) ∧ W.cell? ⟨w4.heap.size, 3, none⟩ = some (.slice U2 m2 d2)) := fun W hW => by
      obtain ⟨cu, t0, t1, t2, t3, _, _⟩ := hTC.kept (Kept.of hW)
      exact ⟨⟨HCA.out W (RX.out.trans (hW.mono RX.out.size)), cu⟩, t0, t1, t2, t3⟩
    have BXX := Lib.hid (Below.refl X.heap.size X)
    obtain ⟨⟨ca, cu⟩, t0, t1, t2, t3⟩ := HCELL.out X BXX.out
    unfold widF at HX
    clear hX bX HT4 hTC hcw hu3 hnb' h50 RQX RFX KI KSA hLy hNy hLz hNz hLv hNv
    go_upto_region 9 with fail
    rw [hu, HX.out]
    go_wp2_with fail
    with_reducible refine KF.out.mono ?_
    rintro e w5 ⟨v5, z5, rfl, k5⟩
    obtain ⟨A5, c5, ev, _, _, m5⟩ := k5.out
    subst ev
    have HM5 := Lib.hid m5
    have Q5 := Lib.hid k5.kb
    rw [← HNv.out]
    clear k5 m5 ca cu t0 t1 t2 t3 KF hu
    go_wp2_with fail
    go_loopw [16] (fun i wr => ∃ k : Nat, k ≤ 40 ∧ i = .int .i64 k ∧ Hid (Below w5.heap.size w5 wr)) (fun i _ => 40 - (intOf i).toNat)
    case atStart => exact ⟨0, Nat.zero_le _, rfl, Below.refl _ _⟩
    case round =>
      obtain ⟨k, hk, rfl, HB6⟩ := hrel
      have hXr := Q5.out.trans (HB6.out.mono Q5.out.size)
      by_cases hlt : k < 40
      · have HLT := Lib.hid hlt
        have z : ∀ r : WB wr.heap.size wr, (r.w.cell? ⟨w.heap.size, 0, none⟩ = some (.slice A n c) ∧ r.w.cell? ⟨w4.heap.size + 1, 0, none⟩ = some (.int .i64 u)) ∧ r.w.cell? ⟨w4.heap.size, 0, none⟩ = some (.int .i64 0) ∧ r.w.cell? ⟨w4.heap.size, 1, none⟩ = some (.int .i64 1000) ∧ r.w.cell? ⟨w4.heap.size, 2, none⟩ = some (.slice U1 m1 d1) ∧ r.w.cell? ⟨w4.heap.size, 3, none⟩ = some (.slice U2 m2 d2) := fun r => HCELL.out r.w (hXr.trans (r.ok.mono hXr.size))
        have zu := fun r => (z r).1.2
        have z0 := fun r => (z r).2.1
        have z1 := fun r => (z r).2.2.1
        have z2 := fun r => (z r).2.2.2.1
        have z3 := fun r => (z r).2.2.2.2
        have KA1 : Hid (∀ r : WB wr.heap.size wr, Calls Try.prog 24 #[.agg #[.int .i64 0, .int .i64 1000, .slice U1 m1 d1, .slice U2 m2 d2], .int .i64 u, .int .i64 (k : Int)] r.w fun e w' => e = .returned (.int .i64 (rkL u ss ps (k : Int))) ∧ Below r.w.heap.size r.w w') := fun r => KR1.out r.w (hXr.trans (r.ok.mono hXr.size)) k
        have KA2 : Hid (∀ r : WB wr.heap.size wr, Calls Try.prog 17 #[.agg #[.int .i64 0, .int .i64 1000, .slice U1 m1 d1, .slice U2 m2 d2], .int .i64 u, .int .i64 (k : Int)] r.w fun e w' => e = .returned (.int .i64 (rkL u ss ps (k : Int))) ∧ Below r.w.heap.size r.w w') := fun r => KR2.out r.w (hXr.trans (r.ok.mono hXr.size)) k
        generalize rkL u ss ps (k : Int) = rv at KA1 KA2
        have wk : IntKind.i64.wrap ((k : Int) + 1) = (k : Int) + 1 := by rw [IntKind.wrap_i64]; omega
        have hkI : (k : Int) < 40 := by omega
        clear z
        go_wp2_with fail
        refine wp_region_quietB wr.heap.size wr hmx (by kernel_rfl) (Below.refl _ _) ?_
        repeat (go_big_quiet_step ((first
          | (go_at_call 24; with_reducible exact calls_quietB (KA1.out _) (Nat.le_refl _))
          | (go_at_call 17; with_reducible exact calls_quietB (KA2.out _) (Nat.le_refl _)))))
        refine wpQuiet_nil ?_
        intro _ hw'
        obtain ⟨pq, rfl⟩ := hw'
        go_wp2_with fail
        exact ⟨⟨k + 1, HLT.out, by go_num, HB6.out.trans (pq.ok.mono HB6.out.size)⟩, by have := HLT.out; simp [intOf]; omega⟩
      · obtain rfl : k = 40 := by omega
        have hBW : ∀ W, Below wr.heap.size wr W → Below X.heap.size X W := fun W hW => hXr.trans (hW.mono hXr.size)
        have UP : ∀ {F : Nat} {args : Array Value} {W : World} {L : List Mt} {N : Nat}, Below wr.heap.size wr W → (Calls Try.prog F args W fun e w' => ∃ A c, e = .returned (.slice A N c) ∧ MS w' w'.heap.size A L ∧ Below W.heap.size W w') → Calls Try.prog F args W fun e w' => ∃ A c, e = .returned (.slice A N c) ∧ MS w' w'.heap.size A L ∧ Below wr.heap.size wr w' ∧ Below W.heap.size W w' := fun hW h => h.mono fun e w' ⟨A, c, he, hm, hb⟩ => ⟨A, c, he, hm, hW.trans (hb.mono hW.size), hb⟩
        have BLY : ∀ {F : Nat} {args : Array Value} {W : World}, Below wr.heap.size wr W → (Calls Try.prog F args W fun e w' => e = .returned (.bool true) ∧ Below W.heap.size W w') → Calls Try.prog F args W fun e w' => e = .returned (.bool true) ∧ Below wr.heap.size wr w' := fun hW h => h.mono fun e w' ⟨he, hb⟩ => ⟨he, hW.trans (hb.mono hW.size)⟩
        have CW := Lib.hid fun W (hW : Below wr.heap.size wr W) => UP hW (KW.out W (hBW W hW))
        have CT := Lib.hid fun W (hW : Below wr.heap.size wr W) => UP hW (KT.out W (hBW W hW))
        have CA := Lib.hid fun W (hW : Below wr.heap.size wr W) => UP hW (KA.out W (hBW W hW))
        have CI1 := Lib.hid fun W (hW : Below wr.heap.size wr W) => UP hW (KI1.out W (hBW W hW))
        have CI2 := Lib.hid fun W (hW : Below wr.heap.size wr W) => UP hW (KI2.out W (hBW W hW))
        have CSy := Lib.hid fun W P g P' g' (hW : Below wr.heap.size wr W) (hm : MS W W.heap.size P Ly) (hm' : MS W W.heap.size P' Ly) => BLY hW (KSy.out W P g P' g' hm hm')
        have CSz := Lib.hid fun W P g P' g' (hW : Below wr.heap.size wr W) (hm : MS W W.heap.size P Lz) (hm' : MS W W.heap.size P' Lz) => BLY hW (KSz.out W P g P' g' hm hm')
        have CSv := Lib.hid fun W P g (hW : Below wr.heap.size wr W) (hm : MS W W.heap.size P Lv) => BLY hW (KSv.out W P g A5 c5 hm ((HM5.out.up HB6.out).up hW))
        have HDY : Hid (∀ W, Below wr.heap.size wr W → (W.cell? ⟨w.heap.size, 0, none⟩ = some (.slice A n c) ∧ W.cell? ⟨w4.heap.size + 1, 0, none⟩ = some (.int .i64 u)) ∧ W.cell? ⟨w4.heap.size, 0, none⟩ = some (.int .i64 0) ∧ W.cell? ⟨w4.heap.size, 1, none⟩ = some (.int .i64 1000) ∧ W.cell? ⟨w4.heap.size, 2, none⟩ = some (.slice U1 m1 d1) ∧ W.cell? ⟨w4.heap.size, 3, none⟩ = some (.slice U2 m2 d2)) := fun W hW => HCELL.out W (hBW W hW)
        have BR := Lib.hid (Below.refl wr.heap.size wr)
        have HEND : Hid (∀ W, Below wr.heap.size wr W → Below w.heap.size w W) := fun W hW => BX.out.trans ((hBW W hW).mono BX.out.size)
        clear hBW UP BLY hXr KW KT KA KI1 KI2 KSy KSz KSv KR1 KR2 HCELL HMA
        go_upto_region 15 with fail
        obtain ⟨⟨x1, x2⟩, x3, x4, x5, x6⟩ := HDY.out wr BR.out
        go_wp2_with (first
          | (go_at_call 25; (with_reducible refine (CW.out _ BR.out).mono ?_); rintro e w7 ⟨P7, g7, rfl, m7, b7, _⟩; obtain ⟨⟨y1, y2⟩, y3, y4, y5, y6⟩ := HDY.out _ b7)
          | (go_at_call 18; (with_reducible refine (CI1.out _ (by assumption)).mono ?_); rintro e w8 ⟨P8, g8, rfl, m8, b8, s8⟩; have m7' := m7.up s8; obtain ⟨⟨y1, y2⟩, y3, y4, y5, y6⟩ := HDY.out _ b8)
          | (go_at_call 13; (with_reducible refine (CSy.out _ _ _ _ _ (by assumption) (by assumption) (by assumption)).mono ?_); rintro e w9 ⟨rfl, b9⟩; obtain ⟨⟨y1, y2⟩, y3, y4, y5, y6⟩ := HDY.out _ b9)
          | (go_at_call 26; (with_reducible refine (CT.out _ (by assumption)).mono ?_); rintro e w10 ⟨P10, g10, rfl, m10, b10, _⟩; obtain ⟨⟨y1, y2⟩, y3, y4, y5, y6⟩ := HDY.out _ b10)
          | (go_at_call 18; (with_reducible refine (CI2.out _ (by assumption)).mono ?_); rintro e w11 ⟨P11, g11, rfl, m11, b11, s11⟩; have m10' := m10.up s11; obtain ⟨⟨y1, y2⟩, y3, y4, y5, y6⟩ := HDY.out _ b11)
          | (go_at_call 13; (with_reducible refine (CSz.out _ _ _ _ _ (by assumption) (by assumption) (by assumption)).mono ?_); rintro e w12 ⟨rfl, b12⟩; obtain ⟨⟨y1, y2⟩, y3, y4, y5, y6⟩ := HDY.out _ b12)
          | (go_at_call 27; (with_reducible refine (CA.out _ (by assumption)).mono ?_); rintro e w13 ⟨P13, g13, rfl, m13, b13, _⟩)
          | (go_at_call 13; (with_reducible refine (CSv.out _ _ _ (by assumption) (by assumption)).mono ?_); rintro e w14 ⟨rfl, b14⟩))
        go_ret
        exact ⟨rfl, HEND.out _ (by assumption)⟩
end Go.Proofs.Ytafbjadlklcicaa
