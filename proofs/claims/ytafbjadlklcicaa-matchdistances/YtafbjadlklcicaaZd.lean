/- MaDo, RowN, RowR in one text. -/
import Derived.Test.YtafbjadlklcicaaMaDt
import Derived.Laws.EntriesVeiled
import Derived.Deep.RegionHeld3
import Derived.Test.YtafbjadlklcicaaRows
import Derived.Test.YtafbjadlklcicaaMaMem
import Derived.ProofKit
import Derived.OpenShut
import Derived.Below
import Derived.ChangeArms
import Derived.DataReads
import Derived.ChangeSlices
import Derived.Lib.SmallJoins
/- MatchDistances answers true. -/
namespace Go.Proofs.Ytafbjadlklcicaa
open Go.RowKit Go.Shelf
set_option maxRecDepth 100000

theorem unit3 (z : Int) : ∃ u : Int, wrap64 ((IntKind.u64.wrap z).tmod 3) = u ∧ (u = 0 ∨ u = 1 ∨ u = 2) := by
  refine ⟨_, rfl, ?_⟩
  have h : 0 ≤ IntKind.u64.wrap z := by rw [IntKind.wrap_u64]; omega
  unfold wrap64
  rw [Int.tmod_eq_emod_of_nonneg h]
  omega
theorem ldL_eq (u lo hi : Int) (ss ps : List Int) {ms : List Mt} (h : ∀ m ∈ ms, okL m.1 ∧ okL m.2) : filL (ldP (rD u ss ps lo hi)) (fun _ _ => true) ms = thruL (diP u ss ps lo hi) ms := by
  unfold filL thruL
  rw [List.filter_congr fun m hm => ldP_eq (rD u ss ps lo hi) (h m hm).1]
  have e : (filM fun _ _ => true) = id := by
    funext m
    show (m.1, m.2.filter fun _ => true) = m
    rw [List.filter_eq_self.2 fun _ _ => rfl]
  rw [e, List.map_id]
  rfl
set_option maxHeartbeats 8000000 in
theorem dd_any (A : Option Addr) (n c : Nat) (ms : List Mt) (B1 : Option Addr) (nb1 cb1 : Nat) (zs1 : List Int) (rlo rhi uu : Int) (HN : Hid (n = ms.length)) (hn : n ≤ 9223372036854775807) (HNB1 : Hid (nb1 = zs1.length)) (hnb1 : nb1 ≤ 9223372036854775807) (w : World) (h : MS w w.heap.size A ms) (hz1 : CS w w.heap.size B1 (iv zs1)) :
    Calls Try.prog 5 #[.slice A n c, .slice B1 nb1 cb1, .agg #[.int .i64 rlo, .int .i64 rhi], .int .i64 uu] w fun e w' => e = .returned (.bool true) ∧ Below w.heap.size w w' := by
  have hmx : Try.prog.follows .mixedOrders = true := by kernel_rfl
  obtain ⟨gd, hgd⟩ : ∃ g, g = goodB ms 30 := ⟨_, rfl⟩
  have K0 : Hid (∀ W, Below w.heap.size w W → Calls Try.prog 8 #[.slice A n c, .int .i64 30] W fun e w' => e = .returned (.bool gd) ∧ Below w.heap.size w w' ∧ Below W.heap.size W w') := fun W hW => (good_any A n c ms 30 HN hn W (h.up hW)).mono fun e w' h => ⟨by rw [hgd]; exact h.1, hW.trans (h.2.mono hW.size), h.2⟩
  have HGD : Hid (gd = true → ((∀ m ∈ ms, m.1.length ≤ 5 ∧ m.2.length ≤ 5) ∧ n ≤ 30) ∧ ∀ m ∈ ms, okL m.1 ∧ okL m.2) := fun e => by
    obtain ⟨g0, g1⟩ := good_sm (hgd.symm.trans e)
    exact ⟨⟨g0, by have := HN.out; omega⟩, good_ok (hgd.symm.trans e)⟩
  have HA := Lib.hid h
  have KU1 : Hid (∀ W, Below w.heap.size w W → Calls Try.prog 15 #[.slice B1 nb1 cb1] W fun e w' => ∃ v, e = .returned v ∧ w'.ownsRow W.heap.size 3 1 v (upL zs1).length (iv (upL zs1)) ∧ Below W.heap.size W w') := fun W hW => up_any B1 nb1 cb1 zs1 HNB1 hnb1 W ((hz1.below hW).more hW.size)
  obtain ⟨ss, hss⟩ : ∃ k, k = upL zs1 := ⟨_, rfl⟩
  obtain ⟨m1, hm1⟩ : ∃ k, k = ss.length := ⟨_, rfl⟩
  have HNU : Hid (m1 = ss.length ∧ m1 ≤ 50 ∧ ss.Pairwise (· < ·)) := ⟨hm1, by rw [hm1, hss]; exact upL_len _, by rw [hss]; exact upR_rise _ _⟩
  rw [← hss, ← hm1] at KU1
  obtain ⟨X0, hX0⟩ : ∃ X, w.alloc (.cells #[.int .i64 rlo, .int .i64 rhi] 50) = X := ⟨_, rfl⟩
  have bX0 : Below w.heap.size w X0 := by rw [← hX0]; exact (Below.refl _ _).alloc (Nat.le_refl _) _
  have ca : X0.cell? ⟨w.heap.size, 0, none⟩ = some (.int .i64 rlo) := by rw [← hX0]; exact new_at w _ _ 0 _ rfl
  have cb : X0.cell? ⟨w.heap.size, 1, none⟩ = some (.int .i64 rhi) := by rw [← hX0]; exact new_at w _ _ 1 _ rfl
  have HCA : Hid (∀ W, Below X0.heap.size X0 W → W.cell? ⟨w.heap.size, 0, none⟩ = some (.int .i64 rlo) ∧ W.cell? ⟨w.heap.size, 1, none⟩ = some (.int .i64 rhi)) := fun W hW => ⟨(Kept.of hW).cell ca, (Kept.of hW).cell cb⟩
  have HX0 := Lib.hid hX0
  have B0 := Lib.hid bX0
  clear h hgd hz1 hss hm1 hX0 bX0 ca cb
  go_enter Try.func5, Try.ntmps5
  go_upto_region 1 with fail
  rw [HX0.out]
  go_wp2_with fail
  with_reducible refine (head_any X0).mono ?_
  rintro e w1 ⟨rfl, b1⟩
  have B1' := Lib.hid (B0.out.trans (b1.mono B0.out.size))
  have R1 := Lib.hid b1
  clear b1
  go_wp2_with fail
  with_reducible refine (K0.out _ B1'.out).mono ?_
  rintro e w2 ⟨rfl, b2, s2⟩
  have B2' := Lib.hid b2
  have R2 := Lib.hid (R1.out.trans (s2.mono R1.out.size))
  clear b2 s2 K0
  cases gd
  · go_wp2_with fail
    go_ret
    exact ⟨rfl, B2'.out⟩
  · obtain ⟨⟨hs, hn30⟩, hok⟩ := HGD.out rfl
    have HOK := Lib.hid hok
    have HSM : Hid (smM ms) := fun m hm => by have := hs m hm; omega
    have HSM2 : Hid (∀ m ∈ ms, m.1.length ≤ 1000 ∧ m.2.length ≤ 1000) := fun m hm => by have := hs m hm; omega
    clear hs hok HGD
    go_wp2_with fail
    with_reducible refine (KU1.out _ B2'.out).mono ?_
    rintro e w3 ⟨v3, rfl, o3, b3⟩
    obtain ⟨U1, d1, ev, _, _, hc3, _⟩ := own_form o3
    subst ev
    have HC3 := Lib.hid hc3
    have B3 := Lib.hid (B2'.out.trans (b3.mono B2'.out.size))
    have R3 := Lib.hid (R2.out.trans (b3.mono R2.out.size))
    clear o3 b3 hc3
    go_wp2_with fail
    with_reducible refine (KU1.out _ B3.out).mono ?_
    rintro e w4 ⟨v4, rfl, o4, b4⟩
    obtain ⟨U2, d2, ev, _, _, hc4, _⟩ := own_form o4
    subst ev
    have HT4 : Hid (Tx w4 U1 m1 d1 U2 m1 d2 ss ss) := ⟨HNU.out.1, HNU.out.1, by have := HNU.out.2.1; omega, by have := HNU.out.2.1; omega, HNU.out.2.2, HNU.out.2.2, (HC3.out.below b4).more b4.size, hc4⟩
    have B4 := Lib.hid (B3.out.trans (b4.mono B3.out.size))
    have R4 := Lib.hid (R3.out.trans (b4.mono R3.out.size))
    clear o4 b4 hc4 HC3 KU1
    obtain ⟨u, hu, hu3⟩ := unit3 uu
    have HU3 := Lib.hid hu3
    obtain ⟨X, hX⟩ : ∃ X, (w4.alloc (.cells #[.int .i64 0, .int .i64 1000, .slice U1 m1 d1, .slice U2 m1 d2] 38)).alloc (.cells #[.int .i64 u] 39) = X := ⟨_, rfl⟩
    have bX : Below w4.heap.size w4 X := by rw [← hX]; exact ((Below.refl _ _).alloc (Nat.le_refl _) _).alloc (by simp only [World.size_alloc]; omega) _
    have hTC : TC X w4.heap.size (w4.heap.size + 1) 0 1000 u U1 m1 d1 U2 m1 d2 ss ss := by
      have a : ∀ j v, (#[.int .i64 0, .int .i64 1000, .slice U1 m1 d1, .slice U2 m1 d2] : Array Value)[j]? = some v → X.cell? ⟨w4.heap.size, j, none⟩ = some v := fun j v h => by
        rw [← hX]
        exact old_at _ _ _ _ (new_at w4 _ _ j v h)
      refine ⟨?_, a 0 _ rfl, a 1 _ rfl, a 2 _ rfl, a 3 _ rfl, HT4.out.up bX, hu3⟩
      rw [← hX]
      have h := new_at (w4.alloc (.cells #[.int .i64 0, .int .i64 1000, .slice U1 m1 d1, .slice U2 m1 d2] 38)) #[.int .i64 u] 39 0 _ rfl
      simp only [World.size_alloc] at h
      exact h
    have BX := Lib.hid (B4.out.trans (bX.mono B4.out.size))
    have RX := Lib.hid (R4.out.trans (bX.mono R4.out.size))
    have HTC := Lib.hid hTC
    have HX := Lib.hid hX
    have hnb' := HN.out
    have HMA : Hid (∀ W, Below X.heap.size X W → MS W W.heap.size A ms) := fun W hW => (HA.out.up BX.out).up hW
    have HRR : Hid (∀ W, Below X.heap.size X W → W.cell? ⟨w.heap.size, 0, none⟩ = some (.int .i64 rlo) ∧ W.cell? ⟨w.heap.size, 1, none⟩ = some (.int .i64 rhi)) := fun W hW => HCA.out W (RX.out.trans (hW.mono RX.out.size))
    obtain ⟨Lv, hLv⟩ : ∃ L, L = thruL (diP u ss ss rlo rhi) ms := ⟨_, rfl⟩
    obtain ⟨Nv, hNv⟩ : ∃ N, N = Lv.length := ⟨_, rfl⟩
    have Hv : Hid (Nv ≤ 30 ∧ smM Lv) := ⟨by rw [hNv, hLv]; exact Nat.le_trans (List.length_filter_le _ _) (by rw [← hnb']; exact hn30), by rw [hLv]; exact fun x hx => HSM.out x (List.mem_filter.1 hx).1⟩
    have KF := Lib.hid (filter_any 28 23 #[.pointer (some ⟨w4.heap.size, 0, none⟩), .pointer (some ⟨w4.heap.size + 1, 0, none⟩), .pointer (some ⟨w.heap.size, 0, none⟩)] #[] (ldP (rD u ss ss rlo rhi)) (fun _ _ => true) A n c ms HN (by omega) HSM2 X (HMA.out X (Below.refl _ _))
      ⟨enters_of Try.func28 (by kernel_rfl) rfl, fun W hW v l hv hl => ld_any _ _ _ rlo rhi 0 1000 u U1 m1 d1 U2 m1 d2 ss ss v l (by omega) W (HRR.out W hW).1 (HRR.out W hW).2 (HTC.out.kept (Kept.of hW)) hv⟩
      ⟨enters_of Try.func23 (by kernel_rfl) rfl, fun W hW v l s hv hl => lall_any v s W⟩)
    rw [ldL_eq u rlo rhi ss ss HOK.out, ← hLv] at KF
    have RQX : ∀ {F : Nat} {args : Array Value} {W : World} {L : List Mt} {N : Nat}, N = L.length → Below X.heap.size X W → (Calls Try.prog F args W fun e w' => ∃ v zs, e = .returned v ∧ MO W w' v zs L) → Calls Try.prog F args W fun e w' => ∃ A c, e = .returned (.slice A N c) ∧ MS w' w'.heap.size A L ∧ Below W.heap.size W w' := fun hN hW h => h.mono fun e w' ⟨v, zs, he, hm⟩ => by
      obtain ⟨A, c, ev, _, _, h3⟩ := hm.out
      subst ev
      exact ⟨A, c, by rw [hN]; exact he, h3, hm.kb⟩
    have KD : Hid (∀ W, Below X.heap.size X W → Calls Try.prog 29 #[txV 0 1000 U1 m1 d1 U2 m1 d2, .slice A n c, .agg #[.int .i64 rlo, .int .i64 rhi], .int .i64 u] W fun e w' => ∃ A c, e = .returned (.slice A Nv c) ∧ MS w' w'.heap.size A Lv ∧ Below W.heap.size W w') := fun W hW => RQX hNv hW (by rw [hLv]; exact distance_any 0 1000 u rlo rhi U1 m1 d1 U2 m1 d2 ss ss HU3.out A n c ms HN (by omega) HSM.out W (HTC.out.tx.up hW) (HMA.out W hW))
    have KSv : Hid (∀ W A1 c1 A2 c2, MS W W.heap.size A1 Lv → MS W W.heap.size A2 Lv → Calls Try.prog 13 #[.slice A1 Nv c1, .slice A2 Nv c2] W fun e w' => e = .returned (.bool true) ∧ Below W.heap.size W w') := fun W A1 c1 A2 c2 h1 h2 => by
      have k := same_any A1 A2 Nv c1 Nv c2 Lv Lv hNv hNv (by have := Hv.out.1; omega) Hv.out.2 W h1 h2
      rw [decide_eq_true (rfl : Lv = Lv)] at k
      exact k
    have HNv : Hid (Nv = Lv.length) := hNv
    unfold txV at KD
    have HCELL : Hid (∀ W, Below X.heap.size X W → ((W.cell? ⟨w.heap.size, 0, none⟩ = some (.int .i64 rlo) ∧ W.cell? ⟨w.heap.size, 1, none⟩ = some (.int .i64 rhi)) ∧ W.cell? ⟨w4.heap.size + 1, 0, none⟩ = some (.int .i64 u)) ∧ W.cell? ⟨w4.heap.size, 0, none⟩ = some (.int .i64 0) ∧ W.cell? ⟨w4.heap.size, 1, none⟩ = some (.int .i64 1000) ∧ W.cell? ⟨w4.heap.size, 2, none⟩ = some (.slice U1 m1 d1) ∧ W.cell? ⟨w4.heap.size, 3, none⟩ = some (.slice U2 m1 d2)) := fun W hW => by
      obtain ⟨cu, t0, t1, t2, t3, _, _⟩ := hTC.kept (Kept.of hW)
      exact ⟨⟨HRR.out W hW, cu⟩, t0, t1, t2, t3⟩
    clear hX bX HT4 hTC hu3 hnb' RQX hLv hNv
    go_upto_region 7 with fail
    rw [hu, HX.out]
    go_wp2_with fail
    with_reducible refine KF.out.mono ?_
    rintro e w5 ⟨v5, z5, rfl, k5⟩
    obtain ⟨A5, c5, ev, _, _, m5⟩ := k5.out
    subst ev
    have HM5 := Lib.hid m5
    have Q5 := Lib.hid k5.kb
    rw [← HNv.out]
    clear k5 m5 KF hu
    obtain ⟨⟨⟨x0, x1⟩, x2⟩, x3, x4, x5, x6⟩ := HCELL.out w5 Q5.out
    go_wp2_with fail
    with_reducible refine (KD.out _ Q5.out).mono ?_
    rintro e w7 ⟨P7, g7, rfl, m7, b7⟩
    have CS7 := Lib.hid (KSv.out w7 P7 g7 A5 c5 m7 (HM5.out.up b7))
    have B7 := Lib.hid (BX.out.trans ((Q5.out.trans (b7.mono Q5.out.size)).mono BX.out.size))
    clear m7 b7 x0 x1 x2 x3 x4 x5 x6 KD KSv
    go_wp2_with fail
    with_reducible refine CS7.out.mono ?_
    rintro e w8 ⟨rfl, b8⟩
    have B8 := Lib.hid (B7.out.trans (b8.mono B7.out.size))
    clear b8
    go_wp2_with fail
    go_ret
    exact ⟨rfl, B8.out⟩
end Go.Proofs.Ytafbjadlklcicaa
/- What the rows hand the walks: matches; integers. -/
namespace Go.Proofs.Ytafbjadlklcicaa
open Go.ChangeShapes Go.WideShapes Go.ChangeAt Go.RowKit
set_option maxRecDepth 100000

/-- A slice of integers that came in. -/
def IsRow (k : IntKind) (w : World) (a : Option Addr) (len cap : Nat) (zs : List Int) : Prop :=
  (a = none ∧ len = 0 ∧ cap = 0 ∧ zs = []) ∨
  ∃ x, a = some x ∧ len ≤ cap ∧ cap ≤ maxLen ∧ zs.length = cap ∧ (∀ i, i < zs.length → w.cell? (x.add i) = some (.int k (zs.getD i 0))) ∧ ∀ n ∈ zs, (Lit.int k n).wf = true
theorem IsRow.ci {w : World} {a : Option Addr} {len cap : Nat} {zs : List Int} (h : IsRow .i64 w a len cap zs) : ∃ l : List Int, len = l.length ∧ len ≤ cap ∧ cap ≤ maxLen ∧ CS w w.heap.size a (l.map fun x => Value.int .i64 x) ∧ ∀ x ∈ l, (Lit.int .i64 x).wf = true := by
  rcases h with ⟨rfl, rfl, rfl, rfl⟩ | ⟨x, rfl, hl, hm, hz, hc, hw⟩
  · exact ⟨[], rfl, Nat.le_refl _, by decide, CS.nil _ _ _, fun x hx => by cases hx⟩
  · have hlen : (zs.take len).length = len := by rw [List.length_take]; omega
    refine ⟨zs.take len, hlen.symm, hl, hm, fun hp => ?_, fun x hx => hw x (List.mem_of_mem_take hx)⟩
    rw [List.length_map, hlen] at hp
    obtain ⟨b, o, s⟩ := x
    have h0 := hc 0 (by omega)
    have hs : s = none := by simpa [Addr.add] using World.cell?_spot h0
    subst hs
    refine ⟨b, o, rfl, World.block_lt_of_cell? w _ h0, fun k u hu => ?_⟩
    have hk : k < len := by have := (List.getElem?_eq_some_iff.1 hu).1; rw [List.length_map, hlen] at this; exact this
    have e := hc k (by omega)
    rw [add_addr] at e
    rw [e]
    rw [List.getElem?_map, List.getElem?_take_of_lt hk, List.getElem?_eq_getElem (by omega)] at hu
    rw [List.getD_eq_getElem?_getD, List.getElem?_eq_getElem (by omega)]
    exact hu
theorem spCs_cells {W : World} {b o : Nat} (l : List Sp) (h : ∀ i (hi : i < l.length), W.cell? ⟨b, o + i * 4 + 0, none⟩ = some (.int .i64 l[i].1) ∧ W.cell? ⟨b, o + i * 4 + 1, none⟩ = some (.int .i64 l[i].2.1) ∧ W.cell? ⟨b, o + i * 4 + 2, none⟩ = some (.int .i64 l[i].2.2.1) ∧ W.cell? ⟨b, o + i * 4 + 3, none⟩ = some (.int .i64 l[i].2.2.2)) :
    ∀ k u, (spCs l)[k]? = some u → W.cell? ⟨b, o + k, none⟩ = some u := fun k u hu => by
  have hk := (List.getElem?_eq_some_iff.1 hu).1
  rw [spCs_len] at hk
  have hi : k / 4 < l.length := by omega
  obtain ⟨a0, a1, a2, a3⟩ := h (k / 4) hi
  obtain ⟨b0, b1, b2, b3⟩ := spCs_at l (k / 4) hi
  rcases (by omega : k = k / 4 * 4 ∨ k = k / 4 * 4 + 1 ∨ k = k / 4 * 4 + 2 ∨ k = k / 4 * 4 + 3) with e | e | e | e
  · rw [← e] at b0; rw [show o + k = o + k / 4 * 4 + 0 by omega, a0, ← b0, hu]
  · rw [← e] at b1; rw [show o + k = o + k / 4 * 4 + 1 by omega, a1, ← b1, hu]
  · rw [← e] at b2; rw [show o + k = o + k / 4 * 4 + 2 by omega, a2, ← b2, hu]
  · rw [← e] at b3; rw [show o + k = o + k / 4 * 4 + 3 by omega, a3, ← b3, hu]
theorem zC_cells {W : World} {b o : Nat} (zs : List (Value × Value)) (h : ∀ i (hi : i < zs.length), W.cell? ⟨b, o + i * 2 + 0, none⟩ = some zs[i].1 ∧ W.cell? ⟨b, o + i * 2 + 1, none⟩ = some zs[i].2) :
    ∀ k u, (zC zs)[k]? = some u → W.cell? ⟨b, o + k, none⟩ = some u := fun k u hu => by
  have hk := (List.getElem?_eq_some_iff.1 hu).1
  rw [zC_len] at hk
  have hi : k / 2 < zs.length := by omega
  obtain ⟨a0, a1⟩ := h (k / 2) hi
  obtain ⟨b0, b1⟩ := zC_at zs (k / 2) hi
  rcases (by omega : k = k / 2 * 2 ∨ k = k / 2 * 2 + 1) with e | e
  · rw [← e] at b0; rw [show o + k = o + k / 2 * 2 + 0 by omega, a0, ← b0, hu]
  · rw [← e] at b1; rw [show o + k = o + k / 2 * 2 + 1 by omega, a1, ← b1, hu]
theorem one_ofN {cs : List Value} {i : Nat} {v : Value} (h : (cs.drop i).take 1 = [v]) : cs[i]? = some v := by
  have := congrArg (·[0]?) h
  simpa [List.getElem?_take, List.getElem?_drop] using this
theorem addr_addN (b o i j : Nat) : ((⟨b, o, none⟩ : Addr).add i).add j = ⟨b, o + i + j, none⟩ := by rw [add_addr, add_addr]
theorem span_fields : ∃ f0 f1 f2 f3, Try.prog.underlying 26 = some (.struct #[f0, f1, f2, f3]) ∧ f0.type = 3 ∧ f1.type = 3 ∧ f2.type = 3 ∧ f3.type = 3 ∧ f0.offset = 0 ∧ f1.offset = 1 ∧ f2.offset = 2 ∧ f3.offset = 3 :=
  ⟨_, _, _, _, Try.underlying26, rfl, rfl, rfl, rfl, rfl, rfl, rfl, rfl⟩
theorem match_fields : ∃ f0 f1, Try.prog.underlying 60 = some (.struct #[f0, f1]) ∧ f0.type = 28 ∧ f1.type = 28 ∧ f0.offset = 0 ∧ f1.offset = 1 :=
  ⟨_, _, Try.underlying60, rfl, rfl, rfl, rfl⟩
theorem cellsSpan : Try.prog.cellsOf 26 = 4 := by kernel_rfl
theorem cellsMatch : Try.prog.cellsOf 60 = 2 := by kernel_rfl
theorem cellsIntN : Try.prog.cellsOf 3 = 1 := by kernel_rfl
theorem cellsSpans : Try.prog.cellsOf 28 = 1 := by kernel_rfl
theorem span_read {H : Type} {enc : TypeId × Value → H} {W : World} {fuel : Nat} {cs : List Value} {x : DataW H × List MemPlace}
    (h : DataW.trod enc Try.prog W 0 (fun _ => true) true fuel 26 cs = some x) : ∃ p : Sp, cs[0]? = some (.int .i64 p.1) ∧ cs[1]? = some (.int .i64 p.2.1) ∧ cs[2]? = some (.int .i64 p.2.2.1) ∧ cs[3]? = some (.int .i64 p.2.2.2) := by
  obtain ⟨f0, f1, f2, f3, hu, t0, t1, t2, t3, o0, o1, o2, o3⟩ := span_fields
  obtain ⟨xs, n, rfl, _, _, hxl, hall⟩ := DataW.trod_struct hu h
  have hl3 : xs.length = 4 := hxl
  obtain ⟨x0, h0⟩ : ∃ y, xs[0]? = some y := ⟨xs[0]'(by omega), List.getElem?_eq_getElem (by omega)⟩
  obtain ⟨x1, h1⟩ : ∃ y, xs[1]? = some y := ⟨xs[1]'(by omega), List.getElem?_eq_getElem (by omega)⟩
  obtain ⟨x2, h2⟩ : ∃ y, xs[2]? = some y := ⟨xs[2]'(by omega), List.getElem?_eq_getElem (by omega)⟩
  obtain ⟨x3, h3⟩ : ∃ y, xs[3]? = some y := ⟨xs[3]'(by omega), List.getElem?_eq_getElem (by omega)⟩
  have e0 := hall 0 f0 rfl
  have e1 := hall 1 f1 rfl
  have e2 := hall 2 f2 rfl
  have e3 := hall 3 f3 rfl
  rw [t0, o0, cellsIntN, h0] at e0
  rw [t1, o1, cellsIntN, h1] at e1
  rw [t2, o2, cellsIntN, h2] at e2
  rw [t3, o3, cellsIntN, h3] at e3
  obtain ⟨m0, hm0, _, _⟩ := DataW.trod_int Try.underlying3 e0
  obtain ⟨m1, hm1, _, _⟩ := DataW.trod_int Try.underlying3 e1
  obtain ⟨m2, hm2, _, _⟩ := DataW.trod_int Try.underlying3 e2
  obtain ⟨m3, hm3, _, _⟩ := DataW.trod_int Try.underlying3 e3
  exact ⟨(m0, m1, m2, m3), one_ofN hm0, one_ofN hm1, one_ofN hm2, one_ofN hm3⟩
theorem open_sp {H : Type} {enc : TypeId × Value → H} {W : World} {cs : List Value} {fuel : Nat} {x : DataW H × List MemPlace}
    (hf : DataW.trod enc Try.prog W 0 (fun _ => true) true fuel 28 cs = some x) : ∃ v l, cs = [v] ∧ SV W W.heap.size v l := by
  rcases DataW.trod_slice Try.underlying28 hf with ⟨hcs, _⟩ | ⟨y, l, c, elems, rest, n, _, hcs, _, _, hl, hm, hlen, hel, _, _⟩
  · exact ⟨_, [], hcs, SV.nil _ _⟩
  · have each : ∀ i, i < l → ∃ p : Sp, W.cell? ((y.add (i * 4)).add 0) = some (.int .i64 p.1) ∧ W.cell? ((y.add (i * 4)).add 1) = some (.int .i64 p.2.1) ∧ W.cell? ((y.add (i * 4)).add 2) = some (.int .i64 p.2.2.1) ∧ W.cell? ((y.add (i * 4)).add 3) = some (.int .i64 p.2.2.2) := fun i hi => by
      have h1 := hel i hi
      rw [cellsSpan] at h1
      obtain ⟨q, hq⟩ : ∃ q, elems[i]? = some q := ⟨elems[i]'(by omega), List.getElem?_eq_getElem (by omega)⟩
      rw [hq] at h1
      obtain ⟨cs, hcc, ht⟩ := Option.bind_eq_some_iff.1 h1
      obtain ⟨p, p0, p1, p2, p3⟩ := span_read ht
      obtain ⟨_, _, hce⟩ := World.cells?_some hcc
      exact ⟨p, (hce 0 (by omega)).trans p0, (hce 1 (by omega)).trans p1, (hce 2 (by omega)).trans p2, (hce 3 (by omega)).trans p3⟩
    have hL : ((List.range l).map fun i => if h : i < l then Classical.choose (each i h) else ((0, 0, 0, 0) : Sp)).length = l := by simp
    refine ⟨_, (List.range l).map fun i => if h : i < l then Classical.choose (each i h) else ((0, 0, 0, 0) : Sp), hcs, some y, c, by rw [hL], by rw [hL]; exact hl, hm, fun hp => ?_⟩
    have hp' : 0 < l := by rw [spCs_len, hL] at hp; omega
    obtain ⟨b, o, s⟩ := y
    obtain ⟨p, h0, _⟩ := each 0 hp'
    have hs : s = none := by simpa [Addr.add] using World.cell?_spot h0
    subst hs
    refine ⟨b, o, rfl, ?_, spCs_cells _ fun k hk => ?_⟩
    · have := World.block_lt_of_cell? W _ h0
      simpa [Addr.add] using this
    · have hk' : k < l := by rw [hL] at hk; exact hk
      have hpt : ((List.range l).map fun i => if h : i < l then Classical.choose (each i h) else ((0, 0, 0, 0) : Sp))[k] = Classical.choose (each k hk') := by
        rw [List.getElem_map, List.getElem_range, dif_pos hk']
      rw [hpt]
      obtain ⟨g0, g1, g2, g3⟩ := Classical.choose_spec (each k hk')
      generalize Classical.choose (each k hk') = q at g0 g1 g2 g3 ⊢
      rw [addr_addN] at g0 g1 g2 g3
      exact ⟨g0, g1, g2, g3⟩
theorem match_read {H : Type} {enc : TypeId × Value → H} {W : World} {fuel : Nat} {cs : List Value} {x : DataW H × List MemPlace}
    (h : DataW.trod enc Try.prog W 0 (fun _ => true) true fuel 60 cs = some x) : ∃ q : (Value × Value) × Mt, cs[0]? = some q.1.1 ∧ cs[1]? = some q.1.2 ∧ SV W W.heap.size q.1.1 q.2.1 ∧ SV W W.heap.size q.1.2 q.2.2 := by
  obtain ⟨f0, f1, hu, t0, t1, o0, o1⟩ := match_fields
  obtain ⟨xs, n, rfl, _, _, hxl, hall⟩ := DataW.trod_struct hu h
  have hl3 : xs.length = 2 := hxl
  obtain ⟨x0, h0⟩ : ∃ y, xs[0]? = some y := ⟨xs[0]'(by omega), List.getElem?_eq_getElem (by omega)⟩
  obtain ⟨x1, h1⟩ : ∃ y, xs[1]? = some y := ⟨xs[1]'(by omega), List.getElem?_eq_getElem (by omega)⟩
  have e0 := hall 0 f0 rfl
  have e1 := hall 1 f1 rfl
  rw [t0, o0, cellsSpans, h0] at e0
  rw [t1, o1, cellsSpans, h1] at e1
  obtain ⟨v0, l0, hc0, s0⟩ := open_sp e0
  obtain ⟨v1, l1, hc1, s1⟩ := open_sp e1
  exact ⟨((v0, v1), (l0, l1)), one_ofN hc0, one_ofN hc1, s0, s1⟩
def IsMs (w : World) (a : Option Addr) (len cap : Nat) (ms : List Mt) : Prop := len = ms.length ∧ len ≤ cap ∧ cap ≤ maxLen ∧ MS w w.heap.size a ms
theorem open_ms {H : Type} {enc : TypeId × Value → H} {W : World} {a : Option Addr} {len cap fuel : Nat} {x : DataW H × List MemPlace}
    (hf : DataW.trod enc Try.prog W 0 (fun _ => true) true fuel 22 (Value.cells (.slice a len cap)).toList = some x) : ∃ ms, IsMs W a len cap ms := by
  rcases DataW.trod_slice Try.underlying22 hf with ⟨hcs, _⟩ | ⟨y, l, c, elems, rest, n, _, hcs, _, _, hl, hm, hlen, hel, _, _⟩
  · simp [Value.cells] at hcs
    obtain ⟨rfl, rfl, rfl⟩ := hcs
    exact ⟨[], rfl, Nat.le_refl _, by decide, MS.nil _ _ _⟩
  · simp [Value.cells] at hcs
    obtain ⟨rfl, rfl, rfl⟩ := hcs
    have each : ∀ i, i < len → ∃ q : (Value × Value) × Mt, W.cell? ((y.add (i * 2)).add 0) = some q.1.1 ∧ W.cell? ((y.add (i * 2)).add 1) = some q.1.2 ∧ SV W W.heap.size q.1.1 q.2.1 ∧ SV W W.heap.size q.1.2 q.2.2 := fun i hi => by
      have h1 := hel i hi
      rw [cellsMatch] at h1
      obtain ⟨q, hq⟩ : ∃ q, elems[i]? = some q := ⟨elems[i]'(by omega), List.getElem?_eq_getElem (by omega)⟩
      rw [hq] at h1
      obtain ⟨cs, hcc, ht⟩ := Option.bind_eq_some_iff.1 h1
      obtain ⟨p, p0, p1, p2, p3⟩ := match_read ht
      obtain ⟨_, _, hce⟩ := World.cells?_some hcc
      exact ⟨p, (hce 0 (by omega)).trans p0, (hce 1 (by omega)).trans p1, p2, p3⟩
    obtain ⟨qs, hqs⟩ : ∃ qs : List ((Value × Value) × Mt), qs = (List.range len).map fun i => if h : i < len then Classical.choose (each i h) else ((.slice none 0 0, .slice none 0 0), ([], [])) := ⟨_, rfl⟩
    have hL : qs.length = len := by rw [hqs]; simp
    have hq : ∀ k (hk : k < qs.length), W.cell? ((y.add (k * 2)).add 0) = some qs[k].1.1 ∧ W.cell? ((y.add (k * 2)).add 1) = some qs[k].1.2 ∧ SV W W.heap.size qs[k].1.1 qs[k].2.1 ∧ SV W W.heap.size qs[k].1.2 qs[k].2.2 := fun k hk => by
      have hk' : k < len := by rw [hL] at hk; exact hk
      have hpt : qs[k] = Classical.choose (each k hk') := by
        subst hqs
        rw [List.getElem_map, List.getElem_range, dif_pos hk']
      rw [hpt]
      exact Classical.choose_spec (each k hk')
    refine ⟨qs.map (·.2), by simp [hL], hl, hm, qs.map (·.1), fun hp => ?_, by simp, fun k h1 h2 => ?_⟩
    · have hp' : 0 < qs.length := by rw [zC_len, List.length_map] at hp; omega
      obtain ⟨b, o, s⟩ := y
      obtain ⟨h0, _⟩ := hq 0 hp'
      have hs : s = none := by simpa [Addr.add] using World.cell?_spot h0
      subst hs
      refine ⟨b, o, rfl, ?_, zC_cells _ fun k hk => ?_⟩
      · have := World.block_lt_of_cell? W _ h0
        simpa [Addr.add] using this
      · rw [List.length_map] at hk
        obtain ⟨g0, g1, _⟩ := hq k hk
        rw [addr_addN] at g0 g1
        rw [List.getElem_map]
        exact ⟨g0, g1⟩
    · rw [List.length_map] at h1
      rw [List.getElem_map, List.getElem_map]
      exact (hq k h1).2.2
end Go.Proofs.Ytafbjadlklcicaa
/- What the rows hand the walks: matches; integers; a range by value. -/
namespace Go.Proofs.Ytafbjadlklcicaa
open Go.ChangeShapes Go.WideShapes Go.ChangeAt Go.RowKit Go.Joins
set_option maxRecDepth 100000

theorem cellsRange : Try.prog.cellsOf 50 = 2 := by kernel_rfl
theorem open_range {H : Type} {enc : TypeId × Value → H} {W : World} {r : Reach} {b0 : Nat} {v : Value} {d : DataW H} {p : List MemPlace}
    (hv : Value.okWide Try.prog W r b0 50 v) (h : DataW.Trod enc Try.prog W 0 (fun _ => true) true 50 v d p) : ∃ a b : Int, v = .agg #[.int .i64 a, .int .i64 b] := by
  obtain ⟨c0, c1, y0, y1, m, rfl, _, _, hy0, hy1⟩ := open_agg2 Try.underlying50 (by kernel_rfl) cellsRange hv h
  obtain ⟨a, e0, _, _⟩ := DataW.trod_int Try.underlying3 hy0
  obtain ⟨b, e1, _, _⟩ := DataW.trod_int Try.underlying3 hy1
  simp at e0 e1
  subst e0 e1
  exact ⟨a, b, rfl⟩
end Go.Proofs.Ytafbjadlklcicaa
