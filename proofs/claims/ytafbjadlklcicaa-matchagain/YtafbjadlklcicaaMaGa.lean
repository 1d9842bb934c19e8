/- MatchAgain: what its calls leave. -/
import Derived.Test.YtafbjadlklcicaaMaAp
import Derived.Test.YtafbjadlklcicaaMaO2
import Derived.Test.YtafbjadlklcicaaMaSf
import Derived.Test.YtafbjadlklcicaaMaGd
import Derived.Test.YtafbjadlklcicaaMaHd
import Derived.Laws.EntriesVeiled
import Derived.Deep.RegionHeld3
namespace Go.Proofs.Ytafbjadlklcicaa
open Go.RowKit Go.Shelf
set_option maxRecDepth 100000

/-- A slice of these matches comes back. -/
def RQ (W : World) (L : List Mt) (N : Nat) (e : Ending) (w' : World) : Prop := ∃ A c, e = .returned (.slice A N c) ∧ MS w' w'.heap.size A L ∧ Below W.heap.size W w'
theorem RQ.of {F : Nat} {args : Array Value} {W : World} {L : List Mt} {N : Nat} (hN : N = L.length) (h : Calls Try.prog F args W fun e w' => ∃ v zs, e = .returned v ∧ MO W w' v zs L) : Calls Try.prog F args W (RQ W L N) :=
  h.mono fun e w' ⟨v, zs, he, hm⟩ => by
    obtain ⟨A, c, ev, _, _, h3⟩ := hm.out
    subst ev
    exact ⟨A, c, by rw [hN]; exact he, h3, hm.kb⟩
theorem RQ.ofK {F : Nat} {args : Array Value} {W : World} {L : List Mt} {N : Nat} (hN : N = L.length) (h : Calls Try.prog F args W fun e w' => ∃ v zs, e = .returned v ∧ MK W w' v zs L) : Calls Try.prog F args W (RQ W L N) :=
  h.mono fun e w' ⟨v, zs, he, hm⟩ => by
    obtain ⟨A, c, ev, _, _, h3⟩ := hm.out
    subst ev
    exact ⟨A, c, by rw [hN]; exact he, h3, hm.kb⟩
def letL (P : List Sp → Bool) (q : List Sp → Sp → Bool) (ms : List Mt) : List Mt := (thruL P ms).map (dropM q)
theorem thruL_again (P : List Sp → Bool) (ms : List Mt) : thruL P (thruL P ms) = thruL P ms := by
  unfold thruL
  rw [List.filter_filter]
  simp
theorem letL_again (P : List Sp → Bool) (q : List Sp → Sp → Bool) (ms : List Mt) : letL P q (letL P q ms) = letL P q ms := by
  unfold letL thruL
  rw [List.filter_map, List.map_map]
  have e1 : (List.filter (fun m => P m.1) ms).filter ((fun m : Mt => P m.1) ∘ dropM q) = List.filter (fun m => P m.1) ms := List.filter_eq_self.2 fun m hm => (List.mem_filter.1 hm).2
  rw [e1]
  refine List.map_congr_left fun m _ => ?_
  show dropM q (dropM q m) = dropM q m
  unfold dropM keptL
  rw [List.filter_filter]
  simp
theorem letL_len (P : List Sp → Bool) (q : List Sp → Sp → Bool) (ms : List Mt) : (letL P q ms).length = (thruL P ms).length := List.length_map ..
theorem thruL_mono {P Q : List Sp → Bool} (h : ∀ l, P l = true → Q l = true) (ms : List Mt) : (thruL P ms).length ≤ (thruL Q ms).length := by
  unfold thruL
  rw [← List.countP_eq_length_filter, ← List.countP_eq_length_filter]
  exact List.countP_mono_left fun m _ hm => h m.1 hm
theorem winP_mono (u : Int) (ss ps : List Int) (n : Int) (l : List Sp) (h : winP u ss ps n l = true) : winP u ss ps (n + 1) l = true := by
  unfold winP at *
  split at h
  · rename_i h0
    rw [if_pos h0]
    simp only [decide_eq_true_eq] at *
    omega
  · rename_i h0
    rw [if_neg h0]
    simp only [decide_eq_true_eq] at *
    omega
theorem letL_sm {P : List Sp → Bool} {q : List Sp → Sp → Bool} {ms : List Mt} (h : smM ms) : smM (letL P q ms) := fun x hx => by
  obtain ⟨m, hm, rfl⟩ := List.mem_map.1 hx
  have := h m (List.mem_filter.1 hm).1
  exact ⟨this.1, Nat.le_trans (List.length_filter_le _ _) this.2⟩
theorem thruL_sm {P : List Sp → Bool} {ms : List Mt} (h : smM ms) : smM (thruL P ms) := fun x hx => h x (List.mem_filter.1 hx).1
theorem thruL_le (P : List Sp → Bool) (ms : List Mt) : (thruL P ms).length ≤ ms.length := List.length_filter_le _ _
theorem mild_nil (ms : List Mt) : thruL (mildP []) ms = ms := List.filter_eq_self.2 fun m _ => by
  unfold mildP covB
  simp
/-- A unit out of a number. -/
theorem unit3 (z : Int) : ∃ u : Int, wrap64 ((IntKind.u64.wrap z).tmod 3) = u ∧ (u = 0 ∨ u = 1 ∨ u = 2) := by
  refine ⟨_, rfl, ?_⟩
  have h : 0 ≤ IntKind.u64.wrap z := by rw [IntKind.wrap_u64]; omega
  unfold wrap64
  rw [Int.tmod_eq_emod_of_nonneg h]
  omega
theorem and_31 (b : Int) : ∃ n : Nat, bits .and .i64 b 31 = (n : Int) ∧ n ≤ 31 := by
  have h : (BitVec.ofInt 64 b &&& BitVec.ofInt 64 31).toNat ≤ 31 := by
    rw [BitVec.toNat_and]
    exact Nat.le_trans Nat.and_le_right (by decide)
  refine ⟨(BitVec.ofInt 64 b &&& BitVec.ofInt 64 31).toNat, ?_, h⟩
  show IntKind.i64.wrap ((BitVec.ofInt 64 b &&& BitVec.ofInt 64 31).toNat : Int) = _
  rw [IntKind.wrap_i64]
  omega
set_option maxHeartbeats 4000000 in
theorem ga_any (A : Option Addr) (n c : Nat) (ms : List Mt) (B : Option Addr) (nb cb : Nat) (zs : List Int) (nn uu : Int) (HN : Hid (n = ms.length)) (hn : n ≤ 9223372036854775807) (HNB : Hid (nb = zs.length)) (hnb : nb ≤ 9223372036854775807) (w : World) (h : MS w w.heap.size A ms) (hz : CS w w.heap.size B (iv zs)) :
    Calls Try.prog 6 #[.slice A n c, .slice B nb cb, .int .i64 nn, .int .i64 uu] w fun e w' => e = .returned (.bool true) ∧ Below w.heap.size w w' := by
  obtain ⟨gd, hgd⟩ : ∃ g, g = goodB ms 30 := ⟨_, rfl⟩
  have K0 : Hid (∀ W, Below w.heap.size w W → Calls Try.prog 8 #[.slice A n c, .int .i64 30] W fun e w' => e = .returned (.bool gd) ∧ Below w.heap.size w w') := fun W hW => (good_any A n c ms 30 HN hn W (h.up hW)).mono fun e w' h => ⟨by rw [hgd]; exact h.1, hW.trans (h.2.mono hW.size)⟩
  have HGD : Hid (gd = true → (∀ m ∈ ms, m.1.length ≤ 5 ∧ m.2.length ≤ 5) ∧ n ≤ 30) := fun e => by
    obtain ⟨g0, g1⟩ := good_sm (hgd.symm.trans e)
    exact ⟨g0, by have := HN.out; omega⟩
  have HA := Lib.hid h
  have HZ := Lib.hid hz
  have KU : Hid (∀ W, Below w.heap.size w W → Calls Try.prog 15 #[.slice B nb cb] W fun e w' => ∃ v, e = .returned v ∧ w'.ownsRow W.heap.size 3 1 v (upL zs).length (iv (upL zs)) ∧ Below W.heap.size W w') := fun W hW => up_any B nb cb zs HNB hnb W ((hz.below hW).more hW.size)
  obtain ⟨nU, hnU⟩ : ∃ k, k = (upL zs).length := ⟨_, rfl⟩
  have HNU : Hid (nU = (upL zs).length ∧ nU ≤ 50) := ⟨hnU, by rw [hnU]; exact upL_len zs⟩
  rw [← hnU] at KU
  clear h hgd hz hnU
  go_enter Try.func6, Try.ntmps6
  go_wp2_with fail
  with_reducible refine (head_any w).mono ?_
  rintro e w1 ⟨rfl, b1⟩
  have B1 := Lib.hid b1
  clear b1
  go_wp2_with fail
  with_reducible refine (K0.out _ B1.out).mono ?_
  rintro e w2 ⟨rfl, b2⟩
  have B2 := Lib.hid b2
  clear b2 K0
  cases gd
  · go_wp2_with fail
    go_ret
    exact ⟨rfl, B2.out⟩
  · obtain ⟨hs, hn30⟩ := HGD.out rfl
    have HSM : Hid (smM ms) := fun m hm => by have := hs m hm; omega
    clear hs HGD
    go_wp2_with fail
    with_reducible refine (KU.out _ B2.out).mono ?_
    rintro e w3 ⟨v3, rfl, o3, b3⟩
    obtain ⟨U1, d1, ev, _, _, hc3, _⟩ := own_form o3
    subst ev
    have HC3 := Lib.hid hc3
    have B3 := Lib.hid (B2.out.trans (b3.mono B2.out.size))
    clear o3 b3 hc3
    go_wp2_with fail
    with_reducible refine (KU.out _ B3.out).mono ?_
    rintro e w4 ⟨v4, rfl, o4, b4⟩
    obtain ⟨U2, d2, ev, _, _, hc4, _⟩ := own_form o4
    subst ev
    have HT4 : Hid (Tx w4 U1 nU d1 U2 nU d2 (upL zs) (upL zs)) := ⟨HNU.out.1, HNU.out.1, by have := HNU.out.2; omega, by have := HNU.out.2; omega, upR_rise _ _, upR_rise _ _, (HC3.out.below b4).more b4.size, hc4⟩
    have B4 := Lib.hid (B3.out.trans (b4.mono B3.out.size))
    clear o4 b4 hc4 HC3 KU
    obtain ⟨X, hX⟩ : ∃ X, w4.alloc (.cells #[.int .i64 0, .int .i64 30, .slice U1 nU d1, .slice U2 nU d2] 38) = X := ⟨_, rfl⟩
    have bX : Below w4.heap.size w4 X := by rw [← hX]; exact (Below.refl _ _).alloc (Nat.le_refl _) _
    have HBX := Lib.hid (B4.out.trans (bX.mono B4.out.size))
    have HT := Lib.hid (HT4.out.up bX)
    have HD : Hid (∀ W, Below X.heap.size X W → W.cell? ⟨w4.heap.size, 0, none⟩ = some (.int .i64 0) ∧ W.cell? ⟨w4.heap.size, 1, none⟩ = some (.int .i64 30) ∧ W.cell? ⟨w4.heap.size, 2, none⟩ = some (.slice U1 nU d1) ∧ W.cell? ⟨w4.heap.size, 3, none⟩ = some (.slice U2 nU d2)) := fun W hW => by
      have a : ∀ j v, (#[.int .i64 0, .int .i64 30, .slice U1 nU d1, .slice U2 nU d2] : Array Value)[j]? = some v → X.cell? ⟨w4.heap.size, j, none⟩ = some v := fun j v h => by rw [← hX]; exact new_at w4 _ _ j v h
      exact ⟨(Kept.of hW).cell (a 0 _ rfl), (Kept.of hW).cell (a 1 _ rfl), (Kept.of hW).cell (a 2 _ rfl), (Kept.of hW).cell (a 3 _ rfl)⟩
    have BX0 : Hid (Below X.heap.size X X) := Below.refl _ _
    have HX := Lib.hid hX
    obtain ⟨u, hu, hu3⟩ := unit3 uu
    obtain ⟨q, hq, hq31⟩ := and_31 nn
    have HU3 := Lib.hid hu3
    clear hX bX HT4
    obtain ⟨us, hus⟩ : ∃ us, us = upL zs := ⟨_, rfl⟩
    rw [← hus] at HT
    have hnb' := HN.out
    have wq : IntKind.i64.wrap ((q : Int) + 1) = (q : Int) + 1 := by rw [IntKind.wrap_i64]; omega
    have HMA : Hid (∀ W, Below X.heap.size X W → MS W W.heap.size A ms) := fun W hW => (HA.out.up HBX.out).up hW
    have HTX : Hid (∀ W, Below X.heap.size X W → Tx W U1 nU d1 U2 nU d2 us us) := fun W hW => HT.out.up hW
    have KSA : Hid (∀ (L : List Mt) (N : Nat), N = L.length → N ≤ 30 → smM L → ∀ W A1 c1 A2 c2, MS W W.heap.size A1 L → MS W W.heap.size A2 L → Calls Try.prog 13 #[.slice A1 N c1, .slice A2 N c2] W fun e w' => e = .returned (.bool true) ∧ Below W.heap.size W w') := fun L N hN h30 hsm W A1 c1 A2 c2 h1 h2 => by
      have k := same_any A1 A2 N c1 N c2 L L hN hN (by omega) hsm W h1 h2
      rw [decide_eq_true (rfl : L = L)] at k
      exact k
    obtain ⟨Lx, hLx⟩ : ∃ L, L = letL ordP ordQ ms := ⟨_, rfl⟩
    obtain ⟨Nx, hNx⟩ : ∃ N, N = Lx.length := ⟨_, rfl⟩
    have Hx : Hid (Nx ≤ 30 ∧ smM Lx) := ⟨by rw [hNx, hLx]; exact by show (letL _ _ ms).length ≤ _; rw [letL_len]; exact Nat.le_trans (thruL_le _ ms) (by rw [← hnb']; exact hn30), by rw [hLx]; exact letL_sm HSM.out⟩
    obtain ⟨Ly, hLy⟩ : ∃ L, L = winL u us us (q : Int) ms := ⟨_, rfl⟩
    obtain ⟨Ny, hNy⟩ : ∃ N, N = Ly.length := ⟨_, rfl⟩
    have Hy : Hid (Ny ≤ 30 ∧ smM Ly) := ⟨by rw [hNy, hLy]; exact by show (letL _ _ ms).length ≤ _; rw [letL_len]; exact Nat.le_trans (thruL_le _ ms) (by rw [← hnb']; exact hn30), by rw [hLy]; exact letL_sm HSM.out⟩
    obtain ⟨Lz, hLz⟩ : ∃ L, L = winL u us us 1 ms := ⟨_, rfl⟩
    obtain ⟨Nz, hNz⟩ : ∃ N, N = Lz.length := ⟨_, rfl⟩
    have Hz : Hid (Nz ≤ 30 ∧ smM Lz) := ⟨by rw [hNz, hLz]; exact by show (letL _ _ ms).length ≤ _; rw [letL_len]; exact Nat.le_trans (thruL_le _ ms) (by rw [← hnb']; exact hn30), by rw [hLz]; exact letL_sm HSM.out⟩
    obtain ⟨Lv, hLv⟩ : ∃ L, L = thruL (apP u us us) ms := ⟨_, rfl⟩
    obtain ⟨Nv, hNv⟩ : ∃ N, N = Lv.length := ⟨_, rfl⟩
    have Hv : Hid (Nv ≤ 30 ∧ smM Lv) := ⟨by rw [hNv, hLv]; exact Nat.le_trans (thruL_le _ ms) (by rw [← hnb']; exact hn30), by rw [hLv]; exact thruL_sm HSM.out⟩
    obtain ⟨Lp, hLp⟩ : ∃ L, L = winL u us us ((q : Int) + 1) ms := ⟨_, rfl⟩
    obtain ⟨Np, hNp⟩ : ∃ N, N = Lp.length := ⟨_, rfl⟩
    have Hp : Hid (Np ≤ 30 ∧ smM Lp) := ⟨by rw [hNp, hLp]; exact by show (letL _ _ ms).length ≤ _; rw [letL_len]; exact Nat.le_trans (thruL_le _ ms) (by rw [← hnb']; exact hn30), by rw [hLp]; exact letL_sm HSM.out⟩
    obtain ⟨Lr, hLr⟩ : ∃ L, L = winL 0 us us ((q : Int) + 1) ms := ⟨_, rfl⟩
    obtain ⟨Nr, hNr⟩ : ∃ N, N = Lr.length := ⟨_, rfl⟩
    have Hr : Hid (Nr ≤ 30 ∧ smM Lr) := ⟨by rw [hNr, hLr]; exact by show (letL _ _ ms).length ≤ _; rw [letL_len]; exact Nat.le_trans (thruL_le _ ms) (by rw [← hnb']; exact hn30), by rw [hLr]; exact letL_sm HSM.out⟩
    obtain ⟨Ls, hLs⟩ : ∃ L, L = winL 0 us us (q : Int) ms := ⟨_, rfl⟩
    obtain ⟨Ns, hNs⟩ : ∃ N, N = Ls.length := ⟨_, rfl⟩
    have Hs : Hid (Ns ≤ 30 ∧ smM Ls) := ⟨by rw [hNs, hLs]; exact by show (letL _ _ ms).length ≤ _; rw [letL_len]; exact Nat.le_trans (thruL_le _ ms) (by rw [← hnb']; exact hn30), by rw [hLs]; exact letL_sm HSM.out⟩
    obtain ⟨Lf, hLf⟩ : ∃ L, L = thruL (fiP 0) ms := ⟨_, rfl⟩
    obtain ⟨Nf, hNf⟩ : ∃ N, N = Lf.length := ⟨_, rfl⟩
    have Hf : Hid (Nf ≤ 30 ∧ smM Lf) := ⟨by rw [hNf, hLf]; exact Nat.le_trans (thruL_le _ ms) (by rw [← hnb']; exact hn30), by rw [hLf]; exact thruL_sm HSM.out⟩
    have HNp : Hid (Ny ≤ Np) := by show _ ≤ _; rw [hNp, hLp, hNy, hLy]; show (letL _ _ ms).length ≤ (letL _ _ ms).length; rw [letL_len, letL_len]; exact thruL_mono (winP_mono u us us q) ms
    have HNr : Hid (Ns ≤ Nr) := by show _ ≤ _; rw [hNr, hLr, hNs, hLs]; show (letL _ _ ms).length ≤ (letL _ _ ms).length; rw [letL_len, letL_len]; exact thruL_mono (winP_mono 0 us us q) ms
    have KO : Hid (∀ W, Below X.heap.size X W → Calls Try.prog 14 #[.slice A n c] W (RQ W Lx Nx)) := fun W hW => RQ.of hNx (by rw [hLx]; exact ordered_any A n c ms HN (by omega) HSM.out W (HMA.out W hW))
    have KW : Hid (∀ W, Below X.heap.size X W → Calls Try.prog 25 #[txV 0 30 U1 nU d1 U2 nU d2, .slice A n c, .int .i64 q, .int .i64 u] W (RQ W Ly Ny)) := fun W hW => RQ.of hNy (by rw [hLy]; exact window_any 0 30 u q U1 nU d1 U2 nU d2 us us HU3.out A n c ms HN (by omega) HSM.out W (HTX.out W hW) (HMA.out W hW))
    have KT : Hid (∀ W, Below X.heap.size X W → Calls Try.prog 26 #[txV 0 30 U1 nU d1 U2 nU d2, .slice A n c, .int .i64 u] W (RQ W Lz Nz)) := fun W hW => RQ.of hNz (by rw [hLz]; exact tsame_any 0 30 u U1 nU d1 U2 nU d2 us us HU3.out A n c ms HN (by omega) HSM.out W (HTX.out W hW) (HMA.out W hW))
    have KA : Hid (∀ W, Below X.heap.size X W → Calls Try.prog 27 #[txV 0 30 U1 nU d1 U2 nU d2, .slice A n c, .int .i64 u] W (RQ W Lv Nv)) := fun W hW => RQ.of hNv (by rw [hLv]; exact apart_any 0 30 u U1 nU d1 U2 nU d2 us us HU3.out A n c ms HN (by omega) HSM.out W (HTX.out W hW) (HMA.out W hW))
    have KP : Hid (∀ W, Below X.heap.size X W → Calls Try.prog 25 #[txV 0 30 U1 nU d1 U2 nU d2, .slice A n c, .int .i64 ((q : Int) + 1), .int .i64 u] W (RQ W Lp Np)) := fun W hW => RQ.of hNp (by rw [hLp]; exact window_any 0 30 u _ U1 nU d1 U2 nU d2 us us HU3.out A n c ms HN (by omega) HSM.out W (HTX.out W hW) (HMA.out W hW))
    have KR : Hid (∀ W, Below X.heap.size X W → Calls Try.prog 25 #[txV 0 30 U1 nU d1 U2 nU d2, .slice A n c, .int .i64 ((q : Int) + 1), .int .i64 0] W (RQ W Lr Nr)) := fun W hW => RQ.of hNr (by rw [hLr]; exact window_any 0 30 0 _ U1 nU d1 U2 nU d2 us us (.inl rfl) A n c ms HN (by omega) HSM.out W (HTX.out W hW) (HMA.out W hW))
    have KS : Hid (∀ W, Below X.heap.size X W → Calls Try.prog 25 #[txV 0 30 U1 nU d1 U2 nU d2, .slice A n c, .int .i64 q, .int .i64 0] W (RQ W Ls Ns)) := fun W hW => RQ.of hNs (by rw [hLs]; exact window_any 0 30 0 _ U1 nU d1 U2 nU d2 us us (.inl rfl) A n c ms HN (by omega) HSM.out W (HTX.out W hW) (HMA.out W hW))
    have KF : Hid (∀ W, Below X.heap.size X W → Calls Try.prog 31 #[txV 0 30 U1 nU d1 U2 nU d2, .slice A n c] W (RQ W Lf Nf)) := fun W hW => RQ.of hNf (by rw [hLf]; exact first_any 0 30 U1 nU d1 U2 nU d2 A n c ms HN (by omega) HSM.out W (HMA.out W hW))
    have KM : Hid (∀ W, Below X.heap.size X W → Calls Try.prog 30 #[.slice A n c, .slice none 0 0] W (RQ W ms n)) := fun W hW => RQ.ofK HN.out (by
      have k := mild_any A none n c 0 0 ms [] HN (by omega) HSM.out W (HMA.out W hW) (covering_any sorts_own none 0 0 [] rfl (by omega) (fun m hm => by cases hm) W (MS.nil _ _ _))
      rw [mild_nil] at k
      exact k)
    have KO2 : Hid (∀ W A' c', MS W W.heap.size A' Lx → Calls Try.prog 14 #[.slice A' Nx c'] W (RQ W Lx Nx)) := fun W A' c' hm => RQ.of hNx (by
      have k := ordered_any A' Nx c' Lx hNx (by have := Hx.out.1; omega) Hx.out.2 W hm
      have e : letL ordP ordQ Lx = Lx := by rw [hLx]; exact letL_again _ _ _
      change Calls _ _ _ _ fun e w' => ∃ v zs, e = .returned v ∧ MO W w' v zs (letL ordP ordQ Lx) at k
      rw [e] at k
      exact k)
    have KW2 : Hid (∀ W A' c', Below X.heap.size X W → MS W W.heap.size A' Ly → Calls Try.prog 25 #[txV 0 30 U1 nU d1 U2 nU d2, .slice A' Ny c', .int .i64 q, .int .i64 u] W (RQ W Ly Ny)) := fun W A' c' hW hm => RQ.of hNy (by
      have k := window_any 0 30 u q U1 nU d1 U2 nU d2 us us HU3.out A' Ny c' Ly hNy (by have := Hy.out.1; omega) Hy.out.2 W (HTX.out W hW) hm
      have e : winL u us us (q : Int) Ly = Ly := by rw [hLy]; exact letL_again _ _ _
      rw [e] at k
      exact k)
    have KT2 : Hid (∀ W A' c', Below X.heap.size X W → MS W W.heap.size A' Lz → Calls Try.prog 26 #[txV 0 30 U1 nU d1 U2 nU d2, .slice A' Nz c', .int .i64 u] W (RQ W Lz Nz)) := fun W A' c' hW hm => RQ.of hNz (by
      have k := tsame_any 0 30 u U1 nU d1 U2 nU d2 us us HU3.out A' Nz c' Lz hNz (by have := Hz.out.1; omega) Hz.out.2 W (HTX.out W hW) hm
      have e : winL u us us 1 Lz = Lz := by rw [hLz]; exact letL_again _ _ _
      rw [e] at k
      exact k)
    have KA2 : Hid (∀ W A' c', Below X.heap.size X W → MS W W.heap.size A' Lv → Calls Try.prog 27 #[txV 0 30 U1 nU d1 U2 nU d2, .slice A' Nv c', .int .i64 u] W (RQ W Lv Nv)) := fun W A' c' hW hm => RQ.of hNv (by
      have k := apart_any 0 30 u U1 nU d1 U2 nU d2 us us HU3.out A' Nv c' Lv hNv (by have := Hv.out.1; omega) Hv.out.2 W (HTX.out W hW) hm
      have e : thruL (apP u us us) Lv = Lv := by rw [hLv]; exact thruL_again _ _
      rw [e] at k
      exact k)
    have KF2 : Hid (∀ W A' c', MS W W.heap.size A' Lf → Calls Try.prog 31 #[txV 0 30 U1 nU d1 U2 nU d2, .slice A' Nf c'] W (RQ W Lf Nf)) := fun W A' c' hm => RQ.of hNf (by
      have k := first_any 0 30 U1 nU d1 U2 nU d2 A' Nf c' Lf hNf (by have := Hf.out.1; omega) Hf.out.2 W hm
      have e : thruL (fiP 0) Lf = Lf := by rw [hLf]; exact thruL_again _ _
      rw [e] at k
      exact k)
    have KSx := Lib.hid (KSA.out Lx Nx hNx Hx.out.1 Hx.out.2)
    have KSy := Lib.hid (KSA.out Ly Ny hNy Hy.out.1 Hy.out.2)
    have KSz := Lib.hid (KSA.out Lz Nz hNz Hz.out.1 Hz.out.2)
    have KSv := Lib.hid (KSA.out Lv Nv hNv Hv.out.1 Hv.out.2)
    unfold txV at KW KT KA KP KR KS KF KW2 KT2 KA2 KF2
    clear hus hnb' hLx hNx hLy hNy hLz hNz hLv hNv hLp hNp hLr hNr hLs hNs hLf hNf KSA hu3
    go_upto_region 8 with fail
    rw [hu, HX.out]
    clear hu hq
    go_wp2_with fail
    with_reducible refine (KO.out X BX0.out).mono ?_
    rintro e w5 ⟨P1, g1, rfl, m1, b1⟩
    have M1 : Hid (∀ W, Below w5.heap.size w5 W → MS W W.heap.size P1 _) := fun W hW => m1.up hW
    have R1 := Lib.hid (Below.refl w5.heap.size w5)
    have BX1 := Lib.hid (BX0.out.trans (b1.mono BX0.out.size))
    have S1 := Lib.hid b1
    obtain ⟨t0, t1, t2, t3⟩ := HD.out w5 BX1.out
    clear b1 m1
    go_wp2_with fail
    with_reducible refine (KW.out w5 BX1.out).mono ?_
    rintro e w6 ⟨P2, g2, rfl, m2, b2⟩
    have M2 : Hid (∀ W, Below w6.heap.size w6 W → MS W W.heap.size P2 _) := fun W hW => m2.up hW
    have R2 := Lib.hid (Below.refl w6.heap.size w6)
    have BX2 := Lib.hid (BX1.out.trans (b2.mono BX1.out.size))
    have S2 := Lib.hid b2
    clear t0 t1 t2 t3
    obtain ⟨t0, t1, t2, t3⟩ := HD.out w6 BX2.out
    clear b2 m2
    go_wp2_with fail
    with_reducible refine (KT.out w6 BX2.out).mono ?_
    rintro e w7 ⟨P3, g3, rfl, m3, b3⟩
    have M3 : Hid (∀ W, Below w7.heap.size w7 W → MS W W.heap.size P3 _) := fun W hW => m3.up hW
    have R3 := Lib.hid (Below.refl w7.heap.size w7)
    have BX3 := Lib.hid (BX2.out.trans (b3.mono BX2.out.size))
    have S3 := Lib.hid b3
    clear t0 t1 t2 t3
    obtain ⟨t0, t1, t2, t3⟩ := HD.out w7 BX3.out
    clear b3 m3
    go_wp2_with fail
    with_reducible refine (KA.out w7 BX3.out).mono ?_
    rintro e w8 ⟨P4, g4, rfl, m4, b4⟩
    have M4 : Hid (∀ W, Below w8.heap.size w8 W → MS W W.heap.size P4 _) := fun W hW => m4.up hW
    have R4 := Lib.hid (Below.refl w8.heap.size w8)
    have BX4 := Lib.hid (BX3.out.trans (b4.mono BX3.out.size))
    have S4 := Lib.hid b4
    clear t0 t1 t2 t3
    obtain ⟨t0, t1, t2, t3⟩ := HD.out w8 BX4.out
    clear b4 m4
    have HY1 := Lib.hid (M1.out w8 (Below.trans R1.out (Below.trans (S2.out.mono (Nat.le_refl _)) (Below.trans (S3.out.mono S2.out.size) (S4.out.mono (Nat.le_trans S2.out.size S3.out.size))))))
    have HY2 := Lib.hid (M2.out w8 (Below.trans R2.out (Below.trans (S3.out.mono (Nat.le_refl _)) (S4.out.mono S3.out.size))))
    have HY3 := Lib.hid (M3.out w8 (Below.trans R3.out (S4.out.mono (Nat.le_refl _))))
    have HY4 := Lib.hid (M4.out w8 R4.out)
    have bXW : ∀ W, Below w8.heap.size w8 W → Below X.heap.size X W := fun W hW => BX4.out.trans (hW.mono BX4.out.size)
    have HDY : Hid (∀ W, Below w8.heap.size w8 W → W.cell? ⟨w4.heap.size, 0, none⟩ = some (.int .i64 0) ∧ W.cell? ⟨w4.heap.size, 1, none⟩ = some (.int .i64 30) ∧ W.cell? ⟨w4.heap.size, 2, none⟩ = some (.slice U1 nU d1) ∧ W.cell? ⟨w4.heap.size, 3, none⟩ = some (.slice U2 nU d2)) := fun W hW => HD.out W (bXW W hW)
    have RQY : ∀ {F : Nat} {args : Array Value} {W : World} {L : List Mt} {N : Nat}, Below w8.heap.size w8 W → Calls Try.prog F args W (RQ W L N) → Calls Try.prog F args W fun e w' => ∃ A c, e = .returned (.slice A N c) ∧ MS w' w'.heap.size A L ∧ Below w8.heap.size w8 w' := fun hW h => h.mono fun e w' ⟨A, c, he, hm, hb⟩ => ⟨A, c, he, hm, hW.trans (hb.mono hW.size)⟩
    have BLY : ∀ {F : Nat} {args : Array Value} {W : World}, Below w8.heap.size w8 W → (Calls Try.prog F args W fun e w' => e = .returned (.bool true) ∧ Below W.heap.size W w') → Calls Try.prog F args W fun e w' => e = .returned (.bool true) ∧ Below w8.heap.size w8 w' := fun hW h => h.mono fun e w' ⟨he, hb⟩ => ⟨he, hW.trans (hb.mono hW.size)⟩
    have CO := Lib.hid fun W (hW : Below w8.heap.size w8 W) => RQY hW (KO2.out W P1 g1 (HY1.out.up hW))
    have CSx := Lib.hid fun W A c (hW : Below w8.heap.size w8 W) (hm : MS W W.heap.size A Lx) => BLY hW (KSx.out W A c P1 g1 hm (HY1.out.up hW))
    have CW := Lib.hid fun W (hW : Below w8.heap.size w8 W) => RQY hW (KW2.out W P2 g2 (bXW W hW) (HY2.out.up hW))
    have CSy := Lib.hid fun W A c (hW : Below w8.heap.size w8 W) (hm : MS W W.heap.size A Ly) => BLY hW (KSy.out W A c P2 g2 hm (HY2.out.up hW))
    have CT := Lib.hid fun W (hW : Below w8.heap.size w8 W) => RQY hW (KT2.out W P3 g3 (bXW W hW) (HY3.out.up hW))
    have CSz := Lib.hid fun W A c (hW : Below w8.heap.size w8 W) (hm : MS W W.heap.size A Lz) => BLY hW (KSz.out W A c P3 g3 hm (HY3.out.up hW))
    have CA := Lib.hid fun W (hW : Below w8.heap.size w8 W) => RQY hW (KA2.out W P4 g4 (bXW W hW) (HY4.out.up hW))
    have CSv := Lib.hid fun W A c (hW : Below w8.heap.size w8 W) (hm : MS W W.heap.size A Lv) => BLY hW (KSv.out W A c P4 g4 hm (HY4.out.up hW))
    have CP := Lib.hid fun W (hW : Below w8.heap.size w8 W) => RQY hW (KP.out W (bXW W hW))
    have CR := Lib.hid fun W (hW : Below w8.heap.size w8 W) => RQY hW (KR.out W (bXW W hW))
    have CS' := Lib.hid fun W (hW : Below w8.heap.size w8 W) => RQY hW (KS.out W (bXW W hW))
    have CM := Lib.hid fun W (hW : Below w8.heap.size w8 W) => RQY hW (KM.out W (bXW W hW))
    have CF := Lib.hid fun W (hW : Below w8.heap.size w8 W) => RQY hW (KF.out W (bXW W hW))
    have CF2 := Lib.hid fun W A c (hW : Below w8.heap.size w8 W) (hm : MS W W.heap.size A Lf) => RQY hW (KF2.out W A c hm)
    have BR := Lib.hid (Below.refl w8.heap.size w8)
    have HEND : Hid (∀ W, Below w8.heap.size w8 W → Below w.heap.size w W) := fun W hW => HBX.out.trans ((bXW W hW).mono HBX.out.size)
    have hNpI : decide ((Ny : Int) ≤ (Np : Int)) = true := decide_eq_true (by have := HNp.out; omega)
    have hNpI' : (Ny : Int) ≤ (Np : Int) := by have := HNp.out; omega
    have hNrI : decide ((Ns : Int) ≤ (Nr : Int)) = true := decide_eq_true (by have := HNr.out; omega)
    have hNrI' : (Ns : Int) ≤ (Nr : Int) := by have := HNr.out; omega
    clear RQY BLY bXW M1 M2 M3 M4 R1 R2 R3 R4 S1 S2 S3 S4 KO KW KT KA KO2 KW2 KT2 KA2 KSx KSy KSz KSv KP KR KS KM KF KF2 BX0 BX1 BX2 BX3 BX4 HMA HTX HD t0 t1 t2 t3
    go_upto_region 12 with fail
    simp only [List.append_eq, List.cons_append, List.nil_append]
    go_region_held3 (fun W => W.cell? ⟨w4.heap.size, 0, none⟩ = some (.int .i64 0) ∧ W.cell? ⟨w4.heap.size, 1, none⟩ = some (.int .i64 30) ∧ W.cell? ⟨w4.heap.size, 2, none⟩ = some (.slice U1 nU d1) ∧ W.cell? ⟨w4.heap.size, 3, none⟩ = some (.slice U2 nU d2))
      (first | exact HDY.out _ BR.out.drew | exact HDY.out _ (by assumption))
      (first
        | (go_at_call 14; (with_reducible refine (CO.out _ BR.out.drew).mono ?_); rintro e w9 ⟨P5, g5, rfl, m5, b5⟩)
        | (go_at_call 13; (with_reducible refine (CSx.out _ _ _ (by assumption) (by assumption)).mono ?_); rintro e w10 ⟨rfl, b6⟩)
        | (go_at_call 25; (with_reducible refine (CW.out _ (by assumption)).mono ?_); rintro e w11 ⟨P7, g7, rfl, m7, b7⟩)
        | (go_at_call 13; (with_reducible refine (CSy.out _ _ _ (by assumption) (by assumption)).mono ?_); rintro e w12 ⟨rfl, b8⟩)
        | (go_at_call 26; (with_reducible refine (CT.out _ (by assumption)).mono ?_); rintro e w13 ⟨P9, g9, rfl, m9, b9⟩)
        | (go_at_call 13; (with_reducible refine (CSz.out _ _ _ (by assumption) (by assumption)).mono ?_); rintro e w14 ⟨rfl, b10⟩)
        | (go_at_call 27; (with_reducible refine (CA.out _ (by assumption)).mono ?_); rintro e w15 ⟨P11, g11, rfl, m11, b11⟩)
        | (go_at_call 13; (with_reducible refine (CSv.out _ _ _ (by assumption) (by assumption)).mono ?_); rintro e w16 ⟨rfl, b12⟩)
        | (go_at_call 25; (with_reducible refine (CP.out _ (by assumption)).mono ?_); rintro e w17 ⟨P13, g13, rfl, m13, b13⟩)
        | (go_at_call 25; (with_reducible refine (CR.out _ (by assumption)).mono ?_); rintro e w18 ⟨P14, g14, rfl, m14, b14⟩)
        | (go_at_call 25; (with_reducible refine (CS'.out _ (by assumption)).mono ?_); rintro e w19 ⟨P15, g15, rfl, m15, b15⟩)
        | (go_at_call 30; (with_reducible refine (CM.out _ (by assumption)).mono ?_); rintro e w20 ⟨P16, g16, rfl, m16, b16⟩)
        | (go_at_call 31; (with_reducible refine (CF2.out _ _ _ (by assumption) (by assumption)).mono ?_); rintro e w22 ⟨P18, g18, rfl, m18, b18⟩)
        | (go_at_call 31; (with_reducible refine (CF.out _ (by assumption)).mono ?_); rintro e w23 ⟨P17, g17, rfl, m17, b17⟩))
    go_wp2_with fail
    go_ret
    exact ⟨rfl, HEND.out _ (by assumption)⟩
end Go.Proofs.Ytafbjadlklcicaa
