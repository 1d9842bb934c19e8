/- MatchDistances: the law's own function. -/
import Derived.Test.YtafbjadlklcicaaMaDs
import Derived.Laws.EntriesVeiled
import Derived.Deep.RegionLaw
namespace Go.Proofs.Ytafbjadlklcicaa
open Go.RowKit Go.Shelf
set_option maxRecDepth 100000

/-- What is the last one is stored. -/
theorem end4 {w W : World} {B D n : Nat} {t : TypeId} {v : Value} {xs : List Value} {last : Sp} (ho : W.ownsRow B t 4 v n xs) (hne : v.ownBlock ≠ some D) (h4 : Box4 W D last) (hb : Below B w W) (hB : B ≤ D) (x : Sp) :
    (set4 W D x).ownsRow B t 4 v n xs ∧ Box4 (set4 W D x) D x ∧ Below B w (set4 W D x) :=
  ⟨own_set (own_set (own_set (own_set ho hne _) hne _) hne _) hne _, h4.set x, hb.trans (below_set4 hB x)⟩
/-- 's[:i]'. -/
theorem cut_hi (W : World) (g n c i : Nat) (hi : i ≤ c) : (Instr.slice 28 (.slice (some ⟨g, 0, none⟩) n c) none (some (.int .i64 (i : Int))) none).run Try.prog W = .ok (.slice (some ⟨g, 0, none⟩) i c) W := by
  have hu : Try.prog.underlying 28 = some (.slice (Try.prog.elem 28)) := by kernel_rfl
  have he : Try.prog.elem 28 = 26 := by kernel_rfl
  have hz : (sizeOf 26).run Try.prog W = .ok 4 W := by kernel_rfl
  rw [run_slice_h W 28 _ n c hu .i64 (i : Int) (by omega) (by omega), he, hz]
  simp [Result.andThen, sliced, add_addr]
/-- 's[k:]'. -/
theorem cut_lo {w : World} {B : Nat} {A : Option Addr} {l : List Sp} (h : CS w B A (spCs l)) (n c k : Nat) (hn : n * 4 = (spCs l).length) (hk : k ≤ n) (hc : n ≤ c) :
    ∃ A', (∀ W, (Instr.slice 28 (.slice A n c) (some (.int .i64 (k : Int))) none none).run Try.prog W = .ok (.slice A' (n - k) (c - k)) W) ∧ CS w B A' (spCs (l.drop k)) := by
  have hu : Try.prog.underlying 28 = some (.slice (Try.prog.elem 28)) := by kernel_rfl
  have he : Try.prog.elem 28 = 26 := by kernel_rfl
  refine ⟨if c = k then A else A.map (·.add (k * 4)), fun W => ?_, fun hp => ?_⟩
  · have hz : (sizeOf 26).run Try.prog W = .ok 4 W := by kernel_rfl
    rw [run_slice_l W 28 A n c hu .i64 (k : Int) (by omega) (by omega), he, hz]
    simp only [Result.andThen, sliced, Int.toNat_natCast]
  · rw [spCs_len, List.length_drop] at hp
    rw [spCs_len] at hn
    obtain ⟨b, o, rfl, hb, hcell⟩ := h (by rw [spCs_len]; omega)
    rw [if_neg (by omega)]
    refine ⟨b, o + k * 4, by simp [add_addr], hb, fun j u hj => ?_⟩
    rw [← spCs_drop, List.getElem?_drop] at hj
    rw [Nat.add_assoc]
    exact hcell (k * 4 + j) u hj
set_option maxHeartbeats 16000000 in
theorem ld_any (Bt Bu Br : Nat) (rlo rhi f t u : Int) (A1 : Option Addr) (n1 c1 : Nat) (A2 : Option Addr) (n2 c2 : Nat) (ss ps : List Int) (v : Value) (l : List Sp) (hl : l.length ≤ 1000) (w : World) (hr0 : w.cell? ⟨Br, 0, none⟩ = some (.int .i64 rlo)) (hr1 : w.cell? ⟨Br, 1, none⟩ = some (.int .i64 rhi)) (hC : TC w Bt Bu f t u A1 n1 c1 A2 n2 c2 ss ps) (h : SV w w.heap.size v l) :
    Calls Try.prog 28 #[v, .pointer (some ⟨Bt, 0, none⟩), .pointer (some ⟨Bu, 0, none⟩), .pointer (some ⟨Br, 0, none⟩)] w fun e w' => e = .returned (.bool (ldP (rD u ss ps rlo rhi) l)) ∧ Below w.heap.size w w' := by
  have hmx : Try.prog.follows .mixedOrders = true := by kernel_rfl
  obtain ⟨A, c, rfl, _, _, h3⟩ := h
  obtain ⟨n, hn⟩ : ∃ n, n = l.length := ⟨_, rfl⟩
  have HN := Lib.hid hn
  have HC := Lib.hid hC
  have HRC : Hid (∀ W, Below w.heap.size w W → W.cell? ⟨Br, 0, none⟩ = some (.int .i64 rlo) ∧ W.cell? ⟨Br, 1, none⟩ = some (.int .i64 rhi)) := fun W hW => ⟨(Kept.of hW).cell hr0, (Kept.of hW).cell hr1⟩
  obtain ⟨X, hX⟩ : ∃ X, w.alloc (.cells #[] 26) = X := ⟨_, rfl⟩
  have bX : Below w.heap.size w X := by rw [← hX]; exact (Below.refl _ _).alloc (Nat.le_refl _) _
  have HO : Hid (X.ownsRow w.heap.size 26 4 (.slice (some ⟨w.heap.size, 0, none⟩) 0 0) 0 []) := by rw [← hX]; exact own_lit w _ 4 (0, 0) rfl
  have HCX := Lib.hid (h3.below bX)
  have hsz := bX.size
  have HX := Lib.hid hX
  have HB := Lib.hid bX
  obtain ⟨R, hR⟩ : ∃ R, R = ldP (rD u ss ps rlo rhi) l := ⟨_, rfl⟩
  rw [← hR]
  have HR := Lib.hid hR
  obtain ⟨rd, hrd⟩ : ∃ r, r = rD u ss ps rlo rhi := ⟨_, rfl⟩
  have HRD := Lib.hid hrd
  rw [← hrd] at HR
  rw [← hn] at hl ⊢
  clear hn hC hr0 hr1 h3 hX bX hR hrd
  go_enter Try.func28, Try.ntmps28
  go_upto_region 2 with (at_builtin; (rw [HX.out]; refine wpList_appR elSp X rfl (.tmp 13) (.tmp 14) rfl w.heap.size _ 0 [] rfl HO.out A n c w.heap.size (spCs l) rfl (by rw [spCs_len, HN.out]) (spCs_one l) HCX.out n (by omega) (by omega) hsz ?_; intro v4 w4 hown4 hg4 _; have H4 := Lib.hid (And.intro hown4 (own_grow HO.out (Nat.le_refl _) HB.out hsz hg4)); clear hown4 hg4))
  obtain ⟨Y, hY⟩ : ∃ Y, w4.alloc (.cells #[.int .i64 (-1), .int .i64 0, .int .i64 0, .int .i64 0] 26) = Y := ⟨_, rfl⟩
  have bY : Below w4.heap.size w4 Y := by rw [← hY]; exact (Below.refl _ _).alloc (Nat.le_refl _) _
  have HL0 : Hid (Box4 Y w4.heap.size (-1, 0, 0, 0)) := by rw [← hY]; exact Box4.new w4 (-1, 0, 0, 0)
  have HOY : Hid (Y.ownsRow w.heap.size 26 4 v4 n (spCs l)) := by have := own_below H4.out.1 bY; rwa [List.nil_append] at this
  have HNE0 : Hid (v4.ownBlock ≠ some w4.heap.size) := fun e => by have := (H4.out.1.lt _ e).2; omega
  have HBY := Lib.hid (H4.out.2.trans (bY.mono H4.out.2.size))
  have HLw : Hid (w.heap.size ≤ w4.heap.size) := H4.out.2.size
  have HY := Lib.hid hY
  obtain ⟨D, hD⟩ : ∃ D, D = w4.heap.size := ⟨_, rfl⟩
  rw [← hD] at HL0 HNE0 HLw
  have HDe := Lib.hid hD
  have HR0 : Hid (R = dlP rd l.length (-1, 0, 0, 0) l) := HR.out
  clear hY bY hD H4
  go_upto_region 3 with fail
  rw [HY.out, ← HDe.out]
  go_loopg [6] n (fun kx s6 wr => ∃ (d : List Sp) (last : Sp) (N : Nat), N = d.length ∧ N ≤ kx ∧ N ≤ n ∧ Hid (wr.ownsRow w.heap.size 26 4 s6 N (spCs d)) ∧ Hid (Box4 wr D last) ∧ Hid (s6.ownBlock ≠ some D) ∧ Hid (R = dlP rd d.length last d) ∧ Hid (Below w.heap.size w wr))
  case atStart => exact ⟨l, (-1, 0, 0, 0), n, HN.out, Nat.le_refl _, Nat.le_refl _, HOY, HL0, HNE0, HR0, HBY⟩
  case round =>
    obtain ⟨d, last, N, hN, hNk, hNn, HO, HL, HNE, HR, HB⟩ := hrel
    have HND := Lib.hid hN
    clear hN
    obtain ⟨A6, c6, rfl, hcap, hmx6, hcs6, _⟩ := own_form HO.out
    by_cases h0 : 0 < N
    · obtain ⟨g, rfl⟩ : ∃ g, A6 = some ⟨g, 0, none⟩ := by
        rcases HO.out.2 with ⟨_, h⟩ | ⟨g, _, _, e, _⟩
        · omega
        · injection e with e _ _
          exact ⟨g, e⟩
      have HCS := Lib.hid hcs6
      have HCAP := Lib.hid hcap
      have hNI : (0 : Int) < (N : Int) := by omega
      have BRr := Lib.hid (Below.refl wr.heap.size wr)
      clear hcs6 hcap hmx6
      go_wp2_with fail
      go_loopw [8, 22] (fun s8 i wi => ∃ k : Nat, k ≤ N ∧ i = .int .i64 k ∧ s8 = .int .i64 (bst d k : Nat) ∧ Hid (Below wr.heap.size wr wi)) (fun _ i _ => N - (intOf i).toNat)
      case atStart => exact ⟨0, Nat.zero_le _, rfl, rfl, BRr⟩
      case round =>
        obtain ⟨k, hk, rfl, rfl, HBi⟩ := hrel
        by_cases hlt : k < N
        · have hkd : k < d.length := by rw [← HND.out]; exact hlt
          have hpd : 0 < d.length := by omega
          have hbl := bst_lt d hpd k (by omega)
          have HLT := Lib.hid hlt
          have HOi := Lib.hid (own_below HO.out HBi.out)
          obtain ⟨c0', c1', c2', c3'⟩ := spCs_at d k hkd
          obtain ⟨e0', e1', e2', e3'⟩ := spCs_at d (bst d k) hbl
          have e0 := (HOi.out.cellAt (k * 4) (by omega)).trans c0'
          have e1 := (HOi.out.cellAt (k * 4 + 1) (by omega)).trans c1'
          have e2 := (HOi.out.cellAt (k * 4 + 2) (by omega)).trans c2'
          have e3 := (HOi.out.cellAt (k * 4 + 3) (by omega)).trans c3'
          have y0 := (HOi.out.cellAt (bst d k * 4) (by have := HND.out; omega)).trans e0'
          have y1 := (HOi.out.cellAt (bst d k * 4 + 1) (by have := HND.out; omega)).trans e1'
          have HST : Hid ((ltS' d[k] d[bst d k] = true → bst d (k + 1) = k) ∧ (ltS' d[k] d[bst d k] = false → bst d (k + 1) = bst d k)) := by
            rw [bst, getD_at d k hkd, getD_at d _ hbl]
            exact ⟨fun h => by rw [if_pos h], fun h => by rw [if_neg (by rw [h]; simp)]⟩
          obtain ⟨x, hx⟩ : ∃ x, x = d[k] := ⟨_, rfl⟩
          obtain ⟨y, hy⟩ : ∃ y, y = d[bst d k] := ⟨_, rfl⟩
          rw [← hx] at e0 e1 e2 e3 HST
          rw [← hy] at y0 y1 HST
          obtain ⟨b, hb⟩ : ∃ b, b = bst d k := ⟨_, rfl⟩
          rw [← hb] at y0 y1 HST ⊢
          have hbN : b < N := by rw [hb, HND.out]; exact hbl
          obtain ⟨Z, hZ⟩ : ∃ Z, wr.alloc (.cells #[.int .i64 x.1, .int .i64 x.2.1, .int .i64 x.2.2.1, .int .i64 x.2.2.2] 26) = Z := ⟨_, rfl⟩
          have bZ : Below wr.heap.size wr Z := by rw [← hZ]; exact (Below.refl _ _).alloc (Nat.le_refl _) _
          have hB4 : Box4 Z wr.heap.size x := by rw [← hZ]; exact Box4.new wr x
          obtain ⟨q0, q1, _, _⟩ := hB4.cells
          have y0Z := (bZ.cell (World.block_lt_of_cell? wr _ y0)).trans y0
          have y1Z := (bZ.cell (World.block_lt_of_cell? wr _ y1)).trans y1
          have HBZ := Lib.hid (HBi.out.trans (bZ.mono HBi.out.size))
          have HZ := Lib.hid hZ
          have hbI : (b : Int) < (N : Int) := by omega
          have wk : IntKind.i64.wrap ((k : Int) + 1) = (k : Int) + 1 := by rw [IntKind.wrap_i64]; omega
          clear c0' c1' c2' c3' e0' e1' e2' e3' hx hy hb hZ bZ hB4 hbl hkd hpd y0 y1
          obtain ⟨xf, xt, xu, xv⟩ := x
          obtain ⟨yf, yt, yu, yv⟩ := y
          simp only at e0 e1 e2 e3 q0 q1 y0Z y1Z HZ
          go_upto_region 8 with fail
          rw [HZ.out]
          clear e0 e1 e2 e3
          by_cases h1 : xf < yf
          · have d1 : decide (xf < yf) = true := decide_eq_true h1
            have HG := Lib.hid (HST.out.1 (by rw [ltS'_iff]; exact .inl h1))
            go_quiet (fail)
            go_wp2_with fail
            exact ⟨⟨k + 1, HLT.out, by go_num, by rw [HG.out], below_drewN HBZ.out _⟩, by have := HLT.out; simp [intOf]; omega⟩
          · have d1 : decide (xf < yf) = false := decide_eq_false h1
            by_cases h2 : xf = yf
            · have d2 : (xf == yf) = true := by simpa using h2
              by_cases h3 : xt < yt
              · have d3 : decide (xt < yt) = true := decide_eq_true h3
                have HG := Lib.hid (HST.out.1 (by rw [ltS'_iff]; exact .inr ⟨h2, h3⟩))
                clear h2
                go_quiet (fail)
                go_wp2_with fail
                exact ⟨⟨k + 1, HLT.out, by go_num, by rw [HG.out], below_drewN HBZ.out _⟩, by have := HLT.out; simp [intOf]; omega⟩
              · have d3 : decide (xt < yt) = false := decide_eq_false h3
                have HG := Lib.hid (HST.out.2 (by rw [← Bool.not_eq_true, ltS'_iff]; simp only; omega))
                clear h2
                go_quiet (fail)
                go_wp2_with fail
                exact ⟨⟨k + 1, HLT.out, by go_num, by rw [HG.out], below_drewN HBZ.out _⟩, by have := HLT.out; simp [intOf]; omega⟩
            · have d2 : (xf == yf) = false := by simpa using h2
              have HG := Lib.hid (HST.out.2 (by rw [← Bool.not_eq_true, ltS'_iff]; simp only; omega))
              go_quiet (fail)
              go_wp2_with fail
              exact ⟨⟨k + 1, HLT.out, by go_num, by rw [HG.out], below_drewN HBZ.out _⟩, by have := HLT.out; simp [intOf]; omega⟩
        · obtain rfl : k = N := by omega
          have hNd := HND.out
          have hpd : 0 < d.length := by omega
          have hbl := bst_lt d hpd d.length (Nat.le_refl _)
          obtain ⟨f', hf'⟩ : ∃ f, d.length = f + 1 := ⟨d.length - 1, by omega⟩
          have hst := HR.out
          rw [hf', dlP] at hst
          obtain ⟨i, hi⟩ : ∃ i, i = bst d d.length := ⟨_, rfl⟩
          have hbi : bst d k = i := by rw [hi, ← hNd]
          rw [← hi] at hst hbl
          rw [getD_at d i hbl] at hst
          have herl : (d.eraseIdx i).length = f' := by rw [List.length_eraseIdx, if_pos hbl]; omega
          rw [← herl] at hst
          rw [hbi]
          have HOi := Lib.hid (own_below HO.out HBi.out)
          obtain ⟨c0', c1', c2', c3'⟩ := spCs_at d i hbl
          have hiN : i < k := by omega
          have e0 := (HOi.out.cellAt (i * 4) (by omega)).trans c0'
          have e1 := (HOi.out.cellAt (i * 4 + 1) (by omega)).trans c1'
          have e2 := (HOi.out.cellAt (i * 4 + 2) (by omega)).trans c2'
          have e3 := (HOi.out.cellAt (i * 4 + 3) (by omega)).trans c3'
          obtain ⟨x, hx⟩ : ∃ x, x = d[i] := ⟨_, rfl⟩
          rw [← hx] at e0 e1 e2 e3 hst
          obtain ⟨Z, hZ⟩ : ∃ Z, wr.alloc (.cells #[.int .i64 x.1, .int .i64 x.2.1, .int .i64 x.2.2.1, .int .i64 x.2.2.2] 26) = Z := ⟨_, rfl⟩
          have bZ : Below wr.heap.size wr Z := by rw [← hZ]; exact (Below.refl _ _).alloc (Nat.le_refl _) _
          have sZ : Z.heap.size = wr.heap.size + 1 := by rw [← hZ]; simp
          have hB4 : Box4 Z wr.heap.size x := by rw [← hZ]; exact Box4.new wr x
          have hgw : g < wr.heap.size := (HOi.out.lt g rfl).2
          have hLi := HL.out.below HBi.out
          have hDw : D < wr.heap.size := hLi.lt
          have hgD : g ≠ D := fun e => HNE.out (by rw [← e]; rfl)
          have bwZ : Below w.heap.size w Z.drew := (HB.out.trans ((HBi.out.trans (bZ.mono HBi.out.size)).mono HB.out.size)).drew
          have HOV : Hid (Z.drew.ownsRow w.heap.size 26 4 (.slice (some ⟨g, 0, none⟩) i c6) i (spCs (d.take i))) := by
            have h := own_cut (own_below HOi.out bZ) (m := i) (by omega)
            rw [spCs_take] at h
            exact h.drew
          have HCS6 : Hid (CS Z.drew Z.heap.size (some ⟨g, 0, none⟩) (spCs d)) := fun hp => ⟨g, 0, rfl, by omega, fun j z hz => by
            have hj := (List.getElem?_eq_some_iff.1 hz).1
            have a := (own_below HOi.out bZ).cellAt j (by rw [spCs_len] at hj; omega)
            rw [Nat.zero_add]
            exact a.trans hz⟩
          have hkl : k * 4 = (spCs d).length := by rw [spCs_len, hNd]
          have HDL : Hid ((spCs (d.drop (i + 1))).length = (k - (i + 1)) * 4) := by show _ = _; rw [spCs_len, List.length_drop, hNd]
          have HER : Hid (spCs (d.take i) ++ spCs (d.drop (i + 1)) = spCs (d.eraseIdx i)) := by show _ = _; rw [← spCs_app, List.eraseIdx_eq_take_drop_succ]
          have HEL : Hid (k - 1 = (d.eraseIdx i).length) := by show _ = _; rw [herl]; omega
          have HAFT : Hid (∀ v7 w7, w7.ownsRow w.heap.size 26 4 v7 (k - 1) (spCs (d.take i) ++ spCs (d.drop (i + 1))) → Z.drew.grownBy w7 (Value.slice (some ⟨g, 0, none⟩) i c6).ownBlock → (v7.ownBlock = (Value.slice (some ⟨g, 0, none⟩) i c6).ownBlock ∨ v7.ownBlock = some Z.drew.heap.size) → w7.ownsRow w.heap.size 26 4 v7 (k - 1) (spCs (d.eraseIdx i)) ∧ Box4 w7 D last ∧ Box4 w7 wr.heap.size x ∧ v7.ownBlock ≠ some D ∧ Below w.heap.size w w7) := fun v7 w7 ho hg hv => by
            have hzs : Z.drew.heap.size = wr.heap.size + 1 := sZ
            have kp : ∀ q, q < wr.heap.size + 1 → q ≠ g → w7.heap[q]? = Z.heap[q]? := fun q hq hne => hg.block q (by omega) (fun e => hne (by injection e))
            refine ⟨by rw [← HER.out]; exact ho, (kp D (by omega) (Ne.symm hgD)).trans (hLi.below bZ), (kp wr.heap.size (by omega) (by omega)).trans hB4, fun e => ?_, bwZ.grown hg (by have := bwZ.size; omega) fun q hq => ?_⟩
            · rcases hv with hv | hv
              · rw [hv] at e
                injection e with e
                exact hgD e
              · rw [hv] at e
                injection e with e
                omega
            · injection hq with hq
              rw [← hq]
              exact (HOi.out.lt g rfl).1
          have HST := Lib.hid hst
          have hbase : w.heap.size ≤ Z.drew.heap.size := bwZ.size
          have HZ := Lib.hid hZ
          have hiI : (i : Int) < (k : Int) := by omega
          have hic : (i : Int) ≤ (c6 : Int) := by have := HCAP.out; omega
          have hkc : k ≤ c6 := HCAP.out
          have wi1 : IntKind.i64.wrap ((i : Int) + 1) = (i : Int) + 1 := by rw [IntKind.wrap_i64]; omega
          have ti1 : ((i : Int) + 1).toNat = i + 1 := by omega
          have i1k : (i : Int) + 1 ≤ (k : Int) := by omega
          have HDW := Lib.hid (And.intro hDw (HB.out.trans (HBi.out.mono HB.out.size)))
          clear hNd hpd hbl hf' hst hi hbi herl c0' c1' c2' c3' hx hZ bZ sZ hB4 hgw hLi hDw bwZ hgD
          obtain ⟨xf, xt, xu, xv⟩ := x
          simp only at e0 e1 e2 e3 HZ
          go_upto_region 12 with fail
          rw [HZ.out]
          clear e0 e1 e2 e3
          have S1 : ∀ W, (Instr.slice 28 (.slice (some ⟨g, 0, none⟩) k c6) none (some (.int .i64 (i : Int))) none).run Try.prog W = .ok (.slice (some ⟨g, 0, none⟩) i c6) W := fun W => cut_hi W g k c6 i (by omega)
          obtain ⟨A', S2, HCV⟩ := cut_lo HCS6.out k c6 (i + 1) hkl (by omega) hkc
          rw [show ((i + 1 : Nat) : Int) = (i : Int) + 1 from by omega] at S2
          have HCV := Lib.hid HCV
          go_region_law ((refine step_appR elSp _ (by rfl) _ _ (by rfl) w.heap.size (.slice (some ⟨g, 0, none⟩) i c6) i (spCs (d.take i)) (by rfl) HOV.out A' (k - (i + 1)) (c6 - (i + 1)) Z.heap.size (spCs (d.drop (i + 1))) (by rfl) HDL.out (spCs_one _) HCV.out (k - 1) (by omega) (by omega) hbase ?_; intro v7 w7 hown7 hg7 hv7))
          obtain ⟨hE, hL7, hX7, hN7, hB7⟩ := HAFT.out v7 w7 hown7 hg7 hv7
          obtain ⟨ra, hra⟩ : ∃ r, r = rkL u ss ps last.2.1 := ⟨_, rfl⟩
          obtain ⟨rs, hrs⟩ : ∃ r, r = rkL u ss ps xf := ⟨_, rfl⟩
          have hst := HST.out
          have hrd2 : rd (kyS last) (kyS (xf, xt, xu, xv)) = (decide (rlo ≤ (if u = 0 then wrap64 (wrap64 (rs - ra) - 1) else wrap64 (rs - ra))) && decide ((if u = 0 then wrap64 (wrap64 (rs - ra) - 1) else wrap64 (rs - ra)) ≤ rhi)) := by rw [HRD.out, hra, hrs]; rfl
          rw [hrd2] at hst
          have HQF : Hid (0 ≤ last.1 → (decide (rlo ≤ (if u = 0 then wrap64 (wrap64 (rs - ra) - 1) else wrap64 (rs - ra))) && decide ((if u = 0 then wrap64 (wrap64 (rs - ra) - 1) else wrap64 (rs - ra)) ≤ rhi)) = false → R = false) := fun h1 h2 => by rw [hst, h2, decide_eq_true h1]; rfl
          have HQT : Hid ((last.1 < 0 ∨ (decide (rlo ≤ (if u = 0 then wrap64 (wrap64 (rs - ra) - 1) else wrap64 (rs - ra))) && decide ((if u = 0 then wrap64 (wrap64 (rs - ra) - 1) else wrap64 (rs - ra)) ≤ rhi)) = true) → R = dlP rd (d.eraseIdx i).length (xf, xt, xu, xv) (d.eraseIdx i)) := fun h => by
            rw [hst]
            rcases h with h | h
            · rw [decide_eq_false (by omega)]; rfl
            · rw [h]; simp
          have KR := Lib.hid (fun (r : WB w7.heap.size w7) => lrank_any f t u last.2.1 A1 n1 c1 A2 n2 c2 ss ps HC.out.hu r.w ((HC.out.kept (Kept.of hB7)).tx.up r.ok))
          have KS := Lib.hid (fun (r : WB w7.heap.size w7) => lrank_any f t u xf A1 n1 c1 A2 n2 c2 ss ps HC.out.hu r.w ((HC.out.kept (Kept.of hB7)).tx.up r.ok))
          rw [← hra] at KR
          rw [← hrs] at KS
          unfold txV at KR KS
          obtain ⟨l0, l1, _, _⟩ := hL7.cells
          obtain ⟨p0, p1, p2, p3⟩ := hX7.cells
          have HE := Lib.hid hE
          have HL7 := Lib.hid hL7
          have HX7 := Lib.hid hX7
          have HN7 := Lib.hid hN7
          have HB7 := Lib.hid hB7
          have hkx := hNk
          clear hown7 hg7 hv7 hE hL7 hX7 hN7 hB7 S1 S2 HCV hra hrs hst hrd2 hic wi1 ti1 i1k hiI
          obtain ⟨lf, lt', lu, lv⟩ := last
          simp only at l0 l1 KR KS p0 p1 p2 p3
          by_cases hl0 : 0 ≤ lf
          · have dl0 : decide (0 ≤ lf) = true := decide_eq_true hl0
            obtain ⟨cu, x0, x1, x2, x3, tx, hu⟩ := HC.out.kept (Kept.of HB7.out)
            have z0 : ∀ r : WB w7.heap.size w7, r.w.cell? ⟨Bt, 0, none⟩ = some (.int .i64 f) := fun r => (r.ok.cell (World.block_lt_of_cell? w7 _ x0)).trans x0
            have z1 : ∀ r : WB w7.heap.size w7, r.w.cell? ⟨Bt, 1, none⟩ = some (.int .i64 t) := fun r => (r.ok.cell (World.block_lt_of_cell? w7 _ x1)).trans x1
            have z2 : ∀ r : WB w7.heap.size w7, r.w.cell? ⟨Bt, 2, none⟩ = some (.slice A1 n1 c1) := fun r => (r.ok.cell (World.block_lt_of_cell? w7 _ x2)).trans x2
            have z3 : ∀ r : WB w7.heap.size w7, r.w.cell? ⟨Bt, 3, none⟩ = some (.slice A2 n2 c2) := fun r => (r.ok.cell (World.block_lt_of_cell? w7 _ x3)).trans x3
            have zu : ∀ r : WB w7.heap.size w7, r.w.cell? ⟨Bu, 0, none⟩ = some (.int .i64 u) := fun r => (r.ok.cell (World.block_lt_of_cell? w7 _ cu)).trans cu
            have y1 : ∀ r : WB w7.heap.size w7, r.w.cell? ⟨D, 1, none⟩ = some (.int .i64 lt') := fun r => (r.ok.cell (World.block_lt_of_cell? w7 _ l1)).trans l1
            have v0 : ∀ r : WB w7.heap.size w7, r.w.cell? ⟨wr.heap.size, 0, none⟩ = some (.int .i64 xf) := fun r => (r.ok.cell (World.block_lt_of_cell? w7 _ p0)).trans p0
            clear x0 x1 x2 x3 cu tx hu
            go_upto_region 14 with fail
            refine wp_region_quietB w7.heap.size w7 hmx (by kernel_rfl) (Below.refl _ _) ?_
            repeat (go_big_quiet_step ((first
              | (go_at_call 17; with_reducible exact calls_quietB (KR.out _) (Nat.le_refl _))
              | (go_at_call 17; with_reducible exact calls_quietB (KS.out _) (Nat.le_refl _)))))
            refine wpQuiet_nil ?_
            intro _ hw'
            obtain ⟨pq, rfl⟩ := hw'
            have HBP := Lib.hid (HB7.out.trans (pq.ok.mono HB7.out.size))
            obtain ⟨r0, r1⟩ := HRC.out pq.w HBP.out
            have cu := (HC.out.kept (Kept.of HBP.out)).cu
            have hz4 := HL7.out.below pq.ok
            have hzo := own_below HE.out pq.ok
            obtain ⟨p0', p1', p2', p3'⟩ := (HX7.out.below pq.ok).cells
            simp only at p0' p1' p2' p3'
            obtain ⟨m0, m1, m2, m3⟩ := hz4.cells
            simp only at m0 m1 m2 m3
            have hzb := HBP.out
            clear z0 z1 z2 z3 zu y1 v0 l0 l1 p0 p1 p2 p3 KR KS
            by_cases hu0 : u = 0
            · have hub : ((u : Int) == 0) = true := by rw [hu0]; rfl
              have hif : (if u = 0 then wrap64 (wrap64 (rs - ra) - 1) else wrap64 (rs - ra)) = wrap64 (wrap64 (rs - ra) - 1) := if_pos hu0
              rw [hif] at HQF HQT
              clear hif
              subst hu0
              by_cases hlo : wrap64 (wrap64 (rs - ra) - 1) < rlo
              · have dlo : decide (wrap64 (wrap64 (rs - ra) - 1) < rlo) = true := decide_eq_true hlo
                have HRF := Lib.hid (HQF.out hl0 (by rw [decide_eq_false (by omega)]; rfl))
                clear HQT HQF hz4 hzo p0' p1' p2' p3' m0 m1 m2 m3
                go_wp2_with fail
                go_ret
                exact ⟨by rw [HRF.out]; rfl, HBP.out⟩
              · have dlo : decide (wrap64 (wrap64 (rs - ra) - 1) < rlo) = false := decide_eq_false hlo
                by_cases hhi : rhi < wrap64 (wrap64 (rs - ra) - 1)
                · have dhi : decide (rhi < wrap64 (wrap64 (rs - ra) - 1)) = true := decide_eq_true hhi
                  have HRF := Lib.hid (HQF.out hl0 (by rw [decide_eq_false (p := wrap64 (wrap64 (rs - ra) - 1) ≤ rhi) (by omega), Bool.and_false]))
                  clear HQT HQF hz4 hzo p0' p1' p2' p3' m0 m1 m2 m3
                  go_wp2_with fail
                  go_ret
                  exact ⟨by rw [HRF.out]; rfl, HBP.out⟩
                · have dhi : decide (rhi < wrap64 (wrap64 (rs - ra) - 1)) = false := decide_eq_false hhi
                  have HQ := Lib.hid (HQT.out (.inr (by rw [decide_eq_true (by omega), decide_eq_true (by omega)]; rfl)))
                  clear HQT HQF
                  have f0 := hz4.frozen 0
                  have f1 := hz4.frozen 1
                  have f2 := hz4.frozen 2
                  have f3 := hz4.frozen 3
                  have HY := Lib.hid (end4 hzo HN7.out hz4 hzb HLw.out (xf, xt, xu, xv))
                  unfold set4 at HY
                  simp only at HY
                  clear hz4 hzb hzo
                  go_wp2_with fail
                  go_roundg (k - 1)
                  case measure => omega
                  case rel => exact ⟨d.eraseIdx i, (xf, xt, xu, xv), k - 1, HEL.out, Nat.le_refl _, by omega, HY.out.1, HY.out.2.1, HN7.out, HQ.out, HY.out.2.2⟩
            · have hub : ((u : Int) == 0) = false := beq_eq_false_iff_ne.2 hu0
              have hif : (if u = 0 then wrap64 (wrap64 (rs - ra) - 1) else wrap64 (rs - ra)) = wrap64 (rs - ra) := if_neg hu0
              rw [hif] at HQF HQT
              clear hif
              by_cases hlo : wrap64 (rs - ra) < rlo
              · have dlo : decide (wrap64 (rs - ra) < rlo) = true := decide_eq_true hlo
                have HRF := Lib.hid (HQF.out hl0 (by rw [decide_eq_false (by omega)]; rfl))
                clear HQT HQF hz4 hzo p0' p1' p2' p3' m0 m1 m2 m3
                go_wp2_with fail
                go_ret
                exact ⟨by rw [HRF.out]; rfl, HBP.out⟩
              · have dlo : decide (wrap64 (rs - ra) < rlo) = false := decide_eq_false hlo
                by_cases hhi : rhi < wrap64 (rs - ra)
                · have dhi : decide (rhi < wrap64 (rs - ra)) = true := decide_eq_true hhi
                  have HRF := Lib.hid (HQF.out hl0 (by rw [decide_eq_false (p := wrap64 (rs - ra) ≤ rhi) (by omega), Bool.and_false]))
                  clear HQT HQF hz4 hzo p0' p1' p2' p3' m0 m1 m2 m3
                  go_wp2_with fail
                  go_ret
                  exact ⟨by rw [HRF.out]; rfl, HBP.out⟩
                · have dhi : decide (rhi < wrap64 (rs - ra)) = false := decide_eq_false hhi
                  have HQ := Lib.hid (HQT.out (.inr (by rw [decide_eq_true (by omega), decide_eq_true (by omega)]; rfl)))
                  clear HQT HQF
                  have f0 := hz4.frozen 0
                  have f1 := hz4.frozen 1
                  have f2 := hz4.frozen 2
                  have f3 := hz4.frozen 3
                  have HY := Lib.hid (end4 hzo HN7.out hz4 hzb HLw.out (xf, xt, xu, xv))
                  unfold set4 at HY
                  simp only at HY
                  clear hz4 hzb hzo
                  go_wp2_with fail
                  go_roundg (k - 1)
                  case measure => omega
                  case rel => exact ⟨d.eraseIdx i, (xf, xt, xu, xv), k - 1, HEL.out, Nat.le_refl _, by omega, HY.out.1, HY.out.2.1, HN7.out, HQ.out, HY.out.2.2⟩
          · have dl0 : decide (0 ≤ lf) = false := decide_eq_false hl0
            have HQ := Lib.hid (HQT.out (.inl (by show lf < 0; omega)))
            have hz4 := HL7.out
            have hzo := HE.out
            have hzb := HB7.out
            have f0 := hz4.frozen 0
            have f1 := hz4.frozen 1
            have f2 := hz4.frozen 2
            have f3 := hz4.frozen 3
            have HY := Lib.hid (end4 hzo HN7.out hz4 hzb HLw.out (xf, xt, xu, xv))
            unfold set4 at HY
            simp only at HY
            clear hz4 hzb hzo
            clear HQT HQF KR KS
            go_wp2_with fail
            go_roundg (k - 1)
            case measure => omega
            case rel => exact ⟨d.eraseIdx i, (xf, xt, xu, xv), k - 1, HEL.out, Nat.le_refl _, by omega, HY.out.1, HY.out.2.1, HN7.out, HQ.out, HY.out.2.2⟩
    · have hN0 : N = 0 := by omega
      have HF : Hid (R = true) := by show _ = _; rw [HR.out, ← HND.out, hN0]; rfl
      have hNI : ¬ (0 : Int) < (N : Int) := by omega
      clear hN0
      go_wp2_with fail
      go_ret
      exact ⟨by rw [HF.out]; rfl, HB.out⟩
end Go.Proofs.Ytafbjadlklcicaa
