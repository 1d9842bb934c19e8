/- MatchWindows: the law's into, apart. -/
import Derived.Test.YtafbjadlklcicaaMaWi2
import Derived.Laws.EntriesVeiled
namespace Go.Proofs.Ytafbjadlklcicaa
open Go.RowKit Go.Shelf
set_option maxRecDepth 100000

theorem MF.base {w0 w1 wr : World} {v : Value} {zs : List (Value × Value)} {ms : List Mt} (h : MF w1 wr v zs ms) (hb : Below w0.heap.size w0 w1) : MF w0 wr v zs ms := ⟨own_le h.own hb.size, h.mz, hb.trans (h.kb.mono hb.size), h.ne⟩
set_option maxHeartbeats 2000000 in
theorem into_any (Ba Bw Bt Bu : Nat) (nn f t u : Int) (A1 : Option Addr) (n1 c1 : Nat) (A2 : Option Addr) (n2 c2 : Nat) (ss ps : List Int) (A : Option Addr) (n c : Nat) (ms : List Mt) (HN : Hid (n = ms.length)) (hn : n ≤ 10000) (HSM : Hid (∀ m ∈ ms, m.1.length ≤ 1000 ∧ m.2.length ≤ 1000)) (w : World) (ha : w.cell? ⟨Ba, 0, none⟩ = some (.slice A n c)) (hf : w.cell? ⟨Bw, 0, none⟩ = some (widF Bt Bu)) (hC : TC w Bt Bu f t u A1 n1 c1 A2 n2 c2 ss ps) (h : MS w w.heap.size A ms) :
    Calls Try.prog 18 #[.int .i64 nn, .pointer (some ⟨Ba, 0, none⟩), .pointer (some ⟨Bw, 0, none⟩)] w fun e w' => ∃ v zs, e = .returned v ∧ MF w w' v zs (filL (intP u ss ps nn) (intT u ss ps nn) ms) := by
  obtain ⟨X, hX⟩ : ∃ X, w.alloc (.cells #[.int .i64 nn] 3) = X := ⟨_, rfl⟩
  have bX : Below w.heap.size w X := by rw [← hX]; exact (Below.refl _ _).alloc (Nat.le_refl _) _
  have hnX : X.cell? ⟨w.heap.size, 0, none⟩ = some (.int .i64 nn) := by rw [← hX]; exact new_at w _ _ 0 _ rfl
  have haX := (Kept.of bX).cell ha
  have hfX := (Kept.of bX).cell hf
  have hCX := hC.kept (Kept.of bX)
  have KF := Lib.hid (filter_any 19 20 #[.pointer (some ⟨Bw, 0, none⟩), .pointer (some ⟨w.heap.size, 0, none⟩)] #[.pointer (some ⟨Bw, 0, none⟩), .pointer (some ⟨w.heap.size, 0, none⟩)] (intP u ss ps nn) (intT u ss ps nn) A n c ms HN hn HSM X (h.up bX)
    ⟨enters_of Try.func19 (by kernel_rfl) rfl, fun W hW v l hv hl => int1_any Bw w.heap.size Bt Bu nn f t u A1 n1 c1 A2 n2 c2 ss ps v l (by omega) W ((Kept.of hW).cell hfX) ((Kept.of hW).cell hnX) (hCX.kept (Kept.of hW)) hv⟩
    ⟨enters_of Try.func20 (by kernel_rfl) rfl, fun W hW v l s hv hl => int2_any Bw w.heap.size Bt Bu nn f t u A1 n1 c1 A2 n2 c2 ss ps v l hl s W ((Kept.of hW).cell hfX) ((Kept.of hW).cell hnX) (hCX.kept (Kept.of hW)) hv⟩)
  have HX := Lib.hid hX
  have HB := Lib.hid bX
  generalize filL (intP u ss ps nn) (intT u ss ps nn) ms = L at KF ⊢
  clear hX bX hnX hfX hCX ha hf hC h
  go_enter Try.func18, Try.ntmps18
  go_upto_region 1 with fail
  rw [HX.out]
  go_wp2_with fail
  with_reducible refine KF.out.mono ?_
  rintro e w1 ⟨v, zs, rfl, hm⟩
  have HM := Lib.hid (hm.base HB.out)
  clear hm KF
  go_wp2_with fail
  go_ret
  exact ⟨_, _, rfl, HM.out⟩
theorem lall_any (v : Value) (s : Sp) (w : World) : Calls Try.prog 23 #[v, spV s] w fun e w' => e = .returned (.bool true) ∧ Below w.heap.size w w' := by
  obtain ⟨s0, s1, s2, s3⟩ := s
  unfold spV
  go_enter Try.func23, Try.ntmps23
  go_wp2_with fail
  go_ret
  exact ⟨rfl, (Below.refl _ _).alloc (Nat.le_refl _) _⟩
/-- Two spans have a unit in common. -/
def apB (u : Int) (ss ps : List Int) (x y : Sp) : Bool := decide (rkL u ss ps x.1 ≤ rkL u ss ps y.2.1) && decide (rkL u ss ps y.1 ≤ rkL u ss ps x.2.1)
def lapP (u : Int) (ss ps : List Int) (l : List Sp) : Bool := decide (∀ i, i < l.length → ∀ k, k < l.length → i ≠ k → apB u ss ps (l.getD i (0, 0, 0, 0)) (l.getD k (0, 0, 0, 0)) = false)
theorem lapP_iff (u : Int) (ss ps : List Int) (l : List Sp) : lapP u ss ps l = true ↔ ∀ i k (hi : i < l.length) (hk : k < l.length), i ≠ k → apB u ss ps l[i] l[k] = false := by
  unfold lapP
  rw [decide_eq_true_iff]
  have e : ∀ i (h : i < l.length), l.getD i (0, 0, 0, 0) = l[i] := fun i h => by rw [List.getD_eq_getElem?_getD, List.getElem?_eq_getElem h]; rfl
  constructor
  · intro h i k hi hk hne
    have := h i hi k hk hne
    rwa [e i hi, e k hk] at this
  · intro h i hi k hk hne
    rw [e i hi, e k hk]
    exact h i k hi hk hne
set_option maxHeartbeats 8000000 in
theorem lap_any (Bt Bu : Nat) (f t u : Int) (A1 : Option Addr) (n1 c1 : Nat) (A2 : Option Addr) (n2 c2 : Nat) (ss ps : List Int) (v : Value) (l : List Sp) (hl : l.length ≤ 1000000) (w : World) (hC : TC w Bt Bu f t u A1 n1 c1 A2 n2 c2 ss ps) (h : SV w w.heap.size v l) :
    Calls Try.prog 22 #[v, .pointer (some ⟨Bt, 0, none⟩), .pointer (some ⟨Bu, 0, none⟩)] w fun e w' => e = .returned (.bool (lapP u ss ps l)) ∧ Below w.heap.size w w' := by
  have hmx : Try.prog.follows .mixedOrders = true := by kernel_rfl
  obtain ⟨A, c, rfl, _, _, h3⟩ := h
  have HA := Lib.hid h3
  have HC := Lib.hid hC
  obtain ⟨n, hn⟩ : ∃ n, n = l.length := ⟨_, rfl⟩
  have HN := Lib.hid hn
  have HP := Lib.hid (lapP_iff u ss ps l)
  obtain ⟨R, hR⟩ : ∃ R, R = lapP u ss ps l := ⟨_, rfl⟩
  rw [← hR] at HP
  rw [← hn] at hl ⊢
  rw [← hR]
  clear hC h3 hn hR
  go_enter Try.func22, Try.ntmps22
  go_wp2_with fail
  go_loopw [11] (fun i wr => ∃ j : Nat, j ≤ n ∧ i = .int .i64 j ∧ Hid (∀ i k (hi : i < l.length) (hk : k < l.length), i < j → i ≠ k → apB u ss ps l[i] l[k] = false) ∧ Hid (Below w.heap.size w wr)) (fun i _ => n - (intOf i).toNat)
  case atStart => exact ⟨0, Nat.zero_le _, rfl, fun i k _ _ h => absurd h (Nat.not_lt_zero _), Below.refl _ _⟩
  case round =>
    obtain ⟨j, hj, rfl, HJ, HB⟩ := hrel
    by_cases hlt : j < n
    · have hjl : j < l.length := by rw [← HN.out]; exact hlt
      have HLT := Lib.hid hlt
      obtain ⟨b', o, hA, hb, hc⟩ := (HA.out.below HB.out) (by rw [spCs_len]; omega)
      subst hA
      obtain ⟨c0', c1', c2', c3'⟩ := spCs_at l j hjl
      have e0 := hc _ _ c0'
      have e1 := hc _ _ c1'
      have e2 := hc _ _ c2'
      have e3 := hc _ _ c3'
      rw [← Nat.add_assoc] at e1 e2 e3
      obtain ⟨x, hx⟩ : ∃ x, x = l[j] := ⟨_, rfl⟩
      have HX0 : Hid (∀ k (hk : k < l.length), j ≠ k → apB u ss ps x l[k] = true → R = false) := fun k hk hne h => Bool.eq_false_iff.2 fun e => by have := HP.out.1 e j k hjl hk hne; rw [← hx, h] at this; cases this
      have HX1 : Hid ((∀ k (hk : k < l.length), j ≠ k → apB u ss ps x l[k] = false) → ∀ i k (hi : i < l.length) (hk : k < l.length), i < j + 1 → i ≠ k → apB u ss ps l[i] l[k] = false) := fun h i k hi hk hij hne => by
        rcases Nat.lt_or_ge i j with h' | h'
        · exact HJ.out i k hi hk h' hne
        · obtain rfl : i = j := by omega
          rw [← hx]
          exact h k hk hne
      rw [← hx] at e0 e1 e2 e3
      obtain ⟨Z, hZ⟩ : ∃ Z, wr.alloc (.cells #[.int .i64 x.1, .int .i64 x.2.1, .int .i64 x.2.2.1, .int .i64 x.2.2.2] 26) = Z := ⟨_, rfl⟩
      have bZ : Below wr.heap.size wr Z := by rw [← hZ]; exact (Below.refl _ _).alloc (Nat.le_refl _) _
      have HB4 : Hid (Box4 Z wr.heap.size x) := by rw [← hZ]; exact Box4.new wr x
      have HBZ := Lib.hid (HB.out.trans (bZ.mono HB.out.size))
      have HZ := Lib.hid hZ
      have wj : IntKind.i64.wrap ((j : Int) + 1) = (j : Int) + 1 := by rw [IntKind.wrap_i64]; omega
      obtain ⟨D, hD⟩ : ∃ D, D = wr.heap.size := ⟨_, rfl⟩
      rw [← hD] at HB4
      have HDe := Lib.hid hD
      clear hc c0' c1' c2' c3' hx hb hZ bZ hjl HJ hD
      obtain ⟨xf, xt, xu, xv⟩ := x
      simp only at e0 e1 e2 e3 HZ
      go_upto_region 4 with fail
      rw [HZ.out, ← HDe.out]
      clear e0 e1 e2 e3
      go_wp2_with fail
      go_loopw [18] (fun i wr => ∃ k : Nat, k ≤ n ∧ i = .int .i64 k ∧ Hid (∀ k' (hk : k' < l.length), k' < k → j ≠ k' → apB u ss ps (xf, xt, xu, xv) l[k'] = false) ∧ Hid (Below Z.heap.size Z wr)) (fun i _ => n - (intOf i).toNat)
      case atStart => exact ⟨0, Nat.zero_le _, rfl, fun k _ h => absurd h (Nat.not_lt_zero _), Below.refl _ _⟩
      case round =>
        obtain ⟨k, hk, rfl, HK, HB2⟩ := hrel
        by_cases hkl : k < n
        · have hkm : k < l.length := by rw [← HN.out]; exact hkl
          have HKL := Lib.hid hkl
          have bwr := HBZ.out.trans (HB2.out.mono HBZ.out.size)
          obtain ⟨b2, o2, hA, hb2, hc⟩ := (HA.out.below bwr) (by rw [spCs_len]; omega)
          injection hA with hA
          injection hA with hA1 hA2
          subst hA1 hA2
          obtain ⟨c0', c1', c2', c3'⟩ := spCs_at l k hkm
          have e0 := hc _ _ c0'
          have e1 := hc _ _ c1'
          have e2 := hc _ _ c2'
          have e3 := hc _ _ c3'
          rw [← Nat.add_assoc] at e1 e2 e3
          have HT : Hid ((j ≠ k → apB u ss ps (xf, xt, xu, xv) l[k] = false) → ∀ k' (hk : k' < l.length), k' < k + 1 → j ≠ k' → apB u ss ps (xf, xt, xu, xv) l[k'] = false) := fun h k' hk' hkk hne => by
            rcases Nat.lt_or_ge k' k with h' | h'
            · exact HK.out k' hk' h' hne
            · obtain rfl : k' = k := by omega
              exact h hne
          have HF : Hid (j ≠ k → apB u ss ps (xf, xt, xu, xv) l[k] = true → R = false) := HX0.out k hkm
          obtain ⟨y, hy⟩ : ∃ y, y = l[k] := ⟨_, rfl⟩
          rw [← hy] at e0 e1 e2 e3 HT HF
          obtain ⟨V, hV⟩ : ∃ V, wr.alloc (.cells #[.int .i64 y.1, .int .i64 y.2.1, .int .i64 y.2.2.1, .int .i64 y.2.2.2] 26) = V := ⟨_, rfl⟩
          have bV : Below wr.heap.size wr V := by rw [← hV]; exact (Below.refl _ _).alloc (Nat.le_refl _) _
          have hBV : Box4 V wr.heap.size y := by rw [← hV]; exact Box4.new wr y
          have bZV := HB2.out.trans (bV.mono HB2.out.size)
          have bwV := HBZ.out.trans (bZV.mono HBZ.out.size)
          obtain ⟨p0, p1, _, _⟩ := hBV.cells
          obtain ⟨q0, q1, _, _⟩ := (HB4.out.below bZV).cells
          obtain ⟨cu, x0, x1, x2, x3, tx, hu⟩ := HC.out.kept (Kept.of bwV)
          have z0 : ∀ r : WB V.heap.size V, r.w.cell? ⟨Bt, 0, none⟩ = some (.int .i64 f) := fun r => (r.ok.cell (World.block_lt_of_cell? V _ x0)).trans x0
          have z1 : ∀ r : WB V.heap.size V, r.w.cell? ⟨Bt, 1, none⟩ = some (.int .i64 t) := fun r => (r.ok.cell (World.block_lt_of_cell? V _ x1)).trans x1
          have z2 : ∀ r : WB V.heap.size V, r.w.cell? ⟨Bt, 2, none⟩ = some (.slice A1 n1 c1) := fun r => (r.ok.cell (World.block_lt_of_cell? V _ x2)).trans x2
          have z3 : ∀ r : WB V.heap.size V, r.w.cell? ⟨Bt, 3, none⟩ = some (.slice A2 n2 c2) := fun r => (r.ok.cell (World.block_lt_of_cell? V _ x3)).trans x3
          have zu : ∀ r : WB V.heap.size V, r.w.cell? ⟨Bu, 0, none⟩ = some (.int .i64 u) := fun r => (r.ok.cell (World.block_lt_of_cell? V _ cu)).trans cu
          have y0 : ∀ r : WB V.heap.size V, r.w.cell? ⟨D, 0, none⟩ = some (.int .i64 xf) := fun r => (r.ok.cell (World.block_lt_of_cell? V _ q0)).trans q0
          have y1 : ∀ r : WB V.heap.size V, r.w.cell? ⟨D, 1, none⟩ = some (.int .i64 xt) := fun r => (r.ok.cell (World.block_lt_of_cell? V _ q1)).trans q1
          have v0 : ∀ r : WB V.heap.size V, r.w.cell? ⟨wr.heap.size, 0, none⟩ = some (.int .i64 y.1) := fun r => (r.ok.cell (World.block_lt_of_cell? V _ p0)).trans p0
          have v1 : ∀ r : WB V.heap.size V, r.w.cell? ⟨wr.heap.size, 1, none⟩ = some (.int .i64 y.2.1) := fun r => (r.ok.cell (World.block_lt_of_cell? V _ p1)).trans p1
          have K1 : Hid (∀ (x : Int) (r : WB V.heap.size V), Calls Try.prog 17 #[txV f t A1 n1 c1 A2 n2 c2, .int .i64 u, .int .i64 x] r.w fun e w' => e = .returned (.int .i64 (rkL u ss ps x)) ∧ Below r.w.heap.size r.w w') := fun x r => lrank_any f t u x A1 n1 c1 A2 n2 c2 ss ps hu r.w (tx.up r.ok)
          have KA := Lib.hid (K1.out xf)
          have KB := Lib.hid (K1.out y.2.1)
          have KC := Lib.hid (K1.out y.1)
          have KD := Lib.hid (K1.out xt)
          unfold apB at HT HF
          simp only at HT HF
          unfold txV at KA KB KC KD
          obtain ⟨ra, hra⟩ : ∃ r, r = rkL u ss ps xf := ⟨_, rfl⟩
          obtain ⟨rb, hrb⟩ : ∃ r, r = rkL u ss ps y.2.1 := ⟨_, rfl⟩
          obtain ⟨rc, hrc⟩ : ∃ r, r = rkL u ss ps y.1 := ⟨_, rfl⟩
          obtain ⟨rd, hrd⟩ : ∃ r, r = rkL u ss ps xt := ⟨_, rfl⟩
          rw [← hra] at KA
          rw [← hrb] at KB
          rw [← hrc] at KC
          rw [← hrd] at KD
          rw [← hra, ← hrb, ← hrc, ← hrd] at HF
          have HTT : Hid ((j ≠ k → (decide (ra ≤ rb) && decide (rc ≤ rd)) = false) → ∀ k' (hk : k' < l.length), k' < k + 1 → j ≠ k' → apB u ss ps (xf, xt, xu, xv) l[k'] = false) := fun h => HT.out (by rw [hra, hrb, hrc, hrd] at h; exact h)
          have HZV := Lib.hid bZV
          have HBW := Lib.hid bwV
          have HV := Lib.hid hV
          have wk : IntKind.i64.wrap ((k : Int) + 1) = (k : Int) + 1 := by rw [IntKind.wrap_i64]; omega
          clear hc c0' c1' c2' c3' hy hb2 hV bV hBV bZV bwV p0 p1 q0 q1 cu x0 x1 x2 x3 tx K1 hra hrb hrc hrd bwr HT hkm
          obtain ⟨yf, yt, yu, yv⟩ := y
          simp only at e0 e1 e2 e3 HV v0 v1 KB KC
          go_upto_region 7 with fail
          rw [HV.out]
          clear e0 e1 e2 e3
          by_cases hjk : j = k
          · have dn : ((j : Int) != (k : Int)) = false := by rw [hjk]; simp
            have HG := Lib.hid (HTT.out fun h => absurd hjk h)
            clear hjk
            refine wp_region_quietB V.heap.size V hmx (by kernel_rfl) (Below.refl _ _) ?_
            repeat (go_big_quiet_step ((first
              | (go_at_call 17; with_reducible exact calls_quietB (KA.out _) (Nat.le_refl _))
              | (go_at_call 17; with_reducible exact calls_quietB (KB.out _) (Nat.le_refl _))
              | (go_at_call 17; with_reducible exact calls_quietB (KC.out _) (Nat.le_refl _))
              | (go_at_call 17; with_reducible exact calls_quietB (KD.out _) (Nat.le_refl _)))))
            refine wpQuiet_nil ?_
            intro _ hw'
            obtain ⟨pq, rfl⟩ := hw'
            go_wp2_with fail
            exact ⟨⟨k + 1, HKL.out, by go_num, HG.out, HZV.out.trans (pq.ok.mono HZV.out.size)⟩, by have := HKL.out; simp [intOf]; omega⟩
          · have dn : ((j : Int) != (k : Int)) = true := by simp; omega
            have HJK := Lib.hid hjk
            clear hjk
            by_cases h1 : ra ≤ rb
            · have d1 : decide (ra ≤ rb) = true := decide_eq_true h1
              by_cases h2 : rc ≤ rd
              · have d2 : decide (rc ≤ rd) = true := decide_eq_true h2
                have HR := Lib.hid (HF.out HJK.out (by rw [d1, d2]; rfl))
                refine wp_region_quietB V.heap.size V hmx (by kernel_rfl) (Below.refl _ _) ?_
                repeat (go_big_quiet_step ((first
                  | (go_at_call 17; with_reducible exact calls_quietB (KA.out _) (Nat.le_refl _))
                  | (go_at_call 17; with_reducible exact calls_quietB (KB.out _) (Nat.le_refl _))
                  | (go_at_call 17; with_reducible exact calls_quietB (KC.out _) (Nat.le_refl _))
                  | (go_at_call 17; with_reducible exact calls_quietB (KD.out _) (Nat.le_refl _)))))
                refine wpQuiet_nil ?_
                intro _ hw'
                obtain ⟨pq, rfl⟩ := hw'
                go_wp2_with fail
                go_ret
                exact ⟨by rw [HR.out]; rfl, HBW.out.trans (pq.ok.mono HBW.out.size)⟩
              · have d2 : decide (rc ≤ rd) = false := decide_eq_false h2
                have HG := Lib.hid (HTT.out fun _ => by rw [d2, Bool.and_false])
                refine wp_region_quietB V.heap.size V hmx (by kernel_rfl) (Below.refl _ _) ?_
                repeat (go_big_quiet_step ((first
                  | (go_at_call 17; with_reducible exact calls_quietB (KA.out _) (Nat.le_refl _))
                  | (go_at_call 17; with_reducible exact calls_quietB (KB.out _) (Nat.le_refl _))
                  | (go_at_call 17; with_reducible exact calls_quietB (KC.out _) (Nat.le_refl _))
                  | (go_at_call 17; with_reducible exact calls_quietB (KD.out _) (Nat.le_refl _)))))
                refine wpQuiet_nil ?_
                intro _ hw'
                obtain ⟨pq, rfl⟩ := hw'
                go_wp2_with fail
                exact ⟨⟨k + 1, HKL.out, by go_num, HG.out, HZV.out.trans (pq.ok.mono HZV.out.size)⟩, by have := HKL.out; simp [intOf]; omega⟩
            · have d1 : decide (ra ≤ rb) = false := decide_eq_false h1
              have HG := Lib.hid (HTT.out fun _ => by rw [d1]; rfl)
              refine wp_region_quietB V.heap.size V hmx (by kernel_rfl) (Below.refl _ _) ?_
              repeat (go_big_quiet_step ((first
                | (go_at_call 17; with_reducible exact calls_quietB (KA.out _) (Nat.le_refl _))
                | (go_at_call 17; with_reducible exact calls_quietB (KB.out _) (Nat.le_refl _))
                | (go_at_call 17; with_reducible exact calls_quietB (KC.out _) (Nat.le_refl _))
                | (go_at_call 17; with_reducible exact calls_quietB (KD.out _) (Nat.le_refl _)))))
              refine wpQuiet_nil ?_
              intro _ hw'
              obtain ⟨pq, rfl⟩ := hw'
              go_wp2_with fail
              exact ⟨⟨k + 1, HKL.out, by go_num, HG.out, HZV.out.trans (pq.ok.mono HZV.out.size)⟩, by have := HKL.out; simp [intOf]; omega⟩
        · obtain rfl : k = n := by omega
          have HF := Lib.hid (HX1.out fun k' hk' hne => HK.out k' hk' (by rw [HN.out]; exact hk') hne)
          have HBW := Lib.hid (HBZ.out.trans (HB2.out.mono HBZ.out.size))
          go_wp2_with fail
          exact ⟨⟨j + 1, HLT.out, by go_num, HF.out, HBW.out⟩, by have := HLT.out; simp [intOf]; omega⟩
    · obtain rfl : j = n := by omega
      have HF : Hid (R = true) := HP.out.2 fun i k hi hk hne => HJ.out i k hi hk (by rw [HN.out]; exact hi) hne
      go_wp2_with fail
      go_ret
      exact ⟨by rw [HF.out]; rfl, HB.out⟩
end Go.Proofs.Ytafbjadlklcicaa
