/- Distance. -/
import Derived.Test.YtafbjadlklcicaaMaAp
import Derived.Laws.EntriesVeiled
namespace Go.Proofs.Ytafbjadlklcicaa
open Go.RowKit Go.Shelf
set_option maxRecDepth 100000

theorem has_any (lo hi x : Int) (w : World) : Calls Try.prog 60 #[.agg #[.int .i64 lo, .int .i64 hi], .int .i64 x] w fun e w' => e = .returned (.bool (decide (lo ≤ x) && decide (x ≤ hi))) ∧ Below w.heap.size w w' := by
  have HB : Hid (Below w.heap.size w (w.alloc (.cells #[.int .i64 lo, .int .i64 hi] 50))) := (Below.refl _ _).alloc (Nat.le_refl _) _
  go_enter Try.func60, Try.ntmps60
  by_cases h1 : lo ≤ x
  · have d1 : decide (lo ≤ x) = true := decide_eq_true h1
    rw [d1]
    go_wp2_with fail
    go_ret
    exact ⟨rfl, HB.out⟩
  · have d1 : decide (lo ≤ x) = false := decide_eq_false h1
    rw [d1]
    go_wp2_with fail
    go_ret
    exact ⟨rfl, HB.out⟩
/-- How far two spans are apart. -/
def dst (u : Int) (ss ps : List Int) (a s : Ky) : Int := if u = 0 then wrap64 (wrap64 (rkL u ss ps s.1 - rkL u ss ps a.2) - 1) else wrap64 (rkL u ss ps s.1 - rkL u ss ps a.2)
def rD (u : Int) (ss ps : List Int) (lo hi : Int) (a s : Ky) : Bool := decide (lo ≤ dst u ss ps a s) && decide (dst u ss ps a s ≤ hi)
set_option maxHeartbeats 4000000 in
theorem di11_any (Bt Bu Br : Nat) (rlo rhi f t u : Int) (A1 : Option Addr) (n1 c1 : Nat) (A2 : Option Addr) (n2 c2 : Nat) (ss ps : List Int) (a s : Sp) (w : World) (hr0 : w.cell? ⟨Br, 0, none⟩ = some (.int .i64 rlo)) (hr1 : w.cell? ⟨Br, 1, none⟩ = some (.int .i64 rhi)) (hC : TC w Bt Bu f t u A1 n1 c1 A2 n2 c2 ss ps) :
    Calls Try.prog 59 #[spV a, spV s, .pointer (some ⟨Bt, 0, none⟩), .pointer (some ⟨Bu, 0, none⟩), .pointer (some ⟨Br, 0, none⟩)] w fun e w' => e = .returned (.bool (rD u ss ps rlo rhi (kyS a) (kyS s))) ∧ Below w.heap.size w w' := by
  have hmx : Try.prog.follows .mixedOrders = true := by kernel_rfl
  obtain ⟨X, hX⟩ : ∃ X, (w.alloc (.cells #[.int .i64 a.1, .int .i64 a.2.1, .int .i64 a.2.2.1, .int .i64 a.2.2.2] 26)).alloc (.cells #[.int .i64 s.1, .int .i64 s.2.1, .int .i64 s.2.2.1, .int .i64 s.2.2.2] 26) = X := ⟨_, rfl⟩
  have bX : Below w.heap.size w X := by rw [← hX]; exact ((Below.refl _ _).alloc (Nat.le_refl _) _).alloc (by simp only [World.size_alloc]; omega) _
  have q1 : X.cell? ⟨w.heap.size, 1, none⟩ = some (.int .i64 a.2.1) := by rw [← hX]; exact old_at _ _ _ _ (new_at w _ _ 1 _ rfl)
  have p0 : X.cell? ⟨w.heap.size + 1, 0, none⟩ = some (.int .i64 s.1) := by
    rw [← hX]
    have h := new_at (w.alloc (.cells #[.int .i64 a.1, .int .i64 a.2.1, .int .i64 a.2.2.1, .int .i64 a.2.2.2] 26)) #[.int .i64 s.1, .int .i64 s.2.1, .int .i64 s.2.2.1, .int .i64 s.2.2.2] 26 0 _ rfl
    simp only [World.size_alloc] at h
    exact h
  obtain ⟨cu, x0, x1, x2, x3, tx, hu⟩ := hC.kept (Kept.of bX)
  have hr0X := (Kept.of bX).cell hr0
  have hr1X := (Kept.of bX).cell hr1
  have z0 : ∀ r : WB X.heap.size X, r.w.cell? ⟨Bt, 0, none⟩ = some (.int .i64 f) := fun r => (r.ok.cell (World.block_lt_of_cell? X _ x0)).trans x0
  have z1 : ∀ r : WB X.heap.size X, r.w.cell? ⟨Bt, 1, none⟩ = some (.int .i64 t) := fun r => (r.ok.cell (World.block_lt_of_cell? X _ x1)).trans x1
  have z2 : ∀ r : WB X.heap.size X, r.w.cell? ⟨Bt, 2, none⟩ = some (.slice A1 n1 c1) := fun r => (r.ok.cell (World.block_lt_of_cell? X _ x2)).trans x2
  have z3 : ∀ r : WB X.heap.size X, r.w.cell? ⟨Bt, 3, none⟩ = some (.slice A2 n2 c2) := fun r => (r.ok.cell (World.block_lt_of_cell? X _ x3)).trans x3
  have zu : ∀ r : WB X.heap.size X, r.w.cell? ⟨Bu, 0, none⟩ = some (.int .i64 u) := fun r => (r.ok.cell (World.block_lt_of_cell? X _ cu)).trans cu
  have y0 : ∀ r : WB X.heap.size X, r.w.cell? ⟨w.heap.size, 1, none⟩ = some (.int .i64 a.2.1) := fun r => (r.ok.cell (World.block_lt_of_cell? X _ q1)).trans q1
  have y1 : ∀ r : WB X.heap.size X, r.w.cell? ⟨w.heap.size + 1, 0, none⟩ = some (.int .i64 s.1) := fun r => (r.ok.cell (World.block_lt_of_cell? X _ p0)).trans p0
  have HRC : Hid (∀ W, Below X.heap.size X W → W.cell? ⟨Br, 0, none⟩ = some (.int .i64 rlo) ∧ W.cell? ⟨Br, 1, none⟩ = some (.int .i64 rhi) ∧ W.cell? ⟨Bu, 0, none⟩ = some (.int .i64 u)) := fun W hW => ⟨(Kept.of hW).cell hr0X, (Kept.of hW).cell hr1X, (Kept.of hW).cell cu⟩
  have K1 : Hid (∀ (x : Int) (r : WB X.heap.size X), Calls Try.prog 24 #[txV f t A1 n1 c1 A2 n2 c2, .int .i64 u, .int .i64 x] r.w fun e w' => e = .returned (.int .i64 (rkL u ss ps x)) ∧ Below r.w.heap.size r.w w') := fun x r => trank_any f t u x A1 n1 c1 A2 n2 c2 ss ps hu r.w (tx.up r.ok)
  have K2 := Lib.hid (K1.out a.2.1)
  have K3 := Lib.hid (K1.out s.1)
  have HB := Lib.hid bX
  have HX := Lib.hid hX
  have HU := Lib.hid hu
  unfold txV at K2 K3
  unfold rD dst kyS
  simp only
  generalize rkL u ss ps a.2.1 = ra at K2 ⊢
  generalize rkL u ss ps s.1 = rs at K3 ⊢
  clear hX bX q1 p0 cu x0 x1 x2 x3 tx K1 hC hr0 hr1 hr0X hr1X hu
  obtain ⟨a0, a1, a2, a3⟩ := a
  obtain ⟨s0, s1, s2, s3⟩ := s
  unfold spV
  simp only at HX y0 y1 K2 K3
  obtain ⟨R, hR⟩ : ∃ R, R = (decide (rlo ≤ if u = 0 then wrap64 (wrap64 (rs - ra) - 1) else wrap64 (rs - ra)) && decide ((if u = 0 then wrap64 (wrap64 (rs - ra) - 1) else wrap64 (rs - ra)) ≤ rhi)) := ⟨_, rfl⟩
  rw [← hR]
  have HR := Lib.hid hR
  clear hR
  go_enter Try.func59, Try.ntmps59
  go_upto_region 1 with fail
  rw [HX.out]
  refine wp_region_quietB X.heap.size X hmx (by kernel_rfl) (Below.refl _ _) ?_
  repeat (go_big_quiet_step ((first
    | (go_at_call 24; with_reducible exact calls_quietB (K2.out _) (Nat.le_refl _))
    | (go_at_call 24; with_reducible exact calls_quietB (K3.out _) (Nat.le_refl _)))))
  refine wpQuiet_nil ?_
  intro _ hw'
  obtain ⟨pq, rfl⟩ := hw'
  have HBP := Lib.hid (HB.out.trans (pq.ok.mono HB.out.size))
  obtain ⟨r0, r1, ru⟩ := HRC.out pq.w pq.ok
  clear z0 z1 z2 z3 zu y0 y1 K2 K3
  by_cases h0 : u = 0
  · subst h0
    have KH := Lib.hid (has_any rlo rhi (wrap64 (wrap64 (rs - ra) - 1)) pq.w)
    have e := HR.out
    rw [if_pos rfl] at e
    rw [← e] at KH
    clear e
    go_wp2_with fail
    with_reducible refine KH.out.mono ?_
    rintro e w5 ⟨rfl, b5⟩
    have HB5 := Lib.hid (HBP.out.trans (b5.mono HBP.out.size))
    clear b5 KH
    go_wp2_with fail
    go_ret
    exact ⟨rfl, HB5.out⟩
  · have hub : ((u : Int) == 0) = false := beq_eq_false_iff_ne.2 h0
    have KH := Lib.hid (has_any rlo rhi (wrap64 (rs - ra)) pq.w)
    have e := HR.out
    rw [if_neg h0] at e
    rw [← e] at KH
    clear e
    go_wp2_with fail
    with_reducible refine KH.out.mono ?_
    rintro e w5 ⟨rfl, b5⟩
    have HB5 := Lib.hid (HBP.out.trans (b5.mono HBP.out.size))
    clear b5 KH
    go_wp2_with fail
    go_ret
    exact ⟨rfl, HB5.out⟩
def diP (u : Int) (ss ps : List Int) (lo hi : Int) (l : List Sp) : Bool := nbP (rD u ss ps lo hi) l
set_option maxHeartbeats 1000000 in
theorem di1_any (Bt Bu Br : Nat) (rlo rhi f t u : Int) (A1 : Option Addr) (n1 c1 : Nat) (A2 : Option Addr) (n2 c2 : Nat) (ss ps : List Int) (v : Value) (l : List Sp) (hl : l.length ≤ 1000000) (w : World) (hr0 : w.cell? ⟨Br, 0, none⟩ = some (.int .i64 rlo)) (hr1 : w.cell? ⟨Br, 1, none⟩ = some (.int .i64 rhi)) (hC : TC w Bt Bu f t u A1 n1 c1 A2 n2 c2 ss ps) (h : SV w w.heap.size v l) :
    Calls Try.prog 58 #[v, .pointer (some ⟨Bt, 0, none⟩), .pointer (some ⟨Bu, 0, none⟩), .pointer (some ⟨Br, 0, none⟩)] w fun e w' => e = .returned (.bool (diP u ss ps rlo rhi l)) ∧ Below w.heap.size w w' := by
  have KN := Lib.hid (nb_any 59 #[.pointer (some ⟨Bt, 0, none⟩), .pointer (some ⟨Bu, 0, none⟩), .pointer (some ⟨Br, 0, none⟩)] (rD u ss ps rlo rhi) v l hl w h ⟨enters_of Try.func59 (by kernel_rfl) rfl, fun W hW a s => di11_any Bt Bu Br rlo rhi f t u A1 n1 c1 A2 n2 c2 ss ps a s W ((Kept.of hW).cell hr0) ((Kept.of hW).cell hr1) (hC.kept (Kept.of hW))⟩)
  obtain ⟨A, c, rfl, _⟩ := h
  unfold diP
  generalize l.length = n at KN ⊢
  generalize nbP (rD u ss ps rlo rhi) l = R at KN ⊢
  clear hC hl hr0 hr1
  go_enter Try.func58, Try.ntmps58
  go_wp2_with fail
  with_reducible refine KN.out.mono ?_
  rintro e w1 ⟨rfl, b1⟩
  have HB := Lib.hid b1
  clear b1 KN
  go_wp2_with fail
  go_ret
  exact ⟨rfl, HB.out⟩
set_option maxHeartbeats 2000000 in
theorem distance_any (f t u rlo rhi : Int) (A1 : Option Addr) (n1 c1 : Nat) (A2 : Option Addr) (n2 c2 : Nat) (ss ps : List Int) (hu : u = 0 ∨ u = 1 ∨ u = 2) (A : Option Addr) (n c : Nat) (ms : List Mt) (HN : Hid (n = ms.length)) (hn : n ≤ 10000) (HSM : Hid (smM ms)) (w : World) (hT : Tx w A1 n1 c1 A2 n2 c2 ss ps) (h : MS w w.heap.size A ms) :
    Calls Try.prog 29 #[txV f t A1 n1 c1 A2 n2 c2, .slice A n c, .agg #[.int .i64 rlo, .int .i64 rhi], .int .i64 u] w fun e w' => ∃ v zs, e = .returned v ∧ MO w w' v zs (thruL (diP u ss ps rlo rhi) ms) := by
  obtain ⟨X, hX⟩ : ∃ X, ((w.alloc (.cells #[.int .i64 f, .int .i64 t, .slice A1 n1 c1, .slice A2 n2 c2] 38)).alloc (.cells #[.int .i64 rlo, .int .i64 rhi] 50)).alloc (.cells #[.int .i64 u] 39) = X := ⟨_, rfl⟩
  have bX : Below w.heap.size w X := by rw [← hX]; exact (((Below.refl _ _).alloc (Nat.le_refl _) _).alloc (by simp only [World.size_alloc]; omega) _).alloc (by simp only [World.size_alloc]; omega) _
  have b : ∀ j v, (#[.int .i64 rlo, .int .i64 rhi] : Array Value)[j]? = some v → X.cell? ⟨w.heap.size + 1, j, none⟩ = some v := fun j v h => by
    rw [← hX]
    have h := new_at (w.alloc (.cells #[.int .i64 f, .int .i64 t, .slice A1 n1 c1, .slice A2 n2 c2] 38)) _ 50 j v h
    simp only [World.size_alloc] at h
    exact old_at _ _ _ _ h
  have hC : TC X w.heap.size (w.heap.size + 2) f t u A1 n1 c1 A2 n2 c2 ss ps := by
    have a : ∀ j v, (#[.int .i64 f, .int .i64 t, .slice A1 n1 c1, .slice A2 n2 c2] : Array Value)[j]? = some v → X.cell? ⟨w.heap.size, j, none⟩ = some v := fun j v h => by
      rw [← hX]
      exact old_at _ _ _ _ (old_at _ _ _ _ (new_at w _ _ j v h))
    refine ⟨?_, a 0 _ rfl, a 1 _ rfl, a 2 _ rfl, a 3 _ rfl, hT.up bX, hu⟩
    rw [← hX]
    have h := new_at ((w.alloc (.cells #[.int .i64 f, .int .i64 t, .slice A1 n1 c1, .slice A2 n2 c2] 38)).alloc (.cells #[.int .i64 rlo, .int .i64 rhi] 50)) #[.int .i64 u] 39 0 _ rfl
    simp only [World.size_alloc] at h
    exact h
  have hr0 := b 0 _ rfl
  have hr1 := b 1 _ rfl
  have HTH := Lib.hid (through_own 58 #[.pointer (some ⟨w.heap.size, 0, none⟩), .pointer (some ⟨w.heap.size + 2, 0, none⟩), .pointer (some ⟨w.heap.size + 1, 0, none⟩)] (diP u ss ps rlo rhi) A n c ms HN hn HSM 20000 (fun m hm => (HSM.out m hm).1) X (h.up bX) ⟨enters_of Try.func58 (by kernel_rfl) rfl, fun W hW v l hv hl => di1_any _ _ _ rlo rhi f t u A1 n1 c1 A2 n2 c2 ss ps v l (by omega) W ((Kept.of hW).cell hr0) ((Kept.of hW).cell hr1) (hC.kept (Kept.of hW)) hv⟩)
  have HX := Lib.hid hX
  have HB := Lib.hid bX
  clear hX bX hC h hT hr0 hr1 b
  unfold txV
  go_enter Try.func29, Try.ntmps29
  go_upto_region 1 with fail
  rw [HX.out]
  go_wp2_with fail
  with_reducible refine HTH.out.mono ?_
  rintro e w1 ⟨v, zs, rfl, hm⟩
  have HM := Lib.hid (hm.base HB.out)
  clear hm HTH
  go_wp2_with fail
  go_ret
  exact ⟨_, _, rfl, HM.out⟩
end Go.Proofs.Ytafbjadlklcicaa
