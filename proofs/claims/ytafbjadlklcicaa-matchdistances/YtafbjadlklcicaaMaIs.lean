/- slices.IsSortedFunc at spans. -/
import Derived.Test.YtafbjadlklcicaaMaCm
import Derived.Laws.EntriesVeiled
namespace Go.Proofs.Ytafbjadlklcicaa
open Go.RowKit Go.Shelf
set_option maxRecDepth 100000

theorem below_grow (w : World) (q : Nat) (os : Array Obj) : Below w.heap.size w (Go.Sort.grow (w.drewN q) os) := ⟨rfl, rfl, rfl, by simp, fun k hk => Go.Sort.heap_grow_old _ _ (by simpa using hk)⟩
theorem CmpOf.below {F : Nat} {cf : Sp → Sp → Int} (h : CmpOf F cf) (x y : Sp) (W : World) : Calls Try.prog F #[spV x, spV y] W fun e w' => e = .returned (.int .i64 (cf x y)) ∧ Below W.heap.size W w' :=
  (h.2 x y W).mono fun e w' ⟨h1, q, os, h2⟩ => ⟨h1, by rw [h2]; exact below_grow W q os⟩
/-- No span is less than the one ahead of it, from i on. -/
def upFrom (cf : Sp → Sp → Int) (l : List Sp) (i : Nat) : Prop := ∀ k (h : k + 1 < l.length), i ≤ k → ltOf cf l[k + 1] l[k] = false
set_option maxHeartbeats 2000000 in
theorem issorted_any (F : Nat) (cf : Sp → Sp → Int) (hF : CmpOf F cf) (A : Option Addr) (n c : Nat) (l : List Sp) (HN : Hid (n = l.length)) (hn : n ≤ 1000000) (R : Bool) (HR : Hid (R = true ↔ upFrom cf l 0)) (w : World) (h : CS w w.heap.size A (spCs l)) :
    Calls Try.prog 42 #[.slice A n c, .func (.func F) #[] #[]] w fun e w' => e = .returned (.bool R) ∧ Below w.heap.size w w' := by
  have HA := Lib.hid h
  have HCF := hF.1
  have HF := Lib.hid hF
  have hmx : Try.prog.follows .mixedOrders = true := by kernel_rfl
  clear h hF
  have w0 : IntKind.i64.wrap ((n : Int) - 1) = (n : Int) - 1 := by rw [IntKind.wrap_i64]; omega
  go_enter Try.func42, Try.ntmps42
  go_wp2_with fail
  go_loopw [5] (fun i wr => ∃ z : Int, i = .int .i64 z ∧ z < n ∧ -1 ≤ z ∧ Hid (upFrom cf l z.toNat) ∧ Hid (Below w.heap.size w wr)) (fun i _ => (intOf i).toNat)
  case atStart => exact ⟨_, rfl, by omega, by omega, fun k hk h => absurd hk (by rw [← HN.out]; omega), Below.refl _ _⟩
  case round =>
    obtain ⟨z, rfl, hzn, hz0, HU, HB⟩ := hrel
    by_cases hlt : 0 < z
    · obtain ⟨t, ht⟩ : ∃ t : Nat, z = (t : Int) + 1 := ⟨(z - 1).toNat, by omega⟩
      subst ht
      have ht1 : t + 1 < l.length := by rw [← HN.out]; omega
      have ht0 : t < l.length := by omega
      obtain ⟨b, o, rfl, hb, hc⟩ := (HA.out.below HB.out) (by rw [spCs_len]; omega)
      obtain ⟨c0, c1, c2, c3⟩ := spCs_at l (t + 1) ht1
      obtain ⟨d0, d1, d2, d3⟩ := spCs_at l t ht0
      have HU0 : Hid (ltOf cf l[t + 1] l[t] = false → upFrom cf l t) := fun h k hk hi => by
        rcases Nat.lt_or_ge t k with hk' | hk'
        · exact HU.out k hk (by omega)
        · obtain rfl : k = t := by omega
          exact h
      have HU1 : Hid (ltOf cf l[t + 1] l[t] = true → ¬ upFrom cf l 0) := fun h k => by have := k t ht1 (Nat.zero_le _); rw [h] at this; cases this
      obtain ⟨x, hx⟩ : ∃ x, x = l[t + 1] := ⟨_, rfl⟩
      obtain ⟨y, hy⟩ : ∃ y, y = l[t] := ⟨_, rfl⟩
      rw [← hx] at c0 c1 c2 c3 HU0 HU1
      rw [← hy] at d0 d1 d2 d3 HU0 HU1
      have a0 := hc _ _ c0
      have a1 := hc _ _ c1
      have a2 := hc _ _ c2
      have a3 := hc _ _ c3
      have b0 := hc _ _ d0
      have b1 := hc _ _ d1
      have b2 := hc _ _ d2
      have b3 := hc _ _ d3
      rw [← Nat.add_assoc] at a1 a2 a3 b1 b2 b3
      have KF : Hid (∀ r : WB wr.heap.size wr, Calls Try.prog F #[spV x, spV y] r.w fun e w' => e = .returned (.int .i64 (cf x y)) ∧ Below r.w.heap.size r.w w') := fun r => HF.out.below x y r.w
      have HLT : ltOf cf x y = decide (cf x y < 0) := rfl
      obtain ⟨v, hv⟩ : ∃ v, v = cf x y := ⟨_, rfl⟩
      rw [← hv] at KF HLT
      rw [HLT] at HU0 HU1
      obtain ⟨f, t', u, v'⟩ := x
      obtain ⟨f2, t2, u2, v2⟩ := y
      unfold spV at KF
      simp only at a0 a1 a2 a3 b0 b1 b2 b3 KF
      have z0 : ∀ r : WB wr.heap.size wr, r.w.cell? ⟨b, o + (t + 1) * 4, none⟩ = some (.int .i64 f) := fun r => (r.ok.cell (World.block_lt_of_cell? wr _ a0)).trans a0
      have z1 : ∀ r : WB wr.heap.size wr, r.w.cell? ⟨b, o + (t + 1) * 4 + 1, none⟩ = some (.int .i64 t') := fun r => (r.ok.cell (World.block_lt_of_cell? wr _ a1)).trans a1
      have z2 : ∀ r : WB wr.heap.size wr, r.w.cell? ⟨b, o + (t + 1) * 4 + 2, none⟩ = some (.int .i64 u) := fun r => (r.ok.cell (World.block_lt_of_cell? wr _ a2)).trans a2
      have z3 : ∀ r : WB wr.heap.size wr, r.w.cell? ⟨b, o + (t + 1) * 4 + 3, none⟩ = some (.int .i64 v') := fun r => (r.ok.cell (World.block_lt_of_cell? wr _ a3)).trans a3
      have u0 : ∀ r : WB wr.heap.size wr, r.w.cell? ⟨b, o + t * 4, none⟩ = some (.int .i64 f2) := fun r => (r.ok.cell (World.block_lt_of_cell? wr _ b0)).trans b0
      have u1 : ∀ r : WB wr.heap.size wr, r.w.cell? ⟨b, o + t * 4 + 1, none⟩ = some (.int .i64 t2) := fun r => (r.ok.cell (World.block_lt_of_cell? wr _ b1)).trans b1
      have u2' : ∀ r : WB wr.heap.size wr, r.w.cell? ⟨b, o + t * 4 + 2, none⟩ = some (.int .i64 u2) := fun r => (r.ok.cell (World.block_lt_of_cell? wr _ b2)).trans b2
      have u3 : ∀ r : WB wr.heap.size wr, r.w.cell? ⟨b, o + t * 4 + 3, none⟩ = some (.int .i64 v2) := fun r => (r.ok.cell (World.block_lt_of_cell? wr _ b3)).trans b3
      have e1 : ((t : Int) + 1).toNat = t + 1 := by omega
      have e2 : (0 : Int) ≤ (t : Int) + 1 := by omega
      have e3 : (t : Int) + 1 < (n : Int) := hzn
      have e4 : (t : Int) < (n : Int) := by omega
      have e5 : IntKind.i64.wrap ((t : Int) + 1 - 1) = (t : Int) := by rw [IntKind.wrap_i64]; omega
      clear a0 a1 a2 a3 b0 b1 b2 b3 c0 c1 c2 c3 d0 d1 d2 d3 hx hy hc hb hv ht1 ht0 HU
      by_cases hv0 : v < 0
      · have dv : decide (v < 0) = true := decide_eq_true hv0
        have HX : Hid (R = false) := Bool.eq_false_iff.2 fun h => HU1.out dv (HR.out.1 h)
        go_wp2_with fail
        refine wp_region_quietB wr.heap.size wr hmx (by kernel_rfl) (Below.refl _ _) ?_
        repeat (go_big_quiet_step ((go_at_fn F; with_reducible exact calls_quietB (KF.out _) (Nat.le_refl _))))
        refine wpQuiet_nil ?_
        intro _ hw'
        obtain ⟨pq, rfl⟩ := hw'
        go_wp2_with fail
        go_ret
        exact ⟨by rw [HX.out]; rfl, HB.out.trans (pq.ok.mono HB.out.size)⟩
      · have dv : decide (v < 0) = false := decide_eq_false hv0
        have HX := Lib.hid (HU0.out dv)
        go_wp2_with fail
        refine wp_region_quietB wr.heap.size wr hmx (by kernel_rfl) (Below.refl _ _) ?_
        repeat (go_big_quiet_step ((go_at_fn F; with_reducible exact calls_quietB (KF.out _) (Nat.le_refl _))))
        refine wpQuiet_nil ?_
        intro _ hw'
        obtain ⟨pq, rfl⟩ := hw'
        go_wp2_with fail
        exact ⟨⟨(t : Int), rfl, e4, by omega, HX.out, HB.out.trans (pq.ok.mono HB.out.size)⟩, by simp [intOf]⟩
    · have HX : Hid (R = true) := HR.out.2 (by have h := HU.out; rw [show z.toNat = 0 by omega] at h; exact h)
      go_wp2_with fail
      go_ret
      exact ⟨by rw [HX.out]; rfl, HB.out⟩
end Go.Proofs.Ytafbjadlklcicaa
