/- The law's choose. -/
import Derived.Test.YtcgoeokocabelaaMaTi
namespace Go.Proofs.Ytcgoeokocabelaa
open Go.RowKit
set_option maxRecDepth 100000

/-- What choose appends. -/
def chA (a : List Mt) (so : Mt) (n lo : Nat) : List Mt := (allF a.length n lo).map fun c => c.foldl (joinI a) so
theorem chA_zero (a : List Mt) (so : Mt) (lo : Nat) : chA a so 0 lo = [so] := rfl
theorem chA_end (a : List Mt) (so : Mt) (n lo : Nat) (h : a.length ≤ lo) : chA a so (n + 1) lo = [] := by
  unfold chA
  rw [allF_succ, show a.length - lo = 0 by omega]
  rfl
theorem chA_step (a : List Mt) (so : Mt) (n lo : Nat) (h : lo < a.length) : chA a so (n + 1) lo = chA a (joinI a so lo) n (lo + 1) ++ chA a so (n + 1) (lo + 1) := by
  unfold chA
  rw [allF_succ, show a.length - lo = (a.length - (lo + 1)) + 1 by omega, List.range'_succ, List.flatMap_cons, List.map_append, List.map_map, allF_succ]
  rfl
theorem chA_some (a : List Mt) (k : Nat) : chA a ([], []) k 0 = someL a k := rfl
theorem allF_cnt : ∀ of : Fin 8, ∀ n : Fin 8, ∀ lo : Fin 9, (allF of.val n.val lo.val).length ≤ 35 := by decide +kernel
theorem gb_trans {w0 w1 w2 : World} {r r' : Option Nat} (h : w0.grownBy w1 r) (k : w1.grownBy w2 r') (hr : r' = r ∨ ∃ b, r' = some b ∧ w0.heap.size ≤ b) : w0.grownBy w2 r := by
  obtain ⟨a1, a2, a3, a4, a5⟩ := h
  obtain ⟨b1, b2, b3, b4, b5⟩ := k
  refine ⟨b1.trans a1, b2.trans a2, b3.trans a3, Nat.le_trans a4 b4, fun g hg hne => (b5 g (by omega) (fun e => ?_)).trans (a5 g hg hne)⟩
  rcases hr with hr | ⟨b, hr, hb⟩
  · exact hne (by rw [← hr]; exact e)
  · rw [hr] at e
    injection e with e
    omega
theorem gb_below {w w' : World} (h : Below w.heap.size w w') (r : Option Nat) : w.grownBy w' r := by
  obtain ⟨a1, a2, a3, a4, a5⟩ := h
  exact ⟨a1, a2, a3, a4, fun k hk _ => a5 k hk⟩
/-- What choose leaves: the list is longer; of what lay there just its own row grew. -/
def ChQ (w0 w1 : World) (v : Value) (L : List Mt) (e : Ending) (w' : World) : Prop := ∃ v' zs', e = .returned v' ∧ MK w0 w' v' zs' L ∧ w1.grownBy w' v.ownBlock ∧ (v'.ownBlock = v.ownBlock ∨ ∃ b, v'.ownBlock = some b ∧ w1.heap.size ≤ b)
set_option maxHeartbeats 1000000 in
theorem choose_zero (A : Option Addr) (nA cA : Nat) (l : Int) (so : Mt) (S0 S1 : Option Addr) (m0 e0 m1 e1 : Nat) (v : Value) (zs : List (Value × Value)) (ms : List Mt) (w0 w1 w : World) (HM : Hid (MK w0 w1 v zs ms)) (HB : Hid (Below w1.heap.size w1 w)) (hl : ms.length ≤ 100000)
    (h0 : SV w w.heap.size (.slice S0 m0 e0) so.1) (h1 : SV w w.heap.size (.slice S1 m1 e1) so.2) (f0 : Fr w1.heap.size (.slice S0 m0 e0)) (f1 : Fr w1.heap.size (.slice S1 m1 e1)) :
    Calls Try.prog 45 #[.slice A nA cA, .int .i64 l, .int .i64 0, .agg #[.slice S0 m0 e0, .slice S1 m1 e1], v] w (ChQ w0 w1 v (ms ++ [so])) := by
  obtain ⟨Y, hY⟩ : ∃ Y, w.alloc (.cells #[.slice S0 m0 e0, .slice S1 m1 e1] 34) = Y := ⟨_, rfl⟩
  obtain ⟨X, hX⟩ : ∃ X, Y.alloc (.cells #[.slice S0 m0 e0, .slice S1 m1 e1] 34) = X := ⟨_, rfl⟩
  have bY : Below w.heap.size w Y := by rw [← hY]; exact (Below.refl _ _).alloc (Nat.le_refl _) _
  have sY : Y.heap.size = w.heap.size + 1 := by rw [← hY]; simp
  have bX : Below Y.heap.size Y X := by rw [← hX]; exact (Below.refl _ _).alloc (Nat.le_refl _) _
  have bwX := bY.trans (bX.mono bY.size)
  have b1X := HB.out.trans (bwX.mono HB.out.size)
  have HCN : Hid (CS X X.heap.size (some ⟨w.heap.size + 1, 0, none⟩) [.slice S0 m0 e0, .slice S1 m1 e1]) := by
    have h := cells_new Y #[.slice S0 m0 e0, .slice S1 m1 e1] 34 X.heap.size (by rw [← hX]; simp)
    rw [hX, sY] at h
    exact h
  have HX0 : Hid ((w.alloc (.cells #[.slice S0 m0 e0, .slice S1 m1 e1] 34)).alloc (.cells #[.slice S0 m0 e0, .slice S1 m1 e1] 34) = X) := by show _ = _; rw [hY, hX]
  obtain ⟨L, hL⟩ : ∃ L, L = zs.length := ⟨_, rfl⟩
  have hLl : L ≤ 100000 := by rw [hL, HM.out.mz.len]; exact hl
  have HOX : Hid (X.ownsRow w0.heap.size 34 2 v L (zC zs)) := by rw [hL]; exact own_below HM.out.own b1X
  have HSX := Lib.hid (And.intro (h0.up bwX) (And.intro (h1.up bwX) (And.intro f0 (And.intro f1 b1X))))
  have hbs : w0.heap.size ≤ X.heap.size := by have := HM.out.kb.size; have := b1X.size; omega
  have HL := Lib.hid hL
  obtain ⟨A6, c6, rfl, _⟩ := own_form HM.out.own
  rw [← hL] at HM ⊢ HOX
  clear h0 h1 f0 f1 hY hX bY sY bX bwX b1X hL
  go_enter Try.func45, Try.ntmps45
  go_wp2_with (at_builtin; (rw [HX0.out]; refine wpList_appR elMt X rfl (.tmp 14) (.tmp 16) rfl w0.heap.size (.slice A6 L c6) L (zC zs) rfl HOX.out (some ⟨w.heap.size + 1, 0, none⟩) 1 1 X.heap.size [.slice S0 m0 e0, .slice S1 m1 e1] rfl rfl (fun u hu => by simp at hu; rcases hu with rfl | rfl <;> rfl) HCN.out (L + 1) rfl (by omega) hbs ?_; intro v4 w4 hown4 hg4 hv4; rw [HL.out] at hown4; have HM4 := Lib.hid (HM.out.app HSX.out.2.2.2.2 (.slice S0 m0 e0, .slice S1 m1 e1) so HSX.out.1 HSX.out.2.1 HSX.out.2.2.1 HSX.out.2.2.2.1 hown4 hg4 hv4); have HG4 := Lib.hid (And.intro hg4 hv4); clear hown4 hg4 hv4))
  obtain ⟨A4, c4, rfl, _⟩ := own_form HM4.out.own
  go_ret
  exact ⟨_, _, rfl, HM4.out, gb_trans (gb_below HSX.out.2.2.2.2 _) HG4.out.1 (.inl rfl), HG4.out.2.imp id fun h => ⟨_, h, HSX.out.2.2.2.2.size⟩⟩
/-- What is chosen so far lies away from the list. -/
structure SoK (wr : World) (D : Nat) (S0 S1 : Option Addr) (m0 e0 m1 e1 : Nat) (so : Mt) (v : Value) : Prop where
  bx : Bx2 wr D (.slice S0 m0 e0) (.slice S1 m1 e1) v
  s0 : SV wr wr.heap.size (.slice S0 m0 e0) so.1
  s1 : SV wr wr.heap.size (.slice S1 m1 e1) so.2
  a0 : At (fun g => some g ≠ v.ownBlock) (.slice S0 m0 e0)
  a1 : At (fun g => some g ≠ v.ownBlock) (.slice S1 m1 e1)
theorem SoK.grown {wr w' : World} {D : Nat} {S0 S1 : Option Addr} {m0 e0 m1 e1 : Nat} {so : Mt} {v v' : Value} (h : SoK wr D S0 S1 m0 e0 m1 e1 so v) (hg : wr.grownBy w' v.ownBlock) (hv : v'.ownBlock = v.ownBlock ∨ ∃ b, v'.ownBlock = some b ∧ wr.heap.size ≤ b) : SoK w' D S0 S1 m0 e0 m1 e1 so v' := by
  have same : ∀ g, some g ≠ v.ownBlock → g < wr.heap.size → w'.heap[g]? = wr.heap[g]? ∧ g < w'.heap.size := fun g h1 h2 => ⟨hg.block g h2 h1, Nat.lt_of_lt_of_le h2 hg.size⟩
  have nv : ∀ g, g < wr.heap.size → some g ≠ v.ownBlock → some g ≠ v'.ownBlock := fun g h1 h2 e => by
    rcases hv with hv | ⟨b, hv, hb⟩
    · exact h2 (by rw [← hv]; exact e)
    · rw [hv] at e
      injection e with e
      omega
  have hD := hg.block D h.bx.lt (fun e => h.bx.ne e.symm)
  refine ⟨⟨?_, ?_, fun e => nv D h.bx.lt (fun e => h.bx.ne e.symm) e.symm⟩, h.s0.move h.a0 same, h.s1.move h.a1 same, (h.a0.and h.s0.lt).imp fun g hg => nv g hg.2 hg.1, (h.a1.and h.s1.lt).imp fun g hg => nv g hg.2 hg.1⟩
  · have := h.bx.c0; simp only [World.cell?, hD] at this ⊢; exact this
  · have := h.bx.c1; simp only [World.cell?, hD] at this ⊢; exact this
def ChAt (n : Nat) (A : Option Addr) (nA cA : Nat) (a : List Mt) (w0 : World) : Prop :=
  ∀ (l : Int) (lo : Nat) (so : Mt) (S0 S1 : Option Addr) (m0 e0 m1 e1 : Nat) (v : Value) (zs : List (Value × Value)) (ms : List Mt) (w1 w : World), Hid (l = (lo : Int)) → lo ≤ nA → Hid (MK w0 w1 v zs ms) → Hid (Below w1.heap.size w1 w) → ms.length + (chA a so n lo).length ≤ 10000 → m0 + 100 * n ≤ 5000 → m1 + 100 * n ≤ 5000 →
    SV w w.heap.size (.slice S0 m0 e0) so.1 → SV w w.heap.size (.slice S1 m1 e1) so.2 → Fr w1.heap.size (.slice S0 m0 e0) → Fr w1.heap.size (.slice S1 m1 e1) →
    Calls Try.prog 45 #[.slice A nA cA, .int .i64 l, .int .i64 (n : Int), .agg #[.slice S0 m0 e0, .slice S1 m1 e1], v] w (ChQ w0 w1 v (ms ++ chA a so n lo))
set_option maxHeartbeats 8000000 in
theorem choose_step (n : Nat) (A : Option Addr) (nA cA : Nat) (a : List Mt) (w0 : World) (hn : n ≤ 20) (HN : Hid (nA = a.length)) (hA7 : nA ≤ 1000) (HM : Hid (∀ m ∈ a, m.1.length ≤ 100 ∧ m.2.length ≤ 100)) (HA : Hid (MS w0 w0.heap.size A a)) (IH : Hid (ChAt n A nA cA a w0)) : ChAt (n + 1) A nA cA a w0 := by
  intro l lo so S0 S1 m0 e0 m1 e1 v zs ms w1 w HLO hlo HK HB hlen hm0 hm1 h0 h1 f0 f1
  obtain ⟨X, hX⟩ : ∃ X, w.alloc (.cells #[.slice S0 m0 e0, .slice S1 m1 e1] 34) = X := ⟨_, rfl⟩
  have bX : Below w.heap.size w X := by rw [← hX]; exact (Below.refl _ _).alloc (Nat.le_refl _) _
  obtain ⟨x0, x1⟩ := box2 w (.slice S0 m0 e0) (.slice S1 m1 e1) 34
  rw [hX] at x0 x1
  have b1X := HB.out.trans (bX.mono HB.out.size)
  obtain ⟨_, _, _, _, _, _, hob⟩ := own_form HK.out.own
  have hw1 := HB.out.size
  have HD : Hid (∃ D, D = w.heap.size ∧ SoK X D S0 S1 m0 e0 m1 e1 so v) := ⟨_, rfl, ⟨x0, x1, fun e => by have := (hob _ e).2; omega⟩, h0.up bX, h1.up bX, f0.imp fun g hg e => (by have := (hob _ e.symm).2; omega), f1.imp fun g hg e => (by have := (hob _ e.symm).2; omega)⟩
  obtain ⟨D, hDe, HS⟩ := HD.out
  have HS0 := Lib.hid HS
  have HK0 := Lib.hid (HK.out.below b1X)
  have HG0 : Hid (w1.grownBy X v.ownBlock ∧ w1.heap.size ≤ X.heap.size) := ⟨gb_below b1X _, b1X.size⟩
  obtain ⟨m, hm⟩ : ∃ m, m = n + 1 := ⟨_, rfl⟩
  have hmz : ((m : Int) == 0) = false := beq_eq_false_iff_ne.2 (by omega)
  have hmw : IntKind.i64.wrap ((m : Int) - 1) = (n : Int) := by rw [IntKind.wrap_i64]; omega
  have hl := HLO.out
  subst hl
  obtain ⟨R, hR⟩ : ∃ R, R = ms ++ chA a so (n + 1) lo := ⟨_, rfl⟩
  have hRl : R.length ≤ 10000 := by rw [hR, List.length_append]; exact hlen
  rw [← hR]
  have HR := Lib.hid hR
  obtain ⟨vo, hvo⟩ : ∃ vo, vo = v.ownBlock := ⟨_, rfl⟩
  rw [← hm]
  have HX := Lib.hid hX
  have HDe := Lib.hid hDe
  have HVO := Lib.hid hvo
  have HCQ : Hid (∀ v' zs' w', MK w0 w' v' zs' R → w1.grownBy w' vo → (v'.ownBlock = vo ∨ ∃ b, v'.ownBlock = some b ∧ w1.heap.size ≤ b) → ChQ w0 w1 v R (.returned v') w') := fun v' zs' w' g1 g2 g3 => ⟨v', zs', rfl, g1, by rw [← HVO.out]; exact g2, by rw [← HVO.out]; exact g3⟩
  obtain ⟨Q, hQ⟩ : ∃ Q, Q = ChQ w0 w1 v R := ⟨_, rfl⟩
  rw [← hQ] at HCQ ⊢
  rw [← hvo] at HG0
  obtain ⟨A4, c4, e4, _⟩ := own_form HK.out.own
  obtain ⟨L4, hL4⟩ : ∃ L, L = zs.length := ⟨_, rfl⟩
  rw [← hL4] at e4
  have HV0 : Hid (v.ownBlock = vo) := hvo.symm
  have HL4 := Lib.hid hL4
  subst e4
  clear hX bX x0 x1 b1X hob HD HS hlen h0 h1 f0 f1 hm hR hvo hQ hL4 hDe
  go_enter Try.func45, Try.ntmps45
  go_wp2_with fail
  rw [HX.out, ← HDe.out]
  go_loopw [4, 11] (fun s4 i wr => ∃ (k : Nat) (v : Value) (zs : List (Value × Value)) (cur : List Mt), k ≤ nA ∧ i = .int .i64 k ∧ v = s4 ∧ Hid (MK w0 wr v zs cur) ∧ Hid (cur ++ chA a so (n + 1) k = R) ∧ Hid (SoK wr D S0 S1 m0 e0 m1 e1 so v) ∧ Hid (w1.grownBy wr vo ∧ w1.heap.size ≤ wr.heap.size) ∧ Hid (v.ownBlock = vo ∨ ∃ b, v.ownBlock = some b ∧ w1.heap.size ≤ b)) (fun _ i _ => nA - (intOf i).toNat)
  case atStart => exact ⟨lo, _, zs, ms, hlo, rfl, rfl, HK0, HR.out.symm, HS0, HG0, .inl HV0.out⟩
  case round =>
    obtain ⟨k, u, ys, cur, hk, rfl, rfl, HQ, HE, HSO, HG, HV⟩ := hrel
    by_cases hlt : k < nA
    · have HLT := Lib.hid hlt
      have hka : k < a.length := by rw [← HN.out]; exact hlt
      obtain ⟨g, o, z0, z1, rfl, hgw, y0, y1, s0, s1⟩ := (HA.out.below HQ.out.kb).at_ k hka
      obtain ⟨T0, d0, rfl, _⟩ := id s0
      obtain ⟨T1, d1, rfl, _⟩ := id s1
      obtain ⟨hb0, hb1⟩ := HM.out _ (List.getElem_mem hka)
      have HJ : Hid (joinI a so k = (so.1 ++ a[k].1, so.2 ++ a[k].2)) := joinI_at a so k hka
      have HST : Hid (chA a so (n + 1) k = chA a (joinI a so k) n (k + 1) ++ chA a so (n + 1) (k + 1)) := chA_step a so n k hka
      obtain ⟨y, hy⟩ : ∃ y, y = a[k] := ⟨_, rfl⟩
      rw [← hy] at y0 y1 s0 s1 hb0 hb1 HJ
      obtain ⟨l0, hl0⟩ : ∃ l, l = y.1.length := ⟨_, rfl⟩
      obtain ⟨l1, hl1⟩ : ∃ l, l = y.2.length := ⟨_, rfl⟩
      rw [← hl0] at y0 s0 hb0
      rw [← hl1] at y1 s1 hb1
      obtain ⟨N0, hN0⟩ : ∃ N, m0 + l0 = N := ⟨_, rfl⟩
      obtain ⟨N1, hN1⟩ : ∃ N, m1 + l1 = N := ⟨_, rfl⟩
      have hkb := HQ.out.kb.size
      have HKC : Hid (∀ W, Below wr.heap.size wr W → (W.cell? ⟨D, 0, none⟩ = some (.slice S0 m0 e0) ∧ W.cell? ⟨D, 1, none⟩ = some (.slice S1 m1 e1)) ∧ W.cell? ⟨g, o + k * 2, none⟩ = some (.slice T0 l0 d0) ∧ W.cell? ⟨g, o + k * 2 + 1, none⟩ = some (.slice T1 l1 d1)) := fun W hW =>
        ⟨⟨(hW.cell HSO.out.bx.lt).trans HSO.out.bx.c0, (hW.cell HSO.out.bx.lt).trans HSO.out.bx.c1⟩, (hW.cell (p := ⟨g, o + k * 2, none⟩) (by show g < _; omega)).trans y0, (hW.cell (p := ⟨g, o + k * 2 + 1, none⟩) (by show g < _; omega)).trans y1⟩
      have HKG : Hid (∀ W, Below w0.heap.size w0 W → W.cell? ⟨g, o + k * 2, none⟩ = some (.slice T0 l0 d0) ∧ W.cell? ⟨g, o + k * 2 + 1, none⟩ = some (.slice T1 l1 d1)) := fun W hW => ⟨(hW.cell hgw).trans ((HQ.out.kb.cell hgw).symm.trans y0), (hW.cell hgw).trans ((HQ.out.kb.cell hgw).symm.trans y1)⟩
      have KB1 : Hid (∀ W, Below wr.heap.size wr W → Calls Try.prog 35 #[.slice S0 m0 e0, .slice T0 l0 d0] W fun e w' => ∃ A' c', e = .returned (.slice A' N0 c') ∧ SV w' w'.heap.size (.slice A' N0 c') (so.1 ++ y.1) ∧ Below wr.heap.size wr w' ∧ Below W.heap.size W w' ∧ Fr wr.heap.size (.slice A' N0 c')) := fun W hW =>
        (both_any S0 T0 m0 e0 l0 d0 N0 so.1 y.1 hN0 (by omega) W (HSO.out.s0.up hW) ((s0.more hkb).up hW)).mono fun e w' ⟨A', c', h1, h2, h3, h4⟩ => ⟨A', c', h1, h2, hW.trans (h3.mono hW.size), h3, h4.le hW.size⟩
      have KB2 : Hid (∀ W, Below wr.heap.size wr W → Calls Try.prog 35 #[.slice S1 m1 e1, .slice T1 l1 d1] W fun e w' => ∃ A' c', e = .returned (.slice A' N1 c') ∧ SV w' w'.heap.size (.slice A' N1 c') (so.2 ++ y.2) ∧ Below wr.heap.size wr w' ∧ Below W.heap.size W w' ∧ Fr wr.heap.size (.slice A' N1 c')) := fun W hW =>
        (both_any S1 T1 m1 e1 l1 d1 N1 so.2 y.2 hN1 (by omega) W (HSO.out.s1.up hW) ((s1.more hkb).up hW)).mono fun e w' ⟨A', c', h1, h2, h3, h4⟩ => ⟨A', c', h1, h2, hW.trans (h3.mono hW.size), h3, h4.le hW.size⟩
      have hcl : cur.length + (chA a (joinI a so k) n (k + 1)).length ≤ 10000 := by
        have h := congrArg List.length HE.out
        rw [HST.out, List.length_append, List.length_append] at h
        omega
      have KC : Hid (∀ W B0 q0 B1 q1, Below wr.heap.size wr W → SV W W.heap.size (.slice B0 N0 q0) (so.1 ++ y.1) → SV W W.heap.size (.slice B1 N1 q1) (so.2 ++ y.2) → Fr wr.heap.size (.slice B0 N0 q0) → Fr wr.heap.size (.slice B1 N1 q1) →
          Calls Try.prog 45 #[.slice (some ⟨g, o, none⟩) nA cA, .int .i64 ((k : Int) + 1), .int .i64 (n : Int), .agg #[.slice B0 N0 q0, .slice B1 N1 q1], u] W (ChQ w0 wr u (cur ++ chA a (joinI a so k) n (k + 1)))) := fun W B0 q0 B1 q1 hW v0 v1 g0 g1 =>
        IH.out ((k : Int) + 1) (k + 1) (joinI a so k) B0 B1 N0 q0 N1 q1 u ys cur wr W (by show _ = _; omega) HLT.out HQ hW hcl (by omega) (by omega) (by rw [HJ.out]; exact v0) (by rw [HJ.out]; exact v1) g0 g1
      have HLC := Lib.hid hcl
      have BR := Lib.hid (Below.refl wr.heap.size wr)
      have wk : IntKind.i64.wrap ((k : Int) + 1) = (k : Int) + 1 := by rw [IntKind.wrap_i64]; omega
      have hkI : (k : Int) < (nA : Int) := by omega
      clear y0 y1 s0 s1 hy hl0 hl1 hgw hN0 hN1 hcl
      go_wp2_with fail
      go_region_held3 (fun W => (W.cell? ⟨D, 0, none⟩ = some (.slice S0 m0 e0) ∧ W.cell? ⟨D, 1, none⟩ = some (.slice S1 m1 e1)) ∧ W.cell? ⟨g, o + k * 2, none⟩ = some (.slice T0 l0 d0) ∧ W.cell? ⟨g, o + k * 2 + 1, none⟩ = some (.slice T1 l1 d1))
        (first | exact HKC.out _ BR.out.drew | exact HKC.out _ b4 | exact HKC.out _ b5 | exact ⟨⟨hs6.bx.c0, hs6.bx.c1⟩, HKG.out _ hk6.kb⟩)
        (first
          | (go_at_call 35; (with_reducible refine (KB1.out _ BR.out.drew).mono ?_); rintro e w4 ⟨B0, q0, rfl, s4, b4, _, f4⟩)
          | (go_at_call 35; (with_reducible refine (KB2.out _ b4).mono ?_); rintro e w5 ⟨B1, q1, rfl, s5, b5, b45, f5⟩)
          | (go_at_call 45; (with_reducible refine (KC.out _ B0 q0 B1 q1 b5 (s4.up b45) s5 f4 f5).mono ?_); rintro e w6 ⟨v6, z6, rfl, hk6, hg6, hv6⟩; have hs6 := HSO.out.grown hg6 hv6))
      all_goals
        obtain ⟨A6, c6, rfl, _⟩ := own_form hk6.own
        have HK6 := Lib.hid hk6
        have HS6 := Lib.hid hs6
        have HG6 : Hid (w1.grownBy w6 vo ∧ w1.heap.size ≤ w6.heap.size) := ⟨gb_trans HG.out.1 hg6 HV.out, Nat.le_trans HG.out.2 hg6.size⟩
        have HV6 : Hid ((Value.slice A6 z6.length c6).ownBlock = vo ∨ ∃ b, (Value.slice A6 z6.length c6).ownBlock = some b ∧ w1.heap.size ≤ b) := by
          rcases hv6 with h | ⟨b, h, hb⟩
          · rcases HV.out with h2 | h2
            · exact .inl (h.trans h2)
            · rw [h]; exact .inr h2
          · exact .inr ⟨b, h, Nat.le_trans HG.out.2 hb⟩
        have HE6 : Hid ((cur ++ chA a (joinI a so k) n (k + 1)) ++ chA a so (n + 1) (k + 1) = R) := by show _ = _; rw [List.append_assoc, ← HST.out]; exact HE.out
        clear hk6 hs6 hg6 hv6 s4 s5 b4 b5 b45 f4 f5
        go_wp2_with fail
        exact ⟨⟨k + 1, _, z6, _, HLT.out, by go_num, rfl, HK6, HE6, HS6, HG6, HV6⟩, by have := HLT.out; simp [intOf]; omega⟩
    · obtain rfl : nA = k := by omega
      have HF : Hid (MK w0 wr u ys R) := by
        have h := HE.out
        rw [chA_end a so n nA (by rw [HN.out]; exact Nat.le_refl _), List.append_nil] at h
        rw [← h]
        exact HQ.out
      have HF2 := Lib.hid (HCQ.out u ys wr HF.out HG.out.1 HV.out)
      obtain ⟨A6, c6, rfl, _⟩ := own_form HF.out.own
      go_wp2_with fail
      exact HF2.out
theorem choose_any (A : Option Addr) (nA cA : Nat) (a : List Mt) (w0 : World) (HN : Hid (nA = a.length)) (hA7 : nA ≤ 1000) (HM : Hid (∀ m ∈ a, m.1.length ≤ 100 ∧ m.2.length ≤ 100)) (HA : Hid (MS w0 w0.heap.size A a)) : ∀ n, n ≤ 20 → ChAt n A nA cA a w0
  | 0, _ => fun l lo so S0 S1 m0 e0 m1 e1 v zs ms w1 w _ _ HK HB hlen _ _ h0 h1 f0 f1 => by
    rw [chA_zero] at hlen ⊢
    simp only [List.length_singleton] at hlen
    exact choose_zero A nA cA l so S0 S1 m0 e0 m1 e1 v zs ms w0 w1 w HK HB (by omega) h0 h1 f0 f1
  | n + 1, h => choose_step n A nA cA a w0 (by omega) HN hA7 HM HA (choose_any A nA cA a w0 HN hA7 HM HA n (by omega))
theorem choose_top (A : Option Addr) (nA cA k : Nat) (a : List Mt) (HN : Hid (nA = a.length)) (hA7 : nA ≤ 7) (hk : k ≤ 20) (HM : Hid (∀ m ∈ a, m.1.length ≤ 100 ∧ m.2.length ≤ 100)) (w : World) (hA : MS w w.heap.size A a) :
    Calls Try.prog 45 #[.slice A nA cA, .int .i64 0, .int .i64 (k : Int), .agg #[.slice none 0 0, .slice none 0 0], .slice none 0 0] w fun e w' => ∃ A' N c', e = .returned (.slice A' N c') ∧ N = (someL a k).length ∧ MS w' w'.heap.size A' (someL a k) ∧ Below w.heap.size w w' := by
  have h := choose_any A nA cA a w HN (by omega) HM hA k hk 0 0 ([], []) none none 0 0 0 0 (.slice none 0 0) [] [] w w rfl (Nat.zero_le _) (MK.nil w) (Below.refl _ _) (by rw [chA_some]; have := someL_few a k (by rw [← HN.out]; exact hA7); simp only [List.length_nil]; omega) (by omega) (by omega) (SV.nil _ _) (SV.nil _ _) (Fr.nil _ _ _) (Fr.nil _ _ _)
  rw [chA_some, List.nil_append] at h
  refine h.mono ?_
  rintro e w' ⟨v', zs', rfl, hk', _, _⟩
  obtain ⟨A', c', rfl, _, _, hm⟩ := hk'.out
  exact ⟨A', _, c', rfl, rfl, hm, hk'.kb⟩
end Go.Proofs.Ytcgoeokocabelaa
