/- Match and Prefix of a pattern wherever its parts lie (as Map makes them). -/
import Derived.Test.YtjeccmmhmdgdgaaGreatDoorGlHd0
import Derived.Test.YtjeccmmhmdgdgaaGreatDoorGlUmap
namespace Go.Proofs.YtjeccmmhmdgdgaaGreatDoor
open Go.RowKit
set_option maxRecDepth 100000

/-- The pattern at R, wherever its parts lie. -/
def GlobW (w : World) (R : Nat) (ps : List GP) : Prop := R < w.heap.size ∧ ∃ A c, w.cell? ⟨R, 0, none⟩ = some (.slice A ps.length c) ∧ ps.length ≤ c ∧ c ≤ maxLen ∧ CS w w.heap.size A (gpCells ps)
theorem GlobAt.w {w : World} {B R : Nat} {ps : List GP} (h : GlobAt w B R ps) : GlobW w R ps := by
  obtain ⟨hBR, hR, hfR, v, hcR, hown⟩ := h
  obtain ⟨A, c, rfl, hac, hcm, hcs, hob⟩ := own_form hown
  exact ⟨hR, A, c, hcR, hac, hcm, hcs⟩
theorem CS.up1 {w W : World} {A : Option Addr} {xs : List Value} (h : CS w w.heap.size A xs) (hb : Below w.heap.size w W) : CS W W.heap.size A xs := (h.below hb).more hb.size
theorem GlobW.keep {w w' : World} {R : Nat} {ps : List GP} (h : GlobW w R ps) (hb : Below w.heap.size w w') : GlobW w' R ps := by
  obtain ⟨hR, A, c, hcR, hac, hcm, hcs⟩ := h
  exact ⟨Nat.lt_of_lt_of_le hR hb.size, A, c, (hb.cell (p := ⟨R, 0, none⟩) hR).trans hcR, hac, hcm, hcs.up1 hb⟩
set_option maxHeartbeats 4000000 in
theorem match_w (rs : List Nat) (hs : allSign rs) (hl : rs.length ≤ 100000) (ps : List GP) (hps : ps.length ≤ 200) (hok : okGP ps) (R : Nat) (w : World) (hT : UT w) (hG : GlobW w R ps) :
    Calls Tryz.prog 22 #[.pointer (some ⟨R, 0, none⟩), .string (strOf (encAll rs))] w fun e w' => e = .returned (.bool (matchB ps (rs.map fun r : Nat => (r : Int)))) ∧ Below w.heap.size w w' := by
  have HV := Lib.hid (valid_all rs hs)
  have hlen := encAll_len4 rs
  obtain ⟨hR, A, c, hcR, hac, hcm, hcs⟩ := hG
  have HS := Lib.hid hs
  have HT := Lib.hid hT
  have HOK := Lib.hid hok
  obtain ⟨n, hn⟩ : ∃ n, n = rs.length := ⟨_, rfl⟩
  have HN := Lib.hid hn
  have hnb : n ≤ 100000 := by omega
  obtain ⟨N, hNp⟩ : ∃ N, N = ps.length := ⟨_, rfl⟩
  have HNP := Lib.hid hNp
  rw [← hNp] at hps hcR hac
  unfold maxLen at hcm
  clear hs hT hok hn hl hlen hNp
  go_enter Tryz.func22, Tryz.ntmps22
  go_wp2_with fail
  with_reducible refine (right_is _ _ HV _ HT.out (by have := encAll_len4 rs; have := HN.out; omega)).mono ?_
  rintro e w1 ⟨rfl, b1⟩
  have hc1 : w1.cell? ⟨R, 0, none⟩ = some (.slice A N c) := (b1.cell (p := ⟨R, 0, none⟩) hR).trans hcR
  have hsz1 := b1.size
  obtain ⟨cs, w2, hr, hcs2, b2, hs2, hsig⟩ := run_runes w1 rs HS.out (by have := HN.out; omega)
  rw [← HN.out] at hr hcs2 hsig
  have hR1 : R < w1.heap.size := Nat.lt_of_lt_of_le hR hsz1
  have hc2 : w2.cell? ⟨R, 0, none⟩ = some (.slice A N c) := (b2.cell (p := ⟨R, 0, none⟩) hR1).trans hc1
  have HSIG := Lib.hid hsig
  have hltR : R < w2.heap.size := by omega
  obtain ⟨w3, hmk, hrow3, b3, hs3⟩ := run_ends w2 n hnb
  have hc3 : w3.cell? ⟨R, 0, none⟩ = some (.slice A N c) := (b3.cell (p := ⟨R, 0, none⟩) hltR).trans hc2
  have h00 := World.rowIs.cell hrow3 (i := 0) (by omega)
  have hf00 := World.rowIs.frozen hrow3 0
  have hneg : (⟨w2.heap.size, 0, none⟩ : Addr) ≠ ⟨R, 0, none⟩ := by intro e; injection e; omega
  clear hsig
  go_wp2_with fail
  have hg1 := gb_set (gb_refl w3 (some w2.heap.size)) 0 (.bool true)
  have hrow4 : bRow (w3.setCell ⟨w2.heap.size, 0, none⟩ (.bool true)) w2.heap.size (n + 1) (fun i => i == 0) := (bRow.set hrow3 0 true).congr fun i _ => by
    by_cases e : i = 0
    · subst e; rfl
    · rw [if_neg e]; exact (beq_eq_false_iff_ne.2 e).symm
  have b12 : Below w.heap.size w w2 := b1.trans (b2.mono hsz1)
  have b13 : Below w.heap.size w w3 := b12.trans (b3.mono b12.size)
  have hwg : w.heap.size ≤ w2.heap.size := b12.size
  have HSIG3 : Hid (∀ k, k < n → w3.cell? ⟨w1.heap.size, 0 + k, none⟩ = some (.int .i32 ((rs.map fun r : Nat => (r : Int)).getD k 0))) := fun k hk => (b3.cell (p := ⟨w1.heap.size, 0 + k, none⟩) hs2).trans (HSIG.out k hk)
  have hs13 : w1.heap.size < w3.heap.size := by omega
  have hne12 : w1.heap.size ≠ w2.heap.size := by omega
  clear hc1 hr hc2 hmk hc3 h00 hf00 hneg HSIG hrow3 hcR b1 b2 b3 b12
  go_loopw [29] (fun i wr => ∃ k : Nat, k ≤ N ∧ i = .int .i64 k ∧ bRow wr w2.heap.size (n + 1) (endsE (ps.take k) (rs.map fun r : Nat => (r : Int))) ∧ w3.grownBy wr (some w2.heap.size)) (fun i _ => N - (intOf i).toNat)
  case atStart => exact ⟨0, Nat.zero_le _, rfl, hrow4, hg1⟩
  case round =>
    obtain ⟨k, hk, rfl, hrw, hgr⟩ := hrel
    clear hrow4 hg1
    by_cases hlt : k < N
    · have hkl : k < ps.length := by rw [← HNP.out]; exact hlt
      obtain ⟨pb, po, rfl, hpb, hcell⟩ := hcs (by rw [gpCells_len]; omega)
      obtain ⟨q0, q1, q2, q3⟩ := gpCells_at ps k hkl
      have hob2 := HOK.out ps[k] (List.getElem_mem hkl)
      have HX : Hid (endsE (ps.take (k + 1)) (rs.map fun r : Nat => (r : Int)) = stepE ps[k] (rs.map fun r : Nat => (r : Int)) (endsE (ps.take k) (rs.map fun r : Nat => (r : Int)))) := by
        show _ = _
        rw [List.take_succ_eq_append_getElem hkl, endsE_snoc]
      have tr : ∀ o u, w.cell? ⟨pb, o, none⟩ = some u → wr.cell? ⟨pb, o, none⟩ = some u := fun o u h => (gb_cell hgr (by have := b13.size; omega) (by omega)).trans ((b13.cell (p := ⟨pb, o, none⟩) hpb).trans h)
      have m0 : wr.cell? ⟨pb, po + k * 4, none⟩ = _ := tr _ _ (hcell _ _ q0)
      have m1 : wr.cell? ⟨pb, po + k * 4 + 1, none⟩ = _ := tr _ _ (hcell _ _ q1)
      have m2 : wr.cell? ⟨pb, po + k * 4 + 2, none⟩ = _ := tr _ _ (hcell _ _ q2)
      have m3 : wr.cell? ⟨pb, po + k * 4 + 3, none⟩ = _ := tr _ _ (hcell _ _ q3)
      clear q0 q1 q2 q3 tr hcell
      generalize ps[k] = p at *
      obtain ⟨d, sg, lo, hi⟩ := p
      simp only at m0 m1 m2 m3 hob2
      generalize endsE (ps.take k) (rs.map fun r : Nat => (r : Int)) = E at *
      have hrA : bRow (wr.alloc (.cells #[.bool d, .int .i32 sg, .int .i64 lo, .int .i64 hi] 68)) w2.heap.size (n + 1) E := World.rowIs.alloc hrw _
      have hgA := gb_alloc hgr (.cells #[.bool d, .int .i32 sg, .int .i64 lo, .int .i64 hi] 68)
      have hltw : w1.heap.size < wr.heap.size := Nat.lt_of_lt_of_le hs13 hgr.size
      have HSA : Hid (∀ j, j < n → (wr.alloc (.cells #[.bool d, .int .i32 sg, .int .i64 lo, .int .i64 hi] 68)).cell? ⟨w1.heap.size, 0 + j, none⟩ = some (.int .i32 ((rs.map fun r : Nat => (r : Int)).getD j 0))) := fun j hj => by
        rw [World.cell?_alloc_past _ _ _ hltw, gb_cell hgr hs13 hne12]; exact HSIG3.out j hj
      have HHA := Lib.hid hgA
      clear hgr hrw hgA
      cases d
      · have HX2 : Hid (endsE (ps.take (k + 1)) (rs.map fun r : Nat => (r : Int)) = stepS (rs.map fun r : Nat => (r : Int)) sg E) := HX.out
        clear HX
        go_wp2_with fail
        refine (passSign_any false sg lo hi w2.heap.size n cs w1.heap.size 0 E (rs.map fun r : Nat => (r : Int)) _ (by omega) hrA (by simp; omega) hne12 HSA).mono ?_
        rintro e w5 ⟨rfl, hr5, hg5⟩
        have hg5' := gb_trans HHA.out hg5
        clear hg5
        go_wp2_with fail
        exact ⟨⟨k + 1, by omega, by go_num, by rw [HX2.out]; exact hr5, hg5'⟩, by simp [intOf]; omega⟩
      · have HX2 : Hid (endsE (ps.take (k + 1)) (rs.map fun r : Nat => (r : Int)) = stepA lo hi E) := HX.out
        clear HX
        go_wp2_with fail
        refine (passAny_any true sg lo hi w2.heap.size n E _ hob2.1 hob2.2 (by omega) hrA).mono ?_
        rintro e w5 ⟨rfl, hr5, hg5⟩
        have hg5' := gb_trans HHA.out hg5
        clear hg5
        go_wp2_with fail
        exact ⟨⟨k + 1, by omega, by go_num, by rw [HX2.out]; exact hr5, hg5'⟩, by simp [intOf]; omega⟩
    · have hke : ps.take k = ps := List.take_of_length_le (by rw [← HNP.out]; omega)
      rw [hke] at hrw
      have hcn := World.rowIs.cell hrw (i := n) (by omega)
      have HM : Hid (matchB ps (rs.map fun r : Nat => (r : Int)) = endsE ps (rs.map fun r : Nat => (r : Int)) n) := by show _ = _; unfold matchB; rw [List.length_map, ← HN.out]
      have bf : Below w.heap.size w wr := b13.grown hgr b13.size fun j hj => by cases hj; exact hwg
      clear hke hrw hgr
      go_wp2_with fail
      go_ret
      exact ⟨by rw [HM.out]; rfl, bf⟩

set_option maxHeartbeats 4000000 in
theorem prefix_w (ps : List GP) (hps : ps.length ≤ 200) (R : Nat) (w : World) (hG : GlobW w R ps) :
    Calls Tryz.prog 39 #[.pointer (some ⟨R, 0, none⟩)] w fun e w' => e = .returned (.string (strOf (prefL ps))) ∧ Below w.heap.size w w' := by
  obtain ⟨hR, A, c, hcR, hac, hcm, hcs⟩ := hG
  unfold maxLen at hcm
  obtain ⟨N, hNp⟩ : ∃ N, N = ps.length := ⟨_, rfl⟩
  have HNP := Lib.hid hNp
  rw [← hNp] at hps hcR hac
  clear hNp
  go_enter Tryz.func39, Tryz.ntmps39
  go_wp2_with fail
  go_loopw [3, 13] (fun b i wr => ∃ (k : Nat) (d : List UInt8), k ≤ N ∧ i = .int .i64 k ∧ Own8 wr w.heap.size 5 b d ∧ d.length ≤ 4 * k ∧ Hid (prefL ps = d ++ prefL (ps.drop k)) ∧ Below w.heap.size w wr) (fun _ i _ => N - (intOf i).toNat)
  case atStart => exact ⟨0, [], Nat.zero_le _, rfl, Own8.nil _ _ _, by simp, rfl, Below.refl _ _⟩
  case round =>
    obtain ⟨k, d, hk, rfl, hown, hdl, HP, hbel⟩ := hrel
    have fin : ∀ (wf : World), Own8 wf w.heap.size 5 u3 d → ∃ A3 c3 m3, u3 = .slice A3 m3 c3 ∧ (convert 78 9 (.slice A3 m3 c3)).run Tryz.prog wf = .ok (.string (strOf d)) wf := fun wf h => by
      obtain ⟨A3, c3, e, _, _, hbs, _⟩ := h.form
      exact ⟨A3, c3, d.length, e, hbs.conv d.length c3 rfl⟩
    by_cases hlt : k < N
    · have hkl : k < ps.length := by rw [← HNP.out]; exact hlt
      obtain ⟨pb, po, rfl, hpb, hcell⟩ := hcs (by rw [gpCells_len]; omega)
      obtain ⟨q0, q1, q2, q3⟩ := gpCells_at ps k hkl
      have HX : Hid (prefL (ps.drop k) = if ps[k].1 then [] else putL ps[k].2.1 ++ prefL (ps.drop (k + 1))) := by
        show _ = _
        rw [List.drop_eq_getElem_cons hkl]; rfl
      have tr : ∀ o u, w.cell? ⟨pb, o, none⟩ = some u → wr.cell? ⟨pb, o, none⟩ = some u := fun o u h => (hbel.cell (p := ⟨pb, o, none⟩) hpb).trans h
      have m0 : wr.cell? ⟨pb, po + k * 4, none⟩ = _ := tr _ _ (hcell _ _ q0)
      have m1 : wr.cell? ⟨pb, po + k * 4 + 1, none⟩ = _ := tr _ _ (hcell _ _ q1)
      have m2 : wr.cell? ⟨pb, po + k * 4 + 2, none⟩ = _ := tr _ _ (hcell _ _ q2)
      have m3 : wr.cell? ⟨pb, po + k * 4 + 3, none⟩ = _ := tr _ _ (hcell _ _ q3)
      clear q0 q1 q2 q3 tr hcell
      generalize ps[k] = p at *
      obtain ⟨dt, sg, lo, hi⟩ := p
      simp only at m0 m1 m2 m3 HX
      have hbelA : Below w.heap.size w (wr.alloc (.cells #[.bool dt, .int .i32 sg, .int .i64 lo, .int .i64 hi] 68)) := hbel.alloc hbel.size _
      have hownA : Own8 (wr.alloc (.cells #[.bool dt, .int .i32 sg, .int .i64 lo, .int .i64 hi] 68)) w.heap.size 5 u3 d := hown.below ((Below.refl _ _).alloc (Nat.le_refl _) _)
      have hszA : w.heap.size ≤ (wr.alloc (.cells #[.bool dt, .int .i32 sg, .int .i64 lo, .int .i64 hi] 68)).heap.size := hbelA.size
      cases dt
      · have HX2 : Hid (prefL ps = (d ++ putL sg) ++ prefL (ps.drop (k + 1))) := by show _ = _; rw [HP.out, HX.out, List.append_assoc]; rfl
        have hpl := putL_len sg
        clear HX HP fin
        go_wp2_with fail
        refine (uput_all _ d w.heap.size sg _ hownA hszA (by omega)).mono ?_
        rintro e w4 ⟨v4, rfl, hown4, hg4⟩
        have hbel4 := hownA.grow (Nat.le_refl _) hbelA hszA hg4
        clear hownA hg4 hown
        go_wp2_with fail
        exact ⟨⟨k + 1, d ++ putL sg, by omega, by go_num, hown4, by simp; omega, HX2, hbel4⟩, by simp [intOf]; omega⟩
      · have HX2 : Hid (prefL ps = d) := by show _ = _; rw [HP.out, HX.out]; simp
        obtain ⟨A3, c3, m3', rfl, hcv⟩ := fin _ hownA
        clear HX HP fin hownA hown
        go_wp2_with fail
        go_ret
        exact ⟨by rw [HX2.out]; rfl, hbelA⟩
    · have HX2 : Hid (prefL ps = d) := by
        show _ = _
        rw [HP.out, List.drop_eq_nil_of_le (by rw [← HNP.out]; omega)]
        simp [prefL]
      obtain ⟨A3, c3, m3', rfl, hcv⟩ := fin _ hown
      clear HP fin hown
      go_wp2_with fail
      go_ret
      exact ⟨by rw [HX2.out]; rfl, hbel⟩

theorem match_iw (rs : List Nat) (ps : List GP) (b : Bool) (h : Hid (allSign rs ∧ rs.length ≤ 100000 ∧ okGP ps ∧ ps.length ≤ 200 ∧ matchB ps (rs.map fun r : Nat => (r : Int)) = b)) (R : Nat) (w : World) (hT : UT w) (hG : GlobW w R ps) :
    Calls Tryz.prog 22 #[.pointer (some ⟨R, 0, none⟩), .string (strOf (encAll rs))] w fun e w' => e = .returned (.bool b) ∧ Below w.heap.size w w' := by
  obtain ⟨h1, h2, h3, h4, h5⟩ := h.out
  subst h5
  exact match_w rs h1 h2 ps h4 h3 R w hT hG
theorem prefix_iw (ps : List GP) (q : List UInt8) (h : Hid (prefL ps = q ∧ ps.length ≤ 200)) (R : Nat) (w : World) (hG : GlobW w R ps) :
    Calls Tryz.prog 39 #[.pointer (some ⟨R, 0, none⟩)] w fun e w' => e = .returned (.string (strOf q)) ∧ Below w.heap.size w w' := by
  obtain ⟨h1, h2⟩ := h.out
  subst h1
  exact prefix_w ps h2 R w hG
end Go.Proofs.YtjeccmmhmdgdgaaGreatDoor
