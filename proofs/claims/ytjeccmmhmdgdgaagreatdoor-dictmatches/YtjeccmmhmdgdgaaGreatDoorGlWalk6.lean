/- Match of package glob. -/
import Derived.Test.YtjeccmmhmdgdgaaGreatDoorGlWalk5
namespace Go.Proofs.YtjeccmmhmdgdgaaGreatDoor
open Go.RowKit
set_option maxRecDepth 100000

def okGP (ps : List GP) : Prop := ∀ p ∈ ps, 0 ≤ p.2.2.1 ∧ p.2.2.1 ≤ 1000
theorem parse_ok : ∀ (f : Nat) (t : List UInt8) (acc ps : List GP), parseL f t acc = .ok ps → okGP acc → okGP ps
  | 0, t, acc, ps, h, ha => by rw [parseL] at h; cases h; exact ha
  | f + 1, t, acc, ps, h, ha => by
    rw [parseL] at h
    by_cases he : t = []
    · rw [if_pos he] at h; cases h; exact ha
    · rw [if_neg he] at h
      split at h
      · cases h
      · split at h
        · cases h
        · refine parse_ok f _ _ ps h fun p hp => ?_
          rcases List.mem_append.1 hp with hp | hp
          · exact ha p hp
          · obtain rfl : p = (firstL t).1 := by simpa using hp
            have := first_bd t he
            omega
theorem gpCells_at : ∀ (ps : List GP) (k : Nat) (h : k < ps.length), (gpCells ps)[k * 4]? = some (.bool ps[k].1) ∧ (gpCells ps)[k * 4 + 1]? = some (.int .i32 ps[k].2.1) ∧ (gpCells ps)[k * 4 + 2]? = some (.int .i64 ps[k].2.2.1) ∧ (gpCells ps)[k * 4 + 3]? = some (.int .i64 ps[k].2.2.2)
  | [], _, h => absurd h (by simp)
  | p :: t, 0, _ => ⟨rfl, rfl, rfl, rfl⟩
  | p :: t, k + 1, h => by
    have ih := gpCells_at t k (by simpa using h)
    have e : gpCells (p :: t) = .bool p.1 :: .int .i32 p.2.1 :: .int .i64 p.2.2.1 :: .int .i64 p.2.2.2 :: gpCells t := rfl
    rw [e, show (k + 1) * 4 = k * 4 + 1 + 1 + 1 + 1 by omega]
    simpa using ih
theorem run_runes (w : World) (rs : List Nat) (hs : allSign rs) (hl : rs.length ≤ 1000000) : ∃ c w', (convert 9 62 (.string (strOf (encAll rs)))).run Tryz.prog w = .ok (.slice (some ⟨w.heap.size, 0, none⟩) rs.length c) w' ∧
    rs.length ≤ c ∧ Below w.heap.size w w' ∧ w.heap.size < w'.heap.size ∧ ∀ k, k < rs.length → w'.cell? ⟨w.heap.size, 0 + k, none⟩ = some (.int .i32 ((rs.map fun r : Nat => (r : Int)).getD k 0)) := by
  have e := runes_eq rs hs
  have h := run_runes_of_string (P := Tryz.prog) w 9 62 21 (strOf (encAll rs)) Tryz.underlying9 Tryz.underlying62 Tryz.underlying21
  rw [show Conv.runesFrom (strOf (encAll rs)) (strOf (encAll rs)).size 0 #[] = (rs.map fun r : Nat => Value.int .i32 (r : Int)).toArray from e] at h
  rw [show ((rs.map fun r : Nat => Value.int .i32 (r : Int)).toArray).size = rs.length by simp] at h
  refine ⟨_, _, h (by omega), grownCap_ge w _ 0 _, ((Below.refl _ _).drew).alloc (Nat.le_refl _) _, by simp, fun k hk => ?_⟩
  have hh : (w.drew.alloc (.cells ((rs.map fun r : Nat => Value.int .i32 (r : Int)).toArray ++ Array.replicate (grownCap w rs.length 0 21 - rs.length) (.int .i32 0)) 21)).heap[w.heap.size]? = some (.cells ((rs.map fun r : Nat => Value.int .i32 (r : Int)).toArray ++ Array.replicate (grownCap w rs.length 0 21 - rs.length) (.int .i32 0)) 21) := heap_alloc_new w.drew _
  rw [Nat.zero_add, cell_of_row _ _ _ _ _ _ hh, Array.getElem?_append_left (by simpa using hk)]
  simp [hk]
theorem gb_trans {a b c : World} {r : Option Nat} (h : a.grownBy b r) (k : b.grownBy c r) : a.grownBy c r :=
  ⟨k.os.trans h.os, k.tape.trans h.tape, k.output.trans h.output, Nat.le_trans h.size k.size, fun i hi hne => (k.block i (Nat.lt_of_lt_of_le hi h.size) hne).trans (h.block i hi hne)⟩
theorem run_ends (w : World) (n : Nat) (hn : n ≤ 100000) : ∃ w', (Instr.makeSlice 63 (.int .i64 ((n : Int) + 1)) (.int .i64 ((n : Int) + 1))).run Tryz.prog w = .ok (.slice (some ⟨w.heap.size, 0, none⟩) (n + 1) (n + 1)) w' ∧
    bRow w' w.heap.size (n + 1) (fun _ => false) ∧ Below w.heap.size w w' ∧ w.heap.size < w'.heap.size := by
  have hmk := run_make_row' (P := Tryz.prog) 63 4 (.bool false) 1 Tryz.underlying63 (by kernel_rfl) rfl .i64 .i64 (n + 1) (by omega) (by omega) w
  rw [show ((n + 1 : Nat) : Int) = (n : Int) + 1 by omega] at hmk
  exact ⟨_, hmk, World.rowIs_made w (.bool false) (n + 1) 4, (Below.refl _ _).alloc (Nat.le_refl _) _, by simp⟩
set_option maxHeartbeats 4000000 in
theorem match_any (rs : List Nat) (hs : allSign rs) (hl : rs.length ≤ 100000) (ps : List GP) (hps : ps.length ≤ 200) (hok : okGP ps) (B R : Nat) (w : World) (hT : UT w) (hG : GlobAt w B R ps) :
    Calls Tryz.prog 22 #[.pointer (some ⟨R, 0, none⟩), .string (strOf (encAll rs))] w fun e w' => e = .returned (.bool (matchB ps (rs.map fun r : Nat => (r : Int)))) ∧ Below w.heap.size w w' := by
  have HV := Lib.hid (valid_all rs hs)
  have hlen := encAll_len4 rs
  obtain ⟨hBR, hR, hfR, v, hcR, hown⟩ := hG
  obtain ⟨A, c, rfl, hac, hcm, hcs, hob⟩ := own_form hown
  have HS := Lib.hid hs
  have HT := Lib.hid hT
  have HOK := Lib.hid hok
  obtain ⟨n, hn⟩ : ∃ n, n = rs.length := ⟨_, rfl⟩
  have HN := Lib.hid hn
  have hnb : n ≤ 100000 := by omega
  obtain ⟨N, hNp⟩ : ∃ N, N = ps.length := ⟨_, rfl⟩
  have HNP := Lib.hid hNp
  rw [← hNp] at hps hown hcR hac hob
  unfold maxLen at hcm
  clear hs hT hok hn hl hlen hNp
  go_enter Tryz.func22, Tryz.ntmps22
  go_wp2_with fail
  with_reducible refine (right_is _ _ HV _ HT.out (by have := encAll_len4 rs; have := HN.out; omega)).mono ?_
  rintro e w1 ⟨rfl, b1⟩
  have hc1 : w1.cell? ⟨R, 0, none⟩ = some (.slice A N c) := (b1.cell (p := ⟨R, 0, none⟩) hR).trans hcR
  have hown1 := own_below hown b1
  have hsz1 := b1.size
  obtain ⟨cs, w2, hr, hcs2, b2, hs2, hsig⟩ := run_runes w1 rs HS.out (by have := HN.out; omega)
  rw [← HN.out] at hr hcs2 hsig
  have hR1 : R < w1.heap.size := Nat.lt_of_lt_of_le hR hsz1
  have hc2 : w2.cell? ⟨R, 0, none⟩ = some (.slice A N c) := (b2.cell (p := ⟨R, 0, none⟩) hR1).trans hc1
  have HSIG := Lib.hid hsig
  have hltR : R < w2.heap.size := by omega
  obtain ⟨w3, hmk, hrow3, b3, hs3⟩ := run_ends w2 n hnb
  have hc3 : w3.cell? ⟨R, 0, none⟩ = some (.slice A N c) := (b3.cell (p := ⟨R, 0, none⟩) hltR).trans hc2
  have h00 := World.rowIs.cell hrow3 (i := 0) (by omega)
  have hf00 := World.rowIs.frozen hrow3 0
  have hneg : (⟨w2.heap.size, 0, none⟩ : Addr) ≠ ⟨R, 0, none⟩ := by intro e; injection e; omega
  clear hsig
  go_wp2_with fail
  have hg1 := gb_set (gb_refl w3 (some w2.heap.size)) 0 (.bool true)
  have hrow4 : bRow (w3.setCell ⟨w2.heap.size, 0, none⟩ (.bool true)) w2.heap.size (n + 1) (fun i => i == 0) := (bRow.set hrow3 0 true).congr fun i _ => by
    by_cases e : i = 0
    · subst e; rfl
    · rw [if_neg e]; exact (beq_eq_false_iff_ne.2 e).symm
  have b12 : Below w.heap.size w w2 := b1.trans (b2.mono hsz1)
  have b13 : Below w.heap.size w w3 := b12.trans (b3.mono b12.size)
  have hwg : w.heap.size ≤ w2.heap.size := b12.size
  have HSIG3 : Hid (∀ k, k < n → w3.cell? ⟨w1.heap.size, 0 + k, none⟩ = some (.int .i32 ((rs.map fun r : Nat => (r : Int)).getD k 0))) := fun k hk => (b3.cell (p := ⟨w1.heap.size, 0 + k, none⟩) hs2).trans (HSIG.out k hk)
  have hs13 : w1.heap.size < w3.heap.size := by omega
  have hne12 : w1.heap.size ≠ w2.heap.size := by omega
  clear hc1 hown1 hr hc2 hmk hc3 h00 hf00 hneg HSIG hrow3 hcR hown b1 b2 b3 b12
  go_loopw [29] (fun i wr => ∃ k : Nat, k ≤ N ∧ i = .int .i64 k ∧ bRow wr w2.heap.size (n + 1) (endsE (ps.take k) (rs.map fun r : Nat => (r : Int))) ∧ w3.grownBy wr (some w2.heap.size)) (fun i _ => N - (intOf i).toNat)
  case atStart => exact ⟨0, Nat.zero_le _, rfl, hrow4, hg1⟩
  case round =>
    obtain ⟨k, hk, rfl, hrw, hgr⟩ := hrel
    clear hrow4 hg1
    by_cases hlt : k < N
    · have hkl : k < ps.length := by rw [← HNP.out]; exact hlt
      obtain ⟨pb, po, rfl, hpb, hcell⟩ := hcs (by rw [gpCells_len]; omega)
      obtain ⟨q0, q1, q2, q3⟩ := gpCells_at ps k hkl
      have hob2 := HOK.out ps[k] (List.getElem_mem hkl)
      have HX : Hid (endsE (ps.take (k + 1)) (rs.map fun r : Nat => (r : Int)) = stepE ps[k] (rs.map fun r : Nat => (r : Int)) (endsE (ps.take k) (rs.map fun r : Nat => (r : Int)))) := by
        show _ = _
        rw [List.take_succ_eq_append_getElem hkl, endsE_snoc]
      have tr : ∀ o u, w.cell? ⟨pb, o, none⟩ = some u → wr.cell? ⟨pb, o, none⟩ = some u := fun o u h => (gb_cell hgr (by have := b13.size; omega) (by omega)).trans ((b13.cell (p := ⟨pb, o, none⟩) hpb).trans h)
      have m0 : wr.cell? ⟨pb, po + k * 4, none⟩ = _ := tr _ _ (hcell _ _ q0)
      have m1 : wr.cell? ⟨pb, po + k * 4 + 1, none⟩ = _ := tr _ _ (hcell _ _ q1)
      have m2 : wr.cell? ⟨pb, po + k * 4 + 2, none⟩ = _ := tr _ _ (hcell _ _ q2)
      have m3 : wr.cell? ⟨pb, po + k * 4 + 3, none⟩ = _ := tr _ _ (hcell _ _ q3)
      clear q0 q1 q2 q3 tr hcell hob
      generalize ps[k] = p at *
      obtain ⟨d, sg, lo, hi⟩ := p
      simp only at m0 m1 m2 m3 hob2
      generalize endsE (ps.take k) (rs.map fun r : Nat => (r : Int)) = E at *
      have hrA : bRow (wr.alloc (.cells #[.bool d, .int .i32 sg, .int .i64 lo, .int .i64 hi] 68)) w2.heap.size (n + 1) E := World.rowIs.alloc hrw _
      have hgA := gb_alloc hgr (.cells #[.bool d, .int .i32 sg, .int .i64 lo, .int .i64 hi] 68)
      have hltw : w1.heap.size < wr.heap.size := Nat.lt_of_lt_of_le hs13 hgr.size
      have HSA : Hid (∀ j, j < n → (wr.alloc (.cells #[.bool d, .int .i32 sg, .int .i64 lo, .int .i64 hi] 68)).cell? ⟨w1.heap.size, 0 + j, none⟩ = some (.int .i32 ((rs.map fun r : Nat => (r : Int)).getD j 0))) := fun j hj => by
        rw [World.cell?_alloc_past _ _ _ hltw, gb_cell hgr hs13 hne12]; exact HSIG3.out j hj
      have HHA := Lib.hid hgA
      clear hgr hrw hgA
      cases d
      · have HX2 : Hid (endsE (ps.take (k + 1)) (rs.map fun r : Nat => (r : Int)) = stepS (rs.map fun r : Nat => (r : Int)) sg E) := HX.out
        clear HX
        go_wp2_with fail
        refine (passSign_any false sg lo hi w2.heap.size n cs w1.heap.size 0 E (rs.map fun r : Nat => (r : Int)) _ (by omega) hrA (by simp; omega) hne12 HSA).mono ?_
        rintro e w5 ⟨rfl, hr5, hg5⟩
        have hg5' := gb_trans HHA.out hg5
        clear hg5
        go_wp2_with fail
        exact ⟨⟨k + 1, by omega, by go_num, by rw [HX2.out]; exact hr5, hg5'⟩, by simp [intOf]; omega⟩
      · have HX2 : Hid (endsE (ps.take (k + 1)) (rs.map fun r : Nat => (r : Int)) = stepA lo hi E) := HX.out
        clear HX
        go_wp2_with fail
        refine (passAny_any true sg lo hi w2.heap.size n E _ hob2.1 hob2.2 (by omega) hrA).mono ?_
        rintro e w5 ⟨rfl, hr5, hg5⟩
        have hg5' := gb_trans HHA.out hg5
        clear hg5
        go_wp2_with fail
        exact ⟨⟨k + 1, by omega, by go_num, by rw [HX2.out]; exact hr5, hg5'⟩, by simp [intOf]; omega⟩
    · have hke : ps.take k = ps := List.take_of_length_le (by rw [← HNP.out]; omega)
      rw [hke] at hrw
      have hcn := World.rowIs.cell hrw (i := n) (by omega)
      have HM : Hid (matchB ps (rs.map fun r : Nat => (r : Int)) = endsE ps (rs.map fun r : Nat => (r : Int)) n) := by show _ = _; unfold matchB; rw [List.length_map, ← HN.out]
      have bf : Below w.heap.size w wr := b13.grown hgr b13.size fun j hj => by cases hj; exact hwg
      clear hke hrw hgr
      go_wp2_with fail
      go_ret
      exact ⟨by rw [HM.out]; rfl, bf⟩
end Go.Proofs.YtjeccmmhmdgdgaaGreatDoor
