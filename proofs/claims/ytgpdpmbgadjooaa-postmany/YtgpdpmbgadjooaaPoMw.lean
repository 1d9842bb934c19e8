/- PostMany answers true. -/
import Derived.Test.YtgpdpmbgadjooaaPoMb
namespace Go.Proofs.Ytgpdpmbgadjooaa
open Go.RowKit
set_option maxRecDepth 100000

theorem hM_small (p n : Nat) : ∀ h ∈ hM p n, h.2.length ≤ 6000 := fun h hh => by
  obtain ⟨i, _, rfl⟩ := List.mem_map.1 hh
  show 2 ≤ 6000
  decide
set_option maxHeartbeats 4000000 in
theorem many_any (n0 p0 d0 : Int) (w : World) :
    Calls Try.prog 8 #[.int .i64 n0, .int .i64 p0, .int .i64 d0] w fun e w' => e = .returned (.bool true) ∧ Below w.heap.size w w' := by
  obtain ⟨n1, hn1, hn1l⟩ := and_127 n0
  obtain ⟨p1, hp1, hp1l⟩ := and_3q p0
  obtain ⟨d, hd, hdl⟩ := and_1023 d0
  obtain ⟨n, hn⟩ : ∃ n, n = n1 + 1 := ⟨_, rfl⟩
  obtain ⟨p, hp⟩ : ∃ p, p = p1 + 1 := ⟨_, rfl⟩
  have en : (1 : Int) + (n1 : Int) = (n : Int) := by omega
  have ep : (1 : Int) + (p1 : Int) = (p : Int) := by omega
  have hn128 : n ≤ 128 := by omega
  have hn0 : 1 ≤ n := by omega
  have hp4 : p ≤ 4 := by omega
  have hp0 : 1 ≤ p := by omega
  have wn : IntKind.i64.wrap (n : Int) = (n : Int) := by rw [IntKind.wrap_i64]; omega
  have wp : IntKind.i64.wrap (p : Int) = (p : Int) := by rw [IntKind.wrap_i64]; omega
  clear hn hp hn1l hp1l
  go_enter Try.func8, Try.ntmps8
  go_wp2_with fail
  with_reducible refine (head_any _).mono ?_
  rintro e w1 ⟨rfl, b1⟩
  have HB1 := Lib.hid b1
  have bL : Below w1.heap.size w1 (w1.alloc (.cells #[] 37)) := (Below.refl _ _).alloc (Nat.le_refl _) _
  have HM0 : Hid (ML w1 (w1.alloc (.cells #[] 37)) (.slice (some ⟨w1.heap.size, 0, none⟩) 0 0) [] (hM p 0)) := ⟨own_lit w1 37 2 (0, 0) rfl, rfl, bL, fun k h => absurd h (Nat.not_lt_zero _)⟩
  clear b1 bL
  go_wp2_with fail
  go_loopw [7, 8] (fun s7 i wr => ∃ (k : Nat) (v : Value) (zs : List (Value × Value)), k ≤ n ∧ i = .int .i64 k ∧ v = s7 ∧ Hid (ML w1 wr v zs (hM p k))) (fun _ i _ => n - (intOf i).toNat)
  case atStart => exact ⟨0, _, [], Nat.zero_le _, rfl, rfl, HM0⟩
  case round =>
    obtain ⟨k, v, zs, hk, rfl, rfl, HM⟩ := hrel
    have HZ : Hid (zs.length = k) := by show _ = _; rw [HM.out.len, hM_len]
    by_cases hlt : k < n
    · have hkp : k * p ≤ 127 * 4 := Nat.mul_le_mul (by omega) hp4
      obtain ⟨q, hq⟩ : ∃ q, q = k * p := ⟨_, rfl⟩
      rw [← hq] at hkp
      have eq1 : (k : Int) * (p : Int) = (q : Int) := by rw [hq]; push_cast; rfl
      have wq : IntKind.i64.wrap (q : Int) = (q : Int) := by rw [IntKind.wrap_i64]; omega
      have wk : IntKind.i64.wrap ((k : Int) + 1) = (k : Int) + 1 := by rw [IntKind.wrap_i64]; omega
      have HQ := Lib.hid hq
      have HX1 : Hid (hM1 p k = ((q : Int), [(k : Int), (k : Int) + 1])) := by show _ = _; rw [hq]; rfl
      obtain ⟨Y, hY⟩ : ∃ Y, wr.alloc (.cells #[.int .i64 (k : Int), .int .i64 ((k : Int) + 1)] 3) = Y := ⟨_, rfl⟩
      obtain ⟨X, hX⟩ : ∃ X, Y.alloc (.cells #[.int .i64 (q : Int), .slice (some ⟨wr.heap.size, 0, none⟩) 2 2] 37) = X := ⟨_, rfl⟩
      have bY : Below wr.heap.size wr Y := by rw [← hY]; exact (Below.refl _ _).alloc (Nat.le_refl _) _
      have bX : Below Y.heap.size Y X := by rw [← hX]; exact (Below.refl _ _).alloc (Nat.le_refl _) _
      have sY : Y.heap.size = wr.heap.size + 1 := by rw [← hY]; simp
      have sX : X.heap.size = wr.heap.size + 1 + 1 := by rw [← hX, ← sY]; simp
      have c0 : X.cell? ⟨wr.heap.size + 1, 0, none⟩ = some (.int .i64 (q : Int)) := by rw [← hX, ← sY]; simp
      have c1 : X.cell? ⟨wr.heap.size + 1, 1, none⟩ = some (.slice (some ⟨wr.heap.size, 0, none⟩) 2 2) := by rw [← hX, ← sY]; simp
      have hcs : CS X X.heap.size (some ⟨wr.heap.size, 0, none⟩) (([(k : Int), (k : Int) + 1] : List Int).map eI) := fun _ => ⟨wr.heap.size, 0, rfl, by omega, fun j u hu => by
        have z := new_cells wr #[.int .i64 (k : Int), .int .i64 ((k : Int) + 1)] 3 (0, 0) j u hu
        rw [add_addr, hY] at z
        exact (bX.cell (p := ⟨wr.heap.size, 0 + j, none⟩) (by show wr.heap.size < _; omega)).trans z⟩
      have HX0 : Hid ((wr.alloc (.cells #[.int .i64 (k : Int), .int .i64 ((k : Int) + 1)] 3)).alloc (.cells #[.int .i64 (q : Int), .slice (some ⟨wr.heap.size, 0, none⟩) 2 2] 37) = X) := by show _ = _; rw [hY, hX]
      have HBX := Lib.hid (bY.trans (bX.mono bY.size))
      have HC01 := Lib.hid (And.intro c0 c1)
      have HCS := Lib.hid hcs
      have HSX := Lib.hid sX
      have HOX : Hid (X.ownsRow w1.heap.size 37 2 v k (cellsZ zs)) := by have := own_below HM.out.own HBX.out; rw [HZ.out] at this; exact this
      have hbs : w1.heap.size ≤ X.heap.size := by have := HM.out.kb.size; have := HBX.out.size; omega
      clear hq hY hX bY bX sY sX c0 c1 hcs
      go_wp2_with (first
        | (at_builtin; go_loud (rw [HX0.out]; refine wpList_appendH _ rfl (.tmp 29) (.tmp 38) rfl w1.heap.size v zs k HZ.out rfl HOX.out (wr.heap.size + 1) 1 (.int .i64 (q : Int), .slice (some ⟨wr.heap.size, 0, none⟩) 2 2) rfl HC01.out.1 HC01.out.2 rfl rfl (by omega) hbs ?_; intro v4 w4 hown4 hg4 hv4; rw [← HZ.out] at hown4; have HM4 := Lib.hid (HM.out.app HBX.out ((q : Int), [(k : Int), (k : Int) + 1]) wr.heap.size (Nat.le_refl _) (by rw [HSX.out]; omega) (show 2 ≤ Go.maxLen by decide) HCS.out hown4 hg4 hv4); clear hown4 hg4 hv4)))
      rw [← HX1.out, ← hM_succ] at HM4
      exact ⟨⟨k + 1, v4, _, hlt, by go_num, rfl, HM4⟩, by simp [intOf]; omega⟩
    · obtain rfl : k = n := by omega
      obtain ⟨A9, c9, rfl, hm1, hm2, hHS⟩ := HM.out.hs
      have HKB := Lib.hid (HB1.out.trans (HM.out.kb.mono HB1.out.size))
      clear HM HM0
      rw [HZ.out] at hm1 ⊢
      have KE := Lib.hid (enc_ok A9 k c9 (hM p k) ⟨(hM_len p k).symm, hM_small p k⟩ (by omega) hm1 wr hHS (hM_rgt p hp0 hp4 k hn128).1)
      have HHS := Lib.hid hHS
      unfold maxLen at hm2
      clear hHS
      go_wp2_with fail
      (with_reducible refine KE.out.mono ?_)
      rintro e w2 ⟨v7, rfl, o7, b3⟩
      obtain ⟨A7, c7, rfl, _, _, hbs7, _⟩ := o7.form
      have HH2 := Lib.hid (HHS.out.up b3)
      have HB2 := Lib.hid (HKB.out.trans (b3.mono HKB.out.size))
      obtain ⟨L, hL⟩ : ∃ L, L = eP (hM p k) := ⟨_, rfl⟩
      obtain ⟨m7, hm7⟩ : ∃ m7, m7 = L.length := ⟨_, rfl⟩
      rw [← hL] at hbs7
      rw [← hL, ← hm7]
      have KO := Lib.hid (open_any (fun _ => False) A7 m7 c7 L hm7 (by rw [hL]; exact eP_hM p k hn128) w2 (fun _ h => h.elim) hbs7)
      have HL := Lib.hid hL
      clear o7 b3 hbs7 hm7 hL KE HHS HKB
      go_wp2_with fail
      (with_reducible refine KO.out.mono ?_)
      rintro e w3 ⟨C, rfl, hc1, b4, hC1, hC2⟩
      obtain ⟨s0, hs0⟩ : ∃ s0, s0 = openP L := ⟨_, rfl⟩
      rw [← hs0] at hc1
      have hC3 : w.heap.size ≤ C := by have := HB2.out.size; omega
      have hck : ∀ G : Nat → Prop, Cur G w3 C s0 → C < w3.heap.size := fun _ h => h.lt
      have KS := Lib.hid (seek_any (fun _ => False) C s0 w3 (d : Int) hc1 (fun _ h => h.elim) (s0.he + s0.bh + 1) (by omega))
      have HSK := Lib.hid (hM_seek p k d hp0 hp4 hn128 s0 (by rw [hs0, HL.out]) (s0.he + s0.bh + 1) (Nat.le_refl _))
      have HB23 := Lib.hid b4
      have HB3 := Lib.hid (HB2.out.trans (b4.mono HB2.out.size))
      clear hc1 b4 hs0 KO HL HB2 hck
      go_wp2_with fail
      (with_reducible refine KS.out.mono ?_)
      rintro e w4 ⟨v5, rfl, hv5, hc5, k5⟩
      have HSK5 := Lib.hid hc5.sk
      have hKk : (d + p - 1) / p ≤ d + p - 1 := Nat.div_le_self _ _
      obtain ⟨K, hK⟩ : ∃ K, K = (d + p - 1) / p := ⟨_, rfl⟩
      have HDV : Hid (((d + p - 1 : Nat) : Int).tdiv (p : Int) = (K : Int)) := by show _ = _; rw [hK]; exact (Int.ofNat_tdiv _ _).symm
      rw [← hK] at HSK hKk
      obtain ⟨t, ht⟩ : ∃ t, t = d + p - 1 := ⟨_, rfl⟩
      rw [← ht] at HDV hKk
      have et : (d : Int) + (p : Int) = (t : Int) + 1 := by omega
      have wt1 : IntKind.i64.wrap ((t : Int) + 1) = (t : Int) + 1 := by rw [IntKind.wrap_i64]; omega
      have wt : IntKind.i64.wrap (t : Int) = (t : Int) := by rw [IntKind.wrap_i64]; omega
      have hdv := HDV.out
      have wK : IntKind.i64.wrap (K : Int) = (K : Int) := by rw [IntKind.wrap_i64]; omega
      have hpn : ((p : Int) == 0) = false := by simp; omega
      have hB4 : Below w.heap.size w w4 := HB3.out.trans (k5.below hC3 HB3.out.size)
      have HB4 := Lib.hid hB4
      have HB24 := Lib.hid (HB23.out.trans (k5.below hC1 HB23.out.size))
      clear hK ht hc5 KS hB4
      by_cases hKn : k ≤ K
      · obtain ⟨F1, F2⟩ := HSK.out.1 hKn
        rw [F1] at hv5
        obtain rfl : v5 = _ := hv5
        rw [F2] at HSK5
        have hlC := World.block_lt_of_cell? w4 _ HSK5.out
        have bA : Below w4.heap.size w4 (w4.alloc (.cells #[.int .i64 0, .slice none 0 0] 37)) := (Below.refl _ _).alloc (Nat.le_refl _) _
        have l0 := (bA.cell (p := ⟨C, 0, none⟩) hlC).trans HSK5.out
        have HB5 := Lib.hid (HB4.out.trans (bA.mono HB4.out.size))
        obtain ⟨N4, hN4⟩ : ∃ N4, N4 = (k + 3) / 4 := ⟨_, rfl⟩
        rw [← hN4] at l0
        have ek3 : (k : Int) + 3 = ((k + 3 : Nat) : Int) := by omega
        have w3k : IntKind.i64.wrap ((k : Int) + 3) = (k : Int) + 3 := by rw [IntKind.wrap_i64]; omega
        have q4 : ((k : Int) + 3).tdiv 4 = (N4 : Int) := by rw [hN4, ek3]; exact (Int.ofNat_tdiv _ _).symm
        have wN : IntKind.i64.wrap (N4 : Int) = (N4 : Int) := by rw [IntKind.wrap_i64]; omega
        clear F1 F2 hlC bA hN4 ek3
        go_wp2_with fail
        go_ret
        exact ⟨rfl, HB5.out⟩
      · have hKlt : K < k := by omega
        obtain ⟨F1, F2⟩ := HSK.out.2 hKlt
        rw [F1] at hv5
        obtain ⟨A5, c5, rfl, _, _, h5, _⟩ := hv5
        rw [F2] at HSK5
        have ex3 : (toHN (hM1 p K)).2.map (fun (n : Nat) => (n : Int)) = (hM1 p K).2 := by
          show [(((K : Int).toNat : Nat) : Int), ((((K : Int) + 1).toNat : Nat) : Int)] = [(K : Int), (K : Int) + 1]
          rw [show (((K : Int).toNat : Nat) : Int) = (K : Int) by omega, show ((((K : Int) + 1).toNat : Nat) : Int) = (K : Int) + 1 by omega]
        rw [ex3] at h5
        have ex2 : (toHN (hM1 p K)).2.length = 2 := rfl
        have ex1 : ((toHN (hM1 p K)).1 : Int) = ((K * p : Nat) : Int) := by
          show (((((K * p : Nat) : Int)).toNat : Nat) : Int) = _
          omega
        rw [ex2, ex1]
        obtain ⟨q, hq⟩ : ∃ q : Int, q = ((K * p : Nat) : Int) := ⟨_, rfl⟩
        rw [← hq]
        obtain ⟨W5, hW5⟩ : ∃ W5, w4.alloc (.cells #[.int .i64 q, .slice A5 2 c5] 37) = W5 := ⟨_, rfl⟩
        have bA : Below w4.heap.size w4 W5 := by rw [← hW5]; exact (Below.refl _ _).alloc (Nat.le_refl _) _
        have y0 : W5.cell? ⟨w4.heap.size, 0, none⟩ = some (.int .i64 q) := by rw [← hW5]; simp
        have y1 : W5.cell? ⟨w4.heap.size, 1, none⟩ = some (.slice A5 2 c5) := by rw [← hW5]; simp
        have HW0 := Lib.hid hW5
        have HB5 := Lib.hid (HB4.out.trans (bA.mono HB4.out.size))
        have hlC := World.block_lt_of_cell? w4 _ HSK5.out
        have y2 := (bA.cell (p := ⟨C, 0, none⟩) hlC).trans HSK5.out
        obtain ⟨b, o, e9, _, hcells⟩ := HH2.out.below (HB24.out.trans (bA.mono HB24.out.size)) (by rw [hM_len]; omega)
        have hKl : K < (hM p k).length := by rw [hM_len]; exact hKlt
        have eK : (hM p k)[K] = hM1 p K := by have := hM_at p k K hKlt; rw [List.getElem?_eq_getElem hKl] at this; exact Option.some.inj this
        obtain ⟨y3, A6, c6, y4, j1, j2, h6⟩ := hcells K hKl
        rw [eK] at y3 y4 h6
        have y3' : W5.cell? ⟨b, o + K * 2, none⟩ = some (.int .i64 q) := by rw [hq]; exact y3
        have y4' : W5.cell? ⟨b, o + K * 2 + 1, none⟩ = some (.slice A6 2 c6) := y4
        have h6' : CS W5 W5.heap.size A6 ((hM1 p K).2.map eI) := h6.more ((HB24.out.trans (bA.mono HB24.out.size)).size)
        have h5' := h5.up' bA
        subst e9
        have hmx : Try.prog.follows .mixedOrders = true := by kernel_rfl
        have z0 : ∀ r : WB W5.heap.size W5, r.w.cell? ⟨w4.heap.size, 0, none⟩ = some (.int .i64 q) := fun r => (r.ok.cell (World.block_lt_of_cell? W5 _ y0)).trans y0
        have z1 : ∀ r : WB W5.heap.size W5, r.w.cell? ⟨w4.heap.size, 1, none⟩ = some (.slice A5 2 c5) := fun r => (r.ok.cell (World.block_lt_of_cell? W5 _ y1)).trans y1
        have z2 : ∀ r : WB W5.heap.size W5, r.w.cell? ⟨C, 0, none⟩ = some (.int .i64 (K / 4 : Nat)) := fun r => (r.ok.cell (World.block_lt_of_cell? W5 _ y2)).trans y2
        have z3 : ∀ r : WB W5.heap.size W5, r.w.cell? ⟨b, o + K * 2, none⟩ = some (.int .i64 q) := fun r => (r.ok.cell (World.block_lt_of_cell? W5 _ y3')).trans y3'
        have z4 : ∀ r : WB W5.heap.size W5, r.w.cell? ⟨b, o + K * 2 + 1, none⟩ = some (.slice A6 2 c6) := fun r => (r.ok.cell (World.block_lt_of_cell? W5 _ y4')).trans y4'
        have KSM : Hid (∀ r : WB W5.heap.size W5, Calls Try.prog 23 #[.agg #[.int .i64 q, .slice A5 2 c5], .agg #[.int .i64 q, .slice A6 2 c6]] r.w fun e w' => e = .returned (.bool true) ∧ Below r.w.heap.size r.w w') := fun r =>
          (same_any q q A5 A6 2 c5 2 c6 (hM1 p K).2 (hM1 p K).2 rfl rfl (by decide) r.w (h5'.up' r.ok) (h6'.up' r.ok)).mono fun e w' h => by
            rw [decide_eq_true ⟨rfl, rfl⟩] at h
            exact h
        obtain ⟨N4, hN4⟩ : ∃ N4, N4 = K / 4 := ⟨_, rfl⟩
        rw [← hN4] at z2
        have q4 : (K : Int).tdiv 4 = (N4 : Int) := by rw [hN4]; exact (Int.ofNat_tdiv _ _).symm
        have hN5 : N4 ≤ K := by rw [hN4]; exact Nat.div_le_self _ _
        have wN : IntKind.i64.wrap (N4 : Int) = (N4 : Int) := by rw [IntKind.wrap_i64]; omega
        clear F1 F2 hlC bA hN4 hq j1 j2 y0 y1 y2 y3 y4 y3' y4' hcells h5 h6 h5' h6' eK ex1 ex2 ex3 hW5 hKl hKn
        go_wp2_with fail
        rw [HW0.out]
        refine wp_region_quietB W5.heap.size W5 hmx (by kernel_rfl) (Below.refl _ _) ?_
        repeat (go_big_quiet_step ((go_at_call 23; with_reducible exact calls_quietB (KSM.out _) (Nat.le_refl _))))
        refine wpQuiet_nil ?_
        intro _ hw'
        obtain ⟨pq, rfl⟩ := hw'
        go_wp2_with fail
        go_ret
        exact ⟨rfl, HB5.out.trans (pq.ok.mono HB5.out.size)⟩
end Go.Proofs.Ytgpdpmbgadjooaa
