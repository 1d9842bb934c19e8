/- PostSeeks answers true. -/
import Derived.Test.YtjigaoclngfcaaaPoKw
import Derived.Test.YtjigaoclngfcaaaPoSp
namespace Go.Proofs.Ytjigaoclngfcaaa
open Go.RowKit
set_option maxRecDepth 100000

set_option maxHeartbeats 1000000 in
theorem pk_many (A : Option Addr) (n c : Nat) (A2 : Option Addr) (n2 c2 : Nat) (hs : List HI) (hn : Hid (n = hs.length ∧ fewH hs = false)) (hnm : n ≤ 9223372036854775807) (w : World) (hI : HS w w.heap.size A hs) :
    Calls Try.prog 5 #[.slice A n c, .slice A2 n2 c2] w fun e w' => e = .returned (.bool true) ∧ Below w.heap.size w w' := by
  have HCS := Lib.hid hI
  clear hI
  go_enter Try.func5, Try.ntmps5
  go_wp2_with fail
  with_reducible refine (head_any _).mono ?_
  rintro e w1 ⟨rfl, b1⟩
  have KF := Lib.hid (few_any A n c hs hn.out.1 hnm w1 ((HCS.out.below b1).more b1.size))
  rw [hn.out.2] at KF
  go_wp2_with fail
  with_reducible refine KF.out.mono ?_
  rintro e w2 ⟨rfl, b2⟩
  have hb := b1.trans (b2.mono b1.size)
  clear b1 b2 KF
  go_wp2_with fail
  go_ret
  exact ⟨rfl, hb⟩
set_option maxHeartbeats 1000000 in
theorem pk_wrong (A : Option Addr) (n c : Nat) (A2 : Option Addr) (n2 c2 : Nat) (hs : List HI) (hn : Hid (n = hs.length ∧ fewH hs = true ∧ rgt (-1) hs = false)) (hnm : n ≤ 40) (w : World) (hI : HS w w.heap.size A hs) :
    Calls Try.prog 5 #[.slice A n c, .slice A2 n2 c2] w fun e w' => e = .returned (.bool true) ∧ Below w.heap.size w w' := by
  have HCS := Lib.hid hI
  have HSM : Hid (∀ h ∈ hs, h.2.length ≤ 100000) := fun h hh => Nat.le_trans ((fewH_some hn.out.2.1).2 h hh) (by decide)
  clear hI
  go_enter Try.func5, Try.ntmps5
  go_wp2_with fail
  with_reducible refine (head_any _).mono ?_
  rintro e w1 ⟨rfl, b1⟩
  have KF := Lib.hid (few_any A n c hs hn.out.1 (by omega) w1 ((HCS.out.below b1).more b1.size))
  rw [hn.out.2.1] at KF
  go_wp2_with fail
  with_reducible refine KF.out.mono ?_
  rintro e w2 ⟨rfl, b2⟩
  have hb := b1.trans (b2.mono b1.size)
  have KR := Lib.hid (lright_any A n c hs hn.out.1 (by omega) w2 ((HCS.out.below hb).more hb.size) HSM)
  rw [hn.out.2.2] at KR
  have HB := Lib.hid hb
  clear b1 b2 KF hb
  go_wp2_with fail
  with_reducible refine KR.out.mono ?_
  rintro e w3 ⟨rfl, b3⟩
  go_wp2_with fail
  go_ret
  exact ⟨rfl, HB.out.trans (b3.mono HB.out.size)⟩
set_option maxHeartbeats 1000000 in
theorem pk_long (A : Option Addr) (n c : Nat) (A2 : Option Addr) (n2 c2 : Nat) (hs : List HI) (hn : Hid (n = hs.length ∧ fewH hs = true ∧ rgt (-1) hs = true)) (hnm : n ≤ 40) (hn2 : 60 < n2) (w : World) (hI : HS w w.heap.size A hs) :
    Calls Try.prog 5 #[.slice A n c, .slice A2 n2 c2] w fun e w' => e = .returned (.bool true) ∧ Below w.heap.size w w' := by
  have HCS := Lib.hid hI
  have HSM : Hid (∀ h ∈ hs, h.2.length ≤ 100000) := fun h hh => Nat.le_trans ((fewH_some hn.out.2.1).2 h hh) (by decide)
  have hn2I : (60 : Int) < (n2 : Int) := by omega
  have hn2b : decide ((60 : Int) < (n2 : Int)) = true := decide_eq_true hn2I
  clear hI
  go_enter Try.func5, Try.ntmps5
  go_wp2_with fail
  with_reducible refine (head_any _).mono ?_
  rintro e w1 ⟨rfl, b1⟩
  have KF := Lib.hid (few_any A n c hs hn.out.1 (by omega) w1 ((HCS.out.below b1).more b1.size))
  rw [hn.out.2.1] at KF
  go_wp2_with fail
  with_reducible refine KF.out.mono ?_
  rintro e w2 ⟨rfl, b2⟩
  have hb := b1.trans (b2.mono b1.size)
  have KR := Lib.hid (lright_any A n c hs hn.out.1 (by omega) w2 ((HCS.out.below hb).more hb.size) HSM)
  rw [hn.out.2.2] at KR
  have HB := Lib.hid hb
  clear b1 b2 KF hb
  go_wp2_with fail
  with_reducible refine KR.out.mono ?_
  rintro e w3 ⟨rfl, b3⟩
  go_wp2_with fail
  go_ret
  exact ⟨rfl, HB.out.trans (b3.mono HB.out.size)⟩
set_option maxHeartbeats 8000000 in
theorem pk_any (A : Option Addr) (n c : Nat) (A2 : Option Addr) (n2 c2 : Nat) (ds : List Int) (hs : List HI) (hn : Hid (n = hs.length ∧ fewH hs = true ∧ rgt (-1) hs = true)) (hnm : n ≤ 40) (hnc : n ≤ c) (HN2 : Hid (n2 = ds.length)) (hn2 : n2 ≤ 60) (w : World) (hI : HS w w.heap.size A hs) (hI2 : CS w w.heap.size A2 (ds.map eI)) :
    Calls Try.prog 5 #[.slice A n c, .slice A2 n2 c2] w fun e w' => e = .returned (.bool true) ∧ Below w.heap.size w w' := by
  have HCS := Lib.hid hI
  have HSM : Hid (∀ h ∈ hs, h.2.length ≤ 100000) := fun h hh => Nat.le_trans ((fewH_some hn.out.2.1).2 h hh) (by decide)
  have HSE : Hid (n = hs.length ∧ ∀ h ∈ hs, h.2.length ≤ 6000) := ⟨hn.out.1, fun h hh => Nat.le_trans ((fewH_some hn.out.2.1).2 h hh) (by decide)⟩
  obtain ⟨L, hL⟩ : ∃ L, L = eP hs := ⟨_, rfl⟩
  obtain ⟨l5, l0⟩ := eP_few hs hn.out.2.2 hn.out.2.1
  rw [← hL] at l5 l0
  obtain ⟨m, hm⟩ : ∃ m, m = L.length := ⟨_, rfl⟩
  rw [← hm] at l5 l0
  have HL := Lib.hid hL
  have HM := Lib.hid hm
  have HCD := Lib.hid hI2
  have hn2I : ¬ (60 : Int) < (n2 : Int) := by omega
  have hn2b : decide ((60 : Int) < (n2 : Int)) = false := decide_eq_false hn2I
  have hmx : Try.prog.follows .mixedOrders = true := by kernel_rfl
  clear hI hI2 hL hm
  go_enter Try.func5, Try.ntmps5
  go_wp2_with fail
  with_reducible refine (head_any _).mono ?_
  rintro e w1 ⟨rfl, b1⟩
  have KF := Lib.hid (few_any A n c hs hn.out.1 (by omega) w1 ((HCS.out.below b1).more b1.size))
  rw [hn.out.2.1] at KF
  go_wp2_with fail
  with_reducible refine KF.out.mono ?_
  rintro e w2 ⟨rfl, b2⟩
  have hb := b1.trans (b2.mono b1.size)
  have KR := Lib.hid (lright_any A n c hs hn.out.1 (by omega) w2 ((HCS.out.below hb).more hb.size) HSM)
  rw [hn.out.2.2] at KR
  have HB := Lib.hid hb
  clear b1 b2 KF hb
  go_wp2_with fail
  with_reducible refine KR.out.mono ?_
  rintro e w3 ⟨rfl, b3⟩
  have hb := HB.out.trans (b3.mono HB.out.size)
  have KE := Lib.hid (enc_ok A n c hs HSE (by omega) hnc w3 ((HCS.out.below hb).more hb.size) hn.out.2.2)
  have HB3 := Lib.hid hb
  clear b3 KR hb
  go_wp2_with fail
  with_reducible refine KE.out.mono ?_
  rintro e w4 ⟨v7, rfl, o7, b4⟩
  obtain ⟨A7, c7, rfl, hmc, hmm, hbs7, _⟩ := o7.form
  rw [← HL.out] at hbs7
  rw [← HL.out, ← HM.out]
  have KO := Lib.hid (open_any (fun _ => False) A7 m c7 L HM (by rw [← HM.out]; omega) w4 (fun _ h => h.elim) hbs7)
  have HB4 := Lib.hid (HB3.out.trans (b4.mono HB3.out.size))
  clear o7 b4 KE hbs7 hmc hmm
  go_wp2_with fail
  with_reducible refine KO.out.mono ?_
  rintro e w5 ⟨C, rfl, hc1, b5, hC1, hC2⟩
  obtain ⟨s0, hs0⟩ : ∃ s0, s0 = openP L := ⟨_, rfl⟩
  rw [← hs0] at hc1
  have hC3 : w.heap.size ≤ C := by have := HB4.out.size; omega
  obtain ⟨hR0, _⟩ := RI.opened hs [] hn.out.2.2
  rw [List.append_nil, ← HL.out, ← hs0] at hR0
  have HR0 := Lib.hid hR0
  have HC0 := Lib.hid hc1
  have HB5 := Lib.hid (HB4.out.trans (b5.mono HB4.out.size))
  have HHB := Lib.hid (hit_back hs hn.out.2.2)
  have HPOS : Hid (∀ h ∈ hs, 0 ≤ h.1) := fun h hh => (hits_back hs (-1) hn.out.2.2 (Int.le_refl _) h hh).2
  clear hc1 b5 hs0 KO hR0
  go_wp2_with fail
  go_loopw [8, 46] (fun s8 i wr => ∃ (j p : Nat) (s : PS) (a : Int) (cur rest : List HI), j ≤ n2 ∧ s8 = .int .i64 p ∧ i = .int .i64 j ∧ p ≤ n + j ∧ Hid (RI [] s a cur rest) ∧ Hid (cur ++ rest = hs.drop p) ∧ Hid (Cur (fun _ => False) wr C s) ∧ Below w.heap.size w wr) (fun _ i _ => n2 - (intOf i).toNat)
  case atStart => exact ⟨0, 0, s0, -1, [], hs, Nat.zero_le _, rfl, rfl, Nat.zero_le _, HR0, rfl, HC0, HB5.out⟩
  case round =>
    obtain ⟨j, p0, s, a, cur, rest, hj, rfl, rfl, hp0, HR, HD, HC, hb⟩ := hrel
    have HB := Lib.hid hb
    by_cases hlt : j < n2
    · have hjd : j < ds.length := by rw [← HN2.out]; exact hlt
      obtain ⟨b2, o2, rfl, _, hcd⟩ := (HCD.out.below hb) (by rw [List.length_map]; omega)
      have hx := hcd j _ (eI_get hjd)
      have wj1 : IntKind.i64.wrap ((j : Int) + 1) = (j : Int) + 1 := by rw [IntKind.wrap_i64]; omega
      obtain ⟨d, hd⟩ : ∃ d, d = ds[j] := ⟨_, rfl⟩
      rw [← hd] at hx
      clear hd hcd hb
      go_wp2_with fail
      go_loopw [8] (fun s8 wq => ∃ p : Nat, p0 ≤ p ∧ s8 = .int .i64 p ∧ wq = wr ∧ p ≤ n + j ∧ Hid (∀ i (h : i < hs.length), p0 ≤ i → i < p → hs[i].1 < d)) (fun s8 _ => n - (intOf s8).toNat)
      case atStart => exact ⟨p0, Nat.le_refl _, rfl, rfl, hp0, fun i h h1 h2 => absurd h1 (by omega)⟩
      case round =>
        obtain ⟨p, hpp, rfl, rfl, hpn, HP⟩ := hrel
        by_cases hpn2 : p < n
        · have hpl : p < hs.length := by rw [← hn.out.1]; exact hpn2
          by_cases hdd : hs[p].1 < d
          · obtain ⟨b1, o1, rfl, hltb, hcl⟩ := HCS.out (by omega)
            have x1 := (HB.out.cell (p := ⟨b1, o1 + p * 2, none⟩) hltb).trans (hcl p hpl).1
            have HPN : Hid (∀ i (h : i < hs.length), p0 ≤ i → i < p + 1 → hs[i].1 < d) := fun i h h1 h2 => by
              rcases Nat.lt_or_ge i p with g | g
              · exact HP.out i h h1 g
              · obtain rfl : i = p := by omega
                exact hdd
            obtain ⟨q, hq⟩ : ∃ q, q = hs[p].1 := ⟨_, rfl⟩
            rw [← hq] at x1 hdd
            have hpI : (p : Int) < (n : Int) := by omega
            have hpb : decide ((p : Int) < (n : Int)) = true := decide_eq_true hpI
            have hdb : decide (q < d) = true := decide_eq_true hdd
            have wp1 : IntKind.i64.wrap ((p : Int) + 1) = (p : Int) + 1 := by rw [IntKind.wrap_i64]; omega
            clear hcl hq
            go_wp2_with fail
            refine ⟨⟨p + 1, by omega, by go_num, by first | rfl | trivial, by omega, HPN⟩, by simp [intOf]; omega⟩
          · have hend : ∀ h : p < hs.length, d ≤ hs[p].1 := fun _ => by omega
            obtain ⟨b1, o1, rfl, hltb, hcl⟩ := HCS.out (by omega)
            obtain ⟨x1, A6, c6, x2, _, _, h6⟩ := hcl p hpl
            obtain ⟨ex1, ex3, ex2⟩ := HHB.out p hpl
            have hsm := HSM.out hs[p] (List.getElem_mem hpl)
            have KS := Lib.hid (seek_any (fun _ => False) C s wr d HC.out (fun _ h => h.elim) (s.he + s.bh + 1) (by omega))
            obtain ⟨a3, cu3, re3, RI3, D3, hh⟩ := seeks_step hs p0 p d s a cur rest HR.out HD.out (s.he + s.bh + 1) (Nat.le_refl _) hpp HP.out hend
            have hsome : (seekP d (s.he + s.bh + 1) s).1 = some (toHN hs[p]) := by
              rcases hh with ⟨h, _⟩ | ⟨_, h⟩
              · omega
              · exact h
            obtain ⟨s2, hs2⟩ : ∃ s2, s2 = (seekP d (s.he + s.bh + 1) s).2 := ⟨_, rfl⟩
            rw [hsome, ← hs2] at KS
            rw [← hs2] at RI3
            obtain ⟨hp, hhp⟩ : ∃ hp, hp = hs[p] := ⟨_, rfl⟩
            rw [← hhp] at KS x1 x2 h6 ex1 ex2 ex3 hsm
            obtain ⟨q, hq⟩ : ∃ q, q = hp.1 := ⟨_, rfl⟩
            obtain ⟨mm, hmm⟩ : ∃ mm, mm = hp.2.length := ⟨_, rfl⟩
            rw [← hq] at x1 ex1
            rw [← hmm] at x2 ex2 hsm
            have HMM := Lib.hid hmm
            have HRI3 := Lib.hid RI3
            have HD3 := Lib.hid D3
            have HEX := Lib.hid (And.intro ex1 (And.intro ex2 ex3))
            have HX : Hid (∀ W, Below w.heap.size w W → W.cell? ⟨b1, o1 + p * 2, none⟩ = some (.int .i64 q) ∧ W.cell? ⟨b1, o1 + p * 2 + 1, none⟩ = some (.slice A6 mm c6) ∧ CS W W.heap.size A6 (hp.2.map eI)) := fun W hW => ⟨(hW.cell hltb).trans x1, (hW.cell hltb).trans x2, h6.up' hW⟩
            have hpI : (p : Int) < (n : Int) := by omega
            have hpb : decide ((p : Int) < (n : Int)) = true := decide_eq_true hpI
            have hx1 := (HX.out wr HB.out).1
            have hdI : ¬ q < d := by rw [hq, hhp]; have := hend hpl; omega
            have hdb : decide (q < d) = false := decide_eq_false hdI
            clear hcl x1 x2 h6 ex1 ex2 ex3 RI3 D3 hsome hs2 hhp hq hmm hh
            go_wp2_with fail
            with_reducible refine KS.out.mono ?_
            rintro e w6 ⟨v6, rfl, hv6, hc6, k6⟩
            obtain ⟨A5, c5, rfl, _, _, h5, _⟩ := hv6
            rw [HEX.out.2.2] at h5
            rw [HEX.out.2.1, HEX.out.1]
            have HB6 := Lib.hid (HB.out.trans (k6.below hC3 HB.out.size))
            obtain ⟨W5, hW5⟩ : ∃ W5, w6.alloc (.cells #[.int .i64 q, .slice A5 mm c5] 37) = W5 := ⟨_, rfl⟩
            have bA : Below w6.heap.size w6 W5 := by rw [← hW5]; exact (Below.refl _ _).alloc (Nat.le_refl _) _
            have y0 : W5.cell? ⟨w6.heap.size, 0, none⟩ = some (.int .i64 q) := by rw [← hW5]; simp
            have y1 : W5.cell? ⟨w6.heap.size, 1, none⟩ = some (.slice A5 mm c5) := by rw [← hW5]; simp
            have HW0 := Lib.hid hW5
            have HB7 := Lib.hid (HB6.out.trans (bA.mono HB6.out.size))
            have HC7 := Lib.hid (hc6.below bA)
            have h5' := h5.up' bA
            obtain ⟨x1, x2, h6⟩ := HX.out W5 HB7.out
            have z0 : ∀ r : WB W5.heap.size W5, r.w.cell? ⟨w6.heap.size, 0, none⟩ = some (.int .i64 q) := fun r => (r.ok.cell (World.block_lt_of_cell? W5 _ y0)).trans y0
            have z1 : ∀ r : WB W5.heap.size W5, r.w.cell? ⟨w6.heap.size, 1, none⟩ = some (.slice A5 mm c5) := fun r => (r.ok.cell (World.block_lt_of_cell? W5 _ y1)).trans y1
            have z3 : ∀ r : WB W5.heap.size W5, r.w.cell? ⟨b1, o1 + p * 2, none⟩ = some (.int .i64 q) := fun r => (r.ok.cell (World.block_lt_of_cell? W5 _ x1)).trans x1
            have z4 : ∀ r : WB W5.heap.size W5, r.w.cell? ⟨b1, o1 + p * 2 + 1, none⟩ = some (.slice A6 mm c6) := fun r => (r.ok.cell (World.block_lt_of_cell? W5 _ x2)).trans x2
            have KSM : Hid (∀ r : WB W5.heap.size W5, Calls Try.prog 23 #[.agg #[.int .i64 q, .slice A5 mm c5], .agg #[.int .i64 q, .slice A6 mm c6]] r.w fun e w' => e = .returned (.bool true) ∧ Below r.w.heap.size r.w w') := fun r =>
              (same_any q q A5 A6 mm c5 mm c6 hp.2 hp.2 HMM.out HMM.out (by omega) r.w (h5'.up' r.ok) (h6.up' r.ok)).mono fun e w' h => by
                rw [decide_eq_true ⟨rfl, rfl⟩] at h
                exact h
            have wp1 : IntKind.i64.wrap ((p : Int) + 1) = (p : Int) + 1 := by rw [IntKind.wrap_i64]; omega
            clear hW5 bA y0 y1 x1 x2 h5 h5' h6 hc6 k6
            go_wp2_with fail
            rw [HW0.out]
            refine wp_region_quietB W5.heap.size W5 hmx (by kernel_rfl) (Below.refl _ _) ?_
            repeat (go_big_quiet_step ((go_at_call 23; with_reducible exact calls_quietB (KSM.out _) (Nat.le_refl _))))
            refine wpQuiet_nil ?_
            intro _ hw'
            obtain ⟨pq, rfl⟩ := hw'
            go_wp2_with fail
            exact ⟨⟨j + 1, p + 1, s2, a3, cu3, re3, hlt, by go_num, by go_num, by omega, HRI3, HD3, HC7.out.below pq.ok, HB7.out.trans (pq.ok.mono HB7.out.size)⟩, by simp [intOf]; omega⟩
        · have hend : ∀ h : p < hs.length, d ≤ hs[p].1 := fun h => absurd h (by rw [← hn.out.1]; exact hpn2)
          have KS := Lib.hid (seek_any (fun _ => False) C s wr d HC.out (fun _ h => h.elim) (s.he + s.bh + 1) (by omega))
          obtain ⟨a3, cu3, re3, RI3, D3, hh⟩ := seeks_step hs p0 p d s a cur rest HR.out HD.out (s.he + s.bh + 1) (Nat.le_refl _) hpp HP.out hend
          have hnone : (seekP d (s.he + s.bh + 1) s).1 = none := by
            rcases hh with ⟨_, h⟩ | ⟨h, _⟩
            · exact h
            · have := hn.out.1; omega
          obtain ⟨s2, hs2⟩ : ∃ s2, s2 = (seekP d (s.he + s.bh + 1) s).2 := ⟨_, rfl⟩
          rw [hnone, ← hs2] at KS
          rw [← hs2] at RI3
          have HRI3 := Lib.hid RI3
          have HD3 := Lib.hid D3
          have hpI : ¬ (p : Int) < (n : Int) := by omega
          have hpb : decide ((p : Int) < (n : Int)) = false := decide_eq_false hpI
          clear RI3 D3 hnone hs2 hh
          go_wp2_with fail
          with_reducible refine KS.out.mono ?_
          rintro e w6 ⟨v6, rfl, hv6, hc6, k6⟩
          obtain rfl : v6 = _ := hv6
          have HB6 := Lib.hid (HB.out.trans (k6.below hC3 HB.out.size))
          obtain ⟨W5, hW5⟩ : ∃ W5, w6.alloc (.cells #[.int .i64 0, .slice none 0 0] 37) = W5 := ⟨_, rfl⟩
          have bA : Below w6.heap.size w6 W5 := by rw [← hW5]; exact (Below.refl _ _).alloc (Nat.le_refl _) _
          have y0 : W5.cell? ⟨w6.heap.size, 0, none⟩ = some (.int .i64 0) := by rw [← hW5]; simp
          have y1 : W5.cell? ⟨w6.heap.size, 1, none⟩ = some (.slice none 0 0) := by rw [← hW5]; simp
          have HW0 := Lib.hid hW5
          have HB7 := Lib.hid (HB6.out.trans (bA.mono HB6.out.size))
          have HC7 := Lib.hid (hc6.below bA)
          have z0 : ∀ r : WB W5.heap.size W5, r.w.cell? ⟨w6.heap.size, 0, none⟩ = some (.int .i64 0) := fun r => (r.ok.cell (World.block_lt_of_cell? W5 _ y0)).trans y0
          have z1 : ∀ r : WB W5.heap.size W5, r.w.cell? ⟨w6.heap.size, 1, none⟩ = some (.slice none 0 0) := fun r => (r.ok.cell (World.block_lt_of_cell? W5 _ y1)).trans y1
          have wp1 : IntKind.i64.wrap ((p : Int) + 1) = (p : Int) + 1 := by rw [IntKind.wrap_i64]; omega
          clear hW5 bA y0 y1 hc6 k6
          go_wp2_with fail
          rw [HW0.out]
          refine wp_region_quietB W5.heap.size W5 hmx (by kernel_rfl) (Below.refl _ _) ?_
          repeat (go_big_quiet_step (fail))
          refine wpQuiet_nil ?_
          intro _ hw'
          obtain ⟨pq, rfl⟩ := hw'
          go_wp2_with fail
          exact ⟨⟨j + 1, p + 1, s2, a3, cu3, re3, hlt, by go_num, by go_num, by omega, HRI3, HD3, HC7.out.below pq.ok, HB7.out.trans (pq.ok.mono HB7.out.size)⟩, by simp [intOf]; omega⟩
    · go_wp2_with fail
      go_loopw [8] (fun s8 wr => ∃ (p : Nat) (s : PS) (a : Int) (cur rest : List HI), s8 = .int .i64 p ∧ p ≤ n + 60 ∧ Hid (RI [] s a cur rest) ∧ Hid (cur ++ rest = hs.drop p) ∧ Hid (Cur (fun _ => False) wr C s) ∧ Below w.heap.size w wr) (fun s8 _ => n - (intOf s8).toNat)
      case atStart => exact ⟨p0, s, a, cur, rest, rfl, by omega, HR, HD, HC, HB.out⟩
      case round =>
        obtain ⟨p, s, a, cur, rest, rfl, hpn, HR, HD, HC, hb⟩ := hrel
        have HB := Lib.hid hb
        clear hb
        by_cases hpn2 : p < n
        · have hpl : p < hs.length := by rw [← hn.out.1]; exact hpn2
          have hend : ∀ h : p < hs.length, 0 ≤ hs[p].1 := fun h => HPOS.out _ (List.getElem_mem h)
          obtain ⟨b1, o1, rfl, hltb, hcl⟩ := HCS.out (by omega)
          obtain ⟨x1, A6, c6, x2, _, _, h6⟩ := hcl p hpl
          obtain ⟨ex1, ex3, ex2⟩ := HHB.out p hpl
          have hsm := HSM.out hs[p] (List.getElem_mem hpl)
          have KS := Lib.hid (next_any (fun _ => False) C s wr HC.out (fun _ h => h.elim) (s.he + s.bh + 1) (by omega))
          obtain ⟨a3, cu3, re3, RI3, D3, hh⟩ := seeks_step hs p p 0 s a cur rest HR.out HD.out (s.he + s.bh + 1) (Nat.le_refl _) (Nat.le_refl _) (fun i _ h1 h2 => absurd h1 (by omega)) hend
          have hsome : (seekP 0 (s.he + s.bh + 1) s).1 = some (toHN hs[p]) := by
            rcases hh with ⟨h, _⟩ | ⟨_, h⟩
            · omega
            · exact h
          obtain ⟨s2, hs2⟩ : ∃ s2, s2 = (seekP 0 (s.he + s.bh + 1) s).2 := ⟨_, rfl⟩
          rw [hsome, ← hs2] at KS
          rw [← hs2] at RI3
          obtain ⟨hp, hhp⟩ : ∃ hp, hp = hs[p] := ⟨_, rfl⟩
          rw [← hhp] at KS x1 x2 h6 ex1 ex2 ex3 hsm
          obtain ⟨q, hq⟩ : ∃ q, q = hp.1 := ⟨_, rfl⟩
          obtain ⟨mm, hmm⟩ : ∃ mm, mm = hp.2.length := ⟨_, rfl⟩
          rw [← hq] at x1 ex1
          rw [← hmm] at x2 ex2 hsm
          have HMM := Lib.hid hmm
          have HRI3 := Lib.hid RI3
          have HD3 := Lib.hid D3
          have HEX := Lib.hid (And.intro ex1 (And.intro ex2 ex3))
          have HX : Hid (∀ W, Below w.heap.size w W → W.cell? ⟨b1, o1 + p * 2, none⟩ = some (.int .i64 q) ∧ W.cell? ⟨b1, o1 + p * 2 + 1, none⟩ = some (.slice A6 mm c6) ∧ CS W W.heap.size A6 (hp.2.map eI)) := fun W hW => ⟨(hW.cell hltb).trans x1, (hW.cell hltb).trans x2, h6.up' hW⟩
          have hpI : (p : Int) < (n : Int) := by omega
          have hpb : decide ((p : Int) < (n : Int)) = true := decide_eq_true hpI
          have hx1 := (HX.out wr HB.out).1
          clear hcl x1 x2 h6 ex1 ex2 ex3 RI3 D3 hsome hs2 hhp hq hmm hh
          go_wp2_with fail
          with_reducible refine KS.out.mono ?_
          rintro e w6 ⟨v6, rfl, hv6, hc6, k6⟩
          obtain ⟨A5, c5, rfl, _, _, h5, _⟩ := hv6
          rw [HEX.out.2.2] at h5
          rw [HEX.out.2.1, HEX.out.1]
          have HB6 := Lib.hid (HB.out.trans (k6.below hC3 HB.out.size))
          obtain ⟨W5, hW5⟩ : ∃ W5, w6.alloc (.cells #[.int .i64 q, .slice A5 mm c5] 37) = W5 := ⟨_, rfl⟩
          have bA : Below w6.heap.size w6 W5 := by rw [← hW5]; exact (Below.refl _ _).alloc (Nat.le_refl _) _
          have y0 : W5.cell? ⟨w6.heap.size, 0, none⟩ = some (.int .i64 q) := by rw [← hW5]; simp
          have y1 : W5.cell? ⟨w6.heap.size, 1, none⟩ = some (.slice A5 mm c5) := by rw [← hW5]; simp
          have HW0 := Lib.hid hW5
          have HB7 := Lib.hid (HB6.out.trans (bA.mono HB6.out.size))
          have HC7 := Lib.hid (hc6.below bA)
          have h5' := h5.up' bA
          obtain ⟨x1, x2, h6⟩ := HX.out W5 HB7.out
          have z0 : ∀ r : WB W5.heap.size W5, r.w.cell? ⟨w6.heap.size, 0, none⟩ = some (.int .i64 q) := fun r => (r.ok.cell (World.block_lt_of_cell? W5 _ y0)).trans y0
          have z1 : ∀ r : WB W5.heap.size W5, r.w.cell? ⟨w6.heap.size, 1, none⟩ = some (.slice A5 mm c5) := fun r => (r.ok.cell (World.block_lt_of_cell? W5 _ y1)).trans y1
          have z3 : ∀ r : WB W5.heap.size W5, r.w.cell? ⟨b1, o1 + p * 2, none⟩ = some (.int .i64 q) := fun r => (r.ok.cell (World.block_lt_of_cell? W5 _ x1)).trans x1
          have z4 : ∀ r : WB W5.heap.size W5, r.w.cell? ⟨b1, o1 + p * 2 + 1, none⟩ = some (.slice A6 mm c6) := fun r => (r.ok.cell (World.block_lt_of_cell? W5 _ x2)).trans x2
          have KSM : Hid (∀ r : WB W5.heap.size W5, Calls Try.prog 23 #[.agg #[.int .i64 q, .slice A5 mm c5], .agg #[.int .i64 q, .slice A6 mm c6]] r.w fun e w' => e = .returned (.bool true) ∧ Below r.w.heap.size r.w w') := fun r =>
            (same_any q q A5 A6 mm c5 mm c6 hp.2 hp.2 HMM.out HMM.out (by omega) r.w (h5'.up' r.ok) (h6.up' r.ok)).mono fun e w' h => by
              rw [decide_eq_true ⟨rfl, rfl⟩] at h
              exact h
          have wp1 : IntKind.i64.wrap ((p : Int) + 1) = (p : Int) + 1 := by rw [IntKind.wrap_i64]; omega
          clear hW5 bA y0 y1 x1 x2 h5 h5' h6 hc6 k6
          go_wp2_with fail
          rw [HW0.out]
          refine wp_region_quietB W5.heap.size W5 hmx (by kernel_rfl) (Below.refl _ _) ?_
          repeat (go_big_quiet_step ((go_at_call 23; with_reducible exact calls_quietB (KSM.out _) (Nat.le_refl _))))
          refine wpQuiet_nil ?_
          intro _ hw'
          obtain ⟨pq, rfl⟩ := hw'
          go_wp2_with fail
          exact ⟨⟨p + 1, s2, a3, cu3, re3, by go_num, by omega, HRI3, HD3, HC7.out.below pq.ok, HB7.out.trans (pq.ok.mono HB7.out.size)⟩, by simp [intOf]; omega⟩
        · have hend : ∀ h : p < hs.length, 0 ≤ hs[p].1 := fun h => HPOS.out _ (List.getElem_mem h)
          have KS := Lib.hid (next_any (fun _ => False) C s wr HC.out (fun _ h => h.elim) (s.he + s.bh + 1) (by omega))
          obtain ⟨a3, cu3, re3, RI3, D3, hh⟩ := seeks_step hs p p 0 s a cur rest HR.out HD.out (s.he + s.bh + 1) (Nat.le_refl _) (Nat.le_refl _) (fun i _ h1 h2 => absurd h1 (by omega)) hend
          have hnone : (seekP 0 (s.he + s.bh + 1) s).1 = none := by
            rcases hh with ⟨_, h⟩ | ⟨h, _⟩
            · exact h
            · have := hn.out.1; omega
          obtain ⟨s2, hs2⟩ : ∃ s2, s2 = (seekP 0 (s.he + s.bh + 1) s).2 := ⟨_, rfl⟩
          rw [hnone, ← hs2] at KS
          rw [← hs2] at RI3
          have HRI3 := Lib.hid RI3
          have HD3 := Lib.hid D3
          have hpI : ¬ (p : Int) < (n : Int) := by omega
          have hpb : decide ((p : Int) < (n : Int)) = false := decide_eq_false hpI
          clear RI3 D3 hnone hs2 hh
          go_wp2_with fail
          with_reducible refine KS.out.mono ?_
          rintro e w6 ⟨v6, rfl, hv6, hc6, k6⟩
          obtain rfl : v6 = _ := hv6
          have HB6 := Lib.hid (HB.out.trans (k6.below hC3 HB.out.size))
          have HB7 := Lib.hid (HB6.out.alloc HB6.out.size (.cells #[.int .i64 0, .slice none 0 0] 37))
          have KN := Lib.hid (seek_none 0 (w6.alloc (.cells #[.int .i64 0, .slice none 0 0] 37)))
          clear hc6 k6
          go_wp2_with fail
          with_reducible refine KN.out.mono ?_
          rintro e w7 ⟨rfl, b7⟩
          have HB8 := Lib.hid (HB7.out.trans (b7.mono HB7.out.size))
          clear b7
          go_wp2_with fail
          go_ret
          exact ⟨rfl, HB8.out.alloc HB8.out.size _⟩
end Go.Proofs.Ytjigaoclngfcaaa
