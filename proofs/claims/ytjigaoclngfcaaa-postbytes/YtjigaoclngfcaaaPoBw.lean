/- PostBytes answers true. -/
import Derived.Test.YtjigaoclngfcaaaPoCw
import Derived.Test.YtjigaoclngfcaaaPoMb
namespace Go.Proofs.Ytjigaoclngfcaaa
open Go.RowKit
set_option maxRecDepth 100000

set_option maxHeartbeats 2000000 in
theorem lsame_any (A1 A2 : Option Addr) (n c1 c2 : Nat) (hs : List HI) (hn : Hid (n = hs.length)) (hnm : n ≤ 100000) (HSM : Hid (∀ h ∈ hs, h.2.length ≤ 1000000)) (w : World) (h1 : HS w w.heap.size A1 hs) (h2 : HS w w.heap.size A2 hs) :
    Calls Try.prog 20 #[.slice A1 n c1, .slice A2 n c2] w fun e w' => e = .returned (.bool true) ∧ Below w.heap.size w w' := by
  have HC1 := Lib.hid h1
  have HC2 := Lib.hid h2
  have hmx : Try.prog.follows .mixedOrders = true := by kernel_rfl
  clear h1 h2
  go_enter Try.func20, Try.ntmps20
  go_wp2_with fail
  go_loopw [13] (fun i wr => ∃ k : Nat, k ≤ n ∧ i = .int .i64 k ∧ Below w.heap.size w wr) (fun i _ => n - (intOf i).toNat)
  case atStart => exact ⟨0, Nat.zero_le _, rfl, Below.refl _ _⟩
  case round =>
    obtain ⟨k, hk, rfl, hb⟩ := hrel
    have HB := Lib.hid hb
    by_cases hlt : k < n
    · have hkx : k < hs.length := by rw [← hn.out]; exact hlt
      obtain ⟨b, o, rfl, _, hc⟩ := (HC1.out.below hb) (by omega)
      obtain ⟨b2, o2, rfl, _, hd⟩ := (HC2.out.below hb) (by omega)
      obtain ⟨hc1, Ak, ck, hc2, _, _, hck⟩ := hc k hkx
      obtain ⟨hd1, Bk, dk, hd2, _, _, hdk⟩ := hd k hkx
      have hsm := HSM.out hs[k] (List.getElem_mem hkx)
      obtain ⟨h, hh⟩ : ∃ h, h = hs[k] := ⟨_, rfl⟩
      rw [← hh] at hc1 hc2 hck hd1 hd2 hdk hsm
      obtain ⟨d, ps⟩ := h
      simp only at hc1 hc2 hck hd1 hd2 hdk hsm
      obtain ⟨m, hm⟩ : ∃ m, m = ps.length := ⟨_, rfl⟩
      rw [← hm] at hc2 hd2 hsm
      have z1 : ∀ r : WB wr.heap.size wr, r.w.cell? ⟨b, o + k * 2, none⟩ = some (.int .i64 d) := fun r => (r.ok.cell (World.block_lt_of_cell? wr _ hc1)).trans hc1
      have z2 : ∀ r : WB wr.heap.size wr, r.w.cell? ⟨b, o + k * 2 + 1, none⟩ = some (.slice Ak m ck) := fun r => (r.ok.cell (World.block_lt_of_cell? wr _ hc2)).trans hc2
      have z3 : ∀ r : WB wr.heap.size wr, r.w.cell? ⟨b2, o2 + k * 2, none⟩ = some (.int .i64 d) := fun r => (r.ok.cell (World.block_lt_of_cell? wr _ hd1)).trans hd1
      have z4 : ∀ r : WB wr.heap.size wr, r.w.cell? ⟨b2, o2 + k * 2 + 1, none⟩ = some (.slice Bk m dk) := fun r => (r.ok.cell (World.block_lt_of_cell? wr _ hd2)).trans hd2
      have e1 := (hck.more hb.size)
      have e2 := (hdk.more hb.size)
      have KSM : Hid (∀ r : WB wr.heap.size wr, Calls Try.prog 23 #[.agg #[.int .i64 d, .slice Ak m ck], .agg #[.int .i64 d, .slice Bk m dk]] r.w fun e w' => e = .returned (.bool true) ∧ Below r.w.heap.size r.w w') := fun r =>
        (same_any d d Ak Bk m ck m dk ps ps hm hm (by omega) r.w (e1.up' r.ok) (e2.up' r.ok)).mono fun e w' h => by
          rw [decide_eq_true ⟨rfl, rfl⟩] at h
          exact h
      clear hc hd hc1 hc2 hck hd1 hd2 hdk hh hm e1 e2 hb
      go_wp2_with fail
      refine wp_region_quietB wr.heap.size wr hmx (by kernel_rfl) (Below.refl _ _) ?_
      repeat (go_big_quiet_step ((go_at_call 23; with_reducible exact calls_quietB (KSM.out _) (Nat.le_refl _))))
      refine wpQuiet_nil ?_
      intro _ hw'
      obtain ⟨pq, rfl⟩ := hw'
      go_wp2_with fail
      exact ⟨⟨k + 1, hlt, by go_num, HB.out.trans (pq.ok.mono HB.out.size)⟩, by simp [intOf]; omega⟩
    · obtain rfl : k = n := by omega
      go_wp2_with fail
      go_ret
      exact ⟨rfl, HB.out⟩
set_option maxHeartbeats 1000000 in
theorem pb_many (A : Option Addr) (n c : Nat) (hs : List HI) (hn : Hid (n = hs.length ∧ fewH hs = false)) (hnm : n ≤ 9223372036854775807) (w : World) (hI : HS w w.heap.size A hs) :
    Calls Try.prog 3 #[.slice A n c] w fun e w' => e = .returned (.bool true) ∧ Below w.heap.size w w' := by
  have HCS := Lib.hid hI
  clear hI
  go_enter Try.func3, Try.ntmps3
  go_wp2_with fail
  with_reducible refine (head_any _).mono ?_
  rintro e w1 ⟨rfl, b1⟩
  have KF := Lib.hid (few_any A n c hs hn.out.1 hnm w1 ((HCS.out.below b1).more b1.size))
  rw [hn.out.2] at KF
  go_wp2_with fail
  with_reducible refine KF.out.mono ?_
  rintro e w2 ⟨rfl, b2⟩
  have hb := b1.trans (b2.mono b1.size)
  clear b1 b2 KF
  go_wp2_with fail
  go_ret
  exact ⟨rfl, hb⟩
set_option maxHeartbeats 2000000 in
theorem pb_wrong (A : Option Addr) (n c : Nat) (hs : List HI) (hn : Hid (n = hs.length ∧ fewH hs = true ∧ rgt (-1) hs = false)) (hnm : n ≤ 40) (w : World) (hI : HS w w.heap.size A hs) :
    Calls Try.prog 3 #[.slice A n c] w fun e w' => e = .returned (.bool true) ∧ Below w.heap.size w w' := by
  have HCS := Lib.hid hI
  have HSM : Hid (∀ h ∈ hs, h.2.length ≤ 100000) := fun h hh => Nat.le_trans ((fewH_some hn.out.2.1).2 h hh) (by decide)
  clear hI
  go_enter Try.func3, Try.ntmps3
  go_wp2_with fail
  with_reducible refine (head_any _).mono ?_
  rintro e w1 ⟨rfl, b1⟩
  have KF := Lib.hid (few_any A n c hs hn.out.1 (by omega) w1 ((HCS.out.below b1).more b1.size))
  rw [hn.out.2.1] at KF
  go_wp2_with fail
  with_reducible refine KF.out.mono ?_
  rintro e w2 ⟨rfl, b2⟩
  have hb := b1.trans (b2.mono b1.size)
  have KE := Lib.hid (enc_bad A n c hs hn.out.1 (by omega) w2 ((HCS.out.below hb).more hb.size) hn.out.2.2)
  have HB := Lib.hid hb
  clear b1 b2 KF hb
  go_wp2_with fail
  with_reducible refine KE.out.mono ?_
  rintro e w3 ⟨rfl, b3⟩
  have hb := HB.out.trans (b3.mono HB.out.size)
  have KR := Lib.hid (right_any A n c hs hn.out.1 (by omega) w3 ((HCS.out.below hb).more hb.size))
  rw [hn.out.2.2] at KR
  have HB3 := Lib.hid hb
  clear b3 KE hb HB
  go_wp2_with fail
  with_reducible refine KR.out.mono ?_
  rintro e w4 ⟨rfl, b4⟩
  have hb := HB3.out.trans (b4.mono HB3.out.size)
  have KL := Lib.hid (lright_any A n c hs hn.out.1 (by omega) w4 ((HCS.out.below hb).more hb.size) HSM)
  rw [hn.out.2.2] at KL
  have HB4 := Lib.hid hb
  clear b4 KR hb HB3
  go_wp2_with fail
  with_reducible refine KL.out.mono ?_
  rintro e w5 ⟨rfl, b5⟩
  have hb := HB4.out.trans (b5.mono HB4.out.size)
  have KM := Lib.hid (lright_any A n c hs hn.out.1 (by omega) w5 ((HCS.out.below hb).more hb.size) HSM)
  rw [hn.out.2.2] at KM
  have HB5 := Lib.hid hb
  clear b5 KL hb HB4
  go_wp2_with fail
  with_reducible refine KM.out.mono ?_
  rintro e w6 ⟨rfl, b6⟩
  go_wp2_with fail
  go_ret
  exact ⟨rfl, HB5.out.trans (b6.mono HB5.out.size)⟩
set_option maxHeartbeats 2000000 in
theorem pb_any (A : Option Addr) (n c : Nat) (hs : List HI) (hn : Hid (n = hs.length ∧ fewH hs = true ∧ rgt (-1) hs = true)) (hnm : n ≤ 40) (hnc : n ≤ c) (w : World) (hI : HS w w.heap.size A hs) :
    Calls Try.prog 3 #[.slice A n c] w fun e w' => e = .returned (.bool true) ∧ Below w.heap.size w w' := by
  have HCS := Lib.hid hI
  have HSM : Hid (∀ h ∈ hs, h.2.length ≤ 100000) := fun h hh => Nat.le_trans ((fewH_some hn.out.2.1).2 h hh) (by decide)
  have HSE : Hid (n = hs.length ∧ ∀ h ∈ hs, h.2.length ≤ 6000) := ⟨hn.out.1, fun h hh => Nat.le_trans ((fewH_some hn.out.2.1).2 h hh) (by decide)⟩
  obtain ⟨L, hL⟩ : ∃ L, L = eP hs := ⟨_, rfl⟩
  obtain ⟨l5, l0⟩ := eP_few hs hn.out.2.2 hn.out.2.1
  rw [← hL] at l5 l0
  obtain ⟨m, hm⟩ : ∃ m, m = L.length := ⟨_, rfl⟩
  rw [← hm] at l5 l0
  have HL := Lib.hid hL
  have HM := Lib.hid hm
  have HIH : Hid (decH L = hs ∧ isH L = true) := by show _ ∧ _; rw [HL.out]; exact isH_eP hs hn.out.2.2
  clear hI hL hm
  go_enter Try.func3, Try.ntmps3
  go_wp2_with fail
  with_reducible refine (head_any _).mono ?_
  rintro e w1 ⟨rfl, b1⟩
  have KF := Lib.hid (few_any A n c hs hn.out.1 (by omega) w1 ((HCS.out.below b1).more b1.size))
  rw [hn.out.2.1] at KF
  go_wp2_with fail
  with_reducible refine KF.out.mono ?_
  rintro e w2 ⟨rfl, b2⟩
  have hb := b1.trans (b2.mono b1.size)
  have KE := Lib.hid (enc_ok A n c hs HSE (by omega) hnc w2 ((HCS.out.below hb).more hb.size) hn.out.2.2)
  have HB := Lib.hid hb
  clear b1 b2 KF hb
  go_wp2_with fail
  with_reducible refine KE.out.mono ?_
  rintro e w3 ⟨v7, rfl, o7, b3⟩
  obtain ⟨A7, c7, rfl, hmc, hmm, hbs7, _⟩ := o7.form
  rw [← HL.out] at hbs7
  rw [← HL.out, ← HM.out]
  have HBS := Lib.hid hbs7
  have hb := HB.out.trans (b3.mono HB.out.size)
  have KR := Lib.hid (right_any A n c hs hn.out.1 (by omega) w3 ((HCS.out.below hb).more hb.size))
  rw [hn.out.2.2] at KR
  have HB3 := Lib.hid hb
  clear b3 KE hb HB o7 hbs7 hmc hmm
  go_wp2_with fail
  with_reducible refine KR.out.mono ?_
  rintro e w4 ⟨rfl, b4⟩
  have hb := HB3.out.trans (b4.mono HB3.out.size)
  have HBS4 := Lib.hid ((HBS.out.below b4).more b4.size)
  have KL := Lib.hid (lright_any A n c hs hn.out.1 (by omega) w4 ((HCS.out.below hb).more hb.size) HSM)
  rw [hn.out.2.2] at KL
  have HB4 := Lib.hid hb
  clear b4 KR hb HB3 HBS
  go_wp2_with fail
  with_reducible refine KL.out.mono ?_
  rintro e w5 ⟨rfl, b5⟩
  have hb := HB4.out.trans (b5.mono HB4.out.size)
  have HBS5 := Lib.hid ((HBS4.out.below b5).more b5.size)
  have KM := Lib.hid (lright_any A n c hs hn.out.1 (by omega) w5 ((HCS.out.below hb).more hb.size) HSM)
  rw [hn.out.2.2] at KM
  have HB5 := Lib.hid hb
  clear b5 KL hb HB4 HBS4
  go_wp2_with fail
  with_reducible refine KM.out.mono ?_
  rintro e w6 ⟨rfl, b6⟩
  have hb := HB5.out.trans (b6.mono HB5.out.size)
  have hbs6 := (HBS5.out.below b6).more b6.size
  have KD := Lib.hid (decode_any A7 m c7 L HM (by rw [← HM.out]; omega) w6 hbs6)
  have HB6 := Lib.hid hb
  clear b6 KM hb HB5 HBS5 hbs6
  go_wp2_with fail
  with_reducible refine KD.out.mono ?_
  rintro e w7 ⟨hT, _, b7⟩
  obtain ⟨A9, c9, rfl, _, _, hHS⟩ := hT HIH.out.2
  rw [HIH.out.1] at hHS
  rw [HIH.out.1, ← hn.out.1]
  have hb := HB6.out.trans (b7.mono HB6.out.size)
  have KS := Lib.hid (lsame_any A9 A n c9 c hs hn.out.1 (by omega) (fun h hh => Nat.le_trans (HSM.out h hh) (by decide)) w7 hHS ((HCS.out.below hb).more hb.size))
  have HB7 := Lib.hid hb
  clear b7 KD hb HB6 hT hHS
  go_wp2_with fail
  with_reducible refine KS.out.mono ?_
  rintro e w8 ⟨rfl, b8⟩
  go_wp2_with fail
  go_ret
  exact ⟨rfl, HB7.out.trans (b8.mono HB7.out.size)⟩
end Go.Proofs.Ytjigaoclngfcaaa
