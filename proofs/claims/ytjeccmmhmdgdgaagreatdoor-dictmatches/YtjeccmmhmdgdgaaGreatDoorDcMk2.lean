/- dict.Make, whole. -/
import Derived.Test.YtjeccmmhmdgdgaaGreatDoorDcMk
namespace Go.Proofs.YtjeccmmhmdgdgaaGreatDoor.Dc
open Go.RowKit Go.Sort
set_option maxRecDepth 100000

set_option maxHeartbeats 4000000 in
theorem make_any (A : Option Addr) (cap : Nat) (xs : List TX) (hl : xs.length ≤ 1000) (hx : ∀ x ∈ xs, x.length ≤ 1000) (w : World) (hI : CS w w.heap.size A (xs.map encStr)) :
    Calls Tryz.prog 7 #[.slice A xs.length cap] w fun e w' => ∃ v, e = .returned (.agg #[v]) ∧ w'.ownsRow w.heap.size 9 1 v (dct xs).length ((dct xs).map encStr) ∧ Below w.heap.size w w' := by
  obtain ⟨i0, hi, hz0, hz1, hz2⟩ := info_parts infoStr
  have dl := dct_len xs
  have HX : Hid (∀ x ∈ dct xs, x.length ≤ 1000) := fun x h => hx x ((dct_mem xs x).1 h)
  obtain ⟨wd, hwd⟩ : ∃ wd, dct xs = wd := ⟨_, rfl⟩
  rw [hwd] at HX dl ⊢
  obtain ⟨W0, hW0⟩ : ∃ W0, w.alloc (.cells #[.slice none 0 0] 34) = W0 := ⟨_, rfl⟩
  have b0 : Below w.heap.size w W0 := by rw [← hW0]; exact (Below.refl _ _).alloc (Nat.le_refl _) _
  have s0 : W0.heap.size = w.heap.size + 1 := by rw [← hW0]; simp
  have c0 : W0.cell? ⟨w.heap.size, 0, none⟩ = some (.slice none 0 0) := by rw [← hW0]; exact (DV.new w).c0
  have f0 : W0.frozen? ⟨w.heap.size, 0, none⟩ = false := by rw [← hW0]; exact (DV.new w).fr
  have bV : Below W0.heap.size W0 (W0.alloc (.cells #[.slice A xs.length cap] 22)) := (Below.refl _ _).alloc (Nat.le_refl _) _
  have HSO := Lib.hid (sorted_any W0.heap.size cap A xs (by omega) (W0.alloc (.cells #[.slice A xs.length cap] 22)) (by simp) (by
    have z := new_cells W0 #[.slice A xs.length cap] 22 (0, 0) 0 _ rfl
    rwa [add_addr, Nat.zero_add] at z) (((hI.below b0).more b0.size).below bV |>.more bV.size))
  have HB0 := Lib.hid (b0.trans (bV.mono b0.size))
  have HC0 := Lib.hid (And.intro c0 f0)
  have HS0 := Lib.hid s0
  obtain ⟨N, hN⟩ : ∃ N, N = xs.length := ⟨_, rfl⟩
  rw [← hN] at HSO HB0
  have HN := Lib.hid hN
  rw [← hN] at hl dl ⊢
  have dl' := dl
  clear hI hx b0 bV c0 f0 s0 hN
  go_enter Tryz.func7, Tryz.ntmps7
  go_wp2_with fail
  refine (values_any A N cap _).mono ?_
  rintro e w1 ⟨rfl, rfl⟩
  go_wp2_with fail
  refine HSO.out.mono ?_
  rintro e w2 ⟨v2, rfl, hr2, hb2⟩
  obtain ⟨W3, hW3⟩ : ∃ W3, w2.alloc (.cells #[.slice none 0 0] 34) = W3 := ⟨_, rfl⟩
  have b23 : Below w2.heap.size w2 W3 := by rw [← hW3]; exact (Below.refl _ _).alloc (Nat.le_refl _) _
  have HDV : Hid (DV W3 w2.heap.size [] (.slice none 0 0)) := by rw [← hW3]; exact DV.new w2
  obtain ⟨A2, c2, rfl, _, _, _, hob⟩ := own_form hr2
  have hS := HS0.out
  have hbs : w.heap.size + 2 ≤ w2.heap.size := by have := hb2.size; simp at this; omega
  have HOB : Hid (∀ b, (Value.slice A2 N c2).ownBlock = some b → w.heap.size + 2 ≤ b ∧ b < w2.heap.size) := fun b hb => by have := hob b hb; simp at this; omega
  have HCO := Lib.hid (compact_own _ (.slice A2 N c2) N (srt xs) (by rw [srt_len]; exact HN.out.symm) (by omega) W3 (own_below hr2 b23))
  rw [show Lib.compact (srt xs) = wd from hwd] at HCO
  have HB3 : Hid (Below (w.heap.size + 2) (W0.alloc (.cells #[.slice A N cap] 22)) W3) := by
    have e : (W0.alloc (.cells #[.slice A N cap] 22)).heap.size = w.heap.size + 2 := by simp; omega
    rw [e] at hb2
    exact hb2.trans (b23.mono hbs)
  have HW3 : Hid (w2.heap.size < W3.heap.size) := by show _ < _; rw [← hW3]; simp
  clear hr2 hb2 b23 hob hS
  go_wp2_with fail
  with_reducible refine HCO.out.mono ?_
  rintro e w4 ⟨A4, c4, rfl, h4c, h4m, hcs4, hg4⟩
  have HCS := Lib.hid (hcs4 w2.heap.size fun b hb => (HOB.out b hb).2)
  have HD4 := Lib.hid (HDV.out.nilkeep hg4 (fun e => by have := (HOB.out _ e).2; omega))
  have HB4 := Lib.hid (HB3.out.grown hg4 (by have := HW3.out; omega) (fun b hb => (HOB.out b hb).1))
  clear hcs4 hg4 HOB HCO HDV HB3 HW3
  have hDne : w.heap.size ≠ w2.heap.size := by omega
  have hD2 : w.heap.size < w2.heap.size := by omega
  have HBW : Hid (Below (w.heap.size + 2) (W0.alloc (.cells #[.slice A N cap] 22)) w4) := HB4
  have HRC : Hid (w4.cell? ⟨w.heap.size, 0, none⟩ = some (.slice none 0 0) ∧ w4.frozen? ⟨w.heap.size, 0, none⟩ = false ∧ Below w.heap.size w w4) := by
    have hs := HS0.out
    have b1 : Below W0.heap.size W0 (W0.alloc (.cells #[.slice A N cap] 22)) := (Below.refl _ _).alloc (Nat.le_refl _) _
    refine ⟨?_, ?_, ?_⟩
    · exact ((HB4.out.cell (p := ⟨w.heap.size, 0, none⟩) (by show w.heap.size < w.heap.size + 2; omega)).trans (b1.cell (p := ⟨w.heap.size, 0, none⟩) (by show w.heap.size < _; omega))).trans HC0.out.1
    · exact ((HB4.out.frozen (p := ⟨w.heap.size, 0, none⟩) (by show w.heap.size < w.heap.size + 2; omega)).trans (b1.frozen (p := ⟨w.heap.size, 0, none⟩) (by show w.heap.size < _; omega))).trans HC0.out.2
    · exact HB0.out.trans (HB4.out.mono (by show w.heap.size ≤ w.heap.size + 2; omega))
  clear HB4 HBW HC0 HB0 HSO
  unfold maxLen at h4m
  go_wp2_with fail
  go_loopw [13] (fun i wr => ∃ (k : Nat) (v : Value), k ≤ wd.length ∧ i = .int .i64 k ∧ Hid (DV wr w2.heap.size (wd.take k) v) ∧ Below w2.heap.size w4 wr) (fun i _ => wd.length - (intOf i).toNat)
  case atStart => exact ⟨0, _, Nat.zero_le _, rfl, HD4, Below.refl _ _⟩
  case round =>
    obtain ⟨k, v, hk, rfl, HV, hb⟩ := hrel
    clear HD4
    by_cases hlt : k < wd.length
    · have hkw : k < wd.length := hlt
      obtain ⟨b4, o4, rfl, hb4, hc4⟩ := HCS.out (by rw [List.length_map]; omega)
      obtain ⟨x, hx⟩ : ∃ x, x = wd[k] := ⟨_, rfl⟩
      have hcx : wr.cell? ⟨b4, o4 + k, none⟩ = some (.string ⟨x.toArray⟩) := by rw [hx]; exact (hb.cell (p := ⟨b4, o4 + k, none⟩) hb4).trans (hc4 k _ (enc_cells_at wd k hkw))
      have HXS : Hid ((⟨x.toArray⟩ : ByteArray).size ≤ 100000000) := by show _ ≤ _; have := HX.out x (by rw [hx]; exact List.getElem_mem hkw); simp [ByteArray.size]; omega
      have HTK : Hid (wd.take (k + 1) = wd.take k ++ [x]) := by show _ = _; rw [hx]; exact List.take_succ_eq_append_getElem hkw
      have hlk : (wd.take k).length = k := by rw [List.length_take]; omega
      have HLK := Lib.hid hlk
      obtain ⟨Av, cv, rfl, hcv1, hcv2, _, _⟩ := own_form HV.out.r0
      rw [hlk] at HV hcv1
      have cz := HV.out.c0
      have hltz := HV.out.lt
      obtain ⟨ss, hss⟩ : ∃ ss, ss = (⟨x.toArray⟩ : ByteArray) := ⟨_, rfl⟩
      rw [← hss] at hcx HXS
      have HSS := Lib.hid hss
      unfold maxLen at hcv2
      clear hx hlk hc4 hss
      go_wp2_with fail
      go_region_law ((first
          | (refine step_append_lies _ (by rfl) _ _ _ (by rfl) (w2.heap.size + 1) 9 i0 _ 1 16 Tryz.underlying22 hi hz0 hz1 hz2 rfl (by omega) (.slice Av k cv) k ((wd.take k).map encStr) (by rfl) (HR5.out.alloc _) ⟨w5.heap.size, 0, none⟩ 1 1 [.string ss] (by rfl) (by rfl) (World.news_of_block (cs := #[.string ss]) (t := 9) (fr := (0, 0)) (heap_alloc_new w5 _)) (by simp [Value.oneCell']) (by omega) (by unfold maxLen; omega) (by omega) (by have := HV5.out.lt; simp; omega) (w5.heap.size + 1) (by simp) ?_; intro gg cap w6 hown6 hgrow hat hlt6; have k6 := (HV5.out.last _ hgrow).1; have f6 := (HV5.out.last _ hgrow).2.1)
          | (go_simp; go_at_call 20; refine (clone_any _ HXS.out _).mono ?_; rintro e w5 ⟨rfl, hb5⟩; have hb5' : Below wr.heap.size wr w5 := (Below.refl _ _).drew.trans hb5; have HV5 := Lib.hid (HV.out.below hb5'); have HR5 : Hid (w5.ownsRow (w2.heap.size + 1) 9 1 (.slice Av k cv) k ((wd.take k).map encStr)) := (by have := HV5.out.r0; rw [HLK.out] at this; exact this); have cz5 := HV5.out.c0; have hlt5 := HV5.out.lt)))
      all_goals
        have hown7 := hown6
        rw [HSS.out] at hown7
        obtain ⟨b7, hv7⟩ := (HV5.out.last _ hgrow).2.2 gg cap x (by rw [HLK.out]; exact hown7)
        rw [HLK.out] at b7 hv7
        rw [← HTK.out] at hv7
        have HV7 := Lib.hid hv7
        have HB7 := Lib.hid (hb.trans ((hb5'.mono (Nat.le_of_lt HV.out.lt)).trans b7))
        clear b7 hv7 hown7 k6 f6 hown6 hgrow hat hlt6 cz cz5
        go_wp2_with fail
        exact ⟨⟨k + 1, _, by omega, by go_num, HV7, HB7.out⟩, by simp [intOf]; omega⟩
    · have hke : wd.take k = wd := List.take_of_length_le (by omega)
      rw [hke] at HV
      obtain ⟨Av, cv, rfl, hcv1, hcv2, _, _⟩ := own_form HV.out.r0
      have cz := HV.out.c0
      have rz : wr.cell? ⟨w.heap.size, 0, none⟩ = some (.slice none 0 0) := (hb.cell (p := ⟨w.heap.size, 0, none⟩) (by show w.heap.size < w2.heap.size; omega)).trans HRC.out.1
      have fz : wr.frozen? ⟨w.heap.size, 0, none⟩ = false := (hb.frozen (p := ⟨w.heap.size, 0, none⟩) (by show w.heap.size < w2.heap.size; omega)).trans HRC.out.2.1
      obtain ⟨ml, hml⟩ : ∃ ml, ml = wd.length := ⟨_, rfl⟩
      rw [← hml] at cz
      have HML := Lib.hid hml
      clear hke hml
      go_wp2_with fail
      obtain ⟨W9, hW9⟩ : ∃ W9, W9 = wr.setCell ⟨w.heap.size, 0, none⟩ (.slice Av ml cv) := ⟨_, rfl⟩
      rw [← hW9]
      have e0 : W9.cell? ⟨w.heap.size, 0, none⟩ = some (.slice Av ml cv) := by rw [hW9]; exact World.cell?_setCell_same _ _ _ (by rw [rz])
      refine bodyPost_ret (v := .agg #[.slice Av ml cv]) (by simp [results, Tryz.results7, go_sem, e0]) rfl ?_
      refine ⟨_, rfl, ?_, ?_⟩
      · rw [hW9, HML.out]
        exact own_le (ownsRow_setCell_below HV.out.r0 (a := ⟨w.heap.size, 0, none⟩) (by show w.heap.size < w2.heap.size + 1; omega) _) (by omega)
      · rw [hW9]
        exact (HRC.out.2.2.trans (hb.mono (by omega))).setCell (p := ⟨w.heap.size, 0, none⟩) (Nat.le_refl _) _
end Go.Proofs.YtjeccmmhmdgdgaaGreatDoor.Dc
