/- through: the matches that are let through, each in memory of its own, apart from all else. -/
import Derived.Test.YtafbjadlklcicaaMaOc
import Derived.Deep.DeepCutAuto
namespace Go.Proofs.Ytafbjadlklcicaa
open Go.RowKit
set_option maxRecDepth 100000

/-- Matches in a row of their own, each of whose slices is a row of its own; no two rows are one. -/
structure MO (w0 wr : World) (v : Value) (zs : List (Value × Value)) (ms : List Mt) : Prop where
  own : wr.ownsRow w0.heap.size 60 2 v zs.length (zC zs)
  len : zs.length = ms.length
  rows : ∀ k (h1 : k < zs.length) (h2 : k < ms.length), RW wr w0.heap.size zs[k].1 ms[k].1 ∧ RW wr w0.heap.size zs[k].2 ms[k].2
  sep : ((v :: zC zs).map Value.ownBlock).Pairwise NB
  kb : Below w0.heap.size w0 wr
theorem MO.nil (w : World) : MO w w (.slice none 0 0) [] [] := ⟨⟨rfl, .inl ⟨rfl, rfl⟩⟩, rfl, fun _ h => absurd h (Nat.not_lt_zero _), by simp [zC], Below.refl _ _⟩
theorem MO.below {w0 wr w' : World} {v : Value} {zs : List (Value × Value)} {ms : List Mt} (h : MO w0 wr v zs ms) (hb : Below wr.heap.size wr w') : MO w0 w' v zs ms :=
  ⟨own_below h.own hb, h.len, fun k h1 h2 => ⟨own_below (h.rows k h1 h2).1 hb, own_below (h.rows k h1 h2).2 hb⟩, h.sep, h.kb.trans (hb.mono h.kb.size)⟩
theorem MO.mz {w0 wr : World} {v : Value} {zs : List (Value × Value)} {ms : List Mt} (h : MO w0 wr v zs ms) : MZ wr wr.heap.size zs ms := ⟨h.len, fun k h1 h2 => ⟨(h.rows k h1 h2).1.sv, (h.rows k h1 h2).2.sv⟩⟩
theorem MO.out {w0 wr : World} {v : Value} {zs : List (Value × Value)} {ms : List Mt} (h : MO w0 wr v zs ms) : ∃ A c, v = .slice A ms.length c ∧ ms.length ≤ c ∧ c ≤ maxLen ∧ MS wr wr.heap.size A ms := by
  obtain ⟨A, c, e, h1, h2, h3, _⟩ := own_form h.own
  rw [h.len] at e h1
  exact ⟨A, c, e, h1, h2, zs, h3, h.mz⟩
/-- The block of each of them is there. -/
theorem MO.lt {w0 wr : World} {v : Value} {zs : List (Value × Value)} {ms : List Mt} (h : MO w0 wr v zs ms) : ∀ u ∈ zC zs, ∀ g, u.ownBlock = some g → w0.heap.size ≤ g ∧ g < wr.heap.size := fun u hu g hg => by
  obtain ⟨z, hz, hu⟩ := List.mem_flatMap.1 hu
  obtain ⟨k, hk, rfl⟩ := List.getElem_of_mem hz
  have := h.rows k hk (by rw [← h.len]; exact hk)
  simp only [List.mem_cons, List.not_mem_nil, or_false] at hu
  rcases hu with rfl | rfl
  · exact this.1.lt g hg
  · exact this.2.lt g hg
theorem MO.vne {w0 wr : World} {v : Value} {zs : List (Value × Value)} {ms : List Mt} (h : MO w0 wr v zs ms) : ∀ u ∈ zC zs, NB v.ownBlock u.ownBlock := fun _ hu => (List.pairwise_cons.1 h.sep).1 _ (List.mem_map_of_mem hu)
theorem NB.symm {a b : Option Nat} (h : NB a b) : NB b a := by
  rcases h with h | h
  · cases b with
    | none => exact .inl rfl
    | some b => exact .inr (by rw [h]; simp)
  · exact .inr fun e => h e.symm
theorem MO.app {w0 wr X w4 : World} {v v' : Value} {zs : List (Value × Value)} {ms : List Mt} (h : MO w0 wr v zs ms) (hX : Below wr.heap.size wr X) (z : Value × Value) (m : Mt) (h1 : RW X wr.heap.size z.1 m.1) (h2 : RW X wr.heap.size z.2 m.2) (h12 : NB z.1.ownBlock z.2.ownBlock)
    (hown : w4.ownsRow w0.heap.size 60 2 v' (zs.length + 1) (zC zs ++ [z.1, z.2])) (hg : X.grownBy w4 v.ownBlock) (hv : v'.ownBlock = v.ownBlock ∨ v'.ownBlock = some X.heap.size) : MO w0 w4 v' (zs ++ [z]) (ms ++ [m]) := by
  have hXs := hX.size
  have h0s := h.kb.size
  have hlv := h.own.lt
  have nz : ∀ u, (u = z.1 ∨ u = z.2) → ∀ g, u.ownBlock = some g → wr.heap.size ≤ g ∧ g < X.heap.size := fun u hu g hg => by
    rcases hu with rfl | rfl
    · exact h1.lt g hg
    · exact h2.lt g hg
  have kn : ∀ {u : Value} {l : List Sp}, RW X wr.heap.size u l → RW w4 w0.heap.size u l := fun {u _} s => by
    refine own_le (s.kept hg ?_) h0s
    rcases hu : u.ownBlock with _ | g
    · exact .inl rfl
    · exact .inr fun e => by have a := (s.lt g hu).1; have b := (hlv g e.symm).2; omega
  have ko : ∀ {u : Value} {l : List Sp}, RW wr w0.heap.size u l → NB v.ownBlock u.ownBlock → RW w4 w0.heap.size u l := fun s n => by
    have n' := n.symm
    exact (own_below s hX).kept hg n'
  have kb : Below w0.heap.size w0 w4 := (h.kb.trans (hX.mono h.kb.size)).grown hg (by omega) fun k hk => (hlv k hk).1
  refine ⟨by rw [List.length_append, zC_app]; exact hown, by rw [List.length_append, List.length_append, h.len]; rfl, fun k k1 k2 => ?_, ?_, kb⟩
  · rw [List.length_append] at k1 k2
    rcases Nat.lt_or_ge k zs.length with hk | hk
    · have hm : k < ms.length := by rw [← h.len]; exact hk
      rw [List.getElem_append_left hk, List.getElem_append_left hm]
      have r := h.rows k hk hm
      exact ⟨ko r.1 (h.vne _ (List.mem_flatMap.2 ⟨zs[k], List.getElem_mem hk, by simp⟩)), ko r.2 (h.vne _ (List.mem_flatMap.2 ⟨zs[k], List.getElem_mem hk, by simp⟩))⟩
    · obtain rfl : k = zs.length := by simp at k1; omega
      have e1 : (zs ++ [z])[zs.length]'(by simp) = z := by simp
      have e2 : (ms ++ [m])[zs.length]'(by rw [List.length_append, ← h.len]; simp) = m := by simp [h.len]
      rw [e1, e2]
      exact ⟨kn h1, kn h2⟩
  · rw [zC_app, show zC [z] = [z.1, z.2] from rfl, List.map_cons, List.map_append, List.pairwise_cons]
    have hs := List.pairwise_cons.1 h.sep
    refine ⟨fun b hb => ?_, List.pairwise_append.2 ⟨hs.2, ?_, fun a ha b hb => ?_⟩⟩
    · rcases List.mem_append.1 hb with hb | hb
      · have o := hs.1 b hb
        obtain ⟨u, hu, rfl⟩ := List.mem_map.1 hb
        rcases hv with hv | hv
        · rw [hv]; exact o
        · rw [hv]
          refine .inr fun e => ?_
          have := (h.lt u hu _ e.symm).2
          omega
      · obtain ⟨u, hu, rfl⟩ := List.mem_map.1 hb
        have hu' : u = z.1 ∨ u = z.2 := by simpa using hu
        rcases hv with hv | hv
        · rw [hv]
          rcases hw : v.ownBlock with _ | g
          · exact .inl rfl
          · refine .inr fun e => ?_
            have a := (nz u hu' g e.symm).1
            have b := (hlv g hw).2
            omega
        · rw [hv]
          refine .inr fun e => ?_
          have := (nz u hu' _ e.symm).2
          omega
    · simp only [List.map_cons, List.map_nil, List.pairwise_cons, List.mem_cons, List.not_mem_nil, or_false]
      refine ⟨fun b hb => by rw [hb]; exact h12, fun b hb => absurd hb (by simp), List.Pairwise.nil⟩
    · obtain ⟨u, hu, rfl⟩ := List.mem_map.1 ha
      obtain ⟨x, hx, rfl⟩ := List.mem_map.1 hb
      have hx' : x = z.1 ∨ x = z.2 := by simpa using hx
      rcases hw : u.ownBlock with _ | g
      · exact .inl rfl
      · refine .inr fun e => ?_
        have a := (h.lt u hu g hw).2
        have b := (nz x hx' g e.symm).1
        omega
set_option maxHeartbeats 4000000 in
theorem through_own (F : Nat) (cb : Array Value) (P : List Sp → Bool) (A : Option Addr) (n c : Nat) (ms : List Mt) (HN : Hid (n = ms.length)) (hn : n ≤ 10000) (HSM : Hid (smM ms)) (M : Nat) (HM5 : Hid (∀ m ∈ ms, m.1.length ≤ M)) (w : World) (h : MS w w.heap.size A ms) (hF : Hid (FnP F cb P M w)) :
    Calls Try.prog 36 #[.slice A n c, .func (.func F) #[] cb] w fun e w' => ∃ v zs, e = .returned v ∧ MO w w' v zs (thruL P ms) := by
  have HA := Lib.hid h
  have HM0 := Lib.hid (MO.nil w)
  have HCF := hF.out.1
  clear h
  go_enter Try.func36, Try.ntmps36
  go_wp2_with fail
  go_loopw [5, 10] (fun s5 i wr => ∃ (k : Nat) (v : Value) (zs : List (Value × Value)), k ≤ n ∧ i = .int .i64 k ∧ v = s5 ∧ Hid (MO w wr v zs (thruL P (ms.take k)))) (fun _ i _ => n - (intOf i).toNat)
  case atStart => exact ⟨0, _, [], Nat.zero_le _, rfl, rfl, HM0⟩
  case round =>
    obtain ⟨k, v, zs, hk, rfl, rfl, HM⟩ := hrel
    obtain ⟨A4, c4, rfl, hcap4, hmx4, _, _⟩ := own_form HM.out.own
    by_cases hlt : k < n
    · have hkl : k < ms.length := by rw [← HN.out]; exact hlt
      have HLT := Lib.hid hlt
      have HZ : Hid (zs.length ≤ k) := by
        show _ ≤ _
        rw [HM.out.len]
        exact Nat.le_trans (List.length_filter_le _ _) (by rw [List.length_take]; omega)
      obtain ⟨b, o, z0, z1, rfl, _, e0, e1, y0, y1⟩ := (HA.out.below HM.out.kb).at_ k hkl
      obtain ⟨S0, d0, rfl, _⟩ := id y0
      obtain ⟨S1, d1, rfl, _⟩ := id y1
      have HSK := HSM.out _ (List.getElem_mem hkl)
      have HSK5 := HM5.out _ (List.getElem_mem hkl)
      have HX : Hid (thruL P (ms.take (k + 1)) = thruL P (ms.take k) ++ cond (P ms[k].1) [ms[k]] []) := by show _ = _; rw [List.take_succ_eq_append_getElem hkl, thruL_snoc]
      obtain ⟨m, hm⟩ : ∃ m, m = ms[k] := ⟨_, rfl⟩
      rw [← hm] at e0 e1 y0 y1 HSK HSK5 HX
      obtain ⟨l0, hl0⟩ : ∃ l, l = m.1.length := ⟨_, rfl⟩
      obtain ⟨l1, hl1⟩ : ∃ l, l = m.2.length := ⟨_, rfl⟩
      rw [← hl0] at e0 y0 HSK
      rw [← hl1] at e1 y1 HSK
      obtain ⟨X, hX⟩ : ∃ X, wr.alloc (.cells #[.slice S0 l0 d0, .slice S1 l1 d1] 60) = X := ⟨_, rfl⟩
      have bX : Below wr.heap.size wr X := by rw [← hX]; exact (Below.refl _ _).alloc (Nat.le_refl _) _
      obtain ⟨q0, q1⟩ := box2 wr (.slice S0 l0 d0) (.slice S1 l1 d1) 60
      rw [hX] at q0 q1
      have hkb := HM.out.kb.size
      have HY0 := Lib.hid ((y0.more hkb).up bX)
      have HY1 := Lib.hid ((y1.more hkb).up bX)
      obtain ⟨pb, hpb⟩ : ∃ pb, pb = P m.1 := ⟨_, rfl⟩
      have KP : Hid (Calls Try.prog F (#[.slice S0 l0 d0] ++ cb) X fun e w' => e = .returned (.bool pb) ∧ Below X.heap.size X w') := by
        rw [hpb]
        exact hF.out.2 X (HM.out.kb.trans (bX.mono hkb)) _ m.1 HY0.out HSK5
      have HPB := Lib.hid hpb
      have HBX := Lib.hid bX
      have HL0 := Lib.hid hl0
      have HL1 := Lib.hid hl1
      have HXW := Lib.hid hX
      have wk : IntKind.i64.wrap ((k : Int) + 1) = (k : Int) + 1 := by rw [IntKind.wrap_i64]; omega
      clear hX bX hm hl0 hl1 hpb y0 y1 HSK5
      go_upto_region 5 with fail
      rw [HXW.out]
      go_wp2_with fail
      with_reducible refine KP.out.mono ?_
      rintro e w5 ⟨rfl, b5⟩
      have p0 := (b5.cell (World.block_lt_of_cell? X _ q0)).trans q0
      have p1 := (b5.cell (World.block_lt_of_cell? X _ q1)).trans q1
      have HB5 := Lib.hid (HBX.out.trans (b5.mono HBX.out.size))
      have KC : Hid (Calls Try.prog 69 #[.agg #[.slice S0 l0 d0, .slice S1 l1 d1]] w5 fun e w' => ∃ y0 y1, e = .returned (.agg #[y0, y1]) ∧ RW w' w5.heap.size y0 m.1 ∧ RW w' w5.heap.size y1 m.2 ∧ NB y0.ownBlock y1.ownBlock ∧ Below w5.heap.size w5 w') :=
        cloned_own (.slice S0 l0 d0) (.slice S1 l1 d1) m ⟨by rw [← HL0.out]; have := HSK.1; omega, by rw [← HL1.out]; have := HSK.2; omega⟩ w5 (HY0.out.up b5) (HY1.out.up b5)
      clear q0 q1 b5 KP
      cases pb
      · have HM' : Hid (MO w w5 (.slice A4 zs.length c4) zs (thruL P (ms.take (k + 1)))) := by
          have h := HM.out.below HB5.out
          show MO _ _ _ _ _
          rw [HX.out, ← HPB.out]
          simpa using h
        clear KC
        go_wp2_with fail
        exact ⟨⟨k + 1, _, zs, HLT.out, by go_num, rfl, HM'⟩, by have := HLT.out; simp [intOf]; omega⟩
      · obtain ⟨L, hL⟩ : ∃ L, L = zs.length := ⟨_, rfl⟩
        rw [← hL] at HM HZ ⊢
        have HL := Lib.hid hL
        have hLk := HZ.out
        clear hL
        go_wp2_with fail
        with_reducible refine KC.out.mono ?_
        rintro e w6 ⟨y0, y1, rfl, s0, s1, n01, b6⟩
        obtain ⟨T0, g0, rfl, _⟩ := own_form s0
        obtain ⟨T1, g1, rfl, _⟩ := own_form s1
        have HS0 := Lib.hid s0
        have HS1 := Lib.hid s1
        have HN01 := Lib.hid n01
        clear s0 s1 n01
        rw [← HL0.out] at HS0 HN01 ⊢
        rw [← HL1.out] at HS1 HN01 ⊢
        obtain ⟨Y, hY⟩ : ∃ Y, w6.alloc (.cells #[.slice T0 l0 g0, .slice T1 l1 g1] 60) = Y := ⟨_, rfl⟩
        have bY : Below w6.heap.size w6 Y := by rw [← hY]; exact (Below.refl _ _).alloc (Nat.le_refl _) _
        have HCN : Hid (CS Y Y.heap.size (some ⟨w6.heap.size, 0, none⟩) [.slice T0 l0 g0, .slice T1 l1 g1]) := by
          have h := cells_new w6 #[.slice T0 l0 g0, .slice T1 l1 g1] 60 Y.heap.size (by rw [← hY]; simp)
          rw [hY] at h
          exact h
        have bwY := HB5.out.trans ((b6.trans (bY.mono b6.size)).mono HB5.out.size)
        have HOY : Hid (Y.ownsRow w.heap.size 60 2 (.slice A4 L c4) L (zC zs)) := by have := own_below HM.out.own bwY; rw [← HL.out] at this; exact this
        have HSY : Hid (RW Y wr.heap.size (.slice T0 l0 g0) m.1 ∧ RW Y wr.heap.size (.slice T1 l1 g1) m.2 ∧ Below wr.heap.size wr Y) := by
          have a := own_le (own_below HS0.out bY) HB5.out.size
          have b := own_le (own_below HS1.out bY) HB5.out.size
          exact ⟨a, b, bwY⟩
        have hbs : w.heap.size ≤ Y.heap.size := by have := HM.out.kb.size; have := bwY.size; omega
        have HY := Lib.hid hY
        clear b6 bY hY bwY KC
        go_wp2_with (at_builtin; (rw [HY.out]; refine wpList_appR elMt Y rfl (.tmp 18) (.tmp 21) rfl w.heap.size (.slice A4 L c4) L (zC zs) rfl HOY.out (some ⟨w6.heap.size, 0, none⟩) 1 1 Y.heap.size [.slice T0 l0 g0, .slice T1 l1 g1] rfl rfl (fun u hu => by simp at hu; rcases hu with rfl | rfl <;> rfl) HCN.out (L + 1) rfl (by omega) hbs ?_; intro v7 w7 hown7 hg7 hv7; rw [HL.out] at hown7; have HM7 := Lib.hid (HM.out.app HSY.out.2.2 (.slice T0 l0 g0, .slice T1 l1 g1) m HSY.out.1 HSY.out.2.1 HN01.out hown7 hg7 hv7); clear hown7 hg7 hv7))
        have HM' : Hid (MO w w7 v7 (zs ++ [(.slice T0 l0 g0, .slice T1 l1 g1)]) (thruL P (ms.take (k + 1)))) := by
          show MO _ _ _ _ _
          rw [HX.out, ← HPB.out]
          exact HM7.out
        exact ⟨⟨k + 1, v7, _, HLT.out, by go_num, rfl, HM'⟩, by have := HLT.out; simp [intOf]; omega⟩
    · obtain rfl : k = n := by omega
      have HF : Hid (MO w wr (.slice A4 zs.length c4) zs (thruL P ms)) := by have h := HM.out; rw [List.take_of_length_le (by rw [HN.out]; exact Nat.le_refl _)] at h; exact h
      go_wp2_with fail
      go_ret
      exact ⟨_, _, rfl, HF.out⟩
end Go.Proofs.Ytafbjadlklcicaa
