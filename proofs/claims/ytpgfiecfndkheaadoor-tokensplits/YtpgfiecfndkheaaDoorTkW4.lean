/- token.Split. -/
import Derived.Test.YtpgfiecfndkheaaDoorTkW3
import Derived.Deep.RegionHeld3
import Derived.Handy
namespace Go.Proofs.YtpgfiecfndkheaaDoor
open Go.RowKit
set_option maxRecDepth 100000

theorem TV.last0 {w w4 : World} {R : Nat} {W : List B8} {Sn Pn : List Nat} {vw vs vp : Value} (h : TV w R W Sn Pn vw vs vp) (o : Obj) (hg : (w.alloc o).grownBy w4 vw.ownBlock) :
    w4.cell? ⟨R, 0, none⟩ = some vw ∧ w4.frozen? ⟨R, 0, none⟩ = false ∧ ∀ (gg cap : Nat) (x : B8), w4.ownsRow (R + 1) 9 1 (.slice (some ⟨gg, 0, none⟩) (W.length + 1) cap) (W.length + 1) (tCells W ++ [.string (strOf x)]) → (vw.ownBlock = some gg ∨ gg = w.heap.size + 1) →
      Below R w (w4.setCell ⟨R, 0, none⟩ (.slice (some ⟨gg, 0, none⟩) (W.length + 1) cap)) ∧ TV (w4.setCell ⟨R, 0, none⟩ (.slice (some ⟨gg, 0, none⟩) (W.length + 1) cap)) R (W ++ [x]) Sn Pn (.slice (some ⟨gg, 0, none⟩) (W.length + 1) cap) vs vp := by
  have hb : Below w.heap.size w (w.alloc o) := (Below.refl _ _).alloc (Nat.le_refl _) o
  have hsz : (w.alloc o).heap.size = w.heap.size + 1 := by simp
  have h2 := h.below hb
  have hne : vw.ownBlock ≠ some R := fun e => by have := (own_lt h.r0 R e).1; omega
  have hk := hg.block R h2.lt (fun e => hne e.symm)
  refine ⟨(World.cell?_of_block (w := w.alloc o) (a := ⟨R, 0, none⟩) hk).trans h2.c0, (World.frozen?_of_block (w := w.alloc o) (a := ⟨R, 0, none⟩) hk).trans (h2.fr 0), fun gg cap x hown hat => ?_⟩
  have hl : (W ++ [x]).length = W.length + 1 := by simp
  have := h2.grow0 (W' := W ++ [x]) (v' := .slice (some ⟨gg, 0, none⟩) (W.length + 1) cap) hg (by rw [hl, tCells_app]; exact hown) (by
    rcases hat with e | e
    · exact .inl e.symm
    · exact .inr (by rw [hsz, e]; rfl))
  exact ⟨(hb.mono (Nat.le_of_lt h.lt)).trans this.2.2.1, this.2.2.2⟩
/-- How far Split has come. -/
structure SpInv (l l' : B8) (W : List B8) (Sn Pn : List Nat) : Prop where
  ws : wordsOf (chL l) = W ++ wordsOf (chL l')
  ss : sentF 0 (chL l) = Sn ++ sentF W.length (chL l')
  ps : parsF 0 (chL l) = Pn ++ parsF W.length (chL l')
  len : W.length + l'.length ≤ l.length
  sl : Sn.length ≤ W.length
  pl : Pn.length ≤ W.length
theorem SpInv.init (l : B8) : SpInv l l [] [] [] := ⟨rfl, rfl, rfl, by simp, Nat.le_refl _, Nat.le_refl _⟩
theorem endIf_len (b : Bool) (n : Nat) : (endIf b n).length ≤ 1 := by unfold endIf; split <;> simp
theorem SpInv.next {l l' : B8} {W : List B8} {Sn Pn : List Nat} (h : SpInv l l' W Sn Pn) (hl : letL (l'.drop (runL l' false)) ≠ []) :
    SpInv l (l'.drop (runL l' false + (encW (letL (l'.drop (runL l' false)))).length)) (W ++ [encW (cutR (letL (l'.drop (runL l' false))) 0)])
      (Sn ++ if 0 < W.length then endIf (parB false (l'.take (runL l' false)) || stopB (l'.take (runL l' false))) W.length else []) (Pn ++ if 0 < W.length then endIf (parB false (l'.take (runL l' false))) W.length else []) := by
  have hs := chL_step l' hl
  have hp := encW_pos _ hl
  have hrl := runL_len l' false
  have h3 := (letL_spec (l'.drop (runL l' false))).2.1
  have h4 : (encW (letL (l'.drop (runL l' false)))).length ≤ l'.length - runL l' false := by
    have := congrArg List.length h3
    rw [List.length_append, List.length_drop] at this
    omega
  refine ⟨?_, ?_, ?_, ?_, ?_, ?_⟩
  · rw [h.ws, hs, List.append_assoc]; rfl
  · rw [h.ss, hs, List.append_assoc, List.length_append]
    show Sn ++ ((if 0 < W.length ∧ (parB false (l'.take (runL l' false)) = true ∨ stopB (l'.take (runL l' false)) = true) then [W.length] else []) ++ sentF (W.length + 1) _) = _
    congr 2
    by_cases h0 : 0 < W.length
    · rw [if_pos h0]
      unfold endIf
      by_cases hc : parB false (l'.take (runL l' false)) = true ∨ stopB (l'.take (runL l' false)) = true
      · rw [if_pos ⟨h0, hc⟩, if_pos (by simpa using hc)]
      · rw [if_neg (fun h => hc h.2), if_neg (by simpa using hc)]
    · rw [if_neg (fun h => h0 h.1), if_neg h0]
  · rw [h.ps, hs, List.append_assoc, List.length_append]
    show Pn ++ ((if 0 < W.length ∧ parB false (l'.take (runL l' false)) = true then [W.length] else []) ++ parsF (W.length + 1) _) = _
    congr 2
    by_cases h0 : 0 < W.length
    · rw [if_pos h0]
      unfold endIf
      by_cases hc : parB false (l'.take (runL l' false)) = true
      · rw [if_pos ⟨h0, hc⟩, if_pos hc]
      · rw [if_neg (fun h => hc h.2), if_neg hc]
    · rw [if_neg (fun h => h0 h.1), if_neg h0]
  · have := h.len
    rw [List.length_append, List.length_drop]
    simp only [List.length_cons, List.length_nil]
    omega
  · have := h.sl
    rw [List.length_append, List.length_append]
    have h5 := endIf_len (parB false (l'.take (runL l' false)) || stopB (l'.take (runL l' false))) W.length
    simp only [List.length_cons, List.length_nil]
    split <;> simp <;> omega
  · have := h.pl
    rw [List.length_append, List.length_append]
    have h5 := endIf_len (parB false (l'.take (runL l' false))) W.length
    simp only [List.length_cons, List.length_nil]
    split <;> simp <;> omega
theorem SpInv.done {l l' : B8} {W : List B8} {Sn Pn : List Nat} (h : SpInv l l' W Sn Pn) (hl : letL (l'.drop (runL l' false)) = []) : wordsOf (chL l) = W ∧ sentF 0 (chL l) = Sn ∧ parsF 0 (chL l) = Pn := by
  have := chL_end l' hl
  exact ⟨by rw [h.ws, this]; simp [wordsOf], by rw [h.ss, this]; simp [sentF], by rw [h.ps, this]; simp [parsF]⟩
/-- What Split answers: a Text whose rows are the call's own. -/
def TxtRows (w : World) (B : Nat) (vw vs vp : Value) (cs : List (B8 × List Nat)) : Prop :=
  w.ownsRow B 9 1 vw (wordsOf cs).length (tCells (wordsOf cs)) ∧ w.ownsRow B 3 1 vs (sentF 0 cs).length (nCells (sentF 0 cs)) ∧ w.ownsRow B 3 1 vp (parsF 0 cs).length (nCells (parsF 0 cs))
abbrev nilV : Value := .slice none 0 0
/-- The result's cells. -/
structure RC (w : World) (B : Nat) : Prop where
  c0 : w.cell? ⟨B, 0, none⟩ = some nilV
  c1 : w.cell? ⟨B, 1, none⟩ = some nilV
  c2 : w.cell? ⟨B, 2, none⟩ = some nilV
  fr : ∀ o, w.frozen? ⟨B, o, none⟩ = false
theorem RC.below {w w' : World} {B R : Nat} (h : RC w B) (hR : B < R) (hb : Below R w w') : RC w' B := by
  have hk := hb.block B hR
  exact ⟨(World.cell?_of_block (w := w) (a := ⟨B, 0, none⟩) hk).trans h.c0, (World.cell?_of_block (w := w) (a := ⟨B, 1, none⟩) hk).trans h.c1, (World.cell?_of_block (w := w) (a := ⟨B, 2, none⟩) hk).trans h.c2, fun o => (World.frozen?_of_block (w := w) (a := ⟨B, o, none⟩) hk).trans (h.fr o)⟩
theorem new3 (w : World) (t : TypeId) : (w.alloc (.cells #[nilV, nilV, nilV] t)).cell? ⟨w.heap.size, 0, none⟩ = some nilV ∧ (w.alloc (.cells #[nilV, nilV, nilV] t)).cell? ⟨w.heap.size, 1, none⟩ = some nilV ∧ (w.alloc (.cells #[nilV, nilV, nilV] t)).cell? ⟨w.heap.size, 2, none⟩ = some nilV ∧ ∀ o, (w.alloc (.cells #[nilV, nilV, nilV] t)).frozen? ⟨w.heap.size, o, none⟩ = false := by
  have h := heap_alloc_new w (.cells #[nilV, nilV, nilV] t)
  refine ⟨?_, ?_, ?_, fun o => ?_⟩
  · simp only [World.cell?, h]; rfl
  · simp only [World.cell?, h]; rfl
  · simp only [World.cell?, h]; rfl
  · simp only [World.frozen?, h]; simp
theorem own_none (w : World) (B : Nat) (t : TypeId) : w.ownsRow B t 1 nilV 0 [] := ⟨rfl, .inl ⟨rfl, rfl⟩⟩
theorem TV.new (w : World) (t : TypeId) : TV (w.alloc (.cells #[nilV, nilV, nilV] t)) w.heap.size [] [] [] nilV nilV nilV := by
  obtain ⟨h0, h1, h2, h3⟩ := new3 w t
  exact ⟨by simp, h0, h1, h2, h3, own_none _ _ _, own_none _ _ _, own_none _ _ _, fun b h => by simp [Value.ownBlock] at h, fun b h => by simp [Value.ownBlock] at h, fun b h => by simp [Value.ownBlock] at h⟩
set_option maxHeartbeats 4000000 in
theorem split_any (l : B8) (hl : l.length ≤ 10000000) (w : World) (hT : UT w) :
    Calls Tryd.prog 9 #[.string (strOf l)] w fun e w' => ∃ vw vs vp, e = .returned (.agg #[vw, vs, vp]) ∧ TxtRows w' w.heap.size vw vs vp (chL l) ∧ Below w.heap.size w w' := by
  have HT := Lib.hid hT
  clear hT
  have HB0 : Hid (Below w.heap.size w ((w.alloc (.cells #[nilV, nilV, nilV] 26)).alloc (.cells #[nilV, nilV, nilV] 26))) := ((Below.refl _ _).alloc (Nat.le_refl _) _).alloc (by simp) _
  have HV0 : Hid (TV ((w.alloc (.cells #[nilV, nilV, nilV] 26)).alloc (.cells #[nilV, nilV, nilV] 26)) (w.heap.size + 1) [] [] [] nilV nilV nilV) := by
    have := TV.new (w.alloc (.cells #[nilV, nilV, nilV] 26)) 26
    rwa [show (w.alloc (.cells #[nilV, nilV, nilV] 26)).heap.size = w.heap.size + 1 by simp] at this
  have HR0 : Hid (RC ((w.alloc (.cells #[nilV, nilV, nilV] 26)).alloc (.cells #[nilV, nilV, nilV] 26)) w.heap.size) := by
    obtain ⟨h0, h1, h2, h3⟩ := new3 w 26
    exact RC.below (R := w.heap.size + 1) ⟨h0, h1, h2, h3⟩ (by omega) ((Below.refl _ _).alloc (by simp) _)
  go_enter Tryd.func9, Tryd.ntmps9
  go_wp2_with fail
  go_loopg [0, 4, 5] l.length (fun gg s _ _ wr => ∃ (l' : B8) (W : List B8) (Sn Pn : List Nat) (vw vs vp : Value), s = .string (strOf l') ∧ l'.length ≤ gg ∧ l'.length ≤ l.length ∧ Hid (SpInv l l' W Sn Pn) ∧ Hid (TV wr (w.heap.size + 1) W Sn Pn vw vs vp) ∧ Hid (Below w.heap.size w wr) ∧ Hid (RC wr w.heap.size))
  case atStart => exact ⟨l, [], [], [], _, _, _, rfl, Nat.le_refl _, Nat.le_refl _, SpInv.init l, HV0, HB0, HR0⟩
  case round =>
    obtain ⟨l', W, Sn, Pn, vw, vs, vp, rfl, hg, hle, HSP, HV, HB, HRC⟩ := hrel
    obtain ⟨g, hgd⟩ : ∃ g, g = l'.take (runL l' false) := ⟨_, rfl⟩
    obtain ⟨l2, hl2⟩ : ∃ l2, l2 = l'.drop (runL l' false) := ⟨_, rfl⟩
    obtain ⟨rs, hrs⟩ : ∃ rs, rs = letL l2 := ⟨_, rfl⟩
    obtain ⟨l3, hl3⟩ : ∃ l3, l3 = l2.drop (encW rs).length := ⟨_, rfl⟩
    have hk1 := runL_len l' false
    have HR1 := Lib.hid (run_any l' false (by omega) wr (ut_keep HT.out HB.out))
    have hsp := letL_spec l2
    rw [← hrs] at hsp
    have hl2len : l2.length = l'.length - runL l' false := by rw [hl2, List.length_drop]
    have HR2 := Lib.hid (fun W1 : World => run_any l2 true (by omega) W1)
    rw [hsp.2.2.1] at HR2
    have hk2 : (encW rs).length ≤ l2.length := by rw [← hsp.2.2.1]; exact runL_len l2 true
    have HLT := Lib.hid hsp.1
    have htk : l2.take (encW rs).length = encW rs := by
      conv => lhs; rw [hsp.2.1]
      exact List.take_left
    have hx1 : (strOf l').extract 0 (runL l' false) = strOf g := by rw [take8, hgd]
    have hx2 : (strOf l').extract (runL l' false) l'.length = strOf l2 := by rw [← size8 l', cut8, hl2]
    have hx3 : (strOf l2).extract 0 (encW rs).length = strOf (encW rs) := by rw [take8, htk]
    have hx4 : (strOf l2).extract (encW rs).length l2.length = strOf l3 := by rw [← size8 l2, cut8, hl3]
    have hs1 := size8 l'
    have hs2 : (strOf g).size = runL l' false := by rw [size8, hgd, List.length_take]; omega
    have hs3 := size8 l2
    have hs4 := size8 (encW rs)
    have HL3 : Hid (l3 = l'.drop (runL l' false + (encW rs).length)) := by show _ = _; rw [hl3, hl2, List.drop_drop]
    have HNX := Lib.hid (HSP.out.next)
    have HDN := Lib.hid (HSP.out.done)
    rw [← hl2, ← hrs, ← HL3.out, ← hgd] at HNX
    rw [← hl2, ← hrs] at HDN
    have hlen := HSP.out.len
    have hsl := HSP.out.sl
    have hpl := HSP.out.pl
    have hgl : g.length ≤ 100000000 := by rw [← size8, hs2]; omega
    have hl3len : l3.length = l2.length - (encW rs).length := by rw [hl3, List.length_drop]
    have HCT := Lib.hid (fun W1 => cut_any rs HLT.out (by omega) W1)
    have HEP := Lib.hid (encW_pos rs)
    clear hgd hl2 hrs hl3 hsp htk
    have HLN : Hid (l2.length = l'.length - runL l' false ∧ l3.length = l2.length - (encW rs).length) := ⟨hl2len, hl3len⟩
    clear hl2len hl3len
    generalize runL l' false = k1 at *
    generalize hek : (encW rs).length = k2 at *
    go_wp2_with fail
    (with_reducible refine HR1.out.mono ?_)
    rintro e w1 ⟨rfl, hb1⟩
    have HU1 := Lib.hid (ut_keep HT.out (HB.out.trans (hb1.mono HB.out.size)))
    go_wp2_with fail
    (with_reducible refine (HR2.out w1 HU1.out).mono ?_)
    rintro e w2 ⟨rfl, hb2⟩
    have hb12 : Below wr.heap.size wr w2 := hb1.trans (hb2.mono hb1.size)
    have HV2 := Lib.hid (HV.out.below hb12)
    have HB2 := Lib.hid (HB.out.trans (hb12.mono HB.out.size))
    have HC2 := Lib.hid (HRC.out.below (R := wr.heap.size) (by have := HV.out.lt; omega) hb12)
    have HU2 := Lib.hid (ut_keep HT.out HB2.out)
    clear hb1 hb2 hb12 HV HB HRC HR1 HR2 HU1 HB0 HV0 HR0
    obtain ⟨Aw, cw, hvw, hcw, hmw, _, _⟩ := own_form HV2.out.r0
    obtain ⟨As, cs, hvs, hcs, hms, _, _⟩ := own_form HV2.out.r1
    obtain ⟨Ap, cp, hvp, hcp, hmp, _, _⟩ := own_form HV2.out.r2
    subst hvw hvs hvp
    by_cases hr0 : rs = []
    · have hem : (strOf (encW rs)).toList.isEmpty = true := by rw [str_empty, hr0]; rfl
      have c0 := HV2.out.c0
      have c1 := HV2.out.c1
      have c2 := HV2.out.c2
      have d0 := HC2.out.c0
      have d1 := HC2.out.c1
      have d2 := HC2.out.c2
      have f0 := HC2.out.fr 0
      have f1 := HC2.out.fr 1
      have f2 := HC2.out.fr 2
      have hlt2 := HV2.out.lt
      have HD2 := Lib.hid (HDN.out hr0)
      clear HNX HDN hr0
      go_wp2_with fail
      obtain ⟨W9, hW9⟩ : ∃ W9, W9 = ((w2.setCell ⟨w.heap.size, 0, none⟩ (.slice Aw W.length cw)).setCell ⟨w.heap.size, 1, none⟩ (.slice As Sn.length cs)).setCell ⟨w.heap.size, 2, none⟩ (.slice Ap Pn.length cp) := ⟨_, rfl⟩
      rw [← hW9]
      have e0 : W9.cell? ⟨w.heap.size, 0, none⟩ = some (.slice Aw W.length cw) := by
        rw [hW9, cell_setR _ _ 2 0 _ (by omega), cell_setR _ _ 1 0 _ (by omega)]
        exact World.cell?_setCell_same _ _ _ (by rw [d0])
      have e1 : W9.cell? ⟨w.heap.size, 1, none⟩ = some (.slice As Sn.length cs) := by
        rw [hW9, cell_setR _ _ 2 1 _ (by omega)]
        exact World.cell?_setCell_same _ _ _ (by rw [cell_setR _ _ 0 1 _ (by omega), d1])
      have e2 : W9.cell? ⟨w.heap.size, 2, none⟩ = some (.slice Ap Pn.length cp) := by
        rw [hW9]
        exact World.cell?_setCell_same _ _ _ (by rw [cell_setR _ _ 1 2 _ (by omega), cell_setR _ _ 0 2 _ (by omega), d2])
      have hfar : ∀ k, k ≠ w.heap.size → W9.heap[k]? = w2.heap[k]? := fun k hk => by
        rw [hW9, Below.heap_setCell _ _ _ _ (by simpa using hk), Below.heap_setCell _ _ _ _ (by simpa using hk), Below.heap_setCell _ _ _ _ (by simpa using hk)]
      have hb9 : Below w.heap.size w W9 := by
        rw [hW9]
        exact ((HB2.out.setCell (p := ⟨w.heap.size, 0, none⟩) (Nat.le_refl _) _).setCell (p := ⟨w.heap.size, 1, none⟩) (Nat.le_refl _) _).setCell (p := ⟨w.heap.size, 2, none⟩) (Nat.le_refl _) _
      refine bodyPost_ret (v := .agg #[.slice Aw W.length cw, .slice As Sn.length cs, .slice Ap Pn.length cp]) (by simp [results, Tryd.results9, go_sem, e0, e1, e2]) rfl ?_
      obtain ⟨q1, q2, q3⟩ := HD2.out
      refine ⟨_, _, _, rfl, ⟨?_, ?_, ?_⟩, hb9⟩
      · rw [q1]; exact own_le (own_at HV2.out.r0 fun g' _ h1 _ => hfar g' (by omega)) (by omega)
      · rw [q2]; exact own_le (own_at HV2.out.r1 fun g' _ h1 _ => hfar g' (by omega)) (by omega)
      · rw [q3]; exact own_le (own_at HV2.out.r2 fun g' _ h1 _ => hfar g' (by omega)) (by omega)
    · have hem : (strOf (encW rs)).toList.isEmpty = false := by
        rw [str_empty]
        have := HEP.out hr0
        cases h : encW rs with
        | nil => rw [h] at hek; simp at hek; omega
        | cons _ _ => rfl
      have HN2 := Lib.hid (HNX.out hr0)
      obtain ⟨x, hx⟩ : ∃ x, x = encW (cutR rs 0) := ⟨_, rfl⟩
      rw [← hx] at HN2 HCT
      have HCS : Hid ((strOf x).size ≤ 100000000) := by show _ ≤ _; rw [size8, hx]; have := cutR_len rs 0 (by omega); omega
      have HWL : Hid (SpInv l l' W Sn Pn) := HSP
      clear HNX HDN hx
      have c0 := HV2.out.c0
      obtain ⟨i0, hi, hz0, hz1, hz2⟩ := info_parts info_str
      unfold maxLen at hmw
      by_cases hW0 : 0 < W.length
      · have hWe : (0 : Int) < (W.length : Int) := by omega
        rw [if_pos hW0, if_pos hW0] at HN2
        go_wp2_with fail
        (with_reducible refine (part_any _ g hgl W Sn Pn _ _ _ w2 HV2.out (by omega) (by omega) (by omega)).mono ?_)
        rintro e wz ⟨rfl, hbz, vsz, vpz, hvz⟩
        have HVz := Lib.hid hvz
        have HBz := Lib.hid (HB2.out.trans (hbz.mono (by omega)))
        have HCz := Lib.hid (HC2.out.below (by omega) hbz)
        have HUz := Lib.hid (ut_keep HT.out HBz.out)
        have HNz := HN2
        clear hbz hvz c0
        go_wp2_with fail
        have cz := HVz.out.c0
        have hltz := HVz.out.lt
        go_region_law ((first
            | (refine step_append_lies _ (by rfl) _ _ _ (by rfl) (w.heap.size + 1 + 1) 9 i0 _ 1 16 Tryd.underlying23 hi hz0 hz1 hz2 rfl (by omega) (.slice Aw W.length cw) W.length (tCells W) (by rfl) (HV4.out.r0.alloc _) ⟨w4.heap.size, 0, none⟩ 1 1 [.string (strOf x)] (by rfl) (by rfl) (World.news_of_block (cs := #[.string (strOf x)]) (t := 9) (fr := (0, 0)) (heap_alloc_new w4 _)) (by simp [Value.oneCell']) (by omega) (by unfold maxLen; omega) (by omega) (by have := HV4.out.lt; simp; omega) (w4.heap.size + 1) (by simp) ?_; intro gg cap w5 hown5 hgrow hat hlt5; have k5 := (HV4.out.last0 _ hgrow).1; have f5 := (HV4.out.last0 _ hgrow).2.1)
            | (go_simp; go_at_call 21; refine (HCT.out _ (ut_keep HUz.out (Below.refl _ _).drew)).mono ?_; rintro e w3 ⟨rfl, hb3⟩; have cz3 := (hb3.cell (p := ⟨w.heap.size + 1, 0, none⟩) HVz.out.lt).trans cz)
            | (go_simp; go_at_call 20; refine (clone_any _ HCS.out _).mono ?_; rintro e w4 ⟨rfl, hb4⟩; have hb34 : Below wz.heap.size wz w4 := (Below.refl _ _).drew.trans (hb3.trans (hb4.mono hb3.size)); have HV4 := Lib.hid (HVz.out.below hb34); have cz4 := HV4.out.c0; have hlt4 := HV4.out.lt)))
        all_goals
          obtain ⟨b6, hv6⟩ := (HV4.out.last0 _ hgrow).2.2 gg cap x hown5 hat
          have hb56 : Below (w.heap.size + 1) wz (w5.setCell ⟨w.heap.size + 1, 0, none⟩ (.slice (some ⟨gg, 0, none⟩) (W.length + 1) cap)) := (hb34.mono (Nat.le_of_lt HVz.out.lt)).trans b6
          have HV6 := Lib.hid hv6
          have HB6 := Lib.hid (HBz.out.trans (hb56.mono (by omega)))
          have HC6 := Lib.hid (HCz.out.below (by omega) hb56)
          clear b6 hv6 hb56 k5 f5 hown5 hgrow hat hlt5 cz cz3 cz4
          go_wp2_with fail
          go_roundg l3.length
          case rel => exact ⟨l3, _, _, _, _, _, _, rfl, Nat.le_refl _, by have := HLN.out; omega, HNz, HV6, HB6, HC6⟩
          case measure => have := HLN.out; have := HEP.out hr0; omega
      · have hWe : ¬ (0 : Int) < (W.length : Int) := by omega
        rw [if_neg hW0, if_neg hW0, List.append_nil, List.append_nil] at HN2
        obtain ⟨wz, hwz⟩ : ∃ wz, wz = w2 := ⟨_, rfl⟩
        rw [← hwz] at HV2 HB2 HC2 HU2 c0 ⊢
        have HVz := HV2
        have HBz := HB2
        have HCz := HC2
        have HUz := HU2
        have HNz := HN2
        clear hwz
        go_wp2_with fail
        have cz := HVz.out.c0
        have hltz := HVz.out.lt
        go_region_law ((first
            | (refine step_append_lies _ (by rfl) _ _ _ (by rfl) (w.heap.size + 1 + 1) 9 i0 _ 1 16 Tryd.underlying23 hi hz0 hz1 hz2 rfl (by omega) (.slice Aw W.length cw) W.length (tCells W) (by rfl) (HV4.out.r0.alloc _) ⟨w4.heap.size, 0, none⟩ 1 1 [.string (strOf x)] (by rfl) (by rfl) (World.news_of_block (cs := #[.string (strOf x)]) (t := 9) (fr := (0, 0)) (heap_alloc_new w4 _)) (by simp [Value.oneCell']) (by omega) (by unfold maxLen; omega) (by omega) (by have := HV4.out.lt; simp; omega) (w4.heap.size + 1) (by simp) ?_; intro gg cap w5 hown5 hgrow hat hlt5; have k5 := (HV4.out.last0 _ hgrow).1; have f5 := (HV4.out.last0 _ hgrow).2.1)
            | (go_simp; go_at_call 21; refine (HCT.out _ (ut_keep HUz.out (Below.refl _ _).drew)).mono ?_; rintro e w3 ⟨rfl, hb3⟩; have cz3 := (hb3.cell (p := ⟨w.heap.size + 1, 0, none⟩) HVz.out.lt).trans cz)
            | (go_simp; go_at_call 20; refine (clone_any _ HCS.out _).mono ?_; rintro e w4 ⟨rfl, hb4⟩; have hb34 : Below wz.heap.size wz w4 := (Below.refl _ _).drew.trans (hb3.trans (hb4.mono hb3.size)); have HV4 := Lib.hid (HVz.out.below hb34); have cz4 := HV4.out.c0; have hlt4 := HV4.out.lt)))
        all_goals
          obtain ⟨b6, hv6⟩ := (HV4.out.last0 _ hgrow).2.2 gg cap x hown5 hat
          have hb56 : Below (w.heap.size + 1) wz (w5.setCell ⟨w.heap.size + 1, 0, none⟩ (.slice (some ⟨gg, 0, none⟩) (W.length + 1) cap)) := (hb34.mono (Nat.le_of_lt HVz.out.lt)).trans b6
          have HV6 := Lib.hid hv6
          have HB6 := Lib.hid (HBz.out.trans (hb56.mono (by omega)))
          have HC6 := Lib.hid (HCz.out.below (by omega) hb56)
          clear b6 hv6 hb56 k5 f5 hown5 hgrow hat hlt5 cz cz3 cz4
          go_wp2_with fail
          go_roundg l3.length
          case rel => exact ⟨l3, _, _, _, _, _, _, rfl, Nat.le_refl _, by have := HLN.out; omega, HNz, HV6, HB6, HC6⟩
          case measure => have := HLN.out; have := HEP.out hr0; omega
end Go.Proofs.YtpgfiecfndkheaaDoor
