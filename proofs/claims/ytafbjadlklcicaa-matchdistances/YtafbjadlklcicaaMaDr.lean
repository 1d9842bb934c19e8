/- drop: what mustn't be there goes, where a function value says so. -/
import Derived.Test.YtafbjadlklcicaaMaDf
import Derived.Laws.EntriesVeiled
import Derived.Deep.DeepCutAuto
import Derived.Deep.RegionHeld3
import Derived.Shelf.Abstract
namespace Go.Proofs.Ytafbjadlklcicaa
open Go.RowKit
set_option maxRecDepth 100000

/-- A function value that makes, of at most M spans, one that tells q of a span. -/
def FnX (F : Nat) (cb : Array Value) (q : List Sp → Sp → Bool) (M : Nat) (w0 : World) : Prop :=
  (∀ args W, (callFunc F args).run Try.prog W = .ok (.enter F args) W) ∧
  ∀ W, Below w0.heap.size w0 W → ∀ v l row, SV W W.heap.size v l → l.length ≤ M → (∀ r, row = some r → w0.heap.size ≤ r ∧ r < W.heap.size ∧ v.ownBlock ≠ some r) →
    Calls Try.prog F (#[v] ++ cb) W fun e w' => ∃ G cb', e = .returned (.func (.func G) #[] cb') ∧ Below W.heap.size W w' ∧ Hid (FnD G cb' (q l) row w')
theorem zC_set (zs : List (Value × Value)) : ∀ (k : Nat) (hk : k < zs.length) (u : Value), (zC zs).set (k * 2 + 1) u = zC (zs.set k (zs[k].1, u)) := by
  induction zs with
  | nil => intro k hk; simp at hk
  | cons z t ih =>
    intro k hk u
    cases k with
    | zero => rfl
    | succ k =>
      have := ih k (by simpa using hk) u
      rw [List.set_cons_succ, zC_cons, zC_cons, List.getElem_cons_succ, ← this, show (k + 1) * 2 + 1 = k * 2 + 1 + 1 + 1 by omega]
      rfl
theorem MO.ne {w0 wr : World} {v : Value} {zs : List (Value × Value)} {ms : List Mt} (h : MO w0 wr v zs ms) (a b : Nat) (x y : Value) (ha : (zC zs)[a]? = some x) (hb : (zC zs)[b]? = some y) (hab : a ≠ b) : NB x.ownBlock y.ownBlock := by
  have hs := (List.pairwise_cons.1 h.sep).2
  rw [List.pairwise_iff_getElem] at hs
  have key : ∀ (a b : Nat) (x y : Value), (zC zs)[a]? = some x → (zC zs)[b]? = some y → a < b → NB x.ownBlock y.ownBlock := fun a b x y ha hb hab => by
    obtain ⟨ha1, ha2⟩ := List.getElem?_eq_some_iff.1 ha
    obtain ⟨hb1, hb2⟩ := List.getElem?_eq_some_iff.1 hb
    have := hs a b (by rw [List.length_map]; exact ha1) (by rw [List.length_map]; exact hb1) hab
    rw [List.getElem_map, List.getElem_map, ha2, hb2] at this
    exact this
  rcases Nat.lt_or_gt_of_ne hab with h | h
  · exact key a b x y ha hb h
  · exact (key b a y x hb ha h).symm
theorem MO.set {w0 wr w1 : World} {g n c : Nat} {zs : List (Value × Value)} {ms : List Mt} (h : MO w0 wr (.slice (some ⟨g, 0, none⟩) n c) zs ms) (k : Nat) (hk : k < zs.length) (hm : k < ms.length) (u : Value) (l : List Sp)
    (hg : wr.grownBy w1 zs[k].2.ownBlock) (ho : RW w1 w0.heap.size u l) (hu : u.ownBlock = zs[k].2.ownBlock) : MO w0 (w1.setCell ⟨g, k * 2 + 1, none⟩ u) (.slice (some ⟨g, 0, none⟩) n c) (zs.set k (zs[k].1, u)) (ms.set k (ms[k].1, l)) := by
  have hb0 := h.kb.size
  obtain ⟨z0, z1⟩ := zC_at zs k hk
  have hv : ∀ (j : Nat) (x : Value), (zC zs)[j]? = some x → NB (some g) x.ownBlock := fun j x hx => h.vne x (List.mem_of_getElem? hx)
  have hn : n = zs.length := by have := h.own.1; have e := h.own.2; rcases e with ⟨e, _⟩ | ⟨_, _, _, e, _⟩ <;> first | (injection e with e; cases e) | (injection e with _ e _)
  subst hn
  have hvk : (Value.slice (some ⟨g, 0, none⟩) zs.length c).ownBlock = none ∨ (Value.slice (some ⟨g, 0, none⟩) zs.length c).ownBlock ≠ zs[k].2.ownBlock := hv _ _ z1
  have own1 := h.own.kept hg hvk
  obtain ⟨own2, g2⟩ := own1.stored (k * 2 + 1) u
  rw [zC_set zs k hk u] at own2
  have kg : ∀ {x : Value} {l : List Sp} (j : Nat), (zC zs)[j]? = some x → j ≠ k * 2 + 1 → RW wr w0.heap.size x l → RW (w1.setCell ⟨g, k * 2 + 1, none⟩ u) w0.heap.size x l := fun j hx hj hr => (hr.kept hg (h.ne _ _ _ _ hx z1 hj)).kept g2 (hv _ _ hx).symm
  have hl := h.len
  refine ⟨by rw [List.length_set]; exact own2, by rw [List.length_set, List.length_set, hl], fun j h1 h2 => ?_, ?_, ?_⟩
  · rw [List.length_set] at h1 h2
    obtain ⟨y0, y1⟩ := zC_at zs j h1
    obtain ⟨r0, r1⟩ := h.rows j h1 h2
    by_cases e : k = j
    · subst e
      rw [List.getElem_set_self, List.getElem_set_self]
      exact ⟨kg _ z0 (by omega) r0, ho.kept g2 (by rw [hu]; exact (hv _ _ z1).symm)⟩
    · rw [List.getElem_set_ne e, List.getElem_set_ne e]
      exact ⟨kg _ y0 (by omega) r0, kg _ y1 (by omega) r1⟩
  · have e : ((Value.slice (some ⟨g, 0, none⟩) zs.length c) :: zC (zs.set k (zs[k].1, u))).map Value.ownBlock = ((Value.slice (some ⟨g, 0, none⟩) zs.length c) :: zC zs).map Value.ownBlock := by
      rw [← zC_set zs k hk u, List.map_cons, List.map_cons, List.map_set, hu]
      refine congrArg _ ?_
      obtain ⟨a, b⟩ := List.getElem?_eq_some_iff.1 z1
      apply List.ext_getElem (by simp)
      intro i i1 i2
      by_cases hi : k * 2 + 1 = i
      · subst hi
        rw [List.getElem_set_self, List.getElem_map, b]
      · rw [List.getElem_set_ne hi]
    rw [e]
    exact h.sep
  · have h1 : Below w0.heap.size w0 w1 := h.kb.grown hg hb0 fun r hr => ((h.rows k hk hm).2.lt r hr).1
    exact h1.setCell (h.own.lt g rfl).1 u
def dropI (f : Mt → Mt) (ms : List Mt) (i : Nat) : List Mt := (ms.take i).map f ++ ms.drop i
theorem dropI_len (f : Mt → Mt) (ms : List Mt) (i : Nat) : (dropI f ms i).length = ms.length := by simp [dropI]; omega
theorem dropI_at (f : Mt → Mt) (ms : List Mt) (i : Nat) (h : i < ms.length) (h' : i < (dropI f ms i).length) : (dropI f ms i)[i] = ms[i] := by
  have e : (dropI f ms i)[i]? = some ms[i] := by
    unfold dropI
    rw [List.getElem?_append_right (by simp; omega), List.length_map, List.length_take, Nat.min_eq_left (Nat.le_of_lt h), Nat.sub_self, List.getElem?_drop]
    simp [h]
  rw [List.getElem?_eq_getElem h'] at e
  injection e
theorem dropI_set (f : Mt → Mt) (ms : List Mt) (i : Nat) (h : i < ms.length) : (dropI f ms i).set i (f ms[i]) = dropI f ms (i + 1) := by
  unfold dropI
  have e : (List.map f (ms.take i)).length = i := by simp; omega
  rw [List.set_append_right _ _ (by omega), e, Nat.sub_self, List.drop_eq_getElem_cons h, List.set_cons_zero, List.take_succ_eq_append_getElem h, List.map_append]
  simp
theorem dropI_all (f : Mt → Mt) (ms : List Mt) : dropI f ms ms.length = ms.map f := by simp [dropI]
def dropM (q : List Sp → Sp → Bool) (m : Mt) : Mt := (m.1, keptL (q m.1) m.2)
set_option maxHeartbeats 4000000 in
theorem drop_any (F : Nat) (cb : Array Value) (q : List Sp → Sp → Bool) (M : Nat) (w0 : World) (A : Option Addr) (n c : Nat) (zs : List (Value × Value)) (ms : List Mt) (HN : Hid (n = ms.length)) (hn : n ≤ 100000) (HL : Hid (∀ m ∈ ms, m.1.length ≤ M ∧ m.2.length ≤ 100000)) (w : World) (h : MO w0 w (.slice A n c) zs ms) (hF : Hid (FnX F cb q M w0)) :
    Calls Try.prog 44 #[.slice A n c, .func (.func F) #[] cb] w fun e w' => e = .returned (.slice A n c) ∧ ∃ zs', MO w0 w' (.slice A n c) zs' (ms.map (dropM q)) := by
  have HM0 : Hid (MO w0 w (.slice A n c) zs (dropI (dropM q) ms 0)) := by show MO _ _ _ _ _; rw [show dropI (dropM q) ms 0 = ms from by simp [dropI]]; exact h
  have HCF := hF.out.1
  clear h
  go_enter Try.func44, Try.ntmps44
  go_wp2_with fail
  go_loopw [9] (fun i wr => ∃ (k : Nat) (zs : List (Value × Value)), k ≤ n ∧ i = .int .i64 k ∧ Hid (MO w0 wr (.slice A n c) zs (dropI (dropM q) ms k))) (fun i _ => n - (intOf i).toNat)
  case atStart => exact ⟨0, zs, Nat.zero_le _, rfl, HM0⟩
  case round =>
    clear HM0 zs
    obtain ⟨k, zs, hk, rfl, HM⟩ := hrel
    by_cases hlt : k < n
    · have hkl : k < ms.length := by rw [← HN.out]; exact hlt
      have hzl : zs.length = n := by rw [HM.out.len, dropI_len, HN.out]
      have hkz : k < zs.length := by omega
      have HLT := Lib.hid hlt
      obtain ⟨g, rfl⟩ : ∃ g, A = some ⟨g, 0, none⟩ := by
        rcases HM.out.own.2 with ⟨_, h⟩ | ⟨g, _, _, e, _⟩
        · omega
        · injection e with e _ _
          exact ⟨g, e⟩
      have hd : (dropI (dropM q) ms k)[k]'(by rw [dropI_len]; exact hkl) = ms[k] := dropI_at _ _ _ hkl _
      obtain ⟨r0, r1⟩ := HM.out.rows k hkz (by rw [dropI_len]; exact hkl)
      rw [hd] at r0 r1
      obtain ⟨z0, z1⟩ := zC_at zs k hkz
      have hown := HM.out.own
      rw [hzl] at hown
      have e0 := (hown.cellAt (k * 2) (by omega)).trans z0
      have e1 := (hown.cellAt (k * 2 + 1) (by omega)).trans z1
      have HSK := HL.out _ (List.getElem_mem hkl)
      have HSET : Hid (∀ (Y W1 : World) (u : Value), Below wr.heap.size wr Y → Y.grownBy W1 zs[k].2.ownBlock → RW W1 w0.heap.size u (keptL (q ms[k].1) ms[k].2) → u.ownBlock = zs[k].2.ownBlock → MO w0 (W1.setCell ⟨g, k * 2 + 1, none⟩ u) (.slice (some ⟨g, 0, none⟩) n c) (zs.set k (zs[k].1, u)) (dropI (dropM q) ms (k + 1))) := fun Y W1 u hY hg ho hu => by
        have h := (HM.out.below hY).set k hkz (by rw [dropI_len]; exact hkl) u _ hg ho hu
        rw [hd] at h
        rw [← dropI_set (dropM q) ms k hkl]
        exact h
      have HNE := HM.out.ne _ _ _ _ z0 z1 (by omega)
      have hnv := HM.out.vne _ (List.mem_of_getElem? z1)
      obtain ⟨C0, d0, ev0⟩ : ∃ C d, zs[k].1 = .slice C ms[k].1.length d := by obtain ⟨a, b, e, _⟩ := own_form r0; exact ⟨a, b, e⟩
      obtain ⟨C1, d1, ev1⟩ : ∃ C d, zs[k].2 = .slice C ms[k].2.length d := by obtain ⟨a, b, e, _⟩ := own_form r1; exact ⟨a, b, e⟩
      obtain ⟨m, hm⟩ : ∃ m, m = ms[k] := ⟨_, rfl⟩
      rw [← hm] at r0 r1 HSK HSET ev0 ev1
      obtain ⟨l0, hl0⟩ : ∃ l, l = m.1.length := ⟨_, rfl⟩
      obtain ⟨l1, hl1⟩ : ∃ l, l = m.2.length := ⟨_, rfl⟩
      obtain ⟨v0, hv0⟩ : ∃ v, v = zs[k].1 := ⟨_, rfl⟩
      obtain ⟨v1, hv1⟩ : ∃ v, v = zs[k].2 := ⟨_, rfl⟩
      rw [← hv0] at ev0 e0 r0 HNE HSET
      rw [← hv1] at ev1 e1 r1 HNE HSET hnv
      rw [← hl0] at ev0
      rw [← hl1] at ev1
      subst ev0 ev1
      obtain ⟨X, hX⟩ : ∃ X, wr.alloc (.cells #[.slice C0 l0 d0, .slice C1 l1 d1] 60) = X := ⟨_, rfl⟩
      have bX : Below wr.heap.size wr X := by rw [← hX]; exact (Below.refl _ _).alloc (Nat.le_refl _) _
      have sX : wr.heap.size < X.heap.size := by rw [← hX]; simp
      obtain ⟨q0, q1⟩ := box2 wr (.slice C0 l0 d0) (.slice C1 l1 d1) 60
      rw [hX] at q0 q1
      have kb := HM.out.kb
      have hrow : ∀ r, (Value.slice C1 l1 d1).ownBlock = some r → w0.heap.size ≤ r ∧ r < wr.heap.size ∧ (Value.slice C0 l0 d0).ownBlock ≠ some r := fun r hr => by
        obtain ⟨a, b⟩ := r1.lt r hr
        refine ⟨a, b, fun e => ?_⟩
        rcases HNE with h | h
        · rw [h] at e; cases e
        · exact h (e.trans hr.symm)
      obtain ⟨row, hrw⟩ : ∃ row, row = (Value.slice C1 l1 d1).ownBlock := ⟨_, rfl⟩
      rw [← hrw] at hrow HSET hnv
      have HSV0 : Hid (∀ W, Below X.heap.size X W → SV W W.heap.size (.slice C0 l0 d0) m.1) := fun W hW => (r0.sv.up bX).up hW
      have HR1 : Hid (∀ W, Below X.heap.size X W → W.ownsRow w0.heap.size 26 4 (.slice C1 l1 d1) l1 (spCs m.2)) := fun W hW => by have := own_below (own_below r1 bX) hW; rw [← hl1] at this; exact this
      have KX : Hid (∀ W, Below X.heap.size X W → Calls Try.prog F (#[.slice C0 l0 d0] ++ cb) W fun e w' => ∃ G cb', e = .returned (.func (.func G) #[] cb') ∧ Below X.heap.size X w' ∧ Hid (FnD G cb' (q m.1) row w')) := fun W hW =>
        (hF.out.2 W (kb.trans ((bX.trans (hW.mono bX.size)).mono kb.size)) _ m.1 row (HSV0.out W hW) HSK.1 (fun r hr => by obtain ⟨a, b, c⟩ := hrow r hr; exact ⟨a, by have := hW.size; omega, c⟩)).mono fun e w' ⟨G, cb', h1, h2, h3⟩ => ⟨G, cb', h1, hW.trans (h2.mono hW.size), h3⟩
      have KD : Hid (∀ W G cb', Below X.heap.size X W → Hid (FnD G cb' (q m.1) row W) → Calls Try.prog 73 #[.slice C1 l1 d1, .func (.func G) #[] cb'] W fun e w' => ∃ j, e = .returned (.slice C1 j d1) ∧ RW w' w0.heap.size (.slice C1 j d1) (keptL (q m.1) m.2) ∧ W.grownBy w' row ∧ Below X.heap.size X W) := fun W G cb' hW hD =>
        (delete_any G cb' (q m.1) w0.heap.size C1 l1 d1 m.2 hl1 (by rw [hl1]; exact HSK.2) W (HR1.out W hW) (by rw [← hrw]; exact hD)).mono fun e w' ⟨j, h1, h2, h3, h4⟩ => ⟨j, h1, by subst h2; exact h3, by rw [hrw]; exact h4, hW⟩
      have HCW : Hid (∀ W, Below X.heap.size X W → W.cell? ⟨wr.heap.size, 0, none⟩ = some (.slice C0 l0 d0) ∧ W.cell? ⟨wr.heap.size, 1, none⟩ = some (.slice C1 l1 d1)) := fun W hW => ⟨(hW.cell sX).trans q0, (hW.cell sX).trans q1⟩
      have HGW : Hid (∀ W W', Below X.heap.size X W → W.grownBy W' row → (W'.cell? ⟨wr.heap.size, 0, none⟩ = some (.slice C0 l0 d0) ∧ W'.cell? ⟨wr.heap.size, 1, none⟩ = some (.slice C1 l1 d1)) ∧ W'.cell? ⟨g, k * 2 + 1, none⟩ = some (.slice C1 l1 d1) ∧ W'.frozen? ⟨g, k * 2 + 1, none⟩ = false) := fun W W' hW hg => by
        have hgw : g < wr.heap.size := World.block_lt_of_cell? wr _ e1
        have hXs := hW.size
        have a := hg.block wr.heap.size (by omega) (fun e => by have := (hrow _ e.symm).2.1; omega)
        have b := hg.block g (by omega) (fun e => by rcases hnv with h | h; (cases h); exact h e)
        have cc : W'.cell? ⟨g, k * 2 + 1, none⟩ = wr.cell? ⟨g, k * 2 + 1, none⟩ := (World.cell?_of_block (w := W) b).trans ((hW.cell (p := ⟨g, k * 2 + 1, none⟩) (by show g < _; omega)).trans (bX.cell hgw))
        have ff : W'.frozen? ⟨g, k * 2 + 1, none⟩ = wr.frozen? ⟨g, k * 2 + 1, none⟩ := (World.frozen?_of_block (w := W) b).trans ((hW.frozen (p := ⟨g, k * 2 + 1, none⟩) (by show g < _; omega)).trans (bX.frozen hgw))
        exact ⟨⟨(World.cell?_of_block (w := W) (a := ⟨wr.heap.size, 0, none⟩) a).trans (HCW.out W hW).1, (World.cell?_of_block (w := W) (a := ⟨wr.heap.size, 1, none⟩) a).trans (HCW.out W hW).2⟩, cc.trans e1, ff.trans (hown.frozenAt _)⟩
      have HGS : Hid (∀ W W' u, Below X.heap.size X W → W.grownBy W' row → (W'.setCell ⟨g, k * 2 + 1, none⟩ u).cell? ⟨wr.heap.size, 0, none⟩ = some (.slice C0 l0 d0) ∧ (W'.setCell ⟨g, k * 2 + 1, none⟩ u).cell? ⟨wr.heap.size, 1, none⟩ = some (.slice C1 l1 d1)) := fun W W' u hW hg => by
        have hgw : g < wr.heap.size := World.block_lt_of_cell? wr _ e1
        obtain ⟨⟨a, b⟩, _⟩ := HGW.out W W' hW hg
        rw [World.cell?_setCell_other _ _ _ _ (by intro e; injection e with e _; omega), World.cell?_setCell_other _ _ _ _ (by intro e; injection e with e _; omega)]
        exact ⟨a, b⟩
      have HSET' : Hid (∀ W W1 j, Below X.heap.size X W → W.grownBy W1 row → RW W1 w0.heap.size (.slice C1 j d1) (keptL (q m.1) m.2) → ∃ zs', MO w0 (W1.setCell ⟨g, k * 2 + 1, none⟩ (.slice C1 j d1)) (.slice (some ⟨g, 0, none⟩) n c) zs' (dropI (dropM q) ms (k + 1))) := fun W W1 j hW hg ho =>
        ⟨_, HSET.out W W1 _ (bX.trans (hW.mono bX.size)) hg ho (by rw [hrw]; cases C1 <;> rfl)⟩
      have BR := Lib.hid (Below.refl X.heap.size X)
      have HX := Lib.hid hX
      have hgw : g < wr.heap.size := World.block_lt_of_cell? wr _ e1
      have hkI : (k : Int) < (n : Int) := by omega
      have wk : IntKind.i64.wrap ((k : Int) + 1) = ((k + 1 : Nat) : Int) := by rw [IntKind.wrap_i64]; omega
      clear hX bX sX q0 q1 kb hrow hrw HSET hnv HNE HSV0 HR1 r0 r1 hl0 hl1 hm hv0 hv1 z0 z1 hd hown HSK hkz hzl
      go_upto_region 4 with fail
      rw [HX.out]
      clear e0 e1
      go_region_held3 (fun W => W.cell? ⟨wr.heap.size, 0, none⟩ = some (.slice C0 l0 d0) ∧ W.cell? ⟨wr.heap.size, 1, none⟩ = some (.slice C1 l1 d1))
        (first | exact HCW.out _ BR.out.drew | exact HCW.out _ (by assumption) | exact (HGW.out _ _ b4 g4).1 | exact HGS.out _ _ _ b4 g4)
        (first
          | (go_at_fn F; (with_reducible refine (KX.out _ BR.out.drew).mono ?_); rintro e w3 ⟨G, cb', rfl, b3, hD3⟩)
          | (go_at_call 73; (with_reducible refine (KD.out _ _ _ (by assumption) (by assumption)).mono ?_); rintro e w4 ⟨j, rfl, ho4, g4, b4⟩; obtain ⟨_, r4, f4⟩ := HGW.out _ _ b4 g4))
      obtain ⟨zs', hm'⟩ := HSET'.out _ _ _ b4 g4 ho4
      have HM' := Lib.hid hm'
      clear hm' ho4 g4 b4 r4 f4 b3
      go_wp2_with fail
      exact ⟨⟨k + 1, zs', HLT.out, by go_num, HM'.out⟩, by have := HLT.out; simp [intOf]; omega⟩
    · obtain rfl : k = n := by omega
      have HF : Hid (MO w0 wr (.slice A k c) zs (ms.map (dropM q))) := by have h := HM.out; rw [HN.out, dropI_all] at h; rw [HN.out]; exact h
      go_wp2_with fail
      go_ret
      exact ⟨rfl, _, HF.out⟩
end Go.Proofs.Ytafbjadlklcicaa
