/- The reader's list. -/
import Derived.Test.YtbehfhdkdekjfaaDoorXmRd
namespace Go.Proofs.YtbehfhdkdekjfaaDoor
open Go.RowKit
set_option maxRecDepth 100000

theorem info_node : (Tryd.prog.info? 30).map (fun i => (i.zero, i.size, i.bytes)) = some (some (.agg #[.string ⟨#[]⟩, .string ⟨#[]⟩, .slice none 0 0, .int .i64 0, .int .i64 0, .int .i64 0]), 6, 80) := by kernel_rfl
theorem nd_one (n : Nd) (A : Option Addr) (k c : Nat) : ∀ u ∈ ndV n (.slice A k c), u.oneCell' = true := by
  intro u hu
  simp only [ndV, List.mem_cons, List.not_mem_nil, or_false] at hu
  rcases hu with rfl | rfl | rfl | rfl | rfl | rfl <;> rfl
/-- A block of six cells. -/
structure Bx6 (w : World) (B : Nat) (a b c d e f : Value) : Prop where
  c0 : w.cell? ⟨B, 0, none⟩ = some a
  c1 : w.cell? ⟨B, 1, none⟩ = some b
  c2 : w.cell? ⟨B, 2, none⟩ = some c
  c3 : w.cell? ⟨B, 3, none⟩ = some d
  c4 : w.cell? ⟨B, 4, none⟩ = some e
  c5 : w.cell? ⟨B, 5, none⟩ = some f
  fr : ∀ o, w.frozen? ⟨B, o, none⟩ = false
theorem Bx6.new (w : World) (a b c d e f : Value) (T : TypeId) : Bx6 (w.alloc (.cells #[a, b, c, d, e, f] T)) w.heap.size a b c d e f := by
  refine ⟨?_, ?_, ?_, ?_, ?_, ?_, fun o => ?_⟩
  all_goals first | (simp only [World.cell?, heap_alloc_new]; rfl) | (simp only [World.frozen?, heap_alloc_new]; simp)
theorem RdV.drew {w : World} {R : Nat} {s : St} {vn vo vt : Value} {avs : List Value} (h : RdV w R s vn vo vt avs) : RdV w.drew R s vn vo vt avs := h.below ((Below.refl _ _).drew)
theorem list_cells {W2 w4 : World} {R : Nat} {s : St} {vn vo vt : Value} {avs : List Value} (hV : RdV W2 R s vn vo vt avs) (o : Obj) (hg : ((W2.alloc o).drew).grownBy w4 vn.ownBlock) : w4.heap[R]? = W2.heap[R]? ∧ Cel w4 R vn vo vt ∧ Rst w4 R s.rest := by
  have hb : Below W2.heap.size W2 (W2.alloc o).drew := ((Below.refl _ _).alloc (Nat.le_refl _) o).drew
  have hVa := hV.below hb
  have hne : vn.ownBlock ≠ some R := fun e => by have := (own_lt hV.rows.n R e).1; omega
  have hk := hg.block R hVa.rst.lt (fun e => hne e.symm)
  exact ⟨hk.trans (hb.block R hV.rst.lt), hVa.cel.of hk, hVa.rst.grown hg hne⟩
theorem list_end {W2 w4 : World} {R : Nat} {s : St} {vn vo vt : Value} {avs : List Value} (hV : RdV W2 R s vn vo vt avs) (nd : Nd) (av : Value) (hav : AtRow W2 (R + 1) av nd.attrs) (hfree : Free av vn vo vt) (o : Obj)
    (hg : ((W2.alloc o).drew).grownBy w4 vn.ownBlock) (gg cap n : Nat) (hn : n = s.nodes.length) (hown : w4.ownsRow (R + 1) 30 6 (.slice (some ⟨gg, 0, none⟩) (n + 1) cap) (n + 1) (ndCells s.nodes avs ++ ndV nd av))
    (hat : vn.ownBlock = some gg ∨ gg = W2.heap.size + 1) :
    RdV (w4.setCell ⟨R, 1, none⟩ (.slice (some ⟨gg, 0, none⟩) (n + 1) cap)) R { s with nodes := s.nodes ++ [nd] } (.slice (some ⟨gg, 0, none⟩) (n + 1) cap) vo vt (avs ++ [av]) ∧ Below R W2 (w4.setCell ⟨R, 1, none⟩ (.slice (some ⟨gg, 0, none⟩) (n + 1) cap)) := by
  subst hn
  obtain ⟨_, hc, hr⟩ := list_cells hV o hg
  have hb : Below W2.heap.size W2 (W2.alloc o).drew := ((Below.refl _ _).alloc (Nat.le_refl _) o).drew
  have hVa := hV.below hb
  have hsz : (W2.alloc o).drew.heap.size = W2.heap.size + 1 := by show (W2.alloc o).heap.size = _; simp
  have hb4 : Below R W2 w4 := (hb.mono (Nat.le_of_lt hV.rst.lt)).trans ((Below.refl R _).grown hg (Nat.le_of_lt hVa.rst.lt) fun k hk => by have := (own_lt hV.rows.n k hk).1; omega)
  refine ⟨⟨hr.setR 1 (by omega) _, hc.set1 _, RRows.set (hVa.rows.nodes nd av (own_below hav hb) hfree hg ?_ ?_) 1 _⟩, hb4.setCell (p := ⟨R, 1, none⟩) (Nat.le_refl _) _⟩
  · rw [ndCells_snoc _ _ _ _ hV.rows.la, List.length_append]
    exact hown
  · rcases hat with e | e
    · exact .inl e.symm
    · exact .inr (by rw [hsz, e]; rfl)
theorem open_last (os : List Nat) (m : Nat) (h : os.length = m + 1) : ∃ x, os.getLast? = some x ∧ (opCells os)[m]? = some (.int .i64 (x : Nat)) := by
  have hm : m < os.length := by omega
  refine ⟨os[m], ?_, ?_⟩
  · rw [List.getLast?_eq_getElem?, h]
    simp [hm]
  · unfold opCells
    rw [List.getElem?_map, List.getElem?_eq_getElem hm]
    rfl
set_option maxHeartbeats 4000000 in
theorem list_any (R : Nat) (s : St) (nm tx : L8) (A : Option Addr) (an ac : Nat) (ats : List At) (w : World) (vn vo vt : Value) (avs : List Value) (h : RdV w R s vn vo vt avs)
    (hav : AtRow w (R + 1) (.slice A an ac) ats) (hfree : Free (.slice A an ac) vn vo vt) (hno : s.opn.length ≤ 100) (hnn : s.nodes.length ≤ 16384) :
    Calls Tryd.prog 56 #[.pointer (some ⟨R, 0, none⟩), .agg #[.string (strOf nm), .string (strOf tx), .slice A an ac, .int .i64 0, .int .i64 0, .int .i64 0]] w
      fun e w' => e = .returned (.int .i64 (s.nodes.length : Nat)) ∧ Below R w w' ∧ ∃ vn' avs', RdV w' R (listS s nm tx ats) vn' vo vt avs' := by
  have HV := Lib.hid h
  have hx := Bx6.new w (.string (strOf nm)) (.string (strOf tx)) (.slice A an ac) (.int .i64 0) (.int .i64 0) (.int .i64 0) 30
  have hb0 : Below w.heap.size w (w.alloc (.cells #[.string (strOf nm), .string (strOf tx), .slice A an ac, .int .i64 0, .int .i64 0, .int .i64 0] 30)) := (Below.refl _ _).alloc (Nat.le_refl _) _
  have hV0 := h.below hb0
  obtain ⟨An, cn, hvn, hacn, hcmn, _, _⟩ := own_form h.rows.n
  obtain ⟨Ao, co, hvo, haco, hcmo, hcso, _⟩ := own_form h.rows.o
  have c1 := hV0.cel.c1
  have c2 := hV0.cel.c2
  rw [hvn] at c1
  rw [hvo] at c2
  obtain ⟨i0, hi, hz0, hz1, hz2⟩ := info_parts info_node
  obtain ⟨n, hn⟩ : ∃ n, n = s.nodes.length := ⟨_, rfl⟩
  obtain ⟨m, hm⟩ : ∃ m, m = s.opn.length := ⟨_, rfl⟩
  have HN := Lib.hid hn
  have HM := Lib.hid hm
  have HAV := Lib.hid hav
  have HFR := Lib.hid hfree
  rw [← hn] at c1 hacn hnn ⊢
  rw [← hm] at c2 haco hno
  have hne : w.heap.size ≠ R := by have := h.rst.lt; omega
  have hRw : R < w.heap.size := h.rst.lt
  obtain ⟨x0, x1, x2, x3, x4, x5, xf⟩ := hx
  have xf3 := xf 3
  have xf4 := xf 4
  have xf5 := xf 5
  unfold maxLen at hcmn hcmo
  have HVN := Lib.hid hvn
  have HVO := Lib.hid hvo
  have HCO := Lib.hid hcso
  have hlt0 : w.heap.size < (w.alloc (.cells #[.string (strOf nm), .string (strOf tx), .slice A an ac, .int .i64 0, .int .i64 0, .int .i64 0] 30)).heap.size := by simp
  have HB0 := Lib.hid hb0
  have HXF := Lib.hid xf
  clear h hn hm xf hvn hvo hcso hb0 hV0 hav hfree
  go_enter Tryd.func56, Tryd.ntmps56
  go_wp2_with fail
  generalize w.alloc (.cells #[.string (strOf nm), .string (strOf tx), .slice A an ac, .int .i64 0, .int .i64 0, .int .i64 0] 30) = W at *
  go_region
  obtain ⟨W1, hW1⟩ : ∃ W1, W1 = (((W.setCell ⟨w.heap.size, 3, none⟩ (.int .i64 (-1))).setCell ⟨w.heap.size, 4, none⟩ (.int .i64 (m : Int))).setCell ⟨w.heap.size, 5, none⟩ (.int .i64 ((n : Int) + 1))).drew := ⟨_, rfl⟩
  have hX1 : Bx6 W1 w.heap.size (.string (strOf nm)) (.string (strOf tx)) (.slice A an ac) (.int .i64 (-1)) (.int .i64 (m : Int)) (.int .i64 ((n : Int) + 1)) := by
    rw [hW1]
    have hset : ∀ (V : World) (o o' : Nat) (u : Value), o' ≠ o → (V.setCell ⟨w.heap.size, o, none⟩ u).cell? ⟨w.heap.size, o', none⟩ = V.cell? ⟨w.heap.size, o', none⟩ := fun V o o' u ho => cell_setR V w.heap.size o o' u ho
    refine ⟨?_, ?_, ?_, ?_, ?_, ?_, fun o => ?_⟩
    · show World.cell? (World.setCell _ _ _) _ = _; rw [hset _ _ _ _ (by omega), hset _ _ _ _ (by omega), hset _ _ _ _ (by omega)]; exact x0
    · show World.cell? (World.setCell _ _ _) _ = _; rw [hset _ _ _ _ (by omega), hset _ _ _ _ (by omega), hset _ _ _ _ (by omega)]; exact x1
    · show World.cell? (World.setCell _ _ _) _ = _; rw [hset _ _ _ _ (by omega), hset _ _ _ _ (by omega), hset _ _ _ _ (by omega)]; exact x2
    · show World.cell? (World.setCell _ _ _) _ = _; rw [hset _ _ _ _ (by omega), hset _ _ _ _ (by omega)]; exact World.cell?_setCell_same _ _ _ (by rw [x3])
    · show World.cell? (World.setCell _ _ _) _ = _; rw [hset _ _ _ _ (by omega)]; exact World.cell?_setCell_same _ _ _ (by rw [hset _ _ _ _ (by omega), x4])
    · show World.cell? (World.setCell _ _ _) _ = _; exact World.cell?_setCell_same _ _ _ (by rw [hset _ _ _ _ (by omega), hset _ _ _ _ (by omega), x5])
    · show World.frozen? (World.setCell _ _ _) _ = _; simpa using HXF.out o
  have hB1 : Below w.heap.size w W1 := by
    rw [hW1]
    exact (((HB0.out.setCell (p := ⟨w.heap.size, 3, none⟩) (Nat.le_refl _) _).setCell (p := ⟨w.heap.size, 4, none⟩) (Nat.le_refl _) _).setCell (p := ⟨w.heap.size, 5, none⟩) (Nat.le_refl _) _).drew
  have hs1 : w.heap.size < W1.heap.size := by
    rw [hW1]
    show w.heap.size < (World.setCell _ _ _).heap.size
    simpa [World.setCell] using hlt0
  rw [← hW1]
  clear hW1 x0 x1 x2 x3 x4 x5 xf3 xf4 xf5 HXF HB0 hlt0 c1 c2
  have hV1 := HV.out.below hB1
  have c1 := hV1.cel.c1
  have c2 := hV1.cel.c2
  rw [HVN.out, ← HN.out] at c1
  rw [HVO.out, ← HM.out] at c2
  have x4 := hX1.c4
  have x3 := hX1.c3
  have xf3 := hX1.fr 3
  have HX1 := Lib.hid hX1
  clear hX1 hV1
  rcases Nat.eq_zero_or_pos m with hm0 | hm0
  · subst hm0
    go_wp2_with fail
    have hB2 := hB1
    have HX2 := HX1
    obtain ⟨nd, hnd⟩ : ∃ nd : Nd, nd = { name := nm, text := tx, attrs := ats, parent := -1, level := ((0 : Nat) : Int), fin := (n : Int) + 1 } := ⟨_, rfl⟩
    have HLS : Hid (listS s nm tx ats = { s with nodes := s.nodes ++ [nd] }) := by
      show _ = _
      rw [hnd]
      unfold listS
      rw [← HM.out, ← HN.out, show s.opn = [] from List.eq_nil_of_length_eq_zero HM.out.symm]; rfl
    have HCV : Hid (ndV nd (.slice A an ac) = [.string (strOf nm), .string (strOf tx), .slice A an ac, .int .i64 (-1), .int .i64 (((0 : Nat) : Int)), .int .i64 ((n : Int) + 1)]) := by show _ = _; rw [hnd]; rfl
    have HAT : Hid (nd.attrs = ats) := by show _ = _; rw [hnd]
    have HV2 := Lib.hid (HV.out.below hB2)
    have HL : Hid (∀ w4, ((W1.alloc (.cells #[.string (strOf nm), .string (strOf tx), .slice A an ac, .int .i64 (-1), .int .i64 (((0 : Nat) : Int)), .int .i64 ((n : Int) + 1)] 30)).drew).grownBy w4 (Value.slice An n cn).ownBlock → w4.cell? ⟨R, 1, none⟩ = some (.slice An n cn) ∧ w4.frozen? ⟨R, 1, none⟩ = false) := by
      intro w4 hg
      rw [HN.out, ← HVN.out] at hg ⊢
      have := (list_cells HV2.out _ hg).2.1
      exact ⟨this.c1, this.fr 1⟩
    have HF : Hid (∀ w4 gg cap, ((W1.alloc (.cells #[.string (strOf nm), .string (strOf tx), .slice A an ac, .int .i64 (-1), .int .i64 (((0 : Nat) : Int)), .int .i64 ((n : Int) + 1)] 30)).drew).grownBy w4 (Value.slice An n cn).ownBlock → w4.ownsRow (R + 1) 30 6 (.slice (some ⟨gg, 0, none⟩) (n + 1) cap) (n + 1) (ndCells s.nodes avs ++ ndV nd (.slice A an ac)) →
        ((Value.slice An n cn).ownBlock = some gg ∨ gg = W1.heap.size + 1) → Below R w (w4.setCell ⟨R, 1, none⟩ (.slice (some ⟨gg, 0, none⟩) (n + 1) cap)) ∧ ∃ vn' avs', RdV (w4.setCell ⟨R, 1, none⟩ (.slice (some ⟨gg, 0, none⟩) (n + 1) cap)) R (listS s nm tx ats) vn' vo vt avs') := by
      intro w4 gg cap hg ho ha
      rw [show (Value.slice An n cn) = vn by rw [HN.out, ← HVN.out]] at hg ha
      have hr := list_end HV2.out nd (.slice A an ac) (by rw [HAT.out]; exact own_below HAV.out hB2) HFR.out _ hg gg cap n HN.out ho ha
      refine ⟨(hB2.mono (Nat.le_of_lt hRw)).trans hr.2, .slice (some ⟨gg, 0, none⟩) (n + 1) cap, avs ++ [.slice A an ac], ?_⟩
      rw [HLS.out]
      exact hr.1
    have hownW : W1.ownsRow (R + 1) 30 6 (.slice An n cn) n (ndCells s.nodes avs) := by have := HV2.out.rows.n; rw [HVN.out, ← HN.out] at this; exact this
    have HONE := Lib.hid (nd_one nd A an ac)
    rw [HCV.out] at HONE
    clear hnd
    obtain ⟨z0, z1, z2, z3, z4, z5, zf⟩ := HX2.out
    have hsR : R + 1 ≤ W1.heap.size := by omega
    have hltR : R < W1.heap.size := by omega
    clear zf
    go_region_law ((refine step_append_lies _ (by rfl) _ _ _ (by rfl) (R + 1) 30 i0 _ 6 80 Tryd.underlying23 hi hz0 hz1 hz2 rfl (by omega) (.slice An n cn) n (ndCells s.nodes avs) (by rfl) ((hownW.alloc _).drew) ⟨W1.heap.size, 0, none⟩ 1 1 [.string (strOf nm), .string (strOf tx), .slice A an ac, .int .i64 (-1), .int .i64 (((0 : Nat) : Int)), .int .i64 ((n : Int) + 1)] (by rfl) (by rfl) (World.news_of_block (cs := #[.string (strOf nm), .string (strOf tx), .slice A an ac, .int .i64 (-1), .int .i64 (((0 : Nat) : Int)), .int .i64 ((n : Int) + 1)]) (t := 30) (fr := (0, 0)) (heap_alloc_new W1 _)) HONE.out (by omega) (by unfold maxLen; omega) (by omega) (by simp; omega) (W1.heap.size + 1) (by simp) ?_; intro gg cap w4 hown4 hgrow hat hlt; have k4 := (HL.out w4 hgrow).1; have f4 := (HL.out w4 hgrow).2))
    all_goals
      have hfin := HF.out w4 gg cap hgrow (by rw [HCV.out]; exact hown4) hat
      have HFIN := Lib.hid hfin
      clear hfin hown4 hgrow hat hlt k4 f4
      go_wp2_with fail
      go_ret
      exact ⟨rfl, HFIN.out⟩
  · obtain ⟨k, rfl⟩ : ∃ k, m = k + 1 := ⟨m - 1, by omega⟩
    obtain ⟨y, HY, hy⟩ := open_last s.opn k HM.out.symm
    obtain ⟨bo, oo, hAo, hbo, hco⟩ := HCO.out (by rw [opCells_len]; have := HM.out; omega)
    have l1 : W1.cell? ⟨bo, oo + k, none⟩ = some (.int .i64 (y : Nat)) := (hB1.cell (p := ⟨bo, oo + k, none⟩) hbo).trans (hco k _ hy)
    subst hAo
    have HY2 := Lib.hid HY
    clear hy hco HY
    go_wp2_with fail
    go_region
    obtain ⟨W2, hW2⟩ : ∃ W2, W2 = (W1.setCell ⟨w.heap.size, 3, none⟩ (.int .i64 (y : Int))).drew := ⟨_, rfl⟩
    have HX2 : Hid (Bx6 W2 w.heap.size (.string (strOf nm)) (.string (strOf tx)) (.slice A an ac) (.int .i64 (y : Int)) (.int .i64 ((k + 1 : Nat) : Int)) (.int .i64 ((n : Int) + 1))) := by
      rw [hW2]
      have hset : ∀ (o' : Nat), o' ≠ 3 → (W1.setCell ⟨w.heap.size, 3, none⟩ (.int .i64 (y : Int))).cell? ⟨w.heap.size, o', none⟩ = W1.cell? ⟨w.heap.size, o', none⟩ := fun o' ho => cell_setR W1 w.heap.size 3 o' _ ho
      refine ⟨(hset 0 (by omega)).trans HX1.out.c0, (hset 1 (by omega)).trans HX1.out.c1, (hset 2 (by omega)).trans HX1.out.c2, World.cell?_setCell_same _ _ _ (by rw [x3]), (hset 4 (by omega)).trans HX1.out.c4, (hset 5 (by omega)).trans HX1.out.c5, fun o => ?_⟩
      show World.frozen? (World.setCell _ _ _) _ = _
      simpa using HX1.out.fr o
    have hB2 : Below w.heap.size w W2 := by rw [hW2]; exact (hB1.setCell (p := ⟨w.heap.size, 3, none⟩) (Nat.le_refl _) _).drew
    have hs2 : w.heap.size < W2.heap.size := by rw [hW2]; show w.heap.size < (World.setCell _ _ _).heap.size; simpa [World.setCell] using hs1
    have c1' : W2.cell? ⟨R, 1, none⟩ = some (.slice An n cn) := by have := (HV.out.below hB2).cel.c1; rw [HVN.out, ← HN.out] at this; exact this
    rw [← hW2]
    clear hW2 x3 x4 xf3 HX1 hs1 c1 c2 l1 hB1
    go_wp2_with fail
    obtain ⟨nd, hnd⟩ : ∃ nd : Nd, nd = { name := nm, text := tx, attrs := ats, parent := (y : Int), level := ((k + 1 : Nat) : Int), fin := (n : Int) + 1 } := ⟨_, rfl⟩
    have HLS : Hid (listS s nm tx ats = { s with nodes := s.nodes ++ [nd] }) := by
      show _ = _
      rw [hnd]
      unfold listS
      rw [← HM.out, ← HN.out, HY2.out]; rfl
    have HCV : Hid (ndV nd (.slice A an ac) = [.string (strOf nm), .string (strOf tx), .slice A an ac, .int .i64 ((y : Int)), .int .i64 (((k + 1 : Nat) : Int)), .int .i64 ((n : Int) + 1)]) := by show _ = _; rw [hnd]; rfl
    have HAT : Hid (nd.attrs = ats) := by show _ = _; rw [hnd]
    have HV2 := Lib.hid (HV.out.below hB2)
    have HL : Hid (∀ w4, ((W2.alloc (.cells #[.string (strOf nm), .string (strOf tx), .slice A an ac, .int .i64 ((y : Int)), .int .i64 (((k + 1 : Nat) : Int)), .int .i64 ((n : Int) + 1)] 30)).drew).grownBy w4 (Value.slice An n cn).ownBlock → w4.cell? ⟨R, 1, none⟩ = some (.slice An n cn) ∧ w4.frozen? ⟨R, 1, none⟩ = false) := by
      intro w4 hg
      rw [HN.out, ← HVN.out] at hg ⊢
      have := (list_cells HV2.out _ hg).2.1
      exact ⟨this.c1, this.fr 1⟩
    have HF : Hid (∀ w4 gg cap, ((W2.alloc (.cells #[.string (strOf nm), .string (strOf tx), .slice A an ac, .int .i64 ((y : Int)), .int .i64 (((k + 1 : Nat) : Int)), .int .i64 ((n : Int) + 1)] 30)).drew).grownBy w4 (Value.slice An n cn).ownBlock → w4.ownsRow (R + 1) 30 6 (.slice (some ⟨gg, 0, none⟩) (n + 1) cap) (n + 1) (ndCells s.nodes avs ++ ndV nd (.slice A an ac)) →
        ((Value.slice An n cn).ownBlock = some gg ∨ gg = W2.heap.size + 1) → Below R w (w4.setCell ⟨R, 1, none⟩ (.slice (some ⟨gg, 0, none⟩) (n + 1) cap)) ∧ ∃ vn' avs', RdV (w4.setCell ⟨R, 1, none⟩ (.slice (some ⟨gg, 0, none⟩) (n + 1) cap)) R (listS s nm tx ats) vn' vo vt avs') := by
      intro w4 gg cap hg ho ha
      rw [show (Value.slice An n cn) = vn by rw [HN.out, ← HVN.out]] at hg ha
      have hr := list_end HV2.out nd (.slice A an ac) (by rw [HAT.out]; exact own_below HAV.out hB2) HFR.out _ hg gg cap n HN.out ho ha
      refine ⟨(hB2.mono (Nat.le_of_lt hRw)).trans hr.2, .slice (some ⟨gg, 0, none⟩) (n + 1) cap, avs ++ [.slice A an ac], ?_⟩
      rw [HLS.out]
      exact hr.1
    have hownW : W2.ownsRow (R + 1) 30 6 (.slice An n cn) n (ndCells s.nodes avs) := by have := HV2.out.rows.n; rw [HVN.out, ← HN.out] at this; exact this
    have HONE := Lib.hid (nd_one nd A an ac)
    rw [HCV.out] at HONE
    clear hnd
    obtain ⟨z0, z1, z2, z3, z4, z5, zf⟩ := HX2.out
    have hsR : R + 1 ≤ W2.heap.size := by omega
    have hltR : R < W2.heap.size := by omega
    clear zf
    go_region_law ((refine step_append_lies _ (by rfl) _ _ _ (by rfl) (R + 1) 30 i0 _ 6 80 Tryd.underlying23 hi hz0 hz1 hz2 rfl (by omega) (.slice An n cn) n (ndCells s.nodes avs) (by rfl) ((hownW.alloc _).drew) ⟨W2.heap.size, 0, none⟩ 1 1 [.string (strOf nm), .string (strOf tx), .slice A an ac, .int .i64 ((y : Int)), .int .i64 (((k + 1 : Nat) : Int)), .int .i64 ((n : Int) + 1)] (by rfl) (by rfl) (World.news_of_block (cs := #[.string (strOf nm), .string (strOf tx), .slice A an ac, .int .i64 ((y : Int)), .int .i64 (((k + 1 : Nat) : Int)), .int .i64 ((n : Int) + 1)]) (t := 30) (fr := (0, 0)) (heap_alloc_new W2 _)) HONE.out (by omega) (by unfold maxLen; omega) (by omega) (by simp; omega) (W2.heap.size + 1) (by simp) ?_; intro gg cap w4 hown4 hgrow hat hlt; have k4 := (HL.out w4 hgrow).1; have f4 := (HL.out w4 hgrow).2))
    all_goals
      have hfin := HF.out w4 gg cap hgrow (by rw [HCV.out]; exact hown4) hat
      have HFIN := Lib.hid hfin
      clear hfin hown4 hgrow hat hlt k4 f4
      go_wp2_with fail
      go_ret
      exact ⟨rfl, HFIN.out⟩
end Go.Proofs.YtbehfhdkdekjfaaDoor
