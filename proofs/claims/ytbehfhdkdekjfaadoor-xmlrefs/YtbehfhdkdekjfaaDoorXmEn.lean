/- The reader's end. -/
import Derived.Test.YtbehfhdkdekjfaaDoorXmBg
import Derived.Deep.RegionWith
namespace Go.Proofs.YtbehfhdkdekjfaaDoor
open Go.RowKit
set_option maxRecDepth 100000

theorem own_put {w : World} {base : Nat} {t : TypeId} {size : Nat} {g n c : Nat} {xs : List Value} (h : w.ownsRow base t size (.slice (some ⟨g, 0, none⟩) n c) n xs) (j : Nat) (u : Value) : (w.setCell ⟨g, j, none⟩ u).ownsRow base t size (.slice (some ⟨g, 0, none⟩) n c) n (xs.set j u) := by
  refine ⟨by rw [List.length_set]; exact h.1, ?_⟩
  rcases h.2 with ⟨h1, h2⟩ | ⟨g', cap, cur, hv, hg, hh, hnc, hm, hs, ht⟩
  · injection h1 with e1; cases e1
  · injection hv with e1 e2 e3
    injection e1 with e1
    injection e1 with e1
    subst e1; subst e3
    refine .inr ⟨g, c, cur.set! j u, rfl, hg, ?_, hnc, hm, by simpa using hs, ?_⟩
    · show (w.heap.modify g _)[g]? = _
      rw [Array.getElem?_modify, if_pos rfl, hh]
      rfl
    · rw [← ht]
      simp [List.take_set]
theorem ndCells_fin : ∀ (ns : List Nd) (avs : List Value) (k : Nat) (v : Int), avs.length = ns.length → k < ns.length → ndCells (setFin ns k v) avs = (ndCells ns avs).set (k * 6 + 5) (.int .i64 v)
  | [], _, k, v, _, h => by simp at h
  | _ :: _, [], k, v, h, _ => by simp at h
  | x :: ns, y :: avs, 0, v, _, _ => by
    show ndCells ({ x with fin := v } :: ns) (y :: avs) = _
    rw [ndCells, ndCells]
    rfl
  | x :: ns, y :: avs, k + 1, v, h1, h2 => by
    have ih := ndCells_fin ns avs k v (by simpa using h1) (by simpa using h2)
    show ndCells (x :: setFin ns k v) (y :: avs) = _
    rw [ndCells, ndCells, ih, List.set_append_right _ _ (by simp [ndV]; omega)]
    congr 2
    simp [ndV]; omega
theorem setFin_len (ns : List Nd) (k : Nat) (v : Int) : (setFin ns k v).length = ns.length := by simp [setFin]
theorem setFin_attrs (ns : List Nd) (k : Nat) (v : Int) (j : Nat) (nd : Nd) (h : (setFin ns k v)[j]? = some nd) : ∃ nd', ns[j]? = some nd' ∧ nd'.attrs = nd.attrs := by
  unfold setFin at h
  rw [List.getElem?_modify] at h
  cases hn : ns[j]? with
  | none => rw [hn] at h; simp at h
  | some x =>
    rw [hn] at h
    simp only [Option.map_eq_map, Option.map_some, Option.some.injEq] at h
    refine ⟨x, rfl, ?_⟩
    rw [← h]
    split <;> rfl
theorem RRows.fin {w : World} {R g n c : Nat} {ns : List Nd} {os : List Nat} {tx : L8} {vo vt : Value} {avs : List Value} (h : RRows w R ns os tx (.slice (some ⟨g, 0, none⟩) n c) vo vt avs) (hn : n = ns.length) (k : Nat) (hk : k < ns.length) (v : Int) :
    RRows (w.setCell ⟨g, k * 6 + 5, none⟩ (.int .i64 v)) R (setFin ns k v) os tx (.slice (some ⟨g, 0, none⟩) n c) vo vt avs := by
  subst hn
  have far : ∀ (x : Value), (∀ b, x.ownBlock = some b → b ≠ g) → ∀ b, x.ownBlock = some b → (w.setCell ⟨g, k * 6 + 5, none⟩ (.int .i64 v)).heap[b]? = w.heap[b]? := fun x hx b hb => Below.heap_setCell _ _ _ _ (hx b hb)
  refine ⟨?_, own_at h.o fun b hb _ _ => far vo (fun b hb e => h.dno g rfl (by rw [← e]; exact hb)) b hb, own_at h.t fun b hb _ _ => far vt (fun b hb e => h.dnt g rfl (by rw [← e]; exact hb)) b hb, by rw [setFin_len]; exact h.la, fun j av nd h1 h2 => ?_, h.dno, h.dnt, h.dot, h.da⟩
  · rw [setFin_len, ndCells_fin _ _ _ _ h.la hk]
    exact own_put h.n _ _
  · obtain ⟨nd', h3, h4⟩ := setFin_attrs _ _ _ _ _ h2
    rw [← h4]
    exact own_at (h.a j av nd' h1 h3) fun b hb _ _ => far av (fun b hb e => (h.da av (List.mem_of_getElem? h1) b hb).1 (by rw [e]; rfl)) b hb
theorem last_form (os : List Nat) (h : os ≠ []) : ∃ m k, os.length = m + 1 ∧ os.getLast? = some k ∧ (opCells os)[m]? = some (.int .i64 (k : Nat)) ∧ k ∈ os := by
  obtain ⟨m, hm⟩ : ∃ m, os.length = m + 1 := ⟨os.length - 1, by have := List.length_pos_iff.2 h; omega⟩
  obtain ⟨x, h1, h2⟩ := open_last os m hm
  exact ⟨m, x, hm, h1, h2, List.mem_of_getLast? h1⟩
theorem own_some {w : World} {base : Nat} {t : TypeId} {size : Nat} {v : Value} {n : Nat} {xs : List Value} (h : w.ownsRow base t size v n xs) (hn : 0 < n) : ∃ g c, v = .slice (some ⟨g, 0, none⟩) n c ∧ base ≤ g ∧ g < w.heap.size ∧ n ≤ c ∧ c ≤ maxLen ∧ (∀ o, w.frozen? ⟨g, o, none⟩ = false) ∧ ∀ j u, xs[j]? = some u → w.cell? ⟨g, j, none⟩ = some u := by
  rcases h.2 with ⟨_, h2⟩ | ⟨g, cap, cur, hv, hg, hh, hnc, hm, hs, ht⟩
  · omega
  · refine ⟨g, cap, hv, hg, row_lt hh, hnc, hm, fun o => by simp only [World.frozen?, hh]; simp, fun j u hu => ?_⟩
    have := h.cells (g := g) (by rw [hv]; rfl) j u hu
    rwa [add_addr, Nat.zero_add] at this
set_option maxHeartbeats 4000000 in
theorem end_any (R : Nat) (s : St) (w : World) (h : Rd w R s) (hw : Wf s) (hne : s.opn ≠ []) (htx : s.text = []) (hl : s.rest.length ≤ 1000000) (hE : Env w) :
    Calls Tryd.prog 82 #[.pointer (some ⟨R, 0, none⟩)] w (StPost R (s.rest.length + 1) (endS s) w) := by
  obtain ⟨vn, vo, vt, avs, hV⟩ := h
  obtain ⟨m, k, hm, hlast, hkc, hko⟩ := last_form s.opn hne
  have hkn := hw.o k hko
  obtain ⟨nd, hnd⟩ : ∃ nd, s.nodes[k]? = some nd := ⟨_, List.getElem?_eq_getElem hkn⟩
  obtain ⟨av, hav⟩ : ∃ av, avs[k]? = some av := ⟨_, List.getElem?_eq_getElem (by rw [hV.rows.la]; exact hkn)⟩
  obtain ⟨gn, cn, hvn, hgn, hgn2, hacn, hcmn, hfrn, hcelln⟩ := own_some hV.rows.n (by omega)
  obtain ⟨go, co, hvo, hgo, hgo2, haco, hcmo, _, hcello⟩ := own_some hV.rows.o (by omega)
  have hnamec := hcelln (k * 6 + 0) (.string (strOf nd.name)) (by rw [ndCells_at _ _ k nd av 0 hnd hav (by omega)]; rfl)
  have hfinc := hcelln (k * 6 + 5) (.int .i64 nd.fin) (by rw [ndCells_at _ _ k nd av 5 hnd hav (by omega)]; rfl)
  have hlastc := hcello m _ hkc
  rw [Nat.add_zero] at hnamec
  subst hvn
  subst hvo
  have HG : Hid (endS s = if (nameL s.rest).1 ≠ nd.name then .error 11
      else match tk [62] (skipB (nameL s.rest).2) with
        | none => .error 11
        | some r => .ok { s with rest := r, nodes := setFin s.nodes k s.nodes.length, opn := s.opn.dropLast }) := by show _ = _; unfold endS; rw [hlast]; simp only; rw [hnd]; rfl
  have HV := Lib.hid hV
  have HW := Lib.hid hw
  have HTX := Lib.hid htx
  have HE := Lib.hid hE
  have HN := Lib.hid (name_any R s.rest hl hw.v)
  have hvnm := v_name hw.v
  have hln := name_len s.rest
  have hRge : 8 ≤ R := hV.rst.ge
  have c1 := hV.cel.c1
  have c2 := hV.cel.c2
  have fr2 := hV.cel.fr 2
  have hneR : gn ≠ R := by omega
  have hRlt : R < w.heap.size := hV.rst.lt
  rw [hm] at c2 haco
  obtain ⟨N, hNN⟩ : ∃ N, N = s.nodes.length := ⟨_, rfl⟩
  have HNN := Lib.hid hNN
  rw [← hNN] at c1 hacn hkn
  have hfr5 := hfrn (k * 6 + 5)
  have hN16 : N ≤ 16384 := by rw [hNN]; exact hw.nn
  have hm100 : m + 1 ≤ 100 := by rw [← hm]; exact hw.on
  unfold maxLen at hcmn hcmo
  clear hw hE hV hnd hav hkc hlast hko hcelln hcello hne htx hfrn hNN
  generalize nameL s.rest = x at *
  obtain ⟨n, t⟩ := x
  simp only at HN HG hvnm hln
  have heq := str_eq n nd.name
  obtain ⟨B, HBD⟩ : ∃ B, Hid (decide (n = nd.name) = B) := ⟨_, rfl⟩
  rw [HBD.out] at heq
  have HKN : Hid (k < N) := hkn
  have hkn2 : (k : Int) < (N : Int) := by omega
  have hm2 : (m : Int) < ((m + 1 : Nat) : Int) := by omega
  go_enter Tryd.func82, Tryd.ntmps82
  go_wp2_with fail
  go_region
  go_wp2_with fail
  have HBd : Hid (Below w.heap.size w w.drew) := (Below.refl _ _).drew
  have HBd2 : Hid (Below w.heap.size w w.drew.drew) := (Below.refl _ _).drew.drew
  have HR2 := Lib.hid (HV.out.rst.below HBd2.out)
  have HV2 := Lib.hid (HV.out.below HBd2.out)
  have HE2 := Lib.hid (HE.out.below HE.out.2.2.2.2 HBd2.out)
  have nm1 : w.drew.cell? ⟨gn, k * 6, none⟩ = some (.string (strOf nd.name)) := hnamec
  have nm2 : w.drew.drew.cell? ⟨gn, k * 6, none⟩ = some (.string (strOf nd.name)) := hnamec
  have hgd : gn < w.drew.drew.heap.size := hgn2
  have HRlt2 : Hid (R ≤ w.drew.drew.heap.size) := Nat.le_of_lt hRlt
  have HB2 : Hid (Below R w w.drew.drew) := HBd2.out.mono (Nat.le_of_lt hRlt)
  have fn5 : w.drew.drew.cell? ⟨gn, k * 6 + 5, none⟩ = some (.int .i64 nd.fin) := hfinc
  have ff5 : w.drew.drew.frozen? ⟨gn, k * 6 + 5, none⟩ = false := hfr5
  have HFN := Lib.hid fn5
  have HFF := Lib.hid ff5
  clear hnamec hlastc hfinc c1 c2 fr2 HBd HBd2 hfr5 fn5 ff5 HE HV
  go_region_with (go_at_call 54; refine (HN.out w.drew.drew HR2.out HE2.out).mono ?_; rintro e w1 ⟨rfl, m1, r1⟩; have nm3 := mv_cell m1 hneR hgd nm2; have M1 := Lib.hid m1; have R1 := Lib.hid r1; clear m1 r1)
  all_goals
    have hsk := skip_len t
    have hvs := v_skip hvnm.2
    cases B with
    | true =>
      have hnm : n = nd.name := of_decide_eq_true HBD.out
      rw [if_neg (by simpa using hnm)] at HG
      have hlt2 : t.length ≤ 1000000 := by omega
      clear hnm nm1 nm2 nm3 heq
      go_wp2_with fail
      refine (blanks_any R t hlt2 w1 R1.out).mono ?_
      rintro e w2 ⟨rfl, m2, r2⟩
      have M2 := Lib.hid (M1.out.trans m2)
      clear m2
      generalize skipB t = u at *
      go_wp2_with fail
      cases hk : tk [62] u with
      | none =>
        rw [hk] at HG
        refine (take_no R [62] hk w2 r2).mono ?_
        rintro e w3 ⟨rfl, m3, r3⟩
        have M3 := Lib.hid (M2.out.trans m3)
        clear m3 hk
        go_wp2_with fail
        go_ret
        exact ⟨HB2.out.trans (M3.out.below (Nat.le_refl _) HRlt2.out), .inr ⟨11, HG.out, rfl, .inr (.inl rfl)⟩⟩
      | some r =>
        rw [hk] at HG
        have hkl := tk_len hk
        have hv' := v_tk hk (by decide) hvs
        refine (take_yes R [62] hk w2 r2).mono ?_
        rintro e w3 ⟨rfl, m3, r3⟩
        have M3 := Lib.hid (M2.out.trans m3)
        simp only [List.length_cons, List.length_nil] at hkl
        clear m3 hk M1 M2 r2
        have HV3 := Lib.hid (HV2.out.mv M3.out r3)
        have f3 := mv_cell M3.out hneR hgd HFN.out
        have ff3 : w3.frozen? ⟨gn, k * 6 + 5, none⟩ = false := (World.frozen?_of_block (w := w.drew.drew) (a := ⟨gn, k * 6 + 5, none⟩) (M3.out.block gn hgd hneR)).trans HFF.out
        have c1 := HV3.out.cel.c1
        rw [← HNN.out] at c1
        have hoth : ∀ u2 : Value, (w3.setCell ⟨gn, k * 6 + 5, none⟩ u2).heap[R]? = w3.heap[R]? := fun u2 => Below.heap_setCell _ _ _ _ (fun e => hneR e.symm)
        have hcel : ∀ u2 : Value, Cel (w3.setCell ⟨gn, k * 6 + 5, none⟩ u2) R (.slice (some ⟨gn, 0, none⟩) s.nodes.length cn) (.slice (some ⟨go, 0, none⟩) s.opn.length co) vt := fun u2 => HV3.out.cel.of (hoth u2)
        have c2 := (hcel (.int .i64 (N : Int))).c2
        rw [hm] at c2
        have fr2 := (hcel (.int .i64 (N : Int))).fr 2
        have hcut := cut_ints (some ⟨go, 0, none⟩) (m + 1) co m (by omega) haco
        have HCEL := Lib.hid (hcel (.int .i64 (N : Int)))
        have HM := Lib.hid hm
        clear hcel hoth
        go_wp2_with fail
        go_ret
        have hrows := HV3.out.rows.fin rfl k (by rw [← HNN.out]; exact HKN.out) (N : Int)
        have ho := own_cut hrows.o m (by rw [HM.out]; omega)
        have hdl : opCells s.opn.dropLast = (opCells s.opn).take (m * 1) := by
          unfold opCells
          rw [List.map_dropLast, List.dropLast_eq_take, List.length_map, HM.out, Nat.mul_one]
          rfl
        have hdll : s.opn.dropLast.length = m := by rw [List.length_dropLast, HM.out]; rfl
        have ho2 : (w3.setCell ⟨gn, k * 6 + 5, none⟩ (.int .i64 (N : Int))).ownsRow (R + 1) 3 1 (.slice (some ⟨go, 0, none⟩) m co) s.opn.dropLast.length (opCells s.opn.dropLast) := by rw [hdll, hdl]; exact ho
        have hrows2 := hrows.opens (vo' := .slice (some ⟨go, 0, none⟩) m co) (World.grownBy.refl _ _) ho2 (.inl rfl)
        have hrst4 : Rst (w3.setCell ⟨gn, k * 6 + 5, none⟩ (.int .i64 (N : Int))) R r := r3.setFar (p := ⟨gn, k * 6 + 5, none⟩) hneR _
        have hrd : Rd ((w3.setCell ⟨gn, k * 6 + 5, none⟩ (.int .i64 (N : Int))).setCell ⟨R, 2, none⟩ (.slice (some ⟨go, 0, none⟩) m co)) R { s with rest := r, nodes := setFin s.nodes k (N : Int), opn := s.opn.dropLast } :=
          ⟨_, _, vt, avs, hrst4.setR 2 (by omega) _, HCEL.out.set2 _, hrows2.set 2 _⟩
        refine ⟨((HB2.out.trans (M3.out.below (Nat.le_refl _) HRlt2.out)).setCell (p := ⟨gn, k * 6 + 5, none⟩) (by simp; omega) _).setCell (p := ⟨R, 2, none⟩) (Nat.le_refl _) _, .inl ⟨_, HG.out.trans (by rw [← HNN.out]), rfl, hrd, ⟨hv', ?_, ?_, ?_, ?_, ?_⟩, by show r.length < _; omega⟩⟩
        · intro j hj
          show j < (setFin s.nodes k (N : Int)).length
          rw [setFin_len]
          exact HW.out.o j ((List.dropLast_sublist s.opn).subset hj)
        · show s.opn.dropLast.length ≤ 100
          rw [hdll]; omega
        · show (setFin s.nodes k (N : Int)).length ≤ 16384
          rw [setFin_len]; exact HW.out.nn
        · show s.text.length + 4 * r.length ≤ 4000000
          have := HW.out.tb
          omega
        · intro h
          exact absurd HTX.out h
    | false =>
      have hnm : n ≠ nd.name := of_decide_eq_false HBD.out
      rw [if_pos hnm] at HG
      clear hnm nm1 nm2 nm3 heq
      go_wp2_with fail
      go_ret
      exact ⟨HB2.out.trans (M1.out.below (Nat.le_refl _) HRlt2.out), .inr ⟨11, HG.out, rfl, .inr (.inl rfl)⟩⟩
end Go.Proofs.YtbehfhdkdekjfaaDoor
