/- covering: the spans of what matches covers, in one row of its own. -/
import Derived.Test.YtafbjadlklcicaaMaMi
import Derived.Test.YtafbjadlklcicaaMaSv
import Derived.Test.YtafbjadlklcicaaMaTu
import Derived.Laws.EntriesVeiled
namespace Go.Proofs.Ytafbjadlklcicaa
open Go.RowKit
set_option maxRecDepth 100000

/-- Spans in a box, as a row of the call's own. -/
structure SP (w wr : World) (L : Nat) (t0 : Value) (n0 : Nat) (l : List Sp) : Prop where
  c0 : wr.cell? ⟨L, 0, none⟩ = some t0
  f0 : wr.frozen? ⟨L, 0, none⟩ = false
  o0 : wr.ownsRow w.heap.size 26 4 t0 n0 (spCs l)
  l0 : t0.ownBlock ≠ some L
  kb : Below w.heap.size w wr
  hL : w.heap.size ≤ L
theorem SP.step {w wr w' : World} {L : Nat} {t0 : Value} {n0 k : Nat} {l x : List Sp} (h : SP w wr L t0 n0 l) (p : TP wr w' L 0 w.heap.size t0 k (l ++ x)) : ∃ t, w'.cell? ⟨L, 0, none⟩ = some t ∧ SP w w' L t k (l ++ x) := by
  obtain ⟨t, e1, e2, e3, e4⟩ := p.ex
  exact ⟨t, e1, e1, (p.fr 0).trans h.f0, e2, e4, h.kb.trans p.bl, h.hL⟩
/-- Behind new memory. -/
theorem SP.more {w wr w' : World} {L : Nat} {t0 : Value} {n0 : Nat} {l : List Sp} (h : SP w wr L t0 n0 l) (hb : Below wr.heap.size wr w') : SP w w' L t0 n0 l := by
  have hL := World.block_lt_of_cell? wr _ h.c0
  exact ⟨(hb.cell hL).trans h.c0, (hb.frozen hL).trans h.f0, own_below h.o0 hb, h.l0, h.kb.trans (hb.mono h.kb.size), h.hL⟩
theorem flat_take (ns : List Mt) (k : Nat) (h : k < ns.length) : (ns.take (k + 1)).flatMap (·.1) = (ns.take k).flatMap (·.1) ++ ns[k].1 := by
  rw [List.take_succ_eq_append_getElem h, List.flatMap_append]
  simp
/-- What slices.SortFunc owes covering: the same spans, rising by where they begin, in the same row. -/
def SortsOwn : Prop := ∀ (W : World) (base : Nat) (A : Option Addr) (n c : Nat) (l : List Sp), W.ownsRow base 26 4 (.slice A n c) n (spCs l) → base ≤ W.heap.size → n ≤ 1000 →
  Calls Try.prog 82 #[.slice A n c, .func (.func 83) #[] #[]] W fun e w' => e = .returned (.tuple #[]) ∧ ∃ l', List.Perm l' l ∧ (∀ i j, i ≤ j → j < l'.length → (l'.getD i (0, 0, 0, 0)).1 ≤ (l'.getD j (0, 0, 0, 0)).1) ∧ w'.ownsRow base 26 4 (.slice A n c) n (spCs l') ∧ W.grownBy w' (Value.slice A n c).ownBlock
theorem SP.sorted {w wr w' : World} {L : Nat} {t0 : Value} {n0 : Nat} {l l' : List Sp} (h : SP w wr L t0 n0 l) (ho : w'.ownsRow w.heap.size 26 4 t0 n0 (spCs l')) (hg : wr.grownBy w' t0.ownBlock) : SP w w' L t0 n0 l' := by
  have hL := World.block_lt_of_cell? wr _ h.c0
  exact ⟨(hg.cell_far ⟨L, 0, none⟩ (by simpa using hL) (fun e => h.l0 e.symm)).trans h.c0, (hg.frozen_far ⟨L, 0, none⟩ (by simpa using hL) (fun e => h.l0 e.symm)).trans h.f0, ho, h.l0, own_grow h.o0 (Nat.le_refl _) h.kb h.kb.size hg, h.hL⟩
/-- The first i of them have the ends that end last so far. -/
def tops (ts : List Sp) (i : Nat) : List Sp := (List.range ts.length).map fun k => ((ts.getD k (0, 0, 0, 0)).1, if k < i then topE ts k else (ts.getD k (0, 0, 0, 0)).2.1, (ts.getD k (0, 0, 0, 0)).2.2)
theorem tops_len (ts : List Sp) (i : Nat) : (tops ts i).length = ts.length := by simp [tops]
theorem tops_at (ts : List Sp) (i k : Nat) (h : k < (tops ts i).length) : (tops ts i)[k] = ((ts.getD k (0, 0, 0, 0)).1, if k < i then topE ts k else (ts.getD k (0, 0, 0, 0)).2.1, (ts.getD k (0, 0, 0, 0)).2.2) := by simp [tops]
theorem tops_one (ts : List Sp) : tops ts 1 = ts := by
  apply List.ext_getElem (tops_len ts 1)
  intro k h1 h2
  rw [tops_at]
  have hg : ts.getD k (0, 0, 0, 0) = ts[k] := by rw [List.getD_eq_getElem?_getD, List.getElem?_eq_getElem h2]; rfl
  rcases Nat.eq_zero_or_pos k with rfl | h
  · simp only [show 0 < 1 by decide, if_true]
    show (_, (ts.getD 0 (0, 0, 0, 0)).2.1, _) = _
    rw [hg]
  · rw [if_neg (by omega), hg]
theorem tops_set (ts : List Sp) (i : Nat) : tops ts (i + 1) = (tops ts i).set i ((ts.getD i (0, 0, 0, 0)).1, topE ts i, (ts.getD i (0, 0, 0, 0)).2.2) := by
  apply List.ext_getElem (by simp [tops])
  intro k h1 h2
  rw [List.getElem_set, tops_at]
  by_cases h : i = k
  · subst h
    rw [if_pos rfl, if_pos (by omega)]
  · rw [if_neg h, tops_at]
    by_cases h3 : k < i
    · rw [if_pos h3, if_pos (by omega)]
    · rw [if_neg h3, if_neg (by omega)]
theorem spCs_set (l : List Sp) (i : Nat) (h : i < l.length) (e : Int) : spCs (l.set i (l[i].1, e, l[i].2.2)) = (spCs l).set (i * 4 + 1) (.int .i64 e) := by
  induction l generalizing i with
  | nil => simp at h
  | cons s l ih =>
    cases i with
    | zero => rfl
    | succ i =>
      have h' : i < l.length := by simpa using h
      have := ih i h'
      show spC s ++ spCs (l.set i (l[i].1, e, l[i].2.2)) = (spC s ++ spCs l).set ((i + 1) * 4 + 1) _
      rw [this, List.set_append_right _ _ (by rw [spC_len]; omega), spC_len]
      congr 2
      omega
theorem spCs_tops (ts : List Sp) (i : Nat) (h : i < ts.length) : spCs (tops ts (i + 1)) = (spCs (tops ts i)).set (i * 4 + 1) (.int .i64 (topE ts i)) := by
  have h1 : i < (tops ts i).length := by rw [tops_len]; exact h
  rw [tops_set, ← spCs_set _ _ h1, tops_at]
set_option maxHeartbeats 8000000 in
theorem covering_any (hs : Hid SortsOwn) (A : Option Addr) (n cA : Nat) (ns : List Mt) (HN : Hid (n = ns.length)) (hN : n ≤ 30) (HM : Hid (∀ m ∈ ns, m.1.length ≤ 30)) (w : World) (hA : MS w w.heap.size A ns) :
    Calls Try.prog 61 #[.slice A n cA] w (CovQ w ns) := by
  obtain ⟨W0, hW0⟩ : ∃ W0, w.alloc (.cells #[.slice none 0 0] 28) = W0 := ⟨_, rfl⟩
  have bW : Below w.heap.size w W0 := by rw [← hW0]; exact (Below.refl _ _).alloc (Nat.le_refl _) _
  have r0 : W0.cell? ⟨w.heap.size, 0, none⟩ = some (.slice none 0 0) := by rw [← hW0]; exact new_cells w #[.slice none 0 0] 28 (0, 0) 0 _ rfl
  have r1 : W0.frozen? ⟨w.heap.size, 0, none⟩ = false := by rw [← hW0]; simp
  have HP0 : Hid (SP w W0 w.heap.size (.slice none 0 0) 0 ((ns.take 0).flatMap (·.1))) := ⟨r0, r1, World.ownsRow_nil _ _ _ _, by simp [Value.ownBlock], bW, Nat.le_refl _⟩
  have HXW : Hid (w.alloc (.cells #[.slice none 0 0] 28) = W0) := hW0
  have HA := Lib.hid hA
  obtain ⟨D, hD⟩ : ∃ D, D = w.heap.size := ⟨_, rfl⟩
  rw [← hD] at HP0
  have HDe := Lib.hid hD
  clear hW0 bW r0 r1 hA hD
  go_enter Try.func61, Try.ntmps61
  go_wp2_with fail
  rw [HXW.out, ← HDe.out]
  go_loopw [9] (fun i wr => ∃ (k m0 : Nat) (t0 : Value), k ≤ n ∧ i = .int .i64 k ∧ m0 ≤ 30 * k ∧ Hid (SP w wr D t0 m0 ((ns.take k).flatMap (·.1)))) (fun i _ => n - (intOf i).toNat)
  case atStart => exact ⟨0, 0, _, Nat.zero_le _, rfl, Nat.le_refl _, HP0⟩
  case round =>
    obtain ⟨k, m0, t0, hk, rfl, hm0, HP⟩ := hrel
    by_cases hlt : k < n
    · have HLT := Lib.hid hlt
      have hia : k < ns.length := by rw [← HN.out]; exact hlt
      have HCH := Lib.hid (flat_take ns k hia)
      obtain ⟨g, o, z0, z1, rfl, hgw, y0, y1, s0, s1⟩ := HA.out.at_ k hia
      obtain ⟨S0, d0, rfl, _⟩ := id s0
      obtain ⟨S1, d1, rfl, _⟩ := id s1
      have hb0 := HM.out _ (List.getElem_mem hia)
      obtain ⟨y, hy⟩ : ∃ y, y = ns[k] := ⟨_, rfl⟩
      rw [← hy] at y0 y1 s0 s1 hb0 HCH
      obtain ⟨l0, hl0⟩ : ∃ l, l = y.1.length := ⟨_, rfl⟩
      rw [← hl0] at y0 s0 hb0
      obtain ⟨l1, hl1⟩ : ∃ l, l = y.2.length := ⟨_, rfl⟩
      rw [← hl1] at y1
      have hinI : (k : Int) < (n : Int) := by omega
      have wk : IntKind.i64.wrap ((k : Int) + 1) = (k : Int) + 1 := by rw [IntKind.wrap_i64]; omega
      have ea0 := (HP.out.kb.cell (p := ⟨g, o + k * 2, none⟩) hgw).trans y0
      have ea1 := (HP.out.kb.cell (p := ⟨g, o + k * 2 + 1, none⟩) hgw).trans y1
      have HCS0 := Lib.hid s0.cs.2
      have HL0 := Lib.hid hl0
      obtain ⟨Y, hY⟩ : ∃ Y, wr.alloc (.cells #[.slice S0 l0 d0, .slice S1 l1 d1] 60) = Y := ⟨_, rfl⟩
      have bY : Below wr.heap.size wr Y := by rw [← hY]; exact (Below.refl _ _).alloc (Nat.le_refl _) _
      have q5 : Y.cell? ⟨wr.heap.size, 0, none⟩ = some (.slice S0 l0 d0) := by rw [← hY]; exact new_cells wr #[.slice S0 l0 d0, .slice S1 l1 d1] 60 (0, 0) 0 _ rfl
      have HP1 := Lib.hid (HP.out.more bY)
      obtain ⟨q0, f0, o0, h0, _, _⟩ := id HP1.out
      have HYW := Lib.hid hY
      obtain ⟨M, hMe⟩ : ∃ M, M = (ns.take k).flatMap (·.1) := ⟨_, rfl⟩
      rw [← hMe] at HP1 HCH o0
      have hoD := Lib.hid o0
      have hne := Lib.hid h0
      have hcD := Lib.hid (HCS0.out.below HP1.out.kb)
      have HTB0 : Hid (∀ b, t0.ownBlock = some b → w.heap.size ≤ b) := fun b hb => by obtain ⟨_, _, _, _, _, _, h⟩ := own_form o0; exact (h b hb).1
      have hLW0 : D < Y.heap.size := World.block_lt_of_cell? Y _ q0
      have hbw0 : w.heap.size ≤ Y.heap.size := HP1.out.kb.size
      have HQ := Lib.hid (And.intro q0 f0)
      rw [← hY] at q0 q5 f0
      clear o0 h0 hy hl0 hl1 y0 y1 s0 s1 hMe hY HP bY
      go_wp2_with (at_builtin; (rw [HYW.out]; refine wpList_appR elSp Y rfl (.tmp 13) (.tmp 15) rfl w.heap.size t0 m0 (spCs M) rfl hoD.out S0 l0 d0 w.heap.size (spCs y.1) rfl (by rw [spCs_len, HL0.out]) (spCs_one _) hcD.out (m0 + l0) rfl (by omega) hbw0 ?_; intro v4 w4 hown4 hgrow hv4; obtain ⟨A4, c4, rfl, _⟩ := own_form hown4; have k4 := (hgrow.cell_far ⟨D, 0, none⟩ (by simp; omega) (fun e => hne.out e.symm)).trans HQ.out.1; have f4 := (hgrow.frozen_far ⟨D, 0, none⟩ (by simp; omega) (fun e => hne.out e.symm)).trans HQ.out.2; have HTP := Lib.hid (TP.of (Below.refl _ Y) hgrow (by rw [spCs_app]; exact hown4) hv4 hne.out hLW0 k4 HP1.out.kb.size HP1.out.hL HTB0.out); clear hown4 hgrow hv4))
      obtain ⟨t2, _, HP3⟩ := HP1.out.step HTP.out
      rw [← HCH.out] at HP3
      exact ⟨⟨k + 1, m0 + l0, t2, HLT.out, by go_num, by omega, HP3⟩, by have := HLT.out; simp [intOf]; omega⟩
    · obtain rfl : k = n := by omega
      have HF : Hid (SP w wr D t0 m0 (ns.flatMap (·.1))) := by have h := HP.out; rw [List.take_of_length_le (by rw [HN.out]; exact Nat.le_refl _)] at h; exact h
      clear HP
      obtain ⟨T0, e0, rfl, _⟩ := own_form HF.out.o0
      obtain ⟨q0, f0, o0, h0, _, _⟩ := id HF.out
      clear o0 h0
      have hl : m0 = (ns.flatMap (·.1)).length := by have := HF.out.o0.1; rw [spCs_len] at this; omega
      have hm1 : m0 ≤ 1000 := by omega
      have KS := Lib.hid (hs.out wr w.heap.size T0 m0 e0 _ HF.out.o0 HF.out.kb.size hm1)
      have HL := Lib.hid hl
      clear hl
      go_wp2_with (go_at_call 82; (with_reducible refine KS.out.mono ?_); rintro e w2 ⟨rfl, ts, hp, hr, ho, hg⟩; have HS := Lib.hid (HF.out.sorted ho hg); have HPR := Lib.hid (And.intro hp hr); clear ho hg hp hr KS q0 f0; obtain ⟨q0, f0, _, _, _, _⟩ := id HS.out)
      have hlt : m0 = ts.length := by have := HS.out.o0.1; rw [spCs_len] at this; omega
      have HTS := Lib.hid hlt
      have HS1 : Hid (SP w w2 D (.slice T0 m0 e0) m0 (tops ts 1)) := by have h := HS.out; rw [← tops_one ts] at h; exact h
      clear hlt HS q0 f0 HF
      go_loopw [6] (fun i wr => ∃ (j : Nat), i = .int .i64 j ∧ 1 ≤ j ∧ (j = 1 ∨ j ≤ m0) ∧ Hid (SP w wr D (.slice T0 m0 e0) m0 (tops ts j))) (fun i _ => m0 - (intOf i).toNat)
      case atStart => exact ⟨1, rfl, Nat.le_refl _, .inl rfl, HS1⟩
      case round =>
        obtain ⟨j, rfl, hj1, hj2, HP⟩ := hrel
        obtain ⟨q0, f0, o0, h0, _, _⟩ := id HP.out
        by_cases hlt : j < m0
        · have HLT := Lib.hid hlt
          have hltI : (j : Int) < (m0 : Int) := by omega
          obtain ⟨i, hi⟩ : ∃ i, i = j - 1 := ⟨_, rfl⟩
          have hij : j = i + 1 := by omega
          have wk : IntKind.i64.wrap ((j : Int) + 1) = (j : Int) + 1 := by rw [IntKind.wrap_i64]; omega
          have wm : IntKind.i64.wrap ((j : Int) - 1) = (i : Int) := by rw [IntKind.wrap_i64]; omega
          have hinI : (i : Int) < (m0 : Int) := by omega
          obtain ⟨g, rfl⟩ : ∃ g, T0 = some ⟨g, 0, none⟩ := by
            rcases o0.2 with ⟨_, h⟩ | ⟨g, _, _, e, _⟩
            · omega
            · injection e with e _ _
              exact ⟨g, e⟩
          have hl : (tops ts j).length = ts.length := tops_len ts j
          have hml := HTS.out
          have cj : wr.cell? ⟨g, j * 4 + 1, none⟩ = some (.int .i64 (ts.getD j (0, 0, 0, 0)).2.1) := by
            rw [o0.cellAt (j * 4 + 1) (by omega), (spCs_at (tops ts j) j (by omega)).2.1, tops_at, if_neg (Nat.lt_irrefl j)]
          have ci : wr.cell? ⟨g, i * 4 + 1, none⟩ = some (.int .i64 (topE ts i)) := by
            rw [o0.cellAt (i * 4 + 1) (by omega), (spCs_at (tops ts j) i (by omega)).2.1, tops_at, if_pos (by omega)]
          have fg := o0.frozenAt (j * 4 + 1)
          have HT : Hid (max (ts.getD j (0, 0, 0, 0)).2.1 (topE ts i) = topE ts j) := by rw [hij]; exact rfl
          have HO : Hid (SP w (wr.drew.setCell ⟨g, j * 4 + 1, none⟩ (.int .i64 (topE ts j))) D (.slice (some ⟨g, 0, none⟩) m0 e0) m0 (tops ts (j + 1))) := by
            obtain ⟨h1, h2⟩ := (own_below o0 (Below.refl _ wr).drew).stored (j * 4 + 1) (.int .i64 (topE ts j))
            rw [← spCs_tops ts j (by omega)] at h1
            exact (HP.out.more (Below.refl _ wr).drew).sorted h1 h2
          obtain ⟨e1, he1⟩ : ∃ e, e = (ts.getD j (0, 0, 0, 0)).2.1 := ⟨_, rfl⟩
          obtain ⟨e2, he2⟩ : ∃ e, e = topE ts i := ⟨_, rfl⟩
          rw [← he1] at cj HT
          rw [← he2] at ci HT
          clear o0 h0 hl hml he1 he2 hj2 hij hi
          go_wp2_with fail
          go_region
          all_goals
            rw [HT.out]
            go_wp2_with fail
            exact ⟨⟨j + 1, by go_num, by omega, .inr HLT.out, HO.out⟩, by have := HLT.out; simp [intOf]; omega⟩
        · have hjm : m0 ≤ j := by omega
          have hml := HTS.out
          have hmx : m0 ≤ 1000 := by omega
          have s0 := (SV.own o0 (by have := o0.1; rw [spCs_len] at this; omega)).cs.2
          have HC : Hid (CovQ w ns (.returned (.func (.func 84) #[] #[.pointer (some ⟨D, 0, none⟩)])) wr) := by
            refine ⟨D, ts, tops ts j, T0, m0, e0, rfl, ⟨q0, ⟨hml, tops_len ts j, hmx⟩, s0, fun k hk => ?_, HPR.out.2⟩, HPR.out.1, HP.out.kb⟩
            have hk' : k < ts.length := by rw [tops_len] at hk; exact hk
            rw [tops_at, if_pos (by omega)]
            exact ⟨rfl, rfl⟩
          clear o0 h0 s0
          go_wp2_with fail
          go_ret
          exact HC.out
end Go.Proofs.Ytafbjadlklcicaa
