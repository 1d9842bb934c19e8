/- TokenJoins answers true. -/
import Derived.Test.YtpgfiecfndkheaaDoorTkWords
import Derived.Deep.RegionHeld3
namespace Go.Proofs.YtpgfiecfndkheaaDoor
open Go.RowKit
set_option maxRecDepth 100000

/-- append(own, texts...): the source may be nil, empty or not. -/
theorem tCells_one (ws : List B8) : ∀ u ∈ tCells ws, u.oneCell' = true := by
  intro u hu
  unfold tCells at hu
  obtain ⟨c, _, rfl⟩ := List.mem_map.1 hu
  rfl
theorem run_appS (w : World) (ty : TypeId) (base : Nat) (v : Value) (l : List B8) (hown : w.ownsRow base 9 1 v l.length (tCells l)) (A : Option Addr) (c B : Nat) (m : List B8) (hm : CS w B A (tCells m)) (hlen : l.length + m.length ≤ 1000000) (hbase : base ≤ w.heap.size) :
    ∃ v' w', (Builtin.append_ #[23, 23] ty #[v, .slice A m.length c]).run Tryd.prog w = .ok v' w' ∧ w'.ownsRow base 9 1 v' (l ++ m).length (tCells (l ++ m)) ∧ w.grownBy w' v.ownBlock := by
  obtain ⟨i0, hi0, hz0, hz1, hz2⟩ := info_parts info_str
  have key : ∀ a : Addr, (∀ j u, (tCells m)[j]? = some u → w.cell? (a.add j) = some u) → ∃ v' w', (Builtin.append_ #[23, 23] ty #[v, .slice (some a) m.length c]).run Tryd.prog w = .ok v' w' ∧ w'.ownsRow base 9 1 v' (l ++ m).length (tCells (l ++ m)) ∧ w.grownBy w' v.ownBlock := fun a ha => by
    obtain ⟨v', w', hr, h2, h3, _, _⟩ := run_append_own_at (P := Tryd.prog) w base 23 ty 9 i0 _ 1 16 Tryd.underlying23 hi0 hz0 hz1 hz2 rfl (by omega) v l.length (tCells l) hown a m.length c (tCells m) (by rw [tCells_len]; omega) ha (tCells_one m) (by simp only [maxLen]; omega) (by omega) hbase
    refine ⟨v', w', hr, ?_, h3⟩
    rw [List.length_append, tCells_app]
    exact h2
  rcases Nat.eq_zero_or_pos m.length with h0 | h0
  · obtain rfl := List.eq_nil_of_length_eq_zero h0
    cases A with
    | some a => exact key a (fun j u hu => by simp [tCells] at hu)
    | none =>
      refine ⟨v, w, ?_, by simpa using hown, ⟨rfl, rfl, rfl, Nat.le_refl _, fun _ _ _ => rfl⟩⟩
      rcases hown.2 with ⟨rfl, _⟩ | ⟨g, cap, cur, rfl, _, _, hnc, _⟩
      · simp [Builtin.append_, run_underlying Tryd.underlying23, sizeOf, typeInfo, hi0, Builtin.lenOf, Builtin.firstCells]
      · simp [Builtin.append_, run_underlying Tryd.underlying23, sizeOf, typeInfo, hi0, Builtin.lenOf, Builtin.firstCells, hnc, storeCells]
  · obtain ⟨b, o, rfl, _, hc⟩ := hm (by rw [tCells_len]; exact h0)
    refine key ⟨b, o, none⟩ (fun j u hu => ?_)
    rw [add_addr]
    exact hc j u hu
theorem step_appS {ops : Array Oper} {o : Oper} {a : Act} {w : World} {K : Act → World → Prop} {Q : Exit → Act → World → Prop} {E : Prop} (hgd : o.guard = none) (s x : Operand)
    (ho : o.op = .call { callee := .builtin .append, args := #[s, x], argTypes := #[23, 23] })
    (base : Nat) (v : Value) (l : List B8) (hs : a.eval s = v) (hown : w.ownsRow base 9 1 v l.length (tCells l)) (A : Option Addr) (n c B : Nat) (m : List B8) (hx : a.eval x = .slice A n c) (hn : n = m.length) (hm : CS w B A (tCells m)) (hlen : l.length + m.length ≤ 1000000) (hbase : base ≤ w.heap.size)
    (h : ∀ v' w', w'.ownsRow base 9 1 v' (l ++ m).length (tCells (l ++ m)) → w.grownBy w' v.ownBlock → K (a.put o.dst v') w') :
    if Region.wanted o (yielded ops a.tmps) = true then Oper.wp Tryd.prog o a w K Q else E := by
  subst hn
  have hw : Region.wanted o (yielded ops a.tmps) = true := by simp [Region.wanted, hgd]
  rw [if_pos hw]
  obtain ⟨v', w', hr, h2, h3⟩ := run_appS w o.type base v l hown A c B m hm hlen hbase
  unfold Oper.wp execOp
  simp only [ho, resolve, invoke, builtin, Sem.run_bind, Sem.run_pure, Result.andThen_ok, List.map_toArray, List.map_cons, List.map_nil, hs, hx, hr]
  exact h v' w' h2 h3
/-- A Text in a variable: its cells, and what they read as. -/
structure TB (w : World) (B H : Nat) (ch : List (B8 × List Nat)) (Aw As Ap : Option Addr) (cw cs cp : Nat) : Prop where
  lt : H < B
  c0 : w.cell? ⟨H, 0, none⟩ = some (.slice Aw (wordsOf ch).length cw)
  c1 : w.cell? ⟨H, 1, none⟩ = some (.slice As (sentF 0 ch).length cs)
  c2 : w.cell? ⟨H, 2, none⟩ = some (.slice Ap (parsF 0 ch).length cp)
  k0 : CS w B Aw (tCells (wordsOf ch))
  k1 : CS w B As (nCells (sentF 0 ch))
  k2 : CS w B Ap (nCells (parsF 0 ch))
  l0 : (wordsOf ch).length ≤ cw ∧ cw ≤ 9223372036854775807
  l1 : (sentF 0 ch).length ≤ cs ∧ cs ≤ 9223372036854775807
  l2 : (parsF 0 ch).length ≤ cp ∧ cp ≤ 9223372036854775807
theorem TB.below {w w' : World} {B H : Nat} {ch : List (B8 × List Nat)} {Aw As Ap : Option Addr} {cw cs cp : Nat} (h : TB w B H ch Aw As Ap cw cs cp) (hb : Below B w w') : TB w' B H ch Aw As Ap cw cs cp :=
  ⟨h.lt, (hb.cell (p := ⟨H, 0, none⟩) h.lt).trans h.c0, (hb.cell (p := ⟨H, 1, none⟩) h.lt).trans h.c1, (hb.cell (p := ⟨H, 2, none⟩) h.lt).trans h.c2, h.k0.below hb, h.k1.below hb, h.k2.below hb, h.l0, h.l1, h.l2⟩
theorem TB.more {w : World} {B B' H : Nat} {ch : List (B8 × List Nat)} {Aw As Ap : Option Addr} {cw cs cp : Nat} (h : TB w B H ch Aw As Ap cw cs cp) (hB : B ≤ B') : TB w B' H ch Aw As Ap cw cs cp :=
  ⟨Nat.lt_of_lt_of_le h.lt hB, h.c0, h.c1, h.c2, h.k0.more hB, h.k1.more hB, h.k2.more hB, h.l0, h.l1, h.l2⟩
theorem TB.go {w w' : World} {H : Nat} {ch : List (B8 × List Nat)} {Aw As Ap : Option Addr} {cw cs cp : Nat} (h : TB w w.heap.size H ch Aw As Ap cw cs cp) (hb : Below w.heap.size w w') : TB w' w'.heap.size H ch Aw As Ap cw cs cp := (h.below hb).more hb.size
theorem TB.new {w : World} {b : Nat} {vw vs vp : Value} {ch : List (B8 × List Nat)} (h : TxtRows w b vw vs vp ch) : ∃ Aw As Ap cw cs cp, vw = .slice Aw (wordsOf ch).length cw ∧ vs = .slice As (sentF 0 ch).length cs ∧ vp = .slice Ap (parsF 0 ch).length cp ∧
    ∀ W, W = w.alloc (.cells #[.slice Aw (wordsOf ch).length cw, .slice As (sentF 0 ch).length cs, .slice Ap (parsF 0 ch).length cp] 26) → TB W W.heap.size w.heap.size ch Aw As Ap cw cs cp ∧ Below w.heap.size w W := by
  obtain ⟨Aw, cw, h1, h2, h3, h4⟩ := own_cs h.1
  obtain ⟨As, cs, g1, g2, g3, g4⟩ := own_cs h.2.1
  obtain ⟨Ap, cp, f1, f2, f3, f4⟩ := own_cs h.2.2
  refine ⟨Aw, As, Ap, cw, cs, cp, h1, g1, f1, fun W hW => ?_⟩
  obtain ⟨d0, d1, d2, hb, hs⟩ := txt_var w _ _ _ _ W hW
  exact ⟨⟨by omega, d0, d1, d2, (h4.below hb).more hb.size, (g4.below hb).more hb.size, (f4.below hb).more hb.size, ⟨h2, h3⟩, ⟨g2, g3⟩, ⟨f2, f3⟩⟩, hb⟩
set_option maxHeartbeats 4000000 in
theorem bet_any (ns : List Nat) (A : Option Addr) (c x b : Nat) (hc : ns.length ≤ c) (hm : c ≤ 9223372036854775807) (w : World) (hA : CS w w.heap.size A (nCells ns)) (hx : w.cell? ⟨b, 0, none⟩ = some (.int .i64 (x : Int))) :
    Calls Tryd.prog 16 #[.slice A ns.length c, .pointer (some ⟨b, 0, none⟩)] w fun e w' => e = .returned (.bool (decide (x ∈ ns))) ∧ w = w' := by
  have HA := Lib.hid hA
  clear hA
  obtain ⟨n, hn⟩ : ∃ n, n = ns.length := ⟨_, rfl⟩
  have HN := Lib.hid hn
  rw [← hn] at hc ⊢
  clear hn
  go_enter Tryd.func16, Tryd.ntmps16
  go_wp2_with fail
  go_loopg [8] n (fun gg i wr => ∃ k : Nat, i = .int .i64 k ∧ k ≤ n ∧ n - k ≤ gg ∧ Hid (x ∉ ns.take k) ∧ w = wr)
  case atStart => exact ⟨0, rfl, Nat.zero_le _, by omega, by show x ∉ _; simp, rfl⟩
  case round =>
    obtain ⟨k, rfl, hk, hg, HX, rfl⟩ := hrel
    by_cases hlt : k < n
    · obtain ⟨b1, o1, hA, hB1, hc1⟩ := HA.out (by rw [nCells_len, ← HN.out]; omega)
      have hkl : k < ns.length := by rw [← HN.out]; exact hlt
      obtain ⟨y, hy⟩ : ∃ y, ns[k] = y := ⟨_, rfl⟩
      have hcx : (nCells ns)[k]? = some (.int .i64 (y : Int)) := by unfold nCells; rw [List.getElem?_map, List.getElem?_eq_getElem hkl, hy]; rfl
      have l1 := hc1 k _ hcx
      subst hA
      have hkI : (k : Int) < (n : Int) := by omega
      by_cases hxy : y = x
      · have hm2 : Hid (x ∈ ns) := by show x ∈ ns; rw [← hxy, ← hy]; exact List.getElem_mem hkl
        have hbb : ((y : Int) == (x : Int)) = true := by simp [hxy]
        clear hc1 hcx hxy hy
        go_wp2_with fail
        go_ret
        exact ⟨by rw [decide_eq_true hm2.out]; rfl, rfl⟩
      · have hbb : ((y : Int) == (x : Int)) = false := by simp; omega
        have HX2 : Hid (x ∉ ns.take (k + 1)) := by
          show x ∉ _
          rw [List.take_succ_eq_append_getElem hkl, hy, List.mem_append]
          rintro (h | h)
          · exact HX.out h
          · exact hxy (List.mem_singleton.1 h).symm
        clear hc1 hcx hxy hy
        go_wp2_with fail
        go_roundg (n - (k + 1))
        case measure => omega
        case rel => exact ⟨k + 1, by go_num, by omega, Nat.le_refl _, HX2, rfl⟩
    · obtain rfl : k = n := by omega
      have hno : Hid (x ∉ ns) := by show x ∉ _; have := HX.out; rwa [HN.out, List.take_length] at this
      go_wp2_with fail
      go_ret
      exact ⟨by rw [decide_eq_false hno.out]; rfl, rfl⟩
end Go.Proofs.YtpgfiecfndkheaaDoor
