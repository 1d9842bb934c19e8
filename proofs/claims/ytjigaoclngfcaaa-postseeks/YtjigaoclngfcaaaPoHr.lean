/- Rows of hits that the call makes. -/
import Derived.Test.YtjigaoclngfcaaaPoOp
import Derived.Test.YtjigaoclngfcaaaPoDs
import Derived.RangeFuncBox
namespace Go.Proofs.Ytjigaoclngfcaaa
open Go.RowKit
set_option maxRecDepth 100000

def cellsZ (zs : List (Value × Value)) : List Value := zs.flatMap fun z => [z.1, z.2]
theorem cellsZ_len (zs : List (Value × Value)) : (cellsZ zs).length = zs.length * 2 := by
  induction zs with
  | nil => rfl
  | cons z t ih => show (z.1 :: z.2 :: cellsZ t).length = _; simp only [List.length_cons, ih]; omega
theorem cellsZ_snoc (zs : List (Value × Value)) (z : Value × Value) : cellsZ (zs ++ [z]) = cellsZ zs ++ [z.1, z.2] := by unfold cellsZ; rw [List.flatMap_append]; rfl
theorem cellsZ_at : ∀ (zs : List (Value × Value)) (k : Nat) (hk : k < zs.length), (cellsZ zs)[k * 2]? = some zs[k].1 ∧ (cellsZ zs)[k * 2 + 1]? = some zs[k].2
  | [], k, h => absurd h (Nat.not_lt_zero _)
  | z :: t, 0, _ => ⟨rfl, rfl⟩
  | z :: t, k + 1, h => by
    have ih := cellsZ_at t k (by simpa using h)
    have e : cellsZ (z :: t) = z.1 :: z.2 :: cellsZ t := rfl
    rw [e, show (k + 1) * 2 = k * 2 + 1 + 1 by omega, List.getElem_cons_succ]
    exact ih
theorem infoHit : (Try.prog.info? 37).map (fun i => (i.zero, i.size, i.bytes)) = some (some (.agg #[.int .i64 0, .slice none 0 0]), 2, 32) := by kernel_rfl
theorem run_appendH (w : World) (ty : TypeId) (base : Nat) (v : Value) (zs : List (Value × Value)) (hown : w.ownsRow base 37 2 v zs.length (cellsZ zs)) (b c : Nat) (z : Value × Value) (h0 : w.cell? ⟨b, 0, none⟩ = some z.1) (h1 : w.cell? ⟨b, 1, none⟩ = some z.2) (o0 : z.1.oneCell' = true) (o1 : z.2.oneCell' = true) (hlen : zs.length + 1 ≤ 100000) (hbase : base ≤ w.heap.size) :
    ∃ v' w', (Builtin.append_ #[22, 22] ty #[v, .slice (some ⟨b, 0, none⟩) 1 c]).run Try.prog w = .ok v' w' ∧ w'.ownsRow base 37 2 v' (zs.length + 1) (cellsZ (zs ++ [z])) ∧ w.grownBy w' v.ownBlock ∧ (v'.ownBlock = v.ownBlock ∨ v'.ownBlock = some w.heap.size) := by
  obtain ⟨i0, hi0, hz0, hz1, hz2⟩ := info_parts infoHit
  obtain ⟨v', w', hr, h2, h3, _, h5⟩ := run_append_own_at (P := Try.prog) w base 22 ty 37 i0 _ 2 32 Try.underlying22 hi0 hz0 hz1 hz2 rfl (by omega) v zs.length (cellsZ zs) hown ⟨b, 0, none⟩ 1 c [z.1, z.2] rfl
    (fun j u hu => by
      rw [add_addr, Nat.zero_add]
      match j with
      | 0 => simp only [List.getElem?_cons_zero, Option.some.injEq] at hu; subst hu; exact h0
      | 1 => simp only [List.getElem?_cons_succ, List.getElem?_cons_zero, Option.some.injEq] at hu; subst hu; exact h1
      | j + 2 => simp at hu) (fun u hu => by
      rcases List.mem_cons.1 hu with rfl | hu
      · exact o0
      · rw [List.mem_singleton.1 hu]; exact o1) (by unfold maxLen; omega) (by omega) hbase
  rw [cellsZ_snoc]
  exact ⟨v', w', hr, h2, h3, h5⟩
theorem wpList_appendH {ops : Array Oper} {rest : List Oper} {o : Oper} {a : Act} {Q : Exit → Act → World → Prop} (w : World) (hgd : o.guard = none) (s x : Operand)
    (ho : o.op = .call { callee := .builtin .append, args := #[s, x], argTypes := #[22, 22] })
    (base : Nat) (v : Value) (zs : List (Value × Value)) (nl : Nat) (hnl : zs.length = nl) (hs : a.eval s = v) (hown : w.ownsRow base 37 2 v nl (cellsZ zs)) (b c : Nat) (z : Value × Value) (hx : a.eval x = .slice (some ⟨b, 0, none⟩) 1 c) (h0 : w.cell? ⟨b, 0, none⟩ = some z.1) (h1 : w.cell? ⟨b, 1, none⟩ = some z.2) (o0 : z.1.oneCell' = true) (o1 : z.2.oneCell' = true) (hlen : nl + 1 ≤ 100000) (hbase : base ≤ w.heap.size)
    (h : ∀ v' w', w'.ownsRow base 37 2 v' (nl + 1) (cellsZ (zs ++ [z])) → w.grownBy w' v.ownBlock → (v'.ownBlock = v.ownBlock ∨ v'.ownBlock = some w.heap.size) → wpList Try.prog ops Q rest (a.put o.dst v') w') : wpList Try.prog ops Q (o :: rest) a w := by
  subst hnl
  refine wpList_plain hgd fun K hK => ?_
  obtain ⟨v', w', hr, h2, h3, h4⟩ := run_appendH w o.type base v zs hown b c z h0 h1 o0 o1 hlen hbase
  unfold Oper.wp execOp
  simp only [ho, resolve, invoke, builtin, Sem.run_bind, Sem.run_pure, Result.andThen_ok, List.map_toArray, List.map_cons, List.map_nil, hs, hx, hr]
  exact hK _ _ (h v' w' h2 h3 h4)
theorem Cur.more {G G' : Nat → Prop} {w : World} {C : Nat} {st : PS} (h : Cur G w C st) (hG : ∀ b, G' b → G b ∨ w.heap.size ≤ b) : Cur G' w C st := by
  obtain ⟨d, P1, l1, e1, P2, l2, e2, hc, k1, k2, k3, k4, k5, k6, k7, k8⟩ := h.cm
  exact CM.cur hc k1 k2 k3 k4 k5 k6 h.b1 h.b2 h.b3 h.b4 h.b5 h.b6
    (fun b hb hp => (hG b hb).elim (fun g => k7 b g hp) fun g => by have := (hc.r1.1 b hp).2; omega)
    (fun b hb hp => (hG b hb).elim (fun g => k8 b g hp) fun g => by have := (hc.r5.1 b hp).2; omega)
theorem Cur.grown {G : Nat → Prop} {w w' : World} {C : Nat} {st : PS} {row : Option Nat} (h : Cur G w C st) (hg : w.grownBy w' row) (hr : ∀ g, row = some g → G g ∧ g ≠ C) : Cur G w' C st := by
  obtain ⟨d, P1, l1, e1, P2, l2, e2, hc, k1, k2, k3, k4, k5, k6, k7, k8⟩ := h.cm
  have hb : ∀ b, b < w.heap.size → (some b ≠ row) → w'.heap[b]? = w.heap[b]? := fun b hb hne => hg.block b hb hne
  have hcC := hb C hc.lt (fun e => (hr C e.symm).2 rfl)
  have e : ∀ k, w'.cell? ⟨C, k, none⟩ = w.cell? ⟨C, k, none⟩ := fun k => cellH hcC
  have f : ∀ k, w'.frozen? ⟨C, k, none⟩ = w.frozen? ⟨C, k, none⟩ := fun k => frozH hcC
  have hm : CM w' C st.sk st.bh st.la st.he d P1 l1 e1 P2 l2 e2 := ⟨(e 0).trans hc.c0, hc.r1.kept2 hg.size hcC fun b hp => hb b (hc.r1.1 b hp).2 (fun e => k7 b (hr b e.symm).1 hp), (e 3).trans hc.c3, (e 4).trans hc.c4, hc.r5.kept2 hg.size hcC fun b hp => hb b (hc.r5.1 b hp).2 (fun e => k8 b (hr b e.symm).1 hp), (e 7).trans hc.c7, (e 8).trans hc.c8, fun k => (f k).trans (hc.fr k)⟩
  exact CM.cur hm k1 k2 k3 k4 k5 k6 h.b1 h.b2 h.b3 h.b4 h.b5 h.b6 k7 k8
theorem Cur.resG {G : Nat → Prop} {w : World} {C : Nat} {st : PS} (h : Cur G w C st) (r : Nat) (v0 v1 : Value) (hC : r ≠ C) (hr : G r) : Cur G ((w.setCell ⟨r, 0, none⟩ v0).setCell ⟨r, 1, none⟩ v1) C st := by
  obtain ⟨d, P1, l1, e1, P2, l2, e2, hc, k1, k2, k3, k4, k5, k6, k7, k8⟩ := h.cm
  exact CM.cur ((hc.res r 0 v0 hC (k7 r hr) (k8 r hr)).res r 1 v1 hC (k7 r hr) (k8 r hr)) k1 k2 k3 k4 k5 k6 h.b1 h.b2 h.b3 h.b4 h.b5 h.b6 k7 k8
/-- A hit's slice of places: in no block of those that turn. -/
def SlI (w : World) (ps : List Nat) (y : Value) (own : Option Nat) (C : Nat) : Prop := ∃ A c, y = .slice A ps.length c ∧ ps.length ≤ c ∧ c ≤ maxLen ∧ CS w w.heap.size A ((ps.map fun (n : Nat) => (n : Int)).map eI) ∧ ∀ a, A = some a → 0 < ps.length → a.block < w.heap.size ∧ some a.block ≠ own ∧ a.block ≠ C
theorem SlI.keep {w w' : World} {ps : List Nat} {y : Value} {own own' : Option Nat} {C : Nat} (h : SlI w ps y own C) (hs : w.heap.size ≤ w'.heap.size) (hb : ∀ b, b < w.heap.size → some b ≠ own → b ≠ C → w'.heap[b]? = w.heap[b]? ∧ some b ≠ own') : SlI w' ps y own' C := by
  obtain ⟨A, c, e, h1, h2, h3, h4⟩ := h
  refine ⟨A, c, e, h1, h2, fun hp => ?_, fun a ha hp => ?_⟩
  · have hp' : 0 < ps.length := by rw [List.length_map, List.length_map] at hp; exact hp
    obtain ⟨b, o, rfl, hlt, hc⟩ := h3 hp
    obtain ⟨a1, a2, a3⟩ := h4 _ rfl hp'
    have hk := (hb b a1 a2 a3).1
    exact ⟨b, o, rfl, Nat.lt_of_lt_of_le hlt hs, fun k u hu => (cellH hk).trans (hc k u hu)⟩
  · obtain ⟨a1, a2, a3⟩ := h4 a ha hp
    exact ⟨Nat.lt_of_lt_of_le a1 hs, (hb _ a1 a2 a3).2, a3⟩
/-- The same, in blocks from one on. -/
def SlR (w : World) (ps : List Nat) (y : Value) (B : Nat) : Prop := ∃ A c, y = .slice A ps.length c ∧ ps.length ≤ c ∧ c ≤ maxLen ∧ CS w w.heap.size A ((ps.map fun (n : Nat) => (n : Int)).map eI) ∧ ∀ a, A = some a → 0 < ps.length → a.block < w.heap.size ∧ B ≤ a.block
theorem SlR.sli {w w' : World} {ps : List Nat} {y : Value} {B : Nat} (h : SlR w ps y B) (own : Option Nat) (C : Nat) (hC : C < B) (ho : ∀ g, own = some g → g < B) (hs : w.heap.size ≤ w'.heap.size) (hb : ∀ b, b < w.heap.size → B ≤ b → w'.heap[b]? = w.heap[b]?) : SlI w' ps y own C := by
  obtain ⟨A, c, e, h1, h2, h3, h4⟩ := h
  refine ⟨A, c, e, h1, h2, fun hp => ?_, fun a ha hp => ?_⟩
  · have hp' : 0 < ps.length := by rw [List.length_map, List.length_map] at hp; exact hp
    obtain ⟨b, o, rfl, hlt, hc⟩ := h3 hp
    obtain ⟨a1, a2⟩ := h4 _ rfl hp'
    exact ⟨b, o, rfl, Nat.lt_of_lt_of_le hlt hs, fun k u hu => (cellH (hb b a1 a2)).trans (hc k u hu)⟩
  · obtain ⟨a1, a2⟩ := h4 a ha hp
    exact ⟨Nat.lt_of_lt_of_le a1 hs, fun e => by have := ho _ e.symm; omega, by omega⟩
/-- Hits in the making. -/
structure DL (w0 wr : World) (C H : Nat) (v : Value) (hs : List HN) (zs : List (Value × Value)) (o : Option HN) (s : PS) : Prop where
  cur : Cur (fun b => v.ownBlock = some b) wr C s
  kb : Below w0.heap.size w0 wr
  own : wr.ownsRow w0.heap.size 37 2 v zs.length (cellsZ zs)
  len : zs.length = hs.length
  at_ : ∀ k (h1 : k < zs.length) (h2 : k < hs.length), zs[k].1 = .int .i64 hs[k].1 ∧ SlI wr hs[k].2 zs[k].2 v.ownBlock C
  var : ∃ (dd : Int) (A : Option Addr) (n c : Nat), wr.cell? ⟨H, 0, none⟩ = some (.int .i64 dd) ∧ wr.cell? ⟨H, 1, none⟩ = some (.slice A n c) ∧ ∀ h, o = some h → dd = (h.1 : Int) ∧ SlI wr h.2 (.slice A n c) v.ownBlock C
  fr : wr.frozen? ⟨H, 0, none⟩ = false ∧ wr.frozen? ⟨H, 1, none⟩ = false
  nH : v.ownBlock ≠ some H
  nC : v.ownBlock ≠ some C
  hC : w0.heap.size ≤ C
theorem DL.hs {w0 wr : World} {C H : Nat} {v : Value} {hs : List HN} {zs : List (Value × Value)} {o : Option HN} {s : PS} (h : DL w0 wr C H v hs zs o s) : ∃ A c, v = .slice A zs.length c ∧ zs.length ≤ c ∧ c ≤ maxLen ∧ HS wr wr.heap.size A (hs.map toHI) := by
  obtain ⟨A, c, rfl, h1, h2, hcs, _⟩ := own_form h.own
  refine ⟨A, c, rfl, h1, h2, fun hp => ?_⟩
  rw [List.length_map] at hp
  obtain ⟨b, o, e, hb, hcl⟩ := hcs (by rw [cellsZ_len, h.len]; omega)
  refine ⟨b, o, e, hb, fun k hk => ?_⟩
  rw [List.length_map] at hk
  have hkz : k < zs.length := by rw [h.len]; exact hk
  obtain ⟨c0, c1⟩ := cellsZ_at zs k hkz
  obtain ⟨x0, A2, c2, x1, x2, x3, x4, _⟩ := h.at_ k hkz hk
  rw [List.getElem_map]
  rw [x0] at c0
  rw [x1] at c1
  have z1 := hcl _ _ c1
  refine ⟨hcl _ _ c0, A2, c2, ?_, ?_, x3, ?_⟩
  · show wr.cell? ⟨b, o + k * 2 + 1, none⟩ = some (.slice A2 ((hs[k].2.map fun (n : Nat) => (n : Int))).length c2)
    rw [List.length_map, Nat.add_assoc]
    exact z1
  · show ((hs[k].2.map fun (n : Nat) => (n : Int))).length ≤ c2
    rw [List.length_map]; exact x2
  · exact x4
theorem DL.app {w0 wr : World} {C H : Nat} {v : Value} {hs : List HN} {zs : List (Value × Value)} {hx : HN} {s : PS} (h : DL w0 wr C H v hs zs (some hx) s) {dd : Int} {A : Option Addr} {n c : Nat} (c0 : wr.cell? ⟨H, 0, none⟩ = some (.int .i64 dd)) (c1 : wr.cell? ⟨H, 1, none⟩ = some (.slice A n c)) (ob : Obj) {w4 : World} {v' : Value} (hown : w4.ownsRow w0.heap.size 37 2 v' (zs.length + 1) (cellsZ (zs ++ [(.int .i64 dd, .slice A n c)]))) (hg : (wr.alloc ob).grownBy w4 v.ownBlock) (hv : v'.ownBlock = v.ownBlock ∨ v'.ownBlock = some (wr.alloc ob).heap.size) :
    DL w0 w4 C H v' (hs ++ [hx]) (zs ++ [(.int .i64 dd, .slice A n c)]) none s := by
  have b1 : Below wr.heap.size wr (wr.alloc ob) := (Below.refl _ _).alloc (Nat.le_refl _) _
  have s1 : (wr.alloc ob).heap.size = wr.heap.size + 1 := by simp
  have hHl : H < wr.heap.size := World.block_lt_of_cell? wr _ c0
  have hCl := h.cur.lt
  have hkb := h.kb.size
  have same : ∀ b, b < wr.heap.size → some b ≠ v.ownBlock → w4.heap[b]? = wr.heap[b]? := fun b hb hne => (hg.block b (by omega) hne).trans (b1.block b hb)
  have nv : ∀ b, b < wr.heap.size → some b ≠ v.ownBlock → some b ≠ v'.ownBlock := fun b hb hne e => by
    rcases hv with hv | hv
    · exact hne (e.trans hv)
    · rw [hv] at e
      injection e with e
      omega
  have hsz : wr.heap.size ≤ w4.heap.size := by have := hg.size; omega
  obtain ⟨dd', A', n', c', d0, d1, hvar⟩ := h.var
  have ed : dd' = dd := by rw [c0] at d0; injection d0 with d0; injection d0 with _ d0; exact d0.symm
  have ea : Value.slice A' n' c' = .slice A n c := by rw [c1] at d1; injection d1 with d1; exact d1.symm
  obtain ⟨q1, q2⟩ := hvar hx rfl
  rw [ea] at q2
  subst ed
  have own1 : ∀ j, v.ownBlock = some j → w0.heap.size ≤ j := by
    obtain ⟨_, _, _, _, _, _, hb⟩ := own_form h.own
    exact fun j hj => (hb j hj).1
  have cur1 : Cur (fun b => v.ownBlock = some b ∨ v'.ownBlock = some b) (wr.alloc ob) C s := (h.cur.below b1).more fun b hb => by
    rcases hb with hb | hb
    · exact .inl hb
    · rcases hv with hv | hv
      · exact .inl (hv ▸ hb)
      · rw [hv] at hb; injection hb with hb; exact .inr (by omega)
  refine ⟨(cur1.grown hg fun g e => ⟨.inl e, fun e2 => h.nC (by rw [e, e2])⟩).more fun b hb => .inl (.inr hb), (h.kb.trans (b1.mono hkb)).grown hg (by omega) own1, by rw [List.length_append]; exact hown, by rw [List.length_append, List.length_append, h.len]; rfl, fun k h1 h2 => ?_, ⟨dd', A, n, c, (cellH (same H hHl (fun e => h.nH e.symm))).trans c0, (cellH (same H hHl (fun e => h.nH e.symm))).trans c1, fun x hx => by cases hx⟩, ⟨(frozH (same H hHl (fun e => h.nH e.symm))).trans h.fr.1, (frozH (same H hHl (fun e => h.nH e.symm))).trans h.fr.2⟩, fun e => nv H hHl (fun e => h.nH e.symm) e.symm, fun e => nv C hCl (fun e => h.nC e.symm) e.symm, h.hC⟩
  rcases Nat.lt_or_ge k zs.length with hk | hk
  · have hk2 : k < hs.length := by rw [← h.len]; exact hk
    rw [List.getElem_append_left hk, List.getElem_append_left hk2]
    obtain ⟨z1, z2⟩ := h.at_ k hk hk2
    exact ⟨z1, z2.keep hsz fun b hb hne _ => ⟨same b hb hne, nv b hb hne⟩⟩
  · have hk' : k = zs.length := by rw [List.length_append] at h1; simp at h1; omega
    subst hk'
    have e1 : (zs ++ [(Value.int .i64 dd', Value.slice A n c)])[zs.length]'h1 = (.int .i64 dd', .slice A n c) := by simp
    have e2 : (hs ++ [hx])[zs.length]'h2 = hx := by
      have := h.len
      rw [List.getElem_append_right (by omega)]
      simp [this]
    rw [e1, e2]
    exact ⟨by rw [q1], q2.keep hsz fun b hb hne _ => ⟨same b hb hne, nv b hb hne⟩⟩
theorem HitV.form {w : World} {B : Nat} {o : Option HN} {v : Value} (h : HitV w B o v) : ∃ (dd : Int) (A : Option Addr) (n c : Nat), v = .tuple #[.agg #[.int .i64 dd, .slice A n c], .bool o.isSome] ∧ ∀ x, o = some x → dd = (x.1 : Int) ∧ SlR w x.2 (.slice A n c) B := by
  cases o with
  | none => exact ⟨0, none, 0, 0, h, fun x hx => by cases hx⟩
  | some x =>
    obtain ⟨A, c, rfl, h1, h2, h3, h4⟩ := h
    refine ⟨x.1, A, x.2.length, c, rfl, fun y hy => ?_⟩
    obtain rfl := Option.some.inj hy
    refine ⟨rfl, A, c, rfl, h1, h2, h3, fun a ha hp => ?_⟩
    obtain ⟨b, o, e, hb, _⟩ := h3 (by rw [List.length_map, List.length_map]; exact hp)
    have hB := h4 a ha
    rw [e] at ha
    obtain rfl := Option.some.inj ha
    exact ⟨hb, hB⟩
/-- The hits so far, where the next one has been asked for. -/
theorem DL.nx {w0 wr w5 : World} {C H : Nat} {v : Value} {hs : List HN} {zs : List (Value × Value)} {o o' : Option HN} {s s' : PS} (h : DL w0 wr C H v hs zs o s) (X : World) (hX : Below wr.heap.size wr X) (hk : KX C X w5) (hc : Cur (fun b => v.ownBlock = some b ∨ b = wr.heap.size) w5 C s') (hr : w5.heap[wr.heap.size]? = X.heap[wr.heap.size]?) (x0 y0 : Value) (hx0 : X.cell? ⟨wr.heap.size, 0, none⟩ = some x0) (hx1 : X.cell? ⟨wr.heap.size, 1, none⟩ = some y0) (hf : X.frozen? ⟨wr.heap.size, 0, none⟩ = false ∧ X.frozen? ⟨wr.heap.size, 1, none⟩ = false) (dd : Int) (A : Option Addr) (n c : Nat)
    (hv : ∀ x, o' = some x → dd = (x.1 : Int) ∧ SlR w5 x.2 (.slice A n c) X.heap.size) :
    DL w0 ((w5.setCell ⟨wr.heap.size, 0, none⟩ (.int .i64 dd)).setCell ⟨wr.heap.size, 1, none⟩ (.slice A n c)) C wr.heap.size v hs zs o' s' := by
  obtain ⟨dd0, A0, n0, c0, d0, d1, _⟩ := h.var
  have hCl := h.cur.lt
  have hkb := h.kb.size
  have hXs := hX.size
  have hXl : wr.heap.size < X.heap.size := World.block_lt_of_cell? X _ hx0
  obtain ⟨_, _, _, _, _, _, hob⟩ := own_form h.own
  have e0 := (cellH hr).trans hx0
  have e1 := (cellH hr).trans hx1
  have same : ∀ b, b < wr.heap.size → b ≠ C → ((w5.setCell ⟨wr.heap.size, 0, none⟩ (.int .i64 dd)).setCell ⟨wr.heap.size, 1, none⟩ (.slice A n c)).heap[b]? = wr.heap[b]? := fun b hb hne =>
    (((Below.heap_setCell _ _ _ _ (by show b ≠ wr.heap.size; omega)).trans (Below.heap_setCell _ _ _ _ (by show b ≠ wr.heap.size; omega))).trans (hk.blk b hne (by omega))).trans (hX.block b hb)
  have hs2 : w5.heap.size = ((w5.setCell ⟨wr.heap.size, 0, none⟩ (.int .i64 dd)).setCell ⟨wr.heap.size, 1, none⟩ (.slice A n c)).heap.size := by simp [World.setCell]
  have hks := hk.size
  have b05 : Below w0.heap.size w0 w5 := (h.kb.trans (hX.mono hkb)).trans (hk.below h.hC (by omega))
  refine ⟨(hc.resG wr.heap.size _ _ (by omega) (.inr rfl)).more fun b hb => .inl (.inl hb), (b05.setCell (p := ⟨wr.heap.size, 0, none⟩) hkb _).setCell (p := ⟨wr.heap.size, 1, none⟩) hkb _, ?_, h.len, fun k h1 h2 => ?_, ⟨dd, A, n, c, ?_, ?_, fun x hx => ?_⟩, ?_, fun e => by have := (hob _ e).2; omega, h.nC, h.hC⟩
  · refine ⟨h.own.1, ?_⟩
    rcases h.own.2 with h' | ⟨g, cap, cur, hv', hg, hh, r⟩
    · exact .inl h'
    · refine .inr ⟨g, cap, cur, hv', hg, (same g (row_lt hh) (fun e => h.nC (by rw [hv', e]; rfl))).trans hh, r⟩
  · obtain ⟨z1, z2⟩ := h.at_ k h1 h2
    exact ⟨z1, z2.keep (by omega) fun b hb hne hC => ⟨same b hb hC, hne⟩⟩
  · rw [so (by decide)]; exact World.cell?_setCell_same _ _ _ (by rw [e0])
  · exact World.cell?_setCell_same _ _ _ (by rw [so (by decide), e1])
  · obtain ⟨p1, p2⟩ := hv x hx
    exact ⟨p1, p2.sli v.ownBlock C (by omega) (fun g hg => by have := (hob g hg).2; omega) (by omega) fun b hb hB => (Below.heap_setCell _ _ _ _ (by show b ≠ wr.heap.size; omega)).trans (Below.heap_setCell _ _ _ _ (by show b ≠ wr.heap.size; omega))⟩
  · exact ⟨by simpa using (frozH hr).trans hf.1, by simpa using (frozH hr).trans hf.2⟩
end Go.Proofs.Ytjigaoclngfcaaa
