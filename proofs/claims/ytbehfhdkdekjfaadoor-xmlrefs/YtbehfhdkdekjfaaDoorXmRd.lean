/- The reader whole: its nodes, open elements, and text, in memory. -/
import Derived.Test.YtbehfhdkdekjfaaDoorXmAts
namespace Go.Proofs.YtbehfhdkdekjfaaDoor
open Go.RowKit
set_option maxRecDepth 100000

def ndV (n : Nd) (av : Value) : List Value := [.string (strOf n.name), .string (strOf n.text), av, .int .i64 n.parent, .int .i64 n.level, .int .i64 n.fin]
def ndCells : List Nd → List Value → List Value
  | n :: ns, a :: as_ => ndV n a ++ ndCells ns as_
  | _, _ => []
def opCells (os : List Nat) : List Value := os.map fun k : Nat => .int .i64 (k : Int)
theorem ndCells_len : ∀ (ns : List Nd) (avs : List Value), avs.length = ns.length → (ndCells ns avs).length = ns.length * 6
  | [], [], _ => rfl
  | [], _ :: _, h => by simp at h
  | _ :: _, [], h => by simp at h
  | n :: ns, a :: avs, h => by
    rw [ndCells, List.length_append, ndCells_len ns avs (by simpa using h)]
    simp [ndV]; omega
theorem ndCells_snoc : ∀ (ns : List Nd) (avs : List Value) (n : Nd) (a : Value), avs.length = ns.length → ndCells (ns ++ [n]) (avs ++ [a]) = ndCells ns avs ++ ndV n a
  | [], [], n, a, _ => by simp [ndCells]
  | [], _ :: _, _, _, h => by simp at h
  | _ :: _, [], _, _, h => by simp at h
  | x :: ns, y :: avs, n, a, h => by
    rw [List.cons_append, List.cons_append, ndCells, ndCells_snoc ns avs n a (by simpa using h), ndCells, List.append_assoc]
theorem ndCells_at : ∀ (ns : List Nd) (avs : List Value) (k : Nat) (n : Nd) (a : Value) (j : Nat), ns[k]? = some n → avs[k]? = some a → j < 6 → (ndCells ns avs)[k * 6 + j]? = (ndV n a)[j]?
  | [], _, k, n, a, j, h, _, _ => by simp at h
  | _ :: _, [], k, n, a, j, _, h, _ => by simp at h
  | x :: ns, y :: avs, 0, n, a, j, h1, h2, hj => by
    simp only [List.getElem?_cons_zero, Option.some.injEq] at h1 h2
    subst h1; subst h2
    rw [ndCells, List.getElem?_append_left (by simp [ndV]; omega)]
    simp
  | x :: ns, y :: avs, k + 1, n, a, j, h1, h2, hj => by
    simp only [List.getElem?_cons_succ] at h1 h2
    rw [ndCells, List.getElem?_append_right (by simp [ndV]; omega)]
    rw [show (k + 1) * 6 + j - (ndV x y).length = k * 6 + j by simp [ndV]; omega]
    exact ndCells_at ns avs k n a j h1 h2 hj
theorem opCells_len (os : List Nat) : (opCells os).length = os.length * 1 := by simp [opCells]
theorem own_at {w w' : World} {base : Nat} {t : TypeId} {size : Nat} {v : Value} {n : Nat} {xs : List Value} (h : w.ownsRow base t size v n xs) (hk : ∀ g, v.ownBlock = some g → base ≤ g → g < w.heap.size → w'.heap[g]? = w.heap[g]?) : w'.ownsRow base t size v n xs := by
  refine ⟨h.1, ?_⟩
  rcases h.2 with h | ⟨g, cap, cur, hv, hg, hh, r⟩
  · exact .inl h
  · exact .inr ⟨g, cap, cur, hv, hg, (hk g (by rw [hv]; rfl) hg (row_lt hh)).trans hh, r⟩
theorem own_lt {w : World} {base : Nat} {t : TypeId} {size : Nat} {v : Value} {n : Nat} {xs : List Value} (h : w.ownsRow base t size v n xs) : ∀ b, v.ownBlock = some b → base ≤ b ∧ b < w.heap.size := by
  obtain ⟨_, _, _, _, _, _, hb⟩ := own_form h
  exact hb

structure RRows (w : World) (R : Nat) (ns : List Nd) (os : List Nat) (tx : L8) (vn vo vt : Value) (avs : List Value) : Prop where
  n : w.ownsRow (R + 1) 30 6 vn ns.length (ndCells ns avs)
  o : w.ownsRow (R + 1) 3 1 vo os.length (opCells os)
  t : Own8 w (R + 1) 5 vt tx
  la : avs.length = ns.length
  a : ∀ (k : Nat) (av : Value) (nd : Nd), avs[k]? = some av → ns[k]? = some nd → AtRow w (R + 1) av nd.attrs
  dno : ∀ b, vn.ownBlock = some b → vo.ownBlock ≠ some b
  dnt : ∀ b, vn.ownBlock = some b → vt.ownBlock ≠ some b
  dot : ∀ b, vo.ownBlock = some b → vt.ownBlock ≠ some b
  da : ∀ av ∈ avs, ∀ b, av.ownBlock = some b → vn.ownBlock ≠ some b ∧ vo.ownBlock ≠ some b ∧ vt.ownBlock ≠ some b
structure Cel (w : World) (R : Nat) (vn vo vt : Value) : Prop where
  c1 : w.cell? ⟨R, 1, none⟩ = some vn
  c2 : w.cell? ⟨R, 2, none⟩ = some vo
  c3 : w.cell? ⟨R, 3, none⟩ = some vt
  fr : ∀ o, w.frozen? ⟨R, o, none⟩ = false
structure RdV (w : World) (R : Nat) (s : St) (vn vo vt : Value) (avs : List Value) : Prop where
  rst : Rst w R s.rest
  cel : Cel w R vn vo vt
  rows : RRows w R s.nodes s.opn s.text vn vo vt avs
def Rd (w : World) (R : Nat) (s : St) : Prop := ∃ vn vo vt avs, RdV w R s vn vo vt avs

theorem RRows.keep {w w' : World} {R : Nat} {ns : List Nd} {os : List Nat} {tx : L8} {vn vo vt : Value} {avs : List Value} (h : RRows w R ns os tx vn vo vt avs) (hk : ∀ g, R < g → g < w.heap.size → w'.heap[g]? = w.heap[g]?) : RRows w' R ns os tx vn vo vt avs :=
  ⟨own_at h.n fun g _ h1 h2 => hk g (by omega) h2, own_at h.o fun g _ h1 h2 => hk g (by omega) h2, own_at h.t fun g _ h1 h2 => hk g (by omega) h2, h.la,
    fun k av nd h1 h2 => own_at (h.a k av nd h1 h2) fun g _ h1 h2 => hk g (by omega) h2, h.dno, h.dnt, h.dot, h.da⟩
theorem RdV.mv {w w' : World} {R : Nat} {s : St} {vn vo vt : Value} {avs : List Value} (h : RdV w R s vn vo vt avs) (m : Mv w w' R) {l : L8} (r : Rst w' R l) : RdV w' R { s with rest := l } vn vo vt avs :=
  ⟨r, ⟨(m.cell 1 (by omega)).trans h.cel.c1, (m.cell 2 (by omega)).trans h.cel.c2, (m.cell 3 (by omega)).trans h.cel.c3, fun o => (m.frz o).trans (h.cel.fr o)⟩, h.rows.keep fun g h1 h2 => m.block g h2 (by omega)⟩
theorem Rd.mv {w w' : World} {R : Nat} {s : St} (h : Rd w R s) (m : Mv w w' R) {l : L8} (r : Rst w' R l) : Rd w' R { s with rest := l } := by
  obtain ⟨vn, vo, vt, avs, h⟩ := h
  exact ⟨vn, vo, vt, avs, h.mv m r⟩
theorem Rd.rst {w : World} {R : Nat} {s : St} (h : Rd w R s) : Rst w R s.rest := by obtain ⟨_, _, _, _, h⟩ := h; exact h.rst
theorem RdV.below {w w' : World} {R : Nat} {s : St} {vn vo vt : Value} {avs : List Value} (h : RdV w R s vn vo vt avs) (hb : Below w.heap.size w w') : RdV w' R s vn vo vt avs := h.mv (Mv.of h.rst.lt hb) (h.rst.below hb)
theorem RRows.set {w : World} {R : Nat} {ns : List Nd} {os : List Nat} {tx : L8} {vn vo vt : Value} {avs : List Value} (h : RRows w R ns os tx vn vo vt avs) (o : Nat) (u : Value) : RRows (w.setCell ⟨R, o, none⟩ u) R ns os tx vn vo vt avs :=
  h.keep fun g h1 _ => Below.heap_setCell w ⟨R, o, none⟩ u g (by simp; omega)
theorem RRows.text {w w1 : World} {R : Nat} {ns : List Nd} {os : List Nat} {tx tx' : L8} {vn vo vt vt' : Value} {avs : List Value} (h : RRows w R ns os tx vn vo vt avs) (hg : w.grownBy w1 vt.ownBlock) (ht : Own8 w1 (R + 1) 5 vt' tx')
    (hb : vt'.ownBlock = vt.ownBlock ∨ vt'.ownBlock = some w.heap.size) : RRows w1 R ns os tx' vn vo vt' avs := by
  have far : ∀ (v : Value), (∀ b, v.ownBlock = some b → b < w.heap.size) → (∀ b, v.ownBlock = some b → vt.ownBlock ≠ some b) → ∀ b, v.ownBlock = some b → vt'.ownBlock ≠ some b := fun v h1 h2 b hb' => by
    rcases hb with e | e
    · rw [e]; exact h2 b hb'
    · rw [e]; intro e'; injection e' with e'; have := h1 b hb'; omega
  refine ⟨own_at h.n fun g hv _ hl => hg.block g hl (fun e => h.dnt g hv e.symm), own_at h.o fun g hv _ hl => hg.block g hl (fun e => h.dot g hv e.symm), ht, h.la, fun k av nd h1 h2 => own_at (h.a k av nd h1 h2) fun g hv _ hl => hg.block g hl (fun e => (h.da av (List.mem_of_getElem? h1) g hv).2.2 e.symm), h.dno,
    far vn (fun b hb => (own_lt h.n b hb).2) h.dnt, far vo (fun b hb => (own_lt h.o b hb).2) h.dot, fun av hav b hb' => ⟨(h.da av hav b hb').1, (h.da av hav b hb').2.1, ?_⟩⟩
  obtain ⟨k, hk⟩ := List.getElem?_of_mem hav
  have hkn : k < ns.length := by rw [← h.la]; exact (List.getElem?_eq_some_iff.1 hk).1
  exact far av (fun b hb => (own_lt (h.a k av _ hk (List.getElem?_eq_getElem hkn)) b hb).2) (fun b hb => (h.da av hav b hb).2.2) b hb'
theorem RRows.opens {w w1 : World} {R : Nat} {ns : List Nd} {os os' : List Nat} {tx : L8} {vn vo vt vo' : Value} {avs : List Value} (h : RRows w R ns os tx vn vo vt avs) (hg : w.grownBy w1 vo.ownBlock) (ht : w1.ownsRow (R + 1) 3 1 vo' os'.length (opCells os'))
    (hb : vo'.ownBlock = vo.ownBlock ∨ vo'.ownBlock = some w.heap.size) : RRows w1 R ns os' tx vn vo' vt avs := by
  have far : ∀ (v : Value), (∀ b, v.ownBlock = some b → b < w.heap.size) → (∀ b, v.ownBlock = some b → vo.ownBlock ≠ some b) → ∀ b, v.ownBlock = some b → vo'.ownBlock ≠ some b := fun v h1 h2 b hb' => by
    rcases hb with e | e
    · rw [e]; exact h2 b hb'
    · rw [e]; intro e'; injection e' with e'; have := h1 b hb'; omega
  have hto : ∀ b, vt.ownBlock = some b → vo.ownBlock ≠ some b := fun b h1 h2 => h.dot b h2 h1
  refine ⟨own_at h.n fun g hv _ hl => hg.block g hl (fun e => h.dno g hv e.symm), ht, own_at h.t fun g hv _ hl => hg.block g hl (fun e => hto g hv e.symm), h.la, fun k av nd h1 h2 => own_at (h.a k av nd h1 h2) fun g hv _ hl => hg.block g hl (fun e => (h.da av (List.mem_of_getElem? h1) g hv).2.1 e.symm),
    far vn (fun b hb => (own_lt h.n b hb).2) h.dno, h.dnt, fun b h1 h2 => far vt (fun b hb => (own_lt h.t b hb).2) hto b h2 h1, fun av hav b hb' => ⟨(h.da av hav b hb').1, ?_, (h.da av hav b hb').2.2⟩⟩
  obtain ⟨k, hk⟩ := List.getElem?_of_mem hav
  have hkn : k < ns.length := by rw [← h.la]; exact (List.getElem?_eq_some_iff.1 hk).1
  exact far av (fun b hb => (own_lt (h.a k av _ hk (List.getElem?_eq_getElem hkn)) b hb).2) (fun b hb => (h.da av hav b hb).2.1) b hb'
/-- Attributes that none of the rows is. -/
def Free (av vn vo vt : Value) : Prop := ∀ b, av.ownBlock = some b → vn.ownBlock ≠ some b ∧ vo.ownBlock ≠ some b ∧ vt.ownBlock ≠ some b
theorem RRows.nodes {w w1 : World} {R : Nat} {ns : List Nd} {os : List Nat} {tx : L8} {vn vo vt vn' : Value} {avs : List Value} (h : RRows w R ns os tx vn vo vt avs) (nd : Nd) (av : Value) (hav : AtRow w (R + 1) av nd.attrs) (hfree : Free av vn vo vt)
    (hg : w.grownBy w1 vn.ownBlock) (ht : w1.ownsRow (R + 1) 30 6 vn' (ns ++ [nd]).length (ndCells (ns ++ [nd]) (avs ++ [av])))
    (hb : vn'.ownBlock = vn.ownBlock ∨ vn'.ownBlock = some w.heap.size) : RRows w1 R (ns ++ [nd]) os tx vn' vo vt (avs ++ [av]) := by
  have far : ∀ (v : Value), (∀ b, v.ownBlock = some b → b < w.heap.size) → (∀ b, v.ownBlock = some b → vn.ownBlock ≠ some b) → ∀ b, v.ownBlock = some b → vn'.ownBlock ≠ some b := fun v h1 h2 b hb' => by
    rcases hb with e | e
    · rw [e]; exact h2 b hb'
    · rw [e]; intro e'; injection e' with e'; have := h1 b hb'; omega
  have hon : ∀ b, vo.ownBlock = some b → vn.ownBlock ≠ some b := fun b h1 h2 => h.dno b h2 h1
  have htn : ∀ b, vt.ownBlock = some b → vn.ownBlock ≠ some b := fun b h1 h2 => h.dnt b h2 h1
  have hmem : ∀ a ∈ avs ++ [av], (∀ b, a.ownBlock = some b → b < w.heap.size) ∧ Free a vn vo vt := fun a ha => by
    rcases List.mem_append.1 ha with ha | ha
    · obtain ⟨k, hk⟩ := List.getElem?_of_mem ha
      have hkn : k < ns.length := by rw [← h.la]; exact (List.getElem?_eq_some_iff.1 hk).1
      exact ⟨fun b hb => (own_lt (h.a k a _ hk (List.getElem?_eq_getElem hkn)) b hb).2, h.da a ha⟩
    · rw [List.mem_singleton.1 ha]
      exact ⟨fun b hb => (own_lt hav b hb).2, hfree⟩
  refine ⟨ht, own_at h.o fun g hv _ hl => hg.block g hl (fun e => hon g hv e.symm), own_at h.t fun g hv _ hl => hg.block g hl (fun e => htn g hv e.symm), by simp [h.la], fun k a x h1 h2 => ?_,
    fun b h1 h2 => far vo (fun b hb => (own_lt h.o b hb).2) hon b h2 h1, fun b h1 h2 => far vt (fun b hb => (own_lt h.t b hb).2) htn b h2 h1, h.dot, fun a ha b hb' => ⟨far a (hmem a ha).1 (fun b hb => ((hmem a ha).2 b hb).1) b hb', ((hmem a ha).2 b hb').2.1, ((hmem a ha).2 b hb').2.2⟩⟩
  have hkeep : ∀ {a : Value} {xs : List At}, AtRow w (R + 1) a xs → Free a vn vo vt → AtRow w1 (R + 1) a xs := fun {a xs} h1 h2 => own_at h1 fun g hv _ hl => hg.block g hl (fun e => (h2 g hv).1 e.symm)
  rcases Nat.lt_or_ge k ns.length with hlt | hge
  · rw [List.getElem?_append_left (by rw [h.la]; exact hlt)] at h1
    rw [List.getElem?_append_left hlt] at h2
    exact hkeep (h.a k a x h1 h2) (h.da a (List.mem_of_getElem? h1))
  · have hk : k = ns.length := by
      have := (List.getElem?_eq_some_iff.1 h2).1
      simp at this
      omega
    subst hk
    rw [← h.la, List.getElem?_append_right (Nat.le_refl _), Nat.sub_self] at h1
    rw [List.getElem?_append_right (Nat.le_refl _), Nat.sub_self] at h2
    simp only [List.getElem?_cons_zero, Option.some.injEq] at h1 h2
    subst h1; subst h2
    exact hkeep hav hfree
theorem cell_setR (w : World) (R o o' : Nat) (u : Value) (h : o' ≠ o) : (w.setCell ⟨R, o, none⟩ u).cell? ⟨R, o', none⟩ = w.cell? ⟨R, o', none⟩ := World.cell?_setCell_other _ _ _ _ (by intro e; injection e with _ e; exact h e.symm)
theorem Rst.setR {w : World} {R : Nat} {l : L8} (h : Rst w R l) (o : Nat) (ho : 0 < o) (u : Value) : Rst (w.setCell ⟨R, o, none⟩ u) R l :=
  ⟨by simpa [World.setCell] using h.lt, h.ge, (cell_setR w R o 0 u (by omega)).trans h.cell, by simpa using h.frz⟩
theorem Cel.of {w w1 : World} {R : Nat} {vn vo vt : Value} (h : Cel w R vn vo vt) (hk : w1.heap[R]? = w.heap[R]?) : Cel w1 R vn vo vt :=
  ⟨(World.cell?_of_block (w := w) (a := ⟨R, 1, none⟩) hk).trans h.c1, (World.cell?_of_block (w := w) (a := ⟨R, 2, none⟩) hk).trans h.c2, (World.cell?_of_block (w := w) (a := ⟨R, 3, none⟩) hk).trans h.c3, fun o => (World.frozen?_of_block (w := w) (a := ⟨R, o, none⟩) hk).trans (h.fr o)⟩
theorem Cel.set3 {w : World} {R : Nat} {vn vo vt : Value} (h : Cel w R vn vo vt) (u : Value) : Cel (w.setCell ⟨R, 3, none⟩ u) R vn vo u :=
  ⟨(cell_setR w R 3 1 u (by omega)).trans h.c1, (cell_setR w R 3 2 u (by omega)).trans h.c2, World.cell?_setCell_same _ _ _ (by rw [h.c3]), fun o => by simpa using h.fr o⟩
theorem Cel.set2 {w : World} {R : Nat} {vn vo vt : Value} (h : Cel w R vn vo vt) (u : Value) : Cel (w.setCell ⟨R, 2, none⟩ u) R vn u vt :=
  ⟨(cell_setR w R 2 1 u (by omega)).trans h.c1, World.cell?_setCell_same _ _ _ (by rw [h.c2]), (cell_setR w R 2 3 u (by omega)).trans h.c3, fun o => by simpa using h.fr o⟩
theorem Cel.set1 {w : World} {R : Nat} {vn vo vt : Value} (h : Cel w R vn vo vt) (u : Value) : Cel (w.setCell ⟨R, 1, none⟩ u) R u vo vt :=
  ⟨World.cell?_setCell_same _ _ _ (by rw [h.c1]), (cell_setR w R 1 2 u (by omega)).trans h.c2, (cell_setR w R 1 3 u (by omega)).trans h.c3, fun o => by simpa using h.fr o⟩

set_option maxHeartbeats 2000000 in
/-- goOn. -/
theorem goOn_any (R : Nat) (s : St) (u : L8) (hu : u.length + s.text.length ≤ 100000000) (w : World) (h : Rd w R s) :
    Calls Tryd.prog 57 #[.pointer (some ⟨R, 0, none⟩), .string (strOf u)] w fun e w' => Below R w w' ∧ ((∃ s', goOn s u = .ok s' ∧ e = .returned (.int .i64 0) ∧ Rd w' R s') ∨ (∃ c, goOn s u = .error c ∧ e = .returned (.int .i64 c))) := by
  obtain ⟨vn, vo, vt, avs, hV⟩ := h
  have HV := Lib.hid hV
  have c1 := hV.cel.c1
  have c3 := hV.cel.c3
  have fr3 := hV.cel.fr 3
  have HG : Hid (goOn s u = if u ≠ [] ∧ s.nodes.length = 16384 then .error 3 else .ok { s with text := s.text ++ u }) := rfl
  obtain ⟨A, cp, hvn, hac, hcm, _, _⟩ := own_form hV.rows.n
  rw [hvn] at c1
  clear hvn
  obtain ⟨N, hN⟩ : ∃ N, N = s.nodes.length := ⟨_, rfl⟩
  rw [← hN] at HG c1 hac
  clear hN
  have hnil : u = [] → (strOf u).toList.isEmpty = true := fun e => by rw [str_empty, e]; rfl
  have hnnil : u ≠ [] → (strOf u).toList.isEmpty = false := fun e => by rw [str_empty]; simpa using e
  have hsz : (strOf u).size = u.length := size8 u
  have hRw := hV.rst.lt
  have hlow : Below R w w := Below.refl _ _
  have key : ∀ vt' w1, Own8 w1 (R + 1) 5 vt' (s.text ++ (strOf u).data.toList) → w.grownBy w1 vt.ownBlock → (vt'.ownBlock = vt.ownBlock ∨ vt'.ownBlock = some w.heap.size) →
      w1.cell? ⟨R, 3, none⟩ = some vt ∧ w1.frozen? ⟨R, 3, none⟩ = false ∧ Below R w (w1.setCell ⟨R, 3, none⟩ vt') ∧ Rd (w1.setCell ⟨R, 3, none⟩ vt') R { s with text := s.text ++ u } := by
    intro vt' w1 ho hg hb
    rw [str_data] at ho
    have hne : vt.ownBlock ≠ some R := fun e => by have := (own_lt HV.out.rows.t R e).1; omega
    have hk := hg.block R HV.out.rst.lt (fun e => hne e.symm)
    have hc1 := HV.out.cel.of hk
    refine ⟨hc1.c3, hc1.fr 3, ?_, vn, vo, vt', avs, (HV.out.rst.grown hg hne).setR 3 (by omega) vt', hc1.set3 vt', (HV.out.rows.text hg ho hb).set 3 vt'⟩
    have hb1 : Below R w w1 := (Below.refl R w).grown hg (Nat.le_of_lt HV.out.rst.lt) fun k hk => by have := (own_lt HV.out.rows.t k hk).1; omega
    exact hb1.setCell (p := ⟨R, 3, none⟩) (Nat.le_refl _) vt'
  have HK := Lib.hid key
  have HT := Lib.hid hV.rows.t
  have hbase : R + 1 ≤ w.heap.size := hV.rst.lt
  clear key hV
  by_cases hue : u = []
  · have hem := hnil hue
    rw [if_neg (fun h => h.1 hue)] at HG
    clear hnil hnnil hue
    go_enter Tryd.func57, Tryd.ntmps57
    go_wp2_with (
      (at_builtin
       refine wpList_append8t _ rfl (.tmp 19) (.tmp 20) rfl (R + 1) vt s.text rfl HT.out (strOf u) rfl (by omega) hbase ?_
       intro vt' w1 ho hg hb
       obtain ⟨A', c', hv', _⟩ := ho.form
       subst hv'
       obtain ⟨k1, k2, k3, k4⟩ := HK.out _ w1 ho hg hb
       rw [show (s.text ++ (strOf u).data.toList).length = s.text.length + u.length by rw [str_data, List.length_append]] at k3 k4
       have K3 := Lib.hid k3
       have K4 := Lib.hid k4
       clear k3 k4 ho hg hb))
    go_ret
    exact ⟨K3.out, .inl ⟨_, HG.out, rfl, K4.out⟩⟩
  · have hem := hnnil hue
    clear hnil hnnil
    by_cases hN : N = 16384
    · rw [if_pos ⟨hue, hN⟩] at HG
      have hNb : ((N : Int) == 16384) = true := beq_iff_eq.2 (by omega)
      clear hN hue
      go_enter Tryd.func57, Tryd.ntmps57
      go_wp2_with fail
      go_ret
      exact ⟨hlow, .inr ⟨3, HG.out, rfl⟩⟩
    · rw [if_neg (fun h => hN h.2)] at HG
      have hNb : ((N : Int) == 16384) = false := beq_eq_false_iff_ne.2 (by omega)
      clear hN hue
      go_enter Tryd.func57, Tryd.ntmps57
      go_wp2_with (
        (at_builtin
         refine wpList_append8t _ rfl (.tmp 19) (.tmp 20) rfl (R + 1) vt s.text rfl HT.out (strOf u) rfl (by omega) hbase ?_
         intro vt' w1 ho hg hb
         obtain ⟨A', c', hv', _⟩ := ho.form
         subst hv'
         obtain ⟨k1, k2, k3, k4⟩ := HK.out _ w1 ho hg hb
         rw [show (s.text ++ (strOf u).data.toList).length = s.text.length + u.length by rw [str_data, List.length_append]] at k3 k4
         have K3 := Lib.hid k3
         have K4 := Lib.hid k4
         clear k3 k4 ho hg hb))
      go_ret
      exact ⟨K3.out, .inl ⟨_, HG.out, rfl, K4.out⟩⟩
end Go.Proofs.YtbehfhdkdekjfaaDoor
