/- A cursor through hits' bytes, as plain functions. No Go in sight. -/
import Derived.Test.YtjigaoclngfcaaaRdSp
namespace Go.Proofs.Ytjigaoclngfcaaa
set_option maxRecDepth 100000

abbrev HN := Nat × List Nat
/-- A cursor's state: blocks passed over; the blocks' bytes (none: there was an error); how many hits they have; the last document; the bytes of the block, how many hits it has, the document ahead. -/
structure PS where
  sk : Nat
  bb : Option (List UInt8)
  bh : Nat
  la : Nat
  kb : List UInt8
  he : Nat
  dc : Nat
def plP : Nat → Nat → List UInt8 → Option (List Nat × List UInt8)
  | 0, _, l => some ([], l)
  | n + 1, p, l => (rdN l 65536).bind fun x => (plP n (p + x.1) x.2).map fun q => ((p + x.1) :: q.1, q.2)
def hitP (l : List UInt8) (dc : Nat) : Option (HN × List UInt8) :=
  (rdN l 1000).bind fun x => (rdN x.2 65536).bind fun y => (plP y.1 0 y.2).map fun q => ((dc + x.1, q.1), q.2)
theorem plP_len : ∀ (n p : Nat) (l : List UInt8) (ps : List Nat) (r : List UInt8), plP n p l = some (ps, r) → ps.length = n ∧ ps.length + r.length ≤ l.length ∧ ∀ x ∈ ps, x ≤ p + 65536 * n
  | 0, p, l, ps, r, h => by
    simp only [plP, Option.some.injEq, Prod.mk.injEq] at h
    obtain ⟨rfl, rfl⟩ := h
    simp
  | n + 1, p, l, ps, r, h => by
    rw [plP] at h
    obtain ⟨⟨x, l1⟩, h1, h⟩ := Option.bind_eq_some_iff.1 h
    obtain ⟨⟨qs, q⟩, h2, h⟩ := Option.map_eq_some_iff.1 h
    simp only [Prod.mk.injEq] at h h2
    obtain ⟨rfl, rfl⟩ := h
    obtain ⟨g1, g2, g3⟩ := plP_len n (p + x) l1 qs q h2
    have hl := rdN_len h1
    have hx := (rdN_some h1).2.1
    refine ⟨by simp [g1], by simp; omega, fun y hy => ?_⟩
    rcases List.mem_cons.1 hy with rfl | hy
    · omega
    · have := g3 y hy; omega
theorem hitP_len {l : List UInt8} {dc : Nat} {h : HN} {r : List UInt8} (k : hitP l dc = some (h, r)) : h.2.length + r.length ≤ l.length ∧ h.1 ≤ dc + 1000 ∧ dc ≤ h.1 := by
  unfold hitP at k
  obtain ⟨⟨x, l1⟩, h1, k⟩ := Option.bind_eq_some_iff.1 k
  obtain ⟨⟨y, l2⟩, h2, k⟩ := Option.bind_eq_some_iff.1 k
  obtain ⟨⟨qs, q⟩, h3, k⟩ := Option.map_eq_some_iff.1 k
  simp only [Prod.mk.injEq] at k h1 h2 h3
  obtain ⟨rfl, rfl⟩ := k
  have g1 := rdN_len h1
  have g2 := rdN_len h2
  have g3 := (plP_len _ _ _ _ _ h3).2.1
  have g4 := (rdN_some h1).2.1
  simp only
  omega
/-- j of m places are read. -/
structure StP (l0 : List UInt8) (m j p : Nat) (ps : List Nat) (l : List UInt8) : Prop where
  len : ps.length = j
  le : j ≤ m
  eq : plP m 0 l0 = (plP (m - j) p l).map fun q => (ps ++ q.1, q.2)
  sz : l.length + j ≤ l0.length
  pb : p ≤ 65536 * j
theorem StP.start (l0 : List UInt8) (m : Nat) : StP l0 m 0 0 [] l0 := ⟨rfl, Nat.zero_le _, by simp, by omega, Nat.le_refl _⟩
theorem StP.no {l0 : List UInt8} {m j p : Nat} {ps : List Nat} {l : List UInt8} (h : StP l0 m j p ps l) (hj : j < m) (k : rdN l 65536 = none) : plP m 0 l0 = none := by
  rw [h.eq, show m - j = (m - j - 1) + 1 by omega, plP, k]
  rfl
theorem StP.on {l0 : List UInt8} {m j p x : Nat} {ps : List Nat} {l r : List UInt8} (h : StP l0 m j p ps l) (hj : j < m) (k : rdN l 65536 = some (x, r)) : StP l0 m (j + 1) (p + x) (ps ++ [p + x]) r := by
  have hl := rdN_len k
  have hx := (rdN_some k).2.1
  refine ⟨by simp [h.len], hj, ?_, by have := h.sz; omega, by have := h.pb; omega⟩
  rw [h.eq, show m - j = (m - (j + 1)) + 1 by omega, plP, k]
  simp only [Option.bind_some, Option.map_map]
  congr 1
  funext q
  simp
theorem StP.done {l0 : List UInt8} {m p : Nat} {ps : List Nat} {l : List UInt8} (h : StP l0 m m p ps l) : plP m 0 l0 = some (ps, l) := by
  rw [h.eq, Nat.sub_self]
  simp [plP]
theorem hitP_no1 {l : List UInt8} {dc : Nat} (h : rdN l 1000 = none) : hitP l dc = none := by unfold hitP; rw [h]; rfl
theorem hitP_no2 {l l1 : List UInt8} {dc x : Nat} (h : rdN l 1000 = some (x, l1)) (k : rdN l1 65536 = none) : hitP l dc = none := by
  unfold hitP
  rw [h]
  show (rdN l1 65536).bind _ = none
  rw [k]
  rfl
theorem hitP_at {l l1 l2 : List UInt8} {dc x m : Nat} (h : rdN l 1000 = some (x, l1)) (k : rdN l1 65536 = some (m, l2)) : hitP l dc = (plP m 0 l2).map fun q => ((dc + x, q.1), q.2) := by
  unfold hitP
  rw [h]
  show (rdN l1 65536).bind _ = _
  rw [k]
  rfl
/-- The next block with a document that isn't below one. -/
def enterP (doc : Int) : Nat → PS → Bool × PS
  | 0, st => (false, st)
  | f + 1, st => if st.bh = 0 then (false, st) else st.bb.elim (false, st) fun l => (rdN l 1000).elim (false, { st with bb := none }) fun x =>
      (rdT x.2).elim (false, { st with bb := none, la := st.la + x.1 }) fun y =>
        if doc ≤ ((st.la + x.1 : Nat) : Int) then (true, { st with bb := some y.2, bh := st.bh - min 4 st.bh, la := st.la + x.1, kb := y.1, he := min 4 st.bh, dc := st.la })
        else enterP doc f { st with bb := some y.2, bh := st.bh - min 4 st.bh, la := st.la + x.1, sk := st.sk + 1 }
theorem enterP_zero (doc : Int) (f : Nat) (st : PS) (h : st.bh = 0) : enterP doc f st = (false, st) := by
  cases f with
  | zero => rfl
  | succ f => rw [enterP, if_pos h]
theorem enterP_err (doc : Int) (f : Nat) (st : PS) (hb : st.bh ≠ 0) (h : st.bb = none) : enterP doc (f + 1) st = (false, st) := by rw [enterP, if_neg hb, h]; rfl
theorem enterP_e1 (doc : Int) (f : Nat) (st : PS) (l : List UInt8) (hb : st.bh ≠ 0) (h : st.bb = some l) (k : rdN l 1000 = none) : enterP doc (f + 1) st = (false, { st with bb := none }) := by
  rw [enterP, if_neg hb, h]
  show (rdN l 1000).elim _ _ = _
  rw [k]
  rfl
theorem enterP_e2 (doc : Int) (f : Nat) (st : PS) (l l1 : List UInt8) (x : Nat) (hb : st.bh ≠ 0) (h : st.bb = some l) (k : rdN l 1000 = some (x, l1)) (k2 : rdT l1 = none) : enterP doc (f + 1) st = (false, { st with bb := none, la := st.la + x }) := by
  rw [enterP, if_neg hb, h]
  show (rdN l 1000).elim _ _ = _
  rw [k]
  show (rdT l1).elim _ _ = _
  rw [k2]
  rfl
theorem enterP_at (doc : Int) (f : Nat) (st : PS) (l l1 t l2 : List UInt8) (x : Nat) (hb : st.bh ≠ 0) (h : st.bb = some l) (k : rdN l 1000 = some (x, l1)) (k2 : rdT l1 = some (t, l2)) : enterP doc (f + 1) st =
    if doc ≤ ((st.la + x : Nat) : Int) then (true, { st with bb := some l2, bh := st.bh - min 4 st.bh, la := st.la + x, kb := t, he := min 4 st.bh, dc := st.la })
    else enterP doc f { st with bb := some l2, bh := st.bh - min 4 st.bh, la := st.la + x, sk := st.sk + 1 } := by
  rw [enterP, if_neg hb, h]
  show (rdN l 1000).elim _ _ = _
  rw [k]
  show (rdT l1).elim _ _ = _
  rw [k2]
  rfl
def lookP (st : PS) : Option HN × PS := (hitP st.kb st.dc).elim (none, { st with he := 0, bh := 0 }) fun x => (some x.1, { st with he := st.he - 1, kb := x.2, dc := x.1.1 })
/-- The next hit of a document, or of one behind it. -/
def seekP (doc : Int) : Nat → PS → Option HN × PS
  | 0, st => (none, st)
  | f + 1, st => bif (decide (0 < st.he) || (enterP doc st.bh st).1) then
      (let s1 := bif decide (0 < st.he) then st else (enterP doc st.bh st).2
       (lookP s1).1.elim (seekP doc f (lookP s1).2) fun h => if doc ≤ (h.1 : Int) then (some h, (lookP s1).2) else seekP doc f (lookP s1).2)
    else (none, (enterP doc st.bh st).2)
end Go.Proofs.Ytjigaoclngfcaaa
