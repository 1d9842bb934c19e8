/- A row of spans that was sorted: in memory. -/
import Derived.Test.YtafbjadlklcicaaMaTh
import Derived.Shelf.GgSortFunc.InsertionK
namespace Go.Proofs.Ytafbjadlklcicaa
open Go.RowKit Go.Sort Go.Shelf
set_option maxRecDepth 100000

theorem spC_len (s : Sp) : (spC s).length = 4 := rfl
theorem spC_one (s : Sp) : ∀ v ∈ spC s, v.oneCell' = true := fun v hv => by
  simp only [spC, List.mem_cons, List.not_mem_nil, or_false] at hv
  rcases hv with rfl | rfl | rfl | rfl <;> rfl
theorem flat_sp (l : List Sp) : flatK spC 4 l.toArray = (spCs l).toArray := by
  apply Array.ext
  · simp [spCs_len]
  · intro t h1 h2
    have ht : t < l.toArray.size * 4 := by simpa using h1
    have ht' : t < l.length * 4 := by simpa using ht
    have hk : t / 4 < l.length := by omega
    have e := get_flatK spC 4 l.toArray t ht
    rw [getElem!_pos _ t h1] at e
    rw [e]
    have hd : l.toArray[t / 4]! = l[t / 4] := by rw [getElem!_pos _ _ (by simpa using hk)]; simp
    rw [hd]
    obtain ⟨c0, c1, c2, c3⟩ := spCs_at l (t / 4) hk
    have hg : (spCs l)[t]? = some ((spCs l).toArray[t]) := by simp [List.getElem?_eq_getElem (show t < (spCs l).length by simpa using h2)]
    rcases (by omega : t = t / 4 * 4 ∨ t = t / 4 * 4 + 1 ∨ t = t / 4 * 4 + 2 ∨ t = t / 4 * 4 + 3) with h | h | h | h
    · rw [← h, hg] at c0; injection c0 with c0; rw [c0, show t % 4 = 0 by omega]; rfl
    · rw [← h, hg] at c1; injection c1 with c1; rw [c1, show t % 4 = 1 by omega]; rfl
    · rw [← h, hg] at c2; injection c2 with c2; rw [c2, show t % 4 = 2 by omega]; rfl
    · rw [← h, hg] at c3; injection c3 with c3; rw [c3, show t % 4 = 3 by omega]; rfl
theorem heap_sortedV {w : World} {g n : Nat} {os : Array Obj} {cur : Array Value} {e : TypeId} {fr : Nat × Nat} (d : Array Value) (hb : w.heap[g]? = some (.cells cur e fr)) :
    (grow (putRow id (Sort.ahead w n) g 0 d) os).heap[g]? = some (.cells (putCells id 0 d cur) e fr) := by
  have hg : g < w.heap.size := (Array.getElem?_eq_some_iff.1 hb).1
  rw [heap_grow_old _ _ (by simpa using hg)]
  simp [putRow, mapBlock, Sort.ahead, Array.getElem?_modify, hb, onCells]
theorem grownBy_sortedV {w : World} {g n : Nat} {os : Array Obj} (d : Array Value) : w.grownBy (grow (putRow id (Sort.ahead w n) g 0 d) os) (some g) := by
  refine ⟨rfl, rfl, rfl, by simp, fun k hk hne => ?_⟩
  rw [heap_grow_old _ _ (by simpa using hk)]
  have : g ≠ k := fun e => hne (by rw [e])
  simp [putRow, mapBlock, Sort.ahead, Array.getElem?_modify, this]
theorem take_putCellsV (cur : Array Value) (ts : List Value) (h : ts.length ≤ cur.size) : (putCells id 0 ts.toArray cur).toList.take ts.length = ts := by
  apply List.ext_getElem?
  intro j
  by_cases hj : j < ts.length
  · rw [List.getElem?_take_of_lt hj, Array.getElem?_toList]
    simp [putCells, hj, show j < cur.size by omega]
  · rw [List.getElem?_take_eq_none (by omega), List.getElem?_eq_none (by omega)]
/-- A row that the call owns, by its block. -/
structure OB (w : World) (base g n c : Nat) (cur : Array Value) (l : List Sp) : Prop where
  le : base ≤ g
  hb : w.heap[g]? = some (.cells cur 26 (0, 0))
  nc : n ≤ c
  mx : c ≤ maxLen
  sz : cur.size = c * 4
  tk : cur.toList.take (n * 4) = spCs l
  len : n = l.length
theorem OB.holds {w : World} {base g n c : Nat} {cur : Array Value} {l : List Sp} (h : OB w base g n c cur l) : HoldsK spC 4 w g 0 l.toArray := by
  intro j hj
  rw [flat_sp] at hj ⊢
  have hj' : j < (spCs l).length := by simpa using hj
  refine ⟨?_, by simp [World.frozen?, h.hb]⟩
  have h1 : (cur.toList.take (n * 4))[j]? = (spCs l)[j]? := by rw [h.tk]
  rw [List.getElem?_take_of_lt (by rw [spCs_len] at hj'; rw [h.len]; exact hj')] at h1
  simp only [World.cell?, h.hb, Nat.zero_add]
  simp only [Option.isSome_none, Bool.false_eq_true, if_false]
  rw [← Array.getElem?_toList, h1, List.getElem?_eq_getElem hj', getElem!_pos _ j (by simpa using hj')]
  simp
theorem OB.sorted {w : World} {base g n c m : Nat} {cur : Array Value} {l l' : List Sp} {os : Array Obj} (h : OB w base g n c cur l) (hl : l'.length = l.length) :
    (sortWorldK spC 4 w g 0 m l'.toArray os).ownsRow base 26 4 (.slice (some ⟨g, 0, none⟩) n c) n (spCs l') ∧ w.grownBy (sortWorldK spC 4 w g 0 m l'.toArray os) (some g) := by
  unfold sortWorldK putRowK
  rw [flat_sp]
  refine ⟨⟨by rw [spCs_len, hl, h.len], .inr ⟨g, c, _, rfl, h.le, heap_sortedV _ h.hb, h.nc, h.mx, by simp [putCells, h.sz], ?_⟩⟩, grownBy_sortedV _⟩
  have e : n * 4 = (spCs l').length := by rw [spCs_len, hl, h.len]
  rw [e]
  exact take_putCellsV cur (spCs l') (by rw [← e, h.sz]; exact Nat.mul_le_mul_right _ h.nc)
end Go.Proofs.Ytafbjadlklcicaa
