/- Rows of cells that the call owns, whatever their elements: what they read as; what stays. -/
import Derived.Below
import Derived.Laws.OwnMore
import Derived.Deep.AppendLies
import Derived.Deep.Draws
import Derived.Laws.Rows
import Derived.Maps.AppendAt
namespace Go.Proofs.Ytafbjadlklcicaa
open Go.RowKit

/-- The slice at A reads as the cells xs, and lies below block B. -/
def CS (w : World) (B : Nat) (A : Option Addr) (xs : List Value) : Prop :=
  0 < xs.length → ∃ b o, A = some ⟨b, o, none⟩ ∧ b < B ∧ ∀ k u, xs[k]? = some u → w.cell? ⟨b, o + k, none⟩ = some u
theorem CS.nil (w : World) (B : Nat) (A : Option Addr) : CS w B A [] := fun h => absurd h (by simp)
theorem CS.keep {w w' : World} {B : Nat} {A : Option Addr} {xs : List Value} (h : CS w B A xs) (hk : ∀ p : Addr, p.block < B → w'.cell? p = w.cell? p) : CS w' B A xs := fun hn => by
  obtain ⟨b, o, e, hb, hc⟩ := h hn
  exact ⟨b, o, e, hb, fun k u hu => (hk _ hb).trans (hc k u hu)⟩
theorem CS.below {w w' : World} {B : Nat} {A : Option Addr} {xs : List Value} (h : CS w B A xs) (hb : Below B w w') : CS w' B A xs := h.keep fun _ hp => hb.cell hp
theorem CS.more {w : World} {B B' : Nat} {A : Option Addr} {xs : List Value} (h : CS w B A xs) (hB : B ≤ B') : CS w B' A xs := fun hn => by
  obtain ⟨b, o, e, hb, hc⟩ := h hn
  exact ⟨b, o, e, by omega, hc⟩
theorem row_lt {w : World} {g : Nat} {o : Obj} (hh : w.heap[g]? = some o) : g < w.heap.size := by
  rcases Nat.lt_or_ge g w.heap.size with h' | h'
  · exact h'
  · rw [Array.getElem?_eq_none h'] at hh; cases hh
theorem own_form {w : World} {base : Nat} {t : TypeId} {size : Nat} {v : Value} {n : Nat} {xs : List Value} (h : w.ownsRow base t size v n xs) :
    ∃ A c, v = .slice A n c ∧ n ≤ c ∧ c ≤ maxLen ∧ CS w w.heap.size A xs ∧ ∀ b, v.ownBlock = some b → base ≤ b ∧ b < w.heap.size := by
  rcases h.2 with ⟨rfl, h0⟩ | ⟨g, cap, cur, rfl, hg, hh, hnc, hm, hs, ht⟩
  · refine ⟨none, 0, by rw [h0], by omega, by decide, fun hn => ?_, fun b hb => by simp [Value.ownBlock] at hb⟩
    have := h.1
    rw [h0, Nat.zero_mul] at this
    omega
  · refine ⟨_, cap, rfl, hnc, hm, fun _ => ⟨g, 0, rfl, row_lt hh, fun k u hu => ?_⟩, fun b hb => ?_⟩
    · have hk : k < n * size := by
        have := (List.getElem?_eq_some_iff.1 hu).1
        rw [h.1] at this
        exact this
      rw [← ht, List.getElem?_take_of_lt hk] at hu
      rw [Nat.zero_add]
      simp only [World.cell?, hh]
      simpa using hu
    · simp only [Value.ownBlock, Option.some.injEq] at hb
      exact ⟨by omega, by have := row_lt hh; omega⟩
theorem own_below {w w' : World} {base : Nat} {t : TypeId} {size : Nat} {v : Value} {n : Nat} {xs : List Value} (h : w.ownsRow base t size v n xs) (hb : Below w.heap.size w w') : w'.ownsRow base t size v n xs := by
  refine ⟨h.1, ?_⟩
  rcases h.2 with h | ⟨g, cap, cur, hv, hg, hh, r⟩
  · exact .inl h
  · exact .inr ⟨g, cap, cur, hv, hg, (hb.block g (row_lt hh)).trans hh, r⟩
theorem own_grow {w0 w w' : World} {base B : Nat} {t : TypeId} {size : Nat} {v : Value} {n : Nat} {xs : List Value} (h : w.ownsRow base t size v n xs) (hB : B ≤ base) (hbel : Below B w0 w) (hbase : base ≤ w.heap.size) (hg : w.grownBy w' v.ownBlock) : Below B w0 w' :=
  hbel.grown hg (Nat.le_trans hB hbase) fun k hk => by
    obtain ⟨_, _, _, _, _, _, hb⟩ := own_form h
    exact Nat.le_trans hB (hb k hk).1
theorem own_le {w : World} {base base' : Nat} {t : TypeId} {size : Nat} {v : Value} {n : Nat} {xs : List Value} (h : w.ownsRow base t size v n xs) (hb : base' ≤ base) : w.ownsRow base' t size v n xs :=
  ⟨h.1, h.2.elim .inl fun ⟨g, cap, cur, hv, hg, r⟩ => .inr ⟨g, cap, cur, hv, Nat.le_trans hb hg, r⟩⟩
/-- The row of an empty literal. -/
theorem own_lit (w : World) (t : TypeId) (size : Nat) (fr : Nat × Nat) (hfr : fr = (0, 0)) : (w.alloc (.cells #[] t fr)).ownsRow w.heap.size t size (.slice (some ⟨w.heap.size, 0, none⟩) 0 0) 0 [] := by
  subst hfr
  exact ⟨by simp, .inr ⟨w.heap.size, 0, #[], rfl, Nat.le_refl _, heap_alloc_new w _, Nat.le_refl _, by decide, by simp, by simp⟩⟩
theorem add_addr (b o j : Nat) : (⟨b, o, none⟩ : Addr).add j = ⟨b, o + j, none⟩ := by unfold Addr.add; split <;> simp_all
/-- What a new block holds. -/
theorem new_cells (w : World) (cs : Array Value) (t : TypeId) (fr : Nat × Nat) (j : Nat) (u : Value) (h : cs.toList[j]? = some u) : (w.alloc (.cells cs t fr)).cell? ((⟨w.heap.size, 0, none⟩ : Addr).add j) = some u := by
  rw [add_addr, Nat.zero_add]
  simp only [World.cell?, heap_alloc_new]
  simpa using h
end Go.Proofs.Ytafbjadlklcicaa
