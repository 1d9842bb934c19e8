/- Byte slices told as lists of bytes; small closing lemmas. -/
import Derived.Below
import Derived.Laws.OwnMore
import Derived.Deep.AppendLies
import Derived.Deep.Draws
import Derived.Laws.Rows
import Derived.Laws.BytesArg
namespace Go.Proofs.Ytafbjadlklcicaa
open Go.RowKit

/-- The k-th byte of a text, as the number that a cell holds. -/
def at8 (l : List UInt8) (k : Nat) : Int := ((l[k]?.getD 0).toNat : Int)
theorem at8_ge (l : List UInt8) (k : Nat) : 0 ≤ at8 l k := by unfold at8; omega
theorem at8_le (l : List UInt8) (k : Nat) : at8 l k ≤ 255 := by unfold at8; have := (l[k]?.getD 0).toNat_lt; omega
theorem at8_eq (l : List UInt8) (k : Nat) (h : k < l.length) : at8 l k = (l[k].toNat : Int) := by unfold at8; rw [List.getElem?_eq_getElem h]; rfl

theorem ret_int {k : IntKind} {a b : Int} (h : a = b) : Ending.returned (.int k a) = .returned (.int k b) := by rw [h]
theorem ret_bool {a b : Bool} (h : a = b) : Ending.returned (.bool a) = .returned (.bool b) := by rw [h]

/-- The slice at A reads as the bytes l, and lies below block B. -/
def BS (w : World) (B : Nat) (A : Option Addr) (l : List UInt8) : Prop :=
  0 < l.length → ∃ b o, A = some ⟨b, o, none⟩ ∧ b < B ∧ ∀ k, k < l.length → w.cell? ⟨b, o + k, none⟩ = some (.int .u8 (at8 l k))

theorem BS.nil (w : World) (B : Nat) (A : Option Addr) : BS w B A [] := fun h => absurd h (by simp)
theorem BS.keep {w w' : World} {B : Nat} {A : Option Addr} {l : List UInt8} (h : BS w B A l) (hk : ∀ p : Addr, p.block < B → w'.cell? p = w.cell? p) : BS w' B A l := fun hn => by
  obtain ⟨b, o, e, hb, hc⟩ := h hn
  exact ⟨b, o, e, hb, fun k hk' => (hk _ hb).trans (hc k hk')⟩
theorem BS.below {w w' : World} {B : Nat} {A : Option Addr} {l : List UInt8} (h : BS w B A l) (hb : Below B w w') : BS w' B A l := h.keep fun _ hp => hb.cell hp
theorem BS.more {w : World} {B B' : Nat} {A : Option Addr} {l : List UInt8} (h : BS w B A l) (hB : B ≤ B') : BS w B' A l := fun hn => by
  obtain ⟨b, o, e, hb, hc⟩ := h hn
  exact ⟨b, o, e, by omega, hc⟩
theorem BS.drewN {w : World} {B : Nat} {A : Option Addr} {l : List UInt8} (h : BS w B A l) (n : Nat) : BS (w.drewN n) B A l := h
/-- The cells that hold a text's bytes. -/
def cells8 (l : List UInt8) : List Value := l.map fun c => .int .u8 (c.toNat : Int)
theorem cells8_length (l : List UInt8) : (cells8 l).length = l.length := by simp [cells8]
theorem cells8_append (l m : List UInt8) : cells8 (l ++ m) = cells8 l ++ cells8 m := by simp [cells8]
theorem cells8_at (l : List UInt8) (k : Nat) (h : k < l.length) : (cells8 l)[k]? = some (.int .u8 (at8 l k)) := by
  unfold cells8
  rw [List.getElem?_map, List.getElem?_eq_getElem h, at8_eq l k h]
  rfl
theorem cells8_one (l : List UInt8) : ∀ u ∈ cells8 l, u.oneCell' = true := by
  intro u hu
  unfold cells8 at hu
  obtain ⟨c, _, rfl⟩ := List.mem_map.1 hu
  rfl
/-- A row of bytes that the call owns. -/
def Own8 (w : World) (base : Nat) (t : TypeId) (v : Value) (l : List UInt8) : Prop := w.ownsRow base t 1 v l.length (cells8 l)
theorem Own8.nil (w : World) (base : Nat) (t : TypeId) : Own8 w base t (.slice none 0 0) [] := ⟨rfl, .inl ⟨rfl, rfl⟩⟩
theorem Own8.form {w : World} {base : Nat} {t : TypeId} {v : Value} {l : List UInt8} (h : Own8 w base t v l) : ∃ A c, v = .slice A l.length c ∧ l.length ≤ c ∧ c ≤ maxLen ∧ BS w w.heap.size A l ∧ ∀ b, v.ownBlock = some b → base ≤ b ∧ b < w.heap.size := by
  rcases h.2 with ⟨rfl, h0⟩ | ⟨g, cap, cur, rfl, hg, hh, hnc, hm, hs, ht⟩
  · exact ⟨none, 0, by rw [h0], by omega, by decide, fun hn => by omega, fun b hb => by simp [Value.ownBlock] at hb⟩
  · have hlt : g < w.heap.size := by
      rcases Nat.lt_or_ge g w.heap.size with h' | h'
      · exact h'
      · rw [Array.getElem?_eq_none h'] at hh; cases hh
    refine ⟨_, cap, rfl, hnc, hm, fun _ => ⟨g, 0, rfl, hlt, fun k hk => ?_⟩, fun b hb => ?_⟩
    · have e := cells8_at l k hk
      rw [← ht, List.getElem?_take_of_lt (by omega)] at e
      rw [Nat.zero_add]
      simp only [World.cell?, hh]
      simpa using e
    · simp only [Value.ownBlock, Option.some.injEq] at hb
      exact ⟨by omega, by omega⟩
theorem Own8.below {w w' : World} {base : Nat} {t : TypeId} {v : Value} {l : List UInt8} (h : Own8 w base t v l) (hb : Below w.heap.size w w') : Own8 w' base t v l := by
  refine ⟨h.1, ?_⟩
  rcases h.2 with h | ⟨g, cap, cur, hv, hg, hh, r⟩
  · exact .inl h
  · have hlt : g < w.heap.size := by
      rcases Nat.lt_or_ge g w.heap.size with h' | h'
      · exact h'
      · rw [Array.getElem?_eq_none h'] at hh; cases hh
    exact .inr ⟨g, cap, cur, hv, hg, (hb.block g hlt).trans hh, r⟩
theorem take_snoc8 (l : List UInt8) (k : Nat) (h : k < l.length) : l.take (k + 1) = l.take k ++ [l[k]] := List.take_succ_eq_append_getElem h
end Go.Proofs.Ytafbjadlklcicaa
