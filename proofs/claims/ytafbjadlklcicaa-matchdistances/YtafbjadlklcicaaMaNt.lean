/- turn at an element of a list in the making. -/
import Derived.Test.YtafbjadlklcicaaMaNl
namespace Go.Proofs.Ytafbjadlklcicaa
open Go.RowKit
set_option maxRecDepth 100000

def midF (ms : List Mt) (W k i : Nat) : Nat → Mt := fun j => if j < i then curM ms W (k + 1) j else curM ms W k j
theorem turn_any (G : Nat → Prop) (w0 w : World) (L W : Nat) (ms : List Mt) (k i r : Nat) (hW : W = PW ms) (h0 : 0 < W) (hk : k < ms.length) (hk5 : ms.length ≤ 100000) (hi : i < W) (hr : r = i / (W / PW (ms.take (k + 1))) % szM ms[k])
    (h : NL G w0 w L W (midF ms W k i)) (A0 A1 : Option Addr) (n0 c0 n1 c1 : Nat) (s0 : SV w w.heap.size (.slice A0 n0 c0) ms[k].1) (s1 : SV w w.heap.size (.slice A1 n1 c1) ms[k].2) (hn0 : n0 ≤ 20000) (hn1 : n1 ≤ 20000) :
    Calls Try.prog 66 #[.pointer (some ⟨L, i * 2, none⟩), .agg #[.slice A0 n0 c0, .slice A1 n1 c1], .int .i64 r] w fun e w' => e = .returned (.tuple #[]) ∧ NL G w0 w' L W (midF ms W k (i + 1)) ∧ ∀ b, G b → b ≠ L → w'.heap[b]? = w.heap[b]? := by
  obtain ⟨hs, _⟩ := each_step ms W k hW h0 hk
  have hrl : r < szM ms[k] := by rw [hr]; exact Nat.mod_lt _ hs
  obtain ⟨e0, _⟩ := s0.cs
  obtain ⟨e1, _⟩ := s1.cs
  have hcs := cur_size ms W k i
  have fi : midF ms W k i i = curM ms W k i := by unfold midF; rw [if_neg (Nat.lt_irrefl _)]
  have fi' : midF ms W k (i + 1) i = curM ms W (k + 1) i := by unfold midF; rw [if_pos (Nat.lt_succ_self _)]
  have fo : ∀ j, j ≠ i → midF ms W k (i + 1) j = midF ms W k i j := fun j hj => by
    unfold midF
    by_cases h1 : j < i
    · rw [if_pos h1, if_pos (by omega)]
    · rw [if_neg h1, if_neg (by omega)]
  unfold szM at hrl
  by_cases hlt : r < n0
  · have hrm : r < ms[k].1.length := by omega
    have hst := cur_step ms W k i _ hW h0 hk hi (by rw [← hr]; exact turns_out _ r hrm)
    have ro : rowF (midF ms W k i) (i * 2 + 1) = (curM ms W k i).2 := by unfold rowF; rw [if_neg (by omega), show (i * 2 + 1) / 2 = i by omega, fi]
    obtain ⟨t, c1', o1, ne, fin⟩ := h.turn (i * 2 + 1) (by omega)
    refine (turn_out L (i * 2) t A0 A1 n0 c0 n1 c1 ms[k] r _ w0.heap.size _ w s0 hlt hrm hn0 c1' (h.fr _) o1 (by rw [ro]; omega) ne h.kb.size h.hL).mono fun e w' ⟨he, T⟩ => ⟨he, fin w' (rowF (midF ms W k i) (i * 2 + 1) ++ [ms[k].1[r]]) _ (by rw [List.length_append]; exact T) ?_ fun j hj hne => ?_⟩
    · unfold rowF
      rw [if_neg (by omega), if_neg (by omega), show (i * 2 + 1) / 2 = i by omega, fi, fi', hst]
      rfl
    · by_cases h2 : j / 2 = i
      · have hj2 : j = i * 2 := by omega
        subst hj2
        unfold rowF
        rw [if_pos (by omega), if_pos (by omega), show i * 2 / 2 = i by omega, fi, fi', hst]
        exact List.append_nil _
      · unfold rowF
        rw [fo _ h2]
  · obtain ⟨k', hk'⟩ : ∃ k', r = n0 + k' := ⟨r - n0, by omega⟩
    have hrm : k' < ms[k].2.length := by omega
    have hst := cur_step ms W k i _ hW h0 hk hi (by rw [← hr, hk', e0]; exact turns_in _ k' hrm)
    have ro : rowF (midF ms W k i) (i * 2) = (curM ms W k i).1 := by unfold rowF; rw [if_pos (by omega), show i * 2 / 2 = i by omega, fi]
    obtain ⟨t, c1', o1, ne, fin⟩ := h.turn (i * 2) (by omega)
    refine (turn_in L (i * 2) t A0 A1 n0 c0 n1 c1 ms[k] k' r _ w0.heap.size _ w s1 hk' (by omega) hrm hn1 c1' (h.fr _) o1 (by rw [ro]; omega) ne h.kb.size h.hL).mono fun e w' ⟨he, T⟩ => ⟨he, fin w' (rowF (midF ms W k i) (i * 2) ++ [ms[k].2[k']]) _ (by rw [List.length_append]; exact T) ?_ fun j hj hne => ?_⟩
    · unfold rowF
      rw [if_pos (by omega), if_pos (by omega), show i * 2 / 2 = i by omega, fi, fi', hst]
      rfl
    · by_cases h2 : j / 2 = i
      · have hj2 : j = i * 2 + 1 := by omega
        subst hj2
        unfold rowF
        rw [if_neg (by omega), if_neg (by omega), show (i * 2 + 1) / 2 = i by omega, fi, fi', hst]
        exact List.append_nil _
      · unfold rowF
        rw [fo _ h2]
end Go.Proofs.Ytafbjadlklcicaa
