/- The laws' head. -/
import Derived.Test.YtbehfhdkdekjfaaDoorXmParse
namespace Go.Proofs.YtbehfhdkdekjfaaDoor
open Go.RowKit
set_option maxRecDepth 100000

def headT : L8 := [60, 97, 32, 98, 61, 34, 49, 34, 62, 120, 38, 108, 116, 59, 121, 60, 99, 47, 62, 60, 47, 97, 62]
def headN : List Nd := [⟨[97], [], [([98], [49])], -1, 0, 3⟩, ⟨[], [120, 60, 121], [], 0, 1, 2⟩, ⟨[99], [], [], 0, 1, 3⟩]
theorem head_val : parseX headT = .ok headN := by kernel_rfl
theorem row_cells {w : World} {B : Nat} {v : Value} {ns : List Nd} (h : NdRow w B v ns) (hn : 0 < ns.length) : ∃ g c, v = .slice (some ⟨g, 0, none⟩) ns.length c ∧ ns.length ≤ c ∧ c ≤ 9223372036854775807 ∧ ∀ (k : Nat) (nd : Nd), ns[k]? = some nd → ∃ av, AtRow w B av nd.attrs ∧ ∀ j u, (ndV nd av)[j]? = some u → j < 6 → w.cell? ⟨g, k * 6 + j, none⟩ = some u := by
  obtain ⟨avs, h1, h2, h3⟩ := h
  obtain ⟨g, c, hv, _, _, hc, hm, _, hcell⟩ := own_some h1 hn
  refine ⟨g, c, hv, hc, by unfold maxLen at hm; omega, fun k nd hk => ?_⟩
  have hkl := (List.getElem?_eq_some_iff.1 hk).1
  obtain ⟨av, hav⟩ : ∃ av, avs[k]? = some av := ⟨_, List.getElem?_eq_getElem (by rw [h2]; exact hkl)⟩
  exact ⟨av, h3 k av nd hav hk, fun j u hu hj => hcell _ _ (by rw [ndCells_at ns avs k nd av j hk hav hj]; exact hu)⟩
set_option maxHeartbeats 4000000 in
theorem head_any (w : World) (hE : Env w) : Calls Tryd.prog 7 #[] w fun e w' => e = .returned (.bool true) ∧ Below w.heap.size w w' := by
  have HP := Lib.hid (parse_any headT (by decide) w hE)
  clear hE
  go_enter Tryd.func7, Tryd.ntmps7
  go_wp2_with fail
  refine HP.out.mono ?_
  rintro e w1 ⟨b1, ⟨ns, v, hns, rfl, hrow⟩ | ⟨c, hns, rfl, hc⟩⟩
  · rw [head_val] at hns
    injection hns with hns
    subst hns
    obtain ⟨g, c, rfl, hc1, hc2, hcell⟩ := row_cells hrow (by decide)
    obtain ⟨av0, hat0, n0⟩ := hcell 0 _ rfl
    obtain ⟨av1, _, n1⟩ := hcell 1 _ rfl
    obtain ⟨av2, _, n2⟩ := hcell 2 _ rfl
    have d00 : w1.cell? ⟨g, 0, none⟩ = some (.string (strOf [97])) := n0 0 _ rfl (by omega)
    have d02 : w1.cell? ⟨g, 2, none⟩ = some av0 := n0 2 _ rfl (by omega)
    have d03 : w1.cell? ⟨g, 3, none⟩ = some (.int .i64 (-1)) := n0 3 _ rfl (by omega)
    have d04 : w1.cell? ⟨g, 4, none⟩ = some (.int .i64 0) := n0 4 _ rfl (by omega)
    have d05 : w1.cell? ⟨g, 5, none⟩ = some (.int .i64 3) := n0 5 _ rfl (by omega)
    have d11 : w1.cell? ⟨g, 7, none⟩ = some (.string (strOf [120, 60, 121])) := n1 1 _ rfl (by omega)
    have d14 : w1.cell? ⟨g, 10, none⟩ = some (.int .i64 1) := n1 4 _ rfl (by omega)
    have d15 : w1.cell? ⟨g, 11, none⟩ = some (.int .i64 2) := n1 5 _ rfl (by omega)
    have d20 : w1.cell? ⟨g, 12, none⟩ = some (.string (strOf [99])) := n2 0 _ rfl (by omega)
    have d25 : w1.cell? ⟨g, 17, none⟩ = some (.int .i64 3) := n2 5 _ rfl (by omega)
    obtain ⟨A0, c0, hav0, hc0, hm0, _, _⟩ := own_form hat0
    rw [hav0] at d02
    have s1 : ((strOf [97]).toList == [97]) = true := by rw [str_is]; rfl
    have s2 : ((strOf [120, 60, 121]).toList == [120, 60, 121]) = true := by rw [str_is]; rfl
    have s3 : ((strOf [99]).toList == [99]) = true := by rw [str_is]; rfl
    have hl3 : headN.length = 3 := rfl
    rw [hl3] at hc1 ⊢
    have hl1 : ([([98], [49])] : List At).length = 1 := rfl
    rw [hl1] at d02 hc0
    clear hrow hcell n0 n1 n2 hat0 hav0 HP hl3 hl1
    go_wp2_with fail
    go_ret
    exact ⟨rfl, b1⟩
  · rw [head_val] at hns
    cases hns
end Go.Proofs.YtbehfhdkdekjfaaDoor
