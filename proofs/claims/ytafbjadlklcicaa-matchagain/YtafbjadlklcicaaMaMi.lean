/- Mild, by what covering leaves. -/
import Derived.Test.YtafbjadlklcicaaMaC2
import Derived.Laws.EntriesVeiled
namespace Go.Proofs.Ytafbjadlklcicaa
open Go.RowKit
set_option maxRecDepth 100000

def CovQ (w : World) (ns : List Mt) (e : Ending) (w' : World) : Prop :=
  ∃ D ts us A n c, e = .returned (.func (.func 84) #[] #[.pointer (some ⟨D, 0, none⟩)]) ∧ Cov w' D ts us A n c ∧ List.Perm ts (ns.flatMap (·.1)) ∧ Below w.heap.size w w'
def mildP (ns : List Mt) (l : List Sp) : Bool := !(l.any (covB (ns.flatMap (·.1))))
set_option maxHeartbeats 2000000 in
theorem mild1_any (E D : Nat) (ts us : List Sp) (A : Option Addr) (n c : Nat) (ns : List Mt) (hp : Hid (List.Perm ts (ns.flatMap (·.1)))) (v : Value) (l : List Sp) (hl : l.length ≤ 20000) (w : World) (hE : w.cell? ⟨E, 0, none⟩ = some (.func (.func 84) #[] #[.pointer (some ⟨D, 0, none⟩)])) (hC : Cov w D ts us A n c) (hv : SV w w.heap.size v l) :
    Calls Try.prog 62 #[v, .pointer (some ⟨E, 0, none⟩)] w fun e w' => e = .returned (.bool (mildP ns l)) ∧ Below w.heap.size w w' := by
  obtain ⟨S, d, rfl, _⟩ := id hv
  have KC := Lib.hid (scontains_any 84 #[.pointer (some ⟨D, 0, none⟩)] (covB ts) S l.length d l rfl (by omega) w hv.cs.2 ⟨enters_of Try.func84 (by kernel_rfl) rfl, fun W hW s => cv2_any D ts us A n c s W (hC.up hW)⟩)
  have HP : Hid (l.any (covB ts) = l.any (covB (ns.flatMap (·.1)))) := by
    show _ = _
    congr 1
    funext s
    exact covB_perm hp.out s
  obtain ⟨q, hq⟩ : ∃ q, q = l.any (covB ts) := ⟨_, rfl⟩
  rw [← hq] at KC HP
  obtain ⟨L, hL⟩ : ∃ L, L = l.length := ⟨_, rfl⟩
  rw [← hL] at KC ⊢
  clear hq hL hC hv
  go_enter Try.func62, Try.ntmps62
  go_wp2_with fail
  with_reducible refine KC.out.mono ?_
  rintro e w5 ⟨rfl, b5⟩
  have HB5 := Lib.hid b5
  clear b5
  go_wp2_with fail
  go_ret
  exact ⟨by unfold mildP; rw [← HP.out]; rfl, HB5.out⟩
set_option maxHeartbeats 2000000 in
theorem mild_any (A0 A1 : Option Addr) (n0 c0 n1 c1 : Nat) (ms ns : List Mt) (H : Hid (n0 = ms.length)) (hn : n0 ≤ 10000) (HSM : Hid (smM ms)) (w : World) (h0 : MS w w.heap.size A0 ms) (hcov : Hid (Calls Try.prog 61 #[.slice A1 n1 c1] w (CovQ w ns))) :
    Calls Try.prog 30 #[.slice A0 n0 c0, .slice A1 n1 c1] w fun e w' => ∃ v zs, e = .returned v ∧ MK w w' v zs (thruL (mildP ns) ms) := by
  have HM := Lib.hid h0
  clear h0
  go_enter Try.func30, Try.ntmps30
  go_wp2_with fail
  with_reducible refine hcov.out.mono ?_
  rintro e w1 ⟨D, ts, us, A, n, c, rfl, hC, hp, b1⟩
  obtain ⟨X, hX⟩ : ∃ X, w1.alloc (.cells #[.func (.func 84) #[] #[.pointer (some ⟨D, 0, none⟩)]] 69) = X := ⟨_, rfl⟩
  have bX : Below w1.heap.size w1 X := by rw [← hX]; exact (Below.refl _ _).alloc (Nat.le_refl _) _
  have hE : X.cell? ⟨w1.heap.size, 0, none⟩ = some (.func (.func 84) #[] #[.pointer (some ⟨D, 0, none⟩)]) := by
    have z := new_cells w1 #[.func (.func 84) #[] #[.pointer (some ⟨D, 0, none⟩)]] 69 (0, 0) 0 _ rfl
    rw [add_addr, hX] at z
    exact z
  have bwX := b1.trans (bX.mono b1.size)
  have KT := Lib.hid (through_any 62 #[.pointer (some ⟨w1.heap.size, 0, none⟩)] (mildP ns) A0 n0 c0 ms H hn HSM X (HM.out.up bwX) ⟨enters_of Try.func62 (by kernel_rfl) rfl, fun W hW v l hv hl => mild1_any w1.heap.size D ts us A n c ns hp v l hl W ((hW.cell (World.block_lt_of_cell? X _ hE)).trans hE) ((hC.up bX).up hW) hv⟩)
  have HX := Lib.hid hX
  have HBX := Lib.hid bwX
  clear hC hp b1 hX bX hE bwX
  go_upto_region 2 with fail
  rw [HX.out]
  go_wp2_with fail
  with_reducible refine KT.out.mono ?_
  rintro e w5 ⟨v, zs, rfl, hk⟩
  have HK := Lib.hid (hk.base HBX.out)
  obtain ⟨A5, c5, rfl, _⟩ := own_form hk.own
  clear hk KT
  go_wp2_with fail
  go_ret
  exact ⟨_, _, rfl, HK.out⟩
end Go.Proofs.Ytafbjadlklcicaa
