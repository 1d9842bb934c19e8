/- Ordered. -/
import Derived.Test.YtafbjadlklcicaaMaIs
import Derived.Test.YtafbjadlklcicaaMaDr
import Derived.Test.YtafbjadlklcicaaMaOl
import Derived.Laws.EntriesVeiled
namespace Go.Proofs.Ytafbjadlklcicaa
open Go.RowKit Go.Shelf
set_option maxRecDepth 100000

/-- No two come the other way round than the question has them. -/
def ordP (l : List Sp) : Bool := l.all fun s => l.all fun x => inO x s
theorem inO_iff (x s : Sp) : inO x s = true ↔ (x.2.2.1 < s.2.2.1 → x.1 ≤ s.1) ∧ (s.2.2.1 < x.2.2.1 → s.1 ≤ x.1) := by
  unfold inO
  by_cases h : s.2.2.1 < x.2.2.1
  · rw [if_pos h]
    simp only [decide_eq_true_eq]
    omega
  · rw [if_neg h]
    simp only [Bool.or_eq_true, decide_eq_true_eq]
    omega
theorem ordP_iff (l : List Sp) : ordP l = true ↔ ∀ x ∈ l, ∀ s ∈ l, x.2.2.1 < s.2.2.1 → x.1 ≤ s.1 := by
  unfold ordP
  simp only [List.all_eq_true]
  constructor
  · intro h x hx s hs
    exact ((inO_iff x s).1 (h s hs x hx)).1
  · intro h s hs x hx
    exact (inO_iff x s).2 ⟨h x hx s hs, h s hs x hx⟩
theorem crs_not (s x : Sp) : crs s x = !inO x s := by
  rw [Bool.eq_iff_iff, Bool.not_eq_true', ← Bool.not_eq_true, inO_iff]
  unfold crs
  simp only [Bool.or_eq_true, Bool.and_eq_true, decide_eq_true_eq]
  omega
theorem ord_up (l l' : List Sp) (hp : List.Perm l' l) (hs : l'.Pairwise (fun a b => ltOf (cfL (·.2.2.1) (·.1)) b a = false)) : ordP l = true ↔ upFrom cfF l' 0 := by
  have hs' := List.pairwise_iff_getElem.1 hs
  rw [ordP_iff]
  constructor
  · intro h k hk _
    rw [ltF]
    have a := hs' k (k + 1) (by omega) hk (Nat.lt_succ_self k)
    rw [ltL] at a
    have b := h l'[k] (hp.subset (List.getElem_mem (by omega))) l'[k + 1] (hp.subset (List.getElem_mem hk))
    simp only [decide_eq_false_iff_not, not_or, not_and] at *
    omega
  · intro h x hx s hsm hlt
    have mono : ∀ d i (hi : i + d < l'.length), l'[i].1 ≤ l'[i + d].1 := by
      intro d
      induction d with
      | zero => intro i hi; exact Int.le_refl _
      | succ d ih =>
        intro i hi
        have a := ih i (by omega)
        have b := h (i + d) (by omega) (Nat.zero_le _)
        rw [ltF] at b
        simp only [decide_eq_false_iff_not] at b
        have e : l'[i + (d + 1)] = l'[i + d + 1] := rfl
        rw [e]
        omega
    obtain ⟨i, hi, rfl⟩ := List.getElem_of_mem (hp.symm.subset hx)
    obtain ⟨j, hj, rfl⟩ := List.getElem_of_mem (hp.symm.subset hsm)
    rcases Nat.lt_trichotomy i j with hij | hij | hij
    · have := mono (j - i) i (by omega)
      simp only [show i + (j - i) = j by omega] at this
      exact this
    · subst hij; exact Int.le_refl _
    · have a := hs' j i hj hi hij
      rw [ltL] at a
      simp only [decide_eq_false_iff_not, not_or, not_and] at a
      omega
set_option maxHeartbeats 1000000 in
theorem ord1_any (v : Value) (l : List Sp) (hl : l.length ≤ 20000) (w : World) (h : SV w w.heap.size v l) :
    Calls Try.prog 37 #[v] w fun e w' => e = .returned (.bool (ordP l)) ∧ Below w.heap.size w w' := by
  have KS := Lib.hid (sorted_any 39 _ (swoL _ _) ord11_cmp v l (by omega) w h)
  obtain ⟨A, c, rfl, _⟩ := h
  obtain ⟨n, hn⟩ : ∃ n, n = l.length := ⟨_, rfl⟩
  rw [← hn] at KS ⊢
  have HN := Lib.hid hn
  have HL : Hid (l.length ≤ 20000) := hl
  clear hn hl
  go_enter Try.func37, Try.ntmps37
  go_wp2_with fail
  with_reducible refine KS.out.mono ?_
  rintro e w1 ⟨u, l', rfl, hp, hs, ho, hb⟩
  obtain ⟨A', c', rfl, _, _, h3, _⟩ := own_form ho
  have KI := Lib.hid (issorted_any 43 cfF from_cmp A' l'.length c' l' rfl (by rw [hp.length_eq]; have := HL.out; omega) (ordP l) (ord_up l l' hp hs) w1 h3)
  have HB := Lib.hid hb
  generalize l'.length = n' at KI ⊢
  clear hp hs ho hb h3 KS
  go_wp2_with fail
  with_reducible refine KI.out.mono ?_
  rintro e w2 ⟨rfl, hb2⟩
  have HB2 := Lib.hid (HB.out.trans (hb2.mono HB.out.size))
  clear hb2
  go_wp2_with fail
  go_ret
  exact ⟨rfl, HB2.out⟩
/-- What Ordered drops. -/
def ordQ (l : List Sp) (s : Sp) : Bool := l.any (crs s)
theorem ordX (w0 : World) : FnX 45 #[] ordQ 20000 w0 := by
  refine ⟨enters_of Try.func45 (by kernel_rfl) rfl, fun W _ v l row hv hl hrow => ?_⟩
  obtain ⟨A, c, rfl, h1, h2, h3⟩ := id hv
  refine (ord2_any A l.length c W).mono fun e w' ⟨he, hc, hb⟩ => ⟨_, _, he, hb, enters_of Try.func46 (by kernel_rfl) rfl, fun W' hg s => ?_⟩
  have hne : ∀ r, row = some r → r < W.heap.size := fun r hr => (hrow r hr).2.1
  have hcb := World.block_lt_of_cell? w' _ hc
  have c1 : W'.cell? ⟨W.heap.size, 0, none⟩ = some (.slice A l.length c) := hg.cell hc (fun e => by have := hne _ e.symm; exact absurd this (Nat.lt_irrefl _))
  have sv' : SV W' W'.heap.size (.slice A l.length c) l := (hv.up hb).move (P := fun b => some b ≠ row) (fun a n c e _ h => by
    injection e with e1 e2 e3
    exact (hrow a.block h.symm).2.2 (by rw [e1]; rfl)) fun g h1 h2 => ⟨hg.block g h2 h1, by have := hg.size; omega⟩
  exact ord21_any W.heap.size A l.length c l rfl (by omega) s W' c1 sv'.cs.2
set_option maxHeartbeats 2000000 in
theorem ordered_any (A : Option Addr) (n c : Nat) (ms : List Mt) (HN : Hid (n = ms.length)) (hn : n ≤ 10000) (HSM : Hid (smM ms)) (w : World) (h : MS w w.heap.size A ms) :
    Calls Try.prog 14 #[.slice A n c] w fun e w' => ∃ v zs, e = .returned v ∧ MO w w' v zs ((thruL ordP ms).map (dropM ordQ)) := by
  have HTH := Lib.hid (through_own 37 #[] ordP A n c ms HN hn HSM 20000 (fun m hm => (HSM.out m hm).1) w h ⟨enters_of Try.func37 (by kernel_rfl) rfl, fun W _ v l hv hl => ord1_any v l hl W hv⟩)
  obtain ⟨L, hL⟩ : ∃ L, L = thruL ordP ms := ⟨_, rfl⟩
  have HLs : Hid (L.length ≤ 10000 ∧ ∀ m ∈ L, m.1.length ≤ 20000 ∧ m.2.length ≤ 100000) := by
    rw [hL]
    refine ⟨Nat.le_trans (List.length_filter_le _ _) (by rw [← HN.out]; exact hn), fun m hm => ?_⟩
    have := HSM.out m (List.mem_filter.1 hm).1
    omega
  rw [← hL] at HTH ⊢
  clear h hL
  go_enter Try.func14, Try.ntmps14
  go_upto_region 2 with (with_reducible refine HTH.out.mono ?_; rintro e w1 ⟨v, zs, rfl, hm⟩)
  obtain ⟨A1, c1, rfl, _, _, _⟩ := hm.out
  have KD := Lib.hid (drop_any 45 #[] ordQ 20000 w A1 L.length c1 zs L rfl (by have := HLs.out.1; omega) HLs.out.2 w1 hm (ordX w))
  clear hm HTH
  obtain ⟨N, hN⟩ : ∃ N, N = L.length := ⟨_, rfl⟩
  rw [← hN] at KD ⊢
  clear hN
  go_wp2_with fail
  with_reducible refine KD.out.mono ?_
  rintro e w2 ⟨rfl, zs', hm2⟩
  have HM2 := Lib.hid hm2
  clear hm2 KD
  go_wp2_with fail
  go_ret
  exact ⟨_, _, rfl, HM2.out⟩
end Go.Proofs.Ytafbjadlklcicaa
