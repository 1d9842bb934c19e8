/- post.layBlock. -/
import Derived.Test.YtjigaoclngfcaaaPoRi
import Derived.Test.YtjigaoclngfcaaaRdO
namespace Go.Proofs.Ytjigaoclngfcaaa
open Go.RowKit
set_option maxRecDepth 100000

/-! plain -/
theorem upI_weak : ∀ (xs : List Int) (a a' lim : Int), a' ≤ a → upI a lim xs = true → upI a' lim xs = true
  | [], _, _, _, _, _ => rfl
  | n :: t, a, a', lim, h, k => by
    obtain ⟨h1, h2, h3⟩ := upI_some k
    rw [upI_cons, h3, decide_eq_true (show a' < n by omega), decide_eq_true h2]
    rfl
theorem rgt_weak : ∀ (hs : List HI) (a a' : Int), a' ≤ a → rgt a hs = true → rgt a' hs = true
  | [], _, _, _, _ => rfl
  | h :: t, a, a', k, r => by
    obtain ⟨h1, h2, h3, h4, h5⟩ := rgt_some r
    simp only [rgt, hitOk, h4, h5, decide_eq_true (show a' < h.1 by omega), decide_eq_true h2, decide_eq_true h3]
    rfl
def lastI (p : Int) (xs : List Int) : Int := xs.getLast?.getD p
theorem lastI_cons (p x : Int) (t : List Int) : lastI p (x :: t) = lastI x t := by
  unfold lastI
  cases t with
  | nil => rfl
  | cons y u => simp [List.getLast?_cons]
theorem lastI_snoc (p x : Int) (t : List Int) : lastI p (t ++ [x]) = x := by unfold lastI; rw [List.getLast?_concat]; rfl
theorem upI_step : ∀ (xs : List Int) (p lim : Int) (j : Nat) (hj : j < xs.length), 0 ≤ p → upI (p - 1) lim xs = true → 0 ≤ lastI p (xs.take j) ∧ lastI p (xs.take j) ≤ xs[j] ∧ xs[j] < lim
  | [], _, _, j, hj, _, _ => absurd hj (Nat.not_lt_zero _)
  | n :: t, p, lim, 0, _, hp, h => by
    obtain ⟨h1, h2, _⟩ := upI_some h
    show 0 ≤ p ∧ p ≤ n ∧ n < lim
    omega
  | n :: t, p, lim, j + 1, hj, hp, h => by
    obtain ⟨h1, h2, h3⟩ := upI_some h
    rw [List.take_succ_cons, lastI_cons, List.getElem_cons_succ]
    exact upI_step t n lim j (by simpa using hj) (by omega) (upI_weak t n (n - 1) lim (by omega) h3)
theorem docOf_eq (d : Int) (hs : List HI) : docOf d hs = lastI d (hs.map (·.1)) := rfl
theorem rgt_docs (hs : List HI) (a : Int) (h : rgt a hs = true) : upI a 1000 (hs.map (·.1)) = true := by
  rw [rgt_eq, Bool.and_eq_true] at h
  exact h.2
theorem rgt_ats (hs : List HI) (a : Int) (h : rgt a hs = true) (k : Nat) (hk : k < hs.length) : upI (-1) 65536 hs[k].2 = true ∧ 0 < hs[k].2.length := by
  rw [rgt_eq, Bool.and_eq_true, List.all_eq_true] at h
  have := h.1 hs[k] (List.getElem_mem hk)
  simp only [atOk, Bool.and_eq_true, decide_eq_true_eq] at this
  exact ⟨this.2, this.1⟩
theorem rgt_step (hs : List HI) (d : Int) (k : Nat) (hk : k < hs.length) (hd : 0 ≤ d) (h : rgt (d - 1) hs = true) : 0 ≤ docOf d (hs.take k) ∧ docOf d (hs.take k) ≤ hs[k].1 ∧ hs[k].1 < 1000 := by
  have := upI_step (hs.map (·.1)) d 1000 k (by rw [List.length_map]; exact hk) hd (rgt_docs hs _ h)
  rw [docOf_eq, List.map_take]
  simpa using this
theorem upI_take : ∀ (xs : List Int) (a lim : Int) (k : Nat), upI a lim xs = true → upI a lim (xs.take k) = true
  | [], _, _, _, _ => by simp [upI]
  | x :: t, a, lim, 0, _ => rfl
  | x :: t, a, lim, k + 1, h => by
    obtain ⟨p1, p2, p3⟩ := upI_some h
    rw [List.take_succ_cons, upI_cons, upI_take t x lim k p3, decide_eq_true p1, decide_eq_true p2]
    rfl
theorem rgt_take (hs : List HI) (a : Int) (k : Nat) (h : rgt a hs = true) : rgt a (hs.take k) = true := by
  rw [rgt_eq, Bool.and_eq_true, List.all_eq_true] at h ⊢
  exact ⟨fun x hx => h.1 x (List.mem_of_mem_take hx), by rw [List.map_take]; exact upI_take _ _ _ _ h.2⟩
theorem df_wrap (x p : Int) : IntKind.u64.wrap (wrap64 (x - p)) = (df x p : Int) := by
  unfold df wrap64
  rw [IntKind.wrap_u64]
  omega
/-- Bytes in the making, beside a hit's own variable. -/
structure PB (w0 w : World) (base S : Nat) (x y v : Value) (l : B8') : Prop where
  own : Own8 w base 5 v l
  ne : v.ownBlock ≠ some S
  c0 : w.cell? ⟨S, 0, none⟩ = some x
  c1 : w.cell? ⟨S, 1, none⟩ = some y
  bel : Below base w0 w
  bs : base ≤ S
  lt : S < w.heap.size
theorem PB.put {w0 w : World} {base S : Nat} {x y v : Value} {l : B8'} (h : PB w0 w base S x y v l) (n : Nat) (hn : n < 18446744073709551616) (hl : l.length ≤ 1099511627776) :
    Calls Try.prog 39 #[v, .int .u64 n] w fun e w' => ∃ v', e = .returned v' ∧ PB w0 w' base S x y v' (l ++ enc n) := by
  have hb : base ≤ w.heap.size := by have := h.bs; have := h.lt; omega
  refine (put_any v l base n hn w h.own hb hl).mono ?_
  rintro e w' ⟨v', rfl, o1, g1, a1⟩
  have hk := g1.block S h.lt h.ne.symm
  have hc : ∀ k, w'.cell? ⟨S, k, none⟩ = w.cell? ⟨S, k, none⟩ := fun k => by simp [World.cell?, hk]
  refine ⟨v', rfl, o1, ?_, (hc 0).trans h.c0, (hc 1).trans h.c1, h.own.grow (Nat.le_refl _) h.bel hb g1, h.bs, Nat.lt_of_lt_of_le h.lt g1.size⟩
  rcases a1 with a1 | ⟨g, a1, ha⟩
  · rw [a1]; exact h.ne
  · rw [a1]
    intro e
    injection e with e
    have := h.lt
    omega
set_option maxHeartbeats 4000000 in
theorem lay_any (A : Option Addr) (n c : Nat) (hs : List HI) (d : Int) (hn : Hid (n = hs.length)) (hn4 : n ≤ 4) (hr : Hid (∀ h ∈ hs, h.2.length ≤ 6000)) (w : World) (hI : HS w w.heap.size A hs) :
    Calls Try.prog 42 #[.slice A n c, .int .i64 d] w fun e w' => ∃ v, e = .returned v ∧ Own8 w' w.heap.size 5 v (eBl d hs) ∧ Below w.heap.size w w' := by
  have HCS := Lib.hid hI
  have HLE : Hid (∀ k, k ≤ hs.length → (eBl d (hs.take k)).length ≤ 400000) := fun k hk => by
    have h4 := eBl_le 6000 (by decide) (hs.take k) d (fun h hh => hr.out h (List.mem_of_mem_take hh))
    have h5 : (hs.take k).length * (20 + 10 * 6000) ≤ 4 * 60020 := Nat.mul_le_mul (by rw [List.length_take]; have := hn.out; omega) (by decide)
    omega
  clear hI
  go_enter Try.func42, Try.ntmps42
  go_wp2_with fail
  go_loopw [1, 5, 13] (fun s1 s5 i wr => ∃ (k : Nat) (v : Value) (p : Int), k ≤ n ∧ i = .int .i64 k ∧ v = s5 ∧ s1 = .int .i64 p ∧ Hid (p = docOf d (hs.take k)) ∧ Hid (Own8 wr w.heap.size 5 v (eBl d (hs.take k))) ∧ Hid (Below w.heap.size w wr)) (fun _ _ i _ => n - (intOf i).toNat)
  case atStart => exact ⟨0, _, d, Nat.zero_le _, rfl, rfl, rfl, rfl, Own8.nil _ _ _, Below.refl _ _⟩
  case round =>
    obtain ⟨k, v, p, hk, rfl, rfl, rfl, HP, HO, HB⟩ := hrel
    by_cases hlt : k < n
    · have hkx : k < hs.length := by rw [← hn.out]; exact hlt
      obtain ⟨b, o, rfl, hb, hc⟩ := HCS.out (by omega)
      obtain ⟨hd1, Ak, ck, hd2, hlk, hmk, hck⟩ := hc k hkx
      have hc1 := (HB.out.cell (p := ⟨b, o + k * 2, none⟩) hb).trans hd1
      have hc2 := (HB.out.cell (p := ⟨b, o + k * 2 + 1, none⟩) hb).trans hd2
      clear hd1 hd2
      have t3 := hr.out _ (List.getElem_mem hkx)
      have hT : Hid (eBl d (hs.take (k + 1)) = eBl d (hs.take k) ++ eHit p hs[k] ∧ docOf d (hs.take (k + 1)) = hs[k].1) := by
        rw [HP.out, List.take_succ_eq_append_getElem hkx, eBl_snoc]
        refine ⟨rfl, ?_⟩
        rw [docOf_eq, List.map_append]
        exact lastI_snoc _ _ _
      have hL := HLE.out (k + 1) (by omega)
      rw [hT.out.1] at hL
      obtain ⟨h, hh⟩ : ∃ h, h = hs[k] := ⟨_, rfl⟩
      rw [← hh] at hc1 hc2 hlk hck t3 hT hL
      obtain ⟨x, ps⟩ := h
      simp only at hc1 hc2 hlk hck t3
      obtain ⟨m, hm⟩ : ∃ m, m = ps.length := ⟨_, rfl⟩
      rw [← hm] at hc2 hlk t3
      have HM := Lib.hid hm
      obtain ⟨q, hq⟩ : ∃ q : Nat, q = df x p := ⟨_, rfl⟩
      have hqw : IntKind.u64.wrap (wrap64 (x - p)) = (q : Int) := by rw [hq]; exact df_wrap x p
      have hq1 : q < 18446744073709551616 := by rw [hq]; exact df_lt x p
      have HQ : Hid (df x p = q) := hq.symm
      have HL : Hid ((eBl d (hs.take k) ++ eHit p (x, ps)).length ≤ 400000) := hL
      unfold maxLen at hmk
      obtain ⟨S0, hS0⟩ : ∃ S0, S0 = wr.heap.size := ⟨_, rfl⟩
      have HS0 := Lib.hid hS0
      obtain ⟨W1, hW1⟩ : ∃ W, wr.alloc (.cells #[.int .i64 x, .slice Ak m ck] 37) = W := ⟨_, rfl⟩
      have hbA : Below wr.heap.size wr W1 := by rw [← hW1]; exact (Below.refl _ _).alloc (Nat.le_refl _) _
      have HPB : Hid (PB w W1 w.heap.size S0 (.int .i64 x) (.slice Ak m ck) v (eBl d (hs.take k))) := by
        rw [hS0]
        refine ⟨HO.out.below hbA, ?_, ?_, ?_, HB.out.trans (hbA.mono HB.out.size), HB.out.size, by rw [← hW1]; simp⟩
        · intro e
          obtain ⟨_, _, _, _, _, _, hob⟩ := HO.out.form
          have := (hob _ e).2
          omega
        · rw [← hW1]
          have z := new_cells wr #[.int .i64 x, .slice Ak m ck] 37 (0, 0) 0 _ rfl
          rwa [add_addr] at z
        · rw [← hW1]
          have z := new_cells wr #[.int .i64 x, .slice Ak m ck] 37 (0, 0) 1 _ rfl
          rwa [add_addr] at z
      have HCK := Lib.hid hck
      have hl0 : (eBl d (hs.take k)).length ≤ 400000 := HLE.out k (by omega)
      obtain ⟨L, hLd⟩ : ∃ L, L = eBl d (hs.take k) := ⟨_, rfl⟩
      rw [← hLd] at HPB hl0 hT HL
      have x0 := HPB.out.c0
      rw [hS0] at x0
      clear hc hh hm hck hL hbA HO hLd hq hS0
      go_wp2_with fail
      with_reducible refine (HPB.out.put q (by omega) (by omega)).mono ?_
      rintro e w2 ⟨v2, rfl, P2⟩
      have HP2 := Lib.hid P2
      have x1 := P2.c1
      rw [HS0.out] at x1
      have hl2 : (L ++ enc q).length ≤ 400010 := by have g := glen_le10 q (by omega); unfold glen at g; rw [List.length_append]; omega
      clear P2 x0
      go_wp2_with fail
      with_reducible refine (HP2.out.put m (by omega) (by omega)).mono ?_
      rintro e w3 ⟨v3, rfl, P3⟩
      have HP3 := Lib.hid P3
      have x0 := P3.c0
      rw [HS0.out] at x0
      clear P3 x1
      have x1 := HP3.out.c1
      rw [HS0.out] at x1
      go_wp2_with fail
      go_loopw [5, 8, 35] (fun s5 s8 i wr2 => ∃ (j : Nat) (v4 : Value) (p2 : Int), j ≤ m ∧ i = .int .i64 j ∧ v4 = s5 ∧ s8 = .int .i64 p2 ∧ Hid (p2 = lastI 0 (ps.take j)) ∧ Hid (PB w wr2 w.heap.size S0 (.int .i64 x) (.slice Ak m ck) v4 (L ++ enc q ++ enc m ++ eAt 0 (ps.take j)))) (fun _ _ i _ => m - (intOf i).toNat)
      case atStart => exact ⟨0, _, 0, Nat.zero_le _, rfl, rfl, rfl, rfl, by show PB _ _ _ _ _ _ _ _; simpa [eAt] using HP3.out⟩
      case round =>
        obtain ⟨j, v4, p2, hj, rfl, rfl, rfl, HP2', HPJ⟩ := hrel
        clear x0 x1
        by_cases hjt : j < m
        · have hjx : j < ps.length := by rw [← HM.out]; exact hjt
          obtain ⟨b2, o2, rfl, hb2, hcj⟩ := (HCK.out.below HPJ.out.bel) (by rw [List.length_map]; omega)
          have hcy := hcj j _ (eI_at ps j hjx)
          have HJ : Hid (eAt 0 (ps.take (j + 1)) = eAt 0 (ps.take j) ++ enc (df ps[j] p2) ∧ lastI 0 (ps.take (j + 1)) = ps[j]) := by
            rw [List.take_succ_eq_append_getElem hjx, eAt_snoc, lastI_snoc, HP2'.out]
            exact ⟨rfl, rfl⟩
          obtain ⟨y, hy⟩ : ∃ y, y = ps[j] := ⟨_, rfl⟩
          rw [← hy] at hcy HJ
          obtain ⟨q2, hq2⟩ : ∃ q2 : Nat, q2 = df y p2 := ⟨_, rfl⟩
          have hqw2 : IntKind.u64.wrap (wrap64 (y - p2)) = (q2 : Int) := by rw [hq2]; exact df_wrap y p2
          have hq21 : q2 < 18446744073709551616 := by rw [hq2]; exact df_lt y p2
          have HQ2 : Hid (df y p2 = q2) := hq2.symm
          have y1 := HPJ.out.c1
          have hlj : (L ++ enc q ++ enc m ++ eAt 0 (ps.take j)).length ≤ 1000000 := by
            have g1 := glen_le10 q (by omega)
            have g2 := glen_le10 m (by omega)
            unfold glen at g1 g2
            have g3 := eAt_le (ps.take j) 0
            rw [List.length_take] at g3
            simp only [List.length_append] at hl2 ⊢
            omega
          clear hcj hy hq2
          go_wp2_with fail
          with_reducible refine (HPJ.out.put q2 (by omega) (by omega)).mono ?_
          rintro e w5 ⟨v5, rfl, P5⟩
          have HP5 : Hid (PB w w5 w.heap.size S0 (.int .i64 x) (.slice (some ⟨b2, o2, none⟩) m ck) v5 (L ++ enc q ++ enc m ++ eAt 0 (ps.take (j + 1)))) := by
            show PB _ _ _ _ _ _ _ _
            rw [HJ.out.1, HQ2.out, ← List.append_assoc]
            exact P5
          clear P5 y1
          go_wp2_with fail
          exact ⟨⟨j + 1, v5, y, by omega, by go_num, rfl, rfl, by show _ = _; rw [HJ.out.2], HP5⟩, by simp [intOf]; omega⟩
        · have hjm : ps.take j = ps := List.take_of_length_le (by have := HM.out; omega)
          rw [hjm] at HPJ
          have HF : Hid (eBl d (hs.take (k + 1)) = L ++ enc q ++ enc m ++ eAt 0 ps) := by
            show _ = _
            rw [hT.out.1, eHit, HQ.out, ← HM.out]
            simp only [List.append_assoc]
          clear hjm
          go_wp2_with fail
          exact ⟨⟨k + 1, v4, x, by omega, by go_num, rfl, rfl, by show _ = _; rw [hT.out.2], by show Own8 _ _ _ _ _; rw [HF.out]; exact HPJ.out.own, HPJ.out.bel⟩, by simp [intOf]; omega⟩
    · have hke : hs.take k = hs := List.take_of_length_le (by have := hn.out; omega)
      rw [hke] at HO
      go_wp2_with fail
      go_ret
      exact ⟨v, rfl, HO.out, HB.out⟩
end Go.Proofs.Ytjigaoclngfcaaa
