/- next: the choice behind another one. -/
import Derived.Test.YtcgoeokocabelaaMaBk
namespace Go.Proofs.Ytcgoeokocabelaa
open Go.RowKit Go.Shelf
set_option maxRecDepth 100000

attribute [local go_sem] Oper.semAt_some

theorem nextL_none (of : Nat) : ∀ c : List Nat, (∀ j (h : j < c.length), c[j] + (c.length - j) = of) → nextL of c = none
  | [], _ => rfl
  | x :: t, h => by
    have ih := nextL_none of t fun j hj => by
      have := h (j + 1) (by simpa using hj)
      simp only [List.getElem_cons_succ, List.length_cons] at this
      omega
    have h0 := h 0 (by simp)
    simp only [List.getElem_cons_zero, List.length_cons] at h0
    simp only [nextL, ih]
    rw [if_pos (by omega)]
theorem nextL_some (of : Nat) : ∀ (c : List Nat) (i : Nat) (hi : i < c.length), (∀ j (h : j < c.length), i < j → c[j] + (c.length - j) = of) → c[i] + (c.length - i) ≠ of → nextL of c = some (c.take i ++ List.range' (c[i] + 1) (c.length - i))
  | [], _, hi, _, _ => absurd hi (Nat.not_lt_zero _)
  | x :: t, 0, _, h, hn => by
    have ih := nextL_none of t fun j hj => by
      have := h (j + 1) (by simpa using hj) (Nat.succ_pos _)
      simp only [List.getElem_cons_succ, List.length_cons] at this
      omega
    simp only [List.getElem_cons_zero, List.length_cons] at hn
    simp only [nextL, ih]
    rw [if_neg (by omega)]
    simp
  | x :: t, i + 1, hi, h, hn => by
    have ih := nextL_some of t i (by simpa using hi) (fun j hj hij => by
      have := h (j + 1) (by simpa using hj) (by omega)
      simp only [List.getElem_cons_succ, List.length_cons] at this
      omega) (by
      simp only [List.getElem_cons_succ, List.length_cons] at hn
      omega)
    simp only [nextL, ih]
    simp
/-- Stuck: it can't be chosen further behind. -/
def stk (of : Nat) (c : List Nat) (x : Fin c.length) : Prop := c[x.val] + (c.length - x.val) = of
theorem full_stk_none (of : Nat) (c : List Nat) (h : ∀ y ∈ full c.length, stk of c y) : nextL of c = none :=
  nextL_none of c fun j hj => h ⟨j, hj⟩ (by simp [full])
theorem full_stk_some (of : Nat) (c : List Nat) (pre : List (Fin c.length)) (x : Fin c.length) (hp : pre ++ [x] <+: full c.length) (h : ∀ y ∈ pre, stk of c y) (hx : ¬ stk of c x) : nextL of c = some (c.take x.val ++ List.range' (c[x.val] + 1) (c.length - x.val)) := by
  have hlen := hp.length_le
  rw [List.length_append, full_len, List.length_singleton] at hlen
  have hat : ∀ k (hk : k < (pre ++ [x]).length), (pre ++ [x])[k] = (full c.length)[k]'(Nat.lt_of_lt_of_le hk hp.length_le) := fun k hk => hp.getElem hk
  have hx0 := hat pre.length (by simp)
  rw [full_at _ _ (by omega)] at hx0
  have hxv : x.val = c.length - 1 - pre.length := by
    rw [List.getElem_append_right (Nat.le_refl _)] at hx0
    simp at hx0
    rw [hx0]
  refine nextL_some of c x.val x.isLt (fun j hj hij => ?_) hx
  have hk : c.length - 1 - j < pre.length := by omega
  have hj0 := hat (c.length - 1 - j) (by rw [List.length_append]; omega)
  rw [full_at _ _ (by omega), List.getElem_append_left hk] at hj0
  have := h _ (List.getElem_mem hk)
  rw [hj0] at this
  unfold stk at this
  simp only at this
  have e : c.length - 1 - (c.length - 1 - j) = j := by omega
  simp only [e] at this
  exact this
def NI (w : World) (s b of N cap : Nat) (c : List Nat) (r : Bool) (W : World) : Prop :=
  CH W b c ∧ (Boxed W s 45 (.slice (some ⟨b, 0, none⟩) N cap) ∧ Boxed W (s + 1) 3 (.int .i64 (of : Int))) ∧ (Boxed W (s + 1 + 1) 4 (.bool r) ∧ Boxed W (s + 1 + 1 + 1) 45 (.slice (some ⟨b, 0, none⟩) N cap)) ∧ w.grownBy W (some b)
theorem NI.own (w : World) (s b of N cap : Nat) (c : List Nat) (r : Bool) (B : Nat) (hB : w.heap.size ≤ B) {W W' : World} {row : Option Nat} (h : NI w s b of N cap c r W) (hg : W.grownBy W' row) (hr : ∀ r, row = some r → B ≤ r ∧ ∃ o : Obj, W.heap[r]? = some o ∧ o.isCells = false) : NI w s b of N cap c r W' := by
  have hr' : ∀ r, row = some r → ∃ o : Obj, W.heap[r]? = some o ∧ o.isCells = false := fun r e => (hr r e).2
  obtain ⟨h1, ⟨h2, h3⟩, ⟨h4, h5⟩, h6⟩ := h
  refine ⟨ch_own (β := Unit) b (fun _ => c) () W W' row h1 hg hr', ⟨own_boxN (β := Unit) _ _ (fun _ => _) () W W' row h2 hg hr', own_boxN (β := Unit) _ _ (fun _ => _) () W W' row h3 hg hr'⟩, ⟨own_boxN (β := Unit) _ _ (fun _ => _) () W W' row h4 hg hr', own_boxN (β := Unit) _ _ (fun _ => _) () W W' row h5 hg hr'⟩, ?_⟩
  obtain ⟨g1, g2, g3, g4, g5⟩ := h6
  obtain ⟨k1, k2, k3, k4, k5⟩ := hg
  refine ⟨k1.trans g1, k2.trans g2, k3.trans g3, Nat.le_trans g4 k4, fun k hk hne => (k5 k (by omega) (fun e => ?_)).trans (g5 k hk hne)⟩
  have := (hr k e.symm).1
  omega
theorem NI.store {w : World} {b of N cap : Nat} {c : List Nat} {r : Bool} {W : World} (h : NI w w.heap.size b of N cap c r W) (hb : b < w.heap.size) (j v : Nat) : NI w w.heap.size b of N cap (c.set j v) r (W.setCell ⟨b, j, none⟩ (.int .i64 (v : Int))) := by
  obtain ⟨h1, ⟨h2, h3⟩, ⟨h4, h5⟩, h6⟩ := h
  have ne : ∀ g : Nat, g ≠ b → (W.setCell ⟨b, j, none⟩ (.int .i64 (v : Int))).heap[g]? = W.heap[g]? := fun g hg => Below.heap_setCell _ _ _ _ hg
  exact ⟨h1.set j v, ⟨(ne _ (by omega)).trans h2, (ne _ (by omega)).trans h3⟩, ⟨(ne _ (by omega)).trans h4, (ne _ (by omega)).trans h5⟩, gb_set h6 _ (.inr rfl)⟩
theorem NI.yes {w : World} {b of N cap : Nat} {c : List Nat} {r : Bool} {W : World} (h : NI w w.heap.size b of N cap c r W) (hb : b < w.heap.size) : NI w w.heap.size b of N cap c true (W.setCell ⟨w.heap.size + 1 + 1, 0, none⟩ (.bool true)) := by
  obtain ⟨h1, ⟨h2, h3⟩, ⟨h4, h5⟩, h6⟩ := h
  have ne : ∀ g : Nat, g ≠ w.heap.size + 1 + 1 → (W.setCell ⟨w.heap.size + 1 + 1, 0, none⟩ (.bool true)).heap[g]? = W.heap[g]? := fun g hg => Below.heap_setCell _ _ _ _ hg
  exact ⟨h1.same (ne _ (by omega)), ⟨(ne _ (by omega)).trans h2, (ne _ (by omega)).trans h3⟩, ⟨h4.set _, (ne _ (by omega)).trans h5⟩, gb_set h6 _ (.inl (by show _ ≤ w.heap.size + 1 + 1; omega))⟩
theorem gb_put {w W : World} {row : Option Nat} (h : w.grownBy W row) {D : Nat} (o : Obj) (hp : w.heap.size ≤ D) : w.grownBy (W.putObj D o) row := by
  obtain ⟨g1, g2, g3, g4, g5⟩ := h
  obtain ⟨k1, k2, k3, k4, k5⟩ := grownBy_putObj' W D o
  exact ⟨k1.trans g1, k2.trans g2, k3.trans g3, Nat.le_trans g4 k4, fun k hk hne => (k5 k (by omega) (fun e => by injection e with e; omega)).trans (g5 k hk hne)⟩
def NextQ (w : World) (b of : Nat) (c : List Nat) (e : Ending) (w' : World) : Prop :=
  w.grownBy w' (some b) ∧ ((nextL of c = none ∧ e = .returned (.bool false) ∧ CH w' b c) ∨ ∃ c', nextL of c = some c' ∧ e = .returned (.bool true) ∧ CH w' b c')
/-- The new choice, as far as it is written. -/
def mid (c : List Nat) (x k : Nat) : List Nat := c.take x ++ List.range' (c.getD x 0 + 1) k ++ c.drop (x + k)
theorem mid_len (c : List Nat) (x k : Nat) (h : x + k ≤ c.length) : (mid c x k).length = c.length := by
  unfold mid
  rw [List.length_append, List.length_append, List.length_take, List.length_range', List.length_drop]
  omega
theorem mid_zero (c : List Nat) (x : Nat) : mid c x 0 = c := by
  unfold mid
  simp
theorem mid_set (c : List Nat) (x k : Nat) (h : x + k < c.length) : (mid c x k).set (x + k) (c.getD x 0 + 1 + k) = mid c x (k + 1) := by
  have h1 : (c.take x ++ List.range' (c.getD x 0 + 1) k).length = x + k := by
    rw [List.length_append, List.length_take, List.length_range']
    omega
  unfold mid
  rw [List.set_append_right _ _ (by rw [h1]; exact Nat.le_refl _), h1, Nat.sub_self, List.drop_eq_getElem_cons h, List.set_cons_zero, List.range'_1_concat]
  simp [Nat.add_assoc]
theorem mid_end (c : List Nat) (x : Nat) (h : x < c.length) : mid c x (c.length - x) = c.take x ++ List.range' (c[x] + 1) (c.length - x) := by
  unfold mid
  rw [List.drop_of_length_le (by omega), List.append_nil]
  congr 3
  rw [List.getD_eq_getElem?_getD, List.getElem?_eq_getElem h]
  rfl
set_option maxHeartbeats 4000000 in
theorem next_in (n : Nat) (hn : 3 ≤ n) (b N cap of : Nat) (c : List Nat) (HN : Hid (N = c.length)) (hN : N ≤ 1000) (hNc : N ≤ cap) (HV : Hid (∀ x ∈ c, x ≤ 1000)) (w : World) (hI : CH w b c) :
    CallsIn Fence.wide n Try.prog 108 #[.slice (some ⟨b, 0, none⟩) N cap, .int .i64 (of : Int)] w (NextQ w b of c) := by
  have h1n : 1 ≤ n := by omega
  refine callsIn_of_wp_marks Try.func108 rfl trivial ?_ rfl
  simp only [Try.ntmps108, List.size_toArray, List.length_cons, List.length_nil, Nat.reduceAdd, Nat.reduceSub, Array.replicate_succ, Array.replicate_zero, List.push_toArray, List.append_toArray, List.nil_append, List.cons_append]
  have hf3 : Fence.wide.fn 115 := trivial
  gi_wp2_with (gi_at_call 115; refine (back_in (n - 1) (some ⟨b, 0, none⟩) N cap _).mono ?_; rintro e w3 ⟨rfl, rfl⟩)
  obtain ⟨W3, hW3⟩ : ∃ W, (((w.alloc (.cells #[.slice (some ⟨b, 0, none⟩) N cap] 45)).alloc (.cells #[.int .i64 (of : Int)] 3)).alloc (.cells #[.bool false] 4)).alloc (.cells #[.slice (some ⟨b, 0, none⟩) N cap] 45) = W := ⟨_, rfl⟩
  have bW3 : Below w.heap.size w W3 := by rw [← hW3]; exact ((((Below.refl _ _).alloc (Nat.le_refl _) _).alloc (by simp) _).alloc (by simp; omega) _).alloc (by simp; omega) _
  have z3 : W3.heap.size = w.heap.size + 4 := by rw [← hW3]; simp
  have x0 : Boxed W3 w.heap.size 45 (.slice (some ⟨b, 0, none⟩) N cap) := by rw [← hW3]; exact ((Boxed.new w _ _).alloc _).alloc _ |>.alloc _
  have x1 : Boxed W3 (w.heap.size + 1) 3 (.int .i64 (of : Int)) := by
    rw [← hW3]
    have := ((Boxed.new (w.alloc (.cells #[.slice (some ⟨b, 0, none⟩) N cap] 45)) 3 (.int .i64 (of : Int))).alloc (.cells #[.bool false] 4)).alloc (.cells #[.slice (some ⟨b, 0, none⟩) N cap] 45)
    rwa [World.size_alloc] at this
  have x2 : Boxed W3 (w.heap.size + 1 + 1) 4 (.bool false) := by
    rw [← hW3]
    have := (Boxed.new ((w.alloc (.cells #[.slice (some ⟨b, 0, none⟩) N cap] 45)).alloc (.cells #[.int .i64 (of : Int)] 3)) 4 (.bool false)).alloc (.cells #[.slice (some ⟨b, 0, none⟩) N cap] 45)
    rwa [World.size_alloc, World.size_alloc] at this
  have x3 : Boxed W3 (w.heap.size + 1 + 1 + 1) 45 (.slice (some ⟨b, 0, none⟩) N cap) := by
    rw [← hW3]
    have := Boxed.new (((w.alloc (.cells #[.slice (some ⟨b, 0, none⟩) N cap] 45)).alloc (.cells #[.int .i64 (of : Int)] 3)).alloc (.cells #[.bool false] 4)) 45 (.slice (some ⟨b, 0, none⟩) N cap)
    rwa [World.size_alloc, World.size_alloc, World.size_alloc] at this
  have hbl := hI.lt
  have g3 : w.grownBy W3 (some b) := by
    obtain ⟨g1, g2, g3, g4, g5⟩ := bW3
    exact ⟨g1, g2, g3, g4, fun k hk _ => g5 k hk⟩
  have HE0 : Hid (NI w w.heap.size b of N cap c false W3) := ⟨hI.below bW3, ⟨x0, x1⟩, ⟨x2, x3⟩, g3⟩
  rw [hW3]
  refine wpIn_rangeFunc_ownG rfl h1n (gf := 127) (lb := #[.pointer (some ⟨w.heap.size + 1 + 1 + 1, 0, none⟩)]) rfl trivial (enters_of Try.func127 (by kernel_rfl) rfl)
    (back_stops (n - 1) (by omega) (w.heap.size + 1 + 1 + 1) b cap N c HN hN W3 x3 (hI.below bW3)) (fun h k => ⟨k.1.trans h.1, k.2.trans h.2⟩) (fun W l o o' hl h1 _ _ => ⟨World.putObj_heap_other (by omega), World.putObj_heap_other (by omega)⟩) (Below.refl _ _) (fun _ => rfl)
    (fun pre W => (∀ y ∈ pre, stk of c y) ∧ NI w w.heap.size b of N cap c false W)
    (fun cd pre W => cd = .ret ∧ ∃ pre' x, pre = pre' ++ [x] ∧ (∀ y ∈ pre', stk of c y) ∧ ¬ stk of c x ∧ NI w w.heap.size b of N cap (c.take x.val ++ List.range' (c[x.val] + 1) (c.length - x.val)) true W)
    (fun s A B row hs hg hr => ⟨hs.1, hs.2.own _ _ _ _ _ _ _ _ W3.heap.size bW3.size hg hr⟩)
    (fun cd s A B row hs hg hr => ⟨hs.1, by obtain ⟨pre', x, h1, h2, h3, h4⟩ := hs.2; exact ⟨pre', x, h1, h2, h3, h4.own _ _ _ _ _ _ _ _ W3.heap.size bW3.size hg hr⟩⟩)
    ⟨fun y hy => (by cases hy), HE0.out⟩
    (fun x => { tmps := #[.slice (some ⟨b, 0, none⟩) N cap, .int .i64 (of : Int), .pointer (some ⟨w.heap.size, 0, none⟩), .pointer (some ⟨w.heap.size + 1, 0, none⟩), .pointer (some ⟨w.heap.size + 1 + 1, 0, none⟩), .int .i64 ((x.val : Nat) : Int), .int .i64 (c[x.val] : Int), undef, .slice (some ⟨b, 0, none⟩) N cap, .func (.func 127) #[] #[.pointer (some ⟨w.heap.size + 1 + 1 + 1, 0, none⟩)], .int .i64 ((x.val : Nat) : Int), .int .i64 (c[x.val] : Int), undef, undef, undef, undef, undef, undef, undef, undef, undef, undef, undef, undef, undef, undef, undef, undef, undef, undef, undef, undef, undef, undef, undef, undef, undef], defers := [] }) ?assign ?body ?done ?stop
  case assign =>
    intro l x W K hK
    unfold encB
    gi_wp2
    exact hK
  case body =>
    rintro l pre x W ⟨hst, hNI⟩ hlt
    obtain ⟨hC, ⟨hb0, hb1⟩, ⟨hb2, hb3⟩, hg⟩ := id hNI
    have HNI := Lib.hid hNI
    have HST := Lib.hid hst
    have c0 := hb0.cell
    have c1 := hb1.cell
    have hxl := x.isLt
    have hxv : c[x.val] ≤ 1000 := HV.out _ (List.getElem_mem _)
    obtain ⟨m, hm⟩ : ∃ m, m = x.val := ⟨_, rfl⟩
    obtain ⟨a, ha⟩ : ∃ a, a = c[x.val] := ⟨_, rfl⟩
    have hSK : stk of c x ↔ a + (N - m) = of := by unfold stk; rw [← ha, ← hm, HN.out]
    rw [← ha] at hxv
    rw [← hm, ← HN.out] at hxl
    rw [← ha, ← hm]
    have hw1 : IntKind.i64.wrap ((a : Int) + (N : Int)) = ((a + N : Nat) : Int) := by rw [IntKind.wrap_i64]; omega
    have hw2 : IntKind.i64.wrap (((a + N : Nat) : Int) - (m : Int)) = ((a + (N - m) : Nat) : Int) := by rw [IntKind.wrap_i64]; omega
    have hM := Lib.hid hm
    have hA := Lib.hid ha
    obtain ⟨q, hq⟩ : ∃ q, a + (N - m) = q := ⟨_, rfl⟩
    obtain ⟨aN, haN⟩ : ∃ q, a + N = q := ⟨_, rfl⟩
    rw [hq] at hw2 hSK
    rw [haN] at hw1 hw2
    have HSK := Lib.hid hSK
    clear hm ha hSK hst hNI hC hb0 hb1 hb2 hb3 hg
    by_cases hs : q = of
    · have hqb : ((q : Int) == (of : Int)) = true := by rw [hs]; simp
      gi_wp2
      exact ⟨(KeepsOthers.refl _).from _, ⟨rfl, rfl⟩, fun y hy => (List.mem_append.1 hy).elim (HST.out y) (fun e => by rw [List.mem_singleton.1 e]; exact HSK.out.2 hs), HNI.out⟩
    · have hqb : ((q : Int) == (of : Int)) = false := beq_eq_false_iff_ne.2 (by omega)
      obtain ⟨L, hL⟩ : ∃ L, N - m = L := ⟨_, rfl⟩
      have HQ := Lib.hid (show ¬ stk of c x from fun h => hs (HSK.out.1 h))
      have HL : Hid (L = c.length - x.val) := by show _ = _; rw [← hL, HN.out, hM.out]
      have HM2 := Lib.hid (show m + L = N by omega)
      have HG0 : Hid (c.getD m 0 = a) := by
        show _ = _
        rw [hM.out, hA.out, List.getD_eq_getElem?_getD, List.getElem?_eq_getElem x.isLt]
        rfl
      gi_wp2
      clear hL hq haN hw1 hw2
      gi_loopw [24] (fun i wr => ∃ k : Nat, k ≤ L ∧ i = .int .i64 k ∧ NI w w.heap.size b of N cap (mid c m k) false wr ∧ KeepsOthers W wr) (fun i _ => L - (intOf i).toNat)
      case atStart => exact ⟨0, Nat.zero_le _, rfl, by rw [mid_zero]; exact HNI.out, KeepsOthers.refl _⟩
      case round =>
        obtain ⟨k, hk, rfl, hNI, hko⟩ := hrel
        obtain ⟨hC, ⟨hb0, hb1⟩, ⟨hb2, hb3⟩, hg⟩ := id hNI
        have HC := Lib.hid (And.intro hNI hko)
        by_cases hlk : k < L
        · have HLK := Lib.hid hlk
          have c0 := hb0.cell
          have hmk : m + k < (mid c m k).length := by rw [mid_len c m k (by rw [← HN.out]; have := HM2.out; omega), ← HN.out]; have := HM2.out; omega
          have e0 := hC.cell (m + k) hmk
          have f0 := hC.frozen (m + k)
          obtain ⟨old, hold⟩ : ∃ old, old = (mid c m k)[m + k] := ⟨_, rfl⟩
          rw [← hold] at e0
          have hw1 : IntKind.i64.wrap ((m : Int) + (k : Int)) = ((m + k : Nat) : Int) := by have := HM2.out; rw [IntKind.wrap_i64]; omega
          have hw2 : IntKind.i64.wrap ((a : Int) + 1) = ((a + 1 : Nat) : Int) := by rw [IntKind.wrap_i64]; omega
          have hw3 : IntKind.i64.wrap (((a + 1 : Nat) : Int) + (k : Int)) = ((a + 1 + k : Nat) : Int) := by have := HM2.out; rw [IntKind.wrap_i64]; omega
          have hw4 : IntKind.i64.wrap ((k : Int) + 1) = ((k + 1 : Nat) : Int) := by have := HM2.out; rw [IntKind.wrap_i64]; omega
          have hmN : m + k < N := by have := HM2.out; omega
          have HMC := Lib.hid hmk
          clear hmk hold hNI hko hC hb0 hb1 hb2 hb3 hg
          gi_wp2
          have hv : ((a : Int) + 1 + (k : Int)) = ((a + 1 + k : Nat) : Int) := by push_cast; rfl
          rw [hv]
          have hms := mid_set c m k (by rw [← HN.out]; exact hmN)
          rw [HG0.out] at hms
          exact ⟨⟨k + 1, HLK.out, by go_num, by rw [← hms]; exact HC.out.1.store hbl _ _, HC.out.2.trans (KeepsOthers.setCell _ _ _)⟩, by have := HLK.out; simp [intOf]; omega⟩
        · obtain rfl : L = k := by omega
          have hb2c := hb2.cell
          have hb2f := hb2.frozen
          have HF : Hid (mid c m L = c.take x.val ++ List.range' (c[x.val] + 1) (c.length - x.val)) := by show _ = _; rw [HL.out, hM.out]; exact mid_end c x.val x.isLt
          have HX := Lib.hid (HC.out.1.yes hbl)
          clear hNI hko hC hb0 hb1 hb2 hb3 hg
          gi_wp2
          exact ⟨(HC.out.2.trans (KeepsOthers.setCell _ _ _)).from _, rfl, pre, x, rfl, HST.out, HQ.out, by rw [← HF.out]; exact HX.out⟩
  case done =>
    rintro D ys W hD rfl ⟨hst, hC, ⟨_, _⟩, ⟨hb2, _⟩, hg⟩ hK
    have hc2 := hb2.cell
    have hc3 := hb2.frozen
    have hX := hb2.set (.bool false)
    have hK' := (KeepsOthers.setCell W ⟨w.heap.size + 1 + 1, 0, none⟩ (.bool false)).same D _ hK rfl
    have hC' : CH (W.setCell ⟨w.heap.size + 1 + 1, 0, none⟩ (.bool false)) b c := hC.same (Below.heap_setCell _ _ _ _ (by show b ≠ w.heap.size + 1 + 1; omega))
    have hg' : w.grownBy (W.setCell ⟨w.heap.size + 1 + 1, 0, none⟩ (.bool false)) (some b) := gb_set hg _ (.inl (by show _ ≤ w.heap.size + 1 + 1; omega))
    gi_wp2
    refine ⟨by simp, .inl ⟨_, _, rfl, run_takeDeferred hK', ?_⟩⟩
    have hc5 := (hX.kept (grownBy_putObj' _ D (.deferred none)) (by intro e; injection e with e; omega)).cell
    refine ⟨.bool false, by simp [results, Try.results108, go_sem, hc5], gb_put hg' _ (by omega), .inl ⟨full_stk_none of c hst, rfl, hC'.same (World.putObj_heap_other (by omega))⟩⟩
  case stop =>
    rintro D cd pre W hD hp ⟨rfl, pre', x, rfl, h1, h2, hC, _, ⟨hb2, _⟩, hg⟩ hK
    gi_wp2
    refine ⟨by simp, .inl ⟨_, _, rfl, run_takeDeferred hK, ?_⟩⟩
    have hc5 := (hb2.kept (grownBy_putObj' _ D (.deferred none)) (by intro e; injection e with e; omega)).cell
    refine ⟨.bool true, by simp [results, Try.results108, go_sem, hc5], gb_put hg _ (by omega), .inr ⟨_, full_stk_some of c pre' x hp h1 h2, rfl, hC.same (World.putObj_heap_other (by omega))⟩⟩
theorem next_any (b N cap of : Nat) (c : List Nat) (HN : Hid (N = c.length)) (hN : N ≤ 1000) (hNc : N ≤ cap) (HV : Hid (∀ x ∈ c, x ≤ 1000)) (w : World) (hI : CH w b c) :
    Calls Try.prog 108 #[.slice (some ⟨b, 0, none⟩) N cap, .int .i64 (of : Int)] w (NextQ w b of c) :=
  (callsIn_wide (n := 3)).1 (next_in 3 (Nat.le_refl _) b N cap of c HN hN hNc HV w hI)
end Go.Proofs.Ytcgoeokocabelaa
