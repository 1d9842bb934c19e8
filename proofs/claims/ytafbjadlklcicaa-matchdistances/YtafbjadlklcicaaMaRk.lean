/- In which unit a place is: token.Rank, (Text).Rank; the law's up and rank. -/
import Derived.Test.YtafbjadlklcicaaMaSe
import Derived.Test.YtafbjadlklcicaaMaTo
import Derived.Deep.QuietTactic
import Derived.BigQuiet
import Derived.Shelf.Abstract
import Derived.Laws.EntriesVeiled
namespace Go.Proofs.Ytafbjadlklcicaa
open Go.RowKit Go.Shelf
set_option maxRecDepth 100000

abbrev iv (us : List Int) : List Value := us.map fun x => Value.int .i64 x
/-- How many are no greater. -/
def cntI (us : List Int) (x : Int) : Nat := us.countP fun u => decide (u ≤ x)
theorem cntI_split (us : List Int) (x : Int) (k : Nat) (hk : k ≤ us.length) (h1 : ∀ t (h : t < us.length), t < k → us[t] ≤ x) (h2 : ∀ t (h : t < us.length), k ≤ t → x < us[t]) : cntI us x = k := by
  unfold cntI
  rw [← List.take_append_drop k us, List.countP_append]
  have e1 : (us.take k).countP (fun u => decide (u ≤ x)) = (us.take k).length := by
    rw [List.countP_eq_length]
    intro u hu
    obtain ⟨t, ht, rfl⟩ := List.getElem_of_mem hu
    rw [List.length_take] at ht
    rw [List.getElem_take]
    exact decide_eq_true (h1 t (by omega) (by omega))
  have e2 : (us.drop k).countP (fun u => decide (u ≤ x)) = 0 := by
    rw [List.countP_eq_zero]
    intro u hu
    obtain ⟨t, ht, rfl⟩ := List.getElem_of_mem hu
    rw [List.length_drop] at ht
    rw [List.getElem_drop]
    have := h2 (k + t) (by omega) (by omega)
    simp
    omega
  rw [e1, e2, List.length_take]
  omega
theorem cntI_mono (us : List Int) {x y : Int} (h : x ≤ y) : cntI us x ≤ cntI us y := List.countP_mono_left fun u _ hu => by simp at *; omega
theorem cntI_le (us : List Int) (x : Int) : cntI us x ≤ us.length := List.countP_le_length
/-- The function that Rank hands to Search. -/
theorem rank1_any (i n b1 b2 b o c : Nat) (x u : Int) (hi : i < n) (W : World) (h1 : W.cell? ⟨b1, 0, none⟩ = some (.slice (some ⟨b, o, none⟩) n c)) (h2 : W.cell? ⟨b2, 0, none⟩ = some (.int .i64 x)) (h3 : W.cell? ⟨b, o + i, none⟩ = some (.int .i64 u)) :
    Calls Try.prog 76 #[.int .i64 i, .pointer (some ⟨b1, 0, none⟩), .pointer (some ⟨b2, 0, none⟩)] W fun e w' => e = .returned (.bool (decide (x < u))) ∧ Below W.heap.size W w' := by
  have hiI : (i : Int) < (n : Int) := by omega
  go_enter Try.func76, Try.ntmps76
  go_wp2_with fail
  go_quiet (fail)
  go_wp2_with fail
  go_ret
  exact ⟨rfl, below_drewN (Below.refl _ _) _⟩
set_option maxHeartbeats 1000000 in
theorem rk_any (us : List Int) (hr : us.Pairwise (· < ·)) (hn : us.length ≤ 1000) (A : Option Addr) (c : Nat) (x : Int) (w : World) (h3 : CS w w.heap.size A (iv us)) :
    Calls Try.prog 49 #[.slice A us.length c, .int .i64 x] w fun e w' => e = .returned (.int .i64 (cntI us x : Nat)) ∧ Below w.heap.size w w' := by
  obtain ⟨X, hX⟩ : ∃ X, (w.alloc (.cells #[.slice A us.length c] 35)).alloc (.cells #[.int .i64 x] 3) = X := ⟨_, rfl⟩
  have bX : Below w.heap.size w X := by rw [← hX]; exact ((Below.refl _ _).alloc (Nat.le_refl _) _).alloc (by simp) _
  have e1 : X.cell? ⟨w.heap.size, 0, none⟩ = some (.slice A us.length c) := by rw [← hX]; exact Lib.cell?_alloc_some _ (new_cells w #[.slice A us.length c] 35 (0, 0) 0 _ rfl)
  have e2 : X.cell? ⟨w.heap.size + 1, 0, none⟩ = some (.int .i64 x) := by
    rw [← hX]
    have h := new_cells (w.alloc (.cells #[.slice A us.length c] 35)) #[.int .i64 x] 3 (0, 0) 0 _ rfl
    rw [add_addr] at h
    simp only [World.size_alloc, Nat.zero_add] at h
    exact h
  have HC : Hid (∀ W, Below X.heap.size X W → ∀ i, i < us.length → Calls Try.prog 76 #[.int .i64 (i : Int), .pointer (some ⟨w.heap.size, 0, none⟩), .pointer (some ⟨w.heap.size + 1, 0, none⟩)] W fun e w' => e = .returned (.bool (decide (x < us.getD i 0))) ∧ Below W.heap.size W w') := fun W hW i hi => by
    obtain ⟨b, o, hA, hbB, hcell⟩ := h3 (by rw [List.length_map]; omega)
    have hcu := hcell i (.int .i64 (us.getD i 0)) (by rw [List.getElem?_map, List.getElem?_eq_getElem hi, List.getD_eq_getElem?_getD, List.getElem?_eq_getElem hi]; rfl)
    have hcX := (bX.cell (p := ⟨b, o + i, none⟩) hbB).trans hcu
    rw [hA] at e1
    exact rank1_any i us.length _ _ b o c x _ hi W ((hW.cell (World.block_lt_of_cell? X _ e1)).trans e1) ((hW.cell (World.block_lt_of_cell? X _ e2)).trans e2) ((hW.cell (World.block_lt_of_cell? X _ hcX)).trans hcX)
  have hr' := List.pairwise_iff_getElem.1 hr
  have hg : ∀ i (h : i < us.length), us.getD i 0 = us[i] := fun i h => by rw [List.getD_eq_getElem?_getD, List.getElem?_eq_getElem h]; rfl
  have HS := Lib.hid (sortSearch_any 76 #[.pointer (some ⟨w.heap.size, 0, none⟩), .pointer (some ⟨w.heap.size + 1, 0, none⟩)] (fun i => decide (x < us.getD i 0)) us.length (by omega) X ⟨enters_of Try.func76 (by kernel_rfl) rfl, HC.out⟩ fun i j hij hj h => by
    rcases Nat.lt_or_ge i j with h' | h'
    · have := hr' i j (by omega) hj h'
      rw [hg i (by omega)] at h
      rw [hg j hj]
      simp only [decide_eq_true_eq] at *
      omega
    · rw [show j = i by omega]; exact h)
  have HE : Hid (∀ r : Nat, r ≤ us.length → (∀ t, t < r → decide (x < us.getD t 0) = false) → (∀ t, r ≤ t → t < us.length → decide (x < us.getD t 0) = true) → cntI us x = r) := fun r h1 h2 h3 => cntI_split us x r h1 (fun t h h' => by have := h2 t h'; rw [hg t h] at this; simp only [decide_eq_false_iff_not] at this; omega) fun t h h' => by have := h3 t h' h; rw [hg t h] at this; simpa using this
  have HX := Lib.hid hX
  have HB := Lib.hid bX
  obtain ⟨n, hnn⟩ : ∃ n, n = us.length := ⟨_, rfl⟩
  rw [← hnn] at HS HX e1 HE ⊢
  clear hX bX h3 hr hr' hg HC hn hnn
  go_enter Try.func49, Try.ntmps49
  go_upto_region 1 with fail
  rw [HX.out]
  go_wp2_with fail
  with_reducible refine HS.out.mono ?_
  rintro e w2 ⟨r, rfl, h1, h2, h3, hb⟩
  have HR := Lib.hid (HE.out r h1 h2 h3)
  have HB2 := Lib.hid (HB.out.trans (hb.mono HB.out.size))
  clear h1 h2 h3 hb HS e1 e2
  go_wp2_with fail
  go_ret
  exact ⟨by rw [HR.out]; rfl, HB2.out⟩
/-- In which unit a place is. -/
def rkL (u : Int) (ss ps : List Int) (x : Int) : Int := if u = 0 then x else if u = 1 then (cntI ss x : Int) else (cntI ps x : Int)
theorem rkL_mono (u : Int) (ss ps : List Int) {x y : Int} (h : x ≤ y) : rkL u ss ps x ≤ rkL u ss ps y := by
  unfold rkL
  by_cases h0 : u = 0
  · rw [if_pos h0, if_pos h0]; exact h
  · rw [if_neg h0, if_neg h0]
    by_cases h1 : u = 1
    · rw [if_pos h1, if_pos h1]; have := cntI_mono ss h; omega
    · rw [if_neg h1, if_neg h1]; have := cntI_mono ps h; omega
/-- A text's sentences and paragraphs in memory. -/
structure Tx (w : World) (A1 : Option Addr) (n1 c1 : Nat) (A2 : Option Addr) (n2 c2 : Nat) (ss ps : List Int) : Prop where
  l1 : n1 = ss.length
  l2 : n2 = ps.length
  b1 : n1 ≤ 1000
  b2 : n2 ≤ 1000
  r1 : ss.Pairwise (· < ·)
  r2 : ps.Pairwise (· < ·)
  s1 : CS w w.heap.size A1 (iv ss)
  s2 : CS w w.heap.size A2 (iv ps)
theorem Tx.up {w w' : World} {A1 : Option Addr} {n1 c1 : Nat} {A2 : Option Addr} {n2 c2 : Nat} {ss ps : List Int} (h : Tx w A1 n1 c1 A2 n2 c2 ss ps) (hb : Below w.heap.size w w') : Tx w' A1 n1 c1 A2 n2 c2 ss ps :=
  ⟨h.l1, h.l2, h.b1, h.b2, h.r1, h.r2, (h.s1.below hb).more hb.size, (h.s2.below hb).more hb.size⟩
abbrev txV (f t : Int) (A1 : Option Addr) (n1 c1 : Nat) (A2 : Option Addr) (n2 c2 : Nat) : Value := .agg #[.int .i64 f, .int .i64 t, .slice A1 n1 c1, .slice A2 n2 c2]
set_option maxHeartbeats 1000000 in
theorem trank_any (f t u x : Int) (A1 : Option Addr) (n1 c1 : Nat) (A2 : Option Addr) (n2 c2 : Nat) (ss ps : List Int) (hu : u = 0 ∨ u = 1 ∨ u = 2) (w : World) (h : Tx w A1 n1 c1 A2 n2 c2 ss ps) :
    Calls Try.prog 24 #[txV f t A1 n1 c1 A2 n2 c2, .int .i64 u, .int .i64 x] w fun e w' => e = .returned (.int .i64 (rkL u ss ps x)) ∧ Below w.heap.size w w' := by
  obtain ⟨X, hX⟩ : ∃ X, w.alloc (.cells #[.int .i64 f, .int .i64 t, .slice A1 n1 c1, .slice A2 n2 c2] 38) = X := ⟨_, rfl⟩
  have bX : Below w.heap.size w X := by rw [← hX]; exact (Below.refl _ _).alloc (Nat.le_refl _) _
  have h' := h.up bX
  have K1 : Hid (Calls Try.prog 49 #[.slice A1 n1 c1, .int .i64 x] X fun e w' => e = .returned (.int .i64 (cntI ss x : Nat)) ∧ Below X.heap.size X w') := by rw [h'.l1]; exact rk_any ss h'.r1 (by rw [← h'.l1]; exact h'.b1) A1 c1 x X h'.s1
  have K2 : Hid (Calls Try.prog 49 #[.slice A2 n2 c2, .int .i64 x] X fun e w' => e = .returned (.int .i64 (cntI ps x : Nat)) ∧ Below X.heap.size X w') := by rw [h'.l2]; exact rk_any ps h'.r2 (by rw [← h'.l2]; exact h'.b2) A2 c2 x X h'.s2
  have HX := Lib.hid hX
  have HB := Lib.hid bX
  clear hX bX h h'
  unfold txV rkL
  go_enter Try.func24, Try.ntmps24
  rcases hu with rfl | rfl | rfl
  · go_wp2_with fail
    go_ret
    exact ⟨rfl, by rw [HX.out]; exact HB.out⟩
  · go_wp2_with fail
    rw [HX.out]
    with_reducible refine K1.out.mono ?_
    rintro e w2 ⟨rfl, hb⟩
    have HB2 := Lib.hid (HB.out.trans (hb.mono HB.out.size))
    clear hb K1 K2
    go_wp2_with fail
    go_ret
    exact ⟨rfl, HB2.out⟩
  · go_wp2_with fail
    rw [HX.out]
    with_reducible refine K2.out.mono ?_
    rintro e w2 ⟨rfl, hb⟩
    have HB2 := Lib.hid (HB.out.trans (hb.mono HB.out.size))
    clear hb K1 K2
    go_wp2_with fail
    go_ret
    exact ⟨rfl, HB2.out⟩
end Go.Proofs.Ytafbjadlklcicaa
