/- Lists of so many matches; Or, And, Not of them by how many there are. -/
import Derived.Test.YtcgoeokocabelaaMaHd
namespace Go.Proofs.Ytcgoeokocabelaa
open Go.RowKit
set_option maxRecDepth 100000

def spK (k : Nat) : List Sp := (List.range k).map fun (i : Nat) => ((i : Int), (i : Int), 0, 0)
theorem spK_len (k : Nat) : (spK k).length = k := by simp [spK]
theorem spK_succ (k : Nat) : spK (k + 1) = spK k ++ [((k : Int), (k : Int), 0, 0)] := by unfold spK; rw [List.range_succ, List.map_append]; rfl
set_option maxHeartbeats 2000000 in
theorem list_any (n : Nat) (hn : n ≤ 1000) (w : World) :
    Calls Try.prog 48 #[.int .i64 (n : Int)] w fun e w' => ∃ v zs, e = .returned v ∧ MK w w' v zs (ofL (spK n)) := by
  have bA : Below w.heap.size w (w.alloc (.cells #[] 38)) := (Below.refl _ _).alloc (Nat.le_refl _) _
  have HO : Hid ((w.alloc (.cells #[] 38)).ownsRow w.heap.size 38 4 (.slice (some ⟨w.heap.size, 0, none⟩) 0 0) 0 (spCs (spK 0))) := own_lit w _ 4 (0, 0) rfl
  have HB := Lib.hid bA
  clear bA
  go_enter Try.func48, Try.ntmps48
  go_wp2_with fail
  go_loopw [3, 4] (fun s3 i wr => ∃ (k : Nat) (v : Value), k ≤ n ∧ i = .int .i64 k ∧ v = s3 ∧ Hid (wr.ownsRow w.heap.size 38 4 v k (spCs (spK k))) ∧ Hid (Below w.heap.size w wr)) (fun _ i _ => n - (intOf i).toNat)
  case atStart => exact ⟨0, _, Nat.zero_le _, rfl, rfl, HO, HB⟩
  case round =>
    obtain ⟨k, v, hk, rfl, rfl, HQ, HQB⟩ := hrel
    by_cases hlt : k < n
    · have HLT := Lib.hid hlt
      obtain ⟨X, hX⟩ : ∃ X, wr.alloc (.cells #[.int .i64 (k : Int), .int .i64 (k : Int), .int .i64 0, .int .i64 0] 38) = X := ⟨_, rfl⟩
      have bX : Below wr.heap.size wr X := by rw [← hX]; exact (Below.refl _ _).alloc (Nat.le_refl _) _
      have HCN : Hid (CS X X.heap.size (some ⟨wr.heap.size, 0, none⟩) (spCs [((k : Int), (k : Int), 0, 0)])) := by
        have h := cells_new wr #[.int .i64 (k : Int), .int .i64 (k : Int), .int .i64 0, .int .i64 0] 38 X.heap.size (by rw [← hX]; simp)
        rw [hX] at h
        exact h
      have HX := Lib.hid hX
      have HOX := Lib.hid (own_below HQ.out bX)
      have HBX := Lib.hid (HQB.out.trans (bX.mono HQB.out.size))
      have hbs := HBX.out.size
      have wk : IntKind.i64.wrap ((k : Int) + 1) = (k : Int) + 1 := by rw [IntKind.wrap_i64]; omega
      clear hX bX
      go_wp2_with (at_builtin; go_loud (rw [HX.out]; refine wpList_appR elSp X rfl (.tmp 11) (.tmp 15) rfl w.heap.size v k (spCs (spK k)) rfl HOX.out (some ⟨wr.heap.size, 0, none⟩) 1 1 X.heap.size (spCs [((k : Int), (k : Int), 0, 0)]) rfl rfl (spCs_one _) HCN.out (k + 1) rfl (by omega) hbs ?_; intro v4 w4 hown4 hg4 _; rw [← spCs_app, ← spK_succ] at hown4; have H4 := Lib.hid (And.intro hown4 (own_grow HOX.out (Nat.le_refl _) HBX.out hbs hg4)); clear hown4 hg4))
      exact ⟨⟨k + 1, v4, HLT.out, by go_num, rfl, H4.out.1, H4.out.2⟩, by have := HLT.out; simp [intOf]; omega⟩
    · obtain rfl : k = n := by omega
      obtain ⟨A, c, rfl, _, _, hcs, _⟩ := own_form HQ.out
      have KO := Lib.hid (of_any A k c (spK k) (spK_len k).symm (by omega) wr hcs)
      clear hcs
      go_wp2_with fail
      with_reducible refine KO.out.mono ?_
      rintro e w5 ⟨v, zs, rfl, hmk⟩
      have HMK := Lib.hid (hmk.base HQB.out)
      clear hmk
      go_wp2_with fail
      go_ret
      exact ⟨_, _, rfl, HMK.out⟩
theorem ofL_small (l : List Sp) : smM (ofL l) := fun m hm => by
  obtain ⟨s, _, rfl⟩ := List.mem_map.1 hm
  exact ⟨by show 1 ≤ 20000; decide, by show 0 ≤ 20000; decide⟩
def CntQ (ok : Prop) (N0 : Nat) (w : World) (e : Ending) (w' : World) : Prop := ∃ (A : Option Addr) (N c : Nat) (er : Int), e = .returned (.tuple #[.slice A N c, .int .i64 er]) ∧ ((er = 0 ∧ N = N0 ∧ ok) ∨ (er = 23 ∧ N = 0 ∧ ¬ ok)) ∧ Below w.heap.size w w'
theorem or_k (A1 A2 : Option Addr) (n1 c1 n2 c2 : Nat) (ms ns : List Mt) (h1 : n1 = ms.length) (h2 : n2 = ns.length) (l1 : n1 ≤ 1000) (l2 : n2 ≤ 1000) (s1 : smM ms) (s2 : smM ns) (w : World) (k1 : MS w w.heap.size A1 ms) (k2 : MS w w.heap.size A2 ns) :
    Calls Try.prog 15 #[.slice A1 n1 c1, .slice A2 n2 c2] w (CntQ (n1 + n2 ≤ 400) (n1 + n2) w) := by
  by_cases h : n1 + n2 ≤ 400
  · refine (or_any A1 A2 n1 c1 n2 c2 ms ns ⟨h1, h2⟩ h (s1.app s2) w k1 k2).mono ?_
    rintro e w' ⟨v, zs, rfl, hmk⟩
    obtain ⟨A, c, rfl, _⟩ := hmk.out
    exact ⟨A, _, c, 0, rfl, .inl ⟨rfl, by rw [List.length_append, h1, h2], h⟩, hmk.kb⟩
  · refine (or_many A1 A2 n1 c1 n2 c2 (by omega) (by omega) (by omega) w).mono ?_
    rintro e w' ⟨rfl, hb⟩
    exact ⟨none, 0, 0, 23, rfl, .inr ⟨rfl, rfl, h⟩, hb⟩
theorem and_k (A1 A2 : Option Addr) (n1 c1 n2 c2 : Nat) (ms ns : List Mt) (h1 : n1 = ms.length) (h2 : n2 = ns.length) (l1 : n1 ≤ 1000) (s1 : smM ms) (s2 : smM ns) (w : World) (k1 : MS w w.heap.size A1 ms) (k2 : MS w w.heap.size A2 ns) :
    Calls Try.prog 16 #[.slice A1 n1 c1, .slice A2 n2 c2] w (CntQ (n1 * n2 ≤ 400) (n1 * n2) w) := by
  rcases Nat.eq_zero_or_pos n1 with h0 | h0
  · have e0 : n1 * n2 = 0 := by rw [h0, Nat.zero_mul]
    rw [e0]
    subst h0
    refine (and_none A1 A2 c1 n2 c2 w).mono ?_
    rintro e w' ⟨rfl, hb⟩
    exact ⟨none, 0, 0, 0, rfl, .inl ⟨rfl, rfl, Nat.zero_le _⟩, hb⟩
  by_cases h : n1 * n2 ≤ 400
  · refine (and_any A1 A2 n1 c1 n2 c2 ms ns ⟨h1, h2⟩ h0 h (by omega) ⟨s1, s2⟩ w k1 k2).mono ?_
    rintro e w' ⟨v, zs, rfl, hmk⟩
    obtain ⟨A, c, rfl, _⟩ := hmk.out
    exact ⟨A, _, c, 0, rfl, .inl ⟨rfl, by rw [andL_len, h1, h2], h⟩, hmk.kb⟩
  · refine (and_many A1 A2 n1 c1 n2 c2 h0 (by omega) (by omega) w).mono ?_
    rintro e w' ⟨rfl, hb⟩
    exact ⟨none, 0, 0, 23, rfl, .inr ⟨rfl, rfl, h⟩, hb⟩
def twoM (n m : Nat) : List Mt := [(List.replicate n (0, 0, 0, 0), []), (List.replicate m (0, 0, 0, 0), [])]
theorem not_k (A : Option Addr) (c n m : Nat) (hn : n ≤ 1000) (hm : m ≤ 1000) (w : World) (k : MS w w.heap.size A (twoM n m)) :
    Calls Try.prog 17 #[.slice A 2 c] w (CntQ (n ≤ 400 ∧ n * m ≤ 400) (n * m) w) := by
  have hw : waysF 1 (twoM n m) = if n ≤ 400 then (if n * m ≤ 400 then some (n * m) else none) else none := by
    unfold twoM waysF waysF waysF szM
    simp
  refine (not_any A 2 c (twoM n m) rfl (by decide) (fun x hx => ?_) w k).mono ?_
  · unfold twoM at hx
    simp only [List.mem_cons, List.not_mem_nil, or_false] at hx
    rcases hx with rfl | rfl
    · exact ⟨by simp; omega, by simp⟩
    · exact ⟨by simp; omega, by simp⟩
  · rintro e w' ⟨h1, h2, hb⟩
    by_cases a : n ≤ 400
    · by_cases b : n * m ≤ 400
      · rw [if_pos a, if_pos b] at hw
        obtain ⟨A', c', rfl, _⟩ := h2 _ hw
        exact ⟨A', _, c', 0, rfl, .inl ⟨rfl, rfl, a, b⟩, hb⟩
      · rw [if_pos a, if_neg b] at hw
        obtain rfl := h1 hw
        exact ⟨none, 0, 0, 23, rfl, .inr ⟨rfl, rfl, fun h => b h.2⟩, hb⟩
    · rw [if_neg a] at hw
      obtain rfl := h1 hw
      exact ⟨none, 0, 0, 23, rfl, .inr ⟨rfl, rfl, fun h => a h.1⟩, hb⟩
theorem make_S (n : Nat) (hn : n ≤ 1000000) (W : World) : (Instr.makeSlice 32 (.int .i64 (n : Int)) (.int .i64 (n : Int))).run Try.prog W = .ok (.slice (some ⟨W.heap.size, 0, none⟩) n n) (W.alloc (.cells (madeCells #[.int .i64 0, .int .i64 0, .int .i64 0, .int .i64 0] (n * 4)) 38)) := by
  obtain ⟨i0, hi0, hz0, hz1, hz2⟩ := info_parts infoSp
  have h := run_make (P := Try.prog) W 32 38 i0 _ Try.underlying32 hi0 hz0 .i64 .i64 (n : Int) (n : Int) (by omega) (by omega) (by rw [hz2]; omega) (by omega)
  rw [h, hz1]
  simp [Value.cells]
theorem made_S (W : World) (n : Nat) (B : Nat) (hB : W.heap.size < B) : CS (W.alloc (.cells (madeCells #[.int .i64 0, .int .i64 0, .int .i64 0, .int .i64 0] (n * 4)) 38)) B (some ⟨W.heap.size, 0, none⟩) (spCs (List.replicate n (0, 0, 0, 0))) := fun _ => ⟨W.heap.size, 0, rfl, hB, fun k u hu => by
  have hk : k < n * 4 := by
    have := (List.getElem?_eq_some_iff.1 hu).1
    rw [spCs_len, List.length_replicate] at this
    exact this
  have hu0 : u = .int .i64 0 := by
    obtain ⟨s, hs, h⟩ := List.mem_flatMap.1 (List.mem_of_getElem? hu)
    rw [(List.mem_replicate.1 hs).2] at h
    simpa [spC] using h
  rw [hu0, Nat.zero_add, World.cell?_alloc_mark]
  rcases (by omega : k % 4 = 0 ∨ k % 4 = 1 ∨ k % 4 = 2 ∨ k % 4 = 3) with e | e | e | e <;> simp [madeCells, hk, e]⟩
end Go.Proofs.Ytcgoeokocabelaa
