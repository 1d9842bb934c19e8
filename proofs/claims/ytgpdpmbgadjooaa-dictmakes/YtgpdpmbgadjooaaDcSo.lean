/- The law's own sorted. -/
import Derived.Test.YtgpdpmbgadjooaaDcAp
namespace Go.Proofs.Ytgpdpmbgadjooaa
open Go.RowKit Go.Sort
set_option maxRecDepth 100000

def slen : Value → Nat | .slice _ n _ => n | _ => 0
/-- Behind the last one that was taken. -/
def okS (D : List B8) (j : Nat) (x : B8) : Prop := ∀ l, j ≠ 0 → D[j - 1]? = some l → l < x
/-- The least one so far of those behind the last one. -/
def bestS (D : List B8) (j : Nat) (ys : List B8) (any : Bool) (b : B8) : Prop :=
  if any then b ∈ ys ∧ okS D j b ∧ ∀ x ∈ ys, okS D j x → b ≤ x else ∀ x ∈ ys, ¬ okS D j x
theorem bestS_nil (D : List B8) (j : Nat) (b : B8) : bestS D j [] false b := fun x hx => by simp at hx
theorem bestS_skip {D ys : List B8} {j : Nat} {any : Bool} {b x : B8} (h : bestS D j ys any b) (hx : ¬ okS D j x) : bestS D j (ys ++ [x]) any b := by
  unfold bestS at *
  cases any with
  | true =>
    obtain ⟨h1, h2, h3⟩ := h
    refine ⟨List.mem_append_left _ h1, h2, fun y hy hk => ?_⟩
    rcases List.mem_append.1 hy with g | g
    · exact h3 y g hk
    · obtain rfl := List.mem_singleton.1 g; exact absurd hk hx
  | false =>
    intro y hy
    rcases List.mem_append.1 hy with g | g
    · exact h y g
    · obtain rfl := List.mem_singleton.1 g; exact hx
theorem bestS_take {D ys : List B8} {j : Nat} {any : Bool} {b x : B8} (h : bestS D j ys any b) (hx : okS D j x) (hb : any = true → x < b) : bestS D j (ys ++ [x]) true x := by
  unfold bestS at *
  rw [if_pos rfl]
  refine ⟨by simp, hx, fun y hy hk => ?_⟩
  rcases List.mem_append.1 hy with g | g
  · cases any with
    | true => exact le_of (lt_le (hb rfl) (h.2.2 y g hk))
    | false => exact absurd hk (h y g)
  · obtain rfl := List.mem_singleton.1 g; exact le_rf _
theorem bestS_keep {D ys : List B8} {j : Nat} {b x : B8} (h : bestS D j ys true b) (hb : ¬ x < b) : bestS D j (ys ++ [x]) true b := by
  unfold bestS at *
  rw [if_pos rfl] at *
  refine ⟨List.mem_append_left _ h.1, h.2.1, fun y hy hk => ?_⟩
  rcases List.mem_append.1 hy with g | g
  · exact h.2.2 y g hk
  · obtain rfl := List.mem_singleton.1 g; exact hb
/-- What the inner loop has found. -/
theorem bestS_end {xs D : List B8} (hD : dct xs = D) {j : Nat} (hj : j ≤ D.length) {any : Bool} {b : B8} (h : bestS D j xs any b) :
    (any = false → j = D.length) ∧ (any = true → D[j]? = some b) := by
  have hr : D.Pairwise (· < ·) := by rw [← hD]; exact dct_rises xs
  have hm : ∀ a, a ∈ D ↔ a ∈ xs := fun a => by rw [← hD]; exact dct_mem xs a
  have okj : ∀ i (hi : i < D.length), j ≤ i → okS D j D[i] := fun i hi hji l hj0 hl => by
    obtain ⟨h1, rfl⟩ := List.getElem?_eq_some_iff.1 hl
    exact rises_at hr _ _ (by omega) hi
  constructor
  · rintro rfl
    rcases Nat.lt_or_ge j D.length with k | k
    · exact absurd (okj j k (Nat.le_refl _)) (h _ ((hm _).1 (List.getElem_mem k)))
    · omega
  · rintro rfl
    obtain ⟨h1, h2, h3⟩ := h
    obtain ⟨i, hi, rfl⟩ := List.mem_iff_getElem.1 ((hm _).2 h1)
    have hji : j ≤ i := by
      rcases Nat.lt_or_ge i j with k | k
      · have hl : D[j - 1]? = some (D[j - 1]'(by omega)) := List.getElem?_eq_getElem _
        have := h2 _ (by omega) hl
        rcases Nat.lt_or_ge i (j - 1) with g | g
        · exact absurd (lt_tr (rises_at hr i (j - 1) g (by omega)) this) (lt_irr _)
        · obtain rfl : i = j - 1 := by omega
          exact absurd this (lt_irr _)
      · exact k
    have hij : i ≤ j := by
      rcases Nat.lt_or_ge j i with k | k
      · exact absurd (rises_at hr j i k hi) (h3 _ ((hm _).1 (List.getElem_mem (by omega))) (okj j (by omega) (Nat.le_refl _)))
      · exact k
    obtain rfl : i = j := by omega
    exact List.getElem?_eq_getElem hi
set_option maxHeartbeats 3000000 in
theorem lsorted_any (A : Option Addr) (n c : Nat) (xs D : List B8) (hn : Hid (n = xs.length ∧ dct xs = D)) (hn60 : n ≤ 60) (w : World) (hI : CS w w.heap.size A (xs.map encStr)) :
    Calls Try.prog 29 #[.slice A n c] w fun e w' => ∃ A2 m c2, e = .returned (.slice A2 m c2) ∧ DT w' A2 m c2 D ∧ Below w.heap.size w w' := by
  have HCS := Lib.hid hI
  have HDL : Hid (D.length ≤ 60) := by show _ ≤ _; have := dct_len xs; rw [hn.out.2] at this; have := hn.out.1; omega
  clear hI
  have bL : Below w.heap.size w (w.alloc (.cells #[] 9)) := (Below.refl _ _).alloc (Nat.le_refl _) _
  have HO0 := Lib.hid (own_lit w 9 1 (0, 0) rfl)
  have HBL := Lib.hid bL
  clear bL
  go_enter Try.func29, Try.ntmps29
  go_wp2_with fail
  go_loopw [3] (fun v wr => ∃ (j : Nat) (A3 : Option Addr) (c3 : Nat), j ≤ D.length ∧ v = .slice A3 j c3 ∧ Hid (wr.ownsRow w.heap.size 9 1 (.slice A3 j c3) j ((D.take j).map encStr)) ∧ Hid (Below w.heap.size w wr)) (fun v _ => D.length - slen v)
  case atStart => exact ⟨0, _, _, Nat.zero_le _, rfl, HO0, HBL⟩
  case round =>
    obtain ⟨j, A3, c3, hj, rfl, HO, HB⟩ := hrel
    obtain ⟨A3', c3', e3, k1, k2, k3, _⟩ := own_form HO.out
    injection e3 with e31 e32 e33
    subst e31 e33
    have HC3 := Lib.hid k3
    have HK12 := Lib.hid (And.intro k1 k2)
    have HXS := Lib.hid ((HCS.out.below HB.out).more HB.out.size)
    have hD60 := HDL.out
    clear k1 k2 k3
    unfold maxLen at *
    go_wp2_with fail
    go_loop [4, 5, 11] (fun s4 s5 i => ∃ (k : Nat) (any : Bool) (b : B8), k ≤ n ∧ i = .int .i64 k ∧ s5 = .bool any ∧ s4 = .string ⟨b.toArray⟩ ∧ Hid (bestS D j (xs.take k) any b)) (fun _ _ i => n - (intOf i).toNat)
    case atStart => exact ⟨0, false, [], Nat.zero_le _, rfl, rfl, rfl, bestS_nil D j []⟩
    case round =>
      obtain ⟨k, any, b, hk, rfl, rfl, rfl, HBS⟩ := hrel
      by_cases hlt : k < n
      · have hkx : k < xs.length := by rw [← hn.out.1]; exact hlt
        obtain ⟨bb, o, rfl, hbb, hc⟩ := HXS.out (by rw [List.length_map]; omega)
        obtain ⟨x, hx⟩ : ∃ x, x = xs[k] := ⟨_, rfl⟩
        have hcx : wr.cell? ⟨bb, o + k, none⟩ = some (.string ⟨x.toArray⟩) := by rw [hx]; exact hc k _ (enc_cells_at xs k hkx)
        have HTK : Hid (xs.take (k + 1) = xs.take k ++ [x]) := by show _ = _; rw [hx]; exact List.take_succ_eq_append_getElem hkx
        have hb1 := bytesLess_eq x b
        clear hx hc
        have fin : ∀ any2 b2, bestS D j (xs.take k ++ [x]) any2 b2 → Hid (bestS D j (xs.take (k + 1)) any2 b2) := fun any2 b2 h => by show bestS _ _ _ _ _; rw [HTK.out]; exact h
        have HFIN := Lib.hid fin
        clear fin
        rcases Nat.eq_zero_or_pos j with hj0 | hj0
        · subst hj0
          have hok : okS D 0 x := fun l h => absurd rfl h
          have HOK := Lib.hid hok
          clear hok
          cases any with
          | false =>
            have HN := Lib.hid (HFIN.out _ _ (bestS_take HBS.out HOK.out (fun h => by cases h)))
            go_wp2_with fail
            exact ⟨⟨k + 1, true, x, by omega, by go_num, rfl, rfl, HN.out⟩, by simp [intOf]; omega⟩
          | true =>
            by_cases hxb : x < b
            · rw [decide_eq_true hxb] at hb1
              have HN := Lib.hid (HFIN.out _ _ (bestS_take HBS.out HOK.out (fun _ => hxb)))
              go_wp2_with fail
              exact ⟨⟨k + 1, true, x, by omega, by go_num, rfl, rfl, HN.out⟩, by simp [intOf]; omega⟩
            · rw [decide_eq_false hxb] at hb1
              have HN := Lib.hid (HFIN.out _ _ (bestS_keep HBS.out hxb))
              go_wp2_with fail
              exact ⟨⟨k + 1, true, b, by omega, by go_num, rfl, rfl, HN.out⟩, by simp [intOf]; omega⟩
        · have hjl : j - 1 < D.length := by omega
          obtain ⟨b3, o3, rfl, hb3, hc3⟩ := HC3.out (by rw [List.length_map, List.length_take]; omega)
          obtain ⟨l, hl⟩ : ∃ l, l = D[j - 1] := ⟨_, rfl⟩
          have hcl : wr.cell? ⟨b3, o3 + (j - 1), none⟩ = some (.string ⟨l.toArray⟩) := hc3 (j - 1) _ (by rw [List.getElem?_map, List.getElem?_take_of_lt (by omega), List.getElem?_eq_getElem hjl, ← hl]; rfl)
          have HL1 : Hid (D[j - 1]? = some l) := by show _ = _; rw [hl]; exact List.getElem?_eq_getElem hjl
          have hj1 : ((j : Int) - 1) = ((j - 1 : Nat) : Int) := by omega
          have hjI : (0 : Int) < (j : Int) := by omega
          have hle := bytesLess_eq x l
          clear hl hc3
          by_cases hxl : l < x
          · have hok : okS D j x := fun l' _ h' => by have := HL1.out.symm.trans h'; injection this with this; rw [← this]; exact hxl
            have HOK := Lib.hid hok
            have hne : (x == l) = false := beq_eq_false_iff_ne.2 fun e => by subst e; exact lt_irr _ hxl
            rw [decide_eq_false (fun k => lt_irr _ (lt_tr hxl k))] at hle
            clear hok
            cases any with
            | false =>
              have HN := Lib.hid (HFIN.out _ _ (bestS_take HBS.out HOK.out (fun h => by cases h)))
              go_wp2_with fail
              exact ⟨⟨k + 1, true, x, by omega, by go_num, rfl, rfl, HN.out⟩, by simp [intOf]; omega⟩
            | true =>
              by_cases hxb : x < b
              · rw [decide_eq_true hxb] at hb1
                have HN := Lib.hid (HFIN.out _ _ (bestS_take HBS.out HOK.out (fun _ => hxb)))
                go_wp2_with fail
                exact ⟨⟨k + 1, true, x, by omega, by go_num, rfl, rfl, HN.out⟩, by simp [intOf]; omega⟩
              · rw [decide_eq_false hxb] at hb1
                have HN := Lib.hid (HFIN.out _ _ (bestS_keep HBS.out hxb))
                go_wp2_with fail
                exact ⟨⟨k + 1, true, b, by omega, by go_num, rfl, rfl, HN.out⟩, by simp [intOf]; omega⟩
          · have hok : ¬ okS D j x := fun h => hxl (h l (by omega) HL1.out)
            have HN := Lib.hid (HFIN.out _ _ (bestS_skip HBS.out hok))
            have hor : (Op.bytesLess x l || x == l) = true := by
              rw [hle]
              rcases le_cases (show x ≤ l from hxl) with g | g
              · rw [decide_eq_true g]; rfl
              · subst g; simp
            clear hok hle
            go_wp2_with fail
            exact ⟨⟨k + 1, any, b, by omega, by go_num, rfl, rfl, HN.out⟩, by simp [intOf]; omega⟩
      · have hkn : xs.take k = xs := List.take_of_length_le (by rw [← hn.out.1]; omega)
        rw [hkn] at HBS
        obtain ⟨q1, q2⟩ := bestS_end hn.out.2 hj HBS.out
        clear hkn
        cases any with
        | false =>
          have hjD := q1 rfl
          have HJD := Lib.hid hjD
          clear q1 q2 hjD
          go_wp2_with fail
          go_ret
          refine ⟨_, _, _, rfl, ⟨HJD.out, HK12.out.1, by unfold maxLen; exact HK12.out.2, by omega, ?_⟩, HB.out⟩
          have h := HC3.out
          rw [List.take_of_length_le (by rw [HJD.out]; exact Nat.le_refl _)] at h
          exact h
        | true =>
          have hb := q2 rfl
          obtain ⟨hjl, hbe⟩ := List.getElem?_eq_some_iff.1 hb
          have HTD : Hid (D.take j ++ [b] = D.take (j + 1)) := by show _ = _; rw [List.take_succ_eq_append_getElem hjl, hbe]
          have HLJ : Hid ((D.take j).length = j ∧ (D.take (j + 1)).length = j + 1) := ⟨by rw [List.length_take]; omega, by rw [List.length_take]; omega⟩
          have bA : Below wr.heap.size wr (wr.alloc (.cells #[.string ⟨b.toArray⟩] 9)) := (Below.refl _ _).alloc (Nat.le_refl _) _
          have HOA := Lib.hid (own_below HO.out bA)
          have HCA : Hid (CS (wr.alloc (.cells #[.string ⟨b.toArray⟩] 9)) (wr.heap.size + 1) (some ⟨wr.heap.size, 0, none⟩) (([b] : List B8).map encStr)) := fun _ => ⟨wr.heap.size, 0, rfl, by omega, fun q u hu => by
            have z := new_cells wr #[.string ⟨b.toArray⟩] 9 (0, 0) q u hu
            rwa [add_addr] at z⟩
          have HBA := Lib.hid (HB.out.trans (bA.mono HB.out.size))
          have hsA : w.heap.size ≤ (wr.alloc (.cells #[.string ⟨b.toArray⟩] 9)).heap.size := HBA.out.size
          clear q1 q2 hb hbe bA
          go_wp2_with (first
            | (at_builtin; refine wpList_appendS _ rfl (.tmp 40) (.tmp 42) rfl w.heap.size _ (D.take j) j HLJ.out.1 rfl HOA.out (some ⟨wr.heap.size, 0, none⟩) 1 1 _ [b] (D.take (j + 1)) (j + 1) rfl rfl HCA.out HTD.out HLJ.out.2 (by omega) hsA ?_; intro v4 w4 hown4 hg4; have HB4 := Lib.hid (own_grow HOA.out (Nat.le_refl _) HBA.out hsA hg4); have HO4 := Lib.hid hown4; obtain ⟨A5, c5, rfl, _, _, _, _⟩ := own_form hown4))
          exact ⟨⟨j + 1, A5, c5, hjl, rfl, HO4, HB4⟩, by simp [slen]; omega⟩
end Go.Proofs.Ytgpdpmbgadjooaa
