/- Len, Word, Find, Prefix of package dict. -/
import Derived.Test.YtjeccmmhmdgdgaaGreatDoorDcMk2
import Derived.Deep.QuietTactic
import Derived.BigQuiet
namespace Go.Proofs.YtjeccmmhmdgdgaaGreatDoor.Dc
open Go.RowKit Go.Sort
set_option maxRecDepth 100000

theorem str_lt (a b : B8) : Op.bytesLess (⟨a.toArray⟩ : ByteArray).toList (⟨b.toArray⟩ : ByteArray).toList = decide (a < b) := by
  rw [ByteArray.toList_eq, ByteArray.toList_eq]; exact bytesLess_eq a b
theorem str_eq (a b : B8) : ((⟨a.toArray⟩ : ByteArray).toList == (⟨b.toArray⟩ : ByteArray).toList) = decide (a = b) := by
  rw [ByteArray.toList_eq, ByteArray.toList_eq]
  by_cases h : a = b
  · subst h; simp
  · rw [decide_eq_false h]; exact beq_eq_false_iff_ne.2 h
theorem nan_c (s : ByteArray) (w : World) : Calls Tryz.prog 86 #[.string s] w fun e w' => e = .returned (.bool false) ∧ w' = w := by
  go_enter Tryz.func86, Tryz.ntmps86
  go_wp2_with fail
  go_ret
  exact ⟨rfl, rfl⟩
theorem nan_s (s : ByteArray) (w : World) : Calls Tryz.prog 64 #[.string s] w fun e w' => e = .returned (.bool false) ∧ w' = w := by
  go_enter Tryz.func64, Tryz.ntmps64
  go_wp2_with fail
  go_ret
  exact ⟨rfl, rfl⟩
theorem less_any (a b : B8) (w : World) : Calls Tryz.prog 63 #[.string ⟨a.toArray⟩, .string ⟨b.toArray⟩] w fun e w' => e = .returned (.bool (decide (a < b))) ∧ w' = w := by
  go_enter Tryz.func63, Tryz.ntmps63
  go_wp2_with fail
  with_reducible refine (nan_c _ _).mono ?_
  rintro e w1 ⟨rfl, rfl⟩
  go_wp2_with fail
  go_ret
  exact ⟨by rw [← bytesLess_eq]; rfl, rfl⟩
/-- A dictionary's slice. -/
structure DT (w : World) (A : Option Addr) (n c : Nat) (ws : List B8) : Prop where
  len : n = ws.length
  cap : n ≤ c
  max : c ≤ maxLen
  few : n ≤ 1000
  cs : CS w w.heap.size A (ws.map encStr)
theorem DT.keep {w w' : World} {A : Option Addr} {n c : Nat} {ws : List B8} (h : DT w A n c ws) (hb : Below w.heap.size w w') : DT w' A n c ws := ⟨h.len, h.cap, h.max, h.few, (h.cs.below hb).more hb.size⟩
theorem DT.at {w : World} {A : Option Addr} {n c : Nat} {ws : List B8} (h : DT w A n c ws) (k : Nat) (hk : k < ws.length) : ∃ b o, A = some ⟨b, o, none⟩ ∧ b < w.heap.size ∧ w.cell? ⟨b, o + k, none⟩ = some (.string ⟨(ws[k]).toArray⟩) := by
  obtain ⟨b, o, e, hb, hc⟩ := h.cs (by rw [List.length_map]; omega)
  exact ⟨b, o, e, hb, hc k _ (enc_cells_at ws k hk)⟩
set_option maxHeartbeats 1000000 in
theorem len_any (A : Option Addr) (n c : Nat) (w : World) : Calls Tryz.prog 9 #[.agg #[.slice A n c]] w fun e w' => e = .returned (.int .i64 n) ∧ Below w.heap.size w w' := by
  have b0 := (Below.refl w.heap.size w).alloc (Nat.le_refl _) (.cells #[.slice A n c] 34)
  go_enter Tryz.func9, Tryz.ntmps9
  go_wp2_with fail
  go_ret
  exact ⟨rfl, b0⟩
set_option maxHeartbeats 1000000 in
theorem word_in (A : Option Addr) (n c : Nat) (ws : List B8) (w : World) (h : DT w A n c ws) (k : Nat) (hk : k < ws.length) : Calls Tryz.prog 11 #[.agg #[.slice A n c], .int .i64 k] w fun e w' => e = .returned (.string ⟨(ws[k]).toArray⟩) ∧ Below w.heap.size w w' := by
  obtain ⟨b, o, rfl, hb, hc⟩ := h.at k hk
  have hkn : k < n := by rw [h.len]; exact hk
  have hn := h.few
  have b0 := (Below.refl w.heap.size w).alloc (Nat.le_refl _) (.cells #[.slice (some ⟨b, o, none⟩) n c] 34)
  have hc' := (b0.cell (p := ⟨b, o + k, none⟩) hb).trans hc
  obtain ⟨x, hx⟩ : ∃ x : ByteArray, x = ⟨(ws[k]).toArray⟩ := ⟨_, rfl⟩
  rw [← hx] at hc' ⊢
  clear h hx hc
  go_enter Tryz.func11, Tryz.ntmps11
  go_wp2_with fail
  go_ret
  exact ⟨rfl, b0⟩
set_option maxHeartbeats 1000000 in
theorem word_out (A : Option Addr) (n c : Nat) (i : Int) (hi : i < 0 ∨ (0 ≤ i ∧ (n : Int) ≤ i)) (w : World) : Calls Tryz.prog 11 #[.agg #[.slice A n c], .int .i64 i] w fun e w' => e = .returned (.string ⟨#[]⟩) ∧ Below w.heap.size w w' := by
  have b0 := (Below.refl w.heap.size w).alloc (Nat.le_refl _) (.cells #[.slice A n c] 34)
  rcases hi with h | ⟨h, h2⟩
  all_goals
    go_enter Tryz.func11, Tryz.ntmps11
    go_wp2_with fail
    go_ret
    exact ⟨rfl, b0⟩
set_option maxHeartbeats 4000000 in
theorem bs_any (A : Option Addr) (n c : Nat) (ws : List B8) (hr : ws.Pairwise (· < ·)) (x : B8) (w : World) (h : DT w A n c ws) :
    Calls Tryz.prog 42 #[.slice A n c, .string ⟨x.toArray⟩] w fun e w' => e = .returned (.tuple #[.int .i64 (cnt ws x : Nat), .bool (decide (x ∈ ws))]) ∧ Below w.heap.size w w' := by
  have HR := Lib.hid hr
  have HD := Lib.hid h
  have hn := h.few
  have HL := Lib.hid h.len
  clear hr h
  go_enter Tryz.func42, Tryz.ntmps42
  go_wp2_with fail
  go_loopg [7, 8] n (fun kx s5 s6 wr => ∃ (lo hi : Nat), s5 = .int .i64 lo ∧ s6 = .int .i64 hi ∧ lo ≤ hi ∧ hi ≤ n ∧ hi - lo ≤ kx ∧ w = wr ∧
    Hid ((∀ (t : Nat) (ht : t < ws.length), t < lo → ws[t] < x) ∧ (∀ (t : Nat) (ht : t < ws.length), hi ≤ t → ¬ ws[t] < x)))
  case atStart => exact ⟨0, n, rfl, rfl, Nat.zero_le _, Nat.le_refl _, by omega, rfl, fun t _ h => absurd h (Nat.not_lt_zero _), fun t ht h => by have := HL.out; omega⟩
  case round =>
    obtain ⟨lo, hi, rfl, rfl, hlh, hin, hg, rfl, HI⟩ := hrel
    by_cases hlt : lo < hi
    · have hm : (lo + hi) / 2 < ws.length := by rw [← HL.out]; omega
      obtain ⟨b, o, rfl, hb, hc⟩ := HD.out.at ((lo + hi) / 2) hm
      obtain ⟨u, hu⟩ : ∃ u, u = ws[(lo + hi) / 2] := ⟨_, rfl⟩
      rw [← hu] at hc
      have HU : Hid (ws[(lo + hi) / 2] = u) := hu.symm
      have hmn : (lo + hi) / 2 < n := by omega
      obtain ⟨md, hmd⟩ : ∃ md, md = (lo + hi) / 2 := ⟨_, rfl⟩
      have hmi : ((lo : Int) + (hi : Int)) / 2 = (md : Int) := by omega
      rw [← hmd] at hc
      have HMD := Lib.hid hmd
      have hml : lo ≤ md := by omega
      have hmh : md < hi := by omega
      clear hu hmd
      by_cases hx : u < x
      · have HL1 := Lib.hid (less_any u x)
        rw [decide_eq_true hx] at HL1
        go_wp2_with (go_at_call 63; refine (HL1.out _).mono ?_; rintro e w2 ⟨rfl, rfl⟩)
        go_roundg (hi - (md + 1))
        case measure => omega
        case rel => exact ⟨md + 1, hi, by go_num, rfl, by omega, hin, Nat.le_refl _, rfl, fun t ht h => by
          have e := HMD.out
          rcases Nat.lt_or_ge t ((lo + hi) / 2) with h | h
          · exact lt_tr (rises_at HR.out t _ h hm) (by rw [HU.out]; exact hx)
          · obtain rfl : t = (lo + hi) / 2 := by omega
            rw [HU.out]; exact hx, HI.out.2⟩
      · have HL1 := Lib.hid (less_any u x)
        rw [decide_eq_false hx] at HL1
        go_wp2_with (go_at_call 63; refine (HL1.out _).mono ?_; rintro e w2 ⟨rfl, rfl⟩)
        go_roundg (md - lo)
        case measure => omega
        case rel => exact ⟨lo, md, rfl, rfl, by omega, by omega, Nat.le_refl _, rfl, HI.out.1, fun t ht h => by
          have e := HMD.out
          rcases Nat.lt_or_ge ((lo + hi) / 2) t with h | h
          · exact fun k => hx (by rw [← HU.out]; exact lt_tr (rises_at HR.out _ t h ht) k)
          · obtain rfl : t = (lo + hi) / 2 := by omega
            rw [HU.out]; exact hx⟩
    · obtain rfl : hi = lo := by omega
      have HE : Hid (cnt ws x = hi) := cnt_eq ws x hi (by rw [← HL.out]; exact hin) HI.out.1 HI.out.2
      by_cases hlt2 : hi < n
      · have hm : hi < ws.length := by rw [← HL.out]; exact hlt2
        obtain ⟨b, o, rfl, hb, hc⟩ := HD.out.at hi hm
        obtain ⟨u, hu⟩ : ∃ u, u = ws[hi] := ⟨_, rfl⟩
        rw [← hu] at hc
        have HF : Hid (decide (x ∈ ws) = decide (u = x)) := by
          refine decide_eq_decide.2 ((found_iff HR.out x).trans ?_)
          have e := HE.out
          constructor
          · rintro ⟨h1, h2⟩
            simp only [e] at h2
            rw [hu]; exact h2
          · intro h2
            refine ⟨by omega, ?_⟩
            simp only [e]
            rw [← hu]; exact h2
        clear hu
        by_cases hux : u = x
        · have hq : (u == x) = true := by rw [hux]; simp
          rw [decide_eq_true hux] at HF
          go_wp2_with fail
          go_ret2
          exact ⟨by rw [HE.out, HF.out]; rfl, Below.refl _ _⟩
        · have hq : (u == x) = false := beq_eq_false_iff_ne.2 hux
          rw [decide_eq_false hux] at HF
          go_wp2_with (go_at_call 64; refine (nan_s _ _).mono ?_; rintro e w2 ⟨rfl, rfl⟩)
          go_ret2
          exact ⟨by rw [HE.out, HF.out]; rfl, Below.refl _ _⟩
      · have HF : Hid (decide (x ∈ ws) = false) := by
          refine decide_eq_false fun h => ?_
          obtain ⟨h1, _⟩ := (found_iff HR.out x).1 h
          have := HE.out; have := HL.out
          omega
        go_wp2_with fail
        go_ret2
        exact ⟨by rw [HE.out, HF.out]; rfl, Below.refl _ _⟩
set_option maxHeartbeats 1000000 in
theorem find_any (A : Option Addr) (n c : Nat) (ws : List B8) (hr : ws.Pairwise (· < ·)) (x : B8) (w : World) (h : DT w A n c ws) :
    Calls Tryz.prog 24 #[.agg #[.slice A n c], .string ⟨x.toArray⟩] w fun e w' => e = .returned (.tuple #[.int .i64 (cnt ws x : Nat), .bool (decide (x ∈ ws))]) ∧ Below w.heap.size w w' := by
  have b0 := (Below.refl w.heap.size w).alloc (Nat.le_refl _) (.cells #[.slice A n c] 34)
  have HBS := Lib.hid (bs_any A n c ws hr x _ (h.keep b0))
  obtain ⟨q, hq⟩ : ∃ q, decide (x ∈ ws) = q := ⟨_, rfl⟩
  rw [hq] at HBS ⊢
  obtain ⟨m, hm⟩ : ∃ m, cnt ws x = m := ⟨_, rfl⟩
  rw [hm] at HBS ⊢
  clear h hr hq hm
  go_enter Tryz.func24, Tryz.ntmps24
  go_wp2_with fail
  with_reducible refine HBS.out.mono ?_
  rintro e w1 ⟨rfl, b1⟩
  have b2 := b0.trans (b1.mono b0.size)
  go_wp2_with fail
  go_ret2
  exact ⟨rfl, b2⟩
end Go.Proofs.YtjeccmmhmdgdgaaGreatDoor.Dc
