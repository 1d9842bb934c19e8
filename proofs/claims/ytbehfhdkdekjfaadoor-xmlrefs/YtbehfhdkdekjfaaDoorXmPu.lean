/- strconv.ParseUint to the bases 10 and 16, of 31 bits. -/
import Derived.Test.YtbehfhdkdekjfaaDoorXmW3
import Derived.Lib.ConvBytes
namespace Go.Proofs.YtbehfhdkdekjfaaDoor
open Go.RowKit
set_option maxRecDepth 100000

def PuPost (base : Nat) (d : L8) (w : World) (e : Ending) (w' : World) : Prop :=
  Below w.heap.size w w' ∧ ((∃ n : Nat, numX base d = some n ∧ e = .returned (.tuple #[.int .u64 n, .nilIface])) ∨
    (numX base d = none ∧ ∃ x c : Int, (c = 1 ∨ c = 2) ∧ e = .returned (.tuple #[.int .u64 x, .iface 128 (.int .i64 c)])))
theorem lower_fin : ∀ i : Fin 256, 0 ≤ bits .or .u8 (i.val : Int) 32 ∧ bits .or .u8 (i.val : Int) 32 < 256 ∧ (97 ≤ (i.val : Int) → (i.val : Int) ≤ 122 → bits .or .u8 (i.val : Int) 32 = (i.val : Int)) ∧ (65 ≤ (i.val : Int) → (i.val : Int) ≤ 90 → bits .or .u8 (i.val : Int) 32 = (i.val : Int) + 32) ∧
    (¬ (97 ≤ (i.val : Int) ∧ (i.val : Int) ≤ 122) → ¬ (65 ≤ (i.val : Int) ∧ (i.val : Int) ≤ 90) → ¬ (97 ≤ bits .or .u8 (i.val : Int) 32 ∧ bits .or .u8 (i.val : Int) 32 ≤ 122)) := by decide +kernel
theorem lower_at (c : UInt8) : 0 ≤ bits .or .u8 (c.toNat : Int) 32 ∧ bits .or .u8 (c.toNat : Int) 32 < 256 ∧ (97 ≤ (c.toNat : Int) → (c.toNat : Int) ≤ 122 → bits .or .u8 (c.toNat : Int) 32 = (c.toNat : Int)) ∧ (65 ≤ (c.toNat : Int) → (c.toNat : Int) ≤ 90 → bits .or .u8 (c.toNat : Int) 32 = (c.toNat : Int) + 32) ∧
    (¬ (97 ≤ (c.toNat : Int) ∧ (c.toNat : Int) ≤ 122) → ¬ (65 ≤ (c.toNat : Int) ∧ (c.toNat : Int) ≤ 90) → ¬ (97 ≤ bits .or .u8 (c.toNat : Int) 32 ∧ bits .or .u8 (c.toNat : Int) 32 ≤ 122)) := lower_fin ⟨c.toNat, c.toNat_lt⟩
theorem dig10_some {c : UInt8} {v : Nat} (h : digV 10 c = some v) : 48 ≤ (c.toNat : Int) ∧ (c.toNat : Int) ≤ 57 ∧ (v : Int) = (c.toNat : Int) - 48 := by
  unfold digV at h
  repeat' split at h
  all_goals (try cases h)
  all_goals omega
theorem dig10_none {c : UInt8} (h : digV 10 c = none) : ((c.toNat : Int) < 48 ∨ 57 < (c.toNat : Int)) ∧ (0 : Int) = 0 := by
  unfold digV at h
  repeat' split at h
  all_goals (try cases h)
  all_goals omega
theorem dig16_some {c : UInt8} {v : Nat} (h : digV 16 c = some v) : (48 ≤ (c.toNat : Int) ∧ (c.toNat : Int) ≤ 57 ∧ (v : Int) = (c.toNat : Int) - 48) ∨ (97 ≤ (c.toNat : Int) ∧ (c.toNat : Int) ≤ 102 ∧ (v : Int) = (c.toNat : Int) - 87) ∨ (65 ≤ (c.toNat : Int) ∧ (c.toNat : Int) ≤ 70 ∧ (v : Int) = (c.toNat : Int) - 55) := by
  unfold digV at h
  repeat' split at h
  all_goals (try cases h)
  all_goals omega
theorem dig16_none {c : UInt8} (h : digV 16 c = none) : ((c.toNat : Int) < 48 ∨ 57 < (c.toNat : Int)) ∧ (((103 ≤ (c.toNat : Int) ∧ (c.toNat : Int) ≤ 122) ∨ (71 ≤ (c.toNat : Int) ∧ (c.toNat : Int) ≤ 90)) ∨ (¬ (97 ≤ (c.toNat : Int) ∧ (c.toNat : Int) ≤ 122) ∧ ¬ (65 ≤ (c.toNat : Int) ∧ (c.toNat : Int) ≤ 90))) := by
  unfold digV at h
  repeat' split at h
  all_goals (try cases h)
  all_goals omega

set_option maxHeartbeats 8000000 in
theorem pu10_any (d : L8) (hd : d.length ≤ 1000000) (w : World) :
    Calls Tryd.prog 96 #[.string (strOf d), .int .i64 10, .int .i64 31] w (PuPost 10 d w) := by
  by_cases hne : d = []
  · subst hne
    exact (Tryd.internal_strconv_ParseUint_empty 10 31 w).mono fun e w' ⟨h1, h2⟩ => ⟨by rw [h2]; exact Below.refl _ _, .inr ⟨rfl, 0, 2, .inr rfl, h1⟩⟩
  have hemp : (strOf d).toList.isEmpty = false := by rw [str_empty]; simpa using hne
  have HX : Hid (numX 10 d = numG 10 d 0) := by show _ = _; unfold numX; rw [if_neg hne]
  have hp : 0 < d.length := List.length_pos_iff.2 hne
  have hcv := Lib.run_convert_string_bytes (P := Tryd.prog) w 9 37 5 (strOf d) (u := .string) Tryd.underlying9 Tryd.underlying37 Tryd.underlying5
  have hB : ∀ j, j < d.length → (Lib.bytesWorld w 5 (strOf d)).cell? ⟨w.heap.size, j, none⟩ = some (.int .u8 (at8 d j)) := fun j hj => by
    rw [Lib.bytesWorld_cell w 5 (strOf d) j (by rw [size8]; exact hj), str_data, List.getD_eq_getElem?_getD]
    rfl
  have hsz := size8 d
  rw [hsz] at hcv
  have HBel : Hid (Below w.heap.size w (Lib.bytesWorld w 5 (strOf d))) := ⟨rfl, rfl, rfl, by rw [Lib.bytesWorld_size]; omega, fun k hk => Lib.bytesWorld_at_old w _ _ k hk⟩
  obtain ⟨W1, hW1⟩ : ∃ W1, W1 = Lib.bytesWorld w 5 (strOf d) := ⟨_, rfl⟩
  rw [← hW1] at hcv hB HBel
  clear hW1 hne
  have hmv : IntKind.u64.wrap (IntKind.u64.wrap 2147483648 - 1) = 2147483647 := by
    rw [IntKind.wrap_u64, IntKind.wrap_u64]
    decide
  obtain ⟨N, hN⟩ : ∃ N, N = d.length := ⟨_, rfl⟩
  have HN := Lib.hid hN
  rw [← hN] at hcv hB hd hsz hp
  clear hN
  go_enter Tryd.func96, Tryd.ntmps96
  go_wp2_with fail
  go_loop [12, 13, 101] (fun vu vn vi => ∃ (k : Nat) (a : Int), vu = .bool false ∧ vn = .int .u64 a ∧ vi = .int .i64 k ∧ k ≤ N ∧ 0 ≤ a ∧ a ≤ 2147483647 ∧ Hid (numX 10 d = numG 10 (d.drop k) a.toNat))
    (fun _ _ vi => N - (intOf vi).toNat)
  case atStart => exact ⟨0, 0, rfl, rfl, rfl, by omega, by omega, by omega, HX⟩
  case round =>
    obtain ⟨k, a, rfl, rfl, rfl, hk, ha0, ha1, HG⟩ := hrel
    by_cases hkn : k < N
    · have hc := hB k hkn
      have hkd : k < d.length := by rw [← HN.out]; exact hkn
      have hdrop : d.drop k = d[k] :: d.drop (k + 1) := List.drop_eq_getElem_cons hkd
      rw [at8_eq d k hkd] at hc
      generalize d[k] = c at hc hdrop
      have hc0 : (0 : Int) ≤ (c.toNat : Int) := by omega
      have hc256 : (c.toNat : Int) < 256 := by have := c.toNat_lt; omega
      have HS : Hid (numX 10 d = match digV 10 c with | none => none | some v => if a.toNat * 10 + v ≤ 2147483647 then numG 10 (d.drop (k + 1)) (a.toNat * 10 + v) else none) := by show _ = _; rw [HG.out, hdrop]; rfl
      obtain ⟨lw0, lw1, lw2, lw3, lw4⟩ := lower_at c
      have hlow := fun W => Tryd.internal_strconv_lower (c.toNat : Int) W
      generalize bits .or .u8 (c.toNat : Int) 32 = z at *
      have HL := Lib.hid hlow
      clear hB hdrop hkd HG HX hlow
      cases hdv : digV 10 c with
      | none =>
        rw [hdv] at HS
        obtain ⟨q1, q2⟩ := dig10_none hdv
        clear hdv
        have HE : Hid (numX 10 d = none) := HS
        clear HS
        clear lw2 lw3 lw4 q2
        generalize (c.toNat : Int) = y at *
        by_cases h95 : y = 95
        · subst h95
          by_cases g : 97 ≤ z
          all_goals by_cases g2 : z ≤ 122
          all_goals go_wp2_with (go_at_call 102; refine (HL.out _).mono ?_; rintro e w' ⟨rfl, rfl⟩)
          all_goals go_ret2
          all_goals exact ⟨HBel.out, .inr ⟨HE.out, _, _, .inr rfl, rfl⟩⟩
        · rcases q1 with q1 | q1
          all_goals by_cases g : 97 ≤ z
          all_goals by_cases g2 : z ≤ 122
          all_goals go_wp2_with (go_at_call 102; refine (HL.out _).mono ?_; rintro e w' ⟨rfl, rfl⟩)
          all_goals go_ret2
          all_goals exact ⟨HBel.out, .inr ⟨HE.out, _, _, .inr rfl, rfl⟩⟩
      | some v =>
        rw [hdv] at HS
        have hq := dig10_some hdv
        clear hdv
        obtain ⟨x, hx⟩ : ∃ x : Int, x = (v : Int) := ⟨_, rfl⟩
        have HV := Lib.hid hx
        rw [← hx] at hq
        clear hx
        have hx0 : 0 ≤ x := by omega
        have hxb : x < 10 := by omega
        by_cases hov : 2147483647 < a * 10 + x
        · have HE : Hid (numX 10 d = none) := by
            show _ = _
            rw [HS.out]
            exact if_neg (by have := HV.out; omega)
          clear HS
          have e1 : x = (c.toNat : Int) - 48 := by omega
          have e2 : (48 : Int) ≤ (c.toNat : Int) := by omega
          have e3 : (c.toNat : Int) ≤ 57 := by omega
          subst e1
          clear lw0 lw1 lw2 lw3 lw4 hq
          go_wp2_with fail
          go_ret2
          exact ⟨HBel.out, .inr ⟨HE.out, _, _, .inl rfl, rfl⟩⟩
        · have HE : Hid (numX 10 d = numG 10 (d.drop (k + 1)) (a * 10 + x).toNat) := by
            show _ = _
            rw [HS.out]
            have := HV.out
            refine (if_pos (by omega)).trans ?_
            congr 1
            omega
          clear HS
          have hov' : a * 10 + x ≤ 2147483647 := by omega
          clear hov
          have e1 : x = (c.toNat : Int) - 48 := by omega
          have e2 : (48 : Int) ≤ (c.toNat : Int) := by omega
          have e3 : (c.toNat : Int) ≤ 57 := by omega
          subst e1
          clear lw0 lw1 lw2 lw3 lw4 hq
          go_wp2_with fail
          go_round
          case rel => exact ⟨k + 1, a * 10 + ((c.toNat : Int) - 48), rfl, by go_num, by go_num, by omega, by omega, by omega, HE⟩
          case measure => simp only [intOf]; omega
    · obtain rfl : k = N := by omega
      have HE : Hid (numX 10 d = some a.toNat) := by show _ = _; rw [HG.out, HN.out, List.drop_length]; rfl
      clear HG
      go_wp2_with fail
      go_ret2
      exact ⟨HBel.out, .inl ⟨a.toNat, HE.out, by rw [show ((a.toNat : Nat) : Int) = a by omega]; rfl⟩⟩

set_option maxHeartbeats 8000000 in
theorem pu16_any (d : L8) (hd : d.length ≤ 1000000) (w : World) :
    Calls Tryd.prog 96 #[.string (strOf d), .int .i64 16, .int .i64 31] w (PuPost 16 d w) := by
  by_cases hne : d = []
  · subst hne
    exact (Tryd.internal_strconv_ParseUint_empty 16 31 w).mono fun e w' ⟨h1, h2⟩ => ⟨by rw [h2]; exact Below.refl _ _, .inr ⟨rfl, 0, 2, .inr rfl, h1⟩⟩
  have hemp : (strOf d).toList.isEmpty = false := by rw [str_empty]; simpa using hne
  have HX : Hid (numX 16 d = numG 16 d 0) := by show _ = _; unfold numX; rw [if_neg hne]
  have hp : 0 < d.length := List.length_pos_iff.2 hne
  have hcv := Lib.run_convert_string_bytes (P := Tryd.prog) w 9 37 5 (strOf d) (u := .string) Tryd.underlying9 Tryd.underlying37 Tryd.underlying5
  have hB : ∀ j, j < d.length → (Lib.bytesWorld w 5 (strOf d)).cell? ⟨w.heap.size, j, none⟩ = some (.int .u8 (at8 d j)) := fun j hj => by
    rw [Lib.bytesWorld_cell w 5 (strOf d) j (by rw [size8]; exact hj), str_data, List.getD_eq_getElem?_getD]
    rfl
  have hsz := size8 d
  rw [hsz] at hcv
  have HBel : Hid (Below w.heap.size w (Lib.bytesWorld w 5 (strOf d))) := ⟨rfl, rfl, rfl, by rw [Lib.bytesWorld_size]; omega, fun k hk => Lib.bytesWorld_at_old w _ _ k hk⟩
  obtain ⟨W1, hW1⟩ : ∃ W1, W1 = Lib.bytesWorld w 5 (strOf d) := ⟨_, rfl⟩
  rw [← hW1] at hcv hB HBel
  clear hW1 hne
  have hmv : IntKind.u64.wrap (IntKind.u64.wrap 2147483648 - 1) = 2147483647 := by
    rw [IntKind.wrap_u64, IntKind.wrap_u64]
    decide
  obtain ⟨N, hN⟩ : ∃ N, N = d.length := ⟨_, rfl⟩
  have HN := Lib.hid hN
  rw [← hN] at hcv hB hd hsz hp
  clear hN
  go_enter Tryd.func96, Tryd.ntmps96
  go_wp2_with fail
  go_loop [12, 13, 101] (fun vu vn vi => ∃ (k : Nat) (a : Int), vu = .bool false ∧ vn = .int .u64 a ∧ vi = .int .i64 k ∧ k ≤ N ∧ 0 ≤ a ∧ a ≤ 2147483647 ∧ Hid (numX 16 d = numG 16 (d.drop k) a.toNat))
    (fun _ _ vi => N - (intOf vi).toNat)
  case atStart => exact ⟨0, 0, rfl, rfl, rfl, by omega, by omega, by omega, HX⟩
  case round =>
    obtain ⟨k, a, rfl, rfl, rfl, hk, ha0, ha1, HG⟩ := hrel
    by_cases hkn : k < N
    · have hc := hB k hkn
      have hkd : k < d.length := by rw [← HN.out]; exact hkn
      have hdrop : d.drop k = d[k] :: d.drop (k + 1) := List.drop_eq_getElem_cons hkd
      rw [at8_eq d k hkd] at hc
      generalize d[k] = c at hc hdrop
      have hc0 : (0 : Int) ≤ (c.toNat : Int) := by omega
      have hc256 : (c.toNat : Int) < 256 := by have := c.toNat_lt; omega
      have HS : Hid (numX 16 d = match digV 16 c with | none => none | some v => if a.toNat * 16 + v ≤ 2147483647 then numG 16 (d.drop (k + 1)) (a.toNat * 16 + v) else none) := by show _ = _; rw [HG.out, hdrop]; rfl
      obtain ⟨lw0, lw1, lw2, lw3, lw4⟩ := lower_at c
      have hlow := fun W => Tryd.internal_strconv_lower (c.toNat : Int) W
      generalize bits .or .u8 (c.toNat : Int) 32 = z at *
      have HL := Lib.hid hlow
      clear hB hdrop hkd HG HX hlow
      cases hdv : digV 16 c with
      | none =>
        rw [hdv] at HS
        obtain ⟨q1, q2⟩ := dig16_none hdv
        clear hdv
        have HE : Hid (numX 16 d = none) := HS
        clear HS
        have q3 : z < 97 ∨ (103 ≤ z ∧ z ≤ 122) ∨ 122 < z := by
          rcases q2 with h | h
          · exact .inr (.inl (by rcases h with ⟨h1, h2⟩ | ⟨h1, h2⟩; have := lw2 (by omega) (by omega); omega; have := lw3 (by omega) (by omega); omega))
          · have := lw4 h.1 h.2; omega
        clear lw2 lw3 lw4 q2
        generalize (c.toNat : Int) = y at *
        by_cases h95 : y = 95
        · subst h95
          rcases q3 with q3 | ⟨q3, q4⟩ | q3
          all_goals go_wp2_with (go_at_call 102; refine (HL.out _).mono ?_; rintro e w' ⟨rfl, rfl⟩)
          all_goals go_ret2
          all_goals exact ⟨HBel.out, .inr ⟨HE.out, _, _, .inr rfl, rfl⟩⟩
        · rcases q1 with q1 | q1
          all_goals rcases q3 with q3 | ⟨q3, q4⟩ | q3
          all_goals go_wp2_with (go_at_call 102; refine (HL.out _).mono ?_; rintro e w' ⟨rfl, rfl⟩)
          all_goals go_ret2
          all_goals exact ⟨HBel.out, .inr ⟨HE.out, _, _, .inr rfl, rfl⟩⟩
      | some v =>
        rw [hdv] at HS
        have hq := dig16_some hdv
        clear hdv
        obtain ⟨x, hx⟩ : ∃ x : Int, x = (v : Int) := ⟨_, rfl⟩
        have HV := Lib.hid hx
        rw [← hx] at hq
        clear hx
        have hx0 : 0 ≤ x := by omega
        have hxb : x < 16 := by omega
        by_cases hov : 2147483647 < a * 16 + x
        · have HE : Hid (numX 16 d = none) := by
            show _ = _
            rw [HS.out]
            exact if_neg (by have := HV.out; omega)
          clear HS
          rcases hq with ⟨e2, e3, e1⟩ | ⟨e2, e3, e1⟩ | ⟨e2, e3, e1⟩
          · clear lw0 lw1 lw2 lw3 lw4
            subst e1
            go_wp2_with fail
            go_ret2
            exact ⟨HBel.out, .inr ⟨HE.out, _, _, .inl rfl, rfl⟩⟩
          · have ez := lw2 e2 (by omega)
            clear lw0 lw1 lw2 lw3 lw4
            subst ez
            subst e1
            have f1 : ¬ ((c.toNat : Int) ≤ 57) := by omega
            go_wp2_with (go_at_call 102; refine (HL.out _).mono ?_; rintro e w' ⟨rfl, rfl⟩)
            go_ret2
            exact ⟨HBel.out, .inr ⟨HE.out, _, _, .inl rfl, rfl⟩⟩
          · have ez := lw3 e2 (by omega)
            clear lw0 lw1 lw2 lw3 lw4
            subst ez
            subst e1
            have f1 : ¬ ((c.toNat : Int) ≤ 57) := by omega
            go_wp2_with (go_at_call 102; refine (HL.out _).mono ?_; rintro e w' ⟨rfl, rfl⟩)
            go_ret2
            exact ⟨HBel.out, .inr ⟨HE.out, _, _, .inl rfl, rfl⟩⟩
        · have HE : Hid (numX 16 d = numG 16 (d.drop (k + 1)) (a * 16 + x).toNat) := by
            show _ = _
            rw [HS.out]
            have := HV.out
            refine (if_pos (by omega)).trans ?_
            congr 1
            omega
          clear HS
          have hov' : a * 16 + x ≤ 2147483647 := by omega
          clear hov
          rcases hq with ⟨e2, e3, e1⟩ | ⟨e2, e3, e1⟩ | ⟨e2, e3, e1⟩
          · clear lw0 lw1 lw2 lw3 lw4
            subst e1
            go_wp2_with fail
            go_round
            case rel => exact ⟨k + 1, a * 16 + ((c.toNat : Int) - 48), rfl, by go_num, by go_num, by omega, by omega, by omega, HE⟩
            case measure => simp only [intOf]; omega
          · have ez := lw2 e2 (by omega)
            clear lw0 lw1 lw2 lw3 lw4
            subst ez
            subst e1
            have f1 : ¬ ((c.toNat : Int) ≤ 57) := by omega
            go_wp2_with (go_at_call 102; refine (HL.out _).mono ?_; rintro e w' ⟨rfl, rfl⟩)
            go_round
            case rel => exact ⟨k + 1, a * 16 + ((c.toNat : Int) - 87), rfl, by go_num, by go_num, by omega, by omega, by omega, HE⟩
            case measure => simp only [intOf]; omega
          · have ez := lw3 e2 (by omega)
            clear lw0 lw1 lw2 lw3 lw4
            subst ez
            subst e1
            have f1 : ¬ ((c.toNat : Int) ≤ 57) := by omega
            go_wp2_with (go_at_call 102; refine (HL.out _).mono ?_; rintro e w' ⟨rfl, rfl⟩)
            go_round
            case rel => exact ⟨k + 1, a * 16 + ((c.toNat : Int) - 55), rfl, by go_num, by go_num, by omega, by omega, by omega, HE⟩
            case measure => simp only [intOf]; omega
    · obtain rfl : k = N := by omega
      have HE : Hid (numX 16 d = some a.toNat) := by show _ = _; rw [HG.out, HN.out, List.drop_length]; rfl
      clear HG
      go_wp2_with fail
      go_ret2
      exact ⟨HBel.out, .inl ⟨a.toNat, HE.out, by rw [show ((a.toNat : Nat) : Int) = a by omega]; rfl⟩⟩
end Go.Proofs.YtbehfhdkdekjfaaDoor
