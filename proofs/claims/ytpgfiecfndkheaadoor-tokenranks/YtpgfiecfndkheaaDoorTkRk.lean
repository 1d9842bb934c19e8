/- TokenRanks answers true. -/
import Derived.Test.YtpgfiecfndkheaaDoorTkH
namespace Go.Proofs.YtpgfiecfndkheaaDoor
open Go.RowKit
set_option maxRecDepth 100000

/-- The function that Rank hands to Search. -/
theorem rank1_any (i n b1 b2 b o c : Nat) (x u : Int) (hi : i < n) (W : World) (h1 : W.cell? ⟨b1, 0, none⟩ = some (.slice (some ⟨b, o, none⟩) n c)) (h2 : W.cell? ⟨b2, 0, none⟩ = some (.int .i64 x)) (h3 : W.cell? ⟨b, o + i, none⟩ = some (.int .i64 u)) :
    Calls Tryd.prog 26 #[.int .i64 i, .pointer (some ⟨b1, 0, none⟩), .pointer (some ⟨b2, 0, none⟩)] W fun e w' => e = .returned (.bool (decide (x < u))) ∧ Below W.heap.size W w' := by
  have hiI : (i : Int) < (n : Int) := by omega
  go_enter Tryd.func26, Tryd.ntmps26
  go_wp2_with fail
  go_quiet (fail)
  go_wp2_with fail
  go_ret
  exact ⟨rfl, below_drewN (Below.refl _ _) _⟩
def cnt (us : List Nat) (x : Int) : Nat := us.countP fun u : Nat => decide ((u : Int) ≤ x)
theorem cnt_split (us : List Nat) (x : Int) (k : Nat) (hk : k ≤ us.length) (h1 : ∀ (t u : Nat), us[t]? = some u → t < k → (u : Int) ≤ x) (h2 : ∀ (t u : Nat), us[t]? = some u → k ≤ t → x < (u : Int)) : cnt us x = k := by
  unfold cnt
  rw [← List.take_append_drop k us, List.countP_append]
  have e1 : (us.take k).countP (fun u : Nat => decide ((u : Int) ≤ x)) = (us.take k).length := by
    rw [List.countP_eq_length]
    intro u hu
    obtain ⟨t, ht⟩ := List.getElem?_of_mem hu
    have htk : t < k := by
      have := (List.getElem?_eq_some_iff.1 ht).1
      rw [List.length_take] at this
      omega
    rw [List.getElem?_take_of_lt htk] at ht
    exact decide_eq_true (h1 t u ht htk)
  have e2 : (us.drop k).countP (fun u : Nat => decide ((u : Int) ≤ x)) = 0 := by
    rw [List.countP_eq_zero]
    intro u hu
    obtain ⟨t, ht⟩ := List.getElem?_of_mem hu
    rw [List.getElem?_drop] at ht
    have := h2 _ u ht (by omega)
    simp
    omega
  rw [e1, e2, List.length_take]
  omega
def Rising (us : List Nat) : Prop := ∀ (s t u v : Nat), us[s]? = some u → us[t]? = some v → s < t → u < v
set_option maxHeartbeats 4000000 in
theorem search_any (us : List Nat) (hr : Rising us) (hn : us.length ≤ 1000) (b1 b2 : Nat) (A : Option Addr) (c : Nat) (x : Int) (_hnc : us.length ≤ c) (_hc : c ≤ 9223372036854775807) (w : World) (h1 : w.cell? ⟨b1, 0, none⟩ = some (.slice A us.length c)) (h2 : w.cell? ⟨b2, 0, none⟩ = some (.int .i64 x)) (h3 : CS w w.heap.size A (nCells us)) :
    Calls Tryd.prog 25 #[.int .i64 us.length, .func (.func 26) #[] #[.pointer (some ⟨b1, 0, none⟩), .pointer (some ⟨b2, 0, none⟩)]] w fun e w' => e = .returned (.int .i64 (cnt us x : Nat)) ∧ Below w.heap.size w w' := by
  have HC : Hid (∀ (i u : Nat) (W : World), us[i]? = some u → Below w.heap.size w W → Calls Tryd.prog 26 #[.int .i64 i, .pointer (some ⟨b1, 0, none⟩), .pointer (some ⟨b2, 0, none⟩)] W fun e w' => e = .returned (.bool (decide (x < (u : Int)))) ∧ Below W.heap.size W w') := fun i u W hu hb => by
    have hil := (List.getElem?_eq_some_iff.1 hu).1
    obtain ⟨b, o, hA, hbB, hcell⟩ := h3 (by rw [nCells_len]; omega)
    have hcu := hcell i (.int .i64 (u : Int)) (by unfold nCells; rw [List.getElem?_map, hu]; rfl)
    rw [hA] at h1
    exact rank1_any i us.length b1 b2 b o c x u hil W ((hb.cell (World.block_lt_of_cell? w _ h1)).trans h1) ((hb.cell (World.block_lt_of_cell? w _ h2)).trans h2) ((hb.cell (World.block_lt_of_cell? w _ hcu)).trans hcu)
  have HR := Lib.hid hr
  have HCS := Lib.hid (cnt_split us x)
  clear h1 h2 h3 hr
  obtain ⟨n, hnn⟩ : ∃ n, n = us.length := ⟨_, rfl⟩
  rw [← hnn] at hn ⊢
  have HNN := Lib.hid hnn
  clear hnn
  go_enter Tryd.func25, Tryd.ntmps25
  go_wp2_with fail
  go_loopg [5, 6] n (fun kx s5 s6 wr => ∃ (lo hi : Nat), s5 = .int .i64 lo ∧ s6 = .int .i64 hi ∧ lo ≤ hi ∧ hi ≤ n ∧ hi - lo ≤ kx ∧ Hid (Below w.heap.size w wr) ∧
    Hid ((∀ (t u : Nat), us[t]? = some u → t < lo → (u : Int) ≤ x) ∧ (∀ (t u : Nat), us[t]? = some u → hi ≤ t → x < (u : Int))))
  case atStart => exact ⟨0, n, rfl, rfl, Nat.zero_le _, Nat.le_refl _, by omega, Below.refl _ _, fun t u _ h => absurd h (Nat.not_lt_zero _), fun t u hu h => by have := (List.getElem?_eq_some_iff.1 hu).1; have := HNN.out; omega⟩
  case round =>
    obtain ⟨lo, hi, rfl, rfl, hlh, hin, hg, HB, HI⟩ := hrel
    by_cases hlt : lo < hi
    · obtain ⟨u, hu⟩ : ∃ u, us[(lo + hi) / 2]? = some u := ⟨_, List.getElem?_eq_getElem (by rw [← HNN.out]; omega)⟩
      have HC1 := Lib.hid (HC.out ((lo + hi) / 2) u wr hu HB.out)
      rw [show (((lo + hi) / 2 : Nat) : Int) = ((lo : Int) + (hi : Int)) / 2 by omega] at HC1
      have HU := Lib.hid hu
      clear hu
      by_cases hx : x < (u : Int)
      · rw [decide_eq_true hx] at HC1
        go_wp2_with (go_at_call 26; refine HC1.out.mono ?_; rintro e w2 ⟨rfl, hb2⟩)
        go_roundg ((lo + hi) / 2 - lo)
        case measure => omega
        case rel => exact ⟨lo, (lo + hi) / 2, rfl, by rw [show ((lo : Int) + (hi : Int)) / 2 = (((lo + hi) / 2 : Nat) : Int) by omega], by omega, by omega, Nat.le_refl _, HB.out.trans (hb2.mono HB.out.size), HI.out.1, fun t v hv ht => by
          rcases Nat.lt_or_ge ((lo + hi) / 2) t with h | h
          · have := HR.out _ _ _ _ HU.out hv h; omega
          · obtain rfl : t = (lo + hi) / 2 := by omega
            have := HU.out.symm.trans hv
            injection this with this
            omega⟩
      · rw [decide_eq_false hx] at HC1
        go_wp2_with (go_at_call 26; refine HC1.out.mono ?_; rintro e w2 ⟨rfl, hb2⟩)
        go_roundg (hi - ((lo + hi) / 2 + 1))
        case measure => omega
        case rel => exact ⟨(lo + hi) / 2 + 1, hi, by rw [show ((lo : Int) + (hi : Int)) / 2 + 1 = (((lo + hi) / 2 + 1 : Nat) : Int) by omega], rfl, by omega, hin, Nat.le_refl _, HB.out.trans (hb2.mono HB.out.size), fun t v hv ht => by
          rcases Nat.lt_or_ge t ((lo + hi) / 2) with h | h
          · have := HR.out _ _ _ _ hv HU.out h; omega
          · obtain rfl : t = (lo + hi) / 2 := by omega
            have := HU.out.symm.trans hv
            injection this with this
            omega, HI.out.2⟩
    · obtain rfl : hi = lo := by omega
      have HE : Hid (cnt us x = hi) := HCS.out hi (by rw [← HNN.out]; exact hin) HI.out.1 HI.out.2
      go_wp2_with fail
      go_ret
      exact ⟨by rw [HE.out]; rfl, HB.out⟩

set_option maxHeartbeats 4000000 in
theorem rank_any (us : List Nat) (hr : Rising us) (hn : us.length ≤ 1000) (A : Option Addr) (c : Nat) (x : Int) (hnc : us.length ≤ c) (hc : c ≤ 9223372036854775807) (w : World) (h3 : CS w w.heap.size A (nCells us)) :
    Calls Tryd.prog 15 #[.slice A us.length c, .int .i64 x] w fun e w' => e = .returned (.int .i64 (cnt us x : Nat)) ∧ Below w.heap.size w w' := by
  have hb : Below w.heap.size w ((w.alloc (.cells #[.slice A us.length c] 24)).alloc (.cells #[.int .i64 x] 3)) := ((Below.refl _ _).alloc (Nat.le_refl _) _).alloc (by simp) _
  have e1 : ((w.alloc (.cells #[.slice A us.length c] 24)).alloc (.cells #[.int .i64 x] 3)).cell? ⟨w.heap.size, 0, none⟩ = some (.slice A us.length c) := by
    have := new_cells w #[.slice A us.length c] 24 (0, 0) 0 _ rfl
    rw [add_addr] at this
    exact (((Below.refl (w.heap.size + 1) (w.alloc (.cells #[.slice A us.length c] 24))).alloc (by simp) (.cells #[.int .i64 x] 3)).cell (p := ⟨w.heap.size, 0, none⟩) (by show w.heap.size < w.heap.size + 1; omega)).trans this
  have e2 : ((w.alloc (.cells #[.slice A us.length c] 24)).alloc (.cells #[.int .i64 x] 3)).cell? ⟨w.heap.size + 1, 0, none⟩ = some (.int .i64 x) := by
    have := new_cells (w.alloc (.cells #[.slice A us.length c] 24)) #[.int .i64 x] 3 (0, 0) 0 _ rfl
    rw [add_addr] at this
    rw [show (w.alloc (.cells #[.slice A us.length c] 24)).heap.size = w.heap.size + 1 by simp] at this
    exact this
  have HS := Lib.hid (search_any us hr hn w.heap.size (w.heap.size + 1) A c x hnc hc _ e1 e2 ((h3.below hb).more hb.size))
  have HB := Lib.hid hb
  clear hb h3 hr
  generalize us.length = n at *
  go_enter Tryd.func15, Tryd.ntmps15
  go_wp2_with fail
  generalize (w.alloc (.cells #[.slice A n c] 24)).alloc (.cells #[.int .i64 x] 3) = W at *
  (with_reducible refine HS.out.mono ?_)
  rintro e w2 ⟨rfl, hb2⟩
  go_wp2_with fail
  go_ret
  exact ⟨rfl, HB.out.trans (hb2.mono HB.out.size)⟩
theorem one_i64 (x : Int) : ∀ u ∈ ([.int .i64 x] : List Value), u.oneCell' = true := by intro u hu; have e := List.mem_singleton.1 hu; subst e; rfl
theorem wpList_appInt {ops : Array Oper} {rest : List Oper} {o : Oper} {a : Act} {Q : Exit → Act → World → Prop} (wr : World) (hgd : o.guard = none) (s x : Operand)
    (ho : o.op = .call { callee := .builtin .append, args := #[s, x], argTypes := #[24, 24] })
    (base : Nat) (v : Value) (n : Nat) (xs : List Value) (b : Int) (hs : a.eval s = v) (hx : a.eval x = .slice (some ⟨wr.heap.size, 0, none⟩) 1 1) (hown : wr.ownsRow base 3 1 v n xs) (hbase : base ≤ wr.heap.size) (hn : n ≤ 100000000)
    (h : ∀ v' w', w'.ownsRow base 3 1 v' (n + 1) (xs ++ [.int .i64 b]) → (∀ w0 B, B ≤ base → Below B w0 wr → Below B w0 w') → wpList Tryd.prog ops Q rest (a.put o.dst v') w') :
    wpList Tryd.prog ops Q (o :: rest) a (wr.alloc (.cells #[.int .i64 b] 3)) := by
  obtain ⟨i0, hi, hz0, hz1, hz2⟩ := info_parts info_int
  have hownA : (wr.alloc (.cells #[.int .i64 b] 3)).ownsRow base 3 1 v n xs := own_below hown ((Below.refl _ _).alloc (Nat.le_refl _) _)
  have hbaseA : base ≤ (wr.alloc (.cells #[.int .i64 b] 3)).heap.size := by simp; omega
  refine wpList_append_own_at _ hgd s x 24 ho base 3 i0 (.int .i64 0) 1 8 Tryd.underlying24 hi hz0 hz1 hz2 rfl (by omega) v n xs hs hownA ⟨wr.heap.size, 0, none⟩ 1 1 [.int .i64 b] hx rfl (new_cells wr _ _ _) (one_i64 b) (by unfold maxLen; omega) (by omega) hbaseA ?_
  intro v' w' hown' hg _ _
  exact h v' w' hown' fun w0 B hB hbel => own_grow hownA hB (hbel.alloc (Nat.le_trans hB hbase) _) hbaseA hg
theorem and_7 (b : Int) : ∃ n : Nat, bits .and .i64 b 7 = (n : Int) ∧ n ≤ 7 := by
  have h : (BitVec.ofInt 64 b &&& BitVec.ofInt 64 7).toNat ≤ 7 := by
    rw [BitVec.toNat_and]
    exact Nat.le_trans Nat.and_le_right (by decide)
  refine ⟨(BitVec.ofInt 64 b &&& BitVec.ofInt 64 7).toNat, ?_, h⟩
  show IntKind.i64.wrap ((BitVec.ofInt 64 b &&& BitVec.ofInt 64 7).toNat : Int) = _
  rw [IntKind.wrap_i64]
  omega
theorem rising_snoc (us : List Nat) (l m : Nat) (h : Rising us) (hle : ∀ u ∈ us, u ≤ l) (hm : l < m) : Rising (us ++ [m]) := by
  intro s t u v hs ht hst
  have htl := (List.getElem?_eq_some_iff.1 ht).1
  rw [List.length_append, List.length_cons, List.length_nil] at htl
  have hsl : s < us.length := by omega
  rw [List.getElem?_append_left hsl] at hs
  rcases Nat.lt_or_ge t us.length with h2 | h2
  · rw [List.getElem?_append_left h2] at ht
    exact h s t u v hs ht hst
  · rw [List.getElem?_append_right h2] at ht
    have ht0 : t - us.length = 0 := by omega
    rw [ht0] at ht
    have hv : m = v := by simpa using ht
    have := hle u (List.mem_of_getElem? hs)
    omega
def zCells (zs : List Int) : List Value := zs.map fun z => .int .i64 z
set_option maxHeartbeats 4000000 in
theorem ranks_walk (A0 : Option Addr) (c0 : Nat) (zs : List Int) (x : Int) (_hx1 : -9223372036854775808 ≤ x) (_hx2 : x ≤ 9223372036854775807) (hz : zs.length ≤ c0) (_hzc : c0 ≤ 9223372036854775807) (w : World) (hT : UT w) (hZ : CS w w.heap.size A0 (zCells zs)) :
    Calls Tryd.prog 5 #[.slice A0 zs.length c0, .int .i64 x] w fun e w' => e = .returned (.bool true) ∧ Below w.heap.size w w' := by
  have HH := Lib.hid (head_any w hT)
  have HZ := Lib.hid hZ
  clear hT hZ
  obtain ⟨m, hm⟩ : ∃ m, m = zs.length := ⟨_, rfl⟩
  have HM := Lib.hid hm
  rw [← hm] at hz ⊢
  clear hm
  by_cases hbig : 60 < m
  · have hbI : (60 : Int) < (m : Int) := by omega
    go_enter Tryd.func5, Tryd.ntmps5
    go_wp2_with fail
    (with_reducible refine HH.out.mono ?_)
    rintro e w1 ⟨rfl, b1⟩
    go_wp2_with fail
    go_ret
    exact ⟨rfl, b1⟩
  · have hbI : ¬ (60 : Int) < (m : Int) := by omega
    go_enter Tryd.func5, Tryd.ntmps5
    go_wp2_with fail
    (with_reducible refine HH.out.mono ?_)
    rintro e w1 ⟨rfl, b1⟩
    have B1 := Lib.hid b1
    clear b1
    go_wp2_with fail
    go_loopg [5, 6, 20] m (fun gg up la ix wr => ∃ (us : List Nat) (L k : Nat), la = .int .i64 L ∧ ix = .int .i64 k ∧ k ≤ m ∧ m - k ≤ gg ∧ L ≤ 8 * k ∧ us.length = k ∧ Hid (Rising us ∧ ∀ u ∈ us, u ≤ L) ∧ Hid (wr.ownsRow w1.heap.size 3 1 up k (nCells us)) ∧ Hid (Below w1.heap.size w1 wr))
    case atStart => exact ⟨[], 0, 0, rfl, rfl, Nat.zero_le _, by omega, by omega, rfl, ⟨fun s t u v h => by simp at h, fun u h => by simp at h⟩, own_lit w1 _ 1 _ rfl, (Below.refl _ _).alloc (Nat.le_refl _) _⟩
    case round =>
      obtain ⟨us, L, k, rfl, rfl, hk, hg, hL, hul, HR, HO, HB⟩ := hrel
      by_cases hlt : k < m
      · obtain ⟨b, o, hA, hbB, hcell⟩ := HZ.out (by unfold zCells; rw [List.length_map, ← HM.out]; omega)
        obtain ⟨z, hzk⟩ : ∃ z, zs[k]? = some z := ⟨_, List.getElem?_eq_getElem (by rw [← HM.out]; exact hlt)⟩
        have hcz := hcell k (.int .i64 z) (by unfold zCells; rw [List.getElem?_map, hzk]; rfl)
        have hcw : wr.cell? ⟨b, o + k, none⟩ = some (.int .i64 z) := (HB.out.cell (p := ⟨b, o + k, none⟩) (Nat.lt_of_lt_of_le hbB B1.out.size)).trans ((B1.out.cell (p := ⟨b, o + k, none⟩) hbB).trans hcz)
        obtain ⟨d, hd, hd7⟩ := and_7 z
        subst hA
        clear hcz hzk hcell
        have hltI : (k : Int) < (m : Int) := by omega
        have hbase := HB.out.size
        have HN : Hid (nCells us ++ [.int .i64 ((L : Int) + (1 + (d : Int)))] = nCells (us ++ [L + (1 + d)])) := by show _ = _; rw [nCells_app]; simp [nCells]
        go_wp2_with (first
          | (at_builtin
             refine wpList_appInt wr rfl (.tmp 29) (.tmp 31) rfl w1.heap.size _ k (nCells us) ((L : Int) + (1 + (d : Int))) rfl rfl HO.out hbase (by omega) ?_
             intro v4 w4 hown4 hkeep4))
        have hb4 := hkeep4 _ _ (Nat.le_refl _) HB.out
        rw [HN.out] at hown4
        clear hkeep4
        go_roundg (m - (k + 1))
        case measure => omega
        case rel => exact ⟨us ++ [L + (1 + d)], L + (1 + d), k + 1, by go_num, by go_num, by omega, Nat.le_refl _, by omega, by simp [hul], ⟨rising_snoc us L _ HR.out.1 HR.out.2 (by omega), fun u hu => by
          rcases List.mem_append.1 hu with h | h
          · have := HR.out.2 u h; omega
          · have := List.mem_singleton.1 h; omega⟩, hown4, hb4⟩
      · obtain rfl : k = m := by omega
        obtain ⟨Au, cu, hup, hcu, hmu, hcs, _⟩ := own_form HO.out
        subst hup
        unfold maxLen at hmu
        have HCS := Lib.hid hcs
        have HRK := Lib.hid (fun W (hb : Below wr.heap.size wr W) => rank_any us HR.out.1 (by omega) Au cu x (by omega) (by omega) W ((hcs.below hb).more hb.size))
        rw [hul] at HRK
        have hUL := Lib.hid hul
        clear hcs hul
        go_wp2_with fail
        go_loopg [9, 36] k (fun gg n ix wr2 => ∃ (j : Nat), n = .int .i64 ((us.take j).countP (fun u : Nat => decide ((u : Int) ≤ x)) : Nat) ∧ ix = .int .i64 j ∧ j ≤ k ∧ k - j ≤ gg ∧ wr = wr2)
        case atStart => exact ⟨0, rfl, rfl, Nat.zero_le _, by omega, rfl⟩
        case round =>
          obtain ⟨j, rfl, rfl, hj, hg2, rfl⟩ := hrel
          by_cases hjl : j < k
          · obtain ⟨b, o, hA, hbB, hcell⟩ := HCS.out (by rw [nCells_len, hUL.out]; omega)
            obtain ⟨u, huj⟩ : ∃ u, us[j]? = some u := ⟨_, List.getElem?_eq_getElem (by rw [hUL.out]; exact hjl)⟩
            have hcz := hcell j (.int .i64 (u : Int)) (by unfold nCells; rw [List.getElem?_map, huj]; rfl)
            subst hA
            have hjI : (j : Int) < (k : Int) := by omega
            have hu8 := HR.out.2 u (List.mem_of_getElem? huj)
            have hct : (us.take j).countP (fun u : Nat => decide ((u : Int) ≤ x)) ≤ j := Nat.le_trans List.countP_le_length (by rw [List.length_take]; omega)
            have HTK : Hid ((us.take (j + 1)).countP (fun u : Nat => decide ((u : Int) ≤ x)) = (us.take j).countP (fun u : Nat => decide ((u : Int) ≤ x)) + if (u : Int) ≤ x then 1 else 0) := by
              show _ = _
              have hjj : j < us.length := by rw [hUL.out]; exact hjl
              have hjg : us[j] = u := by
                have := List.getElem?_eq_getElem hjj
                rw [this] at huj
                exact Option.some.inj huj
              rw [List.take_succ_eq_append_getElem hjj, List.countP_append, hjg]
              by_cases h : (u : Int) ≤ x
              · simp [h]
              · simp [h]
            clear hcell huj
            generalize (us.take j).countP (fun u : Nat => decide ((u : Int) ≤ x)) = q at *
            by_cases hux : (u : Int) ≤ x
            · rw [if_pos hux] at HTK
              go_wp2_with fail
              go_roundg (k - (j + 1))
              case measure => omega
              case rel => exact ⟨j + 1, by rw [HTK.out]; go_num, by go_num, by omega, Nat.le_refl _, rfl⟩
            · rw [if_neg hux] at HTK
              go_wp2_with fail
              go_roundg (k - (j + 1))
              case measure => omega
              case rel => exact ⟨j + 1, by rw [HTK.out]; rfl, by go_num, by omega, Nat.le_refl _, rfl⟩
          · obtain rfl : j = k := by omega
            have hfull : us.take j = us := List.take_of_length_le (by rw [hUL.out]; omega)
            rw [hfull]
            have HRW := Lib.hid (HRK.out wr (Below.refl _ _))
            have HCE : Hid (us.countP (fun u : Nat => decide ((u : Int) ≤ x)) = cnt us x) := rfl
            clear hfull HRK
            rw [HCE.out]
            go_wp2_with fail
            (with_reducible refine HRW.out.mono ?_)
            rintro e w5 ⟨rfl, b5⟩
            have BF := Lib.hid (B1.out.trans ((HB.out.trans (b5.mono HB.out.size)).mono B1.out.size))
            clear b5
            go_wp2_with fail
            go_ret
            exact ⟨by simp, BF.out⟩
end Go.Proofs.YtpgfiecfndkheaaDoor
