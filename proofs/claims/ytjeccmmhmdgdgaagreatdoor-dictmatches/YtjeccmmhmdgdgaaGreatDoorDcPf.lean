/- Prefix of package dict. -/
import Derived.Test.YtjeccmmhmdgdgaaGreatDoorDcRd
import Derived.Lib.Strings
import Derived.WalkSmall
namespace Go.Proofs.YtjeccmmhmdgdgaaGreatDoor.Dc
open Go.RowKit Go.Sort
set_option maxRecDepth 100000

abbrev beg (x p : B8) : Bool := Lib.hasPrefix x p
theorem beg_iff (x p : B8) : beg x p = true ↔ p <+: x := by unfold beg Lib.hasPrefix; exact List.isPrefixOf_iff_prefix
theorem pre_le : ∀ (p x : B8), p <+: x → p ≤ x
  | [], x, _ => fun h => by cases h
  | a :: p, [], h => by simp at h
  | a :: p, b :: x, h => by
    obtain ⟨rfl, h2⟩ := List.cons_prefix_cons.1 h
    intro hlt
    rcases List.cons_lt_cons_iff.1 hlt with k | ⟨_, k⟩
    · exact absurd k (by simp)
    · exact pre_le p x h2 k
theorem pre_between : ∀ (p x y : B8), p ≤ x → x ≤ y → p <+: y → p <+: x
  | [], x, y, _, _, _ => List.nil_prefix
  | a :: p, x, [], _, _, h => by simp at h
  | a :: p, [], y, h, _, _ => absurd (List.nil_lt_cons a p) h
  | a :: p, b :: x, c :: y, h1, h2, h => by
    obtain ⟨rfl, h3⟩ := List.cons_prefix_cons.1 h
    have n1 : ¬ b < a := fun k => h1 (List.cons_lt_cons_iff.2 (.inl k))
    have n2 : ¬ a < b := fun k => h2 (List.cons_lt_cons_iff.2 (.inl k))
    obtain rfl : a = b := UInt8.le_antisymm (UInt8.not_lt.1 n1) (UInt8.not_lt.1 n2)
    refine List.cons_prefix_cons.2 ⟨rfl, pre_between p x y (fun k => h1 (List.cons_lt_cons_iff.2 (.inr ⟨rfl, k⟩))) (fun k => h2 (List.cons_lt_cons_iff.2 (.inr ⟨rfl, k⟩))) h3⟩
/-- How many words begin so. -/
def pcnt (ws : List B8) (p : B8) : Nat := (ws.drop (cnt ws p)).countP fun x => beg x p
theorem countP_eq (us : List B8) (f : B8 → Bool) (i : Nat) (hi : i ≤ us.length) (h1 : ∀ j (h : j < us.length), j < i → f us[j] = true) (h2 : ∀ j (h : j < us.length), i ≤ j → f us[j] = false) : us.countP f = i := by
  conv => lhs; rw [← List.take_append_drop i us]
  rw [List.countP_append, List.countP_eq_length.2 (fun a ha => ?_), List.countP_eq_zero.2 (fun a ha => ?_), List.length_take]
  · omega
  · obtain ⟨j, hj, rfl⟩ := List.mem_iff_getElem.1 ha
    rw [List.getElem_drop]
    rw [h2 _ (by rw [List.length_drop] at hj; omega) (by omega)]
    simp
  · obtain ⟨j, hj, rfl⟩ := List.mem_iff_getElem.1 ha
    rw [List.getElem_take]
    rw [List.length_take] at hj
    exact h1 j (by omega) (by omega)
/-- Behind all that are ahead of p, those that begin with it stand first. -/
theorem beg_mono {ws : List B8} (hr : ws.Pairwise (· < ·)) (p : B8) (i j : Nat) (hij : i ≤ j) (hj : j < (ws.drop (cnt ws p)).length) (h : beg (ws.drop (cnt ws p))[j] p = true) : beg ((ws.drop (cnt ws p))[i]'(by omega)) p = true := by
  rw [List.length_drop] at hj
  rw [List.getElem_drop] at h ⊢
  rw [beg_iff] at h ⊢
  rcases Nat.lt_or_ge i j with k | k
  · exact pre_between p _ _ ((cnt_parts hr p).2 _ (by omega) (by omega)) (le_of (rises_at hr _ _ (by omega) (by omega))) h
  · obtain rfl : i = j := by omega
    exact h
theorem parts_mono (us : List B8) (p : B8) (hm : ∀ (i j : Nat) (hij : i ≤ j) (hj : j < us.length), beg us[j] p = true → beg (us[i]'(by omega)) p = true) : (∀ j (h : j < us.length), j < us.countP (fun x => beg x p) → beg us[j] p = true) ∧ (∀ j (h : j < us.length), us.countP (fun x => beg x p) ≤ j → beg us[j] p = false) := by
  obtain ⟨i, hi, h1, h2⟩ : ∃ i, i ≤ us.length ∧ (∀ j (h : j < us.length), j < i → beg us[j] p = true) ∧ (∀ j (h : j < us.length), i ≤ j → beg us[j] p = false) := by
    induction us with
    | nil => exact ⟨0, by simp, fun j h => by simp at h, fun j h => by simp at h⟩
    | cons a t ih =>
      cases ha : beg a p with
      | true =>
        obtain ⟨i, hi, h1, h2⟩ := ih (fun i j hij hj h => hm (i + 1) (j + 1) (by omega) (by simpa using hj) (by simpa using h))
        refine ⟨i + 1, by simp; omega, fun j h hj => ?_, fun j h hj => ?_⟩
        · cases j with
          | zero => exact ha
          | succ j => exact h1 j (by simpa using h) (by omega)
        · cases j with
          | zero => omega
          | succ j => exact h2 j (by simpa using h) (by omega)
      | false =>
        refine ⟨0, by simp, fun j h hj => by omega, fun j h _ => ?_⟩
        cases hb : beg (a :: t)[j] p with
        | false => rfl
        | true => have := hm 0 j (by omega) h hb; rw [show (a :: t)[0] = a from rfl, ha] at this; cases this
  rw [countP_eq us (fun x => beg x p) i hi h1 h2]
  exact ⟨h1, h2⟩
theorem pcnt_parts {ws : List B8} (hr : ws.Pairwise (· < ·)) (p : B8) : (∀ j (h : j < (ws.drop (cnt ws p)).length), j < pcnt ws p → beg (ws.drop (cnt ws p))[j] p = true) ∧ (∀ j (h : j < (ws.drop (cnt ws p)).length), pcnt ws p ≤ j → beg (ws.drop (cnt ws p))[j] p = false) := parts_mono _ p (beg_mono hr p)
theorem pcnt_le (ws : List B8) (p : B8) : cnt ws p + pcnt ws p ≤ ws.length := by
  have h := List.countP_le_length (p := fun x => beg x p) (l := ws.drop (cnt ws p))
  rw [List.length_drop] at h
  have := cnt_le ws p
  unfold pcnt
  omega
theorem beg_at {ws : List B8} (hr : ws.Pairwise (· < ·)) (p : B8) (k : Nat) (hk : k < ws.length) : beg ws[k] p = (decide (cnt ws p ≤ k) && decide (k < cnt ws p + pcnt ws p)) := by
  rcases Nat.lt_or_ge k (cnt ws p) with h | h
  · rw [decide_eq_false (by omega : ¬ cnt ws p ≤ k), Bool.false_and]
    cases hb : beg ws[k] p with
    | false => rfl
    | true => exact absurd ((cnt_parts hr p).1 k hk h) (pre_le p _ ((beg_iff _ _).1 hb))
  · rw [decide_eq_true h, Bool.true_and]
    obtain ⟨h1, h2⟩ := pcnt_parts hr p
    have e : (ws.drop (cnt ws p))[k - cnt ws p]'(by rw [List.length_drop]; omega) = ws[k] := by rw [List.getElem_drop]; congr 1; omega
    rcases Nat.lt_or_ge (k - cnt ws p) (pcnt ws p) with g | g
    · rw [decide_eq_true (by omega), ← e]; exact h1 _ _ g
    · rw [decide_eq_false (by omega), ← e]; exact h2 _ _ g
/-- 'd.words[k:]'. -/
theorem CS.from_ {w : World} {B : Nat} {A : Option Addr} {xs : List Value} (h : CS w B A xs) (n c k : Nat) (hn : n = xs.length) (hk : k ≤ n) (hc : n ≤ c) :
    ∃ A', (∀ W, (Instr.slice 22 (.slice A n c) (some (.int .i64 (k : Int))) none none).run Tryz.prog W = .ok (.slice A' (n - k) (c - k)) W) ∧ CS w B A' (xs.drop k) := by
  have hu : Tryz.prog.underlying 22 = some (.slice (Tryz.prog.elem 22)) := by kernel_rfl
  have he : Tryz.prog.elem 22 = 9 := by kernel_rfl
  refine ⟨if c = k then A else A.map (·.add (k * 1)), fun W => ?_, fun hp => ?_⟩
  · have hz : (sizeOf 9).run Tryz.prog W = .ok 1 W := by kernel_rfl
    rw [run_slice_l W 22 A n c hu .i64 (k : Int) (by omega) (by omega), he, hz]
    simp only [Result.andThen, sliced, Int.toNat_natCast]
  · rw [List.length_drop] at hp
    obtain ⟨b, o, rfl, hb, hcell⟩ := h (by omega)
    rw [if_neg (by omega)]
    refine ⟨b, o + k, by simp [add_addr], hb, fun j u hj => ?_⟩
    rw [List.getElem?_drop] at hj
    rw [Nat.add_assoc]
    exact hcell (k + j) u hj
set_option maxHeartbeats 1000000 in
theorem pf1_any (i n b1 b2 b o c : Nat) (x p : B8) (q : Bool) (hq : Hid (beg x p = q)) (hi : i < n) (W : World) (h1 : W.cell? ⟨b1, 0, none⟩ = some (.slice (some ⟨b, o, none⟩) n c)) (h2 : W.cell? ⟨b2, 0, none⟩ = some (.string ⟨p.toArray⟩)) (h3 : W.cell? ⟨b, o + i, none⟩ = some (.string ⟨x.toArray⟩)) :
    Calls Tryz.prog 26 #[.int .i64 i, .pointer (some ⟨b1, 0, none⟩), .pointer (some ⟨b2, 0, none⟩)] W fun e w' => e = .returned (.bool (!q)) ∧ Below W.heap.size W w' := by
  have hiI : (i : Int) < (n : Int) := by omega
  have HP : Hid (∀ W, Calls Tryz.prog 27 #[.string ⟨x.toArray⟩, .string ⟨p.toArray⟩] W fun e w' => e = .returned (.bool q) ∧ w' = W) := fun W => by
    have h := Tryz.strings_HasPrefix ⟨x.toArray⟩ ⟨p.toArray⟩ W
    rw [show Lib.hasPrefix (⟨x.toArray⟩ : ByteArray).data.toList (⟨p.toArray⟩ : ByteArray).data.toList = q from by simpa using hq.out] at h
    exact h
  obtain ⟨sx, hsx⟩ : ∃ sx, sx = (⟨x.toArray⟩ : ByteArray) := ⟨_, rfl⟩
  obtain ⟨sp, hsp⟩ : ∃ sp, sp = (⟨p.toArray⟩ : ByteArray) := ⟨_, rfl⟩
  rw [← hsx] at HP h3
  rw [← hsp] at HP h2
  clear hq hsx hsp
  go_enter Tryz.func26, Tryz.ntmps26
  go_wp2_with fail
  go_quiet ((go_at_call 27; refine Calls.quiet_of_same (HP.out _)))
  go_wp2_with fail
  go_ret
  exact ⟨rfl, below_drewN (Below.refl _ _) _⟩
set_option maxHeartbeats 4000000 in
theorem search_any (us : List B8) (n c : Nat) (p : B8) (hmono : Hid (∀ (i j : Nat) (hij : i ≤ j) (hj : j < us.length), beg us[j] p = true → beg (us[i]'(by omega)) p = true)) (hnl : n = us.length) (hn : n ≤ 1000) (b1 b2 : Nat) (A : Option Addr) (w : World)
    (h1 : w.cell? ⟨b1, 0, none⟩ = some (.slice A n c)) (h2 : w.cell? ⟨b2, 0, none⟩ = some (.string ⟨p.toArray⟩)) (h3 : CS w w.heap.size A (us.map encStr)) :
    Calls Tryz.prog 25 #[.int .i64 n, .func (.func 26) #[] #[.pointer (some ⟨b1, 0, none⟩), .pointer (some ⟨b2, 0, none⟩)]] w fun e w' => e = .returned (.int .i64 (us.countP (fun x => beg x p) : Nat)) ∧ Below w.heap.size w w' := by
  have HC : Hid (∀ (i : Nat) (hi : i < us.length) (q : Bool) (W : World), beg us[i] p = q → Below w.heap.size w W → Calls Tryz.prog 26 #[.int .i64 i, .pointer (some ⟨b1, 0, none⟩), .pointer (some ⟨b2, 0, none⟩)] W fun e w' => e = .returned (.bool (!q)) ∧ Below W.heap.size W w') := fun i hi q W hq hb => by
    obtain ⟨b, o, hA, hbB, hcell⟩ := h3 (by rw [List.length_map]; omega)
    have hcu := hcell i _ (enc_cells_at us i hi)
    rw [hA] at h1
    exact pf1_any i n b1 b2 b o c us[i] p q hq (by omega) W ((hb.cell (World.block_lt_of_cell? w _ h1)).trans h1) ((hb.cell (World.block_lt_of_cell? w _ h2)).trans h2) ((hb.cell (World.block_lt_of_cell? w _ hcu)).trans hcu)
  have HL := Lib.hid hnl
  clear h1 h2 h3 hnl
  go_enter Tryz.func25, Tryz.ntmps25
  go_wp2_with fail
  go_loopg [5, 6] n (fun kx s5 s6 wr => ∃ (lo hi : Nat), s5 = .int .i64 lo ∧ s6 = .int .i64 hi ∧ lo ≤ hi ∧ hi ≤ n ∧ hi - lo ≤ kx ∧ Hid (Below w.heap.size w wr) ∧
    Hid ((∀ (t : Nat) (ht : t < us.length), t < lo → beg us[t] p = true) ∧ (∀ (t : Nat) (ht : t < us.length), hi ≤ t → beg us[t] p = false)))
  case atStart => exact ⟨0, n, rfl, rfl, Nat.zero_le _, Nat.le_refl _, by omega, Below.refl _ _, fun t _ h => absurd h (Nat.not_lt_zero _), fun t ht h => by have := HL.out; omega⟩
  case round =>
    obtain ⟨lo, hi, rfl, rfl, hlh, hin, hg, HB, HI⟩ := hrel
    by_cases hlt : lo < hi
    · have hm : (lo + hi) / 2 < us.length := by rw [← HL.out]; omega
      cases hx : beg us[(lo + hi) / 2] p with
      | false =>
        have HC1 := Lib.hid (HC.out ((lo + hi) / 2) hm false wr hx HB.out)
        rw [show (((lo + hi) / 2 : Nat) : Int) = ((lo : Int) + (hi : Int)) / 2 by omega] at HC1
        have HX := Lib.hid hx
        clear hx
        simp only [Bool.not_false] at HC1
        go_wp2_with (go_at_call 26; refine HC1.out.mono ?_; rintro e w2 ⟨rfl, hb2⟩)
        go_roundg ((lo + hi) / 2 - lo)
        case measure => omega
        case rel => exact ⟨lo, (lo + hi) / 2, rfl, by rw [show ((lo : Int) + (hi : Int)) / 2 = (((lo + hi) / 2 : Nat) : Int) by omega], by omega, by omega, Nat.le_refl _, HB.out.trans (hb2.mono HB.out.size), HI.out.1, fun t ht h => by
          cases hb : beg us[t] p with
          | false => rfl
          | true => have := hmono.out _ t h ht hb; rw [HX.out] at this; cases this⟩
      | true =>
        have HC1 := Lib.hid (HC.out ((lo + hi) / 2) hm true wr hx HB.out)
        rw [show (((lo + hi) / 2 : Nat) : Int) = ((lo : Int) + (hi : Int)) / 2 by omega] at HC1
        have HX := Lib.hid hx
        clear hx
        simp only [Bool.not_true] at HC1
        go_wp2_with (go_at_call 26; refine HC1.out.mono ?_; rintro e w2 ⟨rfl, hb2⟩)
        go_roundg (hi - ((lo + hi) / 2 + 1))
        case measure => omega
        case rel => exact ⟨(lo + hi) / 2 + 1, hi, by rw [show ((lo : Int) + (hi : Int)) / 2 + 1 = (((lo + hi) / 2 + 1 : Nat) : Int) by omega], rfl, by omega, hin, Nat.le_refl _, HB.out.trans (hb2.mono HB.out.size), fun t ht h => hmono.out t _ (by omega) hm HX.out, HI.out.2⟩
    · obtain rfl : hi = lo := by omega
      have HE : Hid (us.countP (fun x => beg x p) = hi) := countP_eq us _ hi (by rw [← HL.out]; exact hin) HI.out.1 HI.out.2
      go_wp2_with fail
      go_ret
      exact ⟨by rw [HE.out]; rfl, HB.out⟩
set_option maxHeartbeats 4000000 in
theorem prefix_any (A : Option Addr) (n c : Nat) (ws : List B8) (hr : ws.Pairwise (· < ·)) (p : B8) (w : World) (h : DT w A n c ws) :
    Calls Tryz.prog 12 #[.agg #[.slice A n c], .string ⟨p.toArray⟩] w fun e w' => e = .returned (.tuple #[.int .i64 (cnt ws p : Nat), .int .i64 (cnt ws p + pcnt ws p : Nat)]) ∧ Below w.heap.size w w' := by
  obtain ⟨X, hX⟩ : ∃ X, (w.alloc (.cells #[.slice A n c] 34)).alloc (.cells #[.string ⟨p.toArray⟩] 9) = X := ⟨_, rfl⟩
  have bX : Below w.heap.size w X := by rw [← hX]; exact ((Below.refl _ _).alloc (Nat.le_refl _) _).alloc (by simp) _
  have sX : X.heap.size = w.heap.size + 2 := by rw [← hX]; simp
  have x0 : X.cell? ⟨w.heap.size, 0, none⟩ = some (.slice A n c) := by
    rw [← hX]
    have z := new_cells w #[.slice A n c] 34 (0, 0) 0 _ rfl
    rw [add_addr] at z
    exact (((Below.refl (w.heap.size + 1) (w.alloc (.cells #[.slice A n c] 34))).alloc (by simp) _).cell (p := ⟨w.heap.size, 0, none⟩) (by show w.heap.size < w.heap.size + 1; omega)).trans z
  have x1 : X.cell? ⟨w.heap.size + 1, 0, none⟩ = some (.string ⟨p.toArray⟩) := by
    rw [← hX]
    have z := new_cells (w.alloc (.cells #[.slice A n c] 34)) #[.string ⟨p.toArray⟩] 9 (0, 0) 0 _ rfl
    rw [add_addr] at z
    rw [show (w.alloc (.cells #[.slice A n c] 34)).heap.size = w.heap.size + 1 by simp] at z
    exact z
  have HDX := Lib.hid (h.keep bX)
  have HF := Lib.hid (find_any A n c ws hr p X HDX.out)
  have HBX := Lib.hid bX
  have HSX := Lib.hid sX
  have hcl := cnt_le ws p
  have hpl := pcnt_le ws p
  have hnl := h.len
  have hcap := h.cap
  have hmx := h.max
  have hfw := h.few
  obtain ⟨m, hm⟩ : ∃ m, m = cnt ws p := ⟨_, rfl⟩
  obtain ⟨s, hs⟩ : ∃ s, s = pcnt ws p := ⟨_, rfl⟩
  have HMO : Hid (∀ (i j : Nat) (hij : i ≤ j) (hj : j < (ws.drop m).length), beg (ws.drop m)[j] p = true → beg ((ws.drop m)[i]'(by omega)) p = true) := by subst hm; exact beg_mono hr p
  have HPC : Hid ((ws.drop m).countP (fun x => beg x p) = s) := by show _ = _; rw [hs, hm]; rfl
  obtain ⟨A', hsl, hcs'⟩ := CS.from_ HDX.out.cs n c m (by rw [List.length_map]; exact hnl) (by omega) hcap
  obtain ⟨q, hq⟩ : ∃ q, decide (p ∈ ws) = q := ⟨_, rfl⟩
  rw [← hm, hq] at HF
  rw [← hm] at hcl hpl ⊢
  rw [← hs] at hpl ⊢
  have hmn : m ≤ n := by omega
  have HNL := Lib.hid hnl
  have HCS := Lib.hid hcs'
  unfold maxLen at hmx
  have hms : m + s ≤ n := by omega
  obtain ⟨sp, hsp⟩ : ∃ sp, sp = (⟨p.toArray⟩ : ByteArray) := ⟨_, rfl⟩
  rw [← hsp] at hX x1 HF ⊢
  have HSP := Lib.hid hsp
  clear h hr bX hm hs hq hcl hpl hnl hcs' sX hsp
  go_enter Tryz.func12, Tryz.ntmps12
  go_wp2_with fail
  with_reducible refine HF.out.mono ?_
  rintro e w1 ⟨rfl, b1⟩
  have y0 := (b1.cell (p := ⟨w.heap.size, 0, none⟩) (by show w.heap.size < _; have := HSX.out; omega)).trans x0
  have y1 := (b1.cell (p := ⟨w.heap.size + 1, 0, none⟩) (by show w.heap.size + 1 < _; have := HSX.out; omega)).trans x1
  have hs1 : w.heap.size + 2 ≤ w1.heap.size := by have := b1.size; have := HSX.out; omega
  obtain ⟨Y, hY⟩ : ∃ Y, w1.alloc (.cells #[.slice A' (n - m) (c - m)] 22) = Y := ⟨_, rfl⟩
  have bY : Below w1.heap.size w1 Y := by rw [← hY]; exact (Below.refl _ _).alloc (Nat.le_refl _) _
  have z2 : Y.cell? ⟨w1.heap.size, 0, none⟩ = some (.slice A' (n - m) (c - m)) := by
    rw [← hY]
    have z := new_cells w1 #[.slice A' (n - m) (c - m)] 22 (0, 0) 0 _ rfl
    rwa [add_addr, Nat.zero_add] at z
  have z1 := (bY.cell (p := ⟨w.heap.size + 1, 0, none⟩) (by show w.heap.size + 1 < _; omega)).trans y1
  have HSE : Hid (Calls Tryz.prog 25 #[.int .i64 (n - m : Nat), .func (.func 26) #[] #[.pointer (some ⟨w1.heap.size, 0, none⟩), .pointer (some ⟨w.heap.size + 1, 0, none⟩)]] Y fun e w' => e = .returned (.int .i64 (s : Nat)) ∧ Below Y.heap.size Y w') := by
    have hb : Below X.heap.size X Y := b1.trans (bY.mono b1.size)
    have hc := (HCS.out.below hb).more hb.size
    rw [← List.map_drop] at hc
    have := search_any (ws.drop m) (n - m) (c - m) p HMO (by rw [List.length_drop, HNL.out]) (by omega) w1.heap.size (w.heap.size + 1) A' Y z2 (by rw [z1, HSP.out]) hc
    rw [HPC.out] at this
    exact this
  have HBY := Lib.hid (HBX.out.trans ((b1.trans (bY.mono b1.size)).mono HBX.out.size))
  clear x0 x1 b1 bY HF HDX y1 z1
  go_wp2_with fail
  with_reducible refine HSE.out.mono ?_
  rintro e w2 ⟨rfl, b2⟩
  have B2 := HBY.out.trans (b2.mono HBY.out.size)
  go_wp2_with fail
  go_ret2
  exact ⟨by simp, B2⟩
end Go.Proofs.YtjeccmmhmdgdgaaGreatDoor.Dc
