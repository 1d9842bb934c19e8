/- XmlMany answers true. -/
import Derived.Test.YtiocdngkhdoigaaDoorXmDeep
import Derived.Test.YtiocdngkhdoigaaDoorAppG
import Derived.Lib.SlBytesConst
namespace Go.Proofs.YtiocdngkhdoigaaDoor
open Go.RowKit
set_option maxRecDepth 100000

def manyT (n : Nat) : L8 := [60, 114, 62] ++ (reps n [60, 97, 47, 62] ++ [60, 47, 114, 62])
theorem many_len (n : Nat) : (manyT n).length = 4 * n + 7 := by unfold manyT; rw [List.length_append, List.length_append, reps_len]; simp; omega
theorem many_check (n : Nat) : checkL (manyT n).length (manyT n) = 0 := by
  refine check_ascii _ _ fun c hc => ?_
  unfold manyT at hc
  rcases List.mem_append.1 hc with hc | hc
  · simp only [List.mem_cons, List.not_mem_nil, or_false] at hc
    rcases hc with rfl | rfl | rfl <;> decide
  · rcases List.mem_append.1 hc with hc | hc
    · have := reps_mem _ _ _ hc
      simp only [List.mem_cons, List.not_mem_nil, or_false] at this
      rcases this with rfl | rfl | rfl | rfl <;> decide
    · simp only [List.mem_cons, List.not_mem_nil, or_false] at hc
      rcases hc with rfl | rfl | rfl | rfl <;> decide
/-- An element r with k others in it. -/
structure Many (s : St) (k : Nat) : Prop where
  text : s.text = []
  len : s.nodes.length = k + 1
  opn : s.opn = [0]
  nm : ∀ nd, s.nodes[0]? = some nd → nd.name = [114]
theorem begin_shut (s : St) (t : L8) (hr : s.rest = 97 :: 47 :: 62 :: t) (ho : s.opn.length < 100) (hnn : s.nodes.length < 16384) :
    beginS s = .ok { listS s [97] [] [] with rest := t } := by
  have hn : nameL (97 :: 47 :: 62 :: t) = ([97], 47 :: 62 :: t) := rfl
  unfold beginS
  rw [hr, hn]
  simp only
  rw [if_neg (by simp), attrs_slash]
  simp only
  rw [if_neg (by omega), if_neg (by omega)]
  rfl
theorem many_steps (m : Nat) : ∀ (k : Nat) (s : St) (r : L8) (f : Nat), Many s k → k + m < 16384 → s.rest = reps m [60, 97, 47, 62] ++ r → ∃ s', Many s' (k + m) ∧ s'.rest = r ∧ partsS (m + f) s = partsS f s' := by
  induction m with
  | zero => intro k s r f h _ hr; exact ⟨s, h, by simpa [reps] using hr, by simp⟩
  | succ m ih =>
    intro k s r f h h1 hr
    rw [reps_succ] at hr
    have hr' : s.rest = 60 :: 97 :: (47 :: 62 :: (reps m [60, 97, 47, 62] ++ r)) := by simpa using hr
    have hbs := begin_shut { s with rest := 97 :: 47 :: 62 :: (reps m [60, 97, 47, 62] ++ r) } _ rfl (by show s.opn.length < 100; rw [h.opn]; decide) (by show s.nodes.length < _; rw [h.len]; omega)
    obtain ⟨s1, hs1⟩ : ∃ s1, s1 = ({ listS { s with rest := 97 :: 47 :: 62 :: (reps m [60, 97, 47, 62] ++ r) } [97] [] [] with rest := reps m [60, 97, 47, 62] ++ r } : St) := ⟨_, rfl⟩
    rw [← hs1] at hbs
    have hd : Many s1 (k + 1) := by
      rw [hs1]
      refine ⟨h.text, ?_, h.opn, fun nd hnd => ?_⟩
      · show (listS _ [97] [] []).nodes.length = _
        rw [(listS_rest _ [97] [] []).2.2.2]
        show s.nodes.length + 1 = _
        rw [h.len]
      · have hj2 : (s.nodes ++ [_])[0]? = some nd := hnd
        rw [List.getElem?_append_left (by rw [h.len]; omega)] at hj2
        exact h.nm nd hj2
    obtain ⟨s', d', r', e'⟩ := ih (k + 1) s1 r f hd (by omega) (by rw [hs1])
    refine ⟨s', by rw [show k + (m + 1) = k + 1 + m by omega]; exact d', r', ?_⟩
    have hne : s.opn ≠ [] := by rw [h.opn]; simp
    rw [show m + 1 + f = (m + f) + 1 by omega, partsS, if_neg hne, part_open s _ hr' h.text, hbs]
    exact e'
theorem many_parse (n : Nat) (h2 : n ≤ 16382) : ∃ ns, parseX (manyT n) = .ok ns ∧ ns.length = n + 1 := by
  have hp : parseX (manyT n) = docL (manyT n) := by
    unfold parseX
    rw [many_len, if_neg (by omega), if_neg (by rw [← many_len, many_check]; simp)]
  have hn : ∀ t, nameL (114 :: 62 :: t) = ([114], 62 :: t) := fun _ => rfl
  have hbs := begin_open (st0 (114 :: 62 :: (reps n [60, 97, 47, 62] ++ [60, 47, 114, 62]))) 114 _ (hn _) rfl (by simp [st0]) (by simp [st0])
  obtain ⟨s1, hs1⟩ : ∃ s1, s1 = ({ listS (st0 (114 :: 62 :: (reps n [60, 97, 47, 62] ++ [60, 47, 114, 62]))) [114] [] [] with rest := reps n [60, 97, 47, 62] ++ [60, 47, 114, 62], opn := [0] } : St) := ⟨_, rfl⟩
  have hbs2 : beginS (st0 (114 :: 62 :: (reps n [60, 97, 47, 62] ++ [60, 47, 114, 62]))) = .ok s1 := by rw [hbs, hs1]; rfl
  have hd1 : Many s1 0 := by
    rw [hs1]
    refine ⟨rfl, rfl, rfl, fun nd hnd => ?_⟩
    have hj2 : some (_ : Nd) = some nd := hnd
    injection hj2 with hj2
    rw [← hj2]
  have hdoc : docL (manyT n) = bodyL s1 := by
    rw [doc_eq]
    have e0 : manyT n = 60 :: 114 :: (62 :: (reps n [60, 97, 47, 62] ++ [60, 47, 114, 62])) := rfl
    have h1 : headingL (manyT n) = some (manyT n) := rfl
    have h3 : betweenL ((manyT n).length + 1) (manyT n) = some (manyT n) := rfl
    rw [h1]
    simp only
    rw [h3]
    show (match beginS (st0 (114 :: 62 :: (reps n [60, 97, 47, 62] ++ [60, 47, 114, 62]))) with | .error e => Except.error e | .ok s => bodyL s) = _
    rw [hbs2]
  have hl1 : s1.rest.length = 4 * n + 4 := by rw [hs1]; show (reps n [60, 97, 47, 62] ++ [60, 47, 114, 62]).length = _; rw [List.length_append, reps_len]; simp; omega
  obtain ⟨s2, d2, r2, e2⟩ := many_steps n 0 s1 [60, 47, 114, 62] (s1.rest.length + 1 - n) hd1 (by omega) (by rw [hs1])
  obtain ⟨nd, hnd⟩ : ∃ nd, s2.nodes[0]? = some nd := ⟨_, List.getElem?_eq_getElem (by rw [d2.len]; omega)⟩
  have hend : partS s2 = .ok { s2 with rest := [], nodes := setFin s2.nodes 0 s2.nodes.length, opn := [] } := by
    rw [part_end s2 [114, 62] r2 d2.text]
    unfold endS
    rw [show ({ s2 with rest := [114, 62] } : St).opn.getLast? = some 0 by show s2.opn.getLast? = _; rw [d2.opn]; rfl]
    simp only
    rw [hnd]
    simp only
    rw [show nameL [114, 62] = ([114], [62]) from rfl, d2.nm nd hnd, if_neg (by simp), d2.opn]
    rfl
  rw [hp, hdoc]
  refine ⟨setFin s2.nodes 0 s2.nodes.length, ?_, by rw [setFin_len, d2.len]; omega⟩
  unfold bodyL
  rw [show s1.rest.length + 1 = n + (s1.rest.length + 1 - n) by omega, e2]
  obtain ⟨q, hq⟩ : ∃ q, s1.rest.length + 1 - n = q + 2 := ⟨s1.rest.length + 1 - n - 2, by omega⟩
  rw [hq, partsS, if_neg (by rw [d2.opn]; simp), hend]
  simp only
  rw [partsS, if_pos rfl]
  rfl
theorem many_big (n : Nat) (h : 16383 ≤ n) : parseX (manyT n) = .error 3 := by
  unfold parseX
  rw [many_len, if_pos (by omega)]
theorem and_7 (b : Int) : ∃ n : Nat, bits .and .i64 b 7 = (n : Int) ∧ n ≤ 7 := by
  have h : (BitVec.ofInt 64 b &&& BitVec.ofInt 64 7).toNat ≤ 7 := by
    rw [BitVec.toNat_and]
    exact Nat.le_trans Nat.and_le_right (by decide)
  refine ⟨(BitVec.ofInt 64 b &&& BitVec.ofInt 64 7).toNat, ?_, h⟩
  show IntKind.i64.wrap ((BitVec.ofInt 64 b &&& BitVec.ofInt 64 7).toNat : Int) = _
  rw [IntKind.wrap_i64]
  omega
set_option maxHeartbeats 4000000 in
theorem xmany_walk (a : Int) (w : World) (hE : Env w) :
    Calls Tryd.prog 6 #[.int .i64 a] w fun e w' => e = .returned (.bool true) ∧ Below w.heap.size w w' := by
  have HE := Lib.hid hE
  have h8 : 8 ≤ w.heap.size := hE.2.2.2.2
  clear hE
  obtain ⟨n0, hn, hn7⟩ := and_7 a
  obtain ⟨n, hnn⟩ : ∃ n, n = 16380 + n0 := ⟨_, rfl⟩
  have HNI : Hid (16380 + (n0 : Int) = (n : Int)) := by show _ = _; omega
  have HNN := Lib.hid hnn
  have hcv0 := fun W : World => Lib.run_convert_bytes_const (P := Tryd.prog) W 38 5 #[.int .u8 60, .int .u8 114, .int .u8 62] 3 3 Tryd.underlying38 Tryd.underlying5
  have HN7 := Lib.hid hn7
  clear hnn
  go_enter Tryd.func6, Tryd.ntmps6
  go_wp2_with fail
  refine (head_any _ HE.out).mono ?_
  rintro e w1 ⟨rfl, b1⟩
  have E1 := Lib.hid (HE.out.below h8 b1)
  have HB1 := Lib.hid b1
  clear b1
  go_wp2_with fail
  have HC2 : Hid (∀ j u, (cells8 [60, 114, 62])[j]? = some u → (w1.alloc (.cells #[.int .u8 60, .int .u8 114, .int .u8 62] 5 (3, 4))).cell? ((⟨w1.heap.size, 0, none⟩ : Addr).add j) = some u) := fun j u hu => new_cells w1 #[.int .u8 60, .int .u8 114, .int .u8 62] 5 (3, 4) j u hu
  have HB2 : Hid (Below w1.heap.size w1 (w1.alloc (.cells #[.int .u8 60, .int .u8 114, .int .u8 62] 5 (3, 4)))) := (Below.refl _ _).alloc (Nat.le_refl _) _
  have hn16 : n ≤ 16387 := by have := HNN.out; omega
  have hn0 : 0 < n := by have := HNN.out; omega
  clear hn
  go_loopg [3, 4] n (fun gg v i wr => ∃ (x : Value) (k : Nat), x = v ∧ i = .int .i64 k ∧ k ≤ n ∧ n - k ≤ gg ∧ Hid (Below w1.heap.size w1 wr) ∧
    ((k = 0 ∧ x = .slice (some ⟨w1.heap.size, 0, none⟩) 3 3 ∧ Hid (∀ j u, (cells8 [60, 114, 62])[j]? = some u → wr.cell? ((⟨w1.heap.size, 0, none⟩ : Addr).add j) = some u)) ∨ (1 ≤ k ∧ Hid (Own8 wr w1.heap.size 5 x ([60, 114, 62] ++ reps k [60, 97, 47, 62])))))
  case atStart => exact ⟨_, 0, rfl, rfl, Nat.zero_le _, by omega, HB2, .inl ⟨rfl, rfl, HC2⟩⟩
  case round =>
    obtain ⟨x, k, hx, rfl, hk, hg, HB, hcase⟩ := hrel
    subst hx
    by_cases hlt : k < n
    · have hlt2 : (k : Int) < 16380 + (n0 : Int) := by have := HNN.out; omega
      rcases hcase with ⟨rfl, rfl, HC⟩ | ⟨h1, HO⟩
      · go_wp2_with (
          (at_builtin
           refine wpList_append8g _ rfl (.tmp 19) (.const (.string ⟨#[60, 97, 47, 62]⟩)) rfl w1.heap.size w1.heap.size 3 [60, 114, 62] rfl HC.out ⟨#[60, 97, 47, 62]⟩ rfl (by show 3 + 4 ≤ _; omega) HB.out.size (by show 3 < 3 + 4; omega) ?_
           intro x3 w3 ho3 hb3))
        go_roundg (n - 1)
        case rel => exact ⟨x3, 1, rfl, rfl, by omega, Nat.le_refl _, HB.out.trans (hb3.mono HB.out.size), .inr ⟨Nat.le_refl _, ho3⟩⟩
        case measure => omega
      · have hlen : ([60, 114, 62] ++ reps k [60, 97, 47, 62] : L8).length = 3 + 4 * k := by rw [List.length_append, reps_len]; simp; omega
        have HLEN := Lib.hid hlen
        clear hlen
        go_wp2_with (
          (at_builtin
           refine wpList_append8t _ rfl (.tmp 19) (.const (.string ⟨#[60, 97, 47, 62]⟩)) rfl w1.heap.size x _ rfl HO.out ⟨#[60, 97, 47, 62]⟩ rfl (by rw [HLEN.out]; show 3 + 4 * k + 4 ≤ _; omega) HB.out.size ?_
           intro x3 w3 ho3 hg3 hat3))
        have hb3 : Below w1.heap.size w1 w3 := HO.out.grow (Nat.le_refl _) HB.out HB.out.size hg3
        go_roundg (n - (k + 1))
        case rel => exact ⟨x3, k + 1, rfl, by go_num, by omega, Nat.le_refl _, hb3, .inr ⟨by omega, by rw [← reps_snoc, ← List.append_assoc]; exact ho3⟩⟩
        case measure => omega
    · obtain rfl : k = n := by omega
      rcases hcase with ⟨rfl, _⟩ | ⟨h1, HO⟩
      · omega
      have hlt2 : ¬ ((k : Int) < 16380 + (n0 : Int)) := by have := HNN.out; omega
      have hlen : ([60, 114, 62] ++ reps k [60, 97, 47, 62] : L8).length = 3 + 4 * k := by rw [List.length_append, reps_len]; simp; omega
      have HLEN := Lib.hid hlen
      clear hlen
      go_wp2_with (
        (at_builtin
         refine wpList_append8t _ rfl (.tmp 22) (.const (.string ⟨#[60, 47, 114, 62]⟩)) rfl w1.heap.size x _ rfl HO.out ⟨#[60, 47, 114, 62]⟩ rfl (by rw [HLEN.out]; show 3 + 4 * k + 4 ≤ _; omega) HB.out.size ?_
         intro x3 w3 ho3 hg3 hat3
         obtain ⟨A3, c3, hv3, _, _, hbs3, _⟩ := ho3.form
         have hb3 : Below w1.heap.size w1 w3 := HO.out.grow (Nat.le_refl _) HB.out HB.out.size hg3
         have htx : ([60, 114, 62] ++ reps k [60, 97, 47, 62] ++ (⟨#[60, 47, 114, 62]⟩ : ByteArray).data.toList : L8) = manyT k := by unfold manyT; rw [List.append_assoc]
         rw [htx] at hbs3 hv3
         have hcv : (convert 38 9 (.slice A3 (manyT k).length c3)).run Tryd.prog w3 = .ok (.string (strOf (manyT k))) w3 := hbs3.conv (manyT k).length c3 rfl
         subst hv3
         have HB3 := Lib.hid hb3
         clear hb3 htx hat3 hg3 ho3 hbs3))
      have hkn := HNN.out
      have hml := many_len k
      have HML := Lib.hid hml
      have E3 := Lib.hid (E1.out.below E1.out.2.2.2.2 HB3.out)
      clear hml
      by_cases hbig : 16383 ≤ k
      · have HP := Lib.hid (many_big k hbig)
        refine (parse_err (manyT k) 3 HP (by rw [HML.out]; omega) w3 E3.out).mono ?_
        rintro e w4 ⟨rfl, b4⟩
        have hgi : (65536 : Int) < (16380 + (n0 : Int)) * 4 + 7 := by omega
        have HB4 := Lib.hid (HB1.out.trans ((HB3.out.trans (b4.mono HB3.out.size)).mono HB1.out.size))
        clear b4 hbig hkn hcv hcv0
        go_wp2_with fail
        go_ret
        exact ⟨rfl, HB4.out⟩
      · obtain ⟨ns, hns, hlen⟩ := many_parse k (by omega)
        refine (parse_ok (manyT k) ns hns (by rw [HML.out]; omega) w3 E3.out).mono ?_
        rintro e w4 ⟨v, rfl, hrow, b4⟩
        have HB4 := Lib.hid (HB1.out.trans ((HB3.out.trans (b4.mono HB3.out.size)).mono HB1.out.size))
        obtain ⟨g, c, rfl, hc1, hc2, _⟩ := row_cells hrow (by omega)
        have hgi : (16380 + (n0 : Int)) * 4 + 7 ≤ 65536 := by omega
        have hgi2 : 16380 + (n0 : Int) + 1 ≤ 16384 := by omega
        have heq : (((ns.length : Nat) : Int) == 16380 + (n0 : Int) + 1) = true := beq_iff_eq.2 (by rw [hlen]; omega)
        clear b4 hbig hkn hcv hcv0 hrow hns hlen hlt2 hk hg
        have hz1 : (0 : Int) ≤ 16380 + (n0 : Int) := by omega
        generalize 16380 + (n0 : Int) = z at *
        have hz2 : z < 16384 := by omega
        have hd1 : decide ((65536 : Int) < z * 4 + 7) = false := decide_eq_false (by omega)
        have hd2 : decide ((16384 : Int) < z + 1) = false := decide_eq_false (by omega)
        clear hgi hgi2
        go_wp2_with fail
        go_ret
        exact ⟨rfl, HB4.out⟩
end Go.Proofs.YtiocdngkhdoigaaDoor
