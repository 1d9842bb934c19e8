/- checkSigns; xml.Parse. -/
import Derived.Test.YtbehfhdkdekjfaaDoorXmDoc
namespace Go.Proofs.YtbehfhdkdekjfaaDoor
open Go.RowKit
set_option maxRecDepth 100000

theorem check_ok : ∀ (f : Nat) (l : L8), l.length ≤ f → checkL f l = 0 → V8 l
  | 0, l, h, _ => by rw [List.length_eq_zero_iff.1 (by omega : l.length = 0)]; rfl
  | f + 1, l, h, hc => by
    unfold checkL at hc
    split at hc
    · rename_i e; rw [e]; rfl
    · split at hc
      · cases hc
      · split at hc
        · rename_i h1 h2 h3
          obtain ⟨r, k, hn⟩ : ∃ r k, nextN l = (r, k) := ⟨_, _, rfl⟩
          rw [hn] at h2 hc
          have hk : 0 < k := Nat.pos_of_ne_zero h2
          have hv := check_ok f (l.drop k) (by rw [List.length_drop]; omega) hc
          rw [V8, valid_step l r k hn hk]
          exact hv
        · cases hc
theorem check_val : ∀ (f : Nat) (l : L8), checkL f l = 0 ∨ checkL f l = 10 ∨ checkL f l = 11
  | 0, l => .inl rfl
  | f + 1, l => by
    unfold checkL
    split
    · exact .inl rfl
    · split
      · exact .inr (.inl rfl)
      · split
        · exact check_val f _
        · exact .inr (.inr rfl)
set_option maxHeartbeats 2000000 in
theorem check_any (l : L8) (hl : l.length ≤ 1000000) (w : World) (hE : Env w) :
    Calls Tryd.prog 20 #[.string (strOf l)] w fun e w' => e = .returned (.int .i64 (checkL l.length l)) ∧ Below w.heap.size w w' := by
  have HE := Lib.hid hE
  clear hE
  go_enter Tryd.func20, Tryd.ntmps20
  go_wp2_with fail
  go_loopg [0] l.length (fun gg sv wr => ∃ (t : L8) (f : Nat), sv = .string (strOf t) ∧ t.length ≤ gg ∧ t.length ≤ f ∧ t.length ≤ l.length ∧ Hid (Below w.heap.size w wr) ∧ Hid (checkL f t = checkL l.length l))
  case atStart => exact ⟨l, l.length, rfl, Nat.le_refl _, Nat.le_refl _, Nat.le_refl _, Below.refl _ _, rfl⟩
  case round =>
    obtain ⟨t, f, rfl, htg, htf, htl, HB, HC⟩ := hrel
    have hEr := HE.out.below HE.out.2.2.2.2 HB.out
    by_cases he : t = []
    · have hem : (strOf t).toList.isEmpty = true := by rw [str_empty, he]; rfl
      have HX : Hid (checkL l.length l = 0) := by show _ = _; rw [← HC.out, he]; cases f <;> rfl
      clear he
      go_wp2_with fail
      go_ret
      exact ⟨by rw [HX.out]; rfl, HB.out⟩
    · have hem : (strOf t).toList.isEmpty = false := by rw [str_empty]; simpa using he
      have htp := List.length_pos_iff.2 he
      obtain ⟨f, rfl⟩ : ∃ f', f = f' + 1 := ⟨f - 1, by omega⟩
      have HX : Hid (checkL l.length l = if (nextN t).2 = 0 then 10 else if okSign (nextN t).1 then checkL f (t.drop (nextN t).2) else 11) := by
        show _ = _
        rw [← HC.out, checkL, if_neg he]
      have HN := Lib.hid (next_any t wr hEr.1)
      have nb := (next_bd t).1
      have HS := fun W => Lib.hid (xsign_any ((nextN t).1 : Int) W)
      rw [okI_nat] at HS
      clear he HC
      generalize nextN t = x at *
      obtain ⟨x1, x2⟩ := x
      simp only at HX HN nb HS
      have hts : (strOf t).size = t.length := size8 t
      have hcut : (strOf t).extract x2 t.length = strOf (t.drop x2) := by have := cut8 t x2; rwa [size8] at this
      have hx2 : x2 ≤ (strOf t).size := by omega
      go_wp2_with fail
      refine HN.out.mono ?_
      rintro e w1 ⟨rfl, b1⟩
      have HB1 := Lib.hid (HB.out.trans (b1.mono HB.out.size))
      clear b1
      by_cases h0 : x2 = 0
      · rw [if_pos h0] at HX
        have hb : ((x2 : Int) == 0) = true := beq_iff_eq.2 (by omega)
        clear h0
        go_wp2_with fail
        go_ret
        exact ⟨by rw [HX.out]; rfl, HB1.out⟩
      · rw [if_neg h0] at HX
        have hb : ((x2 : Int) == 0) = false := beq_eq_false_iff_ne.2 (by omega)
        have hsl : (strOf t).size ≤ 1000000 := by omega
        go_wp2_with fail
        refine (HS _).out.mono ?_
        rintro e w2 ⟨rfl, rfl⟩
        cases ho : okSign x1 with
        | false =>
          rw [if_neg (by rw [ho]; simp)] at HX
          go_wp2_with fail
          go_ret
          exact ⟨by rw [HX.out]; rfl, HB1.out⟩
        | true =>
          rw [if_pos ho] at HX
          go_wp2_with fail
          go_roundg (t.drop x2).length
          case rel => exact ⟨t.drop x2, f, rfl, Nat.le_refl _, by rw [List.length_drop]; omega, by rw [List.length_drop]; omega, HB1, HX.out.symm⟩
          case measure => rw [List.length_drop]; omega
/-- Nodes at v, of blocks from base on. -/
def NdRow (w : World) (B : Nat) (v : Value) (ns : List Nd) : Prop := ∃ avs : List Value, w.ownsRow B 30 6 v ns.length (ndCells ns avs) ∧ avs.length = ns.length ∧ (∀ (k : Nat) (av : Value) (nd : Nd), avs[k]? = some av → ns[k]? = some nd → AtRow w B av nd.attrs)
def ParsePost (l : L8) (w : World) (e : Ending) (w' : World) : Prop :=
  Below w.heap.size w w' ∧ ((∃ ns v, parseX l = .ok ns ∧ e = .returned (.tuple #[v, .int .i64 0]) ∧ NdRow w' w.heap.size v ns) ∨ (∃ c, parseX l = .error c ∧ e = .returned (.tuple #[.slice none 0 0, .int .i64 c]) ∧ (c = 3 ∨ c = 10 ∨ c = 11 ∨ c = 12)))
theorem rd_new (w : World) (l : L8) (hw : 8 ≤ w.heap.size) : Rd (w.alloc (.cells #[.string (strOf l), .slice none 0 0, .slice none 0 0, .slice none 0 0] 56)) w.heap.size (st0 l) := by
  refine ⟨.slice none 0 0, .slice none 0 0, .slice none 0 0, [], ⟨by simp, hw, ?_, ?_⟩, ⟨?_, ?_, ?_, fun o => ?_⟩, ⟨⟨rfl, .inl ⟨rfl, rfl⟩⟩, ⟨rfl, .inl ⟨rfl, rfl⟩⟩, Own8.nil _ _ _, rfl, fun k av nd h => by simp at h, fun b h => by simp [Value.ownBlock] at h, fun b h => by simp [Value.ownBlock] at h, fun b h => by simp [Value.ownBlock] at h, fun av h => by simp at h⟩⟩
  all_goals first | (simp only [World.cell?, heap_alloc_new]; rfl) | (simp only [World.frozen?, heap_alloc_new]; simp)
set_option maxHeartbeats 2000000 in
theorem parse_any (l : L8) (hl : l.length ≤ 1000000) (w : World) (hE : Env w) :
    Calls Tryd.prog 8 #[.string (strOf l)] w (ParsePost l w) := by
  have HE := Lib.hid hE
  have HX : Hid (parseX l = if 65536 < l.length then .error 3 else if checkL l.length l ≠ 0 then .error (checkL l.length l) else docL l) := rfl
  have HC := Lib.hid (check_any l hl w hE)
  have hcv := check_val l.length l
  have HOK := Lib.hid (check_ok l.length l (Nat.le_refl _))
  have hsz : (strOf l).size = l.length := size8 l
  have h8 : 8 ≤ w.heap.size := hE.2.2.2.2
  clear hE
  by_cases hbig : 65536 < l.length
  · rw [if_pos hbig] at HX
    have hb : (65536 : Int) < ((strOf l).size : Int) := by rw [hsz]; omega
    clear hbig hsz
    go_enter Tryd.func8, Tryd.ntmps8
    go_wp2_with fail
    go_ret2
    exact ⟨Below.refl _ _, .inr ⟨3, HX.out, rfl, .inl rfl⟩⟩
  · rw [if_neg hbig] at HX
    have hb : ((strOf l).size : Int) ≤ 65536 := by rw [hsz]; omega
    have hl2 : l.length ≤ 65536 := by omega
    generalize checkL l.length l = c at *
    clear hbig hsz
    by_cases hc : c = 0
    · rw [if_neg (by simpa using hc)] at HX
      have hv := HOK.out hc
      subst hc
      go_enter Tryd.func8, Tryd.ntmps8
      go_wp2_with fail
      refine HC.out.mono ?_
      rintro e w1 ⟨rfl, b1⟩
      have hE1 := HE.out.below h8 b1
      have h81 : 8 ≤ w1.heap.size := hE1.2.2.2.2
      have HD0 := Lib.hid (rd_new w1 l h81)
      have hb2 : Below w1.heap.size w1 (w1.alloc (.cells #[.string (strOf l), .slice none 0 0, .slice none 0 0, .slice none 0 0] 56)) := (Below.refl _ _).alloc (Nat.le_refl _) _
      have HE2 := Lib.hid (hE1.below h81 hb2)
      have HB2 := Lib.hid (b1.trans (hb2.mono b1.size))
      have hs1 : w.heap.size ≤ w1.heap.size := b1.size
      clear b1 hb2 hE1
      go_wp2_with fail
      generalize w1.alloc (.cells #[.string (strOf l), .slice none 0 0, .slice none 0 0, .slice none 0 0] 56) = w2 at *
      refine (document_any w1.heap.size l w2 HD0.out hv (by omega) HE2.out).mono ?_
      rintro e w3 ⟨b3, ⟨s', hs', rfl, hD'⟩ | ⟨c, hs', rfl, hcc⟩⟩
      · obtain ⟨vn, vo, vt, avs, hV⟩ := hD'
        have HF : Hid (ParsePost l w (.returned (.tuple #[vn, .int .i64 0])) w3) :=
          ⟨HB2.out.trans (b3.mono hs1), .inl ⟨s'.nodes, vn, HX.out.trans hs', rfl, avs, own_le hV.rows.n (by omega), hV.rows.la, fun k av nd h1 h2 => own_le (hV.rows.a k av nd h1 h2) (by omega)⟩⟩
        have c1 := hV.cel.c1
        obtain ⟨An, cn, hvn, _, _, _, _⟩ := own_form hV.rows.n
        subst hvn
        clear hs' b3 hV
        go_wp2_with fail
        go_ret2
        exact HF.out
      · have HQ := Lib.hid (HX.out.trans hs')
        have hc0 : (c == 0) = false := beq_eq_false_iff_ne.2 (by omega)
        have HCC := Lib.hid hcc
        have HB3 := Lib.hid (HB2.out.trans (b3.mono hs1))
        clear hs' hcc b3
        go_wp2_with fail
        go_ret2
        exact ⟨HB3.out, .inr ⟨c, HQ.out, rfl, by rcases HCC.out with h | h | h <;> simp [h]⟩⟩
    · rw [if_pos hc] at HX
      have hc0 : (c == 0) = false := beq_eq_false_iff_ne.2 hc
      have HCV := Lib.hid hcv
      clear hc hcv
      go_enter Tryd.func8, Tryd.ntmps8
      go_wp2_with fail
      refine HC.out.mono ?_
      rintro e w1 ⟨rfl, b1⟩
      go_wp2_with fail
      go_ret2
      exact ⟨b1, .inr ⟨c, HX.out, rfl, by rcases HCV.out with h | h | h <;> first | (simp [h]; done) | (subst h; simp at hc0)⟩⟩
end Go.Proofs.YtbehfhdkdekjfaaDoor
