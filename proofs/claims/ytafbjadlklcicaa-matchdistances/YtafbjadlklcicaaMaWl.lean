/- MatchWindows: the law's width. -/
import Derived.Test.YtafbjadlklcicaaMaAp
import Derived.Test.YtafbjadlklcicaaMaFi
import Derived.Test.YtafbjadlklcicaaMaGd
import Derived.Test.YtafbjadlklcicaaMaHd
import Derived.Test.YtafbjadlklcicaaMaBo
import Derived.Laws.EntriesVeiled
import Derived.Deep.RegionHeld3
namespace Go.Proofs.Ytafbjadlklcicaa
open Go.RowKit Go.Shelf
set_option maxRecDepth 100000

def loR (u : Int) (ss ps : List Int) (l : List Sp) : Int := l.foldl (fun m s => min m (rkL u ss ps s.1)) 1073741824
def hiR (u : Int) (ss ps : List Int) (l : List Sp) : Int := l.foldl (fun m s => max m (rkL u ss ps s.2.1)) (-1)
def widV (u : Int) (ss ps : List Int) (l : List Sp) : Int := if l.length = 0 then 0 else wrap64 (wrap64 (hiR u ss ps l - loR u ss ps l) + 1)
theorem fold_snoc (f : Int → Sp → Int) (a : Int) (l : List Sp) (k : Nat) (h : k < l.length) : (l.take (k + 1)).foldl f a = f ((l.take k).foldl f a) l[k] := by
  rw [List.take_succ_eq_append_getElem h, List.foldl_append]
  rfl
set_option maxHeartbeats 4000000 in
theorem wid_any (Bt Bu : Nat) (f t u : Int) (A1 : Option Addr) (n1 c1 : Nat) (A2 : Option Addr) (n2 c2 : Nat) (ss ps : List Int) (v : Value) (l : List Sp) (hl : l.length ≤ 1000000) (w : World) (hC : TC w Bt Bu f t u A1 n1 c1 A2 n2 c2 ss ps) (h : SV w w.heap.size v l) :
    Calls Try.prog 16 #[v, .pointer (some ⟨Bt, 0, none⟩), .pointer (some ⟨Bu, 0, none⟩)] w fun e w' => e = .returned (.int .i64 (widV u ss ps l)) ∧ Below w.heap.size w w' := by
  have hmx : Try.prog.follows .mixedOrders = true := by kernel_rfl
  obtain ⟨A, c, rfl, _, _, h3⟩ := h
  have HA := Lib.hid h3
  by_cases h0 : l.length = 0
  · rw [h0]
    unfold widV
    rw [if_pos h0]
    clear hC h3 h0
    go_enter Try.func16, Try.ntmps16
    go_wp2_with fail
    go_ret
    exact ⟨rfl, Below.refl _ _⟩
  · unfold widV
    rw [if_neg h0]
    obtain ⟨n, hn⟩ : ∃ n, n = l.length := ⟨_, rfl⟩
    have HN := Lib.hid hn
    rw [← hn] at h0 hl ⊢
    have hI : ((n : Int) == 0) = false := beq_eq_false_iff_ne.2 (by omega)
    have HC := Lib.hid hC
    obtain ⟨R, hR⟩ : ∃ R, R = wrap64 (wrap64 (hiR u ss ps l - loR u ss ps l) + 1) := ⟨_, rfl⟩
    rw [← hR]
    have HR := Lib.hid hR
    clear hC hn h3 hR
    go_enter Try.func16, Try.ntmps16
    go_wp2_with fail
    go_loopw [5, 6, 14] (fun s5 s6 i wr => ∃ (k : Nat) (a b : Int), k ≤ n ∧ i = .int .i64 k ∧ s5 = .int .i64 a ∧ s6 = .int .i64 b ∧ Hid (a = loR u ss ps (l.take k)) ∧ Hid (b = hiR u ss ps (l.take k)) ∧ Hid (Below w.heap.size w wr)) (fun _ _ i _ => n - (intOf i).toNat)
    case atStart => exact ⟨0, 1073741824, -1, Nat.zero_le _, rfl, rfl, rfl, rfl, rfl, Below.refl _ _⟩
    case round =>
      obtain ⟨k, a, b, hk, rfl, rfl, rfl, HLO, HHI, HB⟩ := hrel
      by_cases hlt : k < n
      · have hkl : k < l.length := by rw [← HN.out]; exact hlt
        have HLT := Lib.hid hlt
        obtain ⟨b', o, rfl, hb, hc⟩ := (HA.out.below HB.out) (by rw [spCs_len]; omega)
        obtain ⟨c0', c1', c2', c3'⟩ := spCs_at l k hkl
        have e0 := hc _ _ c0'
        have e1 := hc _ _ c1'
        have e2 := hc _ _ c2'
        have e3 := hc _ _ c3'
        rw [← Nat.add_assoc] at e1 e2 e3
        have HS1 : Hid (loR u ss ps (l.take (k + 1)) = min (loR u ss ps (l.take k)) (rkL u ss ps l[k].1)) := fold_snoc _ _ l k hkl
        have HS2 : Hid (hiR u ss ps (l.take (k + 1)) = max (hiR u ss ps (l.take k)) (rkL u ss ps l[k].2.1)) := fold_snoc _ _ l k hkl
        obtain ⟨x, hx⟩ : ∃ x, x = l[k] := ⟨_, rfl⟩
        rw [← hx] at e0 e1 e2 e3 HS1 HS2
        obtain ⟨Z, hZ⟩ : ∃ Z, wr.alloc (.cells #[.int .i64 x.1, .int .i64 x.2.1, .int .i64 x.2.2.1, .int .i64 x.2.2.2] 26) = Z := ⟨_, rfl⟩
        have bZ : Below wr.heap.size wr Z := by rw [← hZ]; exact (Below.refl _ _).alloc (Nat.le_refl _) _
        have hB4 : Box4 Z wr.heap.size x := by rw [← hZ]; exact Box4.new wr x
        have bwZ := HB.out.trans (bZ.mono HB.out.size)
        have HBZ := Lib.hid bwZ
        have HB4 := Lib.hid hB4
        obtain ⟨q0, q1, _, _⟩ := hB4.cells
        obtain ⟨cu, x0, x1, x2, x3, tx, hu⟩ := HC.out.kept (Kept.of bwZ)
        have KR : Hid (∀ W, Below w.heap.size w W → ∀ y, Calls Try.prog 17 #[txV f t A1 n1 c1 A2 n2 c2, .int .i64 u, .int .i64 y] W fun e w' => e = .returned (.int .i64 (rkL u ss ps y)) ∧ Below W.heap.size W w') := fun W hW y => lrank_any f t u y A1 n1 c1 A2 n2 c2 ss ps hu W ((HC.out.kept (Kept.of hW)).tx)
        have K1 := Lib.hid (KR.out Z bwZ x.1)
        obtain ⟨r1, hr1⟩ : ∃ r, r = rkL u ss ps x.1 := ⟨_, rfl⟩
        obtain ⟨r2, hr2⟩ : ∃ r, r = rkL u ss ps x.2.1 := ⟨_, rfl⟩
        rw [← hr1] at K1 HS1
        rw [← hr2] at HS2
        have HR2 := Lib.hid hr2
        have HZ := Lib.hid hZ
        have wk : IntKind.i64.wrap ((k : Int) + 1) = (k : Int) + 1 := by rw [IntKind.wrap_i64]; omega
        clear hc c0' c1' c2' c3' hx hb hZ bZ bwZ hB4 hkl hr1 hr2 tx
        obtain ⟨xf, xt, xu, xv⟩ := x
        unfold txV at K1 KR
        simp only at e0 e1 e2 e3 q0 q1 K1 HZ HR2
        go_upto_region 8 with fail
        rw [HZ.out]
        clear e0 e1 e2 e3
        go_wp2_with fail
        with_reducible refine K1.out.mono ?_
        rintro e w5 ⟨rfl, b5⟩
        have HB5 := Lib.hid (HBZ.out.trans (b5.mono HBZ.out.size))
        have K2 := Lib.hid (KR.out w5 HB5.out xt)
        rw [← HR2.out] at K2
        clear x0 x1 x2 x3 cu q0 q1
        obtain ⟨cu, x0, x1, x2, x3, _, _⟩ := HC.out.kept (Kept.of HB5.out)
        obtain ⟨_, q1, _, _⟩ := (HB4.out.below b5).cells
        simp only at q1
        clear b5 K1
        go_wp2_with fail
        with_reducible refine K2.out.mono ?_
        rintro e w6 ⟨rfl, b6⟩
        have HB6 := Lib.hid (HB5.out.trans (b6.mono HB5.out.size))
        clear b6 K2 x0 x1 x2 x3 cu q1 KR
        have HA1 : Hid (min a r1 = loR u ss ps (l.take (k + 1))) := by show _ = _; rw [HS1.out, ← HLO.out]
        have HA2 : Hid (max b r2 = hiR u ss ps (l.take (k + 1))) := by show _ = _; rw [HS2.out, ← HHI.out]
        go_wp2_with fail
        exact ⟨⟨k + 1, min a r1, max b r2, HLT.out, by go_num, rfl, rfl, HA1, HA2, HB6⟩, by have := HLT.out; simp [intOf]; omega⟩
      · obtain rfl : k = n := by omega
        have HF : Hid (wrap64 (wrap64 (b - a) + 1) = R) := by show _ = _; rw [HR.out, HLO.out, HHI.out, show l.take k = l from List.take_of_length_le (by rw [HN.out]; exact Nat.le_refl _)]
        go_wp2_with fail
        go_ret
        exact ⟨by rw [← HF.out]; rfl, HB.out⟩
end Go.Proofs.Ytafbjadlklcicaa
