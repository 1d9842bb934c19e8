/- MatchWindows: into so many units. -/
import Derived.Test.YtafbjadlklcicaaMaWl
import Derived.Laws.EntriesVeiled
import Derived.Deep.RegionHeld3
namespace Go.Proofs.Ytafbjadlklcicaa
open Go.RowKit Go.Shelf
set_option maxRecDepth 100000

abbrev widF (Bt Bu : Nat) : Value := .func (.func 16) #[] #[.pointer (some ⟨Bt, 0, none⟩), .pointer (some ⟨Bu, 0, none⟩)]
def intP (u : Int) (ss ps : List Int) (n : Int) (l : List Sp) : Bool := decide (widV u ss ps l ≤ n)
set_option maxHeartbeats 2000000 in
theorem int1_any (Bw Bn Bt Bu : Nat) (n f t u : Int) (A1 : Option Addr) (n1 c1 : Nat) (A2 : Option Addr) (n2 c2 : Nat) (ss ps : List Int) (v : Value) (l : List Sp) (hl : l.length ≤ 1000000) (w : World) (hf : w.cell? ⟨Bw, 0, none⟩ = some (widF Bt Bu)) (hn : w.cell? ⟨Bn, 0, none⟩ = some (.int .i64 n)) (hC : TC w Bt Bu f t u A1 n1 c1 A2 n2 c2 ss ps) (h : SV w w.heap.size v l) :
    Calls Try.prog 19 #[v, .pointer (some ⟨Bw, 0, none⟩), .pointer (some ⟨Bn, 0, none⟩)] w fun e w' => e = .returned (.bool (intP u ss ps n l)) ∧ Below w.heap.size w w' := by
  have hmx : Try.prog.follows .mixedOrders = true := by kernel_rfl
  have KW : Hid (∀ r : WB w.heap.size w, Calls Try.prog 16 #[v, .pointer (some ⟨Bt, 0, none⟩), .pointer (some ⟨Bu, 0, none⟩)] r.w fun e w' => e = .returned (.int .i64 (widV u ss ps l)) ∧ Below r.w.heap.size r.w w') := fun r => wid_any Bt Bu f t u A1 n1 c1 A2 n2 c2 ss ps v l hl r.w (hC.kept (Kept.of r.ok)) (h.up r.ok)
  have zf : ∀ r : WB w.heap.size w, r.w.cell? ⟨Bw, 0, none⟩ = some (widF Bt Bu) := fun r => (Kept.of r.ok).cell hf
  have zn : ∀ r : WB w.heap.size w, r.w.cell? ⟨Bn, 0, none⟩ = some (.int .i64 n) := fun r => (Kept.of r.ok).cell hn
  unfold intP
  unfold widF at zf
  obtain ⟨A, c, rfl, _⟩ := h
  generalize l.length = n0 at KW ⊢
  generalize widV u ss ps l = wv at KW ⊢
  clear hf hn hC hl
  go_enter Try.func19, Try.ntmps19
  go_wp2_with fail
  refine wp_region_quietB w.heap.size w hmx (by kernel_rfl) (Below.refl _ _) ?_
  repeat (go_big_quiet_step ((go_at_call 16; with_reducible exact calls_quietB (KW.out _) (Nat.le_refl _))))
  refine wpQuiet_nil ?_
  intro _ hw'
  obtain ⟨pq, rfl⟩ := hw'
  go_wp2_with fail
  go_ret
  exact ⟨rfl, pq.ok⟩
def intT (u : Int) (ss ps : List Int) (n : Int) (l : List Sp) (s : Sp) : Bool := decide (widV u ss ps (l ++ [s]) ≤ n)
set_option maxHeartbeats 4000000 in
theorem int2_any (Bw Bn Bt Bu : Nat) (n f t u : Int) (A1 : Option Addr) (n1 c1 : Nat) (A2 : Option Addr) (n2 c2 : Nat) (ss ps : List Int) (v : Value) (l : List Sp) (hl : l.length ≤ 1000) (s : Sp) (w : World) (hf : w.cell? ⟨Bw, 0, none⟩ = some (widF Bt Bu)) (hn : w.cell? ⟨Bn, 0, none⟩ = some (.int .i64 n)) (hC : TC w Bt Bu f t u A1 n1 c1 A2 n2 c2 ss ps) (h : SV w w.heap.size v l) :
    Calls Try.prog 20 #[v, spV s, .pointer (some ⟨Bw, 0, none⟩), .pointer (some ⟨Bn, 0, none⟩)] w fun e w' => e = .returned (.bool (intT u ss ps n l s)) ∧ Below w.heap.size w w' := by
  obtain ⟨X, hX⟩ : ∃ X, w.alloc (.cells #[.int .i64 s.1, .int .i64 s.2.1, .int .i64 s.2.2.1, .int .i64 s.2.2.2] 26) = X := ⟨_, rfl⟩
  have bX : Below w.heap.size w X := by rw [← hX]; exact (Below.refl _ _).alloc (Nat.le_refl _) _
  have hB : Box4 X w.heap.size s := by rw [← hX]; exact Box4.new w s
  obtain ⟨q0, q1, q2, q3⟩ := hB.cells
  have hfX := (Kept.of bX).cell hf
  have hnX := (Kept.of bX).cell hn
  have hCX := hC.kept (Kept.of bX)
  have hvX := h.up bX
  obtain ⟨V, hV⟩ : ∃ V, (X.alloc (.cells #[.int .i64 s.1, .int .i64 s.2.1, .int .i64 s.2.2.1, .int .i64 s.2.2.2] 26)).drew = V := ⟨_, rfl⟩
  have bV : Below X.heap.size X V := by rw [← hV]; exact ((Below.refl _ _).alloc (Nat.le_refl _) _).drew
  have hsv : SV V V.heap.size (.slice (some ⟨X.heap.size, 0, none⟩) 1 1) [s] := by
    have k := (sv_lit1 X s).below ((Below.refl (X.heap.size + 1) (X.alloc (.cells #[.int .i64 s.1, .int .i64 s.2.1, .int .i64 s.2.2.1, .int .i64 s.2.2.2] 26))).drew)
    rw [hV] at k
    exact k.more (by rw [← hV]; simp)
  have HCW : Hid (∀ W, Below X.heap.size X W → (W.cell? ⟨Bw, 0, none⟩ = some (widF Bt Bu) ∧ W.cell? ⟨Bn, 0, none⟩ = some (.int .i64 n)) ∧ (W.cell? ⟨w.heap.size, 0, none⟩ = some (.int .i64 s.1) ∧ W.cell? ⟨w.heap.size, 1, none⟩ = some (.int .i64 s.2.1) ∧ W.cell? ⟨w.heap.size, 2, none⟩ = some (.int .i64 s.2.2.1) ∧ W.cell? ⟨w.heap.size, 3, none⟩ = some (.int .i64 s.2.2.2))) := fun W hW => ⟨⟨(Kept.of hW).cell hfX, (Kept.of hW).cell hnX⟩, (Kept.of hW).cell q0, (Kept.of hW).cell q1, (Kept.of hW).cell q2, (Kept.of hW).cell q3⟩
  obtain ⟨A, c, rfl, _⟩ := id h
  obtain ⟨n0, hn0⟩ : ∃ k, k = l.length := ⟨_, rfl⟩
  have KB : Hid (Calls Try.prog 21 #[.slice A n0 c, .slice (some ⟨X.heap.size, 0, none⟩) 1 1] V fun e w' => ∃ A' c', e = .returned (.slice A' (n0 + 1) c') ∧ SV w' w'.heap.size (.slice A' (n0 + 1) c') (l ++ [s]) ∧ Below X.heap.size X w') := by
    rw [hn0]
    exact (both_any A (some ⟨X.heap.size, 0, none⟩) l.length c 1 1 (l.length + 1) l [s] rfl (by omega) V (hvX.up bV) hsv).mono fun e w' ⟨A', c', h1, h2, h3, _⟩ => ⟨A', c', h1, h2, bV.trans (h3.mono bV.size)⟩
  have KW : Hid (∀ W A' c', Below X.heap.size X W → SV W W.heap.size (.slice A' (n0 + 1) c') (l ++ [s]) → Calls Try.prog 16 #[.slice A' (n0 + 1) c', .pointer (some ⟨Bt, 0, none⟩), .pointer (some ⟨Bu, 0, none⟩)] W fun e w' => e = .returned (.int .i64 (widV u ss ps (l ++ [s]))) ∧ Below X.heap.size X w') := fun W A' c' hW hv => (wid_any Bt Bu f t u A1 n1 c1 A2 n2 c2 ss ps _ (l ++ [s]) (by rw [List.length_append]; simp; omega) W (hCX.kept (Kept.of hW)) hv).mono fun e w' ⟨h1, h2⟩ => ⟨h1, hW.trans (h2.mono hW.size)⟩
  have HBX := Lib.hid bX
  have BR := Lib.hid (Below.refl X.heap.size X)
  have HX := Lib.hid hX
  unfold intT
  rw [← hn0]
  generalize widV u ss ps (l ++ [s]) = wv at KW ⊢
  rw [← hV] at KB
  unfold widF at HCW
  clear hX bX hB q0 q1 q2 q3 hfX hnX hCX hvX hV bV hsv hf hn hC h hn0 hl
  obtain ⟨s0, s1, s2, s3⟩ := s
  unfold spV
  simp only at HX KB HCW
  go_enter Try.func20, Try.ntmps20
  go_upto_region 1 with fail
  rw [HX.out]
  go_region_held3 (fun W => (W.cell? ⟨Bw, 0, none⟩ = some (.func (.func 16) #[] #[.pointer (some ⟨Bt, 0, none⟩), .pointer (some ⟨Bu, 0, none⟩)]) ∧ W.cell? ⟨Bn, 0, none⟩ = some (.int .i64 n)) ∧ (W.cell? ⟨w.heap.size, 0, none⟩ = some (.int .i64 s0) ∧ W.cell? ⟨w.heap.size, 1, none⟩ = some (.int .i64 s1) ∧ W.cell? ⟨w.heap.size, 2, none⟩ = some (.int .i64 s2) ∧ W.cell? ⟨w.heap.size, 3, none⟩ = some (.int .i64 s3)))
    (first | exact HCW.out _ BR.out.drew | exact HCW.out _ (BR.out.drew.alloc (Nat.le_refl _) _) | exact HCW.out _ (by assumption))
    (first
      | (go_at_call 21; (with_reducible refine KB.out.mono ?_); rintro e w5 ⟨A5, c5, rfl, s5, b5⟩)
      | (go_at_call 16; (with_reducible refine (KW.out _ _ _ (by assumption) (by assumption)).mono ?_); rintro e w6 ⟨rfl, b6⟩))
  go_wp2_with fail
  go_ret
  exact ⟨rfl, HBX.out.trans (b6.mono HBX.out.size)⟩
end Go.Proofs.Ytafbjadlklcicaa
