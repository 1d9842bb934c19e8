/- utf.Map with utf.Low (as MapWalk, on top of the glob texts). -/
import Derived.Test.YtjeccmmhmdgdgaaGreatDoorGlWalk7
import Derived.Test.YtjeccmmhmdgdgaaGreatDoorLowWalk
import Derived.Outline
namespace Go.Proofs.YtjeccmmhmdgdgaaGreatDoor
open Go.RowKit
set_option maxRecDepth 100000

theorem one8 (W : World) (x : UInt8) : BS (W.alloc (.cells #[.int .u8 (x.toNat : Int)] 5)) (W.heap.size + 1) (some ⟨W.heap.size, 0, none⟩) [x] := fun _ => by
  refine ⟨W.heap.size, 0, rfl, by omega, fun k hk => ?_⟩
  have hk0 : k = 0 := by simpa using hk
  subst hk0
  rw [Nat.zero_add, World.cell?_alloc_mark, at8_eq _ 0 (by simp)]
  rfl
theorem info8 : (Tryz.prog.info? 5).map (fun i => (i.zero, i.size, i.bytes)) = some (some (.int .u8 0), 1, 1) := by kernel_rfl
set_option maxHeartbeats 4000000 in
theorem map_any (F : Nat) (g : Nat → Int) (HF : Hid (∀ r W, isSign r → Calls Tryz.prog F #[.int .i32 r] W fun e w' => e = .returned (.int .i32 (g r)) ∧ W = w'))
    (HC : Hid (∀ (x : Int) W, (callFunc F #[.int .i32 x]).run Tryz.prog W = .ok (.enter F #[.int .i32 x]) W)) (l : List UInt8) (w : World) (hT : UT w) (hl : l.length ≤ 100000000) :
    Calls Tryz.prog 29 #[.string (strOf l), .func (.func F) #[] #[]] w fun e w' => e = .returned (.string (strOf (mapL g l))) ∧ Below w.heap.size w w' := by
  obtain ⟨i0, hi, hz0, hz1, hz2⟩ := info_parts info8
  have HZ := Lib.hid (size8 l)
  have hsz : (strOf l).size ≤ 100000000 := by have := HZ.out; omega
  go_enter Tryz.func29, Tryz.ntmps29
  go_wp2_with (first
    | (at_make; refine wpList_make_own _ rfl _ _ 78 rfl w.heap.size 5 i0 (.int .u8 0) 1 Tryz.underlying78 hi hz0 hz1 .i64 .i64 _ (strOf l).size rfl rfl rfl (by rw [hz2]; omega) (by unfold maxLen; omega) (Nat.le_refl _) ?_; intro w0 hown0 hg0))
  have hb0 : Below w.heap.size w w0 := below_of_grown hg0 (fun k h => by cases h)
  have hown0' : Own8 w0 w.heap.size 5 (.slice (some ⟨w.heap.size, 0, none⟩) 0 (strOf l).size) [] := hown0
  clear hown0 hg0
  go_loopw [0, 5] (fun s b wr => ∃ t d : List UInt8, s = .string (strOf t) ∧ Own8 wr w.heap.size 5 b d ∧ Below w.heap.size w wr ∧ t.length ≤ l.length ∧ d.length ≤ 4 * (l.length - t.length) ∧ d ++ mapL g t = mapL g l) (fun s _ _ => sz s)
  case atStart => exact ⟨l, [], rfl, hown0', hb0, Nat.le_refl _, by simp, rfl⟩
  case round =>
    obtain ⟨t, d, rfl, hown, hbel, htl, hdl, hm⟩ := hrel
    have HM := Lib.hid hm
    have HT := Lib.hid (size8 t)
    have hts : (strOf t).size ≤ 100000000 := by have := HT.out; omega
    clear hm hown0'
    by_cases he : t = []
    · subst he
      have h0 : (strOf ([] : List UInt8)).size = 0 := rfl
      clear HT hts
      obtain ⟨A3, c3, rfl, hc3, _, hbs3, _⟩ := hown.form
      obtain ⟨m3, hm3⟩ : ∃ m3, m3 = d.length := ⟨_, rfl⟩
      rw [← hm3] at hc3 ⊢
      have hcv : (convert 78 9 (.slice A3 m3 c3)).run Tryz.prog wr = .ok (.string (strOf d)) wr := hbs3.conv m3 c3 hm3
      have hd : d = mapL g l := by have := HM.out; rwa [mapL_nil, List.append_nil] at this
      have HD := Lib.hid hd
      clear hown hbs3 hd hm3
      go_wp2_with fail
      go_ret
      exact ⟨by rw [← HD.out]; rfl, hbel⟩
    · have hp := List.length_pos_iff.2 he
      have h0 : (0 : Int) < ((strOf t).size : Int) := by have := HT.out; omega
      have hN := next_any t wr (ut_keep hT hbel)
      obtain ⟨r, k, hrk⟩ : ∃ r k, nextN t = (r, k) := ⟨_, _, rfl⟩
      rw [hrk] at hN
      have HN := Lib.hid hN
      clear hN
      by_cases hk : 0 < k
      · obtain ⟨hs, hkl, _⟩ := nextN_some t r k hrk hk
        have hks : (k : Int) ≤ ((strOf t).size : Int) := by have := HT.out; omega
        have hk0 : ((k : Int) == 0) = false := by simp; omega
        have hcut := cut8 t k
        have HG : Hid ((d ++ putL (g r)) ++ mapL g (t.drop k) = mapL g l) := by show _ = _; rw [List.append_assoc, ← mapL_sign g t r k hrk hk]; exact HM.out
        have hpl := putL_len (g r)
        clear hrk
        go_wp2_with fail
        refine HN.out.mono ?_
        rintro e w2 ⟨rfl, hb2⟩
        simp only
        have hown2 := hown.below hb2
        have hbel2 : Below w.heap.size w w2 := hbel.trans (hb2.mono hbel.size)
        have hs2 : w.heap.size ≤ w2.heap.size := hbel2.size
        go_wp2_with fail
        rw [HC.out, Oper.upon_enter]
        refine (HF.out r _ hs).mono ?_
        rintro e w3 ⟨rfl, rfl⟩
        go_wp2_with fail
        refine (uput_all _ d w.heap.size (g r) w2 hown2 hs2 (by omega)).mono ?_
        rintro e w4 ⟨v4, rfl, hown4, hg4⟩
        have hbel4 : Below w.heap.size w w4 := hown2.grow (Nat.le_refl _) hbel2 hs2 hg4
        clear hown hown2 hg4 hs
        go_wp2_with fail
        refine ⟨⟨t.drop k, d ++ putL (g r), rfl, hown4, hbel4, by simp; omega, by simp; omega, HG.out⟩, ?_⟩
        show (strOf (t.drop k)).size < (strOf t).size
        rw [size8, size8]
        simp
        omega
      · have hk0' : k = 0 := by omega
        subst hk0'
        have hr0 := (nextN_zero t r 0 hrk rfl).1
        subst hr0
        obtain ⟨x, hx⟩ : ∃ x, x = (strOf t)[0]'(by have := HT.out; omega) := ⟨_, rfl⟩
        have htk : t.take 1 = [x] := by
          rw [hx]
          cases t with
          | nil => exact absurd rfl he
          | cons c t' => rfl
        have HG : Hid ((d ++ [x]) ++ mapL g (t.drop 1) = mapL g l) := by show _ = _; rw [List.append_assoc, ← htk, ← mapL_bad g t he (by rw [hrk])]; exact HM.out
        obtain ⟨q, hq⟩ : ∃ q, q = t.drop 1 := ⟨_, rfl⟩
        have hcut : (strOf t).extract 1 (strOf t).size = strOf q := by rw [hq]; exact cut8 t 1
        rw [← hq] at HG
        have hql : q.length + 1 = t.length := by rw [hq]; simp; omega
        have hx' : (strOf t)[0]'(by have := HT.out; omega) = x := hx.symm
        clear hrk htk hx hq
        go_wp2_with fail
        refine HN.out.mono ?_
        rintro e w2 ⟨rfl, hb2⟩
        simp only
        have hown2 := hown.below hb2
        have hbel2 : Below w.heap.size w w2 := hbel.trans (hb2.mono hbel.size)
        have hs2 : w.heap.size ≤ w2.heap.size := hbel2.size
        have hownA : Own8 (w2.alloc (.cells #[.int .u8 (x.toNat : Int)] 5)) w.heap.size 5 u5 d := hown2.below ((Below.refl _ _).alloc (Nat.le_refl _) _)
        have hbelA : Below w.heap.size w (w2.alloc (.cells #[.int .u8 (x.toNat : Int)] 5)) := hbel2.alloc hs2 _
        have hszA : w.heap.size ≤ (w2.alloc (.cells #[.int .u8 (x.toNat : Int)] 5)).heap.size := hbelA.size
        go_wp2_with (first
          | (at_builtin
             refine wpList_append8 _ rfl (.tmp 21) (.tmp 24) rfl w.heap.size u5 d rfl hownA (some ⟨w2.heap.size, 0, none⟩) 1 1 (w2.heap.size + 1) [x] rfl rfl (one8 w2 x) (by simp only [List.length_singleton]; omega) hszA ?_
             intro v4 w4 hown4 hg4 hat4))
        have hbel4 : Below w.heap.size w w4 := hownA.grow (Nat.le_refl _) hbelA hszA hg4
        clear hown hown2 hg4 hownA hat4
        refine ⟨⟨q, d ++ [x], rfl, hown4, hbel4, by omega, by simp; omega, HG.out⟩, ?_⟩
        show (strOf q).size < (strOf t).size
        rw [size8, size8]
        omega

theorem enter_of {P : Program} {F : FuncId} {fn : Func} (hf : P.funcs[F]? = some fn) (hn : (fn.name == "runtime.NumGoroutine") = false) (hb : fn.body.isNone = false) (args : Array Value) (W : World) : (callFunc F args).run P W = .ok (.enter F args) W := by
  have hn' : ¬ fn.name = "runtime.NumGoroutine" := beq_eq_false_iff_ne.1 hn
  have hb' : ¬ fn.body = none := fun e => by rw [e] at hb; cases hb
  simp [callFunc, go_sem, hf, hn', hb']
theorem go_low (x : Int) (W : World) : (callFunc 30 #[.int .i32 x]).run Tryz.prog W = .ok (.enter 30 #[.int .i32 x]) W := enter_of Tryz.func30 (by kernel_rfl) (by kernel_rfl) _ W
theorem map_low (l : List UInt8) (w : World) (hT : UT w) (hl : l.length ≤ 100000000) :
    Calls Tryz.prog 29 #[.string (strOf l), .func (.func 30) #[] #[]] w fun e w' => e = .returned (.string (strOf (mapL lowN l))) ∧ Below w.heap.size w w' :=
  map_any _ lowN (fun r W h => low_any (r : Int) (by omega) (by unfold isSign at h; omega) W) go_low l w hT hl
end Go.Proofs.YtjeccmmhmdgdgaaGreatDoor
