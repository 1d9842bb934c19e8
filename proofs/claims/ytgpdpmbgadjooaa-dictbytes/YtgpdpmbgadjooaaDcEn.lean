/- dict: common, Encode. -/
import Derived.Test.YtgpdpmbgadjooaaDcHd
import Derived.Test.YtgpdpmbgadjooaaDcEs
import Derived.Test.YtgpdpmbgadjooaaRdO
import Derived.Deep.QuietTactic
import Derived.BigQuiet
import Derived.IntWalk
import Derived.WalkLawsBesides
namespace Go.Proofs.Ytgpdpmbgadjooaa
open Go.RowKit Go.Sort
set_option maxRecDepth 100000

set_option maxHeartbeats 1000000 in
theorem common_ba (s t : ByteArray) (hs : s.size ≤ 100000000) (_ht : t.size ≤ 100000000) (W : World) :
    Calls Try.prog 55 #[.string s, .string t] W fun e w' => e = .returned (.int .i64 (com s.data.toList t.data.toList : Nat)) ∧ ∃ q, w' = W.drewN q := by
  go_enter Try.func55, Try.ntmps55
  go_wp2_with fail
  go_loopw [5] (fun n wr => ∃ k : Nat, k ≤ s.size ∧ k ≤ t.size ∧ Hid (∀ j, j < k → s.data.toList[j]? = t.data.toList[j]?) ∧ n = .int .i64 k ∧ ∃ q, wr = W.drewN q) (fun n _ => s.size - (intOf n).toNat)
  case atStart => exact ⟨0, Nat.zero_le _, Nat.zero_le _, fun j h => absurd h (Nat.not_lt_zero _), rfl, 0, rfl⟩
  case round =>
    obtain ⟨k, hk1, hk2, HE, rfl, q, rfl⟩ := hrel
    by_cases hlt : k < min s.size t.size
    · have h1 : k < s.size := by omega
      have h2 : k < t.size := by omega
      have i1 : (k : Int) < (s.size : Int) := by omega
      have i2 : (k : Int) < (t.size : Int) := by omega
      have d1 : decide ((k : Int) < min (s.size : Int) (t.size : Int)) = true := decide_eq_true (by omega)
      have hg : ∀ (u : ByteArray) (h : k < u.size), u.data.toList[k]? = some u[k] := fun u h => by rw [List.getElem?_eq_getElem (by simpa using h)]; rfl
      have HG := Lib.hid hg
      clear hg
      by_cases heq : s[k] = t[k]
      · have he : ((s[k].toNat : Int) == (t[k].toNat : Int)) = true := by rw [heq]; simp
        have HQ := Lib.hid heq
        clear heq
        go_wp2_with fail
        go_quiet (fail)
        go_wp2_with fail
        go_roundw
        case rel => exact ⟨k + 1, h1, h2, fun j hj => by
          rcases Nat.lt_or_ge j k with g | g
          · exact HE.out j g
          · obtain rfl : j = k := by omega
            rw [HG.out s h1, HG.out t h2, HQ.out], by go_num, q + nq, by simp⟩
        case measure => simp [intOf]; omega
      · have he : ((s[k].toNat : Int) == (t[k].toNat : Int)) = false := by
          refine beq_eq_false_iff_ne.2 fun e => heq (UInt8.toNat_inj.1 (by omega))
        have HQ : Hid (com s.data.toList t.data.toList = k) := com_eq _ _ k (by simpa using hk1) (by simpa using hk2) HE.out (fun _ _ e => heq (by rw [HG.out s h1, HG.out t h2] at e; exact Option.some.inj e))
        clear heq
        go_wp2_with fail
        go_quiet (fail)
        go_wp2_with fail
        go_ret
        exact ⟨by rw [HQ.out]; rfl, q + nq, by simp⟩
    · have d1 : decide ((k : Int) < min (s.size : Int) (t.size : Int)) = false := decide_eq_false (by omega)
      have HQ : Hid (com s.data.toList t.data.toList = k) := com_eq _ _ k (by simpa using hk1) (by simpa using hk2) HE.out (fun a b => by simp at a b; omega)
      go_wp2_with fail
      go_quiet (fail)
      go_wp2_with fail
      go_ret
      exact ⟨by rw [HQ.out]; rfl, q + nq, by simp⟩
theorem common_any (v u : B8) (hv : v.length ≤ 1000000) (hu : u.length ≤ 1000000) (W : World) :
    Calls Try.prog 55 #[.string ⟨v.toArray⟩, .string ⟨u.toArray⟩] W fun e w' => e = .returned (.int .i64 (com v u : Nat)) ∧ ∃ q, w' = W.drewN q := by
  have h := common_ba ⟨v.toArray⟩ ⟨u.toArray⟩ (by show v.toArray.size ≤ _; simp; omega) (by show u.toArray.size ≤ _; simp; omega) W
  simpa using h
theorem last_take (ws : List B8) (k : Nat) (hk : k < ws.length) : lastD [] (ws.take (k + 1)) = ws[k] := by
  unfold lastD
  rw [List.take_succ_eq_append_getElem hk, List.getLast?_concat]
  rfl
theorem cell_of_heap {w w' : World} {b o : Nat} (h : w'.heap[b]? = w.heap[b]?) : w'.cell? ⟨b, o, none⟩ = w.cell? ⟨b, o, none⟩ := by simp [World.cell?, h]
theorem str_size (x : B8) : (⟨x.toArray⟩ : ByteArray).size = x.length := by show x.toArray.size = _; simp
theorem str_app (p e : B8) : (⟨p.toArray⟩ : ByteArray) ++ (⟨e.toArray⟩ : ByteArray) = ⟨(p ++ e).toArray⟩ := by
  refine ByteArray.ext ?_
  rw [ByteArray.data_append]
  simp
theorem str_from (x : B8) (k : Nat) (hk : k ≤ x.length) (W : World) : (Instr.slice 9 (.string ⟨x.toArray⟩) (some (.int .i64 (k : Int))) none none).run Try.prog W = .ok (.string ⟨(x.drop k).toArray⟩) W := by
  rw [run_slice_string_l W 9 _ Try.underlying9 .i64 (k : Int) (by omega) (by rw [str_size]; omega)]
  congr 2
  refine ByteArray.ext (Array.toList_inj.1 ?_)
  rw [Lib.extract_data, str_size]
  simp
  exact List.take_of_length_le (by simp)
theorem str_to (x : B8) (k : Nat) (hk : k ≤ x.length) (W : World) : (Instr.slice 9 (.string ⟨x.toArray⟩) none (some (.int .i64 (k : Int))) none).run Try.prog W = .ok (.string ⟨(x.take k).toArray⟩) W := by
  rw [run_slice_string_h W 9 _ Try.underlying9 .i64 (k : Int) (by omega) (by rw [str_size]; omega)]
  congr 2
  refine ByteArray.ext (Array.toList_inj.1 ?_)
  rw [Lib.extract_data]
  simp
theorem last_len (ws : List B8) (k m : Nat) (h : ∀ x ∈ ws, x.length ≤ m) : (lastD [] (ws.take k)).length ≤ m := by
  unfold lastD
  cases hl : (ws.take k).getLast? with
  | none => simp
  | some x => exact h x (List.mem_of_mem_take (List.mem_of_getLast? hl))
set_option maxHeartbeats 2000000 in
theorem encode_any (A : Option Addr) (n c : Nat) (ws : List B8) (v : Value) (l : B8) (base : Nat) (hn : Hid (n = ws.length ∧ ∀ x ∈ ws, x.length ≤ 1000)) (hn1 : n ≤ 1000) (w : World) (hl : l.length ≤ 1000000) (hcs : CS w base A (ws.map encStr)) (hown : Own8 w base 5 v l) (hbase : base ≤ w.heap.size) :
    Calls Try.prog 33 #[.agg #[.slice A n c], v] w fun e w' => ∃ v', e = .returned v' ∧ Own8 w' base 5 v' (l ++ eD ws) ∧ Below base w w' := by
  have HL : Hid (∀ k, k ≤ ws.length → (l ++ (enc n ++ eWs [] (ws.take k))).length ≤ 3000000) := fun k hk => by
    have h1 := (eWs_len (ws.take k) [] 1000 (fun x hx => hn.out.2 x (List.mem_of_mem_take hx)) (by decide)).1
    have h2 := glen_le10 n (by omega)
    have h3 : (ws.take k).length * (1000 + 20) ≤ 1000 * 1020 := Nat.mul_le_mul (by rw [List.length_take]; have := hn.out.1; omega) (by decide)
    unfold glen at h2
    simp only [List.length_append]
    omega
  have HS := Lib.hid hcs
  obtain ⟨X, hX⟩ : ∃ X, w.alloc (.cells #[.slice A n c] 55) = X := ⟨_, rfl⟩
  have bX : Below w.heap.size w X := by rw [← hX]; exact (Below.refl _ _).alloc (Nat.le_refl _) _
  have sX : w.heap.size < X.heap.size := by rw [← hX]; simp
  have cX : X.cell? ⟨w.heap.size, 0, none⟩ = some (.slice A n c) := by
    rw [← hX]
    have z := new_cells w #[.slice A n c] 55 (0, 0) 0 _ rfl
    rwa [add_addr, Nat.zero_add] at z
  have ow := hown.below bX
  have hob : ∀ b, v.ownBlock = some b → b < w.heap.size := by
    obtain ⟨_, _, _, _, _, _, hb⟩ := hown.form
    exact fun b h => (hb b h).2
  have HOB := Lib.hid hob
  have HBX := Lib.hid (bX.mono hbase)
  clear bX hob hcs
  go_enter Try.func33, Try.ntmps33
  go_wp2_with fail
  with_reducible refine (put_any v l base n (by omega) _ ow (by omega) (by omega)).mono ?_
  rintro e w1 ⟨v1, rfl, own1, g1, _⟩
  have HB1 := Lib.hid (ow.grow (Nat.le_refl _) HBX.out (by omega) g1)
  have s1 : base ≤ w1.heap.size := by have := g1.size; omega
  have c1 : w1.cell? ⟨w.heap.size, 0, none⟩ = some (.slice A n c) := by
    rw [← cX]
    exact cell_of_heap (g1.block w.heap.size sX (fun e => by have := HOB.out _ e.symm; omega))
  have O1 := Lib.hid own1
  clear cX ow g1 own1
  go_wp2_with fail
  go_loopw [1, 5, 18] (fun s1 s5 s18 wr => ∃ (k : Nat) (v' : Value), k ≤ n ∧ s18 = .int .i64 k ∧ v' = s1 ∧ s5 = .string ⟨(lastD [] (ws.take k)).toArray⟩ ∧ Hid (Own8 wr base 5 v' (l ++ (enc n ++ eWs [] (ws.take k)))) ∧ Hid (Below base w wr) ∧ base ≤ wr.heap.size) (fun _ _ i _ => n - (intOf i).toNat)
  case atStart => exact ⟨0, v1, Nat.zero_le _, rfl, rfl, rfl, by show Own8 _ _ _ _ _; simpa [eWs] using O1.out, HB1, s1⟩
  case round =>
    obtain ⟨k, v', hk, rfl, rfl, rfl, HO, HB, hsz⟩ := hrel
    clear c1
    by_cases hlt : k < n
    · have hkw : k < ws.length := by rw [← hn.out.1]; exact hlt
      obtain ⟨b, o, rfl, hb, hc⟩ := (HS.out.below HB.out) (by rw [List.length_map]; omega)
      have hcx := hc k _ (enc_cells_at ws k hkw)
      obtain ⟨x, hx⟩ : ∃ x, x = ws[k] := ⟨_, rfl⟩
      rw [← hx] at hcx
      have hxl : x.length ≤ 1000 := by rw [hx]; exact hn.out.2 _ (List.getElem_mem hkw)
      obtain ⟨a, ha⟩ : ∃ a, a = lastD [] (ws.take k) := ⟨_, rfl⟩
      have hal : a.length ≤ 1000 := by rw [ha]; exact last_len ws k 1000 hn.out.2
      rw [← ha]
      have HT : Hid (l ++ (enc n ++ eWs [] (ws.take (k + 1))) = l ++ (enc n ++ eWs [] (ws.take k)) ++ enc (com a x) ++ (enc (x.length - com a x) ++ x.drop (com a x)) ∧ lastD [] (ws.take (k + 1)) = x) := by
        refine ⟨?_, by rw [last_take ws k hkw, hx]⟩
        rw [List.take_succ_eq_append_getElem hkw, eWs_snoc, ← ha, ← hx, eW]
        simp only [List.append_assoc]
      obtain ⟨cm, hcm⟩ : ∃ cm, cm = com a x := ⟨_, rfl⟩
      have hcl := com_le a x
      rw [← hcm] at HT hcl
      have hlen := HL.out k (by omega)
      obtain ⟨L, hL⟩ : ∃ L, L = l ++ (enc n ++ eWs [] (ws.take k)) := ⟨_, rfl⟩
      rw [← hL] at HO HT hlen
      have HCM := Lib.hid (common_any a x (by omega) (by omega))
      rw [← hcm] at HCM
      have hsl := str_from x cm hcl.2
      have hdl : (x.drop cm).length = x.length - cm := List.length_drop
      have HDL := Lib.hid hdl
      obtain ⟨xs, hxs⟩ : ∃ xs, xs = x.drop cm := ⟨_, rfl⟩
      rw [← hxs] at hsl HT HDL
      have hxsl : xs.length ≤ 1000 := by have := HDL.out; omega
      clear hcm hx ha hc hL hdl hxs
      unfold encStr at hcx
      go_wp2_with fail
      with_reducible refine (HCM.out _).mono ?_
      rintro e w2 ⟨rfl, q, rfl⟩
      have O2 := HO.out.below (below_drewN (Below.refl _ _) q)
      have hsz2 : base ≤ (wr.drewN q).heap.size := hsz
      go_wp2_with fail
      with_reducible refine (put_any v' L base cm (by omega) _ O2 hsz2 (by omega)).mono ?_
      rintro e w3 ⟨v3, rfl, own3, g3, _⟩
      have hb3 := O2.grow (Nat.le_refl _) (below_drewN HB.out q) hsz2 g3
      have s3 : base ≤ w3.heap.size := by have := g3.size; simp at this; omega
      have hl3 : (L ++ enc cm).length ≤ 3000010 := by
        have h2 := glen_le10 cm (by omega)
        unfold glen at h2
        rw [List.length_append]
        omega
      have O3 := Lib.hid own3
      have HB3 := Lib.hid hb3
      clear own3 hb3 O2 g3
      go_wp2_with fail
      with_reducible refine (text_any v3 (L ++ enc cm) base _ (by rw [str_size]; omega) _ O3.out s3 (by omega)).mono ?_
      rintro e w4 ⟨v4, rfl, own4, g4, _⟩
      have hb4 := O3.out.grow (Nat.le_refl _) HB3.out s3 g4
      have s4 : base ≤ w4.heap.size := by have := g4.size; omega
      rw [str_size] at own4
      have O4 : Hid (Own8 w4 base 5 v4 (l ++ (enc n ++ eWs [] (ws.take (k + 1))))) := by show Own8 _ _ _ _ _; rw [HT.out.1, ← HDL.out]; exact own4
      have HB4 := Lib.hid hb4
      clear own4 hb4 g4
      go_wp2_with fail
      exact ⟨⟨k + 1, v4, by omega, by go_num, rfl, by rw [HT.out.2], O4, HB4, s4⟩, by simp [intOf]; omega⟩
    · have HT : Hid (ws.take k = ws) := List.take_of_length_le (by rw [← hn.out.1]; omega)
      go_wp2_with fail
      go_ret
      refine ⟨v', rfl, ?_, HB.out⟩
      have := HO.out
      rw [HT.out, hn.out.1] at this
      exact this
end Go.Proofs.Ytgpdpmbgadjooaa
