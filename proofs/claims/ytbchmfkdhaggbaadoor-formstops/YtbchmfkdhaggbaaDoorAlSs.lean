/- FormStops answers true. -/
import Derived.Test.YtbchmfkdhaggbaaDoorAlFw
namespace Go.Proofs.YtbchmfkdhaggbaaDoor
open Go.RowKit
set_option maxRecDepth 1000000

/-- A text of small letters, some of them made great. -/
def UpL : List UInt8 → List UInt8 → Prop
  | [], [] => True
  | c :: u, a :: s => (c = a ∨ c = a - 32) ∧ (97 ≤ a.toNat ∧ a.toNat ≤ 122) ∧ UpL u s
  | _, _ => False
theorem up_of : ∀ u s : List UInt8, u.length = s.length → (∀ (j : Nat) (a c : UInt8), s[j]? = some a → u[j]? = some c → c = a ∨ c = a - 32) → (∀ a ∈ s, 97 ≤ a.toNat ∧ a.toNat ≤ 122) → UpL u s
  | [], [], _, _, _ => trivial
  | [], a :: s, h, _, _ => by simp at h
  | c :: u, [], h, _, _ => by simp at h
  | c :: u, a :: s, h, h1, h2 => ⟨h1 0 a c rfl rfl, h2 a (by simp), up_of u s (by simpa using h) (fun j x y hx hy => h1 (j + 1) x y (by simpa using hx) (by simpa using hy)) (fun x hx => h2 x (by simp [hx]))⟩
theorem low_byte : ∀ n : Fin 26, (encS (97 + n.val) = [UInt8.ofNat (97 + n.val)] ∧ putL (lowN (97 + n.val)) = [UInt8.ofNat (97 + n.val)]) ∧ (encS (65 + n.val) = [UInt8.ofNat (65 + n.val)] ∧ putL (lowN (65 + n.val)) = [UInt8.ofNat (97 + n.val)]) := by decide +kernel
theorem up_step {c a : UInt8} (h : c = a ∨ c = a - 32) (h1 : 97 ≤ a.toNat) (h2 : a.toNat ≤ 122) : isSign c.toNat ∧ encS c.toNat = [c] ∧ putL (lowN c.toNat) = [a] := by
  have hb := low_byte ⟨a.toNat - 97, by omega⟩
  have e1 : 97 + (a.toNat - 97) = a.toNat := by omega
  have e2 : UInt8.ofNat a.toNat = a := by simp
  simp only [e1, e2] at hb
  rcases h with rfl | rfl
  · exact ⟨⟨by omega, by omega⟩, hb.1.1, hb.1.2⟩
  · have hs : (a - 32).toNat = a.toNat - 32 := UInt8.toNat_sub_of_le _ _ (by show (32 : UInt8).toNat ≤ a.toNat; show 32 ≤ a.toNat; omega)
    have e3 : 65 + (a.toNat - 97) = (a - 32).toNat := by omega
    have e4 : UInt8.ofNat (a - 32).toNat = a - 32 := by simp
    rw [e3, e4] at hb
    exact ⟨⟨by omega, by omega⟩, hb.2.1, hb.2.2⟩
theorem up_low : ∀ (u s r : List UInt8), UpL u s → mapL lowN (u ++ r) = s ++ mapL lowN r
  | [], [], r, _ => rfl
  | [], a :: s, r, h => h.elim
  | c :: u, [], r, h => h.elim
  | c :: u, a :: s, r, ⟨h1, h2, h3⟩ => by
    obtain ⟨hs, he, hp⟩ := up_step h1 h2.1 h2.2
    have e : (c :: u) ++ r = encS c.toNat ++ (u ++ r) := by rw [he]; rfl
    rw [e, mapL_enc lowN c.toNat hs, hp, up_low u s r h3]
    rfl
theorem up_valid : ∀ (u s : List UInt8), UpL u s → Lib.validD u = true
  | [], [], _ => rfl
  | [], a :: s, h => h.elim
  | c :: u, [], h => h.elim
  | c :: u, a :: s, ⟨h1, h2, h3⟩ => by
    obtain ⟨hs, he, _⟩ := up_step h1 h2.1 h2.2
    have e : c :: u = encS c.toNat ++ u := by rw [he]; rfl
    rw [e, valid_enc_app c.toNat hs]
    exact up_valid u s h3
theorem stop_facts : (stopWords.all fun s => (s.all fun a => decide (97 ≤ a.toNat ∧ a.toNat ≤ 122)) && (decide (s.length ≤ 5) && (!(stopWords.any fun x => decide (s ++ [120] = x)) && !(stopWords.any fun x => decide (113 :: s = x))))) = true := by decide +kernel
theorem stop_at (k : Nat) (h : k < 33) : ∃ s : List UInt8, ([.string ⟨#[97]⟩, .string ⟨#[97, 110]⟩, .string ⟨#[97, 110, 100]⟩, .string ⟨#[97, 114, 101]⟩, .string ⟨#[97, 115]⟩, .string ⟨#[97, 116]⟩, .string ⟨#[98, 101]⟩, .string ⟨#[98, 117, 116]⟩, .string ⟨#[98, 121]⟩, .string ⟨#[102, 111, 114]⟩, .string ⟨#[105, 102]⟩, .string ⟨#[105, 110]⟩, .string ⟨#[105, 110, 116, 111]⟩, .string ⟨#[105, 115]⟩, .string ⟨#[105, 116]⟩, .string ⟨#[110, 111]⟩, .string ⟨#[110, 111, 116]⟩, .string ⟨#[111, 102]⟩, .string ⟨#[111, 110]⟩, .string ⟨#[111, 114]⟩, .string ⟨#[115, 117, 99, 104]⟩, .string ⟨#[116, 104, 97, 116]⟩, .string ⟨#[116, 104, 101]⟩, .string ⟨#[116, 104, 101, 105, 114]⟩, .string ⟨#[116, 104, 101, 110]⟩, .string ⟨#[116, 104, 101, 114, 101]⟩, .string ⟨#[116, 104, 101, 115, 101]⟩, .string ⟨#[116, 104, 101, 121]⟩, .string ⟨#[116, 104, 105, 115]⟩, .string ⟨#[116, 111]⟩, .string ⟨#[119, 97, 115]⟩, .string ⟨#[119, 105, 108, 108]⟩, .string ⟨#[119, 105, 116, 104]⟩] : List Value)[k]'h = .string (strOf s) ∧ s ∈ stopWords := by
  have hk : k < stopWords.length := h
  refine ⟨stopWords[k]'hk, ?_, List.getElem_mem hk⟩
  have e : ([.string ⟨#[97]⟩, .string ⟨#[97, 110]⟩, .string ⟨#[97, 110, 100]⟩, .string ⟨#[97, 114, 101]⟩, .string ⟨#[97, 115]⟩, .string ⟨#[97, 116]⟩, .string ⟨#[98, 101]⟩, .string ⟨#[98, 117, 116]⟩, .string ⟨#[98, 121]⟩, .string ⟨#[102, 111, 114]⟩, .string ⟨#[105, 102]⟩, .string ⟨#[105, 110]⟩, .string ⟨#[105, 110, 116, 111]⟩, .string ⟨#[105, 115]⟩, .string ⟨#[105, 116]⟩, .string ⟨#[110, 111]⟩, .string ⟨#[110, 111, 116]⟩, .string ⟨#[111, 102]⟩, .string ⟨#[111, 110]⟩, .string ⟨#[111, 114]⟩, .string ⟨#[115, 117, 99, 104]⟩, .string ⟨#[116, 104, 97, 116]⟩, .string ⟨#[116, 104, 101]⟩, .string ⟨#[116, 104, 101, 105, 114]⟩, .string ⟨#[116, 104, 101, 110]⟩, .string ⟨#[116, 104, 101, 114, 101]⟩, .string ⟨#[116, 104, 101, 115, 101]⟩, .string ⟨#[116, 104, 101, 121]⟩, .string ⟨#[116, 104, 105, 115]⟩, .string ⟨#[116, 111]⟩, .string ⟨#[119, 97, 115]⟩, .string ⟨#[119, 105, 108, 108]⟩, .string ⟨#[119, 105, 116, 104]⟩] : List Value) = stopWords.map fun s => Value.string (strOf s) := rfl
  simp only [e, List.getElem_map]
theorem stop_s {s : List UInt8} (hs : s ∈ stopWords) : (∀ a ∈ s, 97 ≤ a.toNat ∧ a.toNat ≤ 122) ∧ s.length ≤ 5 ∧ (stopWords.any fun x => decide (s ++ [120] = x)) = false ∧ (stopWords.any fun x => decide (113 :: s = x)) = false := by
  have h := stop_facts
  rw [List.all_eq_true] at h
  have h2 := h s hs
  simp only [Bool.and_eq_true, Bool.not_eq_true', decide_eq_true_eq, List.all_eq_true] at h2
  exact h2
theorem up_len : ∀ (u s : List UInt8), UpL u s → u.length = s.length
  | [], [], _ => rfl
  | [], a :: s, h => h.elim
  | c :: u, [], h => h.elim
  | c :: u, a :: s, ⟨_, _, h3⟩ => by simp [up_len u s h3]
theorem stop_up {u s : List UInt8} (h : UpL u s) (hs : s ∈ stopWords) : stopB u = true ∧ stopB (u ++ [120]) = false ∧ stopB (113 :: u) = false := by
  obtain ⟨_, _, h3, h4⟩ := stop_s hs
  have e0 : mapL lowN u = s := by have := up_low u s [] h; rw [List.append_nil, mapL_nil, List.append_nil] at this; exact this
  have e1 : mapL lowN (u ++ [120]) = s ++ [120] := by rw [up_low u s [120] h]; rfl
  have e2 : mapL lowN (113 :: u) = 113 :: s := by
    have := up_low (113 :: u) (113 :: s) [] ⟨.inl rfl, by decide, h⟩
    rw [List.append_nil, mapL_nil, List.append_nil] at this
    exact this
  refine ⟨?_, ?_, ?_⟩
  · unfold stopB; rw [e0]; exact List.any_eq_true.2 ⟨s, hs, by simp⟩
  · unfold stopB; rw [e1]; exact h3
  · unfold stopB; rw [e2]; exact h4
theorem add8 (a b : List UInt8) : strOf a ++ (⟨b.toArray⟩ : ByteArray) = strOf (a ++ b) := by
  apply ByteArray.ext
  simp [strOf]
theorem add8l (a b : List UInt8) : (⟨a.toArray⟩ : ByteArray) ++ strOf b = strOf (a ++ b) := by
  apply ByteArray.ext
  simp [strOf]
/-- What the loop has made so far. -/
structure StR (W : World) (G k : Nat) (s u : List UInt8) : Prop where
  len : u.length = s.length
  up : ∀ (j : Nat) (a c : UInt8), s[j]? = some a → u[j]? = some c → (k ≤ j → c = a) ∧ (c = a ∨ c = a - 32)
  cell : ∀ (j : Nat) (c : UInt8), u[j]? = some c → W.cell? ⟨G, j, none⟩ = some (.int .u8 (c.toNat : Int))
  frz : ∀ j, j < s.length → W.frozen? ⟨G, j, none⟩ = false
theorem StR.skip {W : World} {G k : Nat} {s u : List UInt8} (h : StR W G k s u) : StR W G (k + 1) s u := ⟨h.len, fun j a c h1 h2 => ⟨fun hk => (h.up j a c h1 h2).1 (by omega), (h.up j a c h1 h2).2⟩, h.cell, h.frz⟩
theorem StR.put {W : World} {G k : Nat} {s u : List UInt8} {a : UInt8} (h : StR W G k s u) (ha : s[k]? = some a) (h32 : 32 ≤ a.toNat) : StR (W.setCell ⟨G, k, none⟩ (.int .u8 ((a.toNat : Int) - 32))) G (k + 1) s (u.set k (a - 32)) := by
  have hk : k < s.length := (List.getElem?_eq_some_iff.1 ha).1
  have hku : k < u.length := by rw [h.len]; exact hk
  have hs : (a - 32).toNat = a.toNat - 32 := UInt8.toNat_sub_of_le _ _ (by show (32 : UInt8).toNat ≤ a.toNat; exact h32)
  refine ⟨by rw [List.length_set]; exact h.len, fun j x c h1 h2 => ?_, fun j c h2 => ?_, fun j hj => ?_⟩
  · rw [List.getElem?_set] at h2
    by_cases e : k = j
    · subst e
      rw [if_pos rfl, if_pos hku] at h2
      rw [ha] at h1
      obtain rfl := Option.some.inj h1
      obtain rfl := Option.some.inj h2
      exact ⟨fun h => by omega, .inr rfl⟩
    · rw [if_neg e] at h2
      exact ⟨fun h' => (h.up j x c h1 h2).1 (by omega), (h.up j x c h1 h2).2⟩
  · rw [List.getElem?_set] at h2
    by_cases e : k = j
    · subst e
      rw [if_pos rfl, if_pos hku] at h2
      obtain rfl := Option.some.inj h2
      obtain ⟨c0, hc0⟩ : ∃ c0, u[k]? = some c0 := ⟨u[k], List.getElem?_eq_getElem hku⟩
      rw [World.cell?_setCell_same _ _ _ (by rw [h.cell k c0 hc0]), hs]
      congr 2
      omega
    · rw [if_neg e] at h2
      rw [cell_setR _ _ k j _ (fun e' => e e'.symm)]
      exact h.cell j c h2
  · rw [World.frozen?_setCell]
    exact h.frz j hj
theorem and_15 (k : Nat) (h : k < 16) : bits .and .i64 (k : Int) 15 = (k : Int) := by
  have : ∀ j : Fin 16, bits .and .i64 (j.val : Int) 15 = (j.val : Int) := by decide +kernel
  exact this ⟨k, h⟩
set_option maxHeartbeats 16000000 in
theorem formStops_all (a b : Int) (w : World) (hT : UT w) :
    Calls Tryd.prog 6 #[.int .i64 a, .int .i64 b] w fun e w' => e = .returned (.bool true) ∧ Below w.heap.size w w' := by
  have HT := Lib.hid hT
  clear hT
  obtain ⟨m, hm, hm33⟩ : ∃ m : Nat, (IntKind.u64.wrap a).tmod 33 = (m : Int) ∧ m < 33 := by
    have h1 : 0 ≤ IntKind.u64.wrap a := by simp [IntKind.wrap, IntKind.signed, IntKind.bits]; omega
    refine ⟨((IntKind.u64.wrap a).tmod 33).toNat, ?_, ?_⟩
    · have := Int.tmod_nonneg 33 h1; omega
    · have := Int.tmod_lt_of_pos (IntKind.u64.wrap a) (show (0 : Int) < 33 by omega); have := Int.tmod_nonneg 33 h1; omega
  obtain ⟨s, hsel, hmem⟩ := stop_at m hm33
  obtain ⟨hlet, hlen, _, _⟩ := stop_s hmem
  have HMEM := Lib.hid hmem
  have HLET := Lib.hid hlet
  have hsz : (strOf s).size = s.length := size8 s
  clear hmem hlet
  go_enter Tryd.func6, Tryd.ntmps6
  go_wp2_with fail
  refine (head_any _ HT.out).mono ?_
  rintro e w1 ⟨rfl, b1⟩
  have T1 := Lib.hid (ut_keep HT.out b1)
  obtain ⟨Z, hZ⟩ : ∃ Z, w1.alloc (.cells #[.string ⟨#[97]⟩, .string ⟨#[97, 110]⟩, .string ⟨#[97, 110, 100]⟩, .string ⟨#[97, 114, 101]⟩, .string ⟨#[97, 115]⟩, .string ⟨#[97, 116]⟩, .string ⟨#[98, 101]⟩, .string ⟨#[98, 117, 116]⟩, .string ⟨#[98, 121]⟩, .string ⟨#[102, 111, 114]⟩, .string ⟨#[105, 102]⟩, .string ⟨#[105, 110]⟩, .string ⟨#[105, 110, 116, 111]⟩, .string ⟨#[105, 115]⟩, .string ⟨#[105, 116]⟩, .string ⟨#[110, 111]⟩, .string ⟨#[110, 111, 116]⟩, .string ⟨#[111, 102]⟩, .string ⟨#[111, 110]⟩, .string ⟨#[111, 114]⟩, .string ⟨#[115, 117, 99, 104]⟩, .string ⟨#[116, 104, 97, 116]⟩, .string ⟨#[116, 104, 101]⟩, .string ⟨#[116, 104, 101, 105, 114]⟩, .string ⟨#[116, 104, 101, 110]⟩, .string ⟨#[116, 104, 101, 114, 101]⟩, .string ⟨#[116, 104, 101, 115, 101]⟩, .string ⟨#[116, 104, 101, 121]⟩, .string ⟨#[116, 104, 105, 115]⟩, .string ⟨#[116, 111]⟩, .string ⟨#[119, 97, 115]⟩, .string ⟨#[119, 105, 108, 108]⟩, .string ⟨#[119, 105, 116, 104]⟩] 9) = Z := ⟨_, rfl⟩
  have hcm : Z.cell? ⟨w1.heap.size, m, none⟩ = some (.string (strOf s)) := by
    rw [← hZ]
    have z := new_cells w1 #[.string ⟨#[97]⟩, .string ⟨#[97, 110]⟩, .string ⟨#[97, 110, 100]⟩, .string ⟨#[97, 114, 101]⟩, .string ⟨#[97, 115]⟩, .string ⟨#[97, 116]⟩, .string ⟨#[98, 101]⟩, .string ⟨#[98, 117, 116]⟩, .string ⟨#[98, 121]⟩, .string ⟨#[102, 111, 114]⟩, .string ⟨#[105, 102]⟩, .string ⟨#[105, 110]⟩, .string ⟨#[105, 110, 116, 111]⟩, .string ⟨#[105, 115]⟩, .string ⟨#[105, 116]⟩, .string ⟨#[110, 111]⟩, .string ⟨#[110, 111, 116]⟩, .string ⟨#[111, 102]⟩, .string ⟨#[111, 110]⟩, .string ⟨#[111, 114]⟩, .string ⟨#[115, 117, 99, 104]⟩, .string ⟨#[116, 104, 97, 116]⟩, .string ⟨#[116, 104, 101]⟩, .string ⟨#[116, 104, 101, 105, 114]⟩, .string ⟨#[116, 104, 101, 110]⟩, .string ⟨#[116, 104, 101, 114, 101]⟩, .string ⟨#[116, 104, 101, 115, 101]⟩, .string ⟨#[116, 104, 101, 121]⟩, .string ⟨#[116, 104, 105, 115]⟩, .string ⟨#[116, 111]⟩, .string ⟨#[119, 97, 115]⟩, .string ⟨#[119, 105, 108, 108]⟩, .string ⟨#[119, 105, 116, 104]⟩] 9 (0, 0) m (.string (strOf s)) (by rw [← hsel]; exact List.getElem?_eq_getElem _)
    rwa [add_addr, Nat.zero_add] at z
  clear hsel
  have bZ : Below w1.heap.size w1 Z := by rw [← hZ]; exact (Below.refl _ _).alloc (Nat.le_refl _) _
  have BZ := Lib.hid (b1.trans (bZ.mono b1.size))
  obtain ⟨cap, W2, hcv, b2, hs2, hc2, hf2⟩ : ∃ cap W2, (convert 9 40 (.string (strOf s))).run Tryd.prog Z = .ok (.slice (some ⟨Z.heap.size, 0, none⟩) s.length cap) W2 ∧ Below Z.heap.size Z W2 ∧ Z.heap.size < W2.heap.size ∧ (∀ (j : Nat) (c : UInt8), s[j]? = some c → W2.cell? ⟨Z.heap.size, j, none⟩ = some (.int .u8 (c.toNat : Int))) ∧ ∀ j, j < s.length → W2.frozen? ⟨Z.heap.size, j, none⟩ = false := by
    have h := run_bytes_of_string (P := Tryd.prog) Z 9 40 5 (strOf s) Tryd.underlying9 Tryd.underlying40 Tryd.underlying5
    rw [hsz] at h
    refine ⟨_, _, h, ((Below.refl _ _).drew).alloc (Nat.le_refl _) _, by show _ < (World.alloc _ _).heap.size; rw [World.size_alloc]; show _ < Z.heap.size + 1; omega, fun j c hj => ?_, fun j hj => ?_⟩
    · have hj' : j < (strOf s).data.size := by have := (List.getElem?_eq_some_iff.1 hj).1; simpa [strOf] using this
      have e := World.cell?_alloc_mark Z.drew (bytesRow (strOf s) (grownCap Z s.length 0 5)) 5 ((bytesRow (strOf s) (grownCap Z s.length 0 5)).size, (bytesRow (strOf s) (grownCap Z s.length 0 5)).size + 1) j
      rw [bytesRow_at _ _ j hj'] at e
      have e2 : (strOf s).data[j] = c := by
        have := (List.getElem?_eq_some_iff.1 hj).2
        simpa [strOf] using this
      rw [e2] at e
      exact e
    · have e := World.frozen?_alloc_mark Z.drew (bytesRow (strOf s) (grownCap Z s.length 0 5)) 5 (bytesRow (strOf s) (grownCap Z s.length 0 5)).size ((bytesRow (strOf s) (grownCap Z s.length 0 5)).size + 1) j
      have hle : s.length ≤ (bytesRow (strOf s) (grownCap Z s.length 0 5)).size := by
        unfold bytesRow
        rw [Array.size_append, Array.size_map]
        have : (strOf s).data.size = s.length := by simp [strOf]
        omega
      have hd : (decide ((bytesRow (strOf s) (grownCap Z s.length 0 5)).size ≤ j) && decide (j < (bytesRow (strOf s) (grownCap Z s.length 0 5)).size + 1)) = false := by
        rw [decide_eq_false (by omega)]; rfl
      exact e.trans hd
  have R0 : Hid (StR W2 Z.heap.size 0 s s) := ⟨rfl, fun j x c h1 h2 => by rw [h1] at h2; exact ⟨fun _ => (Option.some.inj h2).symm, .inl (Option.some.inj h2).symm⟩, hc2, hf2⟩
  clear hc2 hf2 b1 bZ
  go_wp2_with fail
  clear hcm hm hcv
  go_loopw [26] (fun i wr => ∃ (k : Nat) (u : List UInt8), k ≤ s.length ∧ i = .int .i64 k ∧ Hid (StR wr Z.heap.size k s u) ∧ Below Z.heap.size Z wr ∧ Z.heap.size < wr.heap.size) (fun i _ => s.length - (intOf i).toNat)
  case atStart => exact ⟨0, s, Nat.zero_le _, rfl, R0, b2, hs2⟩
  case round =>
    obtain ⟨k, u, hk, rfl, HR, hb, hsz2⟩ := hrel
    clear R0 b2 hs2
    by_cases hlt : k < s.length
    · have h15 := and_15 k (by omega)
      obtain ⟨x, hx⟩ : ∃ x, s[k]? = some x := ⟨s[k], List.getElem?_eq_getElem hlt⟩
      have hku : k < u.length := by rw [HR.out.len]; exact hlt
      have hxu : u[k]? = some x := by
        obtain ⟨c, hc⟩ : ∃ c, u[k]? = some c := ⟨u[k], List.getElem?_eq_getElem hku⟩
        rw [hc, (HR.out.up k x c hx hc).1 (Nat.le_refl _)]
      have hcl := HR.out.cell k x hxu
      have hfz := HR.out.frz k hlt
      obtain ⟨l1, l2⟩ := HLET.out x (List.mem_of_getElem? hx)
      have HP := Lib.hid (HR.out.put hx (by omega))
      have HSK := Lib.hid HR.out.skip
      have hbp : Below Z.heap.size Z (wr.setCell ⟨Z.heap.size, k, none⟩ (.int .u8 ((x.toNat : Int) - 32))) := hb.setCell (p := ⟨Z.heap.size, k, none⟩) (Nat.le_refl _) _
      have hl1 : (97 : Int) ≤ (x.toNat : Int) := by omega
      have hl2 : (x.toNat : Int) ≤ 122 := by omega
      generalize x.toNat = xn at *
      clear hx hxu l1 l2 hku
      go_wp2_with fail
      · exact ⟨⟨k + 1, _, by omega, by go_num, HP, hbp, by simpa using hsz2⟩, by simp [intOf]; omega⟩
      · exact ⟨⟨k + 1, u, by omega, by go_num, HSK, hb, hsz2⟩, by simp [intOf]; omega⟩
    · have hke : k = s.length := by omega
      have hul := HR.out.len
      have hup : UpL u s := up_of u s hul (fun j x c h1 h2 => (HR.out.up j x c h1 h2).2) HLET.out
      have hcb : (convert 40 9 (.slice (some ⟨Z.heap.size, 0, none⟩) s.length cap)).run Tryd.prog wr = .ok (.string (strOf u)) wr := by
        rw [← hul]
        refine run_convert_bytes_back wr 40 9 5 ⟨Z.heap.size, 0, none⟩ cap u Tryd.underlying40 Tryd.underlying5 Tryd.underlying9 fun j hj => ?_
        rw [add_addr, Nat.zero_add]
        exact HR.out.cell j _ (List.getElem?_eq_getElem hj)
      obtain ⟨hs1, hs2, hs3⟩ := stop_up hup HMEM.out
      have hvu := up_valid u s hup
      obtain ⟨ux, hux⟩ : ∃ ux, ux = u ++ [120] := ⟨_, rfl⟩
      obtain ⟨qu, hqu⟩ : ∃ qu, qu = 113 :: u := ⟨_, rfl⟩
      obtain ⟨us, hus⟩ : ∃ us, us = u ++ [115] := ⟨_, rfl⟩
      have c1 : strOf u ++ (⟨#[120]⟩ : ByteArray) = strOf ux := by rw [hux]; exact add8 u [120]
      have c2 : (⟨#[113]⟩ : ByteArray) ++ strOf u = strOf qu := by rw [hqu]; exact add8l [113] u
      have c3 : strOf u ++ (⟨#[115]⟩ : ByteArray) = strOf us := by rw [hus]; exact add8 u [115]
      have S1 : Hid (stopB u = true ∧ u.length ≤ 10000000) := ⟨hs1, by omega⟩
      have S2 : Hid (stopB ux = false ∧ ux.length ≤ 10000000) := ⟨by rw [hux]; exact hs2, by rw [hux]; simp; omega⟩
      have S3 : Hid (stopB qu = false ∧ qu.length ≤ 10000000) := ⟨by rw [hqu]; exact hs3, by rw [hqu]; simp; omega⟩
      have hA1 : anyQ u true = true := by unfold anyQ; rw [hs1]; rfl
      have M1 : MkIs u true false 0 true := ⟨mkE_any false hvu hA1, by rw [hA1]; rfl, by omega⟩
      have M2 : MkIs u false false 0 false := ⟨mkE_word hvu rfl, rfl, by omega⟩
      have E1 : Hid (matQ u true true false false false u = true ∧ u.length ≤ 10000) := ⟨decide_eq_true rfl, by omega⟩
      have E2 : Hid (matQ u true true false false false us = false ∧ us.length ≤ 10000) := ⟨decide_eq_false (by
        show ¬ (wholeL true true us = wholeL true true u)
        rw [whole_id, whole_id, hus]
        intro e
        have := congrArg List.length e
        simp at this), by rw [hus]; simp; omega⟩
      have hzu : (strOf u).size ≤ 5 := by rw [size8]; omega
      have HBW := Lib.hid (BZ.out.trans (hb.mono BZ.out.size))
      have TW := Lib.hid (ut_keep HT.out HBW.out)
      clear hux hqu hus hs1 hs2 hs3 hvu hA1 hup HR hul hsz2 hb HMEM HLET BZ T1
      go_wp2_with fail
      with_reducible refine (make_is true true false true false u 0 true M1 _ TW.out).mono ?_
      rintro e w3 ⟨a3, b3, c3', d3, e3, t3, q3, rfl, k3, hQ3⟩
      obtain ⟨Y, hY⟩ : ∃ Y, Y = w3.alloc (.cells #[.bool true, .bool a3, .bool b3, .bool c3', .bool d3, .bool e3, .string (strOf t3), .pointer q3] 27) := ⟨_, rfl⟩
      have b3Y : Below w3.heap.size w3 Y := by rw [hY]; exact (Below.refl _ _).alloc (Nat.le_refl _) _
      have BY := Lib.hid (HBW.out.trans ((k3.trans (b3Y.mono k3.size)).mono HBW.out.size))
      have TY := Lib.hid (ut_keep HT.out BY.out)
      have AY : Hid (At8 Y w3.heap.size (.bool true) (.bool a3) (.bool b3) (.bool c3') (.bool d3) (.bool e3) (.string (strOf t3)) (.pointer q3)) := by rw [hY]; exact At8.new w3 _ _ _ _ _ _ _ _ _
      clear k3 b3Y HBW TW hQ3
      go_wp2_with fail
      rw [← hY]
      clear hY
      with_reducible refine (make_is true true false false false u 0 false M2 _ TY.out).mono ?_
      rintro e w4 ⟨a4, b4, c4, d4, e4, t4, q4, rfl, k4, hQ4⟩
      obtain ⟨V, hV⟩ : ∃ V, V = w4.alloc (.cells #[.bool false, .bool a4, .bool b4, .bool c4, .bool d4, .bool e4, .string (strOf t4), .pointer q4] 27) := ⟨_, rfl⟩
      have b4V : Below w4.heap.size w4 V := by rw [hV]; exact (Below.refl _ _).alloc (Nat.le_refl _) _
      have kV := k4.trans (b4V.mono k4.size)
      have BV := Lib.hid (BY.out.trans (kV.mono BY.out.size))
      have TV := Lib.hid (ut_keep HT.out BV.out)
      have AX := Lib.hid (AY.out.keep kV)
      have AV : Hid (At8 V w4.heap.size (.bool false) (.bool a4) (.bool b4) (.bool c4) (.bool d4) (.bool e4) (.string (strOf t4)) (.pointer q4)) := by rw [hV]; exact At8.new w4 _ _ _ _ _ _ _ _ _
      have QV := Lib.hid (hQ4.keep b4V).get
      clear k4 b4V kV BY TY AY hQ4
      go_wp2_with fail
      rw [← hV]
      clear hV
      with_reducible refine (stop_is u true S1 _ TV.out).mono ?_
      rintro e w5 ⟨rfl, k5⟩
      go_wp2_with fail
      with_reducible refine (stop_is ux false S2 _ (ut_keep TV.out k5)).mono ?_
      rintro e w6 ⟨rfl, k6⟩
      replace k6 := k5.trans (k6.mono k5.size)
      go_wp2_with fail
      with_reducible refine (stop_is qu false S3 _ (ut_keep TV.out k6)).mono ?_
      rintro e w7 ⟨rfl, k7⟩
      replace k7 := k6.trans (k7.mono k6.size)
      obtain ⟨y0, y1, y2, y3, y4, y5, y6, y7⟩ := AX.out.keep k7
      obtain ⟨z0, z1, z2, z3, z4, z5, z6, z7⟩ := AV.out.keep k7
      go_wp2_with fail
      with_reducible refine (QW.is QV u true E1 _ k7).mono ?_
      rintro e w8 ⟨rfl, k8⟩
      replace k8 := k7.trans (k8.mono k7.size)
      clear y0 y1 y2 y3 y4 y5 y6 y7 z0 z1 z2 z3 z4 z5 z6 z7
      obtain ⟨z0, z1, z2, z3, z4, z5, z6, z7⟩ := AV.out.keep k8
      go_wp2_with fail
      with_reducible refine (QW.is QV us false E2 _ k8).mono ?_
      rintro e w9 ⟨rfl, k9⟩
      replace k9 := k8.trans (k9.mono k8.size)
      go_wp2_with fail
      go_ret
      exact ⟨rfl, BV.out.trans (k9.mono BV.out.size)⟩
end Go.Proofs.YtbchmfkdhaggbaaDoor
