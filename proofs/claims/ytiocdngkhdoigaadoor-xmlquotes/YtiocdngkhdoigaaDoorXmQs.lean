/- Values in quotes: what parseX makes of them. -/
import Derived.Test.YtiocdngkhdoigaaDoorXmRep
namespace Go.Proofs.YtiocdngkhdoigaaDoor
open Go.Lib
set_option maxRecDepth 100000

/-- A text of signs that may stand in a document. -/
def OkL (l : L8) : Prop := ∃ rs : List Nat, (∀ r ∈ rs, isSign r ∧ okSign r = true) ∧ l = rs.flatMap encS
theorem OkL.nil : OkL [] := ⟨[], by simp, rfl⟩
theorem OkL.app {a b : L8} (ha : OkL a) (hb : OkL b) : OkL (a ++ b) := by
  obtain ⟨r1, h1, rfl⟩ := ha
  obtain ⟨r2, h2, rfl⟩ := hb
  refine ⟨r1 ++ r2, fun r hr => ?_, by simp⟩
  rcases List.mem_append.1 hr with hr | hr
  · exact h1 r hr
  · exact h2 r hr
theorem OkL.sign {r : Nat} (hs : isSign r) (ho : okSign r = true) : OkL (encS r) := ⟨[r], by simp [hs, ho], by simp⟩
theorem OkL.ascii : ∀ {l : L8}, (∀ c ∈ l, c.toNat < 128 ∧ okSign c.toNat = true) → OkL l
  | [], _ => OkL.nil
  | c :: t, h => by
    have hc := h c (by simp)
    have h1 : OkL [c] := by
      have := OkL.sign (r := c.toNat) (by unfold isSign; omega) hc.2
      rw [enc_low _ hc.1] at this
      simpa using this
    exact OkL.app h1 (OkL.ascii fun x hx => h x (by simp [hx]))
theorem ok_ind {P : L8 → Prop} (h0 : P []) (h1 : ∀ r t, isSign r → okSign r = true → OkL t → P t → P (encS r ++ t)) : ∀ {l : L8}, OkL l → P l := by
  rintro l ⟨rs, hrs, rfl⟩
  induction rs with
  | nil => exact h0
  | cons r rs ih =>
    have hr := hrs r (by simp)
    have ht : OkL (rs.flatMap encS) := ⟨rs, fun x hx => hrs x (by simp [hx]), rfl⟩
    exact h1 r _ hr.1 hr.2 ht (ih fun x hx => hrs x (by simp [hx]))
theorem check_okL {l : L8} (h : OkL l) : ∀ f, l.length ≤ f → checkL f l = 0 := by
  refine ok_ind (P := fun l => ∀ f, l.length ≤ f → checkL f l = 0) ?_ ?_ h
  · intro f _; cases f <;> rfl
  · intro r t hs ho _ ih f hf
    have el := encS_len r
    rw [List.length_append] at hf
    obtain ⟨f, rfl⟩ : ∃ f', f = f' + 1 := ⟨f - 1, by omega⟩
    rw [checkL, if_neg (by intro e; have := congrArg List.length e; rw [List.length_append] at this; simp at this; rw [this.1] at el; simp at el), nextN_enc r hs t]
    simp only
    rw [if_neg (by omega), if_pos ho, List.drop_left]
    exact ih f (by omega)
theorem ok_valid {l : L8} (h : OkL l) : V8 l := check_ok l.length l (Nat.le_refl _) (check_okL h _ (Nat.le_refl _))
/-- What the law makes of a text: signs that may not stand in a document are z, what is no sign goes. -/
def gR (r : Nat) : Int := if okSign r then (r : Int) else 122
def cleanG : Nat → L8 → L8
  | 0, _ => []
  | f + 1, l => if l = [] then [] else l.take (nextN l).2 ++ cleanG f (l.drop (max 1 (nextN l).2))
def cleanL (l : L8) : L8 := mapL gR (cleanG l.length l)
theorem cleanG_len : ∀ (f : Nat) (l : L8), (cleanG f l).length ≤ l.length
  | 0, l => by simp [cleanG]
  | f + 1, l => by
    unfold cleanG
    split
    · simp
    · have h1 := cleanG_len f (l.drop (max 1 (nextN l).2))
      have h2 := (next_bd l).1
      rw [List.length_append, List.length_take]
      rw [List.length_drop] at h1
      omega
theorem gR_ok (r : Nat) (hs : isSign r) : ∃ q : Nat, gR r = (q : Int) ∧ isSign q ∧ okSign q = true := by
  unfold gR
  by_cases h : okSign r = true
  · rw [if_pos h]; exact ⟨r, rfl, hs, h⟩
  · rw [if_neg h]; exact ⟨122, rfl, by decide, by decide⟩
theorem map_ok : ∀ (n : Nat) (l : L8), l.length ≤ n → V8 l → OkL (mapL gR l)
  | n, [], _, _ => OkL.nil
  | 0, c :: t, h, _ => by simp at h
  | n + 1, c :: t, h, hv => by
    obtain ⟨r, rest, hs, e, hr⟩ := valid_head _ (by simp) hv
    rw [e, mapL_enc gR r hs]
    obtain ⟨q, hq, hqs, hqo⟩ := gR_ok r hs
    rw [hq, putL_sign q hqs]
    have el := encS_len r
    have hel := congrArg List.length e
    rw [List.length_append] at hel
    exact OkL.app (OkL.sign hqs hqo) (map_ok n rest (by simp only [List.length_cons] at h hel; omega) hr)
theorem cleanG_valid : ∀ (f : Nat) (l : L8), V8 (cleanG f l)
  | 0, _ => rfl
  | f + 1, l => by
    unfold cleanG
    split
    · rfl
    · obtain ⟨r, k, hn⟩ : ∃ r k, nextN l = (r, k) := ⟨_, _, rfl⟩
      rw [hn]
      have ih := cleanG_valid f (l.drop (max 1 k))
      by_cases hk : 0 < k
      · obtain ⟨hs, _, ht⟩ := nextN_some l r k hn hk
        simp only
        rw [ht, V8, valid_enc_app r hs]
        exact ih
      · have : k = 0 := by omega
        subst this
        simpa using ih
theorem clean_ok (l : L8) : OkL (cleanL l) := map_ok _ _ (Nat.le_refl _) (cleanG_valid _ _)
theorem clean_len (l : L8) : (cleanL l).length ≤ 4 * l.length := by
  unfold cleanL
  have h1 := mapL_len gR (cleanG l.length l)
  have h2 := cleanG_len l.length l
  omega
/-- A byte of a value, as the law writes it. -/
def quoB (q c : UInt8) : L8 := if c = 60 then [38, 108, 116, 59] else if c = 38 then [38, 97, 109, 112, 59] else if c = q then (if q = 34 then [38, 35, 51, 52, 59] else [38, 35, 51, 57, 59]) else [c]
def quoL (q : UInt8) (s : L8) : L8 := s.flatMap (quoB q)
theorem quoL_cons (q c : UInt8) (t : L8) : quoL q (c :: t) = quoB q c ++ quoL q t := rfl
theorem quoL_app (q : UInt8) (a b : L8) : quoL q (a ++ b) = quoL q a ++ quoL q b := by simp [quoL]
theorem quoB_len (q c : UInt8) : 1 ≤ (quoB q c).length ∧ (quoB q c).length ≤ 5 := by
  unfold quoB; repeat' split
  all_goals simp
theorem quoL_len (q : UInt8) (s : L8) : (quoL q s).length ≤ 5 * s.length := by
  induction s with
  | nil => simp [quoL]
  | cons c t ih => rw [quoL_cons, List.length_append]; have := quoB_len q c; simp only [List.length_cons]; omega
theorem val_quo (q : UInt8) (hq : q = 34 ∨ q = 39) (rest : L8) : ∀ (s acc : L8) (f : Nat), (quoL q s).length < f → valL q f (quoL q s ++ q :: rest) acc = some (acc ++ s, rest)
  | [], acc, f, h => by
    obtain ⟨f, rfl⟩ : ∃ f', f = f' + 1 := ⟨f - 1, by omega⟩
    show valL q (f + 1) (q :: rest) acc = _
    rw [valL, if_pos rfl, List.append_nil]
  | c :: t, acc, f, h => by
    have hl := quoB_len q c
    rw [quoL_cons, List.length_append] at h
    obtain ⟨f, rfl⟩ : ∃ f', f = f' + 1 := ⟨f - 1, by omega⟩
    have ih : ∀ acc', valL q f (quoL q t ++ q :: rest) acc' = some (acc' ++ t, rest) := fun acc' => val_quo q hq rest t acc' f (by omega)
    have hq38 : (38 : UInt8) ≠ q := by rcases hq with rfl | rfl <;> decide
    rw [quoL_cons]
    unfold quoB
    by_cases h1 : c = 60
    · rw [if_pos h1]
      show valL q (f + 1) (38 :: 108 :: 116 :: 59 :: (quoL q t ++ q :: rest)) acc = _
      rw [valL, if_neg hq38, if_neg (by decide), if_pos rfl, show refL (108 :: 116 :: 59 :: (quoL q t ++ q :: rest)) = some (60, quoL q t ++ q :: rest) from rfl]
      simp only
      rw [ih, show encS 60 = [60] from rfl, h1, List.append_assoc]
      rfl
    rw [if_neg h1]
    by_cases h2 : c = 38
    · rw [if_pos h2]
      show valL q (f + 1) (38 :: 97 :: 109 :: 112 :: 59 :: (quoL q t ++ q :: rest)) acc = _
      rw [valL, if_neg hq38, if_neg (by decide), if_pos rfl, show refL (97 :: 109 :: 112 :: 59 :: (quoL q t ++ q :: rest)) = some (38, quoL q t ++ q :: rest) from rfl]
      simp only
      rw [ih, show encS 38 = [38] from rfl, h2, List.append_assoc]
      rfl
    rw [if_neg h2]
    by_cases h3 : c = q
    · rw [if_pos h3]
      rcases hq with rfl | rfl
      · rw [if_pos rfl]
        show valL 34 (f + 1) (38 :: 35 :: 51 :: 52 :: 59 :: (quoL 34 t ++ 34 :: rest)) acc = _
        rw [valL, if_neg (by decide), if_neg (by decide), if_pos rfl, show refL (35 :: 51 :: 52 :: 59 :: (quoL 34 t ++ 34 :: rest)) = some (34, quoL 34 t ++ 34 :: rest) from rfl]
        simp only
        rw [ih, show encS 34 = [34] from rfl, h3, List.append_assoc]
        rfl
      · rw [if_neg (by decide)]
        show valL 39 (f + 1) (38 :: 35 :: 51 :: 57 :: 59 :: (quoL 39 t ++ 39 :: rest)) acc = _
        rw [valL, if_neg (by decide), if_neg (by decide), if_pos rfl, show refL (35 :: 51 :: 57 :: 59 :: (quoL 39 t ++ 39 :: rest)) = some (39, quoL 39 t ++ 39 :: rest) from rfl]
        simp only
        rw [ih, show encS 39 = [39] from rfl, h3, List.append_assoc]
        rfl
    rw [if_neg h3]
    show valL q (f + 1) (c :: (quoL q t ++ q :: rest)) acc = _
    rw [valL, if_neg h3, if_neg h1, if_neg h2, ih, List.append_assoc]
    rfl
theorem quo_ok (q : UInt8) (hq : q = 34 ∨ q = 39) {s : L8} (h : OkL s) : OkL (quoL q s) := by
  refine ok_ind (P := fun s => OkL (quoL q s)) OkL.nil ?_ h
  intro r t hs ho _ ih
  rw [quoL_app]
  refine OkL.app ?_ ih
  by_cases hr : r < 128
  · rw [enc_low r hr, quoL_cons]
    have e : quoL q [] = [] := rfl
    rw [e, List.append_nil]
    unfold quoB
    repeat' split
    all_goals first
      | (refine OkL.ascii fun c hc => ?_
         simp only [List.mem_cons, List.not_mem_nil, or_false] at hc
         rcases hc with rfl | rfl | rfl | rfl | rfl <;> decide)
      | (refine OkL.ascii fun c hc => ?_
         simp only [List.mem_cons, List.not_mem_nil, or_false] at hc
         rcases hc with rfl | rfl | rfl | rfl <;> decide)
      | (refine OkL.ascii fun c hc => ?_
         simp only [List.mem_cons, List.not_mem_nil, or_false] at hc
         rw [hc, ofNat_toNat _ (by omega)]
         exact ⟨hr, ho⟩)
  · have hh := enc_high r hs (by omega)
    have : quoL q (encS r) = encS r := by
      have key : ∀ l : L8, (∀ c ∈ l, 128 ≤ c.toNat) → quoL q l = l := by
        intro l hl
        induction l with
        | nil => rfl
        | cons c t ih =>
          have hc := hl c (by simp)
          rw [quoL_cons, ih fun x hx => hl x (by simp [hx])]
          unfold quoB
          rw [if_neg (by rintro rfl; simp at hc), if_neg (by rintro rfl; simp at hc), if_neg (by rintro rfl; rcases hq with rfl | rfl <;> simp at hc)]
          rfl
      exact key _ hh
    rw [this]
    exact OkL.sign hs ho
/-- The law's document. -/
def quoT (q : UInt8) (s tail : L8) : L8 := [60, 97, 32, 120, 10, 61, 9, q] ++ (quoL q s ++ (q :: [32, 121, 61, 39, 39] ++ tail))
theorem attr_x (q : UInt8) (hq : q = 34 ∨ q = 39) (s rest : L8) : attrL (120 :: 10 :: 61 :: 9 :: q :: (quoL q s ++ q :: rest)) = some (([120], s), rest) := by
  have hn : nameL (120 :: 10 :: 61 :: 9 :: q :: (quoL q s ++ q :: rest)) = ([120], 10 :: 61 :: 9 :: q :: (quoL q s ++ q :: rest)) := rfl
  have hv := val_quo q hq rest s [] ((quoL q s ++ q :: rest).length + 1) (by rw [List.length_append]; omega)
  have hq2 : skipB (9 :: q :: (quoL q s ++ q :: rest)) = q :: (quoL q s ++ q :: rest) := by rcases hq with rfl | rfl <;> rfl
  unfold attrL
  rw [hn]
  simp only
  rw [if_neg (by simp), show tk [61] (skipB (10 :: 61 :: 9 :: q :: (quoL q s ++ q :: rest))) = some (9 :: q :: (quoL q s ++ q :: rest)) from rfl]
  simp only
  rw [hq2]
  simp only
  rw [if_pos hq, hv]
  rfl
theorem quo_check (q : UInt8) (hq : q = 34 ∨ q = 39) {s : L8} (h : OkL s) (tail : L8) (ht : OkL tail) : checkL (quoT q s tail).length (quoT q s tail) = 0 := by
  refine check_okL ?_ _ (Nat.le_refl _)
  unfold quoT
  refine OkL.app (OkL.ascii ?_) (OkL.app (quo_ok q hq h) (OkL.app (OkL.ascii ?_) ht))
  · intro c hc
    simp only [List.mem_cons, List.not_mem_nil, or_false] at hc
    rcases hc with rfl | rfl | rfl | rfl | rfl | rfl | rfl | rfl
    all_goals first | decide | (rcases hq with h | h <;> rw [h] <;> decide)
  · intro c hc
    simp only [List.mem_cons, List.not_mem_nil, or_false] at hc
    rcases hc with rfl | rfl | rfl | rfl | rfl | rfl
    all_goals first | decide | (rcases hq with h | h <;> rw [h] <;> decide)
theorem quo_len (q : UInt8) (s tail : L8) : (quoT q s tail).length ≤ 14 + 5 * s.length + tail.length := by
  unfold quoT
  have := quoL_len q s
  simp only [List.length_append, List.length_cons, List.length_nil]
  omega
theorem attrs_x (q : UInt8) (hq : q = 34 ∨ q = 39) (s rest : L8) (f : Nat) : attrsL (f + 1) (32 :: 120 :: 10 :: 61 :: 9 :: q :: (quoL q s ++ q :: rest)) [] = attrsL f rest [([120], s)] := by
  have h1 : skipB (32 :: 120 :: 10 :: 61 :: 9 :: q :: (quoL q s ++ q :: rest)) = 120 :: 10 :: 61 :: 9 :: q :: (quoL q s ++ q :: rest) := rfl
  conv => lhs; unfold attrsL
  rw [h1, if_neg (by rintro (h | h) <;> cases h), if_neg (by simp [hasB, isBl]), attr_x q hq]
  rfl
theorem quo_one (q : UInt8) (hq : q = 34 ∨ q = 39) {s : L8} (h : OkL s) (hl : s.length ≤ 1000) : parseX (quoT q s [47, 62]) = .ok [⟨[97], [], [([120], s), ([121], [])], -1, 0, 1⟩] := by
  have hc := quo_check q hq h [47, 62] (OkL.ascii (by decide))
  have hln := quo_len q s [47, 62]
  simp only [List.length_cons, List.length_nil] at hln
  unfold parseX
  rw [if_neg (by omega), if_neg (by rw [hc]; simp)]
  have ht : quoT q s [47, 62] = 60 :: 97 :: (32 :: 120 :: 10 :: 61 :: 9 :: q :: (quoL q s ++ q :: [32, 121, 61, 39, 39, 47, 62])) := rfl
  rw [ht, doc_start]
  have hb : beginS (st0 (97 :: 32 :: 120 :: 10 :: 61 :: 9 :: q :: (quoL q s ++ q :: [32, 121, 61, 39, 39, 47, 62]))) = .ok { rest := [], nodes := [⟨[97], [], [([120], s), ([121], [])], -1, 0, 1⟩], opn := [], text := [] } := by
    have hn : nameL (97 :: 32 :: 120 :: 10 :: 61 :: 9 :: q :: (quoL q s ++ q :: [32, 121, 61, 39, 39, 47, 62])) = ([97], 32 :: 120 :: 10 :: 61 :: 9 :: q :: (quoL q s ++ q :: [32, 121, 61, 39, 39, 47, 62])) := rfl
    have hat : attrsL ((32 :: 120 :: 10 :: 61 :: 9 :: q :: (quoL q s ++ q :: [32, 121, 61, 39, 39, 47, 62])).length + 1) (32 :: 120 :: 10 :: 61 :: 9 :: q :: (quoL q s ++ q :: [32, 121, 61, 39, 39, 47, 62])) [] = some ([([120], s), ([121], [])], [47, 62]) := by
      rw [attrs_x q hq]
      rfl
    unfold beginS
    show (if (nameL (97 :: 32 :: 120 :: 10 :: 61 :: 9 :: q :: (quoL q s ++ q :: [32, 121, 61, 39, 39, 47, 62]))).1 = [] then _ else _) = _
    rw [hn]
    simp only
    rw [if_neg (by simp)]
    show (match attrsL ((nameL (97 :: 32 :: 120 :: 10 :: 61 :: 9 :: q :: (quoL q s ++ q :: [32, 121, 61, 39, 39, 47, 62]))).2.length + 1) (nameL (97 :: 32 :: 120 :: 10 :: 61 :: 9 :: q :: (quoL q s ++ q :: [32, 121, 61, 39, 39, 47, 62]))).2 [] with | none => _ | some (ats, r) => _) = _
    rw [hn]
    simp only
    rw [hat]
    rfl
  rw [hb]
  rfl
theorem quo_two (q : UInt8) (hq : q = 34 ∨ q = 39) {s : L8} (h : OkL s) (hl : s.length ≤ 1000) : parseX (quoT q s [32, 120, 61, 39, 39, 47, 62]) = .error 11 := by
  have hc := quo_check q hq h [32, 120, 61, 39, 39, 47, 62] (OkL.ascii (by decide))
  have hln := quo_len q s [32, 120, 61, 39, 39, 47, 62]
  simp only [List.length_cons, List.length_nil] at hln
  unfold parseX
  rw [if_neg (by omega), if_neg (by rw [hc]; simp)]
  have ht : quoT q s [32, 120, 61, 39, 39, 47, 62] = 60 :: 97 :: (32 :: 120 :: 10 :: 61 :: 9 :: q :: (quoL q s ++ q :: [32, 121, 61, 39, 39, 32, 120, 61, 39, 39, 47, 62])) := rfl
  rw [ht, doc_start]
  have hb : beginS (st0 (97 :: 32 :: 120 :: 10 :: 61 :: 9 :: q :: (quoL q s ++ q :: [32, 121, 61, 39, 39, 32, 120, 61, 39, 39, 47, 62]))) = .error 11 := by
    have hn : nameL (97 :: 32 :: 120 :: 10 :: 61 :: 9 :: q :: (quoL q s ++ q :: [32, 121, 61, 39, 39, 32, 120, 61, 39, 39, 47, 62])) = ([97], 32 :: 120 :: 10 :: 61 :: 9 :: q :: (quoL q s ++ q :: [32, 121, 61, 39, 39, 32, 120, 61, 39, 39, 47, 62])) := rfl
    have hat : attrsL ((32 :: 120 :: 10 :: 61 :: 9 :: q :: (quoL q s ++ q :: [32, 121, 61, 39, 39, 32, 120, 61, 39, 39, 47, 62])).length + 1) (32 :: 120 :: 10 :: 61 :: 9 :: q :: (quoL q s ++ q :: [32, 121, 61, 39, 39, 32, 120, 61, 39, 39, 47, 62])) [] = none := by
      rw [attrs_x q hq]
      rfl
    unfold beginS
    show (if (nameL (97 :: 32 :: 120 :: 10 :: 61 :: 9 :: q :: (quoL q s ++ q :: [32, 121, 61, 39, 39, 32, 120, 61, 39, 39, 47, 62]))).1 = [] then _ else _) = _
    rw [hn]
    simp only
    rw [if_neg (by simp)]
    show (match attrsL ((nameL (97 :: 32 :: 120 :: 10 :: 61 :: 9 :: q :: (quoL q s ++ q :: [32, 121, 61, 39, 39, 32, 120, 61, 39, 39, 47, 62]))).2.length + 1) (nameL (97 :: 32 :: 120 :: 10 :: 61 :: 9 :: q :: (quoL q s ++ q :: [32, 121, 61, 39, 39, 32, 120, 61, 39, 39, 47, 62]))).2 [] with | none => _ | some (ats, r) => _) = _
    rw [hn]
    simp only
    rw [hat]
  rw [hb]
end Go.Proofs.YtiocdngkhdoigaaDoor
