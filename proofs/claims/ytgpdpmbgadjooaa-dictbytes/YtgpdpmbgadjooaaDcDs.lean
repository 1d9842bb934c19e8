/- Reading words one by one: plain. -/
import Derived.Test.YtgpdpmbgadjooaaDcEs
namespace Go.Proofs.Ytgpdpmbgadjooaa
set_option maxRecDepth 100000

/-- k of N words are read: these; the bytes behind them. -/
structure StD (l : B8) (N k : Nat) (us : List B8) (l' : B8) : Prop where
  len : us.length = k
  le : k ≤ N
  eq : dD l = (dWs (N - k) (decide (k = 0)) (lastD [] us) l').map (fun q => (us ++ q.1, q.2))
  sz : (lastD [] us).length + l'.length ≤ l.length
theorem StD.start {l l0 : B8} {N : Nat} (h : rdN l l.length = some (N, l0)) : StD l N 0 [] l0 := by
  refine ⟨rfl, Nat.zero_le _, ?_, ?_⟩
  · unfold dD
    rw [h]
    show dWs N true [] l0 = _
    simp [lastD]
  · have := rdN_len h
    simp [lastD]
    omega
theorem dD_none {l : B8} (h : rdN l l.length = none) : dD l = none := by unfold dD; rw [h]; rfl
theorem StD.none {l : B8} {N k : Nat} {us : List B8} {l' : B8} (h : StD l N k us l') (hk : k < N) (hd : dW (decide (k = 0)) (lastD [] us) l' = none) : dD l = none := by
  rw [h.eq, show N - k = (N - k - 1) + 1 by omega, dWs, hd]
  rfl
theorem StD.no1 {l : B8} {N k : Nat} {us : List B8} {l' : B8} (h : StD l N k us l') (hk : k < N) (h1 : rdN l' (lastD [] us).length = .none) : dD l = .none :=
  h.none hk (by unfold dW; rw [h1]; rfl)
theorem StD.no2 {l : B8} {N k n : Nat} {us : List B8} {l' l1 : B8} (h : StD l N k us l') (hk : k < N) (h1 : rdN l' (lastD [] us).length = some (n, l1)) (h2 : rdT l1 = .none) : dD l = .none :=
  h.none hk (by unfold dW; rw [h1]; show (rdT l1).bind _ = .none; rw [h2]; rfl)
theorem dW_at {f : Bool} {a l' l1 t l2 : B8} {n : Nat} (h1 : rdN l' a.length = some (n, l1)) (h2 : rdT l1 = some (t, l2)) : dW f a l' = dW1 f a n (t, l2) := by
  unfold dW
  rw [h1]
  show (rdT l1).bind _ = _
  rw [h2]
  rfl
theorem StD.no3 {l : B8} {N k n : Nat} {us : List B8} {l' l1 t l2 : B8} (h : StD l N k us l') (hk : k < N) (h1 : rdN l' (lastD [] us).length = some (n, l1)) (h2 : rdT l1 = some (t, l2)) (h3 : badW (decide (k = 0)) (lastD [] us) n (wOf (lastD [] us) n t) = true) : dD l = .none :=
  h.none hk (by rw [dW_at h1 h2, dW1, h3]; rfl)
theorem StD.on {l : B8} {N k n : Nat} {us : List B8} {l' l1 t l2 : B8} (h : StD l N k us l') (hk : k < N) (h1 : rdN l' (lastD [] us).length = some (n, l1)) (h2 : rdT l1 = some (t, l2)) (h3 : badW (decide (k = 0)) (lastD [] us) n (wOf (lastD [] us) n t) = false) : StD l N (k + 1) (us ++ [wOf (lastD [] us) n t]) l2 := by
  have hd : dW (decide (k = 0)) (lastD [] us) l' = some (wOf (lastD [] us) n t, l2) := by rw [dW_at h1 h2, dW1, h3]; rfl
  have hz := (dW_some hd).2.2
  have hl : lastD [] (us ++ [wOf (lastD [] us) n t]) = wOf (lastD [] us) n t := by unfold lastD; rw [List.getLast?_concat]; rfl
  refine ⟨by simp [h.len], hk, ?_, ?_⟩
  · rw [h.eq, hl, show N - k = (N - (k + 1)) + 1 by omega, dWs, hd]
    simp only [Option.bind_some, Option.map_map]
    have e : decide (k + 1 = 0) = false := by simp
    rw [e]
    congr 1
    funext q
    simp
  · rw [hl]
    have := h.sz
    omega
theorem StD.done {l : B8} {N : Nat} {us : List B8} {l' : B8} (h : StD l N N us l') : dD l = some (us, l') := by
  rw [h.eq, Nat.sub_self]
  simp [dWs]
end Go.Proofs.Ytgpdpmbgadjooaa
