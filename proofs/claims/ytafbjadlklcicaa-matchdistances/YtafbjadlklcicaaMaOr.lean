/- Or. -/
import Derived.Test.YtafbjadlklcicaaMaOf
namespace Go.Proofs.Ytafbjadlklcicaa
open Go.RowKit
set_option maxRecDepth 100000

theorem MK.base {w0 w1 wr : World} {v : Value} {zs : List (Value × Value)} {ms : List Mt} (h : MK w1 wr v zs ms) (hb : Below w0.heap.size w0 w1) : MK w0 wr v zs ms :=
  ⟨own_le h.own hb.size, h.mz, hb.trans (h.kb.mono hb.size), fun z hz => ⟨⟨(h.fz z hz).1.1.le hb.size, (h.fz z hz).1.2.le hb.size⟩, (h.fz z hz).2⟩⟩
def smM (ms : List Mt) : Prop := ∀ m ∈ ms, m.1.length ≤ 20000 ∧ m.2.length ≤ 20000
theorem smM.app {a b : List Mt} (h : smM a) (k : smM b) : smM (a ++ b) := fun m hm => (List.mem_append.1 hm).elim (h m) (k m)
end Go.Proofs.Ytafbjadlklcicaa
