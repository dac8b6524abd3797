/-
  The document's Quote.
  Conditions: at most 35184372088000 bytes.
-/
import Derived.Test.YtphmhglebeapaaaQEsc
import Derived.Test.YtphmhglebeapaaaRowAt
namespace Go.Proofs.Ytphmhglebeapaaa
open Go.RowKit

theorem qb_next {b : List Nat} {k c : Nat} (h : b[k]? = some c) : (b.take (k + 1)).flatMap qb = (b.take k).flatMap qb ++ qb c := by
  have hk := (List.getElem?_eq_some_iff.1 h).1
  rw [List.take_succ_eq_append_getElem hk, (List.getElem?_eq_some_iff.1 h).2, List.flatMap_append]
  simp
theorem qb_take_len (b : List Nat) (k : Nat) : ((b.take k).flatMap qb).length ≤ 4 * b.length := by
  have := (flat_len (b.take k)).2
  have := List.length_take_le' k b
  omega
/-- What Quote tells. -/
def QuoTo (w : World) (b : List Nat) (e : Ending) (w' : World) : Prop := e = .returned (.string (str (quoteL b))) ∧ Below w.heap.size w w'

end Go.Proofs.Ytphmhglebeapaaa
