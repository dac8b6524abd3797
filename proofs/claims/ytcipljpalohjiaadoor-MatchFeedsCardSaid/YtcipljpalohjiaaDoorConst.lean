/-
  []byte("..") of a constant: its bytes in a new, marked row.
  Conditions: none.
-/
import Derived.Test.YtcipljpalohjiaaDoorBy
import Derived.Lib.SlBytesConst
namespace Go.Proofs.YtcipljpalohjiaaDoor
open Go.RowKit

theorem run_const (W : World) (b : Nat) (C : Array Value) (n c : Nat) (h : b = W.heap.size) :
    (convert 22 22 (.slice (some ⟨b, 0, none⟩) n c)).run Tryd.prog (W.alloc (.cells C 5)) = .ok (.slice (some ⟨b, 0, none⟩) n c) (W.alloc (.cells C 5 (C.size, C.size + 1))) := by
  subst h
  exact Lib.run_convert_bytes_const (P := Tryd.prog) W 22 5 C n c Tryd.underlying22 Tryd.underlying5

/-- Constant bytes as cells. -/
theorem Rd.const (W : World) (C : Array Value) (k : Nat × Nat) (l : List Nat) (n : Nat) (hn : n = l.length) (hC : C.toList = bv l) : Rd (W.alloc (.cells C 5 k)) (.slice (some ⟨W.heap.size, 0, none⟩) n n) (bv l) := by
  subst hn
  refine ⟨_, l.length, by rw [bv_len], by rw [bv_len]; exact Nat.le_refl _, bv_one l, fun _ => ⟨_, 0, rfl, fun j u hu => ?_⟩⟩
  rw [cell_of_row (W.alloc (.cells C 5 k)) W.heap.size (0 + j) C 5 k (heap_alloc_new W _), Nat.zero_add, ← Array.getElem?_toList, hC]
  exact hu
end Go.Proofs.YtcipljpalohjiaaDoor
