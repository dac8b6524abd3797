/-
  Memory of bytes: blocks known whole read as bytes; a row of bytes of the call's own (RowAt, BytTo), and an append onto it.
  Conditions: none.
-/
import Derived.Test.YteapcahpkapbbaaBy
namespace Go.Proofs.Yteapcahpkapbbaa
open Go.RowKit

theorem al_at {w : World} {o : Obj} {b : Nat} (h : b = w.heap.size) : (w.alloc o).heap[b]? = some o := by subst h; exact heap_alloc_new w o
theorem al_old {w : World} {o x : Obj} {b : Nat} (h : w.heap[b]? = some x) : (w.alloc o).heap[b]? = some x := (Below.heap_alloc w o b (lt_of_heap h)).trans h
theorem Rd.ofBlk {W : World} {b : Nat} {C : Array Value} {t : TypeId} {z : Nat × Nat} (h : W.heap[b]? = some (.cells C t z)) (l : List Nat) (hC : C.toList = bv l) : Rd W (.slice (some ⟨b, 0, none⟩) l.length l.length) (bv l) := by
  refine ⟨_, l.length, by rw [bv_len], by rw [bv_len]; exact Nat.le_refl _, bv_one l, fun _ => ⟨b, 0, rfl, fun j u hu => ?_⟩⟩
  rw [cell_of_row W b (0 + j) C t z h, Nat.zero_add, ← Array.getElem?_toList, hC]
  exact hu

/-- A row of bytes of the call's own. -/
def RowAt (w0 w : World) (A : Option Addr) (c : Nat) (g : Option Nat) (l : List Nat) : Prop :=
  Row w 5 g (.slice A l.length c) (bv l) ∧ (∀ b, g = some b → w0.heap.size ≤ b) ∧ Below w0.heap.size w0 w
theorem RowAt.more {w0 w w1 w' : World} {A A' : Option Addr} {c c' : Nat} {g g' : Option Nat} {l m : List Nat} (h : RowAt w0 w A c g l) (hb : Below w.heap.size w w1)
    (hr : Row w' 5 g' (.slice A' (l.length + m.length) c') (bv l ++ bv m)) (hg : w1.grownBy w' g) (hg' : g' = g ∨ g' = some w1.heap.size) :
    RowAt w0 w' A' c' g' (l ++ m) := by
  obtain ⟨h1, h3, h4⟩ := h
  have h5 : Below w0.heap.size w0 w1 := h4.trans (hb.mono h4.size)
  refine ⟨?_, ?_, ?_⟩
  · rw [List.length_append]
    simpa [bv] using hr
  · rcases hg' with rfl | rfl
    · exact h3
    · intro b e; cases e; exact h5.size
  · exact ((Only.of_below h5 (Nat.le_refl _) (fun b => some b = g)).grown hg (fun k e => .inl e.symm)).below (Nat.le_refl _) (fun i hi e => by have := h3 i e.symm; omega)

/-- What Bytes leaves: bytes in a row of their own. -/
def BytTo (w : World) (bs : List Nat) (e : Ending) (w' : World) : Prop :=
  ∃ A c g, e = .returned (.slice A bs.length c) ∧ Row w' 5 g (.slice A bs.length c) (bv bs) ∧ (∀ b, g = some b → w.heap.size ≤ b) ∧ Below w.heap.size w w'

theorem RowAt.nil (w : World) : RowAt w w none 0 none [] := ⟨Row.nil w _, by simp, Below.refl _ _⟩
theorem RowAt.below {w0 w w' : World} {A : Option Addr} {c : Nat} {g : Option Nat} {l : List Nat} (h : RowAt w0 w A c g l) (hb : Below w.heap.size w w') : RowAt w0 w' A c g l :=
  ⟨h.1.below hb fun _ e => h.1.lt e, h.2.1, h.2.2.trans (hb.mono h.2.2.size)⟩
/-- An append in the walk. -/
theorem RowAt.wp {w0 W W1 : World} {A : Option Addr} {c : Nat} {g : Option Nat} {X : List Nat} (h : RowAt w0 W A c g X) (hb : Below W.heap.size W W1) {ops : Array Oper} {rest : List Oper} {o : Oper} {a : Act} {Q : Exit → Act → World → Prop} (hgd : o.guard = none) (s x : Operand)
    (ho : o.op = .call { callee := .builtin .append, args := #[s, x], argTypes := #[59, 59] }) (hs : a.eval s = .slice A X.length c) (xv : Value) (hx : a.eval x = xv) (m : List Nat) (hr : Rd W1 xv (bv m))
    (hX : X.length + m.length ≤ 140737488355327)
    (k : ∀ A' c' W' g' X', Hid (X' = X ++ m) → Hid (RowAt w0 W' A' c' g' X') → wpList Try.prog ops Q rest (a.put o.dst (.slice A' X'.length c')) W') : wpList Try.prog ops Q (o :: rest) a W1 := by
  obtain ⟨i0, hi0, hz0, hz1, hz2⟩ := info_parts byte_info
  have h1 := h.1.below hb fun _ e => h.1.lt e
  have e1 : (bv X).length = X.length := bv_len X
  have e2 : (bv m).length = m.length := bv_len m
  refine wpList_append_row W1 hgd s x 59 ho 5 i0 _ 1 Try.underlying59 hi0 hz0 hz1 hz2 rfl g _ (bv X) hs h1 xv (bv m) hx hr (by simp only [maxLen]; omega) (by omega) ?_
  intro A' c' w' g' hrow hgr hg'
  rw [e1, e2] at hrow
  have := k A' c' w' g' (X ++ m) (Lib.hid rfl) (Lib.hid (h.more hb hrow hgr hg'))
  rw [e1, e2]
  rwa [List.length_append] at this
end Go.Proofs.Yteapcahpkapbbaa
