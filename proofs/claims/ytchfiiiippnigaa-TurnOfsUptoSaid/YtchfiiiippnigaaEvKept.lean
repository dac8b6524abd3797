/-
  What a range over a function wants of memory (parts of EvIter, for texts that have a "told" of their own).
  Conditions: none.
-/
import Derived.Test.YtchfiiiippnigaaEvMem
import Derived.RangeFuncNested
import Derived.RangeFuncBound
import Derived.RangeFuncCalls
import Derived.RangeFuncLeaves
import Derived.RangeFuncBox
import Derived.Shelf.Abstract
import Derived.OwnWalkIn
import Derived.TacticsInMore
import Derived.LoopNIn
import Derived.LoopIn
import Derived.Maps.AppendAt
namespace Go.Proofs.Ytchfiiiippnigaa
open Go.RowKit

/-- These blocks are as they were. -/
def Kept (S : Nat → Prop) (W W' : World) : Prop := ∀ b, S b → W'.heap[b]? = W.heap[b]?
theorem Kept.refl (S : Nat → Prop) (W : World) : Kept S W W := fun _ _ => rfl
theorem Kept.t {S : Nat → Prop} {A B C : World} (h : Kept S A B) (k : Kept S B C) : Kept S A C := fun b e => (k b e).trans (h b e)
theorem Kept.b {S : Nat → Prop} {w : World} (hS : ∀ b, S b → b < w.heap.size) (W : World) (l : Nat) (o o' : Obj) (hl : w.heap.size ≤ l) (_ : W.heap[l]? = some o) (_ : o.isCells = false) (_ : o.isWalk = false) : Kept S W (W.putObj l o') :=
  fun b e => World.putObj_heap_other (fun e' => by have := hS b e; omega)

/-- A block of cells stays where only others turn. -/
theorem cells_kept {W W' : World} {row : Option Nat} {B : Nat} (hg : W.grownBy W' row) (hrow : ∀ r, row = some r → B ≤ r ∧ ∃ o : Obj, W.heap[r]? = some o ∧ o.isCells = false) {k : Nat} {cs : Array Value} {t : TypeId} {z : Nat × Nat} (hk : W.heap[k]? = some (.cells cs t z)) : W'.heap[k]? = W.heap[k]? :=
  hg.block k (lt_of_heap hk) fun e => by
    obtain ⟨_, o, ho, hc⟩ := hrow k e.symm
    rw [hk] at ho
    cases ho
    cases hc
theorem Row.obj {w : World} {e : TypeId} {g : Option Nat} {v : Value} {xs : List Value} (h : Row w e g v xs) {b : Nat} (hb : g = some b) : ∃ cs, w.heap[b]? = some (.cells cs e (0, 0)) := by
  obtain ⟨_, _, _, _, _, _, hh⟩ := h
  rcases hh with ⟨_, e'⟩ | ⟨b', _, cs, _, e', _, hh, _⟩
  · rw [e'] at hb; cases hb
  · rw [e'] at hb; cases hb
    exact ⟨cs, hh⟩
theorem wpListIn_append_row {F : Fence} {n : Nat} {P : Program} (w : World) {ops : Array Oper} {rest : List Oper} {o : Oper} {a : Act} {Q : Exit → Act → World → Prop}
    (hgd : o.guard = none) (s x : Operand) (t : TypeId) (ho : o.op = Op.call { callee := Callee.builtin Builtin.append, args := #[s, x], argTypes := #[t, t] })
    (e : TypeId) (i : TypeInfo) (z : Value) (bytes : Nat) (ht : P.underlying t = some (.slice e)) (hi : P.info? e = some i) (hz : i.zero = some z)
    (hsize : i.size = 1) (hby : i.bytes = bytes) (hzs : z.cells.size = 1)
    (g : Option Nat) (v : Value) (xs : List Value) (hs : a.eval s = v) (hrow : Row w e g v xs) (xv : Value) (ys : List Value) (hx : a.eval x = xv) (hrd : Rd w xv ys)
    (h63 : xs.length + ys.length ≤ maxLen) (hbytes : (xs.length + ys.length) * bytes ≤ 140737488355328)
    (h : ∀ A' c' w' g', Row w' e g' (.slice A' (xs.length + ys.length) c') (xs ++ ys) → w.grownBy w' g → (g' = g ∨ g' = some w.heap.size) → wpListIn F n P ops Q rest (a.put o.dst (.slice A' (xs.length + ys.length) c')) w') :
    wpListIn F n P ops Q (o :: rest) a w := by
  refine wpListIn_plain hgd fun K hK' => ?_
  obtain ⟨v', w', g', hrun, h2, h3, h4⟩ := run_append_row (P := P) w t t o.type e i z bytes ht hi hz hsize hby hzs hrow xv ys.length ys (hrd.src ht) h63 hbytes
  obtain ⟨A', c', rfl⟩ := h2.form
  rw [List.length_append] at h2 hrun
  unfold Oper.wpIn
  refine ⟨?_, ?_⟩
  · simp [Oper.about, ho, resolve, Target.leads, Sem.run_pure]
  · rw [Oper.semAt_plain F _ _ (by rw [ho]; intro c hc'; cases hc')]
    simp [execOp, ho, resolve, invoke, builtin, hs, hx, hrun, Result.andThen]
    exact hK' _ _ (h A' c' w' g' h2 h3 h4)

theorem EvsIn.own {β : Type} {S : Nat → Prop} {B : Nat} {v : Value} {L : List Ev} (hS : ∀ b, S b → b < B) : OwnFrom B (fun (_ : β) W => EvsIn S W v L) := fun _ _ _ _ h hg hr =>
  h.keep fun b hb hlt => hg.block b hlt fun e => by have := (hr b e.symm).1; have := hS b hb; omega

end Go.Proofs.Ytchfiiiippnigaa
