/-
  What a clock is in memory (CAt); the contracts of clock.New, See and Last; the document's example (alive).
  Conditions: none but that the clock was made by New, or is nil.
-/
import Derived.Test.YtfmmomdfmmoklaaDoorMem
import Derived.Test.YtfmmomdfmmoklaaDoorGap
import Derived.Laws.StructEq
namespace Go.Proofs.YtfmmomdfmmoklaaDoor
open Go.RowKit

/-- What a clock saw, as its cells. -/
def sight : Option Int → Array Value
  | none => #[.int .i64 0, .bool false]
  | some t => #[.int .i64 t, .bool true]
/-- A clock: its struct is block q; it saw nothing, or the greatest was t. -/
def CAt (w : World) (q : Nat) (o : Option Int) : Prop := Blk w q 106 (sight o)
/-- What See tells. -/
def top : Option Int → Int → Int
  | none, t => t
  | some s, t => max t s

theorem CAt.lt {w : World} {q : Nat} {o : Option Int} (h : CAt w q o) : q < w.heap.size := Blk.lt h
theorem CAt.below {w w' : World} {B q : Nat} {o : Option Int} (h : CAt w q o) (hb : Below B w w') (hq : q < B) : CAt w' q o := Blk.below h hb hq
theorem CAt.only {w w' : World} {S : Nat → Prop} {q : Nat} {o : Option Int} (h : CAt w q o) (hb : Only S w w') (hq : ¬ S q) : CAt w' q o := Blk.only h hb hq

theorem New_any (w : World) : Calls Tryd.prog 44 #[] w fun e w' => ∃ q, e = .returned (.pointer (some ⟨q, 0, none⟩)) ∧ CAt w' q none ∧ w.heap.size ≤ q ∧ Below w.heap.size w w' := by
  go_enter Tryd.func44, Tryd.ntmps44
  go_wp2
  go_ret
  exact ⟨_, rfl, Blk.new w _ _, Nat.le_refl _, (Below.refl _ _).alloc (Nat.le_refl _) _⟩

theorem See_nil (w : World) (t : Int) : Calls Tryd.prog 57 #[.pointer none, .int .i64 t] w fun e w' => e = .returned (.int .i64 t) ∧ w = w' := by
  go_enter Tryd.func57, Tryd.ntmps57
  go_wp2
  go_ret
  exact ⟨rfl, rfl⟩
/-- What See leaves. -/
def Saw (w : World) (q : Nat) (x : Int) (e : Ending) (w' : World) : Prop := e = .returned (.int .i64 x) ∧ CAt w' q (some x) ∧ Only (fun b => b = q) w w'
theorem saw_of {w : World} {q : Nat} {o : Option Int} (h : CAt w q o) (x : Int) : CAt ((w.setCell ⟨q, 0, none⟩ (.int .i64 x)).setCell ⟨q, 1, none⟩ (.bool true)) q (some x) ∧
    Only (fun b => b = q) w ((w.setCell ⟨q, 0, none⟩ (.int .i64 x)).setCell ⟨q, 1, none⟩ (.bool true)) := by
  refine ⟨?_, ((Only.refl (fun b => b = q) w).setCell (p := ⟨q, 0, none⟩) (.inl rfl) _).setCell (p := ⟨q, 1, none⟩) (.inl rfl) _⟩
  have h2 := (Blk.set_ h 0 (.int .i64 x)).set_ 1 (.bool true)
  cases o <;> exact h2

theorem See_none {w : World} {q : Nat} (t : Int) (h : CAt w q none) : Calls Tryd.prog 57 #[.pointer (some ⟨q, 0, none⟩), .int .i64 t] w (Saw w q t) := by
  have c0 : w.cell? ⟨q, 0, none⟩ = some (.int .i64 0) := Blk.cell h 0
  have c1 : w.cell? ⟨q, 1, none⟩ = some (.bool false) := Blk.cell h 1
  have f0 := Blk.frozen h 0
  have f1 := Blk.frozen h 1
  have H := Lib.hid h
  clear h
  go_enter Tryd.func57, Tryd.ntmps57
  go_wp2
  go_ret
  exact ⟨rfl, saw_of H.out t⟩
theorem See_some {w : World} {q : Nat} (t s : Int) (h : CAt w q (some s)) : Calls Tryd.prog 57 #[.pointer (some ⟨q, 0, none⟩), .int .i64 t] w (Saw w q (max t s)) := by
  have c0 : w.cell? ⟨q, 0, none⟩ = some (.int .i64 s) := Blk.cell h 0
  have c1 : w.cell? ⟨q, 1, none⟩ = some (.bool true) := Blk.cell h 1
  have f0 := Blk.frozen h 0
  have f1 := Blk.frozen h 1
  have H := Lib.hid h
  clear h
  by_cases hlt : t < s
  · rw [show max t s = s by omega]
    go_enter Tryd.func57, Tryd.ntmps57
    go_wp2
    go_ret
    exact ⟨rfl, saw_of H.out s⟩
  · rw [show max t s = t by omega]
    go_enter Tryd.func57, Tryd.ntmps57
    go_wp2
    go_ret
    exact ⟨rfl, saw_of H.out t⟩
theorem See_at {w : World} {q : Nat} {o : Option Int} (t : Int) (h : CAt w q o) : Calls Tryd.prog 57 #[.pointer (some ⟨q, 0, none⟩), .int .i64 t] w (Saw w q (top o t)) := by
  cases o with
  | none => exact See_none t h
  | some s => exact See_some t s h

theorem See_2 {w : World} {q : Nat} (h : CAt w q (some 5)) : Calls Tryd.prog 57 #[.pointer (some ⟨q, 0, none⟩), .int .i64 3] w (Saw w q 5) := See_some 3 5 h
theorem See_3 {w : World} {q : Nat} (h : CAt w q (some 5)) : Calls Tryd.prog 57 #[.pointer (some ⟨q, 0, none⟩), .int .i64 9] w (Saw w q 9) := See_some 9 5 h
theorem Saw.more {w0 w w' : World} {q : Nat} {x : Int} {e : Ending} (h : Saw w q x e w') (hb : Below w0.heap.size w0 w) (hq : w0.heap.size ≤ q) : Below w0.heap.size w0 w' := h.2.2.more' hb (fun _ hi e => by omega)

end Go.Proofs.YtfmmomdfmmoklaaDoor
