/-
  append(append([]byte{}, a...), b...) of bytes, as two equations; an append under a guard.
  Conditions: at most 4194304 bytes together.
-/
import Derived.Test.YteapcahpkapbbaaBy
import Derived.Test.YteapcahpkapbbaaAppRun
import Derived.Deep.RegionHeld3
namespace Go.Proofs.Yteapcahpkapbbaa
open Go.RowKit

/-- An append under a guard that says yes, by its run's equation. -/
theorem step_append_runG {P : Program} {ops : Array Oper} {o : Oper} {a : Act} {w : World} {K : Act → World → Prop} {Q : Exit → Act → World → Prop} {E : Prop} (hw : Region.wanted o (yielded ops a.tmps) = true) (s x : Operand) (t : TypeId)
    (ho : o.op = .call { callee := .builtin .append, args := #[s, x], argTypes := #[t, t] }) (v xv v' : Value) (w' : World) (hs : a.eval s = v) (hx : a.eval x = xv) (hrun : (Builtin.append_ #[t, t] o.type #[v, xv]).run P w = .ok v' w') (h : K (a.put o.dst v') w') :
    if Region.wanted o (yielded ops a.tmps) = true then Oper.wp P o a w K Q else E := by
  rw [if_pos hw]
  unfold Oper.wp execOp
  simp only [ho, resolve, invoke, builtin, Sem.run_bind, Sem.run_pure, Result.andThen_ok, List.map_toArray, List.map_cons, List.map_nil, hs, hx, hrun]
  exact h
/-- The same in a walk in the text's order. -/
theorem wpList_append_runG {P : Program} {ops : Array Oper} {rest : List Oper} {o : Oper} {a : Act} {w : World} {Q : Exit → Act → World → Prop} (hw : Region.wanted o (yielded ops a.tmps) = true) (s x : Operand) (t : TypeId)
    (ho : o.op = .call { callee := .builtin .append, args := #[s, x], argTypes := #[t, t] }) (v xv v' : Value) (w' : World) (hs : a.eval s = v) (hx : a.eval x = xv) (hrun : (Builtin.append_ #[t, t] o.type #[v, xv]).run P w = .ok v' w') (h : wpList P ops Q rest (a.put o.dst v') w') :
    wpList P ops Q (o :: rest) a w :=
  wpList_step fun _ hK => step_append_runG hw s x t ho v xv v' w' hs hx hrun (hK _ _ h)
/-- append(append([]byte{}, a...), b...), as two equations. -/
theorem joined_b {V : World} {A B : Option Addr} {ca cb : Nat} {a b : List Nat} (ha : Rd V (.slice A a.length ca) (bv a)) (hb : Rd V (.slice B b.length cb) (bv b)) (hn : a.length + b.length ≤ 4194304) :
    ∃ A5 c5 w5 A7 c7 w7, (Builtin.append_ #[59, 59] 59 #[.slice (some ⟨V.heap.size, 0, none⟩) 0 0, .slice A a.length ca]).run Try.prog (V.alloc (.cells #[] 5)) = .ok (.slice A5 a.length c5) w5 ∧
      (Builtin.append_ #[59, 59] 59 #[.slice A5 a.length c5, .slice B b.length cb]).run Try.prog w5 = .ok (.slice A7 (a.length + b.length) c7) w7 ∧
      Below V.heap.size V w7 ∧ Rd w7 (.slice A7 (a.length + b.length) c7) (bv (a ++ b)) := by
  obtain ⟨i0, hi0, hz0, hz1, hz2⟩ := info_parts byte_info
  have hbd : Below V.heap.size V (V.alloc (.cells #[] 5)) := (Below.refl V.heap.size V).alloc (Nat.le_refl _) _
  obtain ⟨v5, w5, g5, hrun5, hr5, hg5, hg5'⟩ := run_append_row (P := Try.prog) (V.alloc (.cells #[] 5)) 59 59 59 5 i0 _ 1 Try.underlying59 hi0 hz0 hz1 hz2 rfl (Row.empty _ _ (some ⟨V.heap.size, 0, none⟩)) _ a.length (bv a) (by have := (ha.kept hbd).src (P := Try.prog) Try.underlying59; rwa [bv_len] at this) (by simp only [maxLen]; simp; omega) (by simp; omega)
  obtain ⟨A5, c5, rfl⟩ := hr5.form
  rw [List.nil_append] at hr5 hrun5
  rw [bv_len] at hr5 hrun5
  have hb5 : Below V.heap.size V w5 := hbd.grown hg5 (by simp) (by simp)
  have hf5 : ∀ k, g5 = some k → V.heap.size ≤ k := by
    intro k e
    rcases hg5' with e' | e'
    · rw [e'] at e; cases e
    · rw [e] at e'; simp at e'; omega
  obtain ⟨v7, w7, g7, hrun7, hr7, hg7, hg7'⟩ := run_append_row (P := Try.prog) w5 59 59 59 5 i0 _ 1 Try.underlying59 hi0 hz0 hz1 hz2 rfl hr5 _ b.length (bv b) (by have := (hb.kept hb5).src (P := Try.prog) Try.underlying59; rwa [bv_len] at this) (by simp only [maxLen]; rw [bv_len]; omega) (by rw [bv_len]; omega)
  obtain ⟨A7, c7, rfl⟩ := hr7.form
  have hl : (bv a ++ bv b).length = a.length + b.length := by rw [List.length_append, bv_len, bv_len]
  rw [hl] at hr7 hrun7
  refine ⟨A5, c5, w5, A7, c7, w7, hrun5, hrun7, hb5.grown hg7 hb5.size hf5, ?_⟩
  rw [bv_append]
  exact hr7.rd
end Go.Proofs.Yteapcahpkapbbaa
