/-
  Two matchers side by side; what a hit hangs on; two rows of bytes one behind the other.
  Conditions: those of each theorem.
-/
import Derived.Test.YtcipljpalohjiaaDoorMtMath
import Derived.Test.YtcipljpalohjiaaDoorMtOps
import Derived.Test.YtcipljpalohjiaaDoorBy
import Derived.Deep.RegionHeld3
import Derived.Test.YtcipljpalohjiaaDoorMem
namespace Go.Proofs.YtcipljpalohjiaaDoor

theorem span_behind {t : List Thg} {a b : List Nat} {n : Nat} (hn : n ≤ b.length) : spanS t (a ++ b) (n : Nat) = (spanS t b (n : Nat)).map (a.length + ·) := by
  have skip : ∀ (k m i : Nat), i + k ≤ a.length → spanFrom t (a ++ b) (n : Nat) (k + m) i = spanFrom t (a ++ b) (n : Nat) m (i + k) := by
    intro k
    induction k with
    | zero => intro m i _; rw [Nat.zero_add, Nat.add_zero]
    | succ k ih =>
      intro m i h
      rw [show k + 1 + m = (k + m) + 1 by omega, spanFrom, if_neg, ih m (i + 1) (by omega), show i + 1 + k = i + (k + 1) by omega]
      rintro ⟨h1, _⟩
      rw [List.length_append] at h1
      omega
  have shift : ∀ (m i : Nat), spanFrom t (a ++ b) (n : Nat) m (a.length + i) = (spanFrom t b (n : Nat) m i).map (a.length + ·) := by
    intro m
    induction m with
    | zero => intro i; rfl
    | succ m ih =>
      intro i
      rw [spanFrom, spanFrom, show (a ++ b).drop (a.length + i) = b.drop i by rw [List.drop_append, List.drop_of_length_le (by omega), List.nil_append, Nat.add_sub_cancel_left],
        show (((a ++ b).length : Nat) : Int) - ((a.length + i : Nat) : Int) = (b.length : Int) - (i : Int) by rw [List.length_append]; omega]
      split
      · rfl
      · rw [show a.length + i + 1 = a.length + (i + 1) by omega]; exact ih (i + 1)
  unfold spanS
  rw [show (a ++ b).length + 1 = a.length + (b.length + 1) by rw [List.length_append]; omega, skip a.length _ 0 (by omega), Nat.zero_add]
  exact shift _ 0
theorem ends_behind {a b p : List Nat} (h : p.length ≤ b.length) : endsB (a ++ b) p = endsB b p := by
  unfold endsB
  rw [List.length_append, decide_eq_true h, decide_eq_true (show p.length ≤ a.length + b.length by omega),
    show (a ++ b).drop (a.length + b.length - p.length) = b.drop (b.length - p.length) by rw [List.drop_append, List.drop_of_length_le (by omega), List.nil_append]; congr 1; omega]
theorem from_behind {a b : List Nat} {n : Nat} (hn : n ≤ b.length) (x : Brc) : fromS (n : Nat) (a ++ b) x = (fromS (n : Nat) b x).map (a.length + ·) := by
  unfold fromS
  split
  · by_cases h : (x.pat.length : Int) ≤ (n : Int)
    · rw [ends_behind (by omega)]
      by_cases h2 : endsB b x.pat = true
      · rw [if_pos ⟨h, h2⟩, if_pos ⟨h, h2⟩, List.length_append]
        show some (a.length + b.length - x.pat.length) = some (a.length + (b.length - x.pat.length))
        congr 1; omega
      · rw [if_neg fun h3 => h2 h3.2, if_neg fun h3 => h2 h3.2]; rfl
    · rw [if_neg fun h3 => h h3.1, if_neg fun h3 => h h3.1]; rfl
  · split
    · cases thingsS x.pat with
      | none => rfl
      | some t => exact span_behind hn
    · rfl
theorem hit_behind {a b : List Nat} {n : Nat} (hn : n ≤ b.length) (l : List Brc) : hitS (n : Nat) (a ++ b) l = (hitS (n : Nat) b l).map fun p => (p.1, a.length + p.2) := by
  have gen : ∀ (l : List Brc) (i : Nat), hitFrom (n : Nat) (a ++ b) l i = (hitFrom (n : Nat) b l i).map fun p => (p.1, a.length + p.2) := by
    intro l
    induction l with
    | nil => intro i; rfl
    | cons x l ih =>
      intro i
      rw [hitFrom, hitFrom, from_behind hn x]
      cases fromS (n : Nat) b x with
      | none => exact ih (i + 1)
      | some f => rfl
  exact gen l 0
end Go.Proofs.YtcipljpalohjiaaDoor
namespace Go.Proofs.YtcipljpalohjiaaDoor
open Go.RowKit

section
variable {P P' Q Q' : Thing} {N : Nat → Prop} {w0 w : World} {f : FuncId} {args : Array Value} {φ : Ending → Prop}
theorem Has.callML (h : Has (Star P Q) N w0 w) (fQ : Framed Q) (k : ∀ F, P F w → Calls Tryd.prog f args w fun e w' => φ e ∧ Turned P' F w w') : Calls Tryd.prog f args w fun e w' => φ e ∧ Has (Star P' Q) N w0 w' ∧ Stay N w w' := by
  obtain ⟨F, h⟩ := h
  obtain ⟨A, B, hs⟩ := h.it
  refine (k A hs.fst).mono ?_
  rintro e w' ⟨he, ht⟩
  exact ⟨he, h.turn (hs.left fQ ht)⟩
theorem Has.callMR (h : Has (Star P Q) N w0 w) (fP : Framed P) (k : ∀ F, Q F w → Calls Tryd.prog f args w fun e w' => φ e ∧ Turned Q' F w w') : Calls Tryd.prog f args w fun e w' => φ e ∧ Has (Star P Q') N w0 w' ∧ Stay N w w' := by
  obtain ⟨F, h⟩ := h
  obtain ⟨A, B, hs⟩ := h.it
  refine (k B hs.snd).mono ?_
  rintro e w' ⟨he, ht⟩
  exact ⟨he, h.turn (hs.right fP ht)⟩
end
section
variable {b n : Nat} {l : List Brc} {came : List Nat} {P Q : Thing} {N : Nat → Prop} {w0 w : World} [tz : TzW w0]
theorem new_m2 {S : Nat → Prop} (n : Nat) (v : Value) (l : List Brc) (hp : Has P N w0 w) (fP : Framed P) (h : Brs S w v l) (hx : ∀ x ∈ l, BrIn x) (hc : checkS (n : Nat) l = 0) :
    Calls Tryd.prog 11 #[.int .i64 (n : Nat), v] w fun e w' => ∃ b, e = .returned (.tuple #[.pointer (some ⟨b, 0, none⟩), .int .i64 0]) ∧ Has (Star P (MatT b n l [])) (fun _ => False) w0 w' := by
  refine (New_ok n v l w (tz.out.below hp.below) h hx hc).mono ?_
  rintro e w' ⟨b, F, he, hm, hF, hb⟩
  exact ⟨b, he, hp.both fP hm hF hb⟩
theorem feed_l (h : Has (Star (MatT b n l came) Q) N w0 w) (fQ : Framed Q) (c : Nat) (hc : c < 256) (hm : came.length ≤ 1048576) : Calls Tryd.prog 16 #[.pointer (some ⟨b, 0, none⟩), .int .u8 (c : Nat)] w fun e w' => e = .returned (hitE (hitS (n : Nat) (came ++ [c]) l) (came.length + 1)) ∧ Has (Star (MatT b n l (came ++ [c])) Q) N w0 w' ∧ Stay N w w' := h.callML fQ fun _ h' => Feed_is h' (tz.out.below h.below) c hc (by omega)
theorem feed_r (h : Has (Star P (MatT b n l came)) N w0 w) (fP : Framed P) (c : Nat) (hc : c < 256) (hm : came.length ≤ 1048576) : Calls Tryd.prog 16 #[.pointer (some ⟨b, 0, none⟩), .int .u8 (c : Nat)] w fun e w' => e = .returned (hitE (hitS (n : Nat) (came ++ [c]) l) (came.length + 1)) ∧ Has (Star P (MatT b n l (came ++ [c]))) N w0 w' ∧ Stay N w w' := h.callMR fP fun _ h' => Feed_is h' (tz.out.below h.below) c hc (by omega)
end
end Go.Proofs.YtcipljpalohjiaaDoor
namespace Go.Proofs.YtcipljpalohjiaaDoor
open Go.RowKit

/-- An append under a guard that says yes, by its run's equation. -/
theorem step_append_runG {P : Program} {ops : Array Oper} {o : Oper} {a : Act} {w : World} {K : Act → World → Prop} {Q : Exit → Act → World → Prop} {E : Prop} (hw : Region.wanted o (yielded ops a.tmps) = true) (s x : Operand) (t : TypeId)
    (ho : o.op = .call { callee := .builtin .append, args := #[s, x], argTypes := #[t, t] }) (v xv v' : Value) (w' : World) (hs : a.eval s = v) (hx : a.eval x = xv) (hrun : (Builtin.append_ #[t, t] o.type #[v, xv]).run P w = .ok v' w') (h : K (a.put o.dst v') w') :
    if Region.wanted o (yielded ops a.tmps) = true then Oper.wp P o a w K Q else E := by
  rw [if_pos hw]
  unfold Oper.wp execOp
  simp only [ho, resolve, invoke, builtin, Sem.run_bind, Sem.run_pure, Result.andThen_ok, List.map_toArray, List.map_cons, List.map_nil, hs, hx, hrun]
  exact h
/-- The same in a walk in the text's order. -/
theorem wpList_append_runG {P : Program} {ops : Array Oper} {rest : List Oper} {o : Oper} {a : Act} {w : World} {Q : Exit → Act → World → Prop} (hw : Region.wanted o (yielded ops a.tmps) = true) (s x : Operand) (t : TypeId)
    (ho : o.op = .call { callee := .builtin .append, args := #[s, x], argTypes := #[t, t] }) (v xv v' : Value) (w' : World) (hs : a.eval s = v) (hx : a.eval x = xv) (hrun : (Builtin.append_ #[t, t] o.type #[v, xv]).run P w = .ok v' w') (h : wpList P ops Q rest (a.put o.dst v') w') :
    wpList P ops Q (o :: rest) a w :=
  wpList_step fun _ hK => step_append_runG hw s x t ho v xv v' w' hs hx hrun (hK _ _ h)
/-- append(append([]byte{}, a...), b...), as two equations. -/
theorem joined_b {V : World} {A B : Option Addr} {ca cb : Nat} {a b : List Nat} (ha : Rd V (.slice A a.length ca) (bv a)) (hb : Rd V (.slice B b.length cb) (bv b)) (hn : a.length + b.length ≤ 4194304) :
    ∃ A5 c5 w5 A7 c7 w7, (Builtin.append_ #[22, 22] 22 #[.slice (some ⟨V.heap.size, 0, none⟩) 0 0, .slice A a.length ca]).run Tryd.prog (V.alloc (.cells #[] 5)) = .ok (.slice A5 a.length c5) w5 ∧
      (Builtin.append_ #[22, 22] 22 #[.slice A5 a.length c5, .slice B b.length cb]).run Tryd.prog w5 = .ok (.slice A7 (a.length + b.length) c7) w7 ∧
      Below V.heap.size V w7 ∧ Rd w7 (.slice A7 (a.length + b.length) c7) (bv (a ++ b)) := by
  obtain ⟨i0, hi0, hz0, hz1, hz2⟩ := info_parts byte_info
  have hbd : Below V.heap.size V (V.alloc (.cells #[] 5)) := (Below.refl V.heap.size V).alloc (Nat.le_refl _) _
  obtain ⟨v5, w5, g5, hrun5, hr5, hg5, hg5'⟩ := run_append_row (P := Tryd.prog) (V.alloc (.cells #[] 5)) 22 22 22 5 i0 _ 1 Tryd.underlying22 hi0 hz0 hz1 hz2 rfl (Row.empty _ _ (some ⟨V.heap.size, 0, none⟩)) _ a.length (bv a) (by have := (ha.kept hbd).src (P := Tryd.prog) Tryd.underlying22; rwa [bv_len] at this) (by simp only [maxLen]; simp; omega) (by simp; omega)
  obtain ⟨A5, c5, rfl⟩ := hr5.form
  rw [List.nil_append] at hr5 hrun5
  rw [bv_len] at hr5 hrun5
  have hb5 : Below V.heap.size V w5 := hbd.grown hg5 (by simp) (by simp)
  have hf5 : ∀ k, g5 = some k → V.heap.size ≤ k := by
    intro k e
    rcases hg5' with e' | e'
    · rw [e'] at e; cases e
    · rw [e] at e'; simp at e'; omega
  obtain ⟨v7, w7, g7, hrun7, hr7, hg7, hg7'⟩ := run_append_row (P := Tryd.prog) w5 22 22 22 5 i0 _ 1 Tryd.underlying22 hi0 hz0 hz1 hz2 rfl hr5 _ b.length (bv b) (by have := (hb.kept hb5).src (P := Tryd.prog) Tryd.underlying22; rwa [bv_len] at this) (by simp only [maxLen]; rw [bv_len]; omega) (by rw [bv_len]; omega)
  obtain ⟨A7, c7, rfl⟩ := hr7.form
  have hl : (bv a ++ bv b).length = a.length + b.length := by rw [List.length_append, bv_len, bv_len]
  rw [hl] at hr7 hrun7
  refine ⟨A5, c5, w5, A7, c7, w7, hrun5, hrun7, hb5.grown hg7 hb5.size hf5, ?_⟩
  rw [bv_append]
  exact hr7.rd
end Go.Proofs.YtcipljpalohjiaaDoor
namespace Go.Proofs.YtcipljpalohjiaaDoor
open Go.RowKit

theorem step_append_run {P : Program} {ops : Array Oper} {o : Oper} {a : Act} {w : World} {K : Act → World → Prop} {Q : Exit → Act → World → Prop} {E : Prop} (hgd : o.guard = none) (s x : Operand) (t : TypeId)
    (ho : o.op = .call { callee := .builtin .append, args := #[s, x], argTypes := #[t, t] }) (v xv v' : Value) (w' : World) (hs : a.eval s = v) (hx : a.eval x = xv) (hrun : (Builtin.append_ #[t, t] o.type #[v, xv]).run P w = .ok v' w') (h : K (a.put o.dst v') w') :
    if Region.wanted o (yielded ops a.tmps) = true then Oper.wp P o a w K Q else E := by
  have hw : Region.wanted o (yielded ops a.tmps) = true := by simp [Region.wanted, hgd]
  rw [if_pos hw]
  unfold Oper.wp execOp
  simp only [ho, resolve, invoke, builtin, Sem.run_bind, Sem.run_pure, Result.andThen_ok, List.map_toArray, List.map_cons, List.map_nil, hs, hx, hrun]
  exact h
end Go.Proofs.YtcipljpalohjiaaDoor
