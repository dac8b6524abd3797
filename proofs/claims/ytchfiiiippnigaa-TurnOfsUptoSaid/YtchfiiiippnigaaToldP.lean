/-
  A range over a function that hands out memory which it made since the last round: what holds of an element in the world in which it is handed out (R) reaches the body. Over no program.
  Conditions: the body never leaves the loop.
-/
import Derived.RangeFuncNested
import Derived.RangeFuncCalls
import Derived.RangeFuncLeaves
import Derived.RangeFuncBox
namespace Go.Proofs.Ytchfiiiippnigaa
open Go.RowKit

/-- An iterator that makes memory, and tells the elements of S, each with R, one by one. -/
def SeqTold {α : Type} (F : Fence) (n : Nat) (P : Program) (g : Nat) (lb : Array Value) (encs : α → Array Value) (R : List α → α → World → Prop) (Kp : World → World → Prop) (S : List α → Prop) (N : Nat) (w : World) : Prop :=
  ∀ (l : Nat) (J : List α → World → Prop) (W : World), Below w.heap.size w W → (∀ s A B, J s A → A.grownBy B none → J s B) →
    (∀ pre x W1, J pre W1 → R pre x W1 → pre.length < N → YieldAt F (n - 1) P l (encs x) W1 fun e W' => e = .returned (.bool true) ∧ J (pre ++ [x]) W' ∧ Kp W1 W') →
    J [] W → CallsIn F n P g (#[.func (.yield l) #[] #[]] ++ lb) W fun e W' => (∃ v, e = .returned v) ∧ ∃ xs, S xs ∧ J xs W'

/-- How a round's body is left. -/
def toldPost (B : Nat) (Kp : World → World → Prop) (I : World → Prop) (W : World) : Exit → Act → World → Prop
  | .normal, _, W' => KeepsFrom B W W' ∧ Kp W W' ∧ I W'
  | _, _, _ => False

section
variable {F : Fence} {n : Nat} {P : Program} {α : Type} {ps : Array Tmp} {assign body : Code}

/-- The loop's record. -/
def recd (fn : FuncId) (tmps : Array Value) (ps : Array Tmp) (assign body : Code) (D : Nat) (st : LoopState) : Loop := { state := st, pending := none, fn, tmps, params := ps, assign, body, defers := D }

/-- The two blocks that the loop keeps its books in. -/
structure Books (fn : FuncId) (tmps : Array Value) (ps : Array Tmp) (assign body : Code) (D : Nat) (st : LoopState) (W : World) : Prop where
  loop : W.heap[D + 1]? = some (.loop (recd fn tmps ps assign body D st))
  defs : W.heap[D]? = some (.deferred (some []))

theorem Books.keep {fn : FuncId} {tmps : Array Value} {D : Nat} {st : LoopState} {W W' : World} (h : Books fn tmps ps assign body D st W) (hk : KeepsFrom D W W') : Books fn tmps ps assign body D st W' :=
  ⟨hk.same _ _ (Nat.le_succ D) h.loop rfl, hk.same _ _ (Nat.le_refl D) h.defs rfl⟩
theorem Books.turn {fn : FuncId} {tmps : Array Value} {D : Nat} {st : LoopState} {W : World} (h : Books fn tmps ps assign body D st W) (st' : LoopState) : Books fn tmps ps assign body D st' (W.putObj (D + 1) (.loop (recd fn tmps ps assign body D st'))) :=
  ⟨World.putObj_heap_same (Array.getElem?_eq_some_iff.1 h.loop).1, (World.putObj_heap_other (by omega)).trans h.defs⟩

/-- One round: what the iterator's call of yield comes to. -/
theorem round_told {fn : FuncId} {tmps : Array Value} {D : Nat} {W : World} {K : World → Prop} {I I' : World → Prop} {Kp : World → World → Prop} {args : Array Value} {Ax : Act → World → Prop} (hF : F.fn fn)
    (hKt : ∀ {A B C : World}, Kp A B → Kp B C → Kp A C) (hKb : ∀ (W : World) (o o' : Obj), W.heap[D + 1]? = some o → o.isCells = false → o.isWalk = false → Kp W (W.putObj (D + 1) o'))
    (hI : OwnFrom D (fun (_ : Unit) W => I W)) (hI' : OwnFrom D (fun (_ : Unit) W => I' W)) (hAx : ∀ a', OwnFrom D (fun (_ : Unit) W => Ax a' W)) (hB : Books fn tmps ps assign body D .ready W) (hps : args.size = ps.size)
    (hassign : ∀ K : Act → World → Prop, (∀ a' W', KeepsFrom D W W' → Kp W W' → I W' → Ax a' W' → K a' W') →
      assign.wpIn (F.inRound (D + 1)) n P (Exit.then K (fun _ _ _ => False)) { tmps := (ps.zip args).foldl (fun t (p, v) => t.setIfInBounds p v) tmps, defers := [] } W)
    (hbody : ∀ a' W, (∃ r, W.heap[D + 1]? = some (.loop r)) → I W → Ax a' W → body.wpIn (F.inRound (D + 1)) n P (toldPost D Kp I' W) a' W)
    (hK : ∀ W', I' W' → Books fn tmps ps assign body D .ready W' → Kp W W' → K W') :
    YieldAt F n P (D + 1) args W fun e W' => e = .returned (.bool true) ∧ K W' ∧ Kp W W' := by
  have hy := run_yield (P := P) (args := args) hB.loop hps
  refine ⟨fn, _, assign, body, hy, roundIn_of_wpIn hF (hassign _ fun a' W1 hk1 hp1 hi1 hx1 => ?_)⟩
  have hB1 := hB.keep hk1
  refine ⟨_, run_beginRound hB1.loop rfl, ?_⟩
  have hB2 : Books fn tmps ps assign body D .busy (W1.putObj (D + 1) (.loop { recd fn tmps ps assign body D .ready with state := .busy })) := hB1.turn .busy
  have hp2 := hKb W1 _ (.loop { recd fn tmps ps assign body D .ready with state := .busy }) hB1.loop rfl rfl
  refine wpIn_mono (hbody a' _ ⟨_, hB2.loop⟩ (hI.putObj (s := ()) _ hi1 (Nat.le_succ D) hB1.loop rfl) ((hAx a').putObj (s := ()) _ hx1 (Nat.le_succ D) hB1.loop rfl)) ?_
  intro e a3 W3 hpost
  cases e with
  | normal =>
    obtain ⟨hk3, hp3, hi3⟩ := hpost
    have hB3 := hB2.keep hk3
    have hr := run_endRound (P := P) none hB3.loop
    have hB4 : Books fn tmps ps assign body D .ready (W3.putObj (D + 1) (.loop { recd fn tmps ps assign body D .busy with state := if (none : Option Code).isNone then .ready else .done, pending := none })) := hB3.turn .ready
    have hp4 : Kp W (W3.putObj (D + 1) (.loop { recd fn tmps ps assign body D .busy with state := if (none : Option Code).isNone then .ready else .done, pending := none })) := hKt hp1 (hKt (hKt hp2 hp3) (hKb _ _ _ hB3.loop rfl rfl))
    exact ⟨_, _, hr, rfl, hK _ (hI'.putObj (s := ()) _ hi3 (Nat.le_succ D) hB3.loop rfl) hB4 hp4, hp4⟩
  | _ => exact hpost.elim

/-- The statement. -/
theorem wpIn_range_told {g : Operand} {Q : Exit → Act → World → Prop} {a : Act} {w : World}
    (hro : F.round = none) (h1 : 1 ≤ n) {gf : Nat} {lb : Array Value} (hg : a.eval g = .func (.func gf) #[] lb) (hFg : F.fn gf) (eg : ∀ args w, (callFunc gf args).run P w = .ok (.enter gf args) w)
    {encs : α → Array Value} {R : List α → α → World → Prop} {Kp : World → World → Prop} {S : List α → Prop} {N : Nat} {w0 : World} (hseq : SeqTold F (n - 1) P gf lb encs R Kp S N w0)
    (hKt : ∀ {A B C : World}, Kp A B → Kp B C → Kp A C) (hKb : ∀ (W : World) (l : Nat) (o o' : Obj), w.heap.size ≤ l → W.heap[l]? = some o → o.isCells = false → o.isWalk = false → Kp W (W.putObj l o')) (hb0 : Below w0.heap.size w0 w) (hps : ∀ x, (encs x).size = ps.size)
    (I : List α → World → Prop) (hI : OwnFrom w.heap.size I) (h0 : I [] w) (Ax : List α → α → Act → World → Prop) (hAx : ∀ pre x a', OwnFrom w.heap.size (fun (_ : Unit) W => Ax pre x a' W))
    (hassign : ∀ (l : Nat) (pre : List α) (x : α) (W : World) (K : Act → World → Prop), I pre W → R pre x W → (∀ a' W', KeepsFrom w.heap.size W W' → Kp W W' → I pre W' → Ax pre x a' W' → K a' W') →
      assign.wpIn (F.inRound l) (n - 1 - 1) P (Exit.then K (fun _ _ _ => False)) { tmps := (ps.zip (encs x)).foldl (fun t (p, v) => t.setIfInBounds p v) a.tmps, defers := [] } W)
    (hbody : ∀ (l : Nat) (pre : List α) (x : α) (a' : Act) (W : World), w.heap.size ≤ l → (∃ r, W.heap[l]? = some (.loop r)) → I pre W → Ax pre x a' W → pre.length < N → body.wpIn (F.inRound l) (n - 1 - 1) P (toldPost w.heap.size Kp (I (pre ++ [x])) W) a' W)
    (hdone : ∀ (D : Nat) (xs : List α) (W : World), w.heap.size ≤ D → S xs → I xs W → W.heap[D]? = some (.deferred (some [])) → Q .normal { a with defers := { target := .collected D, args := #[] } :: a.defers } W) :
    (Code.rangeFunc g ps assign body).wpIn F n P Q a w := by
  refine wpIn_rangeFunc fun fn hfn => ?_
  rw [hro]
  have hbel : Below w.heap.size w ((w.alloc (.deferred (some []))).alloc (.loop (recd fn a.tmps ps assign body w.heap.size .ready))) := ((Below.refl _ w).alloc (Nat.le_refl _) _).alloc (by simp) _
  have hB : Books fn a.tmps ps assign body w.heap.size .ready ((w.alloc (.deferred (some []))).alloc (.loop (recd fn a.tmps ps assign body w.heap.size .ready))) := by
    refine ⟨?_, (Below.heap_alloc _ _ _ (by simp)).trans (World.alloc_heap_new w _)⟩
    have := World.alloc_heap_new (w.alloc (.deferred (some []))) (.loop (recd fn a.tmps ps assign body w.heap.size .ready))
    rwa [World.size_alloc] at this
  have hown : ∀ s, OwnFrom w.heap.size (fun (_ : Unit) W => I s W) := fun s _ A B row h hg hr => hI s A B row h hg hr
  have hrun := run_enterLoop_outer (P := P) (w := w) fn a.tmps ps assign body
  have hI1 := hI.alloc (s := []) (.loop (recd fn a.tmps ps assign body w.heap.size .ready)) (hI.alloc (.deferred (some [])) h0)
  change _ = Result.ok _ ((w.alloc (.deferred (some []))).alloc (.loop (recd fn a.tmps ps assign body w.heap.size .ready))) at hrun
  generalize (w.alloc (.deferred (some []))).alloc (.loop (recd fn a.tmps ps assign body w.heap.size .ready)) = W1 at *
  refine ⟨w.heap.size + 1, [{ target := .collected w.heap.size, args := #[] }], W1, { target := .fn (.func gf) lb, args := #[.func (.yield (w.heap.size + 1)) #[] #[]] }, W1, gf, #[.func (.yield (w.heap.size + 1)) #[] #[]] ++ lb, W1, hrun, ?_, ?_, ?_, fun _ => h1, ?_⟩
  · simp only [resolve, hg]; simp [go_sem]
  · intro f' hf'; simp [Target.leads] at hf'; subst hf'; exact hFg
  · simp [invoke, go_sem, eg]
  · refine (hseq (w.heap.size + 1) (fun pre W => I pre W ∧ Books fn a.tmps ps assign body w.heap.size .ready W) _ (hb0.trans (hbel.mono hb0.size)) ?_ ?_ ⟨hI1, hB⟩).mono ?_
    · rintro s A B ⟨hi, hb⟩ hgr
      have hsame : ∀ {k : Nat} {o : Obj}, A.heap[k]? = some o → B.heap[k]? = some o := fun {k o} hk => (hgr.block k (Array.getElem?_eq_some_iff.1 hk).1 (fun e => by cases e)).trans hk
      exact ⟨hI s A B none hi hgr (fun r e => by cases e), hsame hb.loop, hsame hb.defs⟩
    · rintro pre x W ⟨hi, hb⟩ hR hlen
      exact round_told (K := fun W' => I (pre ++ [x]) W' ∧ Books fn a.tmps ps assign body w.heap.size .ready W') (I := I pre) (I' := I (pre ++ [x])) (Ax := Ax pre x) hfn hKt (fun W o o' h1 h2 h3 => hKb W _ o o' (Nat.le_succ _) h1 h2 h3) (hown _) (hown _) (hAx pre x) hb (hps x)
        (fun K hK => hassign _ pre x W K hi hR hK) (fun a' W1 hr hi1 hx1 => hbody _ pre x a' W1 (Nat.le_succ _) hr hi1 hx1 hlen) (fun W' h2 h3 _ => ⟨h2, h3⟩)
    · rintro e W2 ⟨⟨v, rfl⟩, xs, hS, hi, hb⟩
      exact ⟨none, _, run_endLoop (P := P) hb.loop (by simp [recd]), hdone _ xs _ (Nat.le_refl _) hS (hI.putObj _ hi (Nat.le_succ _) hb.loop rfl) ((World.putObj_heap_other (by omega)).trans hb.defs)⟩
end
end Go.Proofs.Ytchfiiiippnigaa
