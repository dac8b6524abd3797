/-
  A range over a function that keeps memory of its own, made ahead of it or while it runs: T says which blocks are the function's; the body leaves them as they are, and the function turns no others. What holds of an element in the world in which it is handed out (R) reaches the body. Over no program.
  Conditions: none but these.
-/
import Derived.Test.YteapcahpkapbbaaMem
import Derived.RangeFuncNested
import Derived.RangeFuncCalls
import Derived.RangeFuncLeaves
import Derived.RangeFuncBox
namespace Go.Proofs.Yteapcahpkapbbaa
open Go.RowKit

/-- The blocks of T are as they were. -/
structure Still (T : Nat → Prop) (W W' : World) : Prop where
  size : W.heap.size ≤ W'.heap.size
  same : ∀ b, T b → b < W.heap.size → W'.heap[b]? = W.heap[b]?
theorem Still.refl (T : Nat → Prop) (W : World) : Still T W W := ⟨Nat.le_refl _, fun _ _ _ => rfl⟩
theorem Still.trans {T : Nat → Prop} {A B C : World} (h : Still T A B) (k : Still T B C) : Still T A C :=
  ⟨Nat.le_trans h.size k.size, fun b hb hl => (k.same b hb (Nat.lt_of_lt_of_le hl h.size)).trans (h.same b hb hl)⟩
theorem Still.mono {S T : Nat → Prop} {A B : World} (h : Still T A B) (hs : ∀ b, S b → T b) : Still S A B := ⟨h.size, fun b hb hl => h.same b (hs b hb) hl⟩
theorem Still.of_only {S T : Nat → Prop} {A B : World} (h : Only S A B) (hd : ∀ b, b < A.heap.size → T b → ¬ S b) : Still T A B := ⟨h.size, fun b hb hl => h.block b hl (hd b hl hb)⟩
theorem Still.alloc {T : Nat → Prop} {A B : World} (h : Still T A B) (o : Obj) : Still T A (B.alloc o) :=
  h.trans ⟨by simp, fun b _ hl => Below.heap_alloc B o b hl⟩
theorem Still.putObj (T : Nat → Prop) (W : World) (l : Nat) (o : Obj) (hl : ¬ T l) : Still T W (W.putObj l o) :=
  ⟨by simp [World.putObj], fun _ hb _ => World.putObj_heap_other (fun e => hl (e ▸ hb))⟩
theorem Only.putObj (W : World) (l : Nat) (o : Obj) : Only (fun b => b = l) W (W.putObj l o) :=
  ⟨rfl, rfl, rfl, by simp [World.putObj], fun b _ hb => World.putObj_heap_other hb⟩

/-- What holds whatever a function does that turns only those blocks of T that aren't below B, and new ones; these it may count in. -/
def Spared {β : Type} (B : Nat) (J : (Nat → Prop) → β → World → Prop) : Prop :=
  ∀ T T' s A C, J T s A → Only (fun b => T b ∧ B ≤ b) A C → (∀ b, T' b → T b ∨ (A.heap.size ≤ b ∧ b < C.heap.size)) → J T' s C
theorem Spared.step {β : Type} {B : Nat} {J : (Nat → Prop) → β → World → Prop} (h : Spared B J) {T : Nat → Prop} {s : β} {A C : World} (hj : J T s A) (ho : Only (fun b => T b ∧ B ≤ b) A C) : J T s C := h T T s A C hj ho fun _ hb => .inl hb
theorem Spared.fit {β : Type} {B : Nat} {J : (Nat → Prop) → β → World → Prop} (h : Spared B J) {T T' : Nat → Prop} {s : β} {A : World} (hj : J T s A) (ht : ∀ b, T' b → T b) : J T' s A := h T T' s A A hj (Only.refl _ _) fun b hb => .inl (ht b hb)
theorem Spared.and {β : Type} {B : Nat} {J J' : (Nat → Prop) → β → World → Prop} (h : Spared B J) (h' : Spared B J') : Spared B (fun T s W => J T s W ∧ J' T s W) :=
  fun T T' s A C hj ho ht => ⟨h T T' s A C hj.1 ho ht, h' T T' s A C hj.2 ho ht⟩
theorem Spared.pure {β : Type} (B : Nat) (p : β → Prop) : Spared B (fun (_ : Nat → Prop) s (_ : World) => p s) := fun _ _ _ _ _ hj _ _ => hj

/-- An iterator that owns the blocks of T0 at first: it tells the elements of S one by one, each with R, or is left after those of Sp. -/
def SeqT {α : Type} (F : Fence) (n : Nat) (P : Program) (g : Nat) (lb : Array Value) (encs : α → Array Value) (R : α → World → Prop) (S Sp : List α → Prop) (N : Nat) (T0 : Nat → Prop) (w : World) : Prop :=
  ∀ (l : Nat) (J Jx : (Nat → Prop) → List α → World → Prop) (T : Nat → Prop) (W : World), Below w.heap.size w W → (∀ b, T0 b → T b) → Spared W.heap.size J → Spared W.heap.size Jx →
    (∀ T pre x W1, J T pre W1 → R x W1 → pre.length < N → YieldAt F (n - 1) P l (encs x) W1 fun e W' =>
      (e = .returned (.bool true) ∧ J T (pre ++ [x]) W' ∧ Still T W1 W') ∨ (e = .returned (.bool false) ∧ Jx T (pre ++ [x]) W')) →
    J T [] W → CallsIn F n P g (#[.func (.yield l) #[] #[]] ++ lb) W fun e W' => (∃ v, e = .returned v) ∧ ((∃ T xs, S xs ∧ J T xs W') ∨ (∃ T pre, Sp pre ∧ Jx T pre W'))

/-- How a round's body is left. -/
def postT {α : Type} (I : (Nat → Prop) → List α → World → Prop) (Ix : Code → (Nat → Prop) → List α → World → Prop) (T : Nat → Prop) (xs : List α) (W : World) : Exit → Act → World → Prop
  | .normal, _, W' => Still T W W' ∧ I T xs W'
  | .ret, _, W' => Still T W W' ∧ Ix .ret T xs W'
  | .exit id, _, W' => Still T W W' ∧ Ix (.exit id) T xs W'
  | .goto t, _, W' => Still T W W' ∧ Ix (.goto t) T xs W'
  | .panic _, _, _ => False
  | .outgrown, _, _ => False

section
variable {F : Fence} {n : Nat} {P : Program} {α : Type} {ps : Array Tmp} {assign body : Code}

/-- The loop's record. -/
def recT (fn : FuncId) (tmps : Array Value) (ps : Array Tmp) (assign body : Code) (D : Nat) (st : LoopState) (pe : Option Code) : Loop := { state := st, pending := pe, fn, tmps, params := ps, assign, body, defers := D }

/-- The two blocks that the loop keeps its books in. -/
structure BooksT (fn : FuncId) (tmps : Array Value) (ps : Array Tmp) (assign body : Code) (D : Nat) (st : LoopState) (pe : Option Code) (W : World) : Prop where
  loop : W.heap[D + 1]? = some (.loop (recT fn tmps ps assign body D st pe))
  defs : W.heap[D]? = some (.deferred (some []))

section
variable {fn : FuncId} {tmps : Array Value} {D : Nat} {st : LoopState} {pe : Option Code} {W W' : World} {T : Nat → Prop}
theorem BooksT.lt (h : BooksT fn tmps ps assign body D st pe W) : D + 1 < W.heap.size := (Array.getElem?_eq_some_iff.1 h.loop).1
theorem BooksT.still (h : BooksT fn tmps ps assign body D st pe W) (hk : Still T W W') (h0 : T D) (h1 : T (D + 1)) : BooksT fn tmps ps assign body D st pe W' := by
  have hl := h.lt
  exact ⟨(hk.same _ h1 hl).trans h.loop, (hk.same _ h0 (by omega)).trans h.defs⟩
theorem BooksT.only (h : BooksT fn tmps ps assign body D st pe W) (hk : Only T W W') (h0 : ¬ T D) (h1 : ¬ T (D + 1)) : BooksT fn tmps ps assign body D st pe W' := by
  have hl := h.lt
  exact ⟨(hk.block _ hl h1).trans h.loop, (hk.block _ (by omega) h0).trans h.defs⟩
theorem BooksT.turn (h : BooksT fn tmps ps assign body D st pe W) (st' : LoopState) (pe' : Option Code) : BooksT fn tmps ps assign body D st' pe' (W.putObj (D + 1) (.loop (recT fn tmps ps assign body D st' pe'))) :=
  ⟨World.putObj_heap_same h.lt, (World.putObj_heap_other (by omega)).trans h.defs⟩
end

/-- The function's blocks, and the two of the books. -/
def withBooks (D : Nat) (T : Nat → Prop) (b : Nat) : Prop := T b ∨ b = D ∨ b = D + 1
theorem withBooks.put {D : Nat} {T : Nat → Prop} (W : World) (o : Obj) : Only (fun b => withBooks D T b ∧ D ≤ b) W (W.putObj (D + 1) o) := (Only.putObj W (D + 1) o).mono fun b _ h => ⟨.inr (.inr h), by omega⟩

/-- One round: what the iterator's call of yield comes to. -/
theorem roundT {fn : FuncId} {tmps : Array Value} {D : Nat} {W : World} {T : Nat → Prop} {x : α} {pre : List α} {I : (Nat → Prop) → List α → World → Prop} {Ix : Code → (Nat → Prop) → List α → World → Prop} {args : Array Value} {Ax : (Nat → Prop) → Act → World → Prop} (hF : F.fn fn)
    (hI : Spared D I) (hIx : ∀ c, Spared D (Ix c)) (hAx : Spared D Ax) (hB : BooksT fn tmps ps assign body D .ready none W) (h0 : ¬ T D) (h1 : ¬ T (D + 1)) (hlt : ∀ b, T b → b < W.heap.size) (hps : args.size = ps.size)
    (hassign : ∀ K : Act → World → Prop, (∀ a' W', Still (withBooks D T) W W' → I (withBooks D T) pre W' → Ax (withBooks D T) a' W' → K a' W') →
      assign.wpIn (F.inRound (D + 1)) n P (Exit.then K (fun _ _ _ => False)) { tmps := (ps.zip args).foldl (fun t (p, v) => t.setIfInBounds p v) tmps, defers := [] } W)
    (hbody : ∀ a' W, (∃ r, W.heap[D + 1]? = some (.loop r)) → (∀ b, withBooks D T b → b < W.heap.size) → I (withBooks D T) pre W → Ax (withBooks D T) a' W → body.wpIn (F.inRound (D + 1)) n P (postT I Ix (withBooks D T) (pre ++ [x]) W) a' W) :
    YieldAt F n P (D + 1) args W fun e W' =>
      (e = .returned (.bool true) ∧ (I (withBooks D T) (pre ++ [x]) W' ∧ BooksT fn tmps ps assign body D .ready none W' ∧ ¬ T D ∧ ¬ T (D + 1) ∧ ∀ b, T b → b < W'.heap.size) ∧ Still T W W') ∨
      (e = .returned (.bool false) ∧ ∃ c, Ix c (withBooks D T) (pre ++ [x]) W' ∧ BooksT fn tmps ps assign body D .done (some c) W' ∧ ¬ T D ∧ ¬ T (D + 1)) := by
  have hy := run_yield (P := P) (args := args) hB.loop hps
  refine ⟨fn, _, assign, body, hy, roundIn_of_wpIn hF (hassign _ fun a' W1 hk1 hi1 hx1 => ?_)⟩
  have hB1 := hB.still hk1 (.inr (.inl rfl)) (.inr (.inr rfl))
  refine ⟨_, run_beginRound hB1.loop rfl, ?_⟩
  have hB2 : BooksT fn tmps ps assign body D .busy none (W1.putObj (D + 1) (.loop { recT fn tmps ps assign body D .ready none with state := .busy })) := hB1.turn .busy none
  have hs2 : Still T W (W1.putObj (D + 1) (.loop { recT fn tmps ps assign body D .ready none with state := .busy })) := (hk1.mono fun _ h => .inl h).trans (Still.putObj T W1 _ _ h1)
  refine wpIn_mono (hbody a' _ ⟨_, hB2.loop⟩ (fun b hb => hb.elim (fun h => Nat.lt_of_lt_of_le (hlt b h) hs2.size) fun h => Nat.lt_of_le_of_lt (show b ≤ D + 1 by omega) hB2.lt) (hI.step hi1 (withBooks.put _ _)) (hAx.step hx1 (withBooks.put _ _))) ?_
  have fin : ∀ (jump : Option Code) (W3 : World), Still (withBooks D T) (W1.putObj (D + 1) (.loop { recT fn tmps ps assign body D .ready none with state := .busy })) W3 →
      ∃ o, (Instr.endRound (D + 1) jump).run P W3 = .ok (.bool jump.isNone) (W3.putObj (D + 1) o) ∧ BooksT fn tmps ps assign body D (if jump.isNone then .ready else .done) jump (W3.putObj (D + 1) o) ∧ Still T W (W3.putObj (D + 1) o) := fun jump W3 hk3 => by
    have hB3 := hB2.still hk3 (.inr (.inl rfl)) (.inr (.inr rfl))
    exact ⟨_, run_endRound (P := P) jump hB3.loop, hB3.turn _ jump, (hs2.trans (hk3.mono fun _ h => .inl h)).trans (Still.putObj T W3 _ _ h1)⟩
  rintro e a3 W3 hp
  cases e with
  | normal =>
    obtain ⟨hk3, hi3⟩ := hp
    obtain ⟨o, hr, hb, hs⟩ := fin none W3 hk3
    exact ⟨_, _, hr, .inl ⟨rfl, ⟨hI.step hi3 (withBooks.put _ _), hb, h0, h1, fun b hb => Nat.lt_of_lt_of_le (hlt b hb) hs.size⟩, hs⟩⟩
  | ret =>
    obtain ⟨hk3, hi3⟩ := hp
    obtain ⟨o, hr, hb, hs⟩ := fin (some .ret) W3 hk3
    exact ⟨_, _, hr, .inr ⟨rfl, .ret, (hIx _).step hi3 (withBooks.put _ _), hb, h0, h1⟩⟩
  | exit id =>
    obtain ⟨hk3, hi3⟩ := hp
    obtain ⟨o, hr, hb, hs⟩ := fin (some (.exit id)) W3 hk3
    exact ⟨_, _, hr, .inr ⟨rfl, .exit id, (hIx _).step hi3 (withBooks.put _ _), hb, h0, h1⟩⟩
  | goto t =>
    obtain ⟨hk3, hi3⟩ := hp
    obtain ⟨o, hr, hb, hs⟩ := fin (some (.goto t)) W3 hk3
    exact ⟨_, _, hr, .inr ⟨rfl, .goto t, (hIx _).step hi3 (withBooks.put _ _), hb, h0, h1⟩⟩
  | panic ch => exact hp.elim
  | outgrown => exact hp.elim

/-- The statement. -/
theorem wpIn_rangeT {g : Operand} {Q : Exit → Act → World → Prop} {a : Act} {w : World}
    (hro : F.round = none) (h1 : 1 ≤ n) {gf : Nat} {lb : Array Value} (hg : a.eval g = .func (.func gf) #[] lb) (hFg : F.fn gf) (eg : ∀ args w, (callFunc gf args).run P w = .ok (.enter gf args) w)
    {encs : α → Array Value} {R : α → World → Prop} {S Sp : List α → Prop} {N : Nat} {T0 : Nat → Prop} {w0 : World} (hT0 : ∀ b, T0 b → b < w.heap.size) (hseq : SeqT F (n - 1) P gf lb encs R S Sp N T0 w0)
    (hb0 : Below w0.heap.size w0 w) (hps : ∀ x, (encs x).size = ps.size)
    (I : (Nat → Prop) → List α → World → Prop) (Ix : Code → (Nat → Prop) → List α → World → Prop) (hI : Spared w.heap.size I) (hIx : ∀ c, Spared w.heap.size (Ix c)) (h0 : I T0 [] w) (Ax : α → (Nat → Prop) → Act → World → Prop) (hAx : ∀ x, Spared w.heap.size (Ax x))
    (hassign : ∀ (l : Nat) (T : Nat → Prop) (pre : List α) (x : α) (W : World) (K : Act → World → Prop), (∀ b, T b → b < W.heap.size) → I T pre W → R x W → (∀ a' W', Still T W W' → I T pre W' → Ax x T a' W' → K a' W') →
      assign.wpIn (F.inRound l) (n - 1 - 1) P (Exit.then K (fun _ _ _ => False)) { tmps := (ps.zip (encs x)).foldl (fun t (p, v) => t.setIfInBounds p v) a.tmps, defers := [] } W)
    (hbody : ∀ (l : Nat) (T : Nat → Prop) (pre : List α) (x : α) (a' : Act) (W : World), w.heap.size ≤ l → (∃ r, W.heap[l]? = some (.loop r)) → T l → (∀ b, T b → b < W.heap.size) → I T pre W → Ax x T a' W → pre.length < N → body.wpIn (F.inRound l) (n - 1 - 1) P (postT I Ix T (pre ++ [x]) W) a' W)
    (hdone : ∀ (D : Nat) (T : Nat → Prop) (xs : List α) (W : World), w.heap.size ≤ D → T D → S xs → I T xs W → W.heap[D]? = some (.deferred (some [])) → Q .normal { a with defers := { target := .collected D, args := #[] } :: a.defers } W)
    (hstop : ∀ (D : Nat) (c : Code) (T : Nat → Prop) (pre : List α) (W : World), w.heap.size ≤ D → T D → Sp pre → Ix c T pre W → W.heap[D]? = some (.deferred (some [])) → c.wpIn F n P Q { a with defers := { target := .collected D, args := #[] } :: a.defers } W) :
    (Code.rangeFunc g ps assign body).wpIn F n P Q a w := by
  refine wpIn_rangeFunc fun fn hfn => ?_
  rw [hro]
  have hbel : Below w.heap.size w ((w.alloc (.deferred (some []))).alloc (.loop (recT fn a.tmps ps assign body w.heap.size .ready none))) := ((Below.refl _ w).alloc (Nat.le_refl _) _).alloc (by simp) _
  have hB : BooksT fn a.tmps ps assign body w.heap.size .ready none ((w.alloc (.deferred (some []))).alloc (.loop (recT fn a.tmps ps assign body w.heap.size .ready none))) := by
    refine ⟨?_, (Below.heap_alloc _ _ _ (by simp)).trans (World.alloc_heap_new w _)⟩
    have := World.alloc_heap_new (w.alloc (.deferred (some []))) (.loop (recT fn a.tmps ps assign body w.heap.size .ready none))
    rwa [World.size_alloc] at this
  have hz := hbel.size
  have hrun := run_enterLoop_outer (P := P) (w := w) fn a.tmps ps assign body
  have hI1 : I (withBooks w.heap.size T0) [] ((w.alloc (.deferred (some []))).alloc (.loop (recT fn a.tmps ps assign body w.heap.size .ready none))) :=
    hI _ _ _ _ _ h0 (((Only.refl _ w).alloc _).alloc _) fun b hb => by
      rcases hb with hb | rfl | rfl
      · exact .inl hb
      · exact .inr ⟨Nat.le_refl _, by simp; omega⟩
      · exact .inr ⟨Nat.le_succ _, by simp⟩
  change _ = Result.ok _ ((w.alloc (.deferred (some []))).alloc (.loop (recT fn a.tmps ps assign body w.heap.size .ready none))) at hrun
  generalize (w.alloc (.deferred (some []))).alloc (.loop (recT fn a.tmps ps assign body w.heap.size .ready none)) = W1 at *
  refine ⟨w.heap.size + 1, [{ target := .collected w.heap.size, args := #[] }], W1, { target := .fn (.func gf) lb, args := #[.func (.yield (w.heap.size + 1)) #[] #[]] }, W1, gf, #[.func (.yield (w.heap.size + 1)) #[] #[]] ++ lb, W1, hrun, ?_, ?_, ?_, fun _ => h1, ?_⟩
  · simp only [resolve, hg]; simp [go_sem]
  · intro f' hf'; simp [Target.leads] at hf'; subst hf'; exact hFg
  · simp [invoke, go_sem, eg]
  · refine (hseq (w.heap.size + 1)
      (fun T pre W => I (withBooks w.heap.size T) pre W ∧ BooksT fn a.tmps ps assign body w.heap.size .ready none W ∧ ¬ T w.heap.size ∧ ¬ T (w.heap.size + 1) ∧ ∀ b, T b → b < W.heap.size)
      (fun T pre W => ∃ c, Ix c (withBooks w.heap.size T) pre W ∧ BooksT fn a.tmps ps assign body w.heap.size .done (some c) W ∧ ¬ T w.heap.size ∧ ¬ T (w.heap.size + 1))
      T0 W1 (hb0.trans (hbel.mono hb0.size)) (fun _ h => h) ?_ ?_ ?_ ⟨hI1, hB, fun h => absurd (hT0 _ h) (by omega), fun h => absurd (hT0 _ h) (by omega), fun b h => Nat.lt_of_lt_of_le (hT0 b h) hz⟩).mono ?_
    · rintro T T' s A C ⟨hi, hb, h0, h1, hlt⟩ ho ht
      have hl := hb.lt
      refine ⟨hI _ _ _ _ _ hi (ho.mono fun _ _ h => ⟨.inl h.1, Nat.le_trans hz h.2⟩) ?_, hb.only ho (fun h => h0 h.1) (fun h => h1 h.1), fun h => (ht _ h).elim h0 (by omega), fun h => (ht _ h).elim h1 (by omega), fun b h => (ht b h).elim (fun h => Nat.lt_of_lt_of_le (hlt b h) ho.size) (fun h => h.2)⟩
      rintro b (hb | hb)
      · exact (ht b hb).imp .inl id
      · exact .inl (.inr hb)
    · rintro T T' s A C ⟨c, hi, hb, h0, h1⟩ ho ht
      have hl := hb.lt
      refine ⟨c, hIx c _ _ _ _ _ hi (ho.mono fun _ _ h => ⟨.inl h.1, Nat.le_trans hz h.2⟩) ?_, hb.only ho (fun h => h0 h.1) (fun h => h1 h.1), fun h => (ht _ h).elim h0 (by omega), fun h => (ht _ h).elim h1 (by omega)⟩
      rintro b (hb | hb)
      · exact (ht b hb).imp .inl id
      · exact .inl (.inr hb)
    · rintro T pre x W ⟨hi, hb, h0, h1, hlt⟩ hR hlen
      exact roundT (Ax := Ax x) hfn hI hIx (hAx x) hb h0 h1 hlt (hps x)
        (fun K hK => hassign _ _ pre x W K (fun b h => h.elim (hlt b) fun h => by have := hb.lt; omega) hi hR hK) (fun a' W1 hr hl hi1 hx1 => hbody _ _ pre x a' W1 (Nat.le_succ _) hr (.inr (.inr rfl)) hl hi1 hx1 hlen)
    · rintro e W2 ⟨⟨v, rfl⟩, (⟨T, xs, hS, hi, hb, h0, h1, -⟩ | ⟨T, pre, hSp, c, hi, hb, h0, h1⟩)⟩
      · exact ⟨none, _, run_endLoop (P := P) hb.loop (by simp [recT]), hdone _ _ xs _ (Nat.le_refl _) (.inr (.inl rfl)) hS (hI.step hi (withBooks.put _ _)) ((World.putObj_heap_other (by omega)).trans hb.defs)⟩
      · exact ⟨some c, _, run_endLoop (P := P) hb.loop (by simp [recT]), hstop _ c _ pre _ (Nat.le_refl _) (.inr (.inl rfl)) hSp ((hIx c).step hi (withBooks.put _ _)) ((World.putObj_heap_other (by omega)).trans hb.defs)⟩
end
end Go.Proofs.Yteapcahpkapbbaa
