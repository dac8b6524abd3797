/-
  Things in memory put together (Star: two things in blocks that are apart), what a call that turns one of them leaves of both (Turned), and one thing in memory that was made since w0 (Has; N are blocks that are none of its).
  Conditions: none.
-/
import Derived.Test.YteapcahpkapbbaaApart
namespace Go.Proofs.Yteapcahpkapbbaa
open Go.RowKit

structure StarF (P Q : Thing) (A B F : Nat → Prop) (w : World) : Prop where
  fst : P A w
  snd : Q B w
  ap : ∀ b, A b → ¬ B b
  un : ∀ b, F b ↔ A b ∨ B b
/-- Two things, in blocks that are apart. -/
def Star (P Q : Thing) : Thing := fun F w => ∃ A B, StarF P Q A B F w

section
variable {P Q P' Q' R : Thing} {A B F F' S : Nat → Prop} {w w' w1 w2 : World}
theorem Star.framed (fP : Framed P) (fQ : Framed Q) : Framed (Star P Q) := by
  constructor
  · rintro F S w w' ⟨A, B, h⟩ ho hd
    exact ⟨A, B, fP.only h.fst ho (fun b hb => hd b ((h.un b).2 (.inl hb))), fQ.only h.snd ho (fun b hb => hd b ((h.un b).2 (.inr hb))), h.ap, h.un⟩
  · rintro F w ⟨A, B, h⟩ b hb
    rcases (h.un b).1 hb with k | k
    · exact fP.lt h.fst b k
    · exact fQ.lt h.snd b k
theorem StarF.swap (h : StarF P Q A B F w) : StarF Q P B A F w := ⟨h.snd, h.fst, fun b hb ha => h.ap b ha hb, fun b => (h.un b).trans Or.comm⟩
theorem Star.swap (h : Star P Q F w) : Star Q P F w := by
  obtain ⟨A, B, h⟩ := h
  exact ⟨B, A, h.swap⟩

theorem Turned.refl (h : P F w) : Turned P F w w := ⟨F, h, Only.refl F w, fun _ => .inl⟩
theorem Turned.size (h : Turned P F w w') : w.heap.size ≤ w'.heap.size := by obtain ⟨_, _, h, _⟩ := h; exact h.size
theorem Turned.imp (h : Turned P F w w') (k : ∀ G, P G w' → Q G w') : Turned Q F w w' := by
  obtain ⟨F', hp, ho, hF⟩ := h
  exact ⟨F', k F' hp, ho, hF⟩
/-- One turn behind another. -/
theorem Turned.bind (h : Turned P F w w1) (k : ∀ G, P G w1 → Turned Q G w1 w2) : Turned Q F w w2 := by
  obtain ⟨F1, hp, ho, hF⟩ := h
  obtain ⟨F2, hq, ho2, hF2⟩ := k F1 hp
  have h1 := ho.size
  refine ⟨F2, hq, ho.trans ho2 (fun i hi hb => (hF i hb).resolve_right (by omega)), fun b hb => ?_⟩
  rcases hF2 b hb with hb | hb
  · exact hF b hb
  · exact .inr (by omega)
theorem Turned.keep (h : Turned P F w w1) (fP : Framed P) (hb : Below w1.heap.size w1 w2) : Turned P F w w2 := by
  refine h.bind fun G hp => ?_
  have ho : Only (fun _ => False) w1 w2 := Only.of_below hb (Nat.le_refl _) _
  exact ⟨G, fP.only hp ho (fun _ _ e => e), Only.of_below hb (Nat.le_refl _) _, fun _ => .inl⟩

/-- The first thing has turned. -/
theorem StarF.left (h : StarF P Q A B F w) (fQ : Framed Q) (t : Turned P' A w w') : Turned (Star P' Q) F w w' := by
  obtain ⟨A', hp, ho, hA⟩ := t
  refine ⟨fun b => A' b ∨ B b, ⟨A', B, hp, fQ.only h.snd ho (fun b hb ha => h.ap b ha hb), fun b ha hb => ?_, fun _ => Iff.rfl⟩, ho.mono (fun i _ hi => (h.un i).2 (.inl hi)), fun b hb => ?_⟩
  · rcases hA b ha with k | k
    · exact h.ap b k hb
    · have := fQ.lt h.snd b hb; omega
  · rcases hb with hb | hb
    · exact (hA b hb).imp (fun k => (h.un b).2 (.inl k)) id
    · exact .inl ((h.un b).2 (.inr hb))
theorem StarF.right (h : StarF P Q A B F w) (fP : Framed P) (t : Turned Q' B w w') : Turned (Star P Q') F w w' :=
  (h.swap.left fP t).imp fun _ k => k.swap
/-- What a call made besides (K) is given to the second thing. -/
theorem StarF.give (h : StarF P Q A B F w) (hA : P' A w') (ho : Only A w w') (hQ : Q' (fun b => B b ∨ (w.heap.size ≤ b ∧ b < w'.heap.size)) w') (fP : Framed P) : Turned (Star P' Q') F w w' := by
  refine ⟨fun b => A b ∨ (B b ∨ (w.heap.size ≤ b ∧ b < w'.heap.size)), ⟨A, _, hA, hQ, fun b ha hb => ?_, fun _ => Iff.rfl⟩, ho.mono (fun i _ hi => (h.un i).2 (.inl hi)), fun b hb => ?_⟩
  · rcases hb with hb | hb
    · exact h.ap b ha hb
    · have := fP.lt h.fst b ha; omega
  · rcases hb with hb | hb | hb
    · exact .inl ((h.un b).2 (.inl hb))
    · exact .inl ((h.un b).2 (.inr hb))
    · exact .inr hb.1
end

/-- A thing in memory that was made since w0; N are blocks that are none of its. -/
structure HasF (P : Thing) (F N : Nat → Prop) (w0 w : World) : Prop where
  it : P F w
  new : ∀ b, F b → w0.heap.size ≤ b
  np : ∀ b, N b → ¬ F b ∧ b < w.heap.size
  below : Below w0.heap.size w0 w
def Has (P : Thing) (N : Nat → Prop) (w0 w : World) : Prop := ∃ F, HasF P F N w0 w

section
variable {P Q P' : Thing} {F N N' M : Nat → Prop} {w0 w w' : World}
theorem Has.below (h : Has P N w0 w) : Below w0.heap.size w0 w := by obtain ⟨_, h⟩ := h; exact h.below
theorem Has.lt (h : Has P N w0 w) {b : Nat} (hb : N b) : b < w.heap.size := by obtain ⟨_, h⟩ := h; exact (h.np b hb).2
theorem Has.imp (h : Has P N w0 w) (k : ∀ F, P F w → P' F w) : Has P' N w0 w := by
  obtain ⟨F, h⟩ := h
  exact ⟨F, k F h.it, h.new, h.np, h.below⟩
theorem Has.less (h : Has P N w0 w) (k : ∀ b, N' b → N b) : Has P N' w0 w := by
  obtain ⟨F, h⟩ := h
  exact ⟨F, h.it, h.new, fun b hb => h.np b (k b hb), h.below⟩
theorem Has.none_ (h : Has P N w0 w) : Has P (fun _ => False) w0 w := h.less fun _ e => e.elim
/-- The thing has turned. -/
theorem HasF.turn (h : HasF P F N w0 w) (t : Turned P' F w w') : Has P' N w0 w' ∧ Stay N w w' := by
  obtain ⟨F', hp, ho, hF⟩ := t
  have h1 := ho.size
  have h0 := h.below.size
  refine ⟨⟨F', hp, fun b hb => ?_, fun b hb => ⟨fun hb' => ?_, Nat.lt_of_lt_of_le (h.np b hb).2 h1⟩, ho.more' h.below (fun i hi hi' => by have := h.new i hi'; omega)⟩, fun b hb => ho.block b (h.np b hb).2 (h.np b hb).1⟩
  · rcases hF b hb with k | k
    · exact h.new b k
    · omega
  · have h2 := h.np b hb
    rcases hF b hb' with k | k
    · exact h2.1 k
    · omega
theorem Has.keep (h : Has P N w0 w) (fP : Framed P) (hb : Below w.heap.size w w') : Has P N w0 w' := by
  obtain ⟨F, h⟩ := h
  exact (h.turn ((Turned.refl h.it).keep fP hb)).1
theorem Has.drew (h : Has P N w0 w) (fP : Framed P) : Has P N w0 w.drew := h.keep fP ⟨rfl, rfl, rfl, Nat.le_refl _, fun _ _ => rfl⟩
theorem Has.drewN (h : Has P N w0 w) (fP : Framed P) (n : Nat) : Has P N w0 (w.drewN n) := h.keep fP ⟨rfl, rfl, rfl, Nat.le_refl _, fun _ _ => rfl⟩
/-- One more block, that is none of its. -/
theorem Has.more (h : Has P N w0 w) (fP : Framed P) (o : Obj) : Has P (fun b => N b ∨ b = w.heap.size) w0 (w.alloc o) := by
  have hb := (Below.refl w.heap.size w).alloc (Nat.le_refl _) o
  obtain ⟨F, h⟩ := h
  have ho : Only (fun _ => False) w (w.alloc o) := Only.of_below hb (Nat.le_refl _) _
  refine ⟨F, fP.only h.it ho (fun _ _ e => e), h.new, ?_, h.below.trans (hb.mono h.below.size)⟩
  rintro b (hb' | rfl)
  · exact ⟨(h.np b hb').1, Nat.lt_of_lt_of_le (h.np b hb').2 hb.size⟩
  · exact ⟨fun hF => Nat.lt_irrefl _ (fP.lt h.it _ hF), by simp⟩
/-- A store into a block that is none of its. -/
theorem Has.store (h : Has P N w0 w) (fP : Framed P) {g : Nat} (hg : N g) (h0 : w0.heap.size ≤ g) (i : Nat) (u : Value) : Has P N w0 (w.setCell ⟨g, i, none⟩ u) := by
  obtain ⟨F, h⟩ := h
  have ho : Only (fun b => b = g) w (w.setCell ⟨g, i, none⟩ u) := (Only.refl (fun b => b = g) w).setCell (p := ⟨g, i, none⟩) (.inl rfl) _
  exact ⟨F, fP.only h.it ho (fun b hb e => (h.np g hg).1 (e ▸ hb)), h.new, fun b hb => ⟨(h.np b hb).1, Nat.lt_of_lt_of_le (h.np b hb).2 ho.size⟩, ho.more' h.below (fun i hi e => by omega)⟩
/-- A thing that a call has made. -/
theorem Has.made (hb : Below w0.heap.size w0 w) (h : P F w') (hF : ∀ b, F b → w.heap.size ≤ b) (hb1 : Below w.heap.size w w') : Has P (fun _ => False) w0 w' := by
  have h0 := hb.size
  exact ⟨F, h, fun b k => by have := hF b k; omega, fun _ e => e.elim, hb.trans (hb1.mono h0)⟩
/-- Two things, of which the second one was made behind the first one. -/
theorem Has.both (h : Has P N w0 w) (fP : Framed P) (k : Q F w') (hF : ∀ b, F b → w.heap.size ≤ b) (hb : Below w.heap.size w w') : Has (Star P Q) (fun _ => False) w0 w' := by
  obtain ⟨A, h⟩ := h
  have h0 := h.below.size
  have ho : Only (fun _ => False) w w' := Only.of_below hb (Nat.le_refl _) _
  refine ⟨fun b => A b ∨ F b, ⟨A, F, fP.only h.it ho (fun _ _ e => e), k, fun b ha hf => ?_, fun _ => Iff.rfl⟩, ?_, fun _ e => e.elim, h.below.trans (hb.mono h0)⟩
  · have := fP.lt h.it b ha; have := hF b hf; omega
  · rintro b (hb' | hb')
    · exact h.new b hb'
    · have := hF b hb'; omega
end
end Go.Proofs.Yteapcahpkapbbaa
