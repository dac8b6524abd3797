/-
  Two things in memory that was made since w0, apart from each other, whatever they are (a thing: what it says of the blocks F that it lies in and of the world); N are blocks that are none of the first one's, M none of the second one's; what a call that turns the first one leaves.
  Conditions: none.
-/
import Derived.Test.YteapcahpkapbbaaMem
namespace Go.Proofs.Yteapcahpkapbbaa
open Go.RowKit

abbrev Thing := (Nat → Prop) → World → Prop

/-- A thing that hangs on its own blocks alone. -/
structure Framed (P : Thing) : Prop where
  only : ∀ {F S : Nat → Prop} {w w' : World}, P F w → Only S w w' → (∀ b, F b → ¬ S b) → P F w'
  lt : ∀ {F : Nat → Prop} {w : World}, P F w → ∀ b, F b → b < w.heap.size

/-- What a call leaves of a thing. -/
def Turned (P : Thing) (F : Nat → Prop) (w w' : World) : Prop := ∃ F', P F' w' ∧ Only F w w' ∧ ∀ b, F' b → F b ∨ w.heap.size ≤ b

/-- The blocks N are as they were. -/
def Stay (N : Nat → Prop) (w w' : World) : Prop := ∀ b, N b → w'.heap[b]? = w.heap[b]?
theorem Stay.blk {N : Nat → Prop} {w w' : World} {g t : Nat} {cs : Array Value} (h : Stay N w w') (hg : N g) (hb : Blk w g t cs) : Blk w' g t cs := hb.keep (h g hg)
theorem Stay.row {N : Nat → Prop} {w w' : World} {e : TypeId} {g : Option Nat} {v : Value} {xs : List Value} (h : Stay N w w') (hg : ∀ b, g = some b → N b) (hr : Row w e g v xs) : Row w' e g v xs := hr.keep (fun b e => h b (hg b e))

structure ApartF (P Q : Thing) (F G N M : Nat → Prop) (w0 w : World) : Prop where
  fst : P F w
  snd : Q G w
  ap : ∀ b, F b → ¬ G b
  fp : ∀ b, F b → w0.heap.size ≤ b
  gq : ∀ b, G b → w0.heap.size ≤ b
  np : ∀ b, N b → ¬ F b
  mq : ∀ b, M b → ¬ G b
  ln : ∀ b, N b → b < w.heap.size
  lm : ∀ b, M b → b < w.heap.size
  below : Below w0.heap.size w0 w

/-- Two things, apart from each other. -/
def Apart (P Q : Thing) (N M : Nat → Prop) (w0 w : World) : Prop := ∃ F G, ApartF P Q F G N M w0 w

section
variable {P Q P' Q' : Thing} {F G N M N' M' K : Nat → Prop} {w0 w w' : World}
theorem Apart.swap (h : Apart P Q N M w0 w) : Apart Q P M N w0 w := by
  obtain ⟨F, G, h⟩ := h
  exact ⟨G, F, h.snd, h.fst, fun b hb hf => h.ap b hf hb, h.gq, h.fp, h.mq, h.np, h.lm, h.ln, h.below⟩
theorem Apart.below (h : Apart P Q N M w0 w) : Below w0.heap.size w0 w := by obtain ⟨_, _, h⟩ := h; exact h.below
theorem Apart.imp (h : Apart P Q N M w0 w) (hP : ∀ F, P F w → P' F w) (hQ : ∀ F, Q F w → Q' F w) : Apart P' Q' N M w0 w := by
  obtain ⟨F, G, h⟩ := h
  exact ⟨F, G, hP F h.fst, hQ G h.snd, h.ap, h.fp, h.gq, h.np, h.mq, h.ln, h.lm, h.below⟩
theorem Apart.less (h : Apart P Q N M w0 w) (hN : ∀ b, N' b → N b) (hM : ∀ b, M' b → M b) : Apart P Q N' M' w0 w := by
  obtain ⟨F, G, h⟩ := h
  exact ⟨F, G, h.fst, h.snd, h.ap, h.fp, h.gq, fun b hb => h.np b (hN b hb), fun b hb => h.mq b (hM b hb), fun b hb => h.ln b (hN b hb), fun b hb => h.lm b (hM b hb), h.below⟩
theorem Apart.keep (h : Apart P Q N M w0 w) (fP : Framed P) (fQ : Framed Q) (hb : Below w.heap.size w w') : Apart P Q N M w0 w' := by
  obtain ⟨F, G, h⟩ := h
  have ho : Only (fun _ => False) w w' := Only.of_below hb (Nat.le_refl _) _
  exact ⟨F, G, fP.only h.fst ho (fun _ _ e => e), fQ.only h.snd ho (fun _ _ e => e), h.ap, h.fp, h.gq, h.np, h.mq, fun b k => Nat.lt_of_lt_of_le (h.ln b k) hb.size, fun b k => Nat.lt_of_lt_of_le (h.lm b k) hb.size, h.below.trans (hb.mono h.below.size)⟩
theorem Apart.drew (h : Apart P Q N M w0 w) (fP : Framed P) (fQ : Framed Q) : Apart P Q N M w0 w.drew := h.keep fP fQ ⟨rfl, rfl, rfl, Nat.le_refl _, fun _ _ => rfl⟩
theorem Apart.drewN (h : Apart P Q N M w0 w) (fP : Framed P) (fQ : Framed Q) (n : Nat) : Apart P Q N M w0 (w.drewN n) := h.keep fP fQ ⟨rfl, rfl, rfl, Nat.le_refl _, fun _ _ => rfl⟩
/-- One more block, that is nobody's. -/
theorem Apart.more (h : Apart P Q N M w0 w) (fP : Framed P) (fQ : Framed Q) (o : Obj) : Apart P Q (fun b => b = w.heap.size) (fun b => b = w.heap.size) w0 (w.alloc o) := by
  have hb := (Below.refl w.heap.size w).alloc (Nat.le_refl _) o
  obtain ⟨F, G, h⟩ := h
  have ho : Only (fun _ => False) w (w.alloc o) := Only.of_below hb (Nat.le_refl _) _
  refine ⟨F, G, fP.only h.fst ho (fun _ _ e => e), fQ.only h.snd ho (fun _ _ e => e), h.ap, h.fp, h.gq, ?_, ?_, ?_, ?_, h.below.trans (hb.mono h.below.size)⟩
  · rintro b rfl; exact fun hF => Nat.lt_irrefl _ (fP.lt h.fst _ hF)
  · rintro b rfl; exact fun hF => Nat.lt_irrefl _ (fQ.lt h.snd _ hF)
  · rintro b rfl; simp
  · rintro b rfl; simp

/-- The first thing has turned; what the call made besides (K) is none of the second one's. -/
theorem ApartF.turn (h : ApartF P Q F G N M w0 w) (fQ : Framed Q) (t : Turned P' F w w') (hK : ∀ b, K b → w.heap.size ≤ b ∧ b < w'.heap.size) : Apart P' Q N (fun b => M b ∨ K b) w0 w' ∧ Stay N w w' := by
  obtain ⟨F', hp, ho, hF'⟩ := t
  have hsz := ho.size
  have h0 := h.below.size
  refine ⟨⟨F', G, hp, fQ.only h.snd ho (fun b hb hf => h.ap b hf hb), ?_, ?_, h.gq, ?_, ?_, fun b hb => Nat.lt_of_lt_of_le (h.ln b hb) hsz, ?_, ho.more' h.below (fun i hi hi' => by have := h.fp i hi'; omega)⟩, fun b hb => ho.block b (h.ln b hb) (h.np b hb)⟩
  · intro b hb hg
    rcases hF' b hb with k | k
    · exact h.ap b k hg
    · have := fQ.lt h.snd b hg; omega
  · intro b hb
    rcases hF' b hb with k | k
    · exact h.fp b k
    · omega
  · intro b hb hf
    rcases hF' b hf with k | k
    · exact h.np b hb k
    · have := h.ln b hb; omega
  · rintro b (hb | hb) hg
    · exact h.mq b hb hg
    · have := fQ.lt h.snd b hg; have := hK b hb; omega
  · rintro b (hb | hb)
    · exact Nat.lt_of_lt_of_le (h.lm b hb) hsz
    · exact (hK b hb).2
theorem ApartF.turn0 (h : ApartF P Q F G N M w0 w) (fQ : Framed Q) (t : Turned P' F w w') : Apart P' Q N M w0 w' ∧ Stay N w w' := by
  obtain ⟨h1, h2⟩ := h.turn (K := fun _ => False) fQ t (fun _ e => e.elim)
  exact ⟨h1.less (fun _ e => e) (fun _ e => .inl e), h2⟩
end
end Go.Proofs.Yteapcahpkapbbaa
