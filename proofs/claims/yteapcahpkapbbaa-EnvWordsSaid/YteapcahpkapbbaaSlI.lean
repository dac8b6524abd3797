/-
  Lists of structs in memory, read (SlI), whatever the structs are; over no program.
  Conditions: none.
-/
import Derived.Test.YteapcahpkapbbaaSeqT
import Derived.Test.YteapcahpkapbbaaRowS
namespace Go.Proofs.Yteapcahpkapbbaa
open Go.RowKit

/-- Where things lie, as a family: S says which blocks may be looked at. -/
abbrev AtF (α : Type) := (Nat → Prop) → World → Nat → Nat → α → Prop
abbrev SubF (α : Type) := (Nat → Prop) → World → Value → α → Prop
structure AtF.Ok {α : Type} (At : AtF α) : Prop where
  lt : ∀ {S W b o x}, At S W b o x → b < W.heap.size
  still : ∀ {S W W' b o x}, At S W b o x → S b → Still S W W' → At S W' b o x
  fit : ∀ {S T : Nat → Prop} {W b o x}, At S W b o x → (∀ b, S b → b < W.heap.size → T b) → At T W b o x
structure SubF.Ok {α : Type} (Sub : SubF α) : Prop where
  still : ∀ {S W W' u x}, Sub S W u x → Still S W W' → Sub S W' u x
  fit : ∀ {S T : Nat → Prop} {W u x}, Sub S W u x → (∀ b, S b → b < W.heap.size → T b) → Sub T W u x
/-- A list of things side by side, s cells each. -/
def SlI {α : Type} (s : Nat) (At : AtF α) (S : Nat → Prop) (W : World) (v : Value) (l : List α) : Prop :=
  ∃ A c, v = .slice A l.length c ∧ l.length ≤ c ∧ (0 < l.length → ∃ b o, A = some ⟨b, o, none⟩ ∧ S b ∧ ∀ j x, l[j]? = some x → At S W b (o + j * s) x)
section
variable {α : Type} {s : Nat} {At : AtF α} {S T : Nat → Prop} {W W' : World} {v : Value} {l : List α}
theorem SlI.still (k : AtF.Ok At) (h : SlI s At S W v l) (hs : Still S W W') : SlI s At S W' v l := by
  obtain ⟨A, c, e, hle, hr⟩ := h
  refine ⟨A, c, e, hle, fun hp => ?_⟩
  obtain ⟨b, o, eA, hb, hx⟩ := hr hp
  exact ⟨b, o, eA, hb, fun j x hj => k.still (hx j x hj) hb hs⟩
theorem SlI.fit (k : AtF.Ok At) (h : SlI s At S W v l) (hT : ∀ b, S b → b < W.heap.size → T b) : SlI s At T W v l := by
  obtain ⟨A, c, e, hle, hr⟩ := h
  refine ⟨A, c, e, hle, fun hp => ?_⟩
  obtain ⟨b, o, eA, hb, hx⟩ := hr hp
  exact ⟨b, o, eA, hT b hb (k.lt (hx 0 _ (List.getElem?_eq_getElem hp))), fun j x hj => k.fit (hx j x hj) hT⟩
theorem SlI.below (k : AtF.Ok At) (h : SlI s At S W v l) (hb : Below W.heap.size W W') : SlI s At S W' v l := h.still k ⟨hb.size, fun b _ hl => hb.block b hl⟩
theorem SlI.form (h : SlI s At S W v l) : ∃ A c, v = .slice A l.length c ∧ l.length ≤ c := by
  obtain ⟨A, c, e, hle, _⟩ := h; exact ⟨A, c, e, hle⟩
theorem SlI.n {A : Option Addr} {n c : Nat} (h : SlI s At S W (.slice A n c) l) : n = l.length := by
  obtain ⟨A', c', e, _⟩ := h
  injection e
theorem SlI.nil (A : Option Addr) (c : Nat) : SlI s At S W (.slice A 0 c) [] := ⟨A, c, rfl, by simp, fun h => by simp at h⟩
/-- Where the k-th lies. -/
theorem SlI.at_ {A : Option Addr} {n c k : Nat} {x : α} (h : SlI s At S W (.slice A n c) l) (hx : l[k]? = some x) : ∃ b o, A = some ⟨b, o, none⟩ ∧ S b ∧ At S W b (o + k * s) x := by
  obtain ⟨A', c', e, _, hr⟩ := h
  injection e with e1 e2 e3
  subst e1 e2 e3
  obtain ⟨b, o, rfl, hb, hat⟩ := hr (by have := (List.getElem?_eq_some_iff.1 hx).1; omega)
  exact ⟨b, o, rfl, hb, hat k x hx⟩
/-- Their first few; the others. -/
theorem SlI.take {A : Option Addr} {n c k : Nat} (h : SlI s At S W (.slice A n c) l) (hk : k ≤ l.length) : SlI s At S W (.slice A k c) (l.take k) := by
  obtain ⟨A', c', e, hle, hr⟩ := h
  injection e with e1 e2 e3
  subst e3
  rw [← e1] at hr
  refine ⟨A, c, by rw [List.length_take, Nat.min_eq_left hk], by rw [List.length_take]; omega, fun hp => ?_⟩
  rw [List.length_take] at hp
  obtain ⟨b, o, eA, hb, hx⟩ := hr (by omega)
  refine ⟨b, o, eA, hb, fun j x hj => hx j x ?_⟩
  rw [List.getElem?_take] at hj
  split at hj
  · exact hj
  · cases hj
theorem SlI.drop {b o n c k : Nat} (h : SlI s At S W (.slice (some ⟨b, o, none⟩) n c) l) (hk : k ≤ l.length) : SlI s At S W (.slice (some ⟨b, o + k * s, none⟩) (n - k) (c - k)) (l.drop k) := by
  have hn := h.n
  obtain ⟨A', c', e, hle, hr⟩ := h
  injection e with e1 e2 e3
  subst e1 e3
  refine ⟨_, _, by rw [List.length_drop, hn], by rw [List.length_drop]; omega, fun hp => ?_⟩
  rw [List.length_drop] at hp
  obtain ⟨b', o', eA, hb, hx⟩ := hr (by omega)
  cases eA
  refine ⟨b, _, rfl, hb, fun j x hj => ?_⟩
  rw [List.getElem?_drop] at hj
  have := hx (k + j) x hj
  rwa [Nat.add_mul, ← Nat.add_assoc] at this
end

/-- One thing in a block of its own, handed to append. -/
theorem src_cells {P : Program} {V : World} {C : Array Value} {e t : TypeId} {s : Nat} {news : List Value} (ht : P.underlying t = some (.slice e)) (q : Nat) (hq : q = V.heap.size) (hC : C.toList = news) (hs : news.length = s) (h1 : ∀ u ∈ news, u.oneCell' = true) :
    Src P s t (.slice (some ⟨q, 0, none⟩) 1 1) 1 news (V.alloc (.cells C e)) := by
  subst hq hC
  refine Src.ofSlice _ ht ⟨V.heap.size, 0, none⟩ 1 1 C.toList (by omega) (fun j u hu => ?_) h1
  rw [add_eq, cell_of_row _ V.heap.size (0 + j) C e (0, 0) (heap_alloc_new V _), Nat.zero_add, ← Array.getElem?_toList]
  exact hu

theorem still_cell {S : Nat → Prop} {W W' : World} {b o : Nat} {u : Value} (hs : Still S W W') (hb : S b) (h : W.cell? ⟨b, o, none⟩ = some u) : W'.cell? ⟨b, o, none⟩ = some u :=
  (World.cell?_of_block (a := ⟨b, o, none⟩) (hs.same b hb (World.block_lt_of_cell? W _ h))).trans h
abbrev all : Nat → Prop := fun _ => True
end Go.Proofs.Yteapcahpkapbbaa
