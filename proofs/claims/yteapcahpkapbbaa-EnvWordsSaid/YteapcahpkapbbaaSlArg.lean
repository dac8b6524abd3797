/-
  Lists of structs, read out of the arguments; over no program.
  Conditions: none.
-/
import Derived.Test.YteapcahpkapbbaaSlI
import Derived.Test.YteapcahpkapbbaaArgs
import Derived.Test.YteapcahpkapbbaaStrArg
import Derived.Deep.Slices
import Derived.Deep.Fields
import Derived.Deep.Strs
import Derived.ChangeSame
import Derived.ChangeSlices
namespace Go.Proofs.Yteapcahpkapbbaa
open Go.RowKit

theorem choose_list {α : Type} {P : Nat → α → Prop} : ∀ {n : Nat}, (∀ i, i < n → ∃ x, P i x) → ∃ l : List α, l.length = n ∧ ∀ i (h : i < l.length), P i l[i]
  | 0, _ => ⟨[], rfl, fun i h => by simp at h⟩
  | n + 1, h => by
    obtain ⟨l, hl, hp⟩ := choose_list (n := n) fun i hi => h i (by omega)
    obtain ⟨x, hx⟩ := h n (by omega)
    refine ⟨l ++ [x], by simp [hl], fun i hi => ?_⟩
    rw [List.length_append, List.length_singleton] at hi
    by_cases e : i < l.length
    · rw [List.getElem_append_left e]; exact hp i e
    · obtain rfl : i = n := by omega
      rw [List.getElem_append_right (by omega)]
      simpa [hl] using hx
theorem no_spot {W : World} {a : Addr} {u : Value} (h : W.cell? (a.add 0) = some u) : ∃ b o, a = ⟨b, o, none⟩ := by
  have hs := World.cell?_spot h
  obtain ⟨b, o, s⟩ := a
  exact ⟨b, o, by simpa [Addr.add] using hs⟩

section
open Go.ChangeShapes Go.WideShapes Go.Deep
variable {H : Type} {enc : TypeId × Value → H} {P : Program} {W : World} {base : Nat} {sp : Nat → Bool} {held : Bool}

/-- How a list is read. -/
def LsRead {α : Type} (R : DataW H → α → Prop) (d : DataW H) (l : List α) : Prop := (d = .nil ∧ l = []) ∨ ∃ D r, d = .slice ((List.range l.length).map D) r ∧ ∀ i (h : i < l.length), R (D i) l[i]
theorem sli_of_trod {α : Type} {s : Nat} {At : AtF α} {R : DataW H → α → Prop} {G : α → Prop} {t e : TypeId} (ht : P.underlying t = some (.slice e)) (hs : P.cellsOf e = s)
    (key : ∀ (a : Addr) (cs : List Value) (n : Nat) (y : DataW H × List MemPlace), cs.length = s → (∀ j, j < s → W.cell? (a.add j) = cs[j]?) → DataW.trod enc P W base sp held n e cs = some y → ∃ b o, a = ⟨b, o, none⟩ ∧ ∃ x, At all W b o x ∧ G x ∧ R y.1 x)
    {fuel : Nat} {v : Value} {y : DataW H × List MemPlace} (h : DataW.trod enc P W base sp held fuel t [v] = some y) :
    ∃ l, SlI s At all W v l ∧ (∀ x ∈ l, G x) ∧ LsRead R y.1 l ∧ l.length ≤ maxLen := by
  rcases open_slice ht h with ⟨hcs, hx⟩ | ⟨a, len, cap, m, n, D, Pl, hcs, hb, hl, hm, hmm, hx, hi⟩
  · injection hcs with hv _
    subst hv
    exact ⟨[], SlI.nil none 0, by simp, .inl ⟨by rw [hx], rfl⟩, by simp⟩
  · injection hcs with hv _
    subst hv
    have hlm : len ≤ m := by rw [hmm]; split <;> omega
    have k1 : ∀ i, i < len → ∃ x, (∃ b o, a.add (i * s) = ⟨b, o, none⟩ ∧ At all W b o x) ∧ G x ∧ R (D i) x := fun i hil => by
      obtain ⟨cs', hc, ht'⟩ := hi i (by omega)
      rw [hs] at hc
      obtain ⟨_, hcl, hat⟩ := World.cells?_some hc
      obtain ⟨b, o, e1, x, h1, h2, h3⟩ := key _ cs' n _ hcl hat ht'
      exact ⟨x, ⟨b, o, e1, h1⟩, h2, h3⟩
    obtain ⟨l, hL, hp⟩ := choose_list k1
    refine ⟨l, ⟨some a, cap, by rw [hL], by omega, fun h0 => ?_⟩, fun x hx => ?_, .inr ⟨D, _, by rw [hL, hx], fun i h => (hp i h).2.2⟩, by omega⟩
    · obtain ⟨⟨b0, o0, e0, _⟩, _⟩ := hp 0 h0
      obtain ⟨b, o, sp'⟩ := a
      have hn : sp' = none := by
        cases sp' with
        | none => rfl
        | some _ => simp [Addr.add] at e0
      subst hn
      refine ⟨b, o, rfl, trivial, fun j x hj => ?_⟩
      obtain ⟨hjl, rfl⟩ := List.getElem?_eq_some_iff.1 hj
      obtain ⟨⟨b1, o1, e1, h1⟩, _⟩ := hp j hjl
      rw [add_eq] at e1
      injection e1 with e2 e3 _
      rw [← e2, ← e3] at h1
      exact h1
    · obtain ⟨i, hi2, rfl⟩ := List.getElem_of_mem hx
      exact (hp i hi2).2.1
end

end Go.Proofs.Yteapcahpkapbbaa
