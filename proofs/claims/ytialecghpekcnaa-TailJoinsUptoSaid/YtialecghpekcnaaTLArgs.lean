/-
  Rows of rows of bytes, read out of the arguments.
  Conditions: none.
-/
import Derived.Test.YtialecghpekcnaaTLList
import Derived.Test.YtialecghpekcnaaArgs
import Derived.Deep.Slices
import Derived.ChangeSame
import Derived.ChangeSlices
namespace Go.Proofs.Ytialecghpekcnaa
open Go.RowKit

theorem choose_lt {α : Type} {P : Nat → α → Prop} : ∀ {n : Nat}, (∀ i, i < n → ∃ x, P i x) → ∃ l : List α, l.length = n ∧ ∀ i (h : i < l.length), P i l[i]
  | 0, _ => ⟨[], rfl, fun i h => by simp at h⟩
  | n + 1, h => by
    obtain ⟨l, hl, hp⟩ := choose_lt (n := n) fun i hi => h i (by omega)
    obtain ⟨x, hx⟩ := h n (by omega)
    refine ⟨l ++ [x], by simp [hl], fun i hi => ?_⟩
    rw [List.length_append, List.length_singleton] at hi
    by_cases e : i < l.length
    · rw [List.getElem_append_left e]; exact hp i e
    · obtain rfl : i = n := by omega
      rw [List.getElem_append_right (by omega)]
      simpa [hl] using hx

theorem each_of {P : Value → List Nat → Prop} : ∀ (l : List (Value × List Nat)), (∀ i (h : i < l.length), P l[i].1 l[i].2) → Each P (l.map (·.1)) (l.map (·.2))
  | [], _ => trivial
  | x :: l, h => ⟨h 0 (by simp), each_of l fun i hi => h (i + 1) (by simpa using hi)⟩

section
open Go.ChangeShapes Go.WideShapes Go.Deep
variable {H : Type} {enc : TypeId × Value → H} {W : World} {base : Nat} {sp : Nat → Bool} {held : Bool}
theorem bytes_cells : Try.prog.cellsOf 22 = 1 := by kernel_rfl

/-- How a row is read; how rows are. -/
def RowRead (d : DataW H) (l : List Nat) : Prop := l = [] ∨ ∃ zs r, d = .slice zs r ∧ zs.length = l.length
def ListsRead (d : DataW H) (ll : List (List Nat)) : Prop := (d = .nil ∧ ll = []) ∨ ∃ D r, d = .slice ((List.range ll.length).map D) r ∧ ∀ i (h : i < ll.length), RowRead (D i) ll[i]

set_option maxRecDepth 100000 in
theorem lists_of_trod {fuel : Nat} {v : Value} {y : DataW H × List MemPlace} (h : DataW.trod enc Try.prog W base sp held fuel 23 [v] = some y) :
    ∃ ll, Lists W v ll ∧ (∀ p ∈ ll, ∀ b ∈ p, b < 256) ∧ ListsRead y.1 ll := by
  rcases open_slice Try.underlying23 h with ⟨hcs, hx⟩ | ⟨a, len, cap, m, n, D, Pl, hcs, hb, hl, hm, hmm, hx, hi⟩
  · injection hcs with hv _
    subst hv
    exact ⟨[], ⟨[], (Row.nil W 22).rd, trivial⟩, by simp, .inl ⟨by rw [hx], rfl⟩⟩
  · injection hcs with hv _
    have hlm : len ≤ m := by rw [hmm]; split <;> omega
    have key : ∀ i, i < len → ∃ x : Value × List Nat, W.cell? (a.add i) = some x.1 ∧ (∃ A c, x.1 = .slice A x.2.length c ∧ Rd W x.1 (bv x.2)) ∧ (∀ b ∈ x.2, b < 256) ∧ RowRead (D i) x.2 := by
      intro i hil
      obtain ⟨cs', hc, ht⟩ := hi i (by omega)
      rw [bytes_cells] at hc
      obtain ⟨_, hcl, hat⟩ := World.cells?_some hc
      match cs', hcl with
      | [v0], _ =>
        have c0 := hat 0 (by omega)
        rw [Go.Deep.add_add] at c0
        obtain ⟨A, nn, c, zs, e2, hn, hmx, hrd, hwf, hread⟩ := nums_of_trod Try.underlying22 Try.underlying5 (by kernel_rfl) ht
        subst e2
        rw [nums_nat .u8 (fun z hz => (wf_u8 (hwf z hz)).1)] at hrd
        refine ⟨(.slice A nn c, zs.map Int.toNat), by simpa using c0, ⟨A, c, by simp [hn], hrd⟩, fun b hb => ?_, ?_⟩
        · obtain ⟨z, hz, rfl⟩ := List.mem_map.1 hb; have := wf_u8 (hwf z hz); omega
        · rcases hread with ⟨_, rfl⟩ | ⟨r, hr⟩
          · exact .inl rfl
          · exact .inr ⟨_, r, hr, by simp [lits]⟩
    obtain ⟨L, hL, hp⟩ := choose_lt key
    subst hv
    refine ⟨L.map (·.2), ⟨L.map (·.1), ?_, each_of L fun i h => (hp i h).2.1⟩, fun p hpm => ?_, .inr ⟨D, _, by rw [List.length_map, hL, hx], fun i h => ?_⟩⟩
    · refine ⟨some a, cap, by rw [List.length_map, hL], by rw [List.length_map, hL]; omega, fun u hu => ?_, fun h0 => ?_⟩
      · obtain ⟨x, hx2, rfl⟩ := List.mem_map.1 hu
        obtain ⟨i, hi2, rfl⟩ := List.getElem_of_mem hx2
        obtain ⟨A, c, e, _⟩ := (hp i hi2).2.1
        rw [e]; rfl
      · have hp' : 0 < L.length := by simpa using h0
        have h1 := (hp 0 hp').1
        obtain ⟨b, o, s⟩ := a
        have hs : s = none := by
          cases s with
          | none => rfl
          | some _ => simp [World.cell?, Addr.add] at h1; split at h1 <;> simp_all
        subst hs
        refine ⟨b, o, rfl, fun j u hu => ?_⟩
        rw [List.getElem?_map] at hu
        have hj : j < L.length := by
          rcases Nat.lt_or_ge j L.length with h | h
          · exact h
          · rw [List.getElem?_eq_none (by omega)] at hu; cases hu
        rw [List.getElem?_eq_getElem hj] at hu
        simp at hu
        rw [← hu, ← add_eq]
        exact (hp j hj).1
    · obtain ⟨x, hx2, rfl⟩ := List.mem_map.1 hpm
      obtain ⟨i, hi2, rfl⟩ := List.getElem_of_mem hx2
      exact (hp i hi2).2.2.1
    · have hi2 : i < L.length := by simpa using h
      have := (hp i hi2).2.2.2
      simpa using this
end
end Go.Proofs.Ytialecghpekcnaa
