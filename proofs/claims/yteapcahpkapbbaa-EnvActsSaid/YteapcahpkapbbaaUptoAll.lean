/-
  A region that draws its order, where a condition on the world holds behind each operation (number m is none of the region's): what yields its value in every world that meets the condition may be taken first.
  Conditions: none.
-/
import Derived.Test.YteapcahpkapbbaaUptoLast
namespace Go.Proofs.Yteapcahpkapbbaa
section
variable {P : Program} {ops : Array Oper} {Q : Exit → Act → World → Prop} {md : Region.Mode} {S : World → Prop} {m : Nat}

theorem wpUpto.firstAll {i : Nat} {o : Oper} {v : Value} (hi : ops[i]? = some o) (hw : ops[m]? = none) (hsel : Region.noSelect ops = true) (hQ : ∀ c a w, Q (.panic c) (a.put o.dst v) w → Q (.panic c) a w) :
    ∀ (n : Nat) (l : Array Bool) (a : Act) (w : World), (∀ j oj, ops[j]? = some oj → j ≠ i → l.getD j true = false → (∀ e ∈ oj.after, Region.binds md e = true → e.on ≠ i) → o.apart ops oj = true) →
      i ∈ Region.ready md ops l → YieldsIf P ops S o v a → S w → wpUpto P md ops Q S m n (l.setIfInBounds i true) (a.put o.dst v) w → wpUpto P md ops Q S m (n + 1) l a w := by
  intro n
  induction n with
  | zero =>
    intro l a w _ hr hy hS H
    refine ⟨fun h => absurd (h ▸ hr) (by simp), fun j hj => ?_⟩
    by_cases hji : j = i
    · rw [hji]; exact hy.wpOp hi hS ⟨fun _ => hS, hji ▸ H⟩
    · exact absurd (H.1 ▸ ready_mono hj hji) (by simp)
  | succ n ih =>
    intro l a w hfree hr hy hS H
    refine ⟨fun h => absurd (h ▸ hr) (by simp), fun j hj => ?_⟩
    by_cases hji : j = i
    · rw [hji]; exact hy.wpOp hi hS ⟨fun _ => hS, hji ▸ H⟩
    · have hun : l.getD i true = false := (mem_ready.1 hr).1
      have hjm : j ≠ m := fun e => by
        obtain ⟨_, o', ho', _⟩ := mem_ready.1 hj
        rw [e, hw] at ho'
        cases ho'
      obtain ⟨hju, oj, hoj, hall⟩ := mem_ready.1 hj
      have hno : ∀ e ∈ oj.after, Region.binds md e = true → e.on ≠ i := fun e he hb heq => by
        have h1 := hall e he hb
        rw [heq] at h1
        rcases Nat.lt_or_ge i l.size with h | h
        · simp [h] at hun h1; rw [hun] at h1; cases h1
        · simp [Array.getElem?_eq_none h] at h1
      have hstep := wpOp_putIf hoj (hfree j oj hoj hji hju hno) (fun cs b => Region.noSelect_spec hsel i o cs b hi) (fun cs b => Region.noSelect_spec hsel j oj cs b hoj) hQ hy (H.2 j (ready_mono hj hji))
      refine wpOp_mono (fun a' w' hx => ⟨hx.2.1, ih (l.setIfInBounds j true) a' w' (fun k ok hk hki hku hkn => hfree k ok hk hki ?_ hkn) (ready_mono hr (Ne.symm hji)) hx.1 (hx.2.1 hjm) ?_⟩) hstep
      · by_cases hjk : j = k
        · rw [← hjk]; exact hju
        · rw [getD_set_ne true hjk] at hku; exact hku
      · rw [Array.setIfInBounds_comm _ _ hji]; exact hx.2.2

/-- Number i is taken first; the operation comes as a letter with its equation. -/
theorem wpUpto.takeAll (i : Nat) {n : Nat} {l : Array Bool} {a : Act} {w : World} (hw : ops[m]? = none) (hsel : Region.noSelect ops = true) (hf : Region.free md ops l i = true) (hr : (Region.ready md ops l).contains i = true) (hS : S w)
    (h : ∀ o, ops[i]? = some o → ∃ v, (∀ c a w, Q (.panic c) (a.put o.dst v) w → Q (.panic c) a w) ∧ YieldsIf P ops S o v a ∧ wpUpto P md ops Q S m n (l.setIfInBounds i true) (a.put o.dst v) w) : wpUpto P md ops Q S m (n + 1) l a w := by
  have hr' : i ∈ Region.ready md ops l := by simpa using hr
  obtain ⟨_, o, ho, _⟩ := mem_ready.1 hr'
  obtain ⟨v, hQ, hy, hx⟩ := h o ho
  exact wpUpto.firstAll ho hw hsel hQ n l a w (Region.free_spec ho hf) hr' hy hS hx

end
end Go.Proofs.Yteapcahpkapbbaa
