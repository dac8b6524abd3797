/-
  Texts of words that come in take no more bytes than what a call may be handed.
  Conditions: none.
-/
import Derived.Test.YteapcahpkapbbaaEnArg
import Derived.SizedLaws
namespace Go.Proofs.Yteapcahpkapbbaa
open Go.RowKit

section
variable {H : Type} {P : Program} {B : Nat}
theorem weights_all {e : TypeId} {d : DataW H} : ∀ {D : List (DataW H)}, d ∈ D → ∀ n ∈ d.weights P e, n ∈ DataW.weightsAll P e D
  | [], h, _, _ => by cases h
  | x :: D, h, n, hn => by
    rw [DataW.weightsAll, List.mem_append]
    rcases List.mem_cons.1 h with rfl | h
    · exact .inl hn
    · exact .inr (weights_all h n hn)
/-- What holds of each element of a list that comes in, by its weights. -/
theorem ls_sized {α : Type} {R : DataW H → α → Prop} {f : α → Prop} {t e : TypeId} (hu : P.underlying t = some (.slice e)) (k : ∀ d x, R d x → (∀ n ∈ d.weights P e, n ≤ B) → f x)
    {d : DataW H} {l : List α} (h : LsRead R d l) (hw : ∀ n ∈ d.weights P t, n ≤ B) : ∀ x ∈ l, f x := by
  intro x hx
  rcases h with ⟨_, rfl⟩ | ⟨D, r, rfl, h⟩
  · cases hx
  · obtain ⟨i, hi, rfl⟩ := List.getElem_of_mem hx
    refine k (D i) _ (h i hi) fun n hn => hw n ?_
    rw [DataW.weights, hu]
    refine List.mem_cons_of_mem _ (List.mem_append.2 (.inl (weights_all (d := D i) ?_ n hn)))
    exact List.mem_map.2 ⟨i, List.mem_range.2 hi, rfl⟩
end
section
variable {H : Type} {B : Nat}
theorem prts_sized {d : DataW H} {ps : List Prt} (h : LsRead PrtRead d ps) (hw : ∀ n ∈ d.weights Try.prog 31, n ≤ B) : ∀ p ∈ ps, p.s.length ≤ B := by
  obtain ⟨f0, f1, hf, _, _, _, _⟩ := prt_fields
  refine ls_sized (e := 57) Try.underlying31 (fun d p hr hn => ?_) h hw
  obtain ⟨a, t, rfl, ht⟩ := hr
  rw [← ht]
  refine hn _ ?_
  rw [DataW.weights, hf]
  simp [DataW.weightsEach, DataW.weights]
theorem wrd_sized {d : DataW H} {x : Wrd} (h : WrdRead d x) (hw : ∀ n ∈ d.weights Try.prog 33, n ≤ B) : ∀ p ∈ x.parts, p.s.length ≤ B := by
  obtain ⟨f0, f1, f2, hf, _, _, _, t0, t1, t2⟩ := wrd_fields
  obtain ⟨a, b, c, rfl, hr⟩ := h
  refine prts_sized hr fun n hn => hw n ?_
  rw [DataW.weights, hf]
  simp only [DataW.weightsEach, List.map_cons, List.map_nil, t0, t1, t2, List.mem_append]
  exact .inr (.inr (.inl hn))
theorem eacts_sized {d : DataW H} {l : List EAct} (h : LsRead EActRead d l) (hw : ∀ n ∈ d.weights Try.prog 22, n ≤ B) : ∀ x ∈ l, ∀ p ∈ x.w.parts, p.s.length ≤ B := by
  obtain ⟨f0, f1, f2, f3, hf, _, _, _, _, t0, t1, t2, t3⟩ := eact_fields
  refine ls_sized (e := 35) Try.underlying22 (fun d x hr hn => ?_) h hw
  obtain ⟨a, b, c, e, rfl, hr⟩ := hr
  refine wrd_sized hr fun n hn2 => hn n ?_
  rw [DataW.weights, hf]
  simp only [DataW.weightsEach, List.map_cons, List.map_nil, t0, t1, t2, t3, List.mem_append]
  exact .inr (.inr (.inr (.inl hn2)))
/-- Each weight of an argument is one of the call's. -/
theorem arg_sized {ts : List TypeId} {ds : List (DataW H)} (h : (DataW.weightsEach Try.prog ts ds).all (· ≤ reachBytes) = true) {j : Nat} {t : TypeId} {d : DataW H} (ht : ts[j]? = some t) (hd : ds[j]? = some d) : ∀ n ∈ d.weights Try.prog t, n ≤ 140737488351232 := fun n hn => by
  have h1 : decide (n ≤ reachBytes) = true := List.all_eq_true.1 h _ (DataW.weights_mem_each ht hd n hn)
  have h2 : n ≤ reachBytes := of_decide_eq_true h1
  rwa [show reachBytes = 140737488351232 from rfl] at h2
end
end Go.Proofs.Yteapcahpkapbbaa
