/-
  A list of things that grows: a slice of structs of 257 cells in a row of its own.
  Conditions: none.
-/
import Derived.Test.YtcipljpalohjiaaDoorGlTh
namespace Go.Proofs.YtcipljpalohjiaaDoor
open Go.RowKit

/-- The cells of things side by side. -/
def flatT (l : List Thg) : List Value := l.flatMap fun x => (thCells x).toList
theorem flatT_snoc (l : List Thg) (x : Thg) : flatT (l ++ [x]) = flatT l ++ (thCells x).toList := by simp [flatT]
theorem flatT_at : ∀ {l : List Thg} {k : Nat} {x : Thg}, l[k]? = some x → ∀ {j : Nat}, j < 257 → (flatT l)[k * 257 + j]? = (thCells x)[j]?
  | [], k, x, h, j, _ => by simp at h
  | y :: l, 0, x, h, j, hj => by
    simp at h
    subst h
    unfold flatT
    rw [List.flatMap_cons, Nat.zero_mul, Nat.zero_add, List.getElem?_append_left (by rw [th_len]; exact hj)]
    simp
  | y :: l, k + 1, x, h, j, hj => by
    have ih := flatT_at (l := l) (k := k) (x := x) (by simpa using h) hj
    unfold flatT at ih ⊢
    rw [List.flatMap_cons, List.getElem?_append_right (by rw [th_len]; omega), th_len, show (k + 1) * 257 + j - 257 = k * 257 + j by omega, ih]

/-- Things in memory of their own since w0. -/
def ThI (w0 : World) (v : Value) (l : List Thg) (W : World) : Prop :=
  ∃ g, RowS W 68 257 g v l.length (flatT l) ∧ (∀ b, g = some b → w0.heap.size ≤ b) ∧ Below w0.heap.size w0 W
section
variable {w0 W W' : World} {v : Value} {l : List Thg}
theorem ThI.nil (w : World) : ThI w (.slice none 0 0) [] w := ⟨none, RowS.nil w _ _, by simp, Below.refl _ _⟩
theorem ThI.form (h : ThI w0 v l W) : ∃ A c, v = .slice A l.length c := by
  obtain ⟨g, hr, _⟩ := h
  obtain ⟨A, c, rfl, _⟩ := hr.form
  exact ⟨A, c, rfl⟩
theorem ThI.below (h : ThI w0 v l W) (hb : Below W.heap.size W W') : ThI w0 v l W' := by
  obtain ⟨g, hr, hg, hb0⟩ := h
  exact ⟨g, hr.below hb (fun b e => hr.lt e), hg, hb0.trans (hb.mono hb0.size)⟩
theorem ThI.since (h : ThI w0 v l W) : Below w0.heap.size w0 W := h.choose_spec.2.2
theorem ThI.grown {v' : Value} {g g' : Option Nat} {x : Thg} (hg : ∀ b, g = some b → w0.heap.size ≤ b) (hb : Below w0.heap.size w0 W)
    (hr' : RowS W' 68 257 g' v' (l.length + 1) (flatT l ++ (thCells x).toList)) (hgr : W.grownBy W' g) (hg' : g' = g ∨ g' = some W.heap.size) : ThI w0 v' (l ++ [x]) W' := by
  refine ⟨g', by rw [flatT_snoc, List.length_append]; exact hr', fun b e => ?_, hb.grown hgr hb.size hg⟩
  rcases hg' with rfl | rfl
  · exact hg b e
  · cases e; exact hb.size
/-- The cells of the k-th thing. -/
theorem ThI.at_ {A : Option Addr} {n c : Nat} (h : ThI w0 (.slice A n c) l W) {k : Nat} {x : Thg} (hk : l[k]? = some x) :
    ∃ b o, A = some ⟨b, o, none⟩ ∧ W.cell? ⟨b, o + k * 257, none⟩ = some (.bool x.any) ∧ ∀ j, j < 256 → W.cell? ⟨b, o + k * 257 + 1 + j, none⟩ = some (.bool (x.one j)) := by
  obtain ⟨g, hr, _⟩ := h
  have hlt := (List.getElem?_eq_some_iff.1 hk).1
  obtain ⟨b, o, c', hv, _, _, hc⟩ := hr.cells (by omega)
  injection hv with e1
  refine ⟨b, o, e1, ?_, fun j hj => ?_⟩
  · refine hc (k * 257) _ ?_
    have := flatT_at hk (j := 0) (by omega)
    rw [Nat.add_zero] at this
    rw [this, th_at0]
  · rw [show o + k * 257 + 1 + j = o + (k * 257 + (j + 1)) by omega]
    refine hc _ _ ?_
    rw [flatT_at hk (by omega), th_at x hj]
end
theorem src_row (W : World) (x : Thg) : Src Tryd.prog 257 58 (.slice (some ⟨W.heap.size, 0, none⟩) 1 1) 1 (thCells x).toList (W.alloc (.cells (thCells x) 68)) :=
  Src.ofSlice _ Tryd.underlying58 ⟨W.heap.size, 0, none⟩ 1 1 _ (by rw [th_len]) (fun j u hu => by
    rw [add_eq, (Blk.new W 68 (thCells x)).cell]
    simpa using hu) (th_one x)
/-- What Things answers. -/
def ThingsTo (w0 : World) (p : List Nat) (r : Ending) (W : World) : Prop :=
  ∃ v, Below w0.heap.size w0 W ∧
    if 1024 < p.length then r = .returned (.tuple #[.slice none 0 0, .int .i64 6]) else
    match thingsS p with
    | none => r = .returned (.tuple #[.slice none 0 0, .int .i64 4])
    | some l => r = .returned (.tuple #[v, .int .i64 0]) ∧ ThI w0 v l W
theorem ThingsTo.long {w0 W : World} {p : List Nat} (h : 1024 < p.length) (hb : Below w0.heap.size w0 W) : ThingsTo w0 p (.returned (.tuple #[.slice none 0 0, .int .i64 6])) W := ⟨undef, hb, by rw [if_pos h]⟩
theorem ThingsTo.bad {w0 W : World} {p : List Nat} (h : ¬ 1024 < p.length) (hb : Below w0.heap.size w0 W) (ht : thingsS p = none) : ThingsTo w0 p (.returned (.tuple #[.slice none 0 0, .int .i64 4])) W := ⟨undef, hb, by rw [if_neg h, ht]⟩
theorem ThingsTo.good {w0 W : World} {p : List Nat} {v : Value} {l : List Thg} (h : ¬ 1024 < p.length) (ht : thingsS p = some l) (hl : ThI w0 v l W) : ThingsTo w0 p (.returned (.tuple #[v, .int .i64 0])) W := ⟨v, hl.since, by rw [if_neg h, ht]; exact ⟨rfl, hl⟩⟩
end Go.Proofs.YtcipljpalohjiaaDoor
