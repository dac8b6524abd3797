/-
  The document's Thing in memory: a struct of a bool and 256 bools, as one value of 257 cells: what building, laying, loading and storing it are, without opening its cells.
  Conditions: none.
-/
import Derived.Test.YtcipljpalohjiaaDoorRowS
import Derived.Test.YtcipljpalohjiaaDoorGlLs
import Derived.Test.YtcipljpalohjiaaDoorRet
import Derived.Deep.WholeRow
import Derived.Handy
namespace Go.Proofs.YtcipljpalohjiaaDoor
open Go.RowKit

/-- A thing's cells. -/
def thCells (x : Thg) : Array Value := (Value.bool x.any :: (List.range 256).map fun i => Value.bool (x.one i)).toArray
def noT : Thg := ⟨false, fun _ => false⟩
theorem th_size (x : Thg) : (thCells x).size = 257 := by simp [thCells]
theorem th_len (x : Thg) : (thCells x).toList.length = 257 := by simp [thCells]
theorem th_one (x : Thg) : ∀ u ∈ (thCells x).toList, u.oneCell' = true := by
  intro u hu
  unfold thCells at hu
  simp only [List.mem_cons, List.mem_map] at hu
  rcases hu with rfl | ⟨i, _, rfl⟩ <;> rfl
theorem th_all (x : Thg) : (thCells x).all (·.oneCell') = true := by
  rw [Array.all_eq_true_iff_forall_mem]
  intro u hu
  exact th_one x u (by simpa using hu)
theorem th_at0 (x : Thg) : (thCells x)[0]? = some (.bool x.any) := by simp [thCells]
theorem th_at (x : Thg) {c : Nat} (hc : c < 256) : (thCells x)[c + 1]? = some (.bool (x.one c)) := by simp [thCells, hc]
theorem th_ext {x y : Thg} (h : x.any = y.any) (k : ∀ c, c < 256 → x.one c = y.one c) : thCells x = thCells y := by
  unfold thCells
  rw [h]
  congr 2
  apply List.map_congr_left
  intro c hc
  rw [k c (List.mem_range.1 hc)]
theorem th_no : thCells noT = .replicate 257 (.bool false) := by
  apply Array.ext_getElem?
  intro i
  rw [Array.getElem?_replicate]
  split
  · rename_i h
    cases i with
    | zero => exact th_at0 noT
    | succ i => exact th_at noT (by omega)
  · rename_i h
    rw [Array.getElem?_eq_none (by rw [th_size]; omega)]
theorem th_set (x : Thg) {c : Nat} (hc : c < 256) : (thCells x).setIfInBounds (c + 1) (.bool true) = thCells ⟨x.any, fun j => decide (j = c) || x.one j⟩ := by
  apply Array.ext_getElem?
  intro i
  rw [Array.getElem?_setIfInBounds]
  by_cases h : c + 1 = i
  · subst h
    rw [if_pos rfl, if_pos (by rw [th_size]; omega), th_at _ hc]
    simp
  · rw [if_neg h]
    cases i with
    | zero => rw [th_at0, th_at0]
    | succ i =>
      by_cases hi : i < 256
      · rw [th_at _ hi, th_at _ hi]
        have : i ≠ c := by omega
        simp [this]
      · rw [Array.getElem?_eq_none (by rw [th_size]; omega), Array.getElem?_eq_none (by rw [th_size]; omega)]
theorem th_star : (thCells noT).setIfInBounds 0 (.bool true) = thCells starT := by
  apply Array.ext_getElem?
  intro i
  rw [Array.getElem?_setIfInBounds]
  by_cases h : 0 = i
  · subst h
    rw [if_pos rfl, if_pos (by rw [th_size]; omega)]
    exact (th_at0 starT).symm
  · rw [if_neg h]
    cases i with
    | zero => omega
    | succ i =>
      by_cases hi : i < 256
      · rw [th_at _ hi, th_at _ hi]; rfl
      · rw [Array.getElem?_eq_none (by rw [th_size]; omega), Array.getElem?_eq_none (by rw [th_size]; omega)]

theorem th_info : (Tryd.prog.info? 68).map (fun i => (i.zero, i.size)) = some (some (.agg (.replicate 257 (.bool false))), 257) := by kernel_rfl
theorem th_info2 : ∃ i, Tryd.prog.info? 68 = some i ∧ i.zero = some (.agg (thCells noT)) ∧ i.size = 257 ∧ i.bytes = 257 := by
  have h : (Tryd.prog.info? 68).map (fun i => (i.zero, i.size, i.bytes)) = some (some (.agg (.replicate 257 (.bool false))), 257, 257) := by kernel_rfl
  cases hq : Tryd.prog.info? 68 with
  | none => rw [hq] at h; cases h
  | some i =>
    rw [hq] at h
    simp only [Option.map_some, Option.some.injEq, Prod.mk.injEq] at h
    exact ⟨i, rfl, by rw [th_no]; exact h.1, h.2.1, h.2.2⟩
theorem th_zero (w : World) : (zeroValue 68).run Tryd.prog w = .ok (.agg (thCells noT)) w := by
  rw [th_no]; exact (zero_of_info th_info).1 w
theorem th_sz : (Tryd.prog.info? 68).map (·.size) = some 257 := (zero_of_info th_info).2
theorem th_sizeOf (w : World) : (sizeOf 68).run Tryd.prog w = .ok 257 w := by
  obtain ⟨i, h1, _, h3, _⟩ := th_info2
  simp [sizeOf, typeInfo, h1, h3]

theorem build_no (w : World) : (Instr.build 68 #[]).run Tryd.prog w = .ok (.agg (thCells noT)) w := by
  have hz := th_zero w
  unfold Instr.build
  rw [Sem.run_bind, hz]
  go_simp
theorem build_star (w : World) : (Instr.build 68 #[(0, .bool true)]).run Tryd.prog w = .ok (.agg (thCells starT)) w := by
  have hz := th_zero w
  have hs := th_size noT
  have h0 := th_star
  have hne : thCells noT ≠ #[] := fun h => by rw [h] at hs; cases hs
  unfold Instr.build
  rw [Sem.run_bind, hz]
  go_simp
theorem alloc_th (w : World) (old : Value) : (Instr.alloc 68 true old).run Tryd.prog w = .ok (.pointer (some ⟨w.heap.size, 0, none⟩)) (w.alloc (.cells (thCells noT) 68)) := by
  have hz := th_zero w
  unfold Instr.alloc
  rw [Sem.run_bind, hz]
  go_simp
theorem fill_over : ∀ (l : List Value) (k : Nat) (cs : Array Value), cs.size = k + l.length → (l.zipIdx k).foldl (fun cs (x : Value × Nat) => cs.setIfInBounds x.snd x.fst) cs = (cs.toList.take k ++ l).toArray
  | [], k, cs, h => by
    simp only [List.length_nil, Nat.add_zero] at h
    rw [List.append_nil, List.take_of_length_le (by simp [h])]
    rfl
  | v :: l, k, cs, h => by
    rw [List.zipIdx_cons, List.foldl_cons, fill_over l (k + 1) _ (by simp at h ⊢; omega)]
    congr 1
    have hk : k < cs.toList.length := by simp at h ⊢; omega
    simp only [Array.toList_setIfInBounds]
    apply List.ext_getElem?
    intro j
    rw [List.getElem?_append, List.getElem?_append, List.getElem?_take, List.getElem?_take, List.getElem?_set]
    simp only [List.length_take, List.length_set]
    simp only [List.length_cons] at h
    rcases Nat.lt_trichotomy j k with h1 | h1 | h1
    · rw [if_pos (by omega), if_pos (by omega), if_neg (by omega), if_pos (by omega), if_pos (by omega)]
    · subst h1
      rw [if_pos (by omega), if_pos (by omega), if_pos rfl, if_pos hk, if_neg (by omega), show j - min j cs.toList.length = 0 by omega]
      rfl
    · rw [if_neg (by omega), if_neg (by omega), Nat.min_eq_left (by omega), Nat.min_eq_left (by omega), show j - k = (j - (k + 1)) + 1 by omega, List.getElem?_cons_succ]
theorem row_th (x : Thg) (w : World) : (Instr.buildSlice 58 1 #[(0, .agg (thCells x))]).run Tryd.prog w = .ok (.slice (some ⟨w.heap.size, 0, none⟩) 1 1) (w.alloc (.cells (thCells x) 68)) := by
  have hz := th_zero w
  have hs := th_size noT
  have hs2 := th_size x
  have hq := th_sizeOf w
  have hf : ∀ Z : Array Value, Array.foldl (fun cs (x : Value × Nat) => cs.setIfInBounds x.snd x.fst) (Array.map (fun x => Z[x % 257]!) (Array.range 257)) (thCells x).zipIdx 0 257 = thCells x := fun Z => by
    have h := fill_over (thCells x).toList 0 (Array.map (fun x => Z[x % 257]!) (Array.range 257)) (by simp [hs2])
    have e : (thCells x).zipIdx.size = 257 := by simp [hs2]
    rw [show (257 : Nat) = (thCells x).zipIdx.size from e.symm, ← Array.foldl_toList, Array.toList_zipIdx, e, h]
    simp
  unfold Instr.buildSlice
  rw [Sem.run_bind, run_underlying Tryd.underlying58]
  simp only [Result.andThen_ok]
  rw [Sem.run_bind, hq]
  simp [Instr.fill, Value.cells, hs2]
  rw [hf]
  simp [newRow]

/-! ### The operations, as a walk meets them -/
section
variable {ops : Array Oper} {rest : List Oper} {a : Act} {Q : Exit → Act → World → Prop} {w : World} {d : Tmp} {ty : TypeId} {pos : String} {after : Array Edge}
theorem step_build_no (h : wpList Tryd.prog ops Q rest (a.put (some d) (.agg (thCells noT))) w) :
    wpList Tryd.prog ops Q ({ dst := some d, op := .build 68 #[], type := ty, pos := pos, after := after, guard := none } :: rest) a w :=
  wpList_plain rfl fun _ hK => by
    unfold Oper.wp execOp
    simp only [List.map_toArray, List.map_nil, Sem.run_bind, build_no, Result.andThen_ok, Sem.run_pure]
    exact hK _ _ h
theorem step_build_star (h : wpList Tryd.prog ops Q rest (a.put (some d) (.agg (thCells starT))) w) :
    wpList Tryd.prog ops Q ({ dst := some d, op := .build 68 #[(0, .const (.bool true))], type := ty, pos := pos, after := after, guard := none } :: rest) a w :=
  wpList_plain rfl fun _ hK => by
    unfold Oper.wp execOp
    simp only [List.map_toArray, List.map_cons, List.map_nil, Sem.run_bind]
    rw [show a.eval (.const (.bool true)) = .bool true from rfl, build_star]
    exact hK _ _ h
theorem step_alloc_th (h : wpList Tryd.prog ops Q rest (a.put (some d) (.pointer (some ⟨w.heap.size, 0, none⟩))) (w.alloc (.cells (thCells noT) 68))) :
    wpList Tryd.prog ops Q ({ dst := some d, op := .alloc 68, type := ty, pos := pos, after := after, guard := none } :: rest) a w :=
  wpList_plain rfl fun _ hK => by
    unfold Oper.wp execOp
    simp only [Sem.run_bind, alloc_th, Result.andThen_ok, Sem.run_pure]
    exact hK _ _ h
theorem step_row_th {t : Operand} (x : Thg) (hx : a.eval t = .agg (thCells x)) (h : wpList Tryd.prog ops Q rest (a.put (some d) (.slice (some ⟨w.heap.size, 0, none⟩) 1 1)) (w.alloc (.cells (thCells x) 68))) :
    wpList Tryd.prog ops Q ({ dst := some d, op := .buildSlice 58 1 #[(0, t)], type := ty, pos := pos, after := after, guard := none } :: rest) a w :=
  wpList_plain rfl fun _ hK => by
    unfold Oper.wp execOp
    simp only [List.map_toArray, List.map_cons, List.map_nil, Sem.run_bind, hx, row_th, Result.andThen_ok, Sem.run_pure]
    exact hK _ _ h
theorem step_store_th {p t : Operand} (b : Nat) (x : Thg) (cs : Array Value) (hp : a.eval p = .pointer (some ⟨b, 0, none⟩)) (hx : a.eval t = .agg (thCells x)) (hb : Blk w b 68 cs) (hs : cs.size = 257)
    (h : wpList Tryd.prog ops Q rest (a.put none undef) (w.setRow b (thCells x))) :
    wpList Tryd.prog ops Q ({ dst := none, op := .store 68 p t, type := ty, pos := pos, after := after, guard := none } :: rest) a w :=
  wpList_plain rfl fun _ hK => by
    have hr := run_storeVar_row (P := Tryd.prog) w b 68 68 cs (thCells x) hb (by rw [th_sz, th_size]) (by rw [hs, th_size]) (th_all x)
    unfold Oper.wp execOp
    simp only [Sem.run_bind, Instr.storeAt, Instr.sureAddr, hp, hx, Sem.run_pure, Result.andThen_ok, hr]
    exact hK _ _ h
/-- Into the block that was made last. -/
theorem step_store_new {p t : Operand} (x : Thg) (cs : Array Value) (hp : a.eval p = .pointer (some ⟨w.heap.size, 0, none⟩)) (hx : a.eval t = .agg (thCells x)) (hs : cs.size = 257)
    (h : wpList Tryd.prog ops Q rest (a.put none undef) (w.alloc (.cells (thCells x) 68))) :
    wpList Tryd.prog ops Q ({ dst := none, op := .store 68 p t, type := ty, pos := pos, after := after, guard := none } :: rest) a (w.alloc (.cells cs 68)) := by
  refine step_store_th w.heap.size x cs hp hx (Blk.new w _ _) hs ?_
  rw [World.setRow_alloc_new]
  exact h
theorem step_load_th {p : Operand} (b : Nat) (x : Thg) (hp : a.eval p = .pointer (some ⟨b, 0, none⟩)) (hb : Blk w b 68 (thCells x)) (h : wpList Tryd.prog ops Q rest (a.put (some d) (.agg (thCells x))) w) :
    wpList Tryd.prog ops Q ({ dst := some d, op := .load 68 p, type := ty, pos := pos, after := after, guard := none } :: rest) a w :=
  wpList_plain rfl fun _ hK => by
    have hr := run_loadVar_row (P := Tryd.prog) w b 68 68 (thCells x) (0, 0) _ hb Tryd.underlying68 rfl (by rw [th_sz, th_size])
    unfold Oper.wp execOp
    simp only [Sem.run_bind, Instr.loadAt, Instr.sureAddr, hp, Sem.run_pure, Result.andThen_ok, hr]
    exact hK _ _ h
end
/-- A thing that is told out of its block. -/
theorem results_th {fn : Func} {t : Tmp} (hres : fn.results = #[.cell t 68]) {tmps : Array Value} {W : World} {q : Nat} {x : Thg} (ht : tmps.getD t undef = .pointer (some ⟨q, 0, none⟩)) (h : Blk W q 68 (thCells x)) :
    (results fn tmps).run Tryd.prog W = .ok (.agg (thCells x)) W := by
  have hr := run_loadVar_row (P := Tryd.prog) W q 68 68 (thCells x) (0, 0) _ h Tryd.underlying68 rfl (by rw [th_sz, th_size])
  simp [results, hres]
  rw [← Array.getD_eq_getD_getElem?, ht]
  simp [asAddr, hr]
end Go.Proofs.YtcipljpalohjiaaDoor
