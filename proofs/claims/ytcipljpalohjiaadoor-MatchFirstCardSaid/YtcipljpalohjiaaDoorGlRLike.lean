/-
  The document's Like.
  Conditions: a text of at most 140737488355328 bytes.
-/
import Derived.Test.YtcipljpalohjiaaDoorGlRTh
import Derived.Laws.MakeOwn
namespace Go.Proofs.YtcipljpalohjiaaDoor
open Go.RowKit

/-- Bools side by side. -/
def bz (n : Nat) (f : Nat → Bool) : Array Value := ((List.range n).map fun i => Value.bool (f i)).toArray
theorem bz_size (n : Nat) (f : Nat → Bool) : (bz n f).size = n := by simp [bz]
theorem bz_at {n i : Nat} (f : Nat → Bool) (h : i < n) : (bz n f)[i]? = some (.bool (f i)) := by simp [bz, h]
theorem bz_ext {n : Nat} {f g : Nat → Bool} (h : ∀ i, i < n → f i = g i) : bz n f = bz n g := by
  unfold bz
  congr 1
  apply List.map_congr_left
  intro i hi
  rw [h i (List.mem_range.1 hi)]
theorem bz_set (n i : Nat) (f : Nat → Bool) (b : Bool) : (bz n f).setIfInBounds i (.bool b) = bz n (fun j => if j = i then b else f j) := by
  apply Array.ext_getElem?
  intro j
  rw [Array.getElem?_setIfInBounds]
  by_cases hj : j < n
  · rw [bz_at _ hj]
    by_cases h : i = j
    · subst h; rw [if_pos rfl, if_pos (by rw [bz_size]; exact hj), bz_at _ hj, if_pos rfl]
    · rw [if_neg h, bz_at _ hj, if_neg (fun e => h e.symm)]
  · rw [Array.getElem?_eq_none (xs := bz n (fun j => if j = i then b else f j)) (by rw [bz_size]; omega)]
    split
    · rw [if_neg (by rw [bz_size]; omega)]
    · exact Array.getElem?_eq_none (by rw [bz_size]; omega)
theorem bz_made (n : Nat) : madeCells (Value.bool false).cells n = bz n (fun _ => false) := by
  apply Array.ext_getElem?
  intro j
  by_cases hj : j < n
  · rw [bz_at _ hj]
    simp [madeCells, hj, Value.cells, Nat.mod_one]
  · rw [Array.getElem?_eq_none (by rw [size_madeCells]; omega), Array.getElem?_eq_none (by rw [bz_size]; omega)]
theorem bool_info : (Tryd.prog.info? 4).map (fun i => (i.zero, i.size, i.bytes)) = some (some (.bool false), 1, 1) := by kernel_rfl
theorem made_bools {n : Nat} (hn : n ≤ 140737488355328) (W : World) : (Instr.makeSlice 110 (.int .i64 ((n : Int) + 1)) (.int .i64 ((n : Int) + 1))).run Tryd.prog W = .ok (.slice (some ⟨W.heap.size, 0, none⟩) (n + 1) (n + 1)) (W.alloc (.cells (bz (n + 1) (fun _ => false)) 4)) := by
  obtain ⟨i0, hi, hz0, hz1, hz2⟩ := info_parts bool_info
  have h := run_make (P := Tryd.prog) W 110 4 i0 (.bool false) Tryd.underlying110 hi hz0 .i64 .i64 ((n : Int) + 1) ((n : Int) + 1) (by omega) (by omega) (by rw [hz2]; omega) (by omega)
  rw [hz1, show ((n : Int) + 1).toNat = n + 1 by omega, Nat.mul_one, bz_made] at h
  exact h

/-- Things that are read. -/
def ThR (W : World) (v : Value) (l : List Thg) : Prop :=
  ∃ A c, v = .slice A l.length c ∧ ∀ k x, l[k]? = some x → ∃ b o, A = some ⟨b, o, none⟩ ∧ W.cell? ⟨b, o + k * 257, none⟩ = some (.bool x.any) ∧ ∀ j, j < 256 → W.cell? ⟨b, o + k * 257 + 1 + j, none⟩ = some (.bool (x.one j))
theorem ThI.reads {w0 W : World} {v : Value} {l : List Thg} (h : ThI w0 v l W) : ThR W v l := by
  obtain ⟨A, c, rfl⟩ := h.form
  exact ⟨A, c, rfl, fun k x hk => h.at_ hk⟩
theorem ThR.kept {W W' : World} {v : Value} {l : List Thg} (h : ThR W v l) (hb : Below W.heap.size W W') : ThR W' v l := by
  obtain ⟨A, c, rfl, hr⟩ := h
  refine ⟨A, c, rfl, fun k x hk => ?_⟩
  obtain ⟨b, o, e, h1, h2⟩ := hr k x hk
  have hlt := World.block_lt_of_cell? W _ h1
  exact ⟨b, o, e, (hb.cell (p := ⟨b, o + k * 257, none⟩) hlt).trans h1, fun j hj => (hb.cell (p := ⟨b, o + k * 257 + 1 + j, none⟩) hlt).trans (h2 j hj)⟩

/-- The row of what is so far. -/
structure LkSt (w W : World) (n q : Nat) (f : Nat → Bool) : Prop where
  below : Below w.heap.size w W
  new : w.heap.size ≤ q
  row : Blk W q 4 (bz (n + 1) f)
/-- Both rows. -/
structure Lk2 (w W : World) (n q : Nat) (f : Nat → Bool) (r : Nat) (g : Nat → Bool) : Prop where
  ok : LkSt w W n q f
  next : LkSt w W n r g
  ne : q ≠ r
section
variable {w W W' : World} {n q r : Nat} {f g : Nat → Bool}
theorem LkSt.cell (h : LkSt w W n q f) {i : Nat} (hi : i ≤ n) : W.cell? ⟨q, i, none⟩ = some (.bool (f i)) := (h.row.cell i).trans (bz_at f (by omega))
theorem LkSt.fz (h : LkSt w W n q f) (i : Nat) : W.frozen? ⟨q, i, none⟩ = false := h.row.frozen i
theorem LkSt.more (h : LkSt w W n q f) (hb : Below W.heap.size W W') : LkSt w W' n q f := ⟨h.below.trans (hb.mono h.below.size), h.new, h.row.below hb h.row.lt⟩
theorem LkSt.same (h : LkSt w W n q f) {f' : Nat → Bool} (hf : ∀ i, i ≤ n → f i = f' i) : LkSt w W n q f' := ⟨h.below, h.new, by rw [← bz_ext (fun i hi => hf i (by omega))]; exact h.row⟩
theorem LkSt.put (h : LkSt w W n q f) (i : Nat) (b : Bool) : LkSt w (W.setCell ⟨q, i, none⟩ (.bool b)) n q (fun j => if j = i then b else f j) :=
  ⟨h.below.trans ⟨rfl, rfl, rfl, by simp [World.setCell], fun k hk => Below.heap_setCell _ _ _ k (by have := h.new; show k ≠ q; omega)⟩, h.new, by rw [← bz_set]; exact h.row.set_ i _⟩
theorem LkSt.far (h : LkSt w W n q f) (hne : q ≠ r) (hr : w.heap.size ≤ r) (i : Nat) (b : Bool) : LkSt w (W.setCell ⟨r, i, none⟩ (.bool b)) n q f :=
  ⟨h.below.trans ⟨rfl, rfl, rfl, by simp [World.setCell], fun k hk => Below.heap_setCell _ _ _ k (by show k ≠ r; omega)⟩, h.new, h.row.far hne _⟩
theorem LkSt.first (w : World) (n : Nat) : LkSt w (w.alloc (.cells ((bz (n + 1) (fun _ => false)).setIfInBounds 0 (.bool true)) 4)) n w.heap.size (fun j => if j = 0 then true else false) :=
  ⟨(Below.refl _ w).alloc (Nat.le_refl _) _, Nat.le_refl _, by rw [← bz_set]; exact Blk.new w _ _⟩
theorem Lk2.made (h : LkSt w W n q f) : Lk2 w (W.alloc (.cells (bz (n + 1) (fun _ => false)) 4)) n q f W.heap.size (fun _ => false) :=
  ⟨h.more ((Below.refl _ W).alloc (Nat.le_refl _) _), ⟨h.below.alloc h.below.size _, h.below.size, Blk.new W _ _⟩, by have := h.row.lt; omega⟩
theorem Lk2.put (h : Lk2 w W n q f r g) (i : Nat) (b : Bool) : Lk2 w (W.setCell ⟨r, i, none⟩ (.bool b)) n q f r (fun j => if j = i then b else g j) :=
  ⟨h.ok.far h.ne h.next.new i b, h.next.put i b, h.ne⟩
end
theorem like_start (t : List Nat) {i : Nat} (hi : i ≤ t.length) : (if i = 0 then true else false) = likeS ([] : List Thg) (t.take i) := by
  rw [Bool.eq_iff_iff, like_nil, List.take_eq_nil_iff]
  constructor
  · intro h; left; simpa using h
  · rintro (h | h)
    · simp [h]
    · subst h; simp at hi; simp [hi]
end Go.Proofs.YtcipljpalohjiaaDoor
