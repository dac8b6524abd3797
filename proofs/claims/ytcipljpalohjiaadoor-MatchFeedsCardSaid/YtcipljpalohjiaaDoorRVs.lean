/-
  A row of rows of values, each in a block of its own, all apart: what a row more, what values more in one of its rows make of it; over no program.
  Conditions: the outer row's type isn't that of the inner ones.
-/
import Derived.Test.YtcipljpalohjiaaDoorRowS
namespace Go.Proofs.YtcipljpalohjiaaDoor
open Go.RowKit

theorem Row.objV {w : World} {e : TypeId} {g : Option Nat} {v : Value} {xs : List Value} (h : Row w e g v xs) {b : Nat} (hb : g = some b) : ∃ cs, w.heap[b]? = some (.cells cs e (0, 0)) := by
  obtain ⟨A, c, rfl, _, _, _, hg⟩ := h
  rcases hg with ⟨_, rfl⟩ | ⟨b', o, cs, _, rfl, _, hh, _⟩
  · cases hb
  · cases hb; exact ⟨cs, hh⟩
/-- A new slice of one value. -/
theorem Rd.single (W : World) (e : TypeId) (u : Value) (h : u.oneCell' = true) : Rd (W.alloc (.cells #[u] e)) (.slice (some ⟨W.heap.size, 0, none⟩) 1 1) [u] := (Row.new W e #[u] 1 rfl (by simp only [maxLen]; omega) (by omega) (by simpa using h)).rd
/-- A row of values: its slice, its values, its block. -/
structure V1 where
  A : Option Addr
  c : Nat
  l : List Value
  g : Option Nat
def V1.val (r : V1) : Value := .slice r.A r.l.length r.c
def V1.none : V1 := ⟨Option.none, 0, [], Option.none⟩

structure RV (te e : TypeId) (s n0 : Nat) (W : World) (g : Option Nat) (v : Value) (n : Nat) (rr : List V1) : Prop where
  row : RowS W e s g v n (rr.map V1.val)
  fresh : ∀ b, g = some b → n0 ≤ b
  own : ∀ r ∈ rr, Row W te r.g r.val (r.l) ∧ ∀ b, r.g = some b → n0 ≤ b
  apart : ∀ (i j : Nat) (r q : V1), rr[i]? = some r → rr[j]? = some q → i ≠ j → ∀ b, r.g = some b → q.g ≠ some b

section
variable {te e : TypeId} {s n0 n : Nat} {W W' : World} {g g' : Option Nat} {v v' : Value} {rr : List V1}
theorem RV.nil (te e : TypeId) (s n0 : Nat) (W : World) : RV te e s n0 W Option.none (.slice Option.none 0 0) 0 [] := ⟨RowS.nil W _ _, by simp, by simp, by simp⟩
theorem RV.len (h : RV te e s n0 W g v n rr) : rr.length = n * s := by have := h.row.len; rwa [List.length_map] at this
theorem RV.form (h : RV te e s n0 W g v n rr) : ∃ A c, v = .slice A n c ∧ n ≤ c := h.row.form
theorem RV.keep (h : RV te e s n0 W g v n rr) (hk : ∀ b, b < W.heap.size → n0 ≤ b → W'.heap[b]? = W.heap[b]?) : RV te e s n0 W' g v n rr :=
  ⟨h.row.keep fun b e => hk b (h.row.lt e) (h.fresh b e), h.fresh, fun r hr => ⟨(h.own r hr).1.keep fun b e => hk b ((h.own r hr).1.lt e) ((h.own r hr).2 b e), (h.own r hr).2⟩, h.apart⟩
theorem RV.below (h : RV te e s n0 W g v n rr) (hb : Below W.heap.size W W') : RV te e s n0 W' g v n rr := h.keep fun b hl _ => hb.block b hl
theorem RV.alloc (h : RV te e s n0 W g v n rr) (o : Obj) : RV te e s n0 (W.alloc o) g v n rr := h.below ((Below.refl _ W).alloc (Nat.le_refl _) _)
theorem RV.drew (h : RV te e s n0 W g v n rr) : RV te e s n0 W.drew g v n rr := h.below ⟨rfl, rfl, rfl, Nat.le_refl _, fun _ _ => rfl⟩
theorem RV.drewN (h : RV te e s n0 W g v n rr) (k : Nat) : RV te e s n0 (W.drewN k) g v n rr := h.below ⟨rfl, rfl, rfl, Nat.le_refl _, fun _ _ => rfl⟩
/-- A row of bytes and the row of structs never share a block. -/
theorem RV.ne_g (he : te ≠ e) (h : RowS W e s g v n (rr.map V1.val)) {r : V1} (hr : Row W te r.g r.val (r.l)) {b : Nat} (e1 : r.g = some b) : g ≠ some b := by
  intro e2
  obtain ⟨cs, h1⟩ := hr.objV e1
  obtain ⟨cs', h2⟩ := h.obj e2
  have h1' : W.heap[b]? = some (.cells cs te (0, 0)) := h1
  rw [h2] at h1'
  injection h1' with h1'
  injection h1' with _ h1'
  exact he h1'.symm

/-- A struct more, of rows that lie apart from the others. -/
theorem RV.snoc (he : te ≠ e) {qs : List V1} (h : RV te e s n0 W g v n rr) (hq : ∀ r ∈ qs, Row W te r.g r.val (r.l) ∧ ∀ b, r.g = some b → n0 ≤ b)
    (hap : ∀ (i j : Nat) (r q : V1), qs[i]? = some r → qs[j]? = some q → i ≠ j → ∀ b, r.g = some b → q.g ≠ some b) (hnew : ∀ r ∈ rr, ∀ q ∈ qs, ∀ b, r.g = some b → q.g ≠ some b)
    (hr : RowS W' e s g' v' (n + 1) (rr.map V1.val ++ qs.map V1.val)) (hg : W.grownBy W' g) (hg' : g' = g ∨ g' = some W.heap.size) (hn : n0 ≤ W.heap.size) : RV te e s n0 W' g' v' (n + 1) (rr ++ qs) := by
  have hk : ∀ r : V1, Row W te r.g r.val (r.l) → Row W' te r.g r.val (r.l) := fun r hr => hr.keep fun b e => hg.block b (hr.lt e) fun e' => RV.ne_g he h.row hr e e'.symm
  refine ⟨by rw [List.map_append]; exact hr, ?_, fun r hr => ?_, fun i j r q hi hj hij => ?_⟩
  · rcases hg' with rfl | rfl
    · exact h.fresh
    · intro b e; cases e; exact hn
  · rcases List.mem_append.1 hr with hr | hr
    · exact ⟨hk r (h.own r hr).1, (h.own r hr).2⟩
    · exact ⟨hk r (hq r hr).1, (hq r hr).2⟩
  · have one : ∀ (i : Nat) (x : V1), (rr ++ qs)[i]? = some x → (i < rr.length ∧ rr[i]? = some x) ∨ (rr.length ≤ i ∧ qs[i - rr.length]? = some x) := by
      intro i x hx
      rcases Nat.lt_or_ge i rr.length with hi | hi
      · rw [List.getElem?_append_left hi] at hx; exact .inl ⟨hi, hx⟩
      · rw [List.getElem?_append_right hi] at hx; exact .inr ⟨hi, hx⟩
    rcases one i r hi with ⟨h1, h2⟩ | ⟨h1, h2⟩
    · rcases one j q hj with ⟨h3, h4⟩ | ⟨h3, h4⟩
      · exact h.apart i j r q h2 h4 hij
      · exact hnew r (List.mem_of_getElem? h2) q (List.mem_of_getElem? h4)
    · rcases one j q hj with ⟨h3, h4⟩ | ⟨h3, h4⟩
      · exact fun b e1 e2 => hnew q (List.mem_of_getElem? h4) r (List.mem_of_getElem? h2) b e2 e1
      · exact hap _ _ r q h2 h4 (by omega)
/-- A struct more, all its rows empty. -/
theorem RV.push (he : te ≠ e) (h : RV te e s n0 W g v n rr) (k : Nat) (hr : RowS W' e s g' v' (n + 1) (rr.map V1.val ++ (List.replicate k V1.none).map V1.val)) (hg : W.grownBy W' g) (hg' : g' = g ∨ g' = some W.heap.size) (hn : n0 ≤ W.heap.size) : RV te e s n0 W' g' v' (n + 1) (rr ++ List.replicate k V1.none) := by
  have hz : ∀ r ∈ List.replicate k V1.none, r = V1.none := fun r hr => List.eq_of_mem_replicate hr
  refine h.snoc he (fun r hr => ?_) (fun i j r q hi hj _ b e1 => ?_) (fun r hr q hq b e1 e2 => ?_) hr hg hg' hn
  · rw [hz r hr]; exact ⟨Row.nil W _, fun b e => by cases e⟩
  · rw [hz r (List.mem_of_getElem? hi)] at e1; cases e1
  · rw [hz q hq] at e2; cases e2

/-- Bytes more in one of the rows. -/
theorem RV.grow (he : te ≠ e) {bm o cm i : Nat} {r : V1} {A' : Option Addr} {c' : Nat} {gb' : Option Nat} {ds : List Value} {w1 : World} (h : RV te e s n0 W g (.slice (some ⟨bm, o, Option.none⟩) n cm) n rr) (hi : rr[i]? = some r)
    (hr : Row w1 te gb' (.slice A' (r.l.length + ds.length) c') (r.l ++ ds)) (hgr : W.grownBy w1 r.g) (hg' : gb' = r.g ∨ gb' = some W.heap.size) (hn : n0 ≤ W.heap.size) :
    RV te e s n0 (w1.setCell ⟨bm, o + i, Option.none⟩ (.slice A' (r.l.length + ds.length) c')) g (.slice (some ⟨bm, o, Option.none⟩) n cm) n (rr.set i ⟨A', c', r.l ++ ds, gb'⟩) ∧
      w1.cell? ⟨bm, o + i, Option.none⟩ = some r.val ∧ w1.frozen? ⟨bm, o + i, Option.none⟩ = false ∧ g = some bm := by
  have hil := (List.getElem?_eq_some_iff.1 hi).1
  have hmem := List.mem_of_getElem? hi
  obtain ⟨hrow0, hfr0⟩ := h.own r hmem
  have hrow := h.row
  have hnp : 0 < n := by
    rcases Nat.eq_zero_or_pos n with h0 | h0
    · have := h.len; rw [h0, Nat.zero_mul] at this; omega
    · exact h0
  have hgbm : g = some bm := by
    obtain ⟨b1, o1, c1, e1, hg, _⟩ := hrow.cells hnp
    injection e1 with e1
    cases e1
    exact hg
  have hrow1 : RowS w1 e s g (.slice (some ⟨bm, o, Option.none⟩) n cm) n (rr.map V1.val) := hrow.keep fun k e1 => hgr.block k (hrow.lt e1) fun e2 => RV.ne_g he hrow hrow0 e2.symm e1
  have hkk : i < (rr.map V1.val).length := by rw [List.length_map]; exact hil
  obtain ⟨hset, hgs, hfz⟩ := hrow1.set_ hkk (u := .slice A' (r.l.length + ds.length) c') rfl
  have hcell : w1.cell? ⟨bm, o + i, Option.none⟩ = some r.val := by
    obtain ⟨b1, o1, c1, e1, _, _, hx⟩ := hrow1.cells hnp
    injection e1 with e1
    cases e1
    exact hx i _ (by rw [List.getElem?_map, hi]; rfl)
  have hnew : Row (w1.setCell ⟨bm, o + i, Option.none⟩ (.slice A' (r.l.length + ds.length) c')) te gb' (.slice A' (r.l ++ ds).length c') ((r.l ++ ds)) := by
    have h1 : Row w1 te gb' (.slice A' (r.l ++ ds).length c') ((r.l ++ ds)) := by rw [List.length_append]; exact hr
    refine h1.far (p := ⟨bm, o + i, Option.none⟩) (fun e1 => ?_) _
    obtain ⟨cs, h2⟩ := h1.objV e1
    obtain ⟨cs', h3⟩ := hrow1.obj hgbm
    have h2' : w1.heap[bm]? = some (.cells cs te (0, 0)) := h2
    rw [h3] at h2'
    injection h2' with h2'
    injection h2' with _ h2'
    exact he h2'.symm
  have hfrn : ∀ b, gb' = some b → n0 ≤ b := by
    intro b e1
    rcases hg' with e2 | e2
    · exact hfr0 b (by rw [← e2, e1])
    · rw [e1] at e2; cases e2; exact hn
  -- another row keeps its block, and has none of the grown one
  have hold : ∀ j q, rr[j]? = some q → j ≠ i → Row (w1.setCell ⟨bm, o + i, Option.none⟩ (.slice A' (r.l.length + ds.length) c')) te q.g q.val (q.l) ∧ ∀ b, q.g = some b → gb' ≠ some b := by
    intro j q hj hji
    obtain ⟨hq, hqf⟩ := h.own q (List.mem_of_getElem? hj)
    have hne : ∀ b, q.g = some b → r.g ≠ some b := h.apart j i q r hj hi hji
    refine ⟨hq.keep fun k e1 => (Below.heap_setCell w1 _ _ k ?_).trans (hgr.block k (hq.lt e1) fun e2 => hne k e1 e2.symm), fun b e1 e2 => ?_⟩
    · intro e2
      have e2' : k = bm := e2
      exact RV.ne_g he hrow hq e1 (by rw [hgbm, e2'])
    · rcases hg' with e3 | e3
      · exact hne b e1 (by rw [← e3, e2])
      · rw [e2] at e3; cases e3; have := hq.lt e1; omega
  refine ⟨⟨?_, h.fresh, fun x hx => ?_, fun j k x y hx hy hjk => ?_⟩, hcell, hfz, hgbm⟩
  · rw [List.map_set]
    have : (V1.val ⟨A', c', r.l ++ ds, gb'⟩) = .slice A' (r.l.length + ds.length) c' := by simp [V1.val]
    rw [this]; exact hset
  · obtain ⟨j, hj⟩ := List.mem_iff_getElem?.1 hx
    rw [List.getElem?_set] at hj
    by_cases h1 : i = j
    · rw [if_pos h1, if_pos hil] at hj
      cases hj
      exact ⟨hnew, hfrn⟩
    · rw [if_neg h1] at hj
      exact ⟨(hold j x hj (by omega)).1, (h.own x (List.mem_of_getElem? hj)).2⟩
  · rw [List.getElem?_set] at hx hy
    by_cases h1 : i = j
    · rw [if_pos h1, if_pos hil] at hx
      cases hx
      rw [if_neg (by omega)] at hy
      exact fun b e1 e2 => (hold k y hy (by omega)).2 b e2 e1
    · rw [if_neg h1] at hx
      by_cases h2 : i = k
      · rw [if_pos h2, if_pos hil] at hy
        cases hy
        exact (hold j x hx (by omega)).2
      · rw [if_neg h2] at hy
        exact h.apart j k x y hx hy hjk
end
end Go.Proofs.YtcipljpalohjiaaDoor
