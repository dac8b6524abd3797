/-
  A variable that holds a growing list of turns, whose bytes lie in blocks of bytes that stay.
  Conditions: none.
-/
import Derived.Test.YtchfiiiippnigaaTnSeq
import Derived.Test.YtchfiiiippnigaaTnROf
namespace Go.Proofs.Ytchfiiiippnigaa
open Go.RowKit Go.Shelf

/-- A row of bytes as the bytes of an event. -/
def R1.ev (r : R1) : Ev := ⟨0, 0, r.A, r.c, r.l⟩
/-- The cells of turns. -/
def tcs (l : List TE) : List Value := l.flatMap fun x => [x.a.val, x.b.val]
theorem tcs_len (l : List TE) : (tcs l).length = l.length * 2 := by
  induction l with
  | nil => rfl
  | cons a l ih => rw [show tcs (a :: l) = [a.a.val, a.b.val] ++ tcs l from rfl, List.length_append, ih]; simp; omega
theorem tcs_snoc (l : List TE) (x : TE) : tcs (l ++ [x]) = tcs l ++ [x.a.val, x.b.val] := by simp [tcs]
theorem tcs_at {l : List TE} {j : Nat} {x : TE} (h : l[j]? = some x) : (tcs l)[j * 2]? = some x.a.val ∧ (tcs l)[j * 2 + 1]? = some x.b.val := by
  induction l generalizing j with
  | nil => simp at h
  | cons a l ih =>
    have e : tcs (a :: l) = a.a.val :: a.b.val :: tcs l := rfl
    cases j with
    | zero => simp at h; subst h; rw [e]; exact ⟨rfl, rfl⟩
    | succ j =>
      have h1 := ih (j := j) (by simpa using h)
      rw [e, show (j + 1) * 2 = j * 2 + 1 + 1 by omega]
      exact ⟨h1.1, h1.2⟩

/-- A list of turns in a row of its own, in blocks of T, its bytes in such blocks of bytes. -/
structure TL (T : Nat → Prop) (W : World) (g : Option Nat) (v : Value) (l : List TE) : Prop where
  row : RowS W 33 2 g v l.length (tcs l)
  fresh : ∀ b, g = some b → T b
  ok : ∀ x ∈ l, EvOk (fun b => False ∨ (T b ∧ ∃ cs, W.heap[b]? = some (.cells cs 5 (0, 0)))) W x.a.ev ∧ EvOk (fun b => False ∨ (T b ∧ ∃ cs, W.heap[b]? = some (.cells cs 5 (0, 0)))) W x.b.ev
section
variable {T : Nat → Prop} {W W' : World} {g g' : Option Nat} {v v' : Value} {l : List TE}
theorem TL.nil (T : Nat → Prop) (W : World) : TL T W none (.slice none 0 0) [] := ⟨RowS.nil W _ _, by simp, by simp⟩
theorem TL.keep (h : TL T W g v l) (hk : ∀ b, b < W.heap.size → (T b ∧ ∃ cs t, (t = 5 ∨ t = 33) ∧ W.heap[b]? = some (.cells cs t (0, 0))) → W'.heap[b]? = W.heap[b]?) : TL T W' g v l :=
  ⟨h.row.keep fun b e => hk b (h.row.lt e) ⟨h.fresh b e, by obtain ⟨cs, hc⟩ := h.row.obj e; exact ⟨cs, _, .inr rfl, hc⟩⟩, h.fresh, fun x hx =>
    ⟨(h.ok x hx).1.tkeep fun b hb hlt => hk b hlt (hb.elim False.elim fun ⟨hT, cs, hc⟩ => ⟨hT, cs, _, .inl rfl, hc⟩), (h.ok x hx).2.tkeep fun b hb hlt => hk b hlt (hb.elim False.elim fun ⟨hT, cs, hc⟩ => ⟨hT, cs, _, .inl rfl, hc⟩)⟩⟩
theorem TL.below (h : TL T W g v l) (hb : Below W.heap.size W W') : TL T W' g v l := h.keep fun b hlt _ => hb.block b hlt
theorem TL.alloc (h : TL T W g v l) (o : Obj) : TL T (W.alloc o) g v l := h.below ((Below.refl _ W).alloc (Nat.le_refl _) _)
theorem TL.form (h : TL T W g v l) : ∃ A c, v = .slice A l.length c ∧ l.length ≤ c := h.row.form
/-- Behind an append of one turn. -/
theorem TL.snoc {x : TE} (h : TL T W g v l) (ha : EvOk (fun b => False ∨ (T b ∧ ∃ cs, W.heap[b]? = some (.cells cs 5 (0, 0)))) W x.a.ev ∧ EvOk (fun b => False ∨ (T b ∧ ∃ cs, W.heap[b]? = some (.cells cs 5 (0, 0)))) W x.b.ev)
    (hr : RowS W' 33 2 g' v' (l.length + 1) (tcs l ++ [x.a.val, x.b.val])) (hg : W.grownBy W' g) (hg' : g' = g ∨ g' = some W.heap.size) (hT : T W.heap.size) : TL T W' g' v' (l ++ [x]) := by
  have hk : ∀ b, (False ∨ (T b ∧ ∃ cs, W.heap[b]? = some (.cells cs 5 (0, 0)))) → b < W.heap.size → W'.heap[b]? = W.heap[b]? := by
    intro b hb hlt
    refine hg.block b hlt fun e => ?_
    obtain ⟨cs', hh⟩ := h.row.obj e.symm
    rcases hb with hb | ⟨_, cs, hb⟩
    · exact hb.elim
    · rw [hh] at hb
      injection hb with hb
      injection hb with _ hb
      cases hb
  refine ⟨by rw [tcs_snoc, List.length_append]; exact hr, ?_, fun y hy => ?_⟩
  · rcases hg' with rfl | rfl
    · exact h.fresh
    · intro b e; cases e; exact hT
  · rcases List.mem_append.1 hy with hy | hy
    · exact ⟨(h.ok y hy).1.tkeep hk, (h.ok y hy).2.tkeep hk⟩
    · rw [List.mem_singleton.1 hy]; exact ⟨ha.1.tkeep hk, ha.2.tkeep hk⟩
theorem rdT_of_ok {S : Nat → Prop} {r : R1} (h : EvOk S W r.ev) : RdT S W (.slice r.A r.l.length r.c) (bv r.l) := by
  refine ⟨h.rd, fun b o n c e hp => ?_⟩
  injection e with e1
  have hp' : 0 < r.l.length := by rw [bv_len] at hp; exact hp
  exact h.inn hp' ⟨b, o, none⟩ e1
theorem TL.tns (h : TL T W g v l) {S : Nat → Prop} (hS : ∀ b, T b → S b) : TnsIn S W v (l.map TE.tn) := by
  obtain ⟨A, c, rfl, hle⟩ := h.row.form
  refine ⟨A, c, by rw [List.length_map], by rw [List.length_map]; exact hle, fun hp => ?_⟩
  rw [List.length_map] at hp
  obtain ⟨b, o, c', e, hg, _, hx⟩ := h.row.cells hp
  injection e with e1 e2 e3
  refine ⟨b, o, e1, hS b (h.fresh b hg), fun j x hj => ?_⟩
  rw [List.getElem?_map] at hj
  obtain ⟨y, hy, rfl⟩ := Option.map_eq_some_iff.1 hj
  obtain ⟨z1, z2⟩ := tcs_at hy
  have hm := List.mem_of_getElem? hy
  exact ⟨y.a.A, y.a.c, y.b.A, y.b.c, hx _ _ z1, by rw [Nat.add_assoc]; exact hx _ _ z2, (rdT_of_ok (h.ok y hm).1).mono fun b hb => hb.elim False.elim fun hb => hS b hb.1, (rdT_of_ok (h.ok y hm).2).mono fun b hb => hb.elim False.elim fun hb => hS b hb.1⟩
end
/-- A variable that holds such a list. -/
def ListT (w : World) (S : Nat → Prop) (Bo : Nat) (ts : List Tn) (W : World) : Prop :=
  ∃ v g l, l.map TE.tn = ts ∧ Blk W Bo 24 #[v] ∧ TL (fun b => w.heap.size ≤ b ∧ ¬ S b) W g v l ∧ Below w.heap.size w W ∧ ∀ b, S b → b < W.heap.size
theorem ListT.own {β : Type} (w : World) (S : Nat → Prop) (Bo B : Nat) (f : β → List Tn) (hB : w.heap.size ≤ B) : OwnFrom B (fun pre W => ListT w S Bo (f pre) W) := by
  rintro s W W' row ⟨v, g, l, hp, hb, hl, hbel, hlt⟩ hg hrow
  refine ⟨v, g, l, hp, hb.keep (cells_kept hg hrow hb), hl.keep (fun b hbl hh => ?_), hbel.grown hg hbel.size (fun k e => by have := (hrow k e).1; omega), fun b e => Nat.lt_of_lt_of_le (hlt b e) hg.size⟩
  obtain ⟨_, cs, t, _, hc⟩ := hh
  exact cells_kept hg hrow hc
/-- Behind an append of a turn whose bytes were made since, or lay. -/
theorem ListT.step {w W w2 w3 : World} {S : Nat → Prop} {Bo : Nat} {g g' : Option Nat} {v V : Value} {l : List TE} {x : TE} (hb : Blk W Bo 24 #[v]) (hl : TL (fun b => w.heap.size ≤ b ∧ ¬ S b) W g v l) (hbel : Below w.heap.size w W) (hlt : ∀ b, S b → b < W.heap.size)
    (hnS : ¬ S Bo) (hBw : w.heap.size ≤ Bo)
    (ha : EvOk (fun b => False ∨ ((w.heap.size ≤ b ∧ ¬ S b) ∧ ∃ cs, W.heap[b]? = some (.cells cs 5 (0, 0)))) W x.a.ev ∧ EvOk (fun b => False ∨ ((w.heap.size ≤ b ∧ ¬ S b) ∧ ∃ cs, W.heap[b]? = some (.cells cs 5 (0, 0)))) W x.b.ev) {tmp : Obj} (h2 : w2 = W.alloc tmp)
    (hr : RowS w3 33 2 g' V (l.length + 1) (tcs l ++ [x.a.val, x.b.val])) (hg : w2.grownBy w3 g) (hg' : g' = g ∨ g' = some w2.heap.size) :
    KeepsOthers W (w3.setCell ⟨Bo, 0, none⟩ V) ∧ Kept S W (w3.setCell ⟨Bo, 0, none⟩ V) ∧ ListT w S Bo (l.map TE.tn ++ [x.tn]) (w3.setCell ⟨Bo, 0, none⟩ V) := by
  have hb2 : Below W.heap.size W w2 := by rw [h2]; exact (Below.refl _ W).alloc (Nat.le_refl _) _
  have hbo2 : Blk w2 Bo 24 #[v] := hb.below hb2 hb.lt
  have hl2 := hl.below hb2
  have hne : g ≠ some Bo := hl2.row.ne_ hbo2 (by decide)
  have hbo3 : Blk w3 Bo 24 #[v] := hbo2.keep (hg.block _ hbo2.lt (Ne.symm hne))
  have hT : ∀ {b : Nat}, W.heap.size ≤ b → (w.heap.size ≤ b ∧ ¬ S b) := fun {b} hle => ⟨Nat.le_trans hbel.size hle, fun h => by have := hlt _ h; omega⟩
  have hk2 : ∀ b, (False ∨ ((w.heap.size ≤ b ∧ ¬ S b) ∧ ∃ cs, W.heap[b]? = some (.cells cs 5 (0, 0)))) → b < W.heap.size → w2.heap[b]? = W.heap[b]? := fun b _ hlt => hb2.block b hlt
  have hl3 := hl2.snoc ⟨ha.1.tkeep hk2, ha.2.tkeep hk2⟩ hr hg hg' (hT hb2.size)
  have hne' : g' ≠ some Bo := hl3.row.ne_ hbo3 (by decide)
  have hkg : ∀ b, S b → w3.heap[b]? = W.heap[b]? := fun b e => (hg.block b (Nat.lt_of_lt_of_le (hlt b e) hb2.size) (fun e' => (hl.fresh b e'.symm).2 e)).trans (hb2.block b (hlt b e))
  refine ⟨?_, ?_, V, g', l ++ [x], by simp, ?_, ?_, ?_, ?_⟩
  · refine ((?_ : KeepsOthers W w2).trans (KeepsOthers.of_grownBy hg fun j o ej hj => ?_)).trans (KeepsOthers.setCell _ _ _)
    · exact ⟨hb2.size, fun k o hk _ => (hb2.block k (lt_of_heap hk)).trans hk⟩
    · obtain ⟨cs, hh⟩ := hl2.row.obj ej
      rw [hh] at hj; cases hj; rfl
  · exact fun b e => (Below.heap_setCell w3 _ V b (by rintro rfl; exact hnS e)).trans (hkg b e)
  · have := hbo3.set_ 0 V; simpa using this
  · refine hl3.keep fun b hbl hh => Below.heap_setCell w3 _ V b ?_
    intro e
    have e' : b = Bo := e
    rw [e'] at hh
    obtain ⟨_, cs, t, ht, hc⟩ := hh
    refine Blk.ne_ (t := t) (t' := 24) hc hbo3 ?_ rfl
    rcases ht with rfl | rfl <;> decide
  · exact ((hbel.trans (hb2.mono hbel.size)).grown hg (Nat.le_trans hbel.size hb2.size) (fun k e => (hl.fresh k e).1)).setCell (p := ⟨Bo, 0, none⟩) hBw V
  · intro b e
    have h1 := hlt b e
    have h2 := hb2.size
    have h3 := hg.size
    simp [World.setCell] at h2 h3 ⊢
    omega
end Go.Proofs.Ytchfiiiippnigaa
