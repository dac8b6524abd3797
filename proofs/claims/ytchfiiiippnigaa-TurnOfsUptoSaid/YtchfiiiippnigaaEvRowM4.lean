/-
  A list of merged events: in a row of its own, each one's bytes in a row of its own, all apart (MR); what an append makes of it.
  Conditions: none.
-/
import Derived.Test.YtchfiiiippnigaaEvKept
import Derived.Deep.RegionLaw
namespace Go.Proofs.Ytchfiiiippnigaa
open Go.RowKit

/-- The block of an event's bytes. -/
def Ev.blk (a : Ev) : Option Nat := a.A.map Addr.block

/-- An event whose bytes lie in a row of their own, since n0. -/
structure Own1 (n0 : Nat) (W : World) (a : Ev) : Prop where
  row : Row W 5 a.blk (.slice a.A a.data.length a.c) (bv a.data)
  fresh : ∀ b, a.blk = some b → n0 ≤ b
  some_ : a.data ≠ []
  byte : ∀ d ∈ a.data, d < 256
  max : a.data.length ≤ 9223372036854775807

structure MR (n0 : Nat) (W : World) (g : Option Nat) (v : Value) (l : List Ev) : Prop where
  row : RowS W 44 3 g v l.length (evcs l)
  fresh : ∀ b, g = some b → n0 ≤ b
  own : ∀ a ∈ l, Own1 n0 W a
  apart : ∀ (i j : Nat) (a b : Ev), l[i]? = some a → l[j]? = some b → i ≠ j → a.blk ≠ b.blk

section
variable {n0 : Nat} {W W' : World} {g g' : Option Nat} {v v' : Value} {l : List Ev} {a : Ev}

theorem Row.blk_ {e : TypeId} {A : Option Addr} {n c : Nat} {xs : List Value} (h : Row W e g (.slice A n c) xs) (hp : 0 < xs.length) : g = A.map Addr.block := by
  obtain ⟨A', c', e1, hle, _, _, hh⟩ := h
  injection e1 with e2 e3 e4
  rcases hh with ⟨h0, _⟩ | ⟨b, o, cs, _, e5, e6, _⟩
  · omega
  · rw [e2, e6, e5]; rfl
theorem Own1.pos (h : Own1 n0 W a) : 0 < a.data.length := List.length_pos_iff.2 h.some_
theorem Own1.isSome (h : Own1 n0 W a) : ∃ b, a.blk = some b := by
  obtain ⟨A', c', e1, hle, _, _, hh⟩ := h.row
  injection e1 with e2 e3 e4
  have := h.pos
  rw [bv_len] at hle
  rcases hh with ⟨h0, _⟩ | ⟨b, o, cs, _, e5, _⟩
  · omega
  · exact ⟨b, e5⟩
theorem Own1.keep (h : Own1 n0 W a) (hk : ∀ b, a.blk = some b → W'.heap[b]? = W.heap[b]?) : Own1 n0 W' a := ⟨h.row.keep hk, h.fresh, h.some_, h.byte, h.max⟩
theorem Own1.below (h : Own1 n0 W a) (hb : Below W.heap.size W W') : Own1 n0 W' a := h.keep fun b e => hb.block b (h.row.lt e)
theorem Own1.ok (h : Own1 n0 W a) : EvOk (fun b => n0 ≤ b) W a := by
  refine ⟨h.row.rd, h.max, h.byte, fun _ p e => h.fresh p.block ?_⟩
  rw [Ev.blk, e]; rfl
theorem Own1.ne_ {q : Nat} {t : TypeId} {cs : Array Value} (h : Own1 n0 W a) (hq : Blk W q t cs) (hne : 5 ≠ t) : a.blk ≠ some q := h.row.ne_ hq hne
/-- A row of bytes and a row of events never share a block. -/
theorem Own1.ne_g {m : Nat} {xs : List Value} (h : Own1 n0 W a) (hr : RowS W 44 3 g v m xs) {b : Nat} (e1 : a.blk = some b) : g ≠ some b := by
  intro e2
  obtain ⟨cs, h1⟩ := h.row.obj e1
  obtain ⟨cs', h2⟩ := hr.obj e2
  rw [h1] at h2
  injection h2 with h2
  injection h2 with _ h2
  cases h2

theorem MR.nil (n0 : Nat) (W : World) : MR n0 W none (.slice none 0 0) [] := ⟨RowS.nil W _ _, by simp, by simp, by simp⟩
theorem MR.keep (h : MR n0 W g v l) (hk : ∀ b, b < W.heap.size → n0 ≤ b → (∃ cs t, (t = 5 ∨ t = 44) ∧ W.heap[b]? = some (.cells cs t (0, 0))) → W'.heap[b]? = W.heap[b]?) : MR n0 W' g v l :=
  ⟨h.row.keep fun b e => hk b (h.row.lt e) (h.fresh b e) (by obtain ⟨cs, hc⟩ := h.row.obj e; exact ⟨cs, _, .inr rfl, hc⟩), h.fresh,
    fun a ha => (h.own a ha).keep fun b e => hk b ((h.own a ha).row.lt e) ((h.own a ha).fresh b e) (by obtain ⟨cs, hc⟩ := (h.own a ha).row.obj e; exact ⟨cs, _, .inl rfl, hc⟩), h.apart⟩
theorem MR.below (h : MR n0 W g v l) (hb : Below W.heap.size W W') : MR n0 W' g v l := h.keep fun b hlt _ _ => hb.block b hlt
theorem MR.alloc (h : MR n0 W g v l) (o : Obj) : MR n0 (W.alloc o) g v l := h.below ((Below.refl _ W).alloc (Nat.le_refl _) _)
theorem MR.form (h : MR n0 W g v l) : ∃ A c, v = .slice A l.length c ∧ l.length ≤ c := h.row.form
theorem MR.evsIn (h : MR n0 W g v l) (hm : l.length ≤ 9223372036854775807) : EvsIn (fun b => n0 ≤ b) W v l := by
  obtain ⟨A, c, rfl, hle⟩ := h.row.form
  refine ⟨hm, fun a ha => (h.own a ha).ok, A, c, rfl, hle, fun hp => ?_⟩
  obtain ⟨b, o, c', e, hg, _, hx⟩ := h.row.cells hp
  injection e with e1 e2 e3
  refine ⟨b, o, e1, h.fresh b hg, fun j a ha => ?_⟩
  obtain ⟨x0, x1, x2⟩ := evcs_at ha
  exact ⟨hx _ _ x0, by rw [Nat.add_assoc]; exact hx _ _ x1, by rw [Nat.add_assoc]; exact hx _ _ x2⟩
theorem MR.evs (h : MR n0 W g v l) (hm : l.length ≤ 9223372036854775807) : Evs W v l := (h.evsIn hm).evs
/-- One more event behind, in bytes of its own. -/
theorem MR.snoc (h : MR n0 W g v l) (ha : Own1 n0 W a) (hnew : ∀ x ∈ l, x.blk ≠ a.blk) (hr : RowS W' 44 3 g' v' (l.length + 1) (evcs l ++ evc a)) (hg : W.grownBy W' g) (hg' : g' = g ∨ g' = some W.heap.size) (hn : n0 ≤ W.heap.size) : MR n0 W' g' v' (l ++ [a]) := by
  have hk : ∀ x, Own1 n0 W x → Own1 n0 W' x := fun x hx => hx.keep fun b e => hg.block b (hx.row.lt e) fun e' => hx.ne_g h.row e e'.symm
  refine ⟨by rw [evcs_snoc, List.length_append]; exact hr, ?_, fun x hx => ?_, fun i j x y hx hy hij => ?_⟩
  · rcases hg' with rfl | rfl
    · exact h.fresh
    · intro b e; cases e; exact hn
  · rcases List.mem_append.1 hx with hx | hx
    · exact hk x (h.own x hx)
    · rw [List.mem_singleton.1 hx]; exact hk a ha
  · have one : ∀ (i : Nat) (x : Ev), (l ++ [a])[i]? = some x → (i < l.length ∧ l[i]? = some x) ∨ (i = l.length ∧ x = a) := by
      intro i x hx
      rcases Nat.lt_or_ge i l.length with hi | hi
      · rw [List.getElem?_append_left hi] at hx; exact .inl ⟨hi, hx⟩
      · have h1 := (List.getElem?_eq_some_iff.1 hx).1
        simp at h1
        have e : i = l.length := by omega
        subst e
        simp at hx
        exact .inr ⟨rfl, hx.symm⟩
    rcases one i x hx with ⟨_, h1⟩ | ⟨h1, rfl⟩
    · rcases one j y hy with ⟨_, h2⟩ | ⟨_, rfl⟩
      · exact h.apart i j x y h1 h2 hij
      · exact hnew x (List.mem_of_getElem? h1)
    · rcases one j y hy with ⟨_, h2⟩ | ⟨h2, _⟩
      · exact fun e => hnew y (List.mem_of_getElem? h2) e.symm
      · omega

theorem evcs_append (l m : List Ev) : evcs (l ++ m) = evcs l ++ evcs m := by simp [evcs]
theorem evcs_last {p : List Ev} {b b' : Ev} (h1 : b'.dir = b.dir) (h2 : b'.time = b.time) : (evcs (p ++ [b])).set (p.length * 3 + 2) (.slice b'.A b'.data.length b'.c) = evcs (p ++ [b']) := by
  rw [evcs_append, evcs_append, List.set_append_right _ _ (by rw [evcs_len]; omega), evcs_len, show p.length * 3 + 2 - p.length * 3 = 2 by omega]
  congr 1
  simp [evcs, evc, h1, h2]
/-- More bytes in the last event. -/
theorem MR.more {p : List Ev} {b : Ev} {A' : Option Addr} {c' o cm : Nat} {bm : Nat} {gb' : Option Nat} {ds : List Nat} {w1 : World} (h : MR n0 W g (.slice (some ⟨bm, o, none⟩) (p.length + 1) cm) (p ++ [b]))
    (hr : Row w1 5 gb' (.slice A' (b.data.length + ds.length) c') (bv b.data ++ bv ds)) (hgr : W.grownBy w1 b.blk) (hg' : gb' = b.blk ∨ gb' = some W.heap.size) (hn : n0 ≤ W.heap.size) (hds : ∀ d ∈ ds, d < 256) (hmax : b.data.length + ds.length ≤ 9223372036854775807) :
    MR n0 (w1.setCell ⟨bm, o + (p.length * 3 + 2), none⟩ (.slice A' (b.data.length + ds.length) c')) g (.slice (some ⟨bm, o, none⟩) (p.length + 1) cm) (p ++ [⟨b.dir, b.time, A', c', b.data ++ ds⟩]) ∧ w1.cell? ⟨bm, o + p.length * 3 + 2, none⟩ = some (.slice b.A b.data.length b.c) ∧ w1.frozen? ⟨bm, o + p.length * 3 + 2, none⟩ = false ∧ g = some bm := by
  have hob := h.own b (by simp)
  obtain ⟨bb, hbb⟩ := hob.isSome
  have hlen : (p ++ [b]).length = p.length + 1 := by simp
  have hrow := h.row
  rw [hlen] at hrow
  have hgbm : g = some bm := by
    obtain ⟨b1, o1, c1, e, hg, _⟩ := hrow.cells (by omega)
    injection e with e1
    cases e1
    exact hg
  have hrow1 : RowS w1 44 3 g (.slice (some ⟨bm, o, none⟩) (p.length + 1) cm) (p.length + 1) (evcs (p ++ [b])) := hrow.keep fun k e => hgr.block k (hrow.lt e) fun e' => hob.ne_g hrow e'.symm e
  have hkk : p.length * 3 + 2 < (evcs (p ++ [b])).length := by rw [evcs_len]; simp; omega
  obtain ⟨hset, hgs, hfz⟩ := hrow1.set_ hkk (u := .slice A' (b.data.length + ds.length) c') rfl
  have hlast := evcs_last (p := p) (b := b) (b' := ⟨b.dir, b.time, A', c', b.data ++ ds⟩) rfl rfl
  simp only [List.length_append] at hlast
  rw [hlast] at hset
  have hblk : gb' = (⟨b.dir, b.time, A', c', b.data ++ ds⟩ : Ev).blk := by
    have := hr.blk_ (by rw [List.length_append, bv_len, bv_len]; have := hob.pos; omega)
    exact this
  have hnew : Own1 n0 (w1.setCell ⟨bm, o + (p.length * 3 + 2), none⟩ (.slice A' (b.data.length + ds.length) c')) ⟨b.dir, b.time, A', c', b.data ++ ds⟩ := by
    refine ⟨?_, fun k e => ?_, by simp [hob.some_], fun d hd => ?_, by rw [List.length_append]; exact hmax⟩
    · have h1 : Row w1 5 gb' (.slice A' (b.data ++ ds).length c') (bv (b.data ++ ds)) := by rw [List.length_append, bv_append]; exact hr
      rw [← hblk]
      refine h1.far (p := ⟨bm, o + (p.length * 3 + 2), none⟩) (fun e => ?_) _
      obtain ⟨cs, h2⟩ := h1.obj e
      obtain ⟨cs', h3⟩ := hrow1.obj hgbm
      have h2' : w1.heap[bm]? = some (.cells cs 5 (0, 0)) := h2
      rw [h3] at h2'
      injection h2' with h2'
      injection h2' with _ h2'
      cases h2'
    · rw [← hblk] at e
      rcases hg' with e' | e'
      · exact hob.fresh k (by rw [← e', e])
      · rw [e] at e'; cases e'; exact hn
    · rcases List.mem_append.1 hd with hd | hd
      · exact hob.byte d hd
      · exact hds d hd
  have hold : ∀ x ∈ p, Own1 n0 (w1.setCell ⟨bm, o + (p.length * 3 + 2), none⟩ (.slice A' (b.data.length + ds.length) c')) x ∧ x.blk ≠ gb' := by
    intro x hx
    have hox := h.own x (List.mem_append_left _ hx)
    obtain ⟨i, hi⟩ := List.mem_iff_getElem?.1 hx
    have hip := (List.getElem?_eq_some_iff.1 hi).1
    have hne : x.blk ≠ b.blk := h.apart i p.length x b (by rw [List.getElem?_append_left hip]; exact hi) (by simp) (by omega)
    refine ⟨hox.keep fun k e => (Below.heap_setCell w1 _ _ k ?_).trans (hgr.block k (hox.row.lt e) fun e' => hne (by rw [e, ← e'])), ?_⟩
    · intro e2
      have e2' : k = bm := e2
      exact hox.ne_g hrow e (by rw [hgbm, e2'])
    · rcases hg' with e' | e'
      · rw [e']; exact hne
      · rw [e']; intro e; have := hox.row.lt e; omega
  have hcell : w1.cell? ⟨bm, o + p.length * 3 + 2, none⟩ = some (.slice b.A b.data.length b.c) := by
    obtain ⟨b1, o1, c1, e, _, _, hx⟩ := hrow1.cells (by omega)
    injection e with e1
    cases e1
    have := (evcs_at (l := p ++ [b]) (j := p.length) (a := b) (by simp)).2.2
    rw [Nat.add_assoc]
    exact hx _ _ this
  refine ⟨⟨?_, h.fresh, fun x hx => ?_, fun i j x y hx hy hij => ?_⟩, hcell, by rw [Nat.add_assoc]; exact hfz, hgbm⟩
  · rw [show (p ++ [(⟨b.dir, b.time, A', c', b.data ++ ds⟩ : Ev)]).length = p.length + 1 by simp]; exact hset
  · rcases List.mem_append.1 hx with hx | hx
    · exact (hold x hx).1
    · rw [List.mem_singleton.1 hx]; exact hnew
  · have one : ∀ (i : Nat) (x : Ev), (p ++ [(⟨b.dir, b.time, A', c', b.data ++ ds⟩ : Ev)])[i]? = some x → (i < p.length ∧ p[i]? = some x) ∨ (i = p.length ∧ x = ⟨b.dir, b.time, A', c', b.data ++ ds⟩) := by
      intro i x hx
      rcases Nat.lt_or_ge i p.length with hi | hi
      · rw [List.getElem?_append_left hi] at hx; exact .inl ⟨hi, hx⟩
      · have h1 := (List.getElem?_eq_some_iff.1 hx).1
        simp at h1
        have e : i = p.length := by omega
        subst e
        simp at hx
        exact .inr ⟨rfl, hx.symm⟩
    rcases one i x hx with ⟨hi, h1⟩ | ⟨h1, rfl⟩
    · rcases one j y hy with ⟨hj, h2⟩ | ⟨_, rfl⟩
      · exact h.apart i j x y (by rw [List.getElem?_append_left hi]; exact h1) (by rw [List.getElem?_append_left hj]; exact h2) hij
      · rw [← hblk]; exact (hold x (List.mem_of_getElem? h1)).2
    · rcases one j y hy with ⟨hj, h2⟩ | ⟨h2, _⟩
      · rw [← hblk]; exact fun e => (hold y (List.mem_of_getElem? h2)).2 e.symm
      · omega
end
end Go.Proofs.Ytchfiiiippnigaa
