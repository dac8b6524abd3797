/-
  Two things apart, of which each is turned by a call of its own (two_calls); what was told of a transcript may be stored into (PK), and nothing else turns.
  Conditions: none.
-/
import Derived.Test.YtfmmomdfmmoklaaDoorRInv
namespace Go.Proofs.YtfmmomdfmmoklaaDoor
open Go.RowKit

section
variable {P Q P' Q' : Thing} {N : Nat → Prop} {w0 w : World}

theorem only_of_stay {A : Nat → Prop} {w w1 : World} (h0 : Below w0.heap.size w0 w) (h1 : Below w0.heap.size w0 w1) (hs : w.heap.size ≤ w1.heap.size) (hk : ∀ b, b < w.heap.size → ¬ A b → w1.heap[b]? = w.heap[b]?) : Only A w w1 :=
  ⟨h1.os.trans h0.os.symm, h1.tape.trans h0.tape.symm, h1.output.trans h0.output.symm, hs, hk⟩

/-- A call that turns the first thing, then one that turns the second. -/
theorem two_calls (h : Has (Star P Q) N w0 w) (fP : Framed P) (fQ : Framed Q) (hN : N (w.heap.size - 1)) (hp : 0 < w.heap.size) :
    ∃ N1, Has P N1 w0 w ∧ (∀ i, N i → N1 i) ∧ ∀ (P' : Thing) (w1 : World), Has P' N1 w0 w1 → Stay N1 w w1 → Framed P' → ∃ N2, Has Q N2 w0 w1 ∧ (∀ i, N i → N2 i) ∧ w.heap.size ≤ w1.heap.size ∧
      ∀ (Q' : Thing) (w2 : World), Has Q' N2 w0 w2 → Stay N2 w1 w2 → Has (Star P' Q') N w0 w2 ∧ Stay N w w2 := by
  obtain ⟨F, hF⟩ := h
  obtain ⟨A, B, hs⟩ := hF.it
  have hA : ∀ b, A b → b < w.heap.size := fun b hb => fP.lt hs.fst b hb
  have hB : ∀ b, B b → b < w.heap.size := fun b hb => fQ.lt hs.snd b hb
  have nA : ∀ i, N i → ¬ A i := fun i hi hb => (hF.np i hi).1 ((hs.un i).2 (.inl hb))
  have nB : ∀ i, N i → ¬ B i := fun i hi hb => (hF.np i hi).1 ((hs.un i).2 (.inr hb))
  refine ⟨fun b => b < w.heap.size ∧ ¬ A b, ⟨A, hs.fst, fun b hb => hF.new b ((hs.un b).2 (.inl hb)), fun b hb => ⟨hb.2, hb.1⟩, hF.below⟩, fun i hi => ⟨(hF.np i hi).2, nA i hi⟩, ?_⟩
  rintro P' w1 ⟨A1, h1⟩ hs1 fP'
  have hsz : w.heap.size ≤ w1.heap.size := by have := (h1.np (w.heap.size - 1) ⟨by omega, nA _ hN⟩).2; omega
  have o1 : Only A w w1 := only_of_stay hF.below h1.below hsz fun b hlt hb => hs1 b ⟨hlt, hb⟩
  have q1 : Q B w1 := fQ.only hs.snd o1 (fun b hb ha => hs.ap b ha hb)
  have ap1 : ∀ b, A1 b → ¬ B b := fun b ha hb => (h1.np b ⟨hB b hb, fun h => hs.ap b h hb⟩).1 ha
  refine ⟨fun b => b < w1.heap.size ∧ ¬ B b, ⟨B, q1, fun b hb => hF.new b ((hs.un b).2 (.inr hb)), fun b hb => ⟨hb.2, hb.1⟩, h1.below⟩, fun i hi => ⟨by have := (hF.np i hi).2; omega, nB i hi⟩, hsz, ?_⟩
  rintro Q' w2 ⟨B2, h2⟩ hs2
  have hlast : ¬ B (w1.heap.size - 1) := by
    intro hb
    have e : w1.heap.size - 1 = w.heap.size - 1 := by have := hB _ hb; omega
    rw [e] at hb
    exact nB _ hN hb
  have hsz2 : w1.heap.size ≤ w2.heap.size := by have := (h2.np (w1.heap.size - 1) ⟨by omega, hlast⟩).2; omega
  have hA1 : ∀ b, A1 b → b < w1.heap.size := fun b hb => fP'.lt h1.it b hb
  have o2 : Only B w1 w2 := only_of_stay h1.below h2.below hsz2 fun b hlt hb => hs2 b ⟨hlt, hb⟩
  have p2 : P' A1 w2 := fP'.only h1.it o2 ap1
  have ap2 : ∀ b, A1 b → ¬ B2 b := fun b ha hb => (h2.np b ⟨hA1 b ha, ap1 b ha⟩).1 hb
  refine ⟨⟨fun b => A1 b ∨ B2 b, ⟨A1, B2, p2, h2.it, ap2, fun _ => Iff.rfl⟩, ?_, fun i hi => ⟨?_, by have := (hF.np i hi).2; omega⟩, h2.below⟩, fun i hi => ?_⟩
  · rintro b (hb | hb)
    · exact h1.new b hb
    · exact h2.new b hb
  · have hlt := (hF.np i hi).2
    rintro (hb | hb)
    · exact (h1.np i ⟨hlt, nA i hi⟩).1 hb
    · exact (h2.np i ⟨by omega, nB i hi⟩).1 hb
  · have hlt := (hF.np i hi).2
    exact (hs2 i ⟨by omega, nB i hi⟩).trans (hs1 i ⟨hlt, nA i hi⟩)

/-- What was made since w is none of a thing's that lay in w. -/
theorem Has.since {w' : World} (h : Has P N w0 w) (fP : Framed P) (hb : Below w.heap.size w w') : Has P (Since w w') w0 w' := by
  obtain ⟨F, h⟩ := h
  have ho : Only (fun _ => False) w w' := Only.of_below hb (Nat.le_refl _) _
  exact ⟨F, fP.only h.it ho (fun _ _ e => e), h.new, fun b hb' => ⟨fun hF => by have := fP.lt h.it b hF; have := hb'.1; omega, hb'.2⟩, h.below.trans (hb.mono h.below.size)⟩
end

/-- Events that may be stored into, all made since w2. -/
structure PK (w2 W : World) (b0 o0 : Nat) (l : List Ev) : Prop where
  ev : ∃ cs, W.heap[b0]? = some (.cells cs 69 (0, 0)) ∧ w2.heap.size ≤ b0 ∧ o0 + l.length * 3 ≤ cs.size ∧ ∀ j a, l[j]? = some a → cs[o0 + j * 3 + 2]? = some (.slice a.A a.data.length a.c)
  dt : ∀ a ∈ l, 0 < a.data.length → ∃ b o cs, a.A = some ⟨b, o, none⟩ ∧ w2.heap.size ≤ b ∧ W.heap[b]? = some (.cells cs 5 (0, 0)) ∧ ∀ i, i < a.data.length → ∃ z : Nat, z < 256 ∧ cs[o + i]? = some (.int .u8 (z : Int))

section
variable {w2 W : World} {b0 o0 : Nat} {l : List Ev}
theorem PK.of_el {g : Option Nat} {A : Option Addr} {c : Nat} (h : EL (fun _ => False) (fun b => w2.heap.size ≤ b) W g (.slice A l.length c) l) (hp : 0 < l.length) : ∃ b0 o0, A = some ⟨b0, o0, none⟩ ∧ PK w2 W b0 o0 l := by
  obtain ⟨A', c', e, hl, hle, hm, h1, hg⟩ := h.row
  injection e with e1 e2 e3
  subst e1 e3
  rcases hg with ⟨hc0, _⟩ | ⟨b, o, cs, hc, hgb, rfl, hh, hfit, hx⟩
  · omega
  · refine ⟨b, o, rfl, ⟨cs, hh, (h.fresh b hgb).1, by have : l.length * 3 ≤ c * 3 := Nat.mul_le_mul_right 3 hle; omega, fun j a ha => ?_⟩, fun a ha hpa => ?_⟩
    · have := (evcs_at ha).2.2
      rw [Nat.add_assoc]; exact hx _ _ this
    · have hok := h.ok a ha
      obtain ⟨A2, c2, e2, _, _, hr⟩ := hok.rd
      injection e2 with e3 e4 e5
      obtain ⟨b2, o2, e6, hx2⟩ := hr (by rw [bv_len]; exact hpa)
      have hA : a.A = some ⟨b2, o2, none⟩ := by rw [e3, e6]
      rcases hok.inn hpa _ hA with hF | ⟨hT, cs2, hc2⟩
      · exact hF.elim
      · refine ⟨b2, o2, cs2, hA, hT, hc2, fun i hi => ?_⟩
        obtain ⟨d, hd⟩ : ∃ d, a.data[i]? = some d := ⟨_, List.getElem?_eq_getElem hi⟩
        refine ⟨d, hok.byte d (List.mem_of_getElem? hd), ?_⟩
        rw [← cell_of_row W b2 (o2 + i) cs2 5 (0, 0) hc2]
        exact hx2 i _ (by rw [bv_at, hd]; rfl)
theorem PK.alloc (h : PK w2 W b0 o0 l) (x : Obj) : PK w2 (W.alloc x) b0 o0 l := by
  obtain ⟨⟨cs, h1, h2⟩, h3⟩ := h
  refine ⟨⟨cs, (Below.heap_alloc W x b0 (lt_of_heap h1)).trans h1, h2⟩, fun a ha hp => ?_⟩
  obtain ⟨b, o, cs', e, hb, hh, hx⟩ := h3 a ha hp
  exact ⟨b, o, cs', e, hb, (Below.heap_alloc W x b (lt_of_heap hh)).trans hh, hx⟩
theorem heap_set {W : World} {b i : Nat} {cs : Array Value} {t : TypeId} {u : Value} (h : W.heap[b]? = some (.cells cs t (0, 0))) : (W.setCell ⟨b, i, none⟩ u).heap[b]? = some (.cells (cs.setIfInBounds i u) t (0, 0)) := Blk.set_ (w := W) (g := b) (t := t) (cs := cs) h i u
/-- A byte is stored. -/
theorem PK.poke (h : PK w2 W b0 o0 l) {k : Nat} {a : Ev} (ha : l[k]? = some a) {b o i : Nat} (hA : a.A = some ⟨b, o, none⟩) (hi : i < a.data.length) {z : Nat} (hz : z < 256) :
    PK w2 (W.setCell ⟨b, o + i, none⟩ (.int .u8 (z : Int))) b0 o0 l ∧ w2.heap.size ≤ b ∧ b < W.heap.size ∧ W.frozen? ⟨b, o + i, none⟩ = false ∧ ∃ cs, Blk W b 5 cs := by
  have hmem := List.mem_of_getElem? ha
  obtain ⟨b1, o1, cs1, e1, hb1, hh1, hx1⟩ := h.dt a hmem (by omega)
  rw [hA] at e1
  cases e1
  obtain ⟨cs, h1, h2, h3, h4⟩ := h.ev
  have hne : b0 ≠ b := by
    rintro rfl
    rw [h1] at hh1
    injection hh1 with hh1
    injection hh1 with _ hh1
    cases hh1
  refine ⟨⟨⟨cs, (Below.heap_setCell W _ _ b0 hne).trans h1, h2, h3, h4⟩, fun a' ha' hp' => ?_⟩, hb1, lt_of_heap hh1, Blk.frozen (w := W) (t := 5) hh1 _, cs1, hh1⟩
  obtain ⟨b', o', cs', e', hb', hh', hx'⟩ := h.dt a' ha' hp'
  by_cases hbb : b' = b
  · subst hbb
    rw [hh1] at hh'
    cases hh'
    refine ⟨b', o', _, e', hb', heap_set hh1, fun j hj => ?_⟩
    obtain ⟨z', hz', hc⟩ := hx' j hj
    rw [Array.getElem?_setIfInBounds]
    split
    · next e =>
      refine ⟨z, hz, ?_⟩
      rw [if_pos]
      have := (Array.getElem?_eq_some_iff.1 hc).1
      omega
    · exact ⟨z', hz', hc⟩
  · exact ⟨b', o', cs', e', hb', (Below.heap_setCell W _ _ b' hbb).trans hh', hx'⟩
/-- A time is stored. -/
theorem PK.time (h : PK w2 W b0 o0 l) (k : Nat) (u : Value) : PK w2 (W.setCell ⟨b0, o0 + k * 3 + 1, none⟩ u) b0 o0 l ∧ w2.heap.size ≤ b0 ∧ b0 < W.heap.size ∧ W.frozen? ⟨b0, o0 + k * 3 + 1, none⟩ = false ∧ ∃ cs, Blk W b0 69 cs := by
  obtain ⟨cs, h1, h2, h3, h4⟩ := h.ev
  refine ⟨⟨⟨_, heap_set h1, h2, by simpa using h3, fun j a ha => ?_⟩, fun a ha hp => ?_⟩, h2, lt_of_heap h1, Blk.frozen (w := W) (t := 69) h1 _, cs, h1⟩
  · rw [Array.getElem?_setIfInBounds, if_neg (by omega)]
    exact h4 j a ha
  · obtain ⟨b, o, cs', e, hb, hh, hx⟩ := h.dt a ha hp
    refine ⟨b, o, cs', e, hb, (Below.heap_setCell W _ _ b ?_).trans hh, hx⟩
    rintro rfl
    rw [h1] at hh
    injection hh with hh
    injection hh with _ hh
    cases hh
/-- What is loaded. -/
theorem PK.at (h : PK w2 W b0 o0 l) {k : Nat} {a : Ev} (ha : l[k]? = some a) : W.cell? ⟨b0, o0 + k * 3 + 2, none⟩ = some (.slice a.A a.data.length a.c) ∧ ∃ v, W.cell? ⟨b0, o0 + k * 3 + 1, none⟩ = some v := by
  obtain ⟨cs, h1, h2, h3, h4⟩ := h.ev
  have hk := (List.getElem?_eq_some_iff.1 ha).1
  refine ⟨(cell_of_row W b0 _ cs _ _ h1).trans (h4 k a ha), cs[o0 + k * 3 + 1]'(by omega), (cell_of_row W b0 _ cs _ _ h1).trans (Array.getElem?_eq_getElem _)⟩
theorem PK.byte (h : PK w2 W b0 o0 l) {k : Nat} {a : Ev} (ha : l[k]? = some a) {i : Nat} (hi : i < a.data.length) : ∃ b o z, a.A = some ⟨b, o, none⟩ ∧ z < 256 ∧ W.cell? ⟨b, o + i, none⟩ = some (.int .u8 ((z : Nat) : Int)) := by
  obtain ⟨b, o, cs, e, hb, hh, hx⟩ := h.dt a (List.mem_of_getElem? ha) (by omega)
  obtain ⟨z, hz, hc⟩ := hx i hi
  exact ⟨b, o, z, e, hz, (cell_of_row W b _ cs _ _ hh).trans hc⟩
end
end Go.Proofs.YtfmmomdfmmoklaaDoor
