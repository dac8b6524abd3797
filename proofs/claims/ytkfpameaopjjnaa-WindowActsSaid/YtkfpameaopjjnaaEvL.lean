/-
  A list of structs of two numbers and bytes as it comes in (Evs): events, acts; over no program.
  Conditions: none.
-/
import Derived.Test.YtkfpameaopjjnaaBy
import Derived.Test.YtkfpameaopjjnaaRowS
import Derived.Test.YtkfpameaopjjnaaArgs
import Derived.Deep.Slices
import Derived.Deep.Fields
import Derived.Deep.Strs
namespace Go.Proofs.Ytkfpameaopjjnaa
open Go.RowKit

/-- An event: its direction, its time, its slice, and the bytes in that. -/
structure Ev where
  dir : Int
  time : Int
  A : Option Addr
  c : Nat
  data : List Nat
instance : Inhabited Ev := ⟨⟨0, 0, none, 0, []⟩⟩

/-- What an event is, wherever it lies. -/
structure PE where
  dir : Int
  time : Int
  data : List Nat
theorem PE.same_iff (a b : PE) : (a.dir = b.dir ∧ a.time = b.time ∧ a.data = b.data) ↔ a = b := by
  constructor
  · rintro ⟨h1, h2, h3⟩
    cases a
    cases b
    simp only at h1 h2 h3
    rw [h1, h2, h3]
  · rintro rfl
    exact ⟨rfl, rfl, rfl⟩
instance : DecidableEq PE := fun a b => decidable_of_iff _ (PE.same_iff a b)
def Ev.pe (a : Ev) : PE := ⟨a.dir, a.time, a.data⟩
def pes (l : List Ev) : List PE := l.map Ev.pe
theorem pes_len (l : List Ev) : (pes l).length = l.length := by simp [pes]

/-- An event's bytes can be read, in blocks of S. -/
structure EvOk (S : Nat → Prop) (W : World) (a : Ev) : Prop where
  rd : Rd W (.slice a.A a.data.length a.c) (bv a.data)
  max : a.data.length ≤ 9223372036854775807
  byte : ∀ d ∈ a.data, d < 256
  inn : 0 < a.data.length → ∀ p, a.A = some p → S p.block

/-- An event's three cells. -/
structure EvAt (W : World) (b o : Nat) (a : Ev) : Prop where
  dir : W.cell? ⟨b, o, none⟩ = some (.int .i64 a.dir)
  time : W.cell? ⟨b, o + 1, none⟩ = some (.int .i64 a.time)
  data : W.cell? ⟨b, o + 2, none⟩ = some (.slice a.A a.data.length a.c)

/-- A list of events, in blocks of S. -/
def EvsIn (S : Nat → Prop) (W : World) (v : Value) (l : List Ev) : Prop :=
  l.length ≤ 9223372036854775807 ∧ (∀ a ∈ l, EvOk S W a) ∧ ∃ A c, v = .slice A l.length c ∧ l.length ≤ c ∧ (0 < l.length → ∃ b o, A = some ⟨b, o, none⟩ ∧ S b ∧ ∀ j a, l[j]? = some a → EvAt W b (o + j * 3) a)

/-- A list of events, anywhere. -/
def Evs (W : World) (v : Value) (l : List Ev) : Prop := EvsIn (fun _ => True) W v l

section
variable {S T : Nat → Prop} {W W' : World} {b o : Nat} {a : Ev} {v : Value} {l : List Ev}

theorem Rd.blocks {v : Value} {xs : List Value} (h : Rd W v xs) (hk : ∀ p n c, v = .slice (some p) n c → 0 < xs.length → W'.heap[p.block]? = W.heap[p.block]?) : Rd W' v xs := by
  obtain ⟨A, c, rfl, hle, h1, hr⟩ := h
  refine ⟨A, c, rfl, hle, h1, fun hp => ?_⟩
  obtain ⟨b, o, rfl, hx⟩ := hr hp
  exact ⟨b, o, rfl, fun j u hu => (World.cell?_of_block (a := ⟨b, o + j, none⟩) (hk ⟨b, o, none⟩ _ _ rfl hp)).trans (hx j u hu)⟩

theorem EvOk.lt (h : EvOk S W a) (hp : 0 < a.data.length) (p : Addr) (e : a.A = some p) : p.block < W.heap.size := by
  obtain ⟨A', c', e', _, _, hr⟩ := h.rd
  injection e' with e1 e2 e3
  obtain ⟨b, o, e2, hx⟩ := hr (by rw [bv_len]; exact hp)
  obtain ⟨d, hd⟩ : ∃ d, a.data[0]? = some d := ⟨_, List.getElem?_eq_getElem hp⟩
  have := World.block_lt_of_cell? W _ (hx 0 (.int .u8 (d : Nat)) (by rw [bv_at, hd]; rfl))
  rw [← e1, e] at e2
  cases e2
  exact this
theorem EvOk.keep (h : EvOk S W a) (hk : ∀ b, S b → b < W.heap.size → W'.heap[b]? = W.heap[b]?) : EvOk S W' a :=
  ⟨h.rd.blocks fun p n c e hp => by
    injection e with e1 e2 e3
    rw [bv_len] at hp
    exact hk _ (h.inn hp p e1) (h.lt hp p e1), h.max, h.byte, h.inn⟩
theorem EvOk.mono (h : EvOk S W a) (hT : ∀ b, b < W.heap.size → S b → T b) : EvOk T W a := ⟨h.rd, h.max, h.byte, fun hp p e => hT _ (h.lt hp p e) (h.inn hp p e)⟩
theorem EvAt.lt (h : EvAt W b o a) : b < W.heap.size := World.block_lt_of_cell? W _ h.dir
theorem EvAt.keep (h : EvAt W b o a) (hk : W'.heap[b]? = W.heap[b]?) : EvAt W' b o a :=
  ⟨(World.cell?_of_block (a := ⟨b, o, none⟩) hk).trans h.dir, (World.cell?_of_block (a := ⟨b, o + 1, none⟩) hk).trans h.time, (World.cell?_of_block (a := ⟨b, o + 2, none⟩) hk).trans h.data⟩

theorem EvsIn.keep (h : EvsIn S W v l) (hk : ∀ b, S b → b < W.heap.size → W'.heap[b]? = W.heap[b]?) : EvsIn S W' v l := by
  obtain ⟨hm, ho, A, c, rfl, hle, hr⟩ := h
  refine ⟨hm, fun a ha => (ho a ha).keep hk, A, c, rfl, hle, fun hp => ?_⟩
  obtain ⟨b, o, rfl, hS, hx⟩ := hr hp
  exact ⟨b, o, rfl, hS, fun j a ha => (hx j a ha).keep (hk b hS (hx j a ha).lt)⟩
theorem EvsIn.mono (h : EvsIn S W v l) (hT : ∀ b, b < W.heap.size → S b → T b) : EvsIn T W v l := by
  obtain ⟨hm, ho, A, c, rfl, hle, hr⟩ := h
  refine ⟨hm, fun a ha => (ho a ha).mono hT, A, c, rfl, hle, fun hp => ?_⟩
  obtain ⟨b, o, rfl, hS, hx⟩ := hr hp
  obtain ⟨a, ha⟩ : ∃ a, l[0]? = some a := ⟨_, List.getElem?_eq_getElem hp⟩
  exact ⟨b, o, rfl, hT b (hx 0 a ha).lt hS, hx⟩
theorem EvsIn.evs (h : EvsIn S W v l) : Evs W v l := h.mono fun _ _ _ => trivial
theorem Evs.old (h : Evs W v l) : EvsIn (fun b => b < W.heap.size) W v l := EvsIn.mono h fun _ hb _ => hb
theorem Evs.below (h : Evs W v l) (hb : Below W.heap.size W W') : Evs W' v l := EvsIn.keep h fun b _ hlt => hb.block b hlt
theorem Evs.alloc (h : Evs W v l) (o : Obj) : Evs (W.alloc o) v l := h.below ((Below.refl _ W).alloc (Nat.le_refl _) _)
theorem EvsIn.form (h : EvsIn S W v l) : ∃ A c, v = .slice A l.length c ∧ l.length ≤ c := by
  obtain ⟨_, _, A, c, rfl, hle, _⟩ := h
  exact ⟨A, c, rfl, hle⟩
theorem EvsIn.max (h : EvsIn S W v l) : l.length ≤ 9223372036854775807 := h.1
theorem EvsIn.ok (h : EvsIn S W v l) {a : Ev} (ha : a ∈ l) : EvOk S W a := h.2.1 a ha
/-- Where the k-th event lies. -/
theorem EvsIn.at {A : Option Addr} {n c : Nat} (h : EvsIn S W (.slice A n c) l) {k : Nat} (hk : k < n) : ∃ b o a, A = some ⟨b, o, none⟩ ∧ l[k]? = some a ∧ EvAt W b (o + k * 3) a ∧ EvOk S W a ∧ S b := by
  obtain ⟨_, ho, A', c', e, _, hr⟩ := h
  injection e with e1 e2 e3
  subst e1 e2 e3
  obtain ⟨b, o, rfl, hS, hx⟩ := hr (by omega)
  obtain ⟨a, ha⟩ : ∃ a, l[k]? = some a := ⟨_, List.getElem?_eq_getElem hk⟩
  exact ⟨b, o, a, rfl, ha, hx k a ha, ho a (List.mem_of_getElem? ha), hS⟩
theorem EvsIn.n {A : Option Addr} {n c : Nat} (h : EvsIn S W (.slice A n c) l) : n = l.length := by
  obtain ⟨_, _, A', c', e, _, _⟩ := h
  injection e with e1 e2 e3
theorem EvsIn.cap {A : Option Addr} {n c : Nat} (h : EvsIn S W (.slice A n c) l) : n ≤ c := by
  obtain ⟨_, _, A', c', e, hle, _⟩ := h
  injection e with e1 e2 e3
  omega
theorem EvsIn.nil (W : World) (A : Option Addr) (c : Nat) : EvsIn S W (.slice A 0 c) [] := ⟨by simp, by simp, A, c, rfl, by simp, fun h => absurd h (by simp)⟩
end

/-- The cells of an event, of events. -/
def evc (a : Ev) : List Value := [.int .i64 a.dir, .int .i64 a.time, .slice a.A a.data.length a.c]
def evcs (l : List Ev) : List Value := l.flatMap evc
theorem evcs_len (l : List Ev) : (evcs l).length = l.length * 3 := by
  induction l with
  | nil => rfl
  | cons a l ih => simp [evcs, evc] at ih ⊢; omega
theorem evcs_snoc (l : List Ev) (a : Ev) : evcs (l ++ [a]) = evcs l ++ evc a := by simp [evcs]
theorem evcs_at {l : List Ev} {j : Nat} {a : Ev} (h : l[j]? = some a) : (evcs l)[j * 3]? = some (.int .i64 a.dir) ∧ (evcs l)[j * 3 + 1]? = some (.int .i64 a.time) ∧ (evcs l)[j * 3 + 2]? = some (.slice a.A a.data.length a.c) := by
  induction l generalizing j with
  | nil => cases h
  | cons x l ih =>
    cases j with
    | zero =>
      rw [List.getElem?_cons_zero] at h
      cases h
      exact ⟨rfl, rfl, rfl⟩
    | succ j =>
      rw [List.getElem?_cons_succ] at h
      have := ih h
      have e : evcs (x :: l) = evc x ++ evcs l := rfl
      rw [e]
      have hl : (evc x).length = 3 := rfl
      refine ⟨?_, ?_, ?_⟩ <;> rw [List.getElem?_append_right (by omega), hl]
      · rw [show (j + 1) * 3 - 3 = j * 3 by omega]; exact this.1
      · rw [show (j + 1) * 3 + 1 - 3 = j * 3 + 1 by omega]; exact this.2.1
      · rw [show (j + 1) * 3 + 2 - 3 = j * 3 + 2 by omega]; exact this.2.2
theorem evcs_one (l : List Ev) : ∀ u ∈ evcs l, u.oneCell' = true := by
  intro u hu
  obtain ⟨a, _, ha⟩ := List.mem_flatMap.1 hu
  simp only [evc, List.mem_cons, List.not_mem_nil, or_false] at ha
  rcases ha with rfl | rfl | rfl <;> rfl
end Go.Proofs.Ytkfpameaopjjnaa
