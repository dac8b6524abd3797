/-
  A list of events as it comes in (Evs), and as it is read out of the arguments.
  Conditions: none.
-/
import Derived.Test.YtchfiiiippnigaaBy
import Derived.Test.YtchfiiiippnigaaRowS
import Derived.Test.YtchfiiiippnigaaArgs
import Derived.Deep.Slices
import Derived.Deep.Fields
import Derived.Deep.Strs
namespace Go.Proofs.Ytchfiiiippnigaa
open Go.RowKit

/-- An event: its direction, its time, its slice, and the bytes in that. -/
structure Ev where
  dir : Int
  time : Int
  A : Option Addr
  c : Nat
  data : List Nat
instance : Inhabited Ev := ⟨⟨0, 0, none, 0, []⟩⟩

/-- What an event is, wherever it lies. -/
structure PE where
  dir : Int
  time : Int
  data : List Nat
theorem PE.same_iff (a b : PE) : (a.dir = b.dir ∧ a.time = b.time ∧ a.data = b.data) ↔ a = b := by
  constructor
  · rintro ⟨h1, h2, h3⟩
    cases a
    cases b
    simp only at h1 h2 h3
    rw [h1, h2, h3]
  · rintro rfl
    exact ⟨rfl, rfl, rfl⟩
instance : DecidableEq PE := fun a b => decidable_of_iff _ (PE.same_iff a b)
def Ev.pe (a : Ev) : PE := ⟨a.dir, a.time, a.data⟩
def pes (l : List Ev) : List PE := l.map Ev.pe
theorem pes_len (l : List Ev) : (pes l).length = l.length := by simp [pes]

/-- An event's bytes can be read, in blocks of S. -/
structure EvOk (S : Nat → Prop) (W : World) (a : Ev) : Prop where
  rd : Rd W (.slice a.A a.data.length a.c) (bv a.data)
  max : a.data.length ≤ 9223372036854775807
  byte : ∀ d ∈ a.data, d < 256
  inn : 0 < a.data.length → ∀ p, a.A = some p → S p.block

/-- An event's three cells. -/
structure EvAt (W : World) (b o : Nat) (a : Ev) : Prop where
  dir : W.cell? ⟨b, o, none⟩ = some (.int .i64 a.dir)
  time : W.cell? ⟨b, o + 1, none⟩ = some (.int .i64 a.time)
  data : W.cell? ⟨b, o + 2, none⟩ = some (.slice a.A a.data.length a.c)

/-- A list of events, in blocks of S. -/
def EvsIn (S : Nat → Prop) (W : World) (v : Value) (l : List Ev) : Prop :=
  l.length ≤ 9223372036854775807 ∧ (∀ a ∈ l, EvOk S W a) ∧ ∃ A c, v = .slice A l.length c ∧ l.length ≤ c ∧ (0 < l.length → ∃ b o, A = some ⟨b, o, none⟩ ∧ S b ∧ ∀ j a, l[j]? = some a → EvAt W b (o + j * 3) a)

/-- A list of events, anywhere. -/
def Evs (W : World) (v : Value) (l : List Ev) : Prop := EvsIn (fun _ => True) W v l

section
variable {S T : Nat → Prop} {W W' : World} {b o : Nat} {a : Ev} {v : Value} {l : List Ev}

theorem Rd.blocks {v : Value} {xs : List Value} (h : Rd W v xs) (hk : ∀ p n c, v = .slice (some p) n c → 0 < xs.length → W'.heap[p.block]? = W.heap[p.block]?) : Rd W' v xs := by
  obtain ⟨A, c, rfl, hle, h1, hr⟩ := h
  refine ⟨A, c, rfl, hle, h1, fun hp => ?_⟩
  obtain ⟨b, o, rfl, hx⟩ := hr hp
  exact ⟨b, o, rfl, fun j u hu => (World.cell?_of_block (a := ⟨b, o + j, none⟩) (hk ⟨b, o, none⟩ _ _ rfl hp)).trans (hx j u hu)⟩

theorem EvOk.lt (h : EvOk S W a) (hp : 0 < a.data.length) (p : Addr) (e : a.A = some p) : p.block < W.heap.size := by
  obtain ⟨A', c', e', _, _, hr⟩ := h.rd
  injection e' with e1 e2 e3
  obtain ⟨b, o, e2, hx⟩ := hr (by rw [bv_len]; exact hp)
  obtain ⟨d, hd⟩ : ∃ d, a.data[0]? = some d := ⟨_, List.getElem?_eq_getElem hp⟩
  have := World.block_lt_of_cell? W _ (hx 0 (.int .u8 (d : Nat)) (by rw [bv_at, hd]; rfl))
  rw [← e1, e] at e2
  cases e2
  exact this
theorem EvOk.keep (h : EvOk S W a) (hk : ∀ b, S b → b < W.heap.size → W'.heap[b]? = W.heap[b]?) : EvOk S W' a :=
  ⟨h.rd.blocks fun p n c e hp => by
    injection e with e1 e2 e3
    rw [bv_len] at hp
    exact hk _ (h.inn hp p e1) (h.lt hp p e1), h.max, h.byte, h.inn⟩
theorem EvOk.mono (h : EvOk S W a) (hT : ∀ b, b < W.heap.size → S b → T b) : EvOk T W a := ⟨h.rd, h.max, h.byte, fun hp p e => hT _ (h.lt hp p e) (h.inn hp p e)⟩
theorem EvAt.lt (h : EvAt W b o a) : b < W.heap.size := World.block_lt_of_cell? W _ h.dir
theorem EvAt.keep (h : EvAt W b o a) (hk : W'.heap[b]? = W.heap[b]?) : EvAt W' b o a :=
  ⟨(World.cell?_of_block (a := ⟨b, o, none⟩) hk).trans h.dir, (World.cell?_of_block (a := ⟨b, o + 1, none⟩) hk).trans h.time, (World.cell?_of_block (a := ⟨b, o + 2, none⟩) hk).trans h.data⟩

theorem EvsIn.keep (h : EvsIn S W v l) (hk : ∀ b, S b → b < W.heap.size → W'.heap[b]? = W.heap[b]?) : EvsIn S W' v l := by
  obtain ⟨hm, ho, A, c, rfl, hle, hr⟩ := h
  refine ⟨hm, fun a ha => (ho a ha).keep hk, A, c, rfl, hle, fun hp => ?_⟩
  obtain ⟨b, o, rfl, hS, hx⟩ := hr hp
  exact ⟨b, o, rfl, hS, fun j a ha => (hx j a ha).keep (hk b hS (hx j a ha).lt)⟩
theorem EvsIn.mono (h : EvsIn S W v l) (hT : ∀ b, b < W.heap.size → S b → T b) : EvsIn T W v l := by
  obtain ⟨hm, ho, A, c, rfl, hle, hr⟩ := h
  refine ⟨hm, fun a ha => (ho a ha).mono hT, A, c, rfl, hle, fun hp => ?_⟩
  obtain ⟨b, o, rfl, hS, hx⟩ := hr hp
  obtain ⟨a, ha⟩ : ∃ a, l[0]? = some a := ⟨_, List.getElem?_eq_getElem hp⟩
  exact ⟨b, o, rfl, hT b (hx 0 a ha).lt hS, hx⟩
theorem EvsIn.evs (h : EvsIn S W v l) : Evs W v l := h.mono fun _ _ _ => trivial
theorem Evs.old (h : Evs W v l) : EvsIn (fun b => b < W.heap.size) W v l := EvsIn.mono h fun _ hb _ => hb
theorem Evs.below (h : Evs W v l) (hb : Below W.heap.size W W') : Evs W' v l := EvsIn.keep h fun b _ hlt => hb.block b hlt
theorem Evs.alloc (h : Evs W v l) (o : Obj) : Evs (W.alloc o) v l := h.below ((Below.refl _ W).alloc (Nat.le_refl _) _)
theorem EvsIn.form (h : EvsIn S W v l) : ∃ A c, v = .slice A l.length c ∧ l.length ≤ c := by
  obtain ⟨_, _, A, c, rfl, hle, _⟩ := h
  exact ⟨A, c, rfl, hle⟩
theorem EvsIn.max (h : EvsIn S W v l) : l.length ≤ 9223372036854775807 := h.1
theorem EvsIn.ok (h : EvsIn S W v l) {a : Ev} (ha : a ∈ l) : EvOk S W a := h.2.1 a ha
/-- Where the k-th event lies. -/
theorem EvsIn.at {A : Option Addr} {n c : Nat} (h : EvsIn S W (.slice A n c) l) {k : Nat} (hk : k < n) : ∃ b o a, A = some ⟨b, o, none⟩ ∧ l[k]? = some a ∧ EvAt W b (o + k * 3) a ∧ EvOk S W a ∧ S b := by
  obtain ⟨_, ho, A', c', e, _, hr⟩ := h
  injection e with e1 e2 e3
  subst e1 e2 e3
  obtain ⟨b, o, rfl, hS, hx⟩ := hr (by omega)
  obtain ⟨a, ha⟩ : ∃ a, l[k]? = some a := ⟨_, List.getElem?_eq_getElem hk⟩
  exact ⟨b, o, a, rfl, ha, hx k a ha, ho a (List.mem_of_getElem? ha), hS⟩
theorem EvsIn.n {A : Option Addr} {n c : Nat} (h : EvsIn S W (.slice A n c) l) : n = l.length := by
  obtain ⟨_, _, A', c', e, _, _⟩ := h
  injection e with e1 e2 e3
theorem EvsIn.cap {A : Option Addr} {n c : Nat} (h : EvsIn S W (.slice A n c) l) : n ≤ c := by
  obtain ⟨_, _, A', c', e, hle, _⟩ := h
  injection e with e1 e2 e3
  omega
theorem EvsIn.nil (W : World) (A : Option Addr) (c : Nat) : EvsIn S W (.slice A 0 c) [] := ⟨by simp, by simp, A, c, rfl, by simp, fun h => absurd h (by simp)⟩
end

/-- The cells of an event, of events. -/
def evc (a : Ev) : List Value := [.int .i64 a.dir, .int .i64 a.time, .slice a.A a.data.length a.c]
def evcs (l : List Ev) : List Value := l.flatMap evc
theorem evcs_len (l : List Ev) : (evcs l).length = l.length * 3 := by
  induction l with
  | nil => rfl
  | cons a l ih => simp [evcs, evc] at ih ⊢; omega
theorem evcs_snoc (l : List Ev) (a : Ev) : evcs (l ++ [a]) = evcs l ++ evc a := by simp [evcs]
theorem evcs_at {l : List Ev} {j : Nat} {a : Ev} (h : l[j]? = some a) : (evcs l)[j * 3]? = some (.int .i64 a.dir) ∧ (evcs l)[j * 3 + 1]? = some (.int .i64 a.time) ∧ (evcs l)[j * 3 + 2]? = some (.slice a.A a.data.length a.c) := by
  induction l generalizing j with
  | nil => cases h
  | cons x l ih =>
    cases j with
    | zero =>
      rw [List.getElem?_cons_zero] at h
      cases h
      exact ⟨rfl, rfl, rfl⟩
    | succ j =>
      rw [List.getElem?_cons_succ] at h
      have := ih h
      have e : evcs (x :: l) = evc x ++ evcs l := rfl
      rw [e]
      have hl : (evc x).length = 3 := rfl
      refine ⟨?_, ?_, ?_⟩ <;> rw [List.getElem?_append_right (by omega), hl]
      · rw [show (j + 1) * 3 - 3 = j * 3 by omega]; exact this.1
      · rw [show (j + 1) * 3 + 1 - 3 = j * 3 + 1 by omega]; exact this.2.1
      · rw [show (j + 1) * 3 + 2 - 3 = j * 3 + 2 by omega]; exact this.2.2
theorem evcs_one (l : List Ev) : ∀ u ∈ evcs l, u.oneCell' = true := by
  intro u hu
  obtain ⟨a, _, ha⟩ := List.mem_flatMap.1 hu
  simp only [evc, List.mem_cons, List.not_mem_nil, or_false] at ha
  rcases ha with rfl | rfl | rfl <;> rfl

theorem ev_info : (Try.prog.info? 44).map (fun i => (i.zero, i.size, i.bytes)) = some (some (.agg #[.int .i64 0, .int .i64 0, .slice none 0 0]), 3, 40) := by kernel_rfl
theorem ev_src {w : World} (a : Ev) : Src Try.prog 3 22 (.slice (some ⟨w.heap.size, 0, none⟩) 1 1) 1 (evc a) (w.alloc (.cells #[.int .i64 a.dir, .int .i64 a.time, .slice a.A a.data.length a.c] 44)) :=
  Src.ofSlice _ Try.underlying22 ⟨w.heap.size, 0, none⟩ 1 1 (evc a) rfl (fun j u hu => by rw [add_eq, Nat.zero_add, (Blk.new w _ _).cell j, List.getElem?_toArray]; exact hu) (fun u hu => evcs_one [a] u (by simpa [evcs] using hu))

section
open Go.ChangeShapes Go.WideShapes Go.Deep
variable {H : Type} {enc : TypeId × Value → H} {W : World} {base : Nat} {sp : Nat → Bool} {held : Bool}

theorem ev_fields : ∃ f0 f1 f2, Try.prog.underlying 44 = some (.struct #[f0, f1, f2]) ∧ f0.offset = 0 ∧ f1.offset = 1 ∧ f2.offset = 2 ∧ f0.type = 3 ∧ f1.type = 2 ∧ f2.type = 31 :=
  ⟨_, _, _, Try.underlying44, rfl, rfl, rfl, rfl, rfl, rfl⟩
theorem ev_cells : Try.prog.cellsOf 44 = 3 := by kernel_rfl
theorem int_cells : Try.prog.cellsOf 3 = 1 := by kernel_rfl
theorem int64_cells : Try.prog.cellsOf 2 = 1 := by kernel_rfl
theorem bytes_cells : Try.prog.cellsOf 31 = 1 := by kernel_rfl

/-- How an event is read. -/
def EvRead (d : DataW H) (a : Ev) : Prop := ∃ x y z, d = .agg [x, y, z] ∧ (a.data = [] ∨ ∃ zs r, z = .slice zs r ∧ zs.length = a.data.length)
/-- How a list is read. -/
def EvsRead (d : DataW H) (l : List Ev) : Prop := (d = .nil ∧ l = []) ∨ ∃ D r, d = .slice ((List.range l.length).map D) r ∧ ∀ i a, l[i]? = some a → EvRead (D i) a

set_option maxRecDepth 100000 in
/-- The events behind a slice, as they are read. -/
theorem evs_of_trod_t {fuel : Nat} {v : Value} {y : DataW H × List MemPlace} (h : DataW.trod enc Try.prog W base sp held fuel 22 [v] = some y) : ∃ l, Evs W v l ∧ EvsRead y.1 l ∧ ∀ a ∈ l, -9223372036854775808 ≤ a.time ∧ a.time ≤ 9223372036854775807 := by
  rcases open_slice Try.underlying22 h with ⟨hcs, hx⟩ | ⟨a, len, cap, m, n, D, Pl, hcs, hb, hl, hm, hmm, hx, hi⟩
  · injection hcs with hv _
    subst hv
    exact ⟨[], EvsIn.nil W _ _, .inl ⟨by rw [hx], rfl⟩, by simp⟩
  · injection hcs with hv _
    have hlm : len ≤ m := by rw [hmm]; split <;> omega
    obtain ⟨f0, f1, f2, hf, o0, o1, o2, t0, t1, t2⟩ := ev_fields
    have key : ∀ i, i < len → ∃ x : Ev, (W.cell? (a.add (i * 3)) = some (.int .i64 x.dir) ∧ W.cell? (a.add (i * 3 + 1)) = some (.int .i64 x.time) ∧ W.cell? (a.add (i * 3 + 2)) = some (.slice x.A x.data.length x.c)) ∧ EvOk (fun _ => True) W x ∧ EvRead (D i) x ∧ (-9223372036854775808 ≤ x.time ∧ x.time ≤ 9223372036854775807) := by
      intro i hil
      obtain ⟨cs', hc, ht⟩ := hi i (by omega)
      rw [ev_cells] at hc
      obtain ⟨_, hcl, hat⟩ := World.cells?_some hc
      obtain ⟨ys, n', _, hy, hlen, hyl, hg⟩ := DataW.trod_struct hf ht
      have g0 := hg 0 f0 rfl
      have g1 := hg 1 f1 rfl
      have g2 := hg 2 f2 rfl
      rw [o0, t0, int_cells] at g0
      rw [o1, t1, int64_cells] at g1
      rw [o2, t2, bytes_cells] at g2
      match cs', hcl with
      | [v0, v1, v2], _ =>
        have c0 := hat 0 (by omega)
        have c1 := hat 1 (by omega)
        have c2 := hat 2 (by omega)
        rw [Go.Deep.add_add] at c0 c1 c2
        match ys, hyl with
        | [y0, y1, y2], _ =>
          simp only [List.drop, List.take, List.getElem?_cons_zero, List.getElem?_cons_succ] at g0 g1 g2 c0 c1 c2
          obtain ⟨k, e0, _, _⟩ := DataW.trod_int Try.underlying3 g0
          obtain ⟨num, e1, _, hwt⟩ := DataW.trod_int Try.underlying2 g1
          obtain ⟨A, nn, c, zs, e2, hn, hmx, hrd, hwf, hread⟩ := nums_of_trod Try.underlying31 Try.underlying5 (by kernel_rfl) g2
          simp at e0 e1
          subst e0 e1 e2
          have hzl : (zs.map Int.toNat).length = nn := by rw [List.length_map, hn]
          rw [nums_nat .u8 (fun z hz => (wf_u8 (hwf z hz)).1)] at hrd
          refine ⟨⟨k, num, A, c, zs.map Int.toNat⟩, ⟨by simpa using c0, c1, by rw [hzl]; exact c2⟩, ⟨by rw [hzl]; exact hrd, by rw [hzl]; simp only [maxLen] at hmx; omega, fun b hb => by obtain ⟨z, hz, rfl⟩ := List.mem_map.1 hb; have := wf_u8 (hwf z hz); omega, fun _ _ _ => trivial⟩, ⟨y0.1, y1.1, y2.1, ?_, ?_⟩, wf_i64 hwt⟩
          · simp only [Prod.mk.injEq] at hy
            simpa using hy.1
          · rcases hread with ⟨_, rfl⟩ | ⟨r, hr⟩
            · exact .inl rfl
            · exact .inr ⟨_, r, hr, by simp [lits]⟩
    obtain ⟨f, hfx⟩ := choose_lt key
    have hfl : ((List.range len).map f).length = len := by simp
    have hfa : ∀ j x, ((List.range len).map f)[j]? = some x → j < len ∧ f j = x := by
      intro j x hx
      have hj : j < len := by
        rcases Nat.lt_or_ge j len with h | h
        · exact h
        · rw [List.getElem?_eq_none (by simpa using h)] at hx; cases hx
      rw [List.getElem?_map, List.getElem?_range hj] at hx
      simp at hx
      exact ⟨hj, hx⟩
    refine ⟨(List.range len).map f, ⟨by simp only [maxLen] at hm; omega, fun x hx => ?_, some a, cap, by rw [hfl]; exact hv, by omega, fun hp => ?_⟩, .inr ⟨D, _, by rw [hfl, hx], fun i x hx => ?_⟩, fun x hx => ?_⟩
    · obtain ⟨j, hj⟩ := List.mem_iff_getElem?.1 hx
      obtain ⟨h1, rfl⟩ := hfa j x hj
      exact (hfx j h1).2.1
    · have hp' : 0 < len := by omega
      have h0 := (hfx 0 hp').1.1
      obtain ⟨b, o, s⟩ := a
      have hs : s = none := by
        cases s with
        | none => rfl
        | some _ => simp [World.cell?, Addr.add] at h0; split at h0 <;> simp_all
      subst hs
      refine ⟨b, o, rfl, trivial, fun j x hx => ?_⟩
      obtain ⟨h1, rfl⟩ := hfa j x hx
      obtain ⟨⟨k0, k1, k2⟩, _⟩ := hfx j h1
      rw [add_eq] at k0 k1 k2
      exact ⟨k0, by rw [Nat.add_assoc]; exact k1, by rw [Nat.add_assoc]; exact k2⟩
    · obtain ⟨h1, rfl⟩ := hfa i x hx
      exact (hfx i h1).2.2.1
    · obtain ⟨j, hj⟩ := List.mem_iff_getElem?.1 hx
      obtain ⟨h1, rfl⟩ := hfa j x hj
      exact (hfx j h1).2.2.2
theorem evs_of_trod {fuel : Nat} {v : Value} {y : DataW H × List MemPlace} (h : DataW.trod enc Try.prog W base sp held fuel 22 [v] = some y) : ∃ l, Evs W v l ∧ EvsRead y.1 l := by
  obtain ⟨l, h1, h2, _⟩ := evs_of_trod_t h
  exact ⟨l, h1, h2⟩
end
end Go.Proofs.Ytchfiiiippnigaa
