/-
  Words for memory, over no program: only some blocks may have turned (Only), a block known whole (Blk), a slice that is read (Rd), a slice that lies in a row of its own (Row); and what append and clear make of such a row.
  Conditions: elements of one cell each.
-/
import Derived.Below
import Derived.Laws.OwnMore
import Derived.Deep.AppendSrc
import Derived.Deep.Draws
import Derived.Laws.Rows
import Derived.Lib.SliceRun
import Derived.RegionTactic
import Derived.OwnWalk
namespace Go.Proofs.Yteapcahpkapbbaa
open Go.RowKit

/-- Only the blocks of S, and new ones, may have turned. -/
structure Only (S : Nat → Prop) (w w' : World) : Prop where
  os : w'.os = w.os
  tape : w'.tape = w.tape
  output : w'.output = w.output
  size : w.heap.size ≤ w'.heap.size
  block : ∀ i, i < w.heap.size → ¬ S i → w'.heap[i]? = w.heap[i]?

section
variable {S T : Nat → Prop} {a b c w w' : World}
theorem Only.refl (S : Nat → Prop) (w : World) : Only S w w := ⟨rfl, rfl, rfl, Nat.le_refl _, fun _ _ _ => rfl⟩
theorem Only.trans (h : Only S a b) (k : Only T b c) (hT : ∀ i, i < a.heap.size → T i → S i) : Only S a c :=
  ⟨k.os.trans h.os, k.tape.trans h.tape, k.output.trans h.output, Nat.le_trans h.size k.size, fun i hi hs =>
    (k.block i (Nat.lt_of_lt_of_le hi h.size) (fun ht => hs (hT i hi ht))).trans (h.block i hi hs)⟩
theorem Only.mono (h : Only S a b) (hT : ∀ i, i < a.heap.size → S i → T i) : Only T a b :=
  ⟨h.os, h.tape, h.output, h.size, fun i hi hs => h.block i hi (fun ht => hs (hT i hi ht))⟩
theorem Only.drew (h : Only S a w) : Only S a w.drew := ⟨h.os, h.tape, h.output, h.size, h.block⟩
theorem Only.drewN (h : Only S a w) (n : Nat) : Only S a (w.drewN n) := ⟨h.os, h.tape, h.output, h.size, h.block⟩
theorem Only.alloc (h : Only S a w) (o : Obj) : Only S a (w.alloc o) :=
  ⟨h.os, h.tape, h.output, Nat.le_trans h.size (by simp), fun i hi hs => (Below.heap_alloc w o i (Nat.lt_of_lt_of_le hi h.size)).trans (h.block i hi hs)⟩
theorem Only.setCell (h : Only S a w) {p : Addr} (hp : S p.block ∨ a.heap.size ≤ p.block) (u : Value) : Only S a (w.setCell p u) :=
  ⟨h.os, h.tape, h.output, by simpa [World.setCell] using h.size, fun i hi hs => (Below.heap_setCell w p u i (by
    rintro rfl
    rcases hp with hp | hp
    · exact hs hp
    · omega)).trans (h.block i hi hs)⟩
theorem Only.grown {row : Option Nat} (h : Only S a w) (hg : w.grownBy w' row) (hr : ∀ k, row = some k → S k ∨ a.heap.size ≤ k) : Only S a w' :=
  ⟨hg.os.trans h.os, hg.tape.trans h.tape, hg.output.trans h.output, Nat.le_trans h.size hg.size, fun i hi hs =>
    (hg.block i (Nat.lt_of_lt_of_le hi h.size) (fun e => by
      rcases hr i e.symm with h1 | h1
      · exact hs h1
      · omega)).trans (h.block i hi hs)⟩
theorem Only.of_below {B : Nat} (h : Below B a b) (hB : a.heap.size ≤ B) (S : Nat → Prop) : Only S a b :=
  ⟨h.os, h.tape, h.output, h.size, fun i hi _ => h.block i (by omega)⟩
theorem Only.below {B : Nat} (h : Only S a b) (hB : B ≤ a.heap.size) (hS : ∀ i, i < B → ¬ S i) : Below B a b :=
  ⟨h.os, h.tape, h.output, h.size, fun i hi => h.block i (by omega) (hS i hi)⟩
theorem Only.more' {w0 : World} (k : Only S a b) (h : Below w0.heap.size w0 a) (hS : ∀ i, i < w0.heap.size → ¬ S i) : Below w0.heap.size w0 b := h.trans (k.below h.size hS)
theorem Only.cell (h : Only S a b) {p : Addr} (hp : p.block < a.heap.size) (hs : ¬ S p.block) : b.cell? p = a.cell? p := World.cell?_of_block (h.block p.block hp hs)
end

/-- A block that is known whole. -/
def Blk (w : World) (g : Nat) (t : TypeId) (cs : Array Value) : Prop := w.heap[g]? = some (.cells cs t (0, 0))

section
variable {w w' : World} {g : Nat} {t : TypeId} {cs : Array Value}
theorem lt_of_heap {o : Obj} (h : w.heap[g]? = some o) : g < w.heap.size := by
  rcases Nat.lt_or_ge g w.heap.size with hlt | hge
  · exact hlt
  · rw [Array.getElem?_eq_none hge] at h; cases h
theorem Blk.lt (h : Blk w g t cs) : g < w.heap.size := lt_of_heap h
theorem Blk.cell (h : Blk w g t cs) (i : Nat) : w.cell? ⟨g, i, none⟩ = cs[i]? := cell_of_row w g i cs t (0, 0) h
theorem Blk.frozen (h : Blk w g t cs) (i : Nat) : w.frozen? ⟨g, i, none⟩ = false := by
  unfold Blk at h
  simp [World.frozen?, h]
theorem Blk.new (w : World) (t : TypeId) (cs : Array Value) : Blk (w.alloc (.cells cs t)) w.heap.size t cs := heap_alloc_new w _
theorem Blk.keep (h : Blk w g t cs) (hk : w'.heap[g]? = w.heap[g]?) : Blk w' g t cs := hk.trans h
theorem Blk.alloc (h : Blk w g t cs) (o : Obj) : Blk (w.alloc o) g t cs := (Below.heap_alloc w o g h.lt).trans h
theorem Blk.set_ (h : Blk w g t cs) (i : Nat) (u : Value) : Blk (w.setCell ⟨g, i, none⟩ u) g t (cs.setIfInBounds i u) := by
  unfold Blk at h ⊢
  simp [World.setCell, Array.getElem?_modify, h]
theorem Blk.far (h : Blk w g t cs) {p : Addr} (hp : g ≠ p.block) (u : Value) : Blk (w.setCell p u) g t cs := (Below.heap_setCell w p u g hp).trans h
theorem Blk.below {B : Nat} (h : Blk w g t cs) (hb : Below B w w') (hg : g < B) : Blk w' g t cs := (hb.block g hg).trans h
theorem Blk.only {S : Nat → Prop} (h : Blk w g t cs) (hb : Only S w w') (hg : ¬ S g) : Blk w' g t cs := (hb.block g h.lt hg).trans h
theorem Blk.ne_ {g' : Nat} {t' : TypeId} {cs' : Array Value} (h : Blk w g t cs) (h' : Blk w g' t' cs') (hne : t ≠ t') : g ≠ g' := by
  rintro rfl
  unfold Blk at h h'
  rw [h] at h'
  injection h' with h'
  injection h' with _ ht
  exact hne ht
end

/-- A slice that is read: its cells are xs. -/
def Rd (w : World) (v : Value) (xs : List Value) : Prop :=
  ∃ A c, v = .slice A xs.length c ∧ xs.length ≤ c ∧ (∀ u ∈ xs, u.oneCell' = true) ∧ (0 < xs.length → ∃ b o, A = some ⟨b, o, none⟩ ∧ ∀ j u, xs[j]? = some u → w.cell? ⟨b, o + j, none⟩ = some u)

/-- A slice that lies in a row of its own: block g, if it has room for anything. -/
def Row (w : World) (e : TypeId) (g : Option Nat) (v : Value) (xs : List Value) : Prop :=
  ∃ A c, v = .slice A xs.length c ∧ xs.length ≤ c ∧ c ≤ maxLen ∧ (∀ u ∈ xs, u.oneCell' = true) ∧
    ((c = 0 ∧ g = none) ∨ ∃ b o cs, 0 < c ∧ g = some b ∧ A = some ⟨b, o, none⟩ ∧ w.heap[b]? = some (.cells cs e (0, 0)) ∧ o + c ≤ cs.size ∧ ∀ j u, xs[j]? = some u → cs[o + j]? = some u)

section
variable {w w' : World} {e : TypeId} {g : Option Nat} {v : Value} {xs : List Value}
theorem Row.rd (h : Row w e g v xs) : Rd w v xs := by
  obtain ⟨A, c, rfl, hle, _, h1, hg⟩ := h
  refine ⟨A, c, rfl, hle, h1, fun hp => ?_⟩
  rcases hg with ⟨rfl, _⟩ | ⟨b, o, cs, _, _, rfl, hb, _, hx⟩
  · omega
  · exact ⟨b, o, rfl, fun j u hu => (cell_of_row w b (o + j) cs e (0, 0) hb).trans (hx j u hu)⟩
theorem Row.lt (h : Row w e g v xs) {b : Nat} (hb : g = some b) : b < w.heap.size := by
  obtain ⟨A, c, rfl, _, _, _, hg⟩ := h
  rcases hg with ⟨_, rfl⟩ | ⟨b', o, cs, _, rfl, _, hh, _⟩
  · cases hb
  · cases hb; exact lt_of_heap hh
theorem Row.keep (h : Row w e g v xs) (hk : ∀ b, g = some b → w'.heap[b]? = w.heap[b]?) : Row w' e g v xs := by
  obtain ⟨A, c, rfl, hle, hm, h1, hg⟩ := h
  refine ⟨A, c, rfl, hle, hm, h1, ?_⟩
  rcases hg with hg | ⟨b, o, cs, hc, rfl, rfl, hh, hr⟩
  · exact .inl hg
  · exact .inr ⟨b, o, cs, hc, rfl, rfl, (hk b rfl).trans hh, hr⟩
theorem Row.only {S : Nat → Prop} (h : Row w e g v xs) (hb : Only S w w') (hg : ∀ b, g = some b → ¬ S b) : Row w' e g v xs :=
  h.keep fun b e' => hb.block b (h.lt e') (hg b e')
theorem Row.below {B : Nat} (h : Row w e g v xs) (hb : Below B w w') (hg : ∀ b, g = some b → b < B) : Row w' e g v xs :=
  h.keep fun b e' => hb.block b (hg b e')
theorem Row.alloc (h : Row w e g v xs) (o : Obj) : Row (w.alloc o) e g v xs := h.keep fun b e' => Below.heap_alloc w o b (h.lt e')
theorem Row.far (h : Row w e g v xs) {p : Addr} (hp : g ≠ some p.block) (u : Value) : Row (w.setCell p u) e g v xs :=
  h.keep fun b e' => Below.heap_setCell w p u b (fun e2 => hp (by rw [e', e2]))
theorem Row.ne_ {q : Nat} {t : TypeId} {cs : Array Value} (h : Row w e g v xs) (hq : Blk w q t cs) (hne : e ≠ t) : g ≠ some q := by
  obtain ⟨A, c, rfl, _, _, _, hg⟩ := h
  rcases hg with ⟨_, rfl⟩ | ⟨b', o, cs', _, rfl, _, hh, _⟩
  · simp
  · intro he
    cases he
    exact Blk.ne_ (t := e) hh hq hne rfl
theorem Row.nil (w : World) (e : TypeId) : Row w e none (.slice none 0 0) [] := ⟨none, 0, rfl, Nat.le_refl _, Nat.zero_le _, by simp, .inl ⟨rfl, rfl⟩⟩
theorem Row.empty (w : World) (e : TypeId) (A : Option Addr) : Row w e none (.slice A 0 0) [] := ⟨A, 0, rfl, Nat.le_refl _, Nat.zero_le _, by simp, .inl ⟨rfl, rfl⟩⟩
theorem Row.new (w : World) (e : TypeId) (cs : Array Value) (n : Nat) (hn : n = cs.size) (hm : n ≤ maxLen) (hp : 0 < n) (h1 : ∀ u ∈ cs.toList, u.oneCell' = true) :
    Row (w.alloc (.cells cs e)) e (some w.heap.size) (.slice (some ⟨w.heap.size, 0, none⟩) n n) cs.toList := by
  subst hn
  refine ⟨_, _, rfl, ?_, hm, h1, .inr ⟨w.heap.size, 0, cs, hp, rfl, rfl, heap_alloc_new w _, ?_, ?_⟩⟩
  · simp
  · simp
  · intro j u hu; simpa using hu

theorem Rd.keep {B : Nat} (h : Rd w v xs) (hB : ∀ b o c n, v = .slice (some ⟨b, o, none⟩) n c → b < B) (hb : Below B w w') : Rd w' v xs := by
  obtain ⟨A, c, rfl, hle, h1, hr⟩ := h
  refine ⟨A, c, rfl, hle, h1, fun hp => ?_⟩
  obtain ⟨b, o, rfl, hx⟩ := hr hp
  exact ⟨b, o, rfl, fun j u hu => (hb.cell (p := ⟨b, o + j, none⟩) (hB b o c _ rfl)).trans (hx j u hu)⟩
theorem Rd.le {A : Option Addr} {n c : Nat} (h : Rd w (.slice A n c) xs) : n ≤ c := by
  obtain ⟨_, _, e, hle, _⟩ := h
  injection e with _ e2 e3
  omega
theorem Rd.alloc (h : Rd w v xs) (o : Obj) : Rd (w.alloc o) v xs := by
  obtain ⟨A, c, rfl, hle, h1, hr⟩ := h
  refine ⟨A, c, rfl, hle, h1, fun hp => ?_⟩
  obtain ⟨b, o', rfl, hx⟩ := hr hp
  exact ⟨b, o', rfl, fun j u hu => (World.cell?_alloc_lt w o _ (World.block_lt_of_cell? w _ (hx j u hu))).trans (hx j u hu)⟩
theorem Rd.drew (h : Rd w v xs) : Rd w.drew v xs := h
theorem Rd.drewN (h : Rd w v xs) (n : Nat) : Rd (w.drewN n) v xs := h

theorem add_eq (b o j : Nat) : (⟨b, o, none⟩ : Addr).add j = ⟨b, o + j, none⟩ := by unfold Addr.add; split <;> simp_all

theorem Rd.src {P : Program} {t e' : TypeId} (hk : P.underlying t = some (.slice e')) (h : Rd w v xs) : Src P 1 t v xs.length xs w := by
  obtain ⟨A, c, rfl, hle, h1, hr⟩ := h
  rcases Nat.eq_zero_or_pos xs.length with h0 | hp
  · have : xs = [] := List.eq_nil_of_length_eq_zero h0
    subst this
    cases A with
    | none => exact Src.ofNil w hk c
    | some a => exact Src.ofSlice w hk a 0 c [] rfl (by intro j u hu; simp at hu) h1
  · obtain ⟨b, o, rfl, hx⟩ := hr hp
    exact Src.ofSlice w hk ⟨b, o, none⟩ _ c xs (by simp) (fun j u hu => by rw [add_eq]; exact hx j u hu) h1

/-- The first n of a slice that is read. -/
theorem Rd.take {A : Option Addr} {m c n : Nat} (h : Rd w (.slice A m c) xs) (hn : n ≤ m) : Rd w (.slice A n c) (xs.take n) := by
  obtain ⟨A', c', hv, hle, h1, hr⟩ := h
  injection hv with e1 e2 e3
  subst e1 e2 e3
  have hl : (xs.take n).length = n := by simp; omega
  refine ⟨A, c, by rw [hl], by omega, fun u hu => h1 u (List.mem_of_mem_take hu), fun hp => ?_⟩
  obtain ⟨b, o, rfl, hx⟩ := hr (by omega)
  refine ⟨b, o, rfl, fun j u hu => hx j u ?_⟩
  rw [List.getElem?_take] at hu
  split at hu
  · exact hu
  · cases hu
end

section
variable {P : Program}

/-- What append makes of a row of its own, whatever is appended. -/
theorem run_append_row (w : World) (t tx ty e : TypeId) (i : TypeInfo) (z : Value) (bytes : Nat) (ht : P.underlying t = some (.slice e)) (hi : P.info? e = some i) (hz : i.zero = some z)
    (hsize : i.size = 1) (hby : i.bytes = bytes) (hzs : z.cells.size = 1) {g : Option Nat} {v : Value} {xs : List Value} (h : Row w e g v xs)
    (x : Value) (m : Nat) (news : List Value) (hs : Src P 1 tx x m news w) (h63 : xs.length + m ≤ maxLen) (hbytes : (xs.length + m) * bytes ≤ 140737488355328) :
    ∃ v' w' g', (Builtin.append_ #[t, tx] ty #[v, x]).run P w = .ok v' w' ∧ Row w' e g' v' (xs ++ news) ∧ w.grownBy w' g ∧ (g' = g ∨ g' = some w.heap.size) := by
  have hnl : news.length = m := by rw [hs.newsLen, Nat.mul_one]
  have hlen : (xs ++ news).length = xs.length + m := by rw [List.length_append, hnl]
  obtain ⟨A, c, rfl, hle, hm, h1, hg⟩ := h
  have hone : ∀ u ∈ xs ++ news, u.oneCell' = true := fun u hu => by
    rcases List.mem_append.1 hu with hu | hu
    · exact h1 u hu
    · exact hs.one u hu
  by_cases hroom : xs.length + m ≤ c
  · -- there is room
    rcases hg with ⟨rfl, rfl⟩ | ⟨b, o, cs, hc, rfl, rfl, hb, hfit, hx⟩
    · have hx0 : xs = [] := List.eq_nil_of_length_eq_zero (by omega)
      have hn0 : news = [] := List.eq_nil_of_length_eq_zero (by omega)
      have hm0 : m = 0 := by omega
      subst hx0 hn0 hm0
      refine ⟨.slice A 0 0, w, none, ?_, ⟨A, 0, rfl, Nat.le_refl _, hm, by simp, .inl ⟨rfl, rfl⟩⟩, World.grownBy.refl w _, .inl rfl⟩
      have hc0 := hs.cells
      cases A with
      | none => rcases hs.kind with ⟨e', hk⟩ | hk <;> simp [Builtin.append_, run_underlying ht, run_underlying hk, sizeOf, typeInfo, hi, hs.len, hsize, hc0]
      | some a => rcases hs.kind with ⟨e', hk⟩ | hk <;> simp [Builtin.append_, run_underlying ht, run_underlying hk, sizeOf, typeInfo, hi, hs.len, hsize, hc0, storeCells]
    · have hs' : Src P i.size tx x m news w := by rw [hsize]; exact hs
      have hst := run_storeCells_at P b (o + xs.length) e news 0 cs w hb (by rw [hnl]; omega) hs.one
      simp only [Nat.add_zero] at hst
      have hrun : (Builtin.append_ #[t, tx] ty #[.slice (some ⟨b, o, none⟩) xs.length c, x]).run P w = .ok (.slice (some ⟨b, o, none⟩) (xs.length + m) c) (w.setRow b (cs.toList.take (o + xs.length) ++ news ++ cs.toList.drop (o + xs.length + news.length)).toArray) := by
        rcases hs.kind with ⟨e', hk⟩ | hk <;> simp [Builtin.append_, run_underlying ht, run_underlying hk, sizeOf, typeInfo, hi, hs.len, hroom, hs.cells, Addr.add_lit, hst, hsize]
      refine ⟨_, _, some b, hrun, ⟨some ⟨b, o, none⟩, c, by rw [hlen], by omega, hm, hone, .inr ⟨b, o, _, hc, rfl, rfl, setRow_heap w b cs _ e _ hb, ?_, ?_⟩⟩, ⟨rfl, rfl, rfl, by simp, fun k _ hk => setRow_other w b k _ (fun e => hk (by simp [e]))⟩, .inl rfl⟩
      · simp only [List.size_toArray, List.length_append, List.length_take, List.length_drop, Array.length_toList]
        omega
      · intro j u hu
        simp only [List.getElem?_toArray]
        by_cases hj : j < xs.length
        · rw [List.getElem?_append_left hj] at hu
          rw [List.append_assoc, List.getElem?_append_left (by simp; omega), List.getElem?_take, if_pos (by omega), Array.getElem?_toList]
          exact hx j u hu
        · have hj2 : j < (xs ++ news).length := (List.getElem?_eq_some_iff.1 hu).1
          rw [List.getElem?_append_right (by omega)] at hu
          have htl : (cs.toList.take (o + xs.length)).length = o + xs.length := by simp; omega
          rw [List.append_assoc, List.getElem?_append_right (by omega), htl, List.getElem?_append_left (by omega), show o + j - (o + xs.length) = j - xs.length by omega]
          exact hu
  · -- there is none
    have hs' : Src P i.size tx x m news w := by rw [hsize]; exact hs
    have hold : (Builtin.firstCells i.size xs.length (.slice A xs.length c)).run P w.drew = .ok xs.toArray w.drew := by
      rw [hsize]
      rcases hg with ⟨rfl, _⟩ | ⟨b, o, cs, hc, _, rfl, hb, _, hx⟩
      · have hx0 : xs = [] := List.eq_nil_of_length_eq_zero (by omega)
        subst hx0
        cases A with
        | none => exact run_firstCells_none w.drew 1 0 0 _
        | some a => exact run_firstCells_some w.drew 1 0 a 0 _ [] rfl (by intro j u hu; simp at hu)
      · exact run_firstCells_some w.drew 1 xs.length ⟨b, o, none⟩ _ c xs (by simp) (fun j u hu => by rw [add_eq]; exact (cell_of_row w b (o + j) cs e (0, 0) hb).trans (hx j u hu))
    have h64 : ((xs.length + m : Nat) : Int) ≤ 9223372036854775807 := by simp only [maxLen] at h63; omega
    have hr := run_append_grow_src (P := P) w t tx ty e i z ht hi hz A xs.length c xs hold x m news hs' (by omega) h64 (by rw [hby]; exact growslice_fits (by omega) hbytes)
    have hge := grownCap_ge w (xs.length + m) c e
    have hcm : grownCap w (xs.length + m) c e ≤ maxLen := grownCap_le_maxLen w (xs.length + m) c e h63
    refine ⟨_, _, some w.heap.size, hr, ⟨_, _, by rw [hlen], by omega, hcm, hone, .inr ⟨w.heap.size, 0, _, by omega, rfl, rfl, heap_alloc_new w.drew _, ?_, ?_⟩⟩, ⟨rfl, rfl, rfl, by simp, fun k hk _ => heap_alloc_old w.drew _ k hk⟩, .inr rfl⟩
    · simp only [Array.size_append, List.size_toArray, size_zeroCells, hzs, List.length_append, hnl]
      omega
    · intro j u hu
      have hj2 : j < (xs ++ news).length := (List.getElem?_eq_some_iff.1 hu).1
      rw [Nat.zero_add, Array.getElem?_append_left (by simpa using hj2), List.getElem?_toArray]
      exact hu

theorem Row.form {w : World} {e : TypeId} {g : Option Nat} {v : Value} {xs : List Value} (h : Row w e g v xs) : ∃ A c, v = .slice A xs.length c := by
  obtain ⟨A, c, rfl, _⟩ := h; exact ⟨A, c, rfl⟩

theorem wp_append_row (w : World) {o : Oper} {a : Act} {K : Act → World → Prop} {Q : Exit → Act → World → Prop} (s x : Operand) (t : TypeId)
    (ho : o.op = .call { callee := .builtin .append, args := #[s, x], argTypes := #[t, t] })
    (e : TypeId) (i : TypeInfo) (z : Value) (bytes : Nat) (ht : P.underlying t = some (.slice e)) (hi : P.info? e = some i) (hz : i.zero = some z)
    (hsize : i.size = 1) (hby : i.bytes = bytes) (hzs : z.cells.size = 1)
    (g : Option Nat) (v : Value) (xs : List Value) (hs : a.eval s = v) (hrow : Row w e g v xs) (xv : Value) (ys : List Value) (hx : a.eval x = xv) (hrd : Rd w xv ys)
    (h63 : xs.length + ys.length ≤ maxLen) (hbytes : (xs.length + ys.length) * bytes ≤ 140737488355328)
    (h : ∀ A' c' w' g', Row w' e g' (.slice A' (xs.length + ys.length) c') (xs ++ ys) → w.grownBy w' g → (g' = g ∨ g' = some w.heap.size) → K (a.put o.dst (.slice A' (xs.length + ys.length) c')) w') : o.wp P a w K Q := by
  obtain ⟨v', w', g', hrun, h2, h3, h4⟩ := run_append_row (P := P) w t t o.type e i z bytes ht hi hz hsize hby hzs hrow xv ys.length ys (hrd.src ht) h63 hbytes
  obtain ⟨A', c', rfl⟩ := h2.form
  rw [List.length_append] at h2 hrun
  unfold Oper.wp execOp
  simp only [ho, resolve, invoke, builtin, Sem.run_bind, Sem.run_pure, Result.andThen_ok, List.map_toArray, List.map_cons, List.map_nil, hs, hx, hrun]
  exact h A' c' w' g' h2 h3 h4

theorem wpList_append_row (w : World) {ops : Array Oper} {rest : List Oper} {o : Oper} {a : Act} {Q : Exit → Act → World → Prop} (hgd : o.guard = none) (s x : Operand) (t : TypeId)
    (ho : o.op = .call { callee := .builtin .append, args := #[s, x], argTypes := #[t, t] })
    (e : TypeId) (i : TypeInfo) (z : Value) (bytes : Nat) (ht : P.underlying t = some (.slice e)) (hi : P.info? e = some i) (hz : i.zero = some z)
    (hsize : i.size = 1) (hby : i.bytes = bytes) (hzs : z.cells.size = 1)
    (g : Option Nat) (v : Value) (xs : List Value) (hs : a.eval s = v) (hrow : Row w e g v xs) (xv : Value) (ys : List Value) (hx : a.eval x = xv) (hrd : Rd w xv ys)
    (h63 : xs.length + ys.length ≤ maxLen) (hbytes : (xs.length + ys.length) * bytes ≤ 140737488355328)
    (h : ∀ A' c' w' g', Row w' e g' (.slice A' (xs.length + ys.length) c') (xs ++ ys) → w.grownBy w' g → (g' = g ∨ g' = some w.heap.size) → wpList P ops Q rest (a.put o.dst (.slice A' (xs.length + ys.length) c')) w') : wpList P ops Q (o :: rest) a w :=
  wpList_plain hgd fun _ hK => wp_append_row w s x t ho e i z bytes ht hi hz hsize hby hzs g v xs hs hrow xv ys hx hrd h63 hbytes fun A' c' w' g' h2 h3 h4 => hK _ _ (h A' c' w' g' h2 h3 h4)

theorem step_append_row (w : World) {ops : Array Oper} {o : Oper} {a : Act} {K : Act → World → Prop} {Q : Exit → Act → World → Prop} {E : Prop} (hgd : o.guard = none) (s x : Operand) (t : TypeId)
    (ho : o.op = .call { callee := .builtin .append, args := #[s, x], argTypes := #[t, t] })
    (e : TypeId) (i : TypeInfo) (z : Value) (bytes : Nat) (ht : P.underlying t = some (.slice e)) (hi : P.info? e = some i) (hz : i.zero = some z)
    (hsize : i.size = 1) (hby : i.bytes = bytes) (hzs : z.cells.size = 1)
    (g : Option Nat) (v : Value) (xs : List Value) (hs : a.eval s = v) (hrow : Row w e g v xs) (xv : Value) (ys : List Value) (hx : a.eval x = xv) (hrd : Rd w xv ys)
    (h63 : xs.length + ys.length ≤ maxLen) (hbytes : (xs.length + ys.length) * bytes ≤ 140737488355328)
    (h : ∀ A' c' w' g', Row w' e g' (.slice A' (xs.length + ys.length) c') (xs ++ ys) → w.grownBy w' g → (g' = g ∨ g' = some w.heap.size) → K (a.put o.dst (.slice A' (xs.length + ys.length) c')) w') :
    if Region.wanted o (yielded ops a.tmps) = true then Oper.wp P o a w K Q else E := by
  have hw : Region.wanted o (yielded ops a.tmps) = true := by simp [Region.wanted, hgd]
  rw [if_pos hw]
  exact wp_append_row w s x t ho e i z bytes ht hi hz hsize hby hzs g v xs hs hrow xv ys hx hrd h63 hbytes h

/-- clear(s[:k]) and s[k:] of a row of its own. -/
theorem run_clear_row (w : World) (t e : TypeId) (z : Value) (ht : P.underlying t = some (.slice e)) (hv : ∀ w, (zeroValue e).run P w = .ok z w) (hz : z.cells = #[z]) (h1 : z.oneCell' = true)
    {g : Option Nat} {A : Option Addr} {n c : Nat} {xs : List Value} (h : Row w e g (.slice A n c) xs) (k : Nat) (hk : k ≤ xs.length) :
    ∃ w', (∀ ty, (Builtin.clear_ #[t] ty #[.slice A k c]).run P w = .ok (.tuple #[]) w') ∧ w.grownBy w' g ∧ Row w' e (if c = k then none else g) (.slice (if c = k then A else A.map (·.add k)) (n - k) (c - k)) (xs.drop k) := by
  obtain ⟨A', c', hv', hle, hm, hx1, hg⟩ := h
  injection hv' with e1 e2 e3
  subst e1 e2 e3
  have hx1' : ∀ u ∈ xs.drop k, u.oneCell' = true := fun u hu => hx1 u (List.mem_of_mem_drop hu)
  have hld : (xs.drop k).length = xs.length - k := by simp
  rcases hg with ⟨rfl, rfl⟩ | ⟨b, o, cs, hc, rfl, rfl, hb, hfit, hx⟩
  · obtain rfl : k = 0 := by omega
    have hx0 : xs = [] := List.eq_nil_of_length_eq_zero (by omega)
    subst hx0
    refine ⟨w, fun ty => ?_, World.grownBy.refl w _, ⟨A, 0, by simp, by simp, by simp, by simp, .inl ⟨rfl, by simp⟩⟩⟩
    cases A <;> simp [Builtin.clear_, run_underlying ht]
  · have key : ∃ w' cs', (∀ ty, (Builtin.clear_ #[t] ty #[.slice (some ⟨b, o, none⟩) k c]).run P w = .ok (.tuple #[]) w') ∧ w.grownBy w' (some b) ∧ w'.heap[b]? = some (.cells cs' e (0, 0)) ∧ cs'.size = cs.size ∧ ∀ j, k ≤ j → cs'[o + j]? = cs[o + j]? := by
      rcases Nat.eq_zero_or_pos k with rfl | hp
      · exact ⟨w, cs, fun ty => by simp [Builtin.clear_, run_underlying ht], World.grownBy.refl w _, hb, rfl, fun _ _ => rfl⟩
      · have hzc : (Builtin.zeroCells z.cells k).toList = List.replicate k z := by
          rw [hz]
          simp [Builtin.zeroCells]
          apply List.ext_getElem
          · simp
          · intro i h1 h2
            simp [Nat.mod_one]
        have hst := run_storeCells_at P b o e (List.replicate k z) 0 cs w hb (by simp; omega) (by intro v hv'; rw [List.eq_of_mem_replicate hv']; exact h1)
        simp only [Nat.add_zero] at hst
        refine ⟨w.setRow b (cs.toList.take o ++ List.replicate k z ++ cs.toList.drop (o + (List.replicate k z).length)).toArray, _, fun ty => ?_, ⟨rfl, rfl, rfl, by simp, fun i _ hi => setRow_other w b i (cs.toList.take o ++ List.replicate k z ++ cs.toList.drop (o + (List.replicate k z).length)).toArray (fun e => hi (by simp [e]))⟩, setRow_heap w b cs _ e _ hb, ?_, ?_⟩
        · obtain ⟨m, rfl⟩ : ∃ m, k = m + 1 := ⟨k - 1, by omega⟩
          simp [Builtin.clear_, run_underlying ht, hv, hzc, hst]
        · simp; omega
        · intro j hj
          have hto : (cs.toList.take o).length = o := by simp; omega
          simp only [List.getElem?_toArray]
          rw [List.append_assoc, List.getElem?_append_right (by omega), hto, List.getElem?_append_right (by simp; omega), List.length_replicate, List.getElem?_drop, Array.getElem?_toList]
          congr 1
          omega
    obtain ⟨w', cs', hrun, hgr, hb', hsz, hsame⟩ := key
    refine ⟨w', hrun, hgr, _, _, by rw [hld], by omega, by omega, hx1', ?_⟩
    by_cases hck : c = k
    · exact .inl ⟨by omega, by rw [if_pos hck]⟩
    · refine .inr ⟨b, o + k, cs', by omega, by rw [if_neg hck], by rw [if_neg hck]; simp [add_eq], hb', by omega, fun j u hu => ?_⟩
      rw [List.getElem?_drop] at hu
      have hj := (List.getElem?_eq_some_iff.1 hu).1
      rw [Nat.add_assoc, hsame (k + j) (by omega)]
      exact hx (k + j) u hu

end
end Go.Proofs.Yteapcahpkapbbaa
