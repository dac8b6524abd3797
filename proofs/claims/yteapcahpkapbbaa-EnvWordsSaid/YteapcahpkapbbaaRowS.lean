/-
  A slice whose elements have s cells each, in a row of its own (RowS), and what append makes of it; over no program.
  Conditions: none.
-/
import Derived.Test.YteapcahpkapbbaaMem
namespace Go.Proofs.Yteapcahpkapbbaa
open Go.RowKit

/-- A slice of elements of s cells that lies in a row of its own: block g, if it has room for anything. -/
def RowS (w : World) (e : TypeId) (s : Nat) (g : Option Nat) (v : Value) (n : Nat) (xs : List Value) : Prop :=
  ∃ A c, v = .slice A n c ∧ xs.length = n * s ∧ n ≤ c ∧ c ≤ maxLen ∧ (∀ u ∈ xs, u.oneCell' = true) ∧
    ((c = 0 ∧ g = none) ∨ ∃ b o cs, 0 < c ∧ g = some b ∧ A = some ⟨b, o, none⟩ ∧ w.heap[b]? = some (.cells cs e (0, 0)) ∧ o + c * s ≤ cs.size ∧ ∀ j u, xs[j]? = some u → cs[o + j]? = some u)

section
variable {w w' : World} {e : TypeId} {s n : Nat} {g : Option Nat} {v : Value} {xs : List Value}
theorem RowS.form (h : RowS w e s g v n xs) : ∃ A c, v = .slice A n c ∧ n ≤ c := by
  obtain ⟨A, c, rfl, _, h1, _⟩ := h; exact ⟨A, c, rfl, h1⟩
theorem RowS.len (h : RowS w e s g v n xs) : xs.length = n * s := by
  obtain ⟨A, c, rfl, h1, _⟩ := h; exact h1
theorem RowS.lt (h : RowS w e s g v n xs) {b : Nat} (hb : g = some b) : b < w.heap.size := by
  obtain ⟨A, c, rfl, _, _, _, _, hg⟩ := h
  rcases hg with ⟨_, rfl⟩ | ⟨b', o, cs, _, rfl, _, hh, _⟩
  · cases hb
  · cases hb; exact lt_of_heap hh
theorem RowS.obj (h : RowS w e s g v n xs) {b : Nat} (hb : g = some b) : ∃ cs, w.heap[b]? = some (.cells cs e (0, 0)) := by
  obtain ⟨A, c, rfl, _, _, _, _, hg⟩ := h
  rcases hg with ⟨_, rfl⟩ | ⟨b', o, cs, _, rfl, _, hh, _⟩
  · cases hb
  · cases hb; exact ⟨cs, hh⟩
theorem RowS.keep (h : RowS w e s g v n xs) (hk : ∀ b, g = some b → w'.heap[b]? = w.heap[b]?) : RowS w' e s g v n xs := by
  obtain ⟨A, c, rfl, hl, hle, hm, h1, hg⟩ := h
  refine ⟨A, c, rfl, hl, hle, hm, h1, ?_⟩
  rcases hg with hg | ⟨b, o, cs, hc, rfl, rfl, hh, hr⟩
  · exact .inl hg
  · exact .inr ⟨b, o, cs, hc, rfl, rfl, (hk b rfl).trans hh, hr⟩
theorem RowS.below {B : Nat} (h : RowS w e s g v n xs) (hb : Below B w w') (hg : ∀ b, g = some b → b < B) : RowS w' e s g v n xs :=
  h.keep fun b e' => hb.block b (hg b e')
theorem RowS.alloc (h : RowS w e s g v n xs) (o : Obj) : RowS (w.alloc o) e s g v n xs := h.keep fun b e' => Below.heap_alloc w o b (h.lt e')
theorem RowS.far (h : RowS w e s g v n xs) {p : Addr} (hp : g ≠ some p.block) (u : Value) : RowS (w.setCell p u) e s g v n xs :=
  h.keep fun b e' => Below.heap_setCell w p u b (fun e2 => hp (by rw [e', e2]))
theorem RowS.ne_ {q : Nat} {t : TypeId} {cs : Array Value} (h : RowS w e s g v n xs) (hq : Blk w q t cs) (hne : e ≠ t) : g ≠ some q := by
  intro he
  obtain ⟨cs', hh⟩ := h.obj he
  exact Blk.ne_ (t := e) hh hq hne rfl
theorem RowS.nil (w : World) (e : TypeId) (s : Nat) : RowS w e s none (.slice none 0 0) 0 [] := ⟨none, 0, rfl, by simp, Nat.le_refl _, Nat.zero_le _, by simp, .inl ⟨rfl, rfl⟩⟩
theorem RowS.new (w : World) (e : TypeId) (s : Nat) (cs : Array Value) (n : Nat) (hn : cs.size = n * s) (hm : n ≤ maxLen) (hp : 0 < n) (h1 : ∀ u ∈ cs.toList, u.oneCell' = true) :
    RowS (w.alloc (.cells cs e)) e s (some w.heap.size) (.slice (some ⟨w.heap.size, 0, none⟩) n n) n cs.toList := by
  refine ⟨_, _, rfl, by simpa using hn, Nat.le_refl _, hm, h1, .inr ⟨w.heap.size, 0, cs, hp, rfl, rfl, heap_alloc_new w _, ?_, ?_⟩⟩
  · omega
  · intro j u hu; simpa using hu
/-- Its cells. -/
theorem RowS.cells (h : RowS w e s g v n xs) (hp : 0 < n) : ∃ b o c, v = .slice (some ⟨b, o, none⟩) n c ∧ g = some b ∧ n ≤ c ∧ ∀ j u, xs[j]? = some u → w.cell? ⟨b, o + j, none⟩ = some u := by
  obtain ⟨A, c, rfl, hl, hle, hm, h1, hg⟩ := h
  rcases hg with ⟨rfl, _⟩ | ⟨b, o, cs, hc, rfl, rfl, hh, _, hx⟩
  · omega
  · exact ⟨b, o, c, rfl, rfl, hle, fun j u hu => (cell_of_row w b (o + j) cs e (0, 0) hh).trans (hx j u hu)⟩

/-- A store into a cell of it. -/
theorem RowS.set_ {b o c k : Nat} (h : RowS w e s g (.slice (some ⟨b, o, none⟩) n c) n xs) (hk : k < xs.length) {u : Value} (hu : u.oneCell' = true) :
    RowS (w.setCell ⟨b, o + k, none⟩ u) e s g (.slice (some ⟨b, o, none⟩) n c) n (xs.set k u) ∧ w.grownBy (w.setCell ⟨b, o + k, none⟩ u) g ∧ w.frozen? ⟨b, o + k, none⟩ = false := by
  obtain ⟨A, c', hv, hl, hle, hm, h1, hg⟩ := h
  injection hv with e1 e2 e3
  subst e1 e3
  rcases hg with ⟨rfl, _⟩ | ⟨b', o', cs, hc, rfl, e1, hb, hfit, hx⟩
  · have : n = 0 := by omega
    subst this
    omega
  · cases e1
    have hblk : Blk w b e cs := hb
    have hb' := hblk.set_ (o + k) u
    have hks : k < n * s := by omega
    have hcs : n * s ≤ c * s := Nat.mul_le_mul_right s hle
    refine ⟨⟨_, c, rfl, by rw [List.length_set]; exact hl, hle, hm, fun v hv => ?_, .inr ⟨b, o, _, hc, rfl, rfl, hb', by simpa using hfit, fun j v hj => ?_⟩⟩, ⟨rfl, rfl, rfl, by simp [World.setCell], fun i _ hi => Below.heap_setCell w _ u i (fun e2 => hi (by rw [e2]))⟩, hblk.frozen _⟩
    · rcases List.mem_or_eq_of_mem_set hv with hv | rfl
      · exact h1 v hv
      · exact hu
    · rw [List.getElem?_set] at hj
      rw [Array.getElem?_setIfInBounds]
      by_cases hjk : k = j
      · subst hjk
        rw [if_pos rfl, if_pos hk] at hj
        rw [if_pos rfl, if_pos (by omega)]
        exact hj
      · rw [if_neg hjk] at hj
        rw [if_neg (by omega)]
        exact hx j v hj
end

section
variable {P : Program}

/-- What append makes of a row of its own, whatever is appended. -/
theorem run_append_rowS (w : World) (t tx ty e : TypeId) (i : TypeInfo) (z : Value) (s bytes : Nat) (ht : P.underlying t = some (.slice e)) (hi : P.info? e = some i) (hz : i.zero = some z)
    (hsize : i.size = s) (hby : i.bytes = bytes) (hzs : z.cells.size = s) {g : Option Nat} {v : Value} {n : Nat} {xs : List Value} (h : RowS w e s g v n xs)
    (x : Value) (m : Nat) (news : List Value) (hs : Src P s tx x m news w) (h63 : n + m ≤ maxLen) (hbytes : (n + m) * bytes ≤ 140737488355328) :
    ∃ v' w' g', (Builtin.append_ #[t, tx] ty #[v, x]).run P w = .ok v' w' ∧ RowS w' e s g' v' (n + m) (xs ++ news) ∧ w.grownBy w' g ∧ (g' = g ∨ g' = some w.heap.size) := by
  have hnl : news.length = m * s := hs.newsLen
  obtain ⟨A, c, rfl, hl, hle, hm, h1, hg⟩ := h
  have hlen : (xs ++ news).length = (n + m) * s := by rw [List.length_append, hnl, hl, Nat.add_mul]
  have hone : ∀ u ∈ xs ++ news, u.oneCell' = true := fun u hu => by
    rcases List.mem_append.1 hu with hu | hu
    · exact h1 u hu
    · exact hs.one u hu
  by_cases hroom : n + m ≤ c
  · -- there is room
    rcases hg with ⟨rfl, rfl⟩ | ⟨b, o, cs, hc, rfl, rfl, hb, hfit, hx⟩
    · obtain rfl : n = 0 := by omega
      obtain rfl : m = 0 := by omega
      have hx0 : xs = [] := List.eq_nil_of_length_eq_zero (by omega)
      have hn0 : news = [] := List.eq_nil_of_length_eq_zero (by omega)
      subst hx0 hn0
      refine ⟨.slice A 0 0, w, none, ?_, ⟨A, 0, rfl, by simp, Nat.le_refl _, hm, by simp, .inl ⟨rfl, rfl⟩⟩, World.grownBy.refl w _, .inl rfl⟩
      have hc0 := hs.cells
      cases A with
      | none => rcases hs.kind with ⟨e', hk⟩ | hk <;> simp [Builtin.append_, run_underlying ht, run_underlying hk, sizeOf, typeInfo, hi, hs.len, hsize, hc0]
      | some a => rcases hs.kind with ⟨e', hk⟩ | hk <;> simp [Builtin.append_, run_underlying ht, run_underlying hk, sizeOf, typeInfo, hi, hs.len, hsize, hc0, storeCells]
    · have hfit2 : o + n * s + news.length ≤ cs.size := by
        have : (n + m) * s ≤ c * s := Nat.mul_le_mul_right s hroom
        rw [Nat.add_mul] at this
        omega
      have hst := run_storeCells_at P b (o + n * s) e news 0 cs w hb (by omega) hs.one
      simp only [Nat.add_zero] at hst
      have hrun : (Builtin.append_ #[t, tx] ty #[.slice (some ⟨b, o, none⟩) n c, x]).run P w = .ok (.slice (some ⟨b, o, none⟩) (n + m) c) (w.setRow b (cs.toList.take (o + n * s) ++ news ++ cs.toList.drop (o + n * s + news.length)).toArray) := by
        rcases hs.kind with ⟨e', hk⟩ | hk <;> simp [Builtin.append_, run_underlying ht, run_underlying hk, sizeOf, typeInfo, hi, hs.len, hroom, hs.cells, Addr.add_lit, hst, hsize]
      refine ⟨_, _, some b, hrun, ⟨some ⟨b, o, none⟩, c, rfl, hlen, hroom, hm, hone, .inr ⟨b, o, _, hc, rfl, rfl, setRow_heap w b cs _ e _ hb, ?_, ?_⟩⟩, ⟨rfl, rfl, rfl, by simp, fun k _ hk => setRow_other w b k _ (fun e => hk (by simp [e]))⟩, .inl rfl⟩
      · simp only [List.size_toArray, List.length_append, List.length_take, List.length_drop, Array.length_toList]
        omega
      · intro j u hu
        simp only [List.getElem?_toArray]
        by_cases hj : j < xs.length
        · rw [List.getElem?_append_left hj] at hu
          rw [List.append_assoc, List.getElem?_append_left (by simp; omega), List.getElem?_take, if_pos (by omega), Array.getElem?_toList]
          exact hx j u hu
        · have hj2 : j < (xs ++ news).length := (List.getElem?_eq_some_iff.1 hu).1
          rw [List.length_append] at hj2
          rw [List.getElem?_append_right (by omega)] at hu
          have htl : (cs.toList.take (o + n * s)).length = o + n * s := by simp; omega
          rw [List.append_assoc, List.getElem?_append_right (by omega), htl, List.getElem?_append_left (by omega), show o + j - (o + n * s) = j - xs.length by omega]
          exact hu
  · -- there is none
    have hs' : Src P i.size tx x m news w := by rw [hsize]; exact hs
    have hold : (Builtin.firstCells i.size n (.slice A n c)).run P w.drew = .ok xs.toArray w.drew := by
      rw [hsize]
      rcases hg with ⟨rfl, _⟩ | ⟨b, o, cs, hc, _, rfl, hb, _, hx⟩
      · obtain rfl : n = 0 := by omega
        have hx0 : xs = [] := List.eq_nil_of_length_eq_zero (by omega)
        subst hx0
        cases A with
        | none => exact run_firstCells_none w.drew s 0 0 _
        | some a => exact run_firstCells_some w.drew s 0 a 0 _ [] (by simp) (by intro j u hu; simp at hu)
      · exact run_firstCells_some w.drew s n ⟨b, o, none⟩ _ c xs hl (fun j u hu => by rw [add_eq]; exact (cell_of_row w b (o + j) cs e (0, 0) hb).trans (hx j u hu))
    have h64 : ((n + m : Nat) : Int) ≤ 9223372036854775807 := by simp only [maxLen] at h63; omega
    have hr := run_append_grow_src (P := P) w t tx ty e i z ht hi hz A n c xs hold x m news hs' (by omega) h64 (by rw [hby]; exact growslice_fits (by omega) hbytes)
    have hge := grownCap_ge w (n + m) c e
    have hcm : grownCap w (n + m) c e ≤ maxLen := grownCap_le_maxLen w (n + m) c e h63
    refine ⟨_, _, some w.heap.size, hr, ⟨_, _, rfl, hlen, by omega, hcm, hone, .inr ⟨w.heap.size, 0, _, by omega, rfl, rfl, heap_alloc_new w.drew _, ?_, ?_⟩⟩, ⟨rfl, rfl, rfl, by simp, fun k hk _ => heap_alloc_old w.drew _ k hk⟩, .inr rfl⟩
    · simp only [Array.size_append, List.size_toArray, size_zeroCells, hzs, hlen]
      rw [Nat.zero_add, ← Nat.add_mul]
      exact Nat.mul_le_mul_right s (by omega)
    · intro j u hu
      have hj2 : j < (xs ++ news).length := (List.getElem?_eq_some_iff.1 hu).1
      rw [Nat.zero_add, Array.getElem?_append_left (by simpa using hj2), List.getElem?_toArray]
      exact hu

theorem wp_append_rowS (w : World) {o : Oper} {a : Act} {K : Act → World → Prop} {Q : Exit → Act → World → Prop} (s x : Operand) (t : TypeId)
    (ho : o.op = .call { callee := .builtin .append, args := #[s, x], argTypes := #[t, t] })
    (e : TypeId) (i : TypeInfo) (z : Value) (size bytes : Nat) (ht : P.underlying t = some (.slice e)) (hi : P.info? e = some i) (hz : i.zero = some z)
    (hsize : i.size = size) (hby : i.bytes = bytes) (hzs : z.cells.size = size)
    (g : Option Nat) (v : Value) (n : Nat) (xs : List Value) (hs : a.eval s = v) (hrow : RowS w e size g v n xs) (xv : Value) (m : Nat) (ys : List Value) (hx : a.eval x = xv) (hsrc : Src P size t xv m ys w)
    (h63 : n + m ≤ maxLen) (hbytes : (n + m) * bytes ≤ 140737488355328)
    (h : ∀ A' c' w' g', RowS w' e size g' (.slice A' (n + m) c') (n + m) (xs ++ ys) → w.grownBy w' g → (g' = g ∨ g' = some w.heap.size) → K (a.put o.dst (.slice A' (n + m) c')) w') : o.wp P a w K Q := by
  obtain ⟨v', w', g', hrun, h2, h3, h4⟩ := run_append_rowS (P := P) w t t o.type e i z size bytes ht hi hz hsize hby hzs hrow xv m ys hsrc h63 hbytes
  obtain ⟨A', c', rfl, _⟩ := h2.form
  unfold Oper.wp execOp
  simp only [ho, resolve, invoke, builtin, Sem.run_bind, Sem.run_pure, Result.andThen_ok, List.map_toArray, List.map_cons, List.map_nil, hs, hx, hrun]
  exact h A' c' w' g' h2 h3 h4

theorem wpList_append_rowS (w : World) {ops : Array Oper} {rest : List Oper} {o : Oper} {a : Act} {Q : Exit → Act → World → Prop} (hgd : o.guard = none) (s x : Operand) (t : TypeId)
    (ho : o.op = .call { callee := .builtin .append, args := #[s, x], argTypes := #[t, t] })
    (e : TypeId) (i : TypeInfo) (z : Value) (size bytes : Nat) (ht : P.underlying t = some (.slice e)) (hi : P.info? e = some i) (hz : i.zero = some z)
    (hsize : i.size = size) (hby : i.bytes = bytes) (hzs : z.cells.size = size)
    (g : Option Nat) (v : Value) (n : Nat) (xs : List Value) (hs : a.eval s = v) (hrow : RowS w e size g v n xs) (xv : Value) (m : Nat) (ys : List Value) (hx : a.eval x = xv) (hsrc : Src P size t xv m ys w)
    (h63 : n + m ≤ maxLen) (hbytes : (n + m) * bytes ≤ 140737488355328)
    (h : ∀ A' c' w' g', RowS w' e size g' (.slice A' (n + m) c') (n + m) (xs ++ ys) → w.grownBy w' g → (g' = g ∨ g' = some w.heap.size) → wpList P ops Q rest (a.put o.dst (.slice A' (n + m) c')) w') : wpList P ops Q (o :: rest) a w :=
  wpList_plain hgd fun _ hK => wp_append_rowS w s x t ho e i z size bytes ht hi hz hsize hby hzs g v n xs hs hrow xv m ys hx hsrc h63 hbytes fun A' c' w' g' h2 h3 h4 => hK _ _ (h A' c' w' g' h2 h3 h4)

theorem step_append_rowS (w : World) {ops : Array Oper} {o : Oper} {a : Act} {K : Act → World → Prop} {Q : Exit → Act → World → Prop} {E : Prop} (hgd : o.guard = none) (s x : Operand) (t : TypeId)
    (ho : o.op = .call { callee := .builtin .append, args := #[s, x], argTypes := #[t, t] })
    (e : TypeId) (i : TypeInfo) (z : Value) (size bytes : Nat) (ht : P.underlying t = some (.slice e)) (hi : P.info? e = some i) (hz : i.zero = some z)
    (hsize : i.size = size) (hby : i.bytes = bytes) (hzs : z.cells.size = size)
    (g : Option Nat) (v : Value) (n : Nat) (xs : List Value) (hs : a.eval s = v) (hrow : RowS w e size g v n xs) (xv : Value) (m : Nat) (ys : List Value) (hx : a.eval x = xv) (hsrc : Src P size t xv m ys w)
    (h63 : n + m ≤ maxLen) (hbytes : (n + m) * bytes ≤ 140737488355328)
    (h : ∀ A' c' w' g', RowS w' e size g' (.slice A' (n + m) c') (n + m) (xs ++ ys) → w.grownBy w' g → (g' = g ∨ g' = some w.heap.size) → K (a.put o.dst (.slice A' (n + m) c')) w') :
    if Region.wanted o (yielded ops a.tmps) = true then Oper.wp P o a w K Q else E := by
  have hw : Region.wanted o (yielded ops a.tmps) = true := by simp [Region.wanted, hgd]
  rw [if_pos hw]
  exact wp_append_rowS w s x t ho e i z size bytes ht hi hz hsize hby hzs g v n xs hs hrow xv m ys hx hsrc h63 hbytes h
end
end Go.Proofs.Yteapcahpkapbbaa
