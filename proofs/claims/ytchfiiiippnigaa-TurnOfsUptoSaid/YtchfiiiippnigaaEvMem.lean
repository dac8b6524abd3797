/-
  Memory of bytes and of events: what []byte("..") of a constant is, blocks known whole read as bytes and as events; a row of bytes of the call's own (RowAt, BytTo); a list of events in a row of its own (EL), and what an append of an event makes of it.
  Conditions: none.
-/
import Derived.Test.YtchfiiiippnigaaEvSee
import Derived.Lib.SlBytesConst
namespace Go.Proofs.Ytchfiiiippnigaa
open Go.RowKit

/-- []byte("..") of a constant. -/
theorem run_const (W : World) (b : Nat) (C : Array Value) (n c : Nat) (h : b = W.heap.size) :
    (convert 31 31 (.slice (some ⟨b, 0, none⟩) n c)).run Try.prog (W.alloc (.cells C 5)) = .ok (.slice (some ⟨b, 0, none⟩) n c) (W.alloc (.cells C 5 (C.size, C.size + 1))) := by
  subst h
  exact Lib.run_convert_bytes_const (P := Try.prog) W 31 5 C n c Try.underlying31 Try.underlying5

theorem al_at {w : World} {o : Obj} {b : Nat} (h : b = w.heap.size) : (w.alloc o).heap[b]? = some o := by subst h; exact heap_alloc_new w o
theorem al_old {w : World} {o x : Obj} {b : Nat} (h : w.heap[b]? = some x) : (w.alloc o).heap[b]? = some x := (Below.heap_alloc w o b (lt_of_heap h)).trans h
theorem Rd.ofBlk {W : World} {b : Nat} {C : Array Value} {t : TypeId} {z : Nat × Nat} (h : W.heap[b]? = some (.cells C t z)) (l : List Nat) (hC : C.toList = bv l) : Rd W (.slice (some ⟨b, 0, none⟩) l.length l.length) (bv l) := by
  refine ⟨_, l.length, by rw [bv_len], by rw [bv_len]; exact Nat.le_refl _, bv_one l, fun _ => ⟨b, 0, rfl, fun j u hu => ?_⟩⟩
  rw [cell_of_row W b (0 + j) C t z h, Nat.zero_add, ← Array.getElem?_toList, hC]
  exact hu
theorem Evs.ofBlk {W : World} {b : Nat} {C : Array Value} {t : TypeId} {z : Nat × Nat} (h : W.heap[b]? = some (.cells C t z)) (l : List Ev) (hC : C.toList = evcs l) (hok : ∀ a ∈ l, EvOk (fun _ => True) W a) (hm : l.length ≤ 9223372036854775807) :
    Evs W (.slice (some ⟨b, 0, none⟩) l.length l.length) l := by
  refine ⟨hm, hok, _, l.length, rfl, Nat.le_refl _, fun _ => ⟨b, 0, rfl, trivial, fun j a ha => ?_⟩⟩
  obtain ⟨x0, x1, x2⟩ := evcs_at ha
  refine ⟨?_, ?_, ?_⟩ <;> rw [cell_of_row W b _ C t z h, ← Array.getElem?_toList, hC, Nat.zero_add]
  · exact x0
  · exact x1
  · exact x2
theorem EvOk.ofBlk {W : World} {b : Nat} {C : Array Value} {t : TypeId} {z : Nat × Nat} (h : W.heap[b]? = some (.cells C t z)) (d tm : Int) (l : List Nat) (hC : C.toList = bv l) (hb : ∀ x ∈ l, x < 256) (hm : l.length ≤ 9223372036854775807) : EvOk (fun _ => True) W ⟨d, tm, some ⟨b, 0, none⟩, l.length, l⟩ :=
  ⟨Rd.ofBlk h l hC, hm, hb, fun _ _ _ => trivial⟩

/-- A row of bytes of the call's own. -/
def RowAt (w0 w : World) (A : Option Addr) (c : Nat) (g : Option Nat) (l : List Nat) : Prop :=
  Row w 5 g (.slice A l.length c) (bv l) ∧ (∀ b, g = some b → w0.heap.size ≤ b) ∧ Below w0.heap.size w0 w
theorem RowAt.more {w0 w w1 w' : World} {A A' : Option Addr} {c c' : Nat} {g g' : Option Nat} {l m : List Nat} (h : RowAt w0 w A c g l) (hb : Below w.heap.size w w1)
    (hr : Row w' 5 g' (.slice A' (l.length + m.length) c') (bv l ++ bv m)) (hg : w1.grownBy w' g) (hg' : g' = g ∨ g' = some w1.heap.size) :
    RowAt w0 w' A' c' g' (l ++ m) := by
  obtain ⟨h1, h3, h4⟩ := h
  have h5 : Below w0.heap.size w0 w1 := h4.trans (hb.mono h4.size)
  refine ⟨?_, ?_, ?_⟩
  · rw [List.length_append]
    simpa [bv] using hr
  · rcases hg' with rfl | rfl
    · exact h3
    · intro b e; cases e; exact h5.size
  · exact ((Only.of_below h5 (Nat.le_refl _) (fun b => some b = g)).grown hg (fun k e => .inl e.symm)).below (Nat.le_refl _) (fun i hi e => by have := h3 i e.symm; omega)

/-- What Bytes leaves: bytes in a row of their own. -/
def BytTo (w : World) (bs : List Nat) (e : Ending) (w' : World) : Prop :=
  ∃ A c g, e = .returned (.slice A bs.length c) ∧ Row w' 5 g (.slice A bs.length c) (bv bs) ∧ (∀ b, g = some b → w.heap.size ≤ b) ∧ Below w.heap.size w w'

/-- A list of events in a row of its own, in blocks of T; its bytes in blocks of D, which lay, or in such blocks of bytes. -/
structure EL (D T : Nat → Prop) (W : World) (g : Option Nat) (v : Value) (l : List Ev) : Prop where
  row : RowS W 44 3 g v l.length (evcs l)
  fresh : ∀ b, g = some b → T b ∧ ¬ D b
  ok : ∀ a ∈ l, EvOk (fun b => D b ∨ (T b ∧ ∃ cs, W.heap[b]? = some (.cells cs 5 (0, 0)))) W a

section
variable {D T : Nat → Prop} {W W' : World} {g g' : Option Nat} {v v' : Value} {l : List Ev}
theorem EL.nil (D T : Nat → Prop) (W : World) : EL D T W none (.slice none 0 0) [] := ⟨RowS.nil W _ _, by simp, by simp⟩
theorem EvOk.tkeep {a : Ev} (h : EvOk (fun b => D b ∨ (T b ∧ ∃ cs, W.heap[b]? = some (.cells cs 5 (0, 0)))) W a) (hk : ∀ b, (D b ∨ (T b ∧ ∃ cs, W.heap[b]? = some (.cells cs 5 (0, 0)))) → b < W.heap.size → W'.heap[b]? = W.heap[b]?) :
    EvOk (fun b => D b ∨ (T b ∧ ∃ cs, W'.heap[b]? = some (.cells cs 5 (0, 0)))) W' a := by
  have h1 := h.keep hk
  refine ⟨h1.rd, h1.max, h1.byte, fun hp p e => ?_⟩
  have hin := h.inn hp p e
  have hlt := h.lt hp p e
  rcases hin with h2 | ⟨h2, cs, h3⟩
  · exact .inl h2
  · exact .inr ⟨h2, cs, (hk _ (.inr ⟨h2, cs, h3⟩) hlt).trans h3⟩
theorem EL.keep (h : EL D T W g v l) (hk : ∀ b, b < W.heap.size → (D b ∨ (T b ∧ ∃ cs t, (t = 5 ∨ t = 44) ∧ W.heap[b]? = some (.cells cs t (0, 0)))) → W'.heap[b]? = W.heap[b]?) : EL D T W' g v l :=
  ⟨h.row.keep fun b e => hk b (h.row.lt e) (.inr ⟨(h.fresh b e).1, by obtain ⟨cs, hc⟩ := h.row.obj e; exact ⟨cs, _, .inr rfl, hc⟩⟩), h.fresh, fun a ha => (h.ok a ha).tkeep fun b hb hlt => hk b hlt (hb.elim .inl fun ⟨hT, cs, hc⟩ => .inr ⟨hT, cs, _, .inl rfl, hc⟩)⟩
theorem EL.below (h : EL D T W g v l) (hb : Below W.heap.size W W') : EL D T W' g v l := h.keep fun b hlt _ => hb.block b hlt
theorem EL.alloc (h : EL D T W g v l) (o : Obj) : EL D T (W.alloc o) g v l := h.below ((Below.refl _ W).alloc (Nat.le_refl _) _)
/-- Behind an append of one event. -/
theorem EL.snoc {a : Ev} (h : EL D T W g v l) (ha : EvOk (fun b => D b ∨ (T b ∧ ∃ cs, W.heap[b]? = some (.cells cs 5 (0, 0)))) W a) (hr : RowS W' 44 3 g' v' (l.length + 1) (evcs l ++ evc a)) (hg : W.grownBy W' g) (hg' : g' = g ∨ g' = some W.heap.size) (hT : T W.heap.size ∧ ¬ D W.heap.size) : EL D T W' g' v' (l ++ [a]) := by
  have hk : ∀ b, (D b ∨ (T b ∧ ∃ cs, W.heap[b]? = some (.cells cs 5 (0, 0)))) → b < W.heap.size → W'.heap[b]? = W.heap[b]? := by
    intro b hb hlt
    refine hg.block b hlt fun e => ?_
    obtain ⟨cs', hh⟩ := h.row.obj e.symm
    rcases hb with hb | ⟨_, cs, hb⟩
    · exact (h.fresh b e.symm).2 hb
    · rw [hh] at hb
      injection hb with hb
      injection hb with _ hb
      cases hb
  refine ⟨by rw [evcs_snoc, List.length_append]; exact hr, ?_, fun x hx => ?_⟩
  · rcases hg' with rfl | rfl
    · exact h.fresh
    · intro b e; cases e; exact hT
  · rcases List.mem_append.1 hx with hx | hx
    · exact (h.ok x hx).tkeep hk
    · rw [List.mem_singleton.1 hx]; exact ha.tkeep hk
theorem EL.evsIn (h : EL D T W g v l) (hm : l.length ≤ 9223372036854775807) {S : Nat → Prop} (h1 : ∀ b, D b → S b) (h2 : ∀ b, T b → S b) : EvsIn S W v l := by
  obtain ⟨A, c, rfl, hle⟩ := h.row.form
  refine ⟨hm, fun a ha => (h.ok a ha).mono fun b _ hb => hb.elim (h1 b) fun hb => h2 b hb.1, A, c, rfl, hle, fun hp => ?_⟩
  obtain ⟨b, o, c', e, hg, _, hx⟩ := h.row.cells hp
  injection e with e1 e2 e3
  refine ⟨b, o, e1, h2 b (h.fresh b hg).1, fun j a ha => ?_⟩
  obtain ⟨x0, x1, x2⟩ := evcs_at ha
  exact ⟨hx _ _ x0, by rw [Nat.add_assoc]; exact hx _ _ x1, by rw [Nat.add_assoc]; exact hx _ _ x2⟩
end
/-- A copied event's bytes. -/
theorem EvOk.ofRow {W : World} {d t : Int} {A : Option Addr} {c : Nat} {bs : List Nat} {g : Option Nat} {S : Nat → Prop} (h : Row W 5 g (.slice A bs.length c) (bv bs)) (hb : ∀ x ∈ bs, x < 256) (hm : bs.length ≤ 9223372036854775807) (hS : ∀ b, g = some b → (∃ cs, W.heap[b]? = some (.cells cs 5 (0, 0))) → S b) : EvOk S W ⟨d, t, A, c, bs⟩ := by
  refine ⟨h.rd, hm, hb, fun hp p e => ?_⟩
  have h' := h
  obtain ⟨A', c', e1, hle, _, _, hh⟩ := h'
  injection e1 with e2 e3 e4
  rcases hh with ⟨h0, _⟩ | ⟨b, o, cs, _, e5, e6, hh, _⟩
  · dsimp only at hp
    rw [bv_len] at hle
    omega
  · dsimp only at e
    rw [e2, e6] at e
    cases e
    exact hS b e5 ⟨cs, hh⟩

theorem wpList_append_ev (w : World) {ops : Array Oper} {rest : List Oper} {o : Oper} {a : Act} {Q : Exit → Act → World → Prop}
    (hgd : o.guard = none) (s x : Operand) (ho : o.op = Op.call { callee := Callee.builtin Builtin.append, args := #[s, x], argTypes := #[22, 22] })
    (g : Option Nat) (v : Value) (m : Nat) (xs : List Value) (hs : a.eval s = v) (hrow : RowS w 44 3 g v m xs) (xv : Value) (ys : List Value) (hx : a.eval x = xv) (hsrc : Src Try.prog 3 22 xv 1 ys w)
    (hm : m ≤ 16777216)
    (h : ∀ A' c' w' g', RowS w' 44 3 g' (.slice A' (m + 1) c') (m + 1) (xs ++ ys) → w.grownBy w' g → (g' = g ∨ g' = some w.heap.size) → wpList Try.prog ops Q rest (a.put o.dst (.slice A' (m + 1) c')) w') :
    wpList Try.prog ops Q (o :: rest) a w := by
  obtain ⟨i0, hi0, hz0, hz1, hz2⟩ := info_parts ev_info
  refine wpList_plain hgd fun K hK' => ?_
  obtain ⟨v', w', g', hrun, h2, h3, h4⟩ := run_append_rowS (P := Try.prog) w 22 22 o.type 44 i0 _ 3 40 Try.underlying22 hi0 hz0 hz1 hz2 rfl hrow xv 1 ys hsrc (by simp only [maxLen]; omega) (by omega)
  obtain ⟨A', c', rfl, _⟩ := h2.form
  unfold Oper.wp execOp
  simp only [ho, resolve, invoke, builtin, Sem.run_bind, Sem.run_pure, Result.andThen_ok, List.map_toArray, List.map_cons, List.map_nil, hs, hx, hrun]
  exact hK' _ _ (h A' c' w' g' h2 h3 h4)

/-- append of one event, as an equation. -/
theorem append_ev {w : World} (ty : TypeId) (a : Ev) {g : Option Nat} {v : Value} {m : Nat} {xs : List Value} (hrow : RowS (w.alloc (.cells #[.int .i64 a.dir, .int .i64 a.time, .slice a.A a.data.length a.c] 44)) 44 3 g v m xs) (hm : m ≤ 16777216) :
    ∃ A' c' w' g', (Builtin.append_ #[22, 22] ty #[v, .slice (some ⟨w.heap.size, 0, none⟩) 1 1]).run Try.prog (w.alloc (.cells #[.int .i64 a.dir, .int .i64 a.time, .slice a.A a.data.length a.c] 44)) = .ok (.slice A' (m + 1) c') w' ∧ RowS w' 44 3 g' (.slice A' (m + 1) c') (m + 1) (xs ++ evc a) ∧
      (w.alloc (.cells #[.int .i64 a.dir, .int .i64 a.time, .slice a.A a.data.length a.c] 44)).grownBy w' g ∧ (g' = g ∨ g' = some (w.heap.size + 1)) := by
  obtain ⟨i0, hi0, hz0, hz1, hz2⟩ := info_parts ev_info
  obtain ⟨v', w', g', hrun, h2, h3, h4⟩ := run_append_rowS (P := Try.prog) _ 22 22 ty 44 i0 _ 3 40 Try.underlying22 hi0 hz0 hz1 hz2 rfl hrow _ 1 (evc a) (ev_src a) (by simp only [maxLen]; omega) (by omega)
  obtain ⟨A', c', rfl, _⟩ := h2.form
  exact ⟨A', c', w', g', hrun, h2, h3, by rw [World.size_alloc] at h4; exact h4⟩

end Go.Proofs.Ytchfiiiippnigaa
