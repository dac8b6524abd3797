/-
  event.Of: the events of a direction in memory of their own; the closure that it hands out; cuecardlaw04.of.
  Conditions: at most 1048576 events, of at most 1048576 bytes each.
-/
import Derived.Test.YtakcoplpmhgoiaaEvCopy
import Derived.Shelf.RegionOpen
namespace Go.Proofs.Ytakcoplpmhgoiaa
open Go.RowKit Go.Shelf

attribute [local go_sem] Oper.semAt_some

/-- A list of events in a row of its own, in blocks of T; its bytes in blocks of D, which lay, or in such blocks of bytes. -/
structure EL (D T : Nat → Prop) (W : World) (g : Option Nat) (v : Value) (l : List Ev) : Prop where
  row : RowS W 25 3 g v l.length (evcs l)
  fresh : ∀ b, g = some b → T b ∧ ¬ D b
  ok : ∀ a ∈ l, EvOk (fun b => D b ∨ (T b ∧ ∃ cs, W.heap[b]? = some (.cells cs 5 (0, 0)))) W a

section
variable {D T : Nat → Prop} {W W' : World} {g g' : Option Nat} {v v' : Value} {l : List Ev}
theorem EL.nil (D T : Nat → Prop) (W : World) : EL D T W none (.slice none 0 0) [] := ⟨RowS.nil W _ _, by simp, by simp⟩
theorem EvOk.tkeep {a : Ev} (h : EvOk (fun b => D b ∨ (T b ∧ ∃ cs, W.heap[b]? = some (.cells cs 5 (0, 0)))) W a) (hk : ∀ b, (D b ∨ (T b ∧ ∃ cs, W.heap[b]? = some (.cells cs 5 (0, 0)))) → b < W.heap.size → W'.heap[b]? = W.heap[b]?) :
    EvOk (fun b => D b ∨ (T b ∧ ∃ cs, W'.heap[b]? = some (.cells cs 5 (0, 0)))) W' a := by
  have h1 := h.keep hk
  refine ⟨h1.rd, h1.max, h1.byte, fun hp p e => ?_⟩
  have hin := h.inn hp p e
  have hlt := h.lt hp p e
  rcases hin with h2 | ⟨h2, cs, h3⟩
  · exact .inl h2
  · exact .inr ⟨h2, cs, (hk _ (.inr ⟨h2, cs, h3⟩) hlt).trans h3⟩
theorem EL.keep (h : EL D T W g v l) (hk : ∀ b, b < W.heap.size → (D b ∨ (T b ∧ ∃ cs t, (t = 5 ∨ t = 25) ∧ W.heap[b]? = some (.cells cs t (0, 0)))) → W'.heap[b]? = W.heap[b]?) : EL D T W' g v l :=
  ⟨h.row.keep fun b e => hk b (h.row.lt e) (.inr ⟨(h.fresh b e).1, by obtain ⟨cs, hc⟩ := h.row.obj e; exact ⟨cs, _, .inr rfl, hc⟩⟩), h.fresh, fun a ha => (h.ok a ha).tkeep fun b hb hlt => hk b hlt (hb.elim .inl fun ⟨hT, cs, hc⟩ => .inr ⟨hT, cs, _, .inl rfl, hc⟩)⟩
theorem EL.below (h : EL D T W g v l) (hb : Below W.heap.size W W') : EL D T W' g v l := h.keep fun b hlt _ => hb.block b hlt
theorem EL.alloc (h : EL D T W g v l) (o : Obj) : EL D T (W.alloc o) g v l := h.below ((Below.refl _ W).alloc (Nat.le_refl _) _)
/-- Behind an append of one event. -/
theorem EL.snoc {a : Ev} (h : EL D T W g v l) (ha : EvOk (fun b => D b ∨ (T b ∧ ∃ cs, W.heap[b]? = some (.cells cs 5 (0, 0)))) W a) (hr : RowS W' 25 3 g' v' (l.length + 1) (evcs l ++ evc a)) (hg : W.grownBy W' g) (hg' : g' = g ∨ g' = some W.heap.size) (hT : T W.heap.size ∧ ¬ D W.heap.size) : EL D T W' g' v' (l ++ [a]) := by
  have hk : ∀ b, (D b ∨ (T b ∧ ∃ cs, W.heap[b]? = some (.cells cs 5 (0, 0)))) → b < W.heap.size → W'.heap[b]? = W.heap[b]? := by
    intro b hb hlt
    refine hg.block b hlt fun e => ?_
    obtain ⟨cs', hh⟩ := h.row.obj e.symm
    rcases hb with hb | ⟨_, cs, hb⟩
    · exact (h.fresh b e.symm).2 hb
    · rw [hh] at hb
      injection hb with hb
      injection hb with _ hb
      cases hb
  refine ⟨by rw [evcs_snoc, List.length_append]; exact hr, ?_, fun x hx => ?_⟩
  · rcases hg' with rfl | rfl
    · exact h.fresh
    · intro b e; cases e; exact hT
  · rcases List.mem_append.1 hx with hx | hx
    · exact (h.ok x hx).tkeep hk
    · rw [List.mem_singleton.1 hx]; exact ha.tkeep hk
theorem EL.evsIn (h : EL D T W g v l) (hm : l.length ≤ 9223372036854775807) {S : Nat → Prop} (h1 : ∀ b, D b → S b) (h2 : ∀ b, T b → S b) : EvsIn S W v l := by
  obtain ⟨A, c, rfl, hle⟩ := h.row.form
  refine ⟨hm, fun a ha => (h.ok a ha).mono fun b _ hb => hb.elim (h1 b) fun hb => h2 b hb.1, A, c, rfl, hle, fun hp => ?_⟩
  obtain ⟨b, o, c', e, hg, _, hx⟩ := h.row.cells hp
  injection e with e1 e2 e3
  refine ⟨b, o, e1, h2 b (h.fresh b hg).1, fun j a ha => ?_⟩
  obtain ⟨x0, x1, x2⟩ := evcs_at ha
  exact ⟨hx _ _ x0, by rw [Nat.add_assoc]; exact hx _ _ x1, by rw [Nat.add_assoc]; exact hx _ _ x2⟩
end
/-- A copied event's bytes. -/
theorem EvOk.ofRow {W : World} {d t : Int} {A : Option Addr} {c : Nat} {bs : List Nat} {g : Option Nat} {S : Nat → Prop} (h : Row W 5 g (.slice A bs.length c) (bv bs)) (hb : ∀ x ∈ bs, x < 256) (hm : bs.length ≤ 9223372036854775807) (hS : ∀ b, g = some b → (∃ cs, W.heap[b]? = some (.cells cs 5 (0, 0))) → S b) : EvOk S W ⟨d, t, A, c, bs⟩ := by
  refine ⟨h.rd, hm, hb, fun hp p e => ?_⟩
  have h' := h
  obtain ⟨A', c', e1, hle, _, _, hh⟩ := h'
  injection e1 with e2 e3 e4
  rcases hh with ⟨h0, _⟩ | ⟨b, o, cs, _, e5, e6, hh, _⟩
  · dsimp only at hp
    rw [bv_len] at hle
    omega
  · dsimp only at e
    rw [e2, e6] at e
    cases e
    exact hS b e5 ⟨cs, hh⟩

theorem wpListIn_append_ev {F : Fence} {n : Nat} (w : World) {ops : Array Oper} {rest : List Oper} {o : Oper} {a : Act} {Q : Exit → Act → World → Prop}
    (hgd : o.guard = none) (s x : Operand) (ho : o.op = Op.call { callee := Callee.builtin Builtin.append, args := #[s, x], argTypes := #[22, 22] })
    (g : Option Nat) (v : Value) (m : Nat) (xs : List Value) (hs : a.eval s = v) (hrow : RowS w 25 3 g v m xs) (xv : Value) (ys : List Value) (hx : a.eval x = xv) (hsrc : Src Try.prog 3 22 xv 1 ys w)
    (hm : m ≤ 16777216)
    (h : ∀ A' c' w' g', RowS w' 25 3 g' (.slice A' (m + 1) c') (m + 1) (xs ++ ys) → w.grownBy w' g → (g' = g ∨ g' = some w.heap.size) → wpListIn F n Try.prog ops Q rest (a.put o.dst (.slice A' (m + 1) c')) w') :
    wpListIn F n Try.prog ops Q (o :: rest) a w := by
  obtain ⟨i0, hi0, hz0, hz1, hz2⟩ := info_parts ev_info
  refine wpListIn_plain hgd fun K hK' => ?_
  obtain ⟨v', w', g', hrun, h2, h3, h4⟩ := run_append_rowS (P := Try.prog) w 22 22 o.type 25 i0 _ 3 40 Try.underlying22 hi0 hz0 hz1 hz2 rfl hrow xv 1 ys hsrc (by simp only [maxLen]; omega) (by omega)
  obtain ⟨A', c', rfl, _⟩ := h2.form
  unfold Oper.wpIn
  refine ⟨?_, ?_⟩
  · simp [Oper.about, ho, resolve, Target.leads, Sem.run_pure]
  · rw [Oper.semAt_plain F _ _ (by rw [ho]; intro c hc'; cases hc')]
    simp [execOp, ho, resolve, invoke, builtin, hs, hx, hrun, Result.andThen]
    exact hK' _ _ (h A' c' w' g' h2 h3 h4)
theorem wpList_append_ev (w : World) {ops : Array Oper} {rest : List Oper} {o : Oper} {a : Act} {Q : Exit → Act → World → Prop}
    (hgd : o.guard = none) (s x : Operand) (ho : o.op = Op.call { callee := Callee.builtin Builtin.append, args := #[s, x], argTypes := #[22, 22] })
    (g : Option Nat) (v : Value) (m : Nat) (xs : List Value) (hs : a.eval s = v) (hrow : RowS w 25 3 g v m xs) (xv : Value) (ys : List Value) (hx : a.eval x = xv) (hsrc : Src Try.prog 3 22 xv 1 ys w)
    (hm : m ≤ 16777216)
    (h : ∀ A' c' w' g', RowS w' 25 3 g' (.slice A' (m + 1) c') (m + 1) (xs ++ ys) → w.grownBy w' g → (g' = g ∨ g' = some w.heap.size) → wpList Try.prog ops Q rest (a.put o.dst (.slice A' (m + 1) c')) w') :
    wpList Try.prog ops Q (o :: rest) a w := by
  obtain ⟨i0, hi0, hz0, hz1, hz2⟩ := info_parts ev_info
  refine wpList_plain hgd fun K hK' => ?_
  obtain ⟨v', w', g', hrun, h2, h3, h4⟩ := run_append_rowS (P := Try.prog) w 22 22 o.type 25 i0 _ 3 40 Try.underlying22 hi0 hz0 hz1 hz2 rfl hrow xv 1 ys hsrc (by simp only [maxLen]; omega) (by omega)
  obtain ⟨A', c', rfl, _⟩ := h2.form
  unfold Oper.wp execOp
  simp only [ho, resolve, invoke, builtin, Sem.run_bind, Sem.run_pure, Result.andThen_ok, List.map_toArray, List.map_cons, List.map_nil, hs, hx, hrun]
  exact hK' _ _ (h A' c' w' g' h2 h3 h4)

/-- append of one event, as an equation. -/
theorem append_ev {w : World} (ty : TypeId) (a : Ev) {g : Option Nat} {v : Value} {m : Nat} {xs : List Value} (hrow : RowS (w.alloc (.cells #[.int .i64 a.dir, .int .i64 a.time, .slice a.A a.data.length a.c] 25)) 25 3 g v m xs) (hm : m ≤ 16777216) :
    ∃ A' c' w' g', (Builtin.append_ #[22, 22] ty #[v, .slice (some ⟨w.heap.size, 0, none⟩) 1 1]).run Try.prog (w.alloc (.cells #[.int .i64 a.dir, .int .i64 a.time, .slice a.A a.data.length a.c] 25)) = .ok (.slice A' (m + 1) c') w' ∧ RowS w' 25 3 g' (.slice A' (m + 1) c') (m + 1) (xs ++ evc a) ∧
      (w.alloc (.cells #[.int .i64 a.dir, .int .i64 a.time, .slice a.A a.data.length a.c] 25)).grownBy w' g ∧ (g' = g ∨ g' = some (w.heap.size + 1)) := by
  obtain ⟨i0, hi0, hz0, hz1, hz2⟩ := info_parts ev_info
  obtain ⟨v', w', g', hrun, h2, h3, h4⟩ := run_append_rowS (P := Try.prog) _ 22 22 ty 25 i0 _ 3 40 Try.underlying22 hi0 hz0 hz1 hz2 rfl hrow _ 1 (evc a) (ev_src a) (by simp only [maxLen]; omega) (by omega)
  obtain ⟨A', c', rfl, _⟩ := h2.form
  exact ⟨A', c', w', g', hrun, h2, h3, by rw [World.size_alloc] at h4; exact h4⟩

/-- A variable that holds such a list, of given events. -/
def ListI (w : World) (S D : Nat → Prop) (Bo : Nat) (ps : List PE) (W : World) : Prop :=
  ∃ v g l, pes l = ps ∧ Blk W Bo 22 #[v] ∧ EL D (fun b => w.heap.size ≤ b ∧ ¬ S b) W g v l ∧ Below w.heap.size w W ∧ ∀ b, S b → b < W.heap.size
theorem ListI.own {β : Type} (w : World) (S D : Nat → Prop) (Bo B : Nat) (f : β → List PE) (hB : w.heap.size ≤ B) (hD : ∀ b, D b → b < B) : OwnFrom B (fun pre W => ListI w S D Bo (f pre) W) := by
  rintro s W W' row ⟨v, g, l, hp, hb, hl, hbel, hlt⟩ hg hrow
  refine ⟨v, g, l, hp, hb.keep (cells_kept hg hrow hb), hl.keep (fun b hbl hh => ?_), hbel.grown hg hbel.size (fun k e => by have := (hrow k e).1; omega), fun b e => Nat.lt_of_lt_of_le (hlt b e) hg.size⟩
  rcases hh with hh | ⟨_, cs, t, _, hc⟩
  · exact hg.block b hbl fun e => by have := (hrow b e.symm).1; have := hD b hh; omega
  · exact cells_kept hg hrow hc
/-- Behind an append of an event whose bytes were made since, or lay. -/
theorem ListI.step {w W w1 w2 w3 : World} {S D : Nat → Prop} {Bo : Nat} {g g' : Option Nat} {v V : Value} {l : List Ev} {a : Ev} (hb : Blk W Bo 22 #[v]) (hl : EL D (fun b => w.heap.size ≤ b ∧ ¬ S b) W g v l) (hbel : Below w.heap.size w W) (hlt : ∀ b, S b → b < W.heap.size)
    (hD : ∀ b, D b → b < w.heap.size) (hnS : ¬ S Bo) (hBw : w.heap.size ≤ Bo) (hb1 : Below W.heap.size W w1)
    (ha : EvOk (fun b => D b ∨ ((w.heap.size ≤ b ∧ ¬ S b) ∧ ∃ cs, w1.heap[b]? = some (.cells cs 5 (0, 0)))) w1 a) {tmp : Obj} (h2 : w2 = w1.alloc tmp)
    (hr : RowS w3 25 3 g' V (l.length + 1) (evcs l ++ evc a)) (hg : w2.grownBy w3 g) (hg' : g' = g ∨ g' = some w2.heap.size) :
    KeepsOthers W (w3.setCell ⟨Bo, 0, none⟩ V) ∧ Kept S W (w3.setCell ⟨Bo, 0, none⟩ V) ∧ ListI w S D Bo (pes l ++ [a.pe]) (w3.setCell ⟨Bo, 0, none⟩ V) := by
  have hb2 : Below W.heap.size W w2 := by rw [h2]; exact hb1.alloc hb1.size _
  have hbo2 : Blk w2 Bo 22 #[v] := hb.below hb2 hb.lt
  have hl2 := hl.below hb2
  have hne : g ≠ some Bo := hl2.row.ne_ hbo2 (by decide)
  have hbo3 : Blk w3 Bo 22 #[v] := hbo2.keep (hg.block _ hbo2.lt (Ne.symm hne))
  have hT : ∀ {b : Nat}, W.heap.size ≤ b → (w.heap.size ≤ b ∧ ¬ S b) ∧ ¬ D b := fun {b} hle => ⟨⟨Nat.le_trans hbel.size hle, fun h => by have := hlt _ h; omega⟩, fun h => by have := hD _ h; have := hbel.size; omega⟩
  have ha2 : EvOk (fun b => D b ∨ ((w.heap.size ≤ b ∧ ¬ S b) ∧ ∃ cs, w2.heap[b]? = some (.cells cs 5 (0, 0)))) w2 a := ha.tkeep fun b _ hlt => by rw [h2]; exact Below.heap_alloc w1 tmp b hlt
  have hl3 := hl2.snoc ha2 hr hg hg' (hT hb2.size)
  have hne' : g' ≠ some Bo := hl3.row.ne_ hbo3 (by decide)
  have hkg : ∀ b, S b → w3.heap[b]? = W.heap[b]? := fun b e => (hg.block b (Nat.lt_of_lt_of_le (hlt b e) hb2.size) (fun e' => (hl.fresh b e'.symm).1.2 e)).trans (hb2.block b (hlt b e))
  refine ⟨?_, ?_, V, g', l ++ [a], by simp [pes], ?_, ?_, ?_, ?_⟩
  · refine ((?_ : KeepsOthers W w2).trans (KeepsOthers.of_grownBy hg fun j o ej hj => ?_)).trans (KeepsOthers.setCell _ _ _)
    · exact ⟨hb2.size, fun k o hk _ => (hb2.block k (lt_of_heap hk)).trans hk⟩
    · obtain ⟨cs, hh⟩ := hl2.row.obj ej
      rw [hh] at hj; cases hj; rfl
  · exact fun b e => (Below.heap_setCell w3 _ V b (by rintro rfl; exact hnS e)).trans (hkg b e)
  · have := hbo3.set_ 0 V; simpa using this
  · refine hl3.keep fun b hbl hh => Below.heap_setCell w3 _ V b ?_
    intro e
    have e' : b = Bo := e
    rw [e'] at hh
    rcases hh with hh | ⟨_, cs, t, ht, hc⟩
    · have h1 : Bo < w.heap.size := hD _ hh
      omega
    · refine Blk.ne_ (t := t) (t' := 22) hc hbo3 ?_ rfl
      rcases ht with rfl | rfl <;> decide
  · exact ((hbel.trans (hb2.mono hbel.size)).grown hg (Nat.le_trans hbel.size hb2.size) (fun k e => (hl.fresh k e).1.1)).setCell (p := ⟨Bo, 0, none⟩) hBw V
  · intro b e
    have h1 := hlt b e
    have h2 := hb2.size
    have h3 := hg.size
    simp [World.setCell] at h2 h3 ⊢
    omega

/-- copied, and what append makes of a list with that event behind it. -/
theorem copied_step {w W : World} {S S' : Nat → Prop} {Bo : Nat} {g : Option Nat} {A1 : Option Addr} {c1 : Nat} {lo : List Ev} (x : Ev) (hb : Blk W Bo 22 #[.slice A1 lo.length c1]) (hl : EL (fun _ => False) (fun b => w.heap.size ≤ b ∧ ¬ S b) W g (.slice A1 lo.length c1) lo)
    (hbel : Below w.heap.size w W) (hlt : ∀ b, S b → b < W.heap.size) (hnS : ¬ S Bo) (hBw : w.heap.size ≤ Bo) (hok : EvOk S' W x) (hx : x.data.length ≤ 1048576) (hlo : lo.length ≤ 16777216) :
    Calls Try.prog 26 #[.agg #[.int .i64 x.dir, .int .i64 x.time, .slice x.A x.data.length x.c]] W.drew fun e w5 => ∃ A5 c5, e = .returned (.agg #[.int .i64 x.dir, .int .i64 x.time, .slice A5 x.data.length c5]) ∧ w5.cell? ⟨Bo, 0, none⟩ = some (.slice A1 lo.length c1) ∧ Bo < w5.heap.size ∧
      ∃ A7 c7 w7, (Builtin.append_ #[22, 22] 22 #[.slice A1 lo.length c1, .slice (some ⟨w5.heap.size, 0, none⟩) 1 1]).run Try.prog (w5.alloc (.cells #[.int .i64 x.dir, .int .i64 x.time, .slice A5 x.data.length c5] 25)) = .ok (.slice A7 (lo.length + 1) c7) w7 ∧
        w7.cell? ⟨Bo, 0, none⟩ = some (.slice A1 lo.length c1) ∧ w7.frozen? ⟨Bo, 0, none⟩ = false ∧
        Hid (KeepsOthers W (w7.setCell ⟨Bo, 0, none⟩ (.slice A7 (lo.length + 1) c7)) ∧ Kept S W (w7.setCell ⟨Bo, 0, none⟩ (.slice A7 (lo.length + 1) c7)) ∧ ListI w S (fun _ => False) Bo (pes lo ++ [x.pe]) (w7.setCell ⟨Bo, 0, none⟩ (.slice A7 (lo.length + 1) c7))) := by
  refine (copied_any x.dir x.time x.A x.c x.data W.drew (Rd.drew hok.rd) hx).mono ?_
  rintro e w5 ⟨A5, c5, g5, rfl, hr5, hf5, hb5⟩
  have hb6 : Below W.heap.size W w5 := (Below.refl W.heap.size W).drew.trans hb5
  have hbo5 := hb.below hb6 hb.lt
  obtain ⟨A7, c7, w7, g7, hrun, hr7, hgr7, hg7⟩ := append_ev (w := w5) 22 ⟨x.dir, x.time, A5, c5, x.data⟩ ((hl.below hb6).row.alloc _) hlo
  have k7 : Blk w7 Bo 22 #[.slice A1 lo.length c1] := (hbo5.alloc _).keep (hgr7.block _ (hbo5.alloc _).lt (Ne.symm (hl.row.ne_ hb (by decide))))
  have hfr : ∀ b, g5 = some b → W.heap.size ≤ b := hf5
  have hoa : EvOk (fun b => False ∨ ((w.heap.size ≤ b ∧ ¬ S b) ∧ ∃ cs, w5.heap[b]? = some (.cells cs 5 (0, 0)))) w5 ⟨x.dir, x.time, A5, c5, x.data⟩ :=
    EvOk.ofRow hr5 hok.byte (by omega) fun b e hc => .inr ⟨⟨Nat.le_trans hbel.size (hfr b e), fun h => by have := hlt b h; have := hfr b e; omega⟩, hc⟩
  exact ⟨A5, c5, rfl, hbo5.cell 0, hbo5.lt, A7, c7, w7, hrun, k7.cell 0, k7.frozen 0, ListI.step (a := ⟨x.dir, x.time, A5, c5, x.data⟩) hb hl hbel hlt (fun _ h => h.elim) hnS hBw hb6 hoa rfl hr7 hgr7 (by rw [World.size_alloc]; exact hg7)⟩

theorem stepIn_append {F : Fence} {n : Nat} {P : Program} {ops : Array Oper} {o : Oper} {a : Act} {w : World} {K : Act → World → Prop} {Q : Exit → Act → World → Prop} {E : Prop} (hgd : o.guard = none) (s x : Operand) (t : TypeId)
    (ho : o.op = .call { callee := .builtin .append, args := #[s, x], argTypes := #[t, t] }) (v xv v' : Value) (w' : World) (hs : a.eval s = v) (hx : a.eval x = xv) (hrun : (Builtin.append_ #[t, t] o.type #[v, xv]).run P w = .ok v' w') (h : K (a.put o.dst v') w') :
    if Region.wanted o (yielded ops a.tmps) = true then Oper.wpIn F n P o a w K Q else E := by
  have hw : Region.wanted o (yielded ops a.tmps) = true := by simp [Region.wanted, hgd]
  rw [if_pos hw]
  unfold Oper.wpIn
  refine ⟨?_, ?_⟩
  · simp [Oper.about, ho, resolve, Target.leads, Sem.run_pure]
  · rw [Oper.semAt_plain F _ _ (by rw [ho]; intro c hc'; cases hc')]
    simp [execOp, ho, resolve, invoke, builtin, hs, hx, hrun, Result.andThen]
    exact h

/-- The events of a direction. -/
def fil (dir : Int) (l : List PE) : List PE := l.filter fun a => decide (a.dir = dir)
def peE {L : List Ev} (pre : List (El L)) : List PE := pre.map (·.1.pe)
theorem peE_told (L : List Ev) (dir : Int) : ∀ k, k ≤ L.length → peE (told L dir k) = fil dir ((pes L).take k)
  | 0, _ => by simp [told, peE, fil]
  | k + 1, hk => by
    have h : L[k]? = some L[k] := List.getElem?_eq_getElem (by omega)
    rw [told_next h (List.getElem_mem _), pes_take h, fil, List.filter_append, ← fil, ← peE_told L dir k (by omega)]
    simp only [peE, List.map_append]
    congr 1
    by_cases e : L[k].dir = dir
    · simp [e, Ev.pe]
    · simp [e, Ev.pe]
theorem peE_all (L : List Ev) (dir : Int) : peE (told L dir L.length) = fil dir (pes L) := by rw [peE_told L dir _ (Nat.le_refl _), pes_all]

/-- What Of hands out: a function that tells events of its own. -/
def OfTo (w : World) (ps : List PE) (e : Ending) (w' : World) : Prop :=
  ∃ Bo v l, e = .returned (.func (.func 28) #[] #[.pointer (some ⟨Bo, 0, none⟩)]) ∧ Blk w' Bo 22 #[v] ∧ EvsIn (fun b => w.heap.size ≤ b) w' v l ∧ pes l = ps ∧ Below w.heap.size w w' ∧ w.heap.size ≤ Bo

theorem of_end {w W W' : World} {S : Nat → Prop} {Bo B : Nat} {L lo : List Ev} {pre : List (El L)} {x : El L} {v : Value} (hEv : EvsIn S W v L) (hps : pes lo = peE pre) (h : KeepsOthers W W' ∧ Kept S W W' ∧ ListI w S (fun _ => False) Bo (pes lo ++ [x.1.pe]) W') :
    KeepsFrom B W W' ∧ Kept S W W' ∧ (ListI w S (fun _ => False) Bo (peE (pre ++ [x])) W' ∧ EvsIn S W' v L) := by
  obtain ⟨h1, h2, h3⟩ := h
  refine ⟨h1.from _, h2, ?_, hEv.keep fun b hb _ => h2 b hb⟩
  rw [hps] at h3
  simpa [peE] using h3

set_option maxRecDepth 100000 in
set_option maxHeartbeats 2000000 in
theorem Of_any (dir : Int) (v : Value) (L : List Ev) (w : World) (h : Evs w v L) (hn : L.length ≤ 1048576) (hd : ∀ a ∈ L, a.data.length ≤ 1048576) :
    Calls Try.prog 24 #[.int .i64 dir, v] w (OfTo w (fil dir (pes L))) := by
  refine (callsIn_wide (n := 3)).1 ?_
  obtain ⟨A, c, rfl, -⟩ := h.form
  have HT := Lib.hid ((callsIn_wide (n := 2)).2 (those_any dir A L.length c (w.alloc (.cells #[.slice none 0 0] 22))))
  have HE := Lib.hid h
  have HD := Lib.hid hd
  have hmix : Try.prog.follows .mixedOrders = true := by kernel_rfl
  clear h hd
  refine callsIn_of_wp_marks Try.func24 rfl trivial ?_ rfl
  simp only [Try.ntmps24, List.size_toArray, List.length_cons, List.length_nil, Nat.reduceAdd, Nat.reduceSub, Array.replicate_succ, Array.replicate_zero, List.push_toArray, List.append_toArray, List.nil_append, List.cons_append]
  gi_wp2_with fail
  refine ⟨trivial, ?_⟩
  refine HT.out.mono ?_
  rintro e w2 ⟨Bl, Bd, rfl, hBl, hBd, hbel, hl1, hl2⟩
  obtain ⟨S, hS⟩ : ∃ S : Nat → Prop, S = fun b => b < w.heap.size ∨ b = Bl ∨ b = Bd := ⟨_, rfl⟩
  have hbw : Below w.heap.size w w2 := ((Below.refl _ w).alloc (Nat.le_refl _) _).trans (hbel.mono (by simp))
  have hob : Blk w2 w.heap.size 22 #[.slice none 0 0] := (Blk.new w _ _).below hbel (by simp)
  rw [World.size_alloc] at hl1 hl2
  have hSlt : ∀ b, S b → b < w2.heap.size := by
    rw [hS]
    rintro b (hb | rfl | rfl)
    · exact Nat.lt_of_lt_of_le hb hbw.size
    · exact hBl.lt
    · exact hBd.lt
  have hnS : ¬ S w.heap.size := by rw [hS]; simp; omega
  have hEv : EvsIn S w2 (.slice A L.length c) L := EvsIn.mono (Evs.old HE.out |>.keep fun b hb _ => hbw.block b hb) (fun b _ hb => by rw [hS]; exact .inl hb)
  have hSl : S Bl := by rw [hS]; exact .inr (.inl rfl)
  have hSd : S Bd := by rw [hS]; exact .inr (.inr rfl)
  have X := Lib.hid (And.intro hbw (And.intro hob (And.intro hBl (And.intro hBd (And.intro hSlt (And.intro hnS hEv))))))
  have hown : OwnFrom w2.heap.size (fun (pre : List (El L)) W => ListI w S (fun _ => False) w.heap.size (peE pre) W ∧ EvsIn S W (.slice A L.length c) L) := (ListI.own w S _ _ _ _ hbw.size (fun _ h => h.elim)).and (EvsIn.own hSlt)
  clear hbw hob hBl hBd hSlt hnS hEv hS hbel hl1 hl2 HT HE
  gi_wp2_with fail
  refine wpIn_rangeFunc_ownH rfl (by omega) (gf := 29) (lb := #[.pointer (some ⟨Bl, 0, none⟩), .pointer (some ⟨Bd, 0, none⟩)]) rfl trivial (enters_of Try.func29 (by kernel_rfl) rfl)
    (those_stops 2 (by omega) Bl Bd dir _ L S hSl hSd w2 X.out.2.2.1 X.out.2.2.2.1 X.out.2.2.2.2.2.2) Kept.t (Kept.b X.out.2.2.2.2.1) (Below.refl _ _) (fun _ => rfl)
    (fun pre W => ListI w S (fun _ => False) w.heap.size (peE pre) W ∧ EvsIn S W (.slice A L.length c) L) (fun _ _ _ => False) hown (fun _ _ _ _ _ hs _ _ => hs)
    ⟨⟨_, none, [], rfl, X.out.2.1, EL.nil _ _ _, X.out.1, X.out.2.2.2.2.1⟩, X.out.2.2.2.2.2.2⟩
    (fun x a' W => ∃ Be, a' = { tmps := #[.int .i64 dir, .slice A L.length c, undef, undef, .nilFunc, .pointer (some ⟨w.heap.size, 0, none⟩), .pointer (some ⟨Be, 0, none⟩), .int .i64 dir, .slice A L.length c, .func (.func 29) #[] #[.pointer (some ⟨Bl, 0, none⟩), .pointer (some ⟨Bd, 0, none⟩)], x.1.val, undef, undef, undef, undef, undef, undef], defers := [] } ∧ Blk W Be 25 #[.int .i64 x.1.dir, .int .i64 x.1.time, .slice x.1.A x.1.data.length x.1.c])
    ?ax ?assign ?body ?done ?stop
  case ax =>
    rintro x a' _ W W' row ⟨Be, ha, hb⟩ hg hr
    exact ⟨Be, ha, hb.keep (cells_kept hg hr hb)⟩
  case assign =>
    intro l pre x W K hI hK
    have HI := Lib.hid hI
    clear hI
    simp only [Ev.val] at hK ⊢
    gi_wp2
    exact hK _ _ ((KeepsOthers.alloc _ _).from _) (fun b hb => Below.heap_alloc W _ b (HI.out.1.choose_spec.choose_spec.choose_spec.2.2.2.2 b hb)) (hown.alloc _ HI.out) ⟨_, rfl, Blk.new W _ _⟩
  case body =>
    rintro l pre x a' W - - ⟨⟨v1, go, lo, hps, hb, hl, hB, hlt⟩, hEv⟩ ⟨Be, rfl, hBe⟩ hpl
    obtain ⟨A1, c1, rfl, -⟩ := hl.row.form
    have hlo : lo.length ≤ 1048576 := by
      have h1 := congrArg List.length hps
      rw [pes_len, peE, List.length_map] at h1
      have := told_le L dir
      omega
    have hc : W.cell? ⟨w.heap.size, 0, none⟩ = some (.slice A1 lo.length c1) := hb.cell 0
    have he0 : W.cell? ⟨Be, 0, none⟩ = some (.int .i64 x.1.dir) := hBe.cell 0
    have he1 : W.cell? ⟨Be, 1, none⟩ = some (.int .i64 x.1.time) := hBe.cell 1
    have he2 : W.cell? ⟨Be, 2, none⟩ = some (.slice x.1.A x.1.data.length x.1.c) := hBe.cell 2
    have hok := hEv.ok x.2
    have hx := HD.out x.1 x.2
    have HC := Lib.hid (copied_step (S := S) x.1 hb hl hB hlt X.out.2.2.2.2.2.1 (Nat.le_refl _) hok hx (by omega))
    have Y := Lib.hid (And.intro hEv hps)
    clear hb hl hB hlt hEv hok hps hBe
    gi_wp2_with fail
    refine wpIn_region_any hmix ?_
    change wpAnyIn _ _ _ _ _ _ _ _ _ (World.drew _)
    refine wpAnyIn_ready (rs := [0, 1]) (by kernel_rfl) (by simp) ?_
    refine AllReadyIn.cons rfl (fun K hK => ?_) (AllReadyIn.cons rfl (fun K hK => ?_) AllReadyIn.nil)
    · go_simp
      refine hK _ _ ?_
      clear hK K
      refine wpAnyIn_ready (rs := [1]) (by kernel_rfl) (by simp) ?_
      refine AllReadyIn.cons rfl (fun K hK => ?_) AllReadyIn.nil
      go_simp
      refine hK _ _ ?_
      clear hK K
      refine wpAnyIn_ready (rs := [2]) (by kernel_rfl) (by simp) ?_
      refine AllReadyIn.cons rfl (fun K hK => ?_) AllReadyIn.nil
      go_simp
      refine ⟨trivial, ?_⟩
      refine (CallsIn.inRound l (callsIn_wide.2 HC.out)).mono ?_
      rintro e w5 ⟨A5, c5, rfl, hc5, hlt5, A7, c7, w7, hrun, hc7, hf7, Z⟩
      refine hK _ _ ?_
      clear hK K
      refine wpAnyIn_ready (rs := [3]) (by kernel_rfl) (by simp) ?_
      refine AllReadyIn.cons rfl (fun K hK => ?_) AllReadyIn.nil
      go_simp
      refine hK _ _ ?_
      clear hK K
      refine wpAnyIn_ready (rs := [4]) (by kernel_rfl) (by simp) ?_
      refine AllReadyIn.cons rfl (fun K hK => ?_) AllReadyIn.nil
      refine stepIn_append rfl (.tmp 11) (.tmp 14) 22 rfl _ _ _ _ rfl rfl hrun ?_
      refine hK _ _ ?_
      clear hK K
      refine wpAnyIn_ready (rs := [5]) (by kernel_rfl) (by simp) ?_
      refine AllReadyIn.cons rfl (fun K hK => ?_) AllReadyIn.nil
      go_simp
      refine hK _ _ ?_
      clear hK K
      refine wpAnyIn_done (by kernel_rfl) ?_ _
      gi_wp2
      exact of_end Y.out.1 Y.out.2 Z.out
    · go_simp
      refine hK _ _ ?_
      clear hK K
      refine wpAnyIn_ready (rs := [0, 2]) (by kernel_rfl) (by simp) ?_
      refine AllReadyIn.cons rfl (fun K hK => ?_) (AllReadyIn.cons rfl (fun K hK => ?_) AllReadyIn.nil)
      · go_simp
        refine hK _ _ ?_
        clear hK K
        refine wpAnyIn_ready (rs := [2]) (by kernel_rfl) (by simp) ?_
        refine AllReadyIn.cons rfl (fun K hK => ?_) AllReadyIn.nil
        go_simp
        refine ⟨trivial, ?_⟩
        refine (CallsIn.inRound l (callsIn_wide.2 HC.out)).mono ?_
        rintro e w5 ⟨A5, c5, rfl, hc5, hlt5, A7, c7, w7, hrun, hc7, hf7, Z⟩
        refine hK _ _ ?_
        clear hK K
        refine wpAnyIn_ready (rs := [3]) (by kernel_rfl) (by simp) ?_
        refine AllReadyIn.cons rfl (fun K hK => ?_) AllReadyIn.nil
        go_simp
        refine hK _ _ ?_
        clear hK K
        refine wpAnyIn_ready (rs := [4]) (by kernel_rfl) (by simp) ?_
        refine AllReadyIn.cons rfl (fun K hK => ?_) AllReadyIn.nil
        refine stepIn_append rfl (.tmp 11) (.tmp 14) 22 rfl _ _ _ _ rfl rfl hrun ?_
        refine hK _ _ ?_
        clear hK K
        refine wpAnyIn_ready (rs := [5]) (by kernel_rfl) (by simp) ?_
        refine AllReadyIn.cons rfl (fun K hK => ?_) AllReadyIn.nil
        go_simp
        refine hK _ _ ?_
        clear hK K
        refine wpAnyIn_done (by kernel_rfl) ?_ _
        gi_wp2
        exact of_end Y.out.1 Y.out.2 Z.out
      · go_simp
        refine ⟨trivial, ?_⟩
        refine (CallsIn.inRound l (callsIn_wide.2 HC.out)).mono ?_
        rintro e w5 ⟨A5, c5, rfl, hc5, hlt5, A7, c7, w7, hrun, hc7, hf7, Z⟩
        refine hK _ _ ?_
        clear hK K
        refine wpAnyIn_ready (rs := [0, 3]) (by kernel_rfl) (by simp) ?_
        refine AllReadyIn.cons rfl (fun K hK => ?_) (AllReadyIn.cons rfl (fun K hK => ?_) AllReadyIn.nil)
        · go_simp
          refine hK _ _ ?_
          clear hK K
          refine wpAnyIn_ready (rs := [3]) (by kernel_rfl) (by simp) ?_
          refine AllReadyIn.cons rfl (fun K hK => ?_) AllReadyIn.nil
          go_simp
          refine hK _ _ ?_
          clear hK K
          refine wpAnyIn_ready (rs := [4]) (by kernel_rfl) (by simp) ?_
          refine AllReadyIn.cons rfl (fun K hK => ?_) AllReadyIn.nil
          refine stepIn_append rfl (.tmp 11) (.tmp 14) 22 rfl _ _ _ _ rfl rfl hrun ?_
          refine hK _ _ ?_
          clear hK K
          refine wpAnyIn_ready (rs := [5]) (by kernel_rfl) (by simp) ?_
          refine AllReadyIn.cons rfl (fun K hK => ?_) AllReadyIn.nil
          go_simp
          refine hK _ _ ?_
          clear hK K
          refine wpAnyIn_done (by kernel_rfl) ?_ _
          gi_wp2
          exact of_end Y.out.1 Y.out.2 Z.out
        · go_simp
          refine hK _ _ ?_
          clear hK K
          refine wpAnyIn_ready (rs := [0]) (by kernel_rfl) (by simp) ?_
          refine AllReadyIn.cons rfl (fun K hK => ?_) AllReadyIn.nil
          go_simp
          refine hK _ _ ?_
          clear hK K
          refine wpAnyIn_ready (rs := [4]) (by kernel_rfl) (by simp) ?_
          refine AllReadyIn.cons rfl (fun K hK => ?_) AllReadyIn.nil
          refine stepIn_append rfl (.tmp 11) (.tmp 14) 22 rfl _ _ _ _ rfl rfl hrun ?_
          refine hK _ _ ?_
          clear hK K
          refine wpAnyIn_ready (rs := [5]) (by kernel_rfl) (by simp) ?_
          refine AllReadyIn.cons rfl (fun K hK => ?_) AllReadyIn.nil
          go_simp
          refine hK _ _ ?_
          clear hK K
          refine wpAnyIn_done (by kernel_rfl) ?_ _
          gi_wp2
          exact of_end Y.out.1 Y.out.2 Z.out
  case done =>
    rintro D ys W hD rfl ⟨⟨v1, go, lo, hps, hb, hl, hB, hlt⟩, -⟩ hK
    rw [peE_all] at hps
    have hlo : lo.length ≤ 9223372036854775807 := by
      have h1 := congrArg List.length hps
      have h2 := List.length_filter_le (fun a : PE => decide (a.dir = dir)) (pes L)
      rw [pes_len, fil] at h1
      rw [pes_len] at h2
      omega
    have Y := Lib.hid (And.intro hb (And.intro hl (And.intro hB hps)))
    clear hb hl hB hps hlt
    gi_wp2
    refine ⟨by simp, .inl ⟨_, _, rfl, run_takeDeferred hK, ?_⟩⟩
    obtain ⟨hb, hl, hB, hps⟩ := Y.out
    have hsz := X.out.1.size
    have hne : ∀ {b : Nat} {cs : Array Value} {t : TypeId}, W.heap[b]? = some (.cells cs t (0, 0)) → (W.putObj D (.deferred none)).heap[b]? = W.heap[b]? := fun {b cs t} hh => World.putObj_heap_other (fun e' => by subst e'; rw [hh] at hK; cases hK)
    have hl' : EL (fun _ => False) (fun b => w.heap.size ≤ b ∧ ¬ S b) (W.putObj D (.deferred none)) go v1 lo := hl.keep fun b _ hh => by
      rcases hh with hh | ⟨_, cs, t, _, hc⟩
      · exact hh.elim
      · exact hne hc
    exact ⟨_, results_tmp rfl _ _ _, w.heap.size, v1, lo, rfl, hb.keep (hne hb), hl'.evsIn hlo (fun _ h => h.elim) (fun _ h => h.1), hps, hB.trans (belowK_b (w := w) (Nat.le_refl _) W D _ _ (by omega) hK rfl rfl), Nat.le_refl _⟩
  case stop =>
    rintro D c pre W _ _ h _
    exact h.elim
end Go.Proofs.Ytakcoplpmhgoiaa
