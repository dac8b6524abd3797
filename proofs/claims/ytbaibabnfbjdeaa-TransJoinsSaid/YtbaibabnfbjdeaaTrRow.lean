/-
  Bytes that grow by append, whether they lie in a row of their own or are a constant's (BA), beside an event in a box (EvB).
  Conditions: at most 1048576 bytes, and as many more.
-/
import Derived.Test.YtbaibabnfbjdeaaEvMem
import Derived.Test.YtbaibabnfbjdeaaTrMath
namespace Go.Proofs.Ytbaibabnfbjdeaa
open Go.RowKit

theorem below2 {w a b : World} (h1 : Below w.heap.size w a) (h2 : Below a.heap.size a b) : Below w.heap.size w b := h1.trans (h2.mono h1.size)

/-- Bytes of the call's own: a row, or a constant's bytes, behind which there is no room. -/
def BA (w1 W : World) (A : Option Addr) (c : Nat) (g : Option Nat) (X : List Nat) : Prop :=
  RowAt w1 W A c g X ∨ (c = X.length ∧ g = none ∧ Rd W (.slice A X.length c) (bv X) ∧ Below w1.heap.size w1 W)

section
variable {w1 W W1 W' : World} {A A' : Option Addr} {c c' : Nat} {g g' : Option Nat} {X m : List Nat}
theorem BA.bel (h : BA w1 W A c g X) : Below w1.heap.size w1 W := h.elim (fun h => h.2.2) (fun h => h.2.2.2)
theorem BA.rd (h : BA w1 W A c g X) : Rd W (.slice A X.length c) (bv X) := h.elim (fun h => h.1.rd) (fun h => h.2.2.1)
theorem RowAt.below (h : RowAt w1 W A c g X) (hb : Below W.heap.size W W1) : RowAt w1 W1 A c g X := ⟨h.1.below hb (fun _ e => h.1.lt e), h.2.1, below2 h.2.2 hb⟩
theorem BA.below (h : BA w1 W A c g X) (hb : Below W.heap.size W W1) : BA w1 W1 A c g X :=
  h.elim (fun h => .inl (h.below hb)) (fun h => .inr ⟨h.1, h.2.1, h.2.2.1.kept hb, below2 h.2.2.2 hb⟩)

/-- What append makes of them. -/
theorem BA.run (h : BA w1 W A c g X) {xv : Value} {ys : List Value} (hy : ys = bv m) (hr : Rd W xv ys) (hX : X.length ≤ 1048576) (hm : m.length ≤ 1048576) (h0 : (RowAt w1 W A c g X) ∨ 0 < m.length) (ty : TypeId) :
    ∃ A' c' W' g', (Builtin.append_ #[25, 25] ty #[.slice A X.length c, xv]).run Try.prog W = .ok (.slice A' (X.length + m.length) c') W' ∧ RowAt w1 W' A' c' g' (X ++ m) ∧ W.grownBy W' g := by
  obtain ⟨i0, hi0, hz0, hz1, hz2⟩ := info_parts byte_info
  subst hy
  have hsrc := hr.src (P := Try.prog) Try.underlying25
  rw [bv_len] at hsrc
  by_cases hrow : RowAt w1 W A c g X
  · obtain ⟨v', W', g', hrun, h2, h3, h4⟩ := run_append_row (P := Try.prog) W 25 25 ty 5 i0 _ 1 Try.underlying25 hi0 hz0 hz1 hz2 rfl hrow.1 xv m.length (bv m) hsrc (by rw [bv_len]; simp only [maxLen]; omega) (by rw [bv_len]; omega)
    obtain ⟨A', c', rfl⟩ := h2.form
    rw [List.length_append, bv_len, bv_len] at h2 hrun
    exact ⟨A', c', W', g', hrun, hrow.more (Below.refl _ _) h2 h3 h4, h3⟩
  · have hm0 : 0 < m.length := h0.resolve_left hrow
    obtain ⟨hc, rfl, hrd, hbel⟩ := h.resolve_left hrow
    obtain ⟨A2, c2, e2, hle, h1, hx⟩ := hrd
    injection e2 with e3 e4 e5
    subst e3 e5
    have hold : (Builtin.firstCells i0.size X.length (.slice A X.length c)).run Try.prog W.drew = .ok (bv X).toArray W.drew := by
      rw [hz1]
      rcases Nat.eq_zero_or_pos X.length with hz | hp
      · have hx0 : X = [] := List.eq_nil_of_length_eq_zero hz
        subst hx0
        cases A with
        | none => exact run_firstCells_none W.drew 1 0 _ _
        | some a => exact run_firstCells_some W.drew 1 0 a 0 _ [] rfl (by intro j u hu; simp at hu)
      · obtain ⟨b, o, rfl, hx'⟩ := hx (by rw [bv_len]; exact hp)
        exact run_firstCells_some W.drew 1 X.length ⟨b, o, none⟩ _ c (bv X) (by simp [bv_len]) (fun j u hu => by rw [add_eq]; exact hx' j u hu)
    have hr := run_append_grow_src (P := Try.prog) W 25 25 ty 5 i0 _ Try.underlying25 hi0 hz0 A X.length c (bv X) hold xv m.length (bv m) (by rw [hz1]; exact hsrc) (by omega) (by omega) (by rw [hz2]; exact growslice_fits (by omega) (by omega))
    have hge := grownCap_ge W (X.length + m.length) c 5
    have hcm : grownCap W (X.length + m.length) c 5 ≤ maxLen := grownCap_le_maxLen W (X.length + m.length) c 5 (by simp only [maxLen]; omega)
    have hgr : W.grownBy (W.drew.alloc (.cells ((bv X ++ bv m).toArray ++ Builtin.zeroCells (Value.int .u8 0).cells (grownCap W (X.length + m.length) c 5 - (X.length + m.length))) 5)) none :=
      ⟨rfl, rfl, rfl, by simp, fun k hk _ => Below.heap_alloc W.drew _ k hk⟩
    refine ⟨_, _, _, some W.heap.size, hr, ⟨?_, ?_, hbel.grown hgr (by have := hbel.size; omega) (by simp)⟩, hgr⟩
    · refine ⟨_, _, by rw [bv_len], by rw [bv_len, List.length_append]; omega, hcm, bv_one _, .inr ⟨W.heap.size, 0, _, by omega, rfl, rfl, heap_alloc_new W.drew _, ?_, ?_⟩⟩
      · simp only [Array.size_append, List.size_toArray, size_zeroCells, List.length_append, bv_len]
        simp [Value.cells]
        omega
      · intro j u hu
        rw [bv_append] at hu
        have hj2 : j < (bv X ++ bv m).length := (List.getElem?_eq_some_iff.1 hu).1
        rw [Nat.zero_add, Array.getElem?_append_left (by simpa using hj2), List.getElem?_toArray]
        exact hu
    · intro b e; cases e; exact hbel.size
end

/-- An event in a box, its bytes as they lay. -/
def EvB (w1 W : World) (eb : Nat) (d t : Int) (Aa : Option Addr) (ca : Nat) (bs : List Nat) : Prop :=
  Blk W eb 43 #[.int .i64 d, .int .i64 t, .slice Aa bs.length ca] ∧ Rd w1 (.slice Aa bs.length ca) (bv bs)
section
variable {w1 W W1 W' : World} {A : Option Addr} {c eb : Nat} {g : Option Nat} {X : List Nat} {d t : Int} {Aa : Option Addr} {ca : Nat} {bs : List Nat}
theorem EvB.below (h : EvB w1 W eb d t Aa ca bs) (hb : Below W.heap.size W W1) : EvB w1 W1 eb d t Aa ca bs := ⟨h.1.below hb h.1.lt, h.2⟩
theorem EvB.grown (h : EvB w1 W eb d t Aa ca bs) (hr : BA w1 W A c g X) (hg : W.grownBy W' g) : EvB w1 W' eb d t Aa ca bs := by
  refine ⟨h.1.keep (hg.block eb h.1.lt fun e => ?_), h.2⟩
  rcases hr with hr | hr
  · exact hr.1.ne_ h.1 (by decide) e.symm
  · rw [hr.2.1] at e; cases e
theorem EvB.box (hr : Rd w1 (.slice Aa bs.length ca) (bv bs)) : EvB w1 (W.alloc (.cells #[.int .i64 d, .int .i64 t, .slice Aa bs.length ca] 43)) W.heap.size d t Aa ca bs := ⟨Blk.new W 43 _, hr⟩
theorem EvB.dir (h : EvB w1 W eb d t Aa ca bs) : W.cell? ⟨eb, 0, none⟩ = some (.int .i64 d) := h.1.cell 0
theorem EvB.time (h : EvB w1 W eb d t Aa ca bs) : W.cell? ⟨eb, 1, none⟩ = some (.int .i64 t) := h.1.cell 1
theorem EvB.data (h : EvB w1 W eb d t Aa ca bs) : W.cell? ⟨eb, 2, none⟩ = some (.slice Aa bs.length ca) := h.1.cell 2
end

section
variable {w1 W W1 : World} {A : Option Addr} {c eb : Nat} {g : Option Nat} {X m : List Nat} {d t : Int} {Aa : Option Addr} {ca : Nat} {bs : List Nat}
/-- An append in the walk, beside an event in a box. -/
theorem wpList_more (h : BA w1 W A c g X) (he : EvB w1 W eb d t Aa ca bs) (hb : Below W.heap.size W W1) {ops : Array Oper} {rest : List Oper} {o : Oper} {a : Act} {Q : Exit → Act → World → Prop} (hgd : o.guard = none) (s x : Operand)
    (ho : o.op = .call { callee := .builtin .append, args := #[s, x], argTypes := #[25, 25] }) (hs : a.eval s = .slice A X.length c) (xv : Value) (ys : List Value) (hx : a.eval x = xv) (m : List Nat) (hy : ys = bv m) (hr : Rd W1 xv ys)
    (hX : X.length ≤ 1048576) (hm : m.length ≤ 1048576) (h0 : RowAt w1 W A c g X ∨ 0 < m.length)
    (k : ∀ A' c' W' g' X', Hid (X' = X ++ m) → Hid (RowAt w1 W' A' c' g' X' ∧ EvB w1 W' eb d t Aa ca bs) → X'.length ≤ X.length + m.length → wpList Try.prog ops Q rest (a.put o.dst (.slice A' X'.length c')) W') : wpList Try.prog ops Q (o :: rest) a W1 := by
  obtain ⟨A', c', W', g', hrun, h2, h3⟩ := (h.below hb).run hy hr hX hm (h0.imp (fun h => h.below hb) id) o.type
  refine wpList_plain hgd fun K hK' => ?_
  unfold Oper.wp execOp
  simp only [ho, resolve, invoke, builtin, Sem.run_bind, Sem.run_pure, Result.andThen_ok, List.map_toArray, List.map_cons, List.map_nil, hs, hx, hrun]
  exact hK' _ _ (by have := k A' c' W' g' (X ++ m) rfl ⟨h2, (he.below hb).grown (h.below hb) h3⟩ (by simp); rwa [List.length_append] at this)
/-- An append in the walk. -/
theorem wpList_last (h : BA w1 W A c g X) (hb : Below W.heap.size W W1) {ops : Array Oper} {rest : List Oper} {o : Oper} {a : Act} {Q : Exit → Act → World → Prop} (hgd : o.guard = none) (s x : Operand)
    (ho : o.op = .call { callee := .builtin .append, args := #[s, x], argTypes := #[25, 25] }) (hs : a.eval s = .slice A X.length c) (xv : Value) (ys : List Value) (hx : a.eval x = xv) (m : List Nat) (hy : ys = bv m) (hr : Rd W1 xv ys)
    (hX : X.length ≤ 1048576) (hm : m.length ≤ 1048576) (h0 : RowAt w1 W A c g X ∨ 0 < m.length)
    (k : ∀ A' c' W' g' X', Hid (X' = X ++ m) → Hid (RowAt w1 W' A' c' g' X') → wpList Try.prog ops Q rest (a.put o.dst (.slice A' X'.length c')) W') : wpList Try.prog ops Q (o :: rest) a W1 := by
  obtain ⟨A', c', W', g', hrun, h2, h3⟩ := (h.below hb).run hy hr hX hm (h0.imp (fun h => h.below hb) id) o.type
  refine wpList_plain hgd fun K hK' => ?_
  unfold Oper.wp execOp
  simp only [ho, resolve, invoke, builtin, Sem.run_bind, Sem.run_pure, Result.andThen_ok, List.map_toArray, List.map_cons, List.map_nil, hs, hx, hrun]
  exact hK' _ _ (by have := k A' c' W' g' (X ++ m) rfl h2; rwa [List.length_append] at this)
end

/-! ### The bytes so far -/
theorem lastT_in {l : List PE} : ∀ {t : Int}, In64 t → (∀ a ∈ l, In64 a.time) → In64 (lastT t l) := by
  induction l with
  | nil => intro t h _; exact h
  | cons a l ih => intro t _ h; exact ih (h a (by simp)) (fun b hb => h b (by simp [hb]))

/-- Where the bytes of the first k events are. -/
structure EncK (l : List Ev) (k : Nat) (X : List Nat) (la : Int) : Prop where
  bytes : X = hd ++ encs 0 ((pes l).take k)
  last : la = lastT 0 ((pes l).take k)
  len : X.length ≤ 400000
  in_ : In64 la
theorem encK {l : List Ev} (h : Right 0 0 (pes l)) (k : Nat) : EncK l k (hd ++ encs 0 ((pes l).take k)) (lastT 0 ((pes l).take k)) := by
  have h1 := right_take k h
  obtain ⟨h2, h3⟩ := right_len (by omega) (by omega) h1
  refine ⟨rfl, rfl, ?_, lastT_in ⟨by omega, by omega⟩ (right_chkAll h1).2⟩
  have := encs_len (l := (pes l).take k) 0 (by omega)
  simp [hd] at this h2 ⊢
  omega
theorem EncK.next {l : List Ev} {k : Nat} {X : List Nat} {la d t : Int} {Aa : Option Addr} {ca : Nat} {bs : List Nat} (h : EncK l k X la) (hr : Right 0 0 (pes l)) (ha : l[k]? = some ⟨d, t, Aa, ca, bs⟩) :
    EncK l (k + 1) (X ++ [mark d] ++ Var.enc (zn la t) ++ Var.enc bs.length ++ bs) t := by
  have e1 : X ++ [mark d] ++ Var.enc (zn la t) ++ Var.enc bs.length ++ bs = hd ++ encs 0 ((pes l).take (k + 1)) := by
    rw [pes_take ha, encs_snoc, h.bytes, h.last]; simp [enc1, Ev.pe]
  have e2 : t = lastT 0 ((pes l).take (k + 1)) := by rw [pes_take ha, lastT_snoc]; rfl
  have := encK hr (k + 1)
  rw [← e1, ← e2] at this
  rw [e1]
  exact ⟨rfl, e2, by rw [← e1]; exact this.len, this.in_⟩
theorem right_at {l : List PE} : ∀ {n all k : Nat} {a : PE}, Right n all l → l[k]? = some a → (a.dir = 0 ∨ a.dir = 1) ∧ a.data.length ≤ 65536 ∧ In64 a.time := by
  induction l with
  | nil => intro n all k a _ h; simp at h
  | cons b l ih =>
    rintro n all k a ⟨h1, h2, h3, h4, h5, h6⟩ h
    cases k with
    | zero => simp at h; subst h; exact ⟨h2, h4, h3⟩
    | succ k => exact ih h6 (by simpa using h)
theorem right_ev {l : List Ev} {k : Nat} {d t : Int} {Aa : Option Addr} {ca : Nat} {bs : List Nat} (h : Right 0 0 (pes l)) (ha : l[k]? = some ⟨d, t, Aa, ca, bs⟩) : (d = 0 ∨ d = 1) ∧ bs.length ≤ 65536 ∧ In64 t := right_at h (pes_at ha)
end Go.Proofs.Ytbaibabnfbjdeaa
