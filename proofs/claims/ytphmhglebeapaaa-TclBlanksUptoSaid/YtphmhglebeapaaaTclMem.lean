/-
  A script's commands in memory: lists of structs whose parts are lists again, read (SlI), and made by append (URow).
  Conditions: none.
-/
import Derived.Test.YtphmhglebeapaaaSeqT
import Derived.Test.YtphmhglebeapaaaRowS
import Derived.Test.YtphmhglebeapaaaStrCat
import Derived.Test.YtphmhglebeapaaaTclLs
namespace Go.Proofs.Ytphmhglebeapaaa
open Go.RowKit

/-- Where things lie, as a family: S says which blocks may be looked at. -/
abbrev AtF (α : Type) := (Nat → Prop) → World → Nat → Nat → α → Prop
abbrev SubF (α : Type) := (Nat → Prop) → World → Value → α → Prop
structure AtF.Ok {α : Type} (At : AtF α) : Prop where
  lt : ∀ {S W b o x}, At S W b o x → b < W.heap.size
  still : ∀ {S W W' b o x}, At S W b o x → S b → Still S W W' → At S W' b o x
  fit : ∀ {S T : Nat → Prop} {W b o x}, At S W b o x → (∀ b, S b → b < W.heap.size → T b) → At T W b o x
structure SubF.Ok {α : Type} (Sub : SubF α) : Prop where
  still : ∀ {S W W' u x}, Sub S W u x → Still S W W' → Sub S W' u x
  fit : ∀ {S T : Nat → Prop} {W u x}, Sub S W u x → (∀ b, S b → b < W.heap.size → T b) → Sub T W u x
/-- A list of things side by side, s cells each. -/
def SlI {α : Type} (s : Nat) (At : AtF α) (S : Nat → Prop) (W : World) (v : Value) (l : List α) : Prop :=
  ∃ A c, v = .slice A l.length c ∧ l.length ≤ c ∧ (0 < l.length → ∃ b o, A = some ⟨b, o, none⟩ ∧ S b ∧ ∀ j x, l[j]? = some x → At S W b (o + j * s) x)
section
variable {α : Type} {s : Nat} {At : AtF α} {S T : Nat → Prop} {W W' : World} {v : Value} {l : List α}
theorem SlI.still (k : AtF.Ok At) (h : SlI s At S W v l) (hs : Still S W W') : SlI s At S W' v l := by
  obtain ⟨A, c, e, hle, hr⟩ := h
  refine ⟨A, c, e, hle, fun hp => ?_⟩
  obtain ⟨b, o, eA, hb, hx⟩ := hr hp
  exact ⟨b, o, eA, hb, fun j x hj => k.still (hx j x hj) hb hs⟩
theorem SlI.fit (k : AtF.Ok At) (h : SlI s At S W v l) (hT : ∀ b, S b → b < W.heap.size → T b) : SlI s At T W v l := by
  obtain ⟨A, c, e, hle, hr⟩ := h
  refine ⟨A, c, e, hle, fun hp => ?_⟩
  obtain ⟨b, o, eA, hb, hx⟩ := hr hp
  exact ⟨b, o, eA, hT b hb (k.lt (hx 0 _ (List.getElem?_eq_getElem hp))), fun j x hj => k.fit (hx j x hj) hT⟩
theorem SlI.below (k : AtF.Ok At) (h : SlI s At S W v l) (hb : Below W.heap.size W W') : SlI s At S W' v l := h.still k ⟨hb.size, fun b _ hl => hb.block b hl⟩
theorem SlI.form (h : SlI s At S W v l) : ∃ A c, v = .slice A l.length c ∧ l.length ≤ c := by
  obtain ⟨A, c, e, hle, _⟩ := h; exact ⟨A, c, e, hle⟩
theorem SlI.n {A : Option Addr} {n c : Nat} (h : SlI s At S W (.slice A n c) l) : n = l.length := by
  obtain ⟨A', c', e, _⟩ := h
  injection e
theorem SlI.nil (A : Option Addr) (c : Nat) : SlI s At S W (.slice A 0 c) [] := ⟨A, c, rfl, by simp, fun h => by simp at h⟩
/-- Where the k-th lies. -/
theorem SlI.at_ {A : Option Addr} {n c k : Nat} {x : α} (h : SlI s At S W (.slice A n c) l) (hx : l[k]? = some x) : ∃ b o, A = some ⟨b, o, none⟩ ∧ S b ∧ At S W b (o + k * s) x := by
  obtain ⟨A', c', e, _, hr⟩ := h
  injection e with e1 e2 e3
  subst e1 e2 e3
  obtain ⟨b, o, rfl, hb, hat⟩ := hr (by have := (List.getElem?_eq_some_iff.1 hx).1; omega)
  exact ⟨b, o, rfl, hb, hat k x hx⟩
/-- Their first few; the others. -/
theorem SlI.take {A : Option Addr} {n c k : Nat} (h : SlI s At S W (.slice A n c) l) (hk : k ≤ l.length) : SlI s At S W (.slice A k c) (l.take k) := by
  obtain ⟨A', c', e, hle, hr⟩ := h
  injection e with e1 e2 e3
  subst e3
  rw [← e1] at hr
  refine ⟨A, c, by rw [List.length_take, Nat.min_eq_left hk], by rw [List.length_take]; omega, fun hp => ?_⟩
  rw [List.length_take] at hp
  obtain ⟨b, o, eA, hb, hx⟩ := hr (by omega)
  refine ⟨b, o, eA, hb, fun j x hj => hx j x ?_⟩
  rw [List.getElem?_take] at hj
  split at hj
  · exact hj
  · cases hj
theorem SlI.drop {b o n c k : Nat} (h : SlI s At S W (.slice (some ⟨b, o, none⟩) n c) l) (hk : k ≤ l.length) : SlI s At S W (.slice (some ⟨b, o + k * s, none⟩) (n - k) (c - k)) (l.drop k) := by
  have hn := h.n
  obtain ⟨A', c', e, hle, hr⟩ := h
  injection e with e1 e2 e3
  subst e1 e3
  refine ⟨_, _, by rw [List.length_drop, hn], by rw [List.length_drop]; omega, fun hp => ?_⟩
  rw [List.length_drop] at hp
  obtain ⟨b', o', eA, hb, hx⟩ := hr (by omega)
  cases eA
  refine ⟨b, _, rfl, hb, fun j x hj => ?_⟩
  rw [List.getElem?_drop] at hj
  have := hx (k + j) x hj
  rwa [Nat.add_mul, ← Nat.add_assoc] at this
end

/-! ### Parts, words, commands -/
def PrtAt : AtF Prt := fun _ W b o p => W.cell? ⟨b, o, none⟩ = some (.bool p.var) ∧ W.cell? ⟨b, o + 1, none⟩ = some (.string (str p.s))
def WrdAt : AtF Wrd := fun S W b o x => W.cell? ⟨b, o, none⟩ = some (.int .i64 x.at_) ∧ W.cell? ⟨b, o + 1, none⟩ = some (.int .i64 x.kind) ∧ ∃ v, W.cell? ⟨b, o + 2, none⟩ = some v ∧ SlI 2 PrtAt S W v x.parts
def CmdAt : AtF Cmd := fun S W b o x => W.cell? ⟨b, o, none⟩ = some (.int .i64 x.at_) ∧ ∃ v, W.cell? ⟨b, o + 1, none⟩ = some v ∧ SlI 3 WrdAt S W v x.words
theorem still_cell {S : Nat → Prop} {W W' : World} {b o : Nat} {u : Value} (hs : Still S W W') (hb : S b) (h : W.cell? ⟨b, o, none⟩ = some u) : W'.cell? ⟨b, o, none⟩ = some u :=
  (World.cell?_of_block (a := ⟨b, o, none⟩) (hs.same b hb (World.block_lt_of_cell? W _ h))).trans h
theorem prt_ok : AtF.Ok PrtAt := ⟨fun h => World.block_lt_of_cell? _ _ h.1, fun h hb hs => ⟨still_cell hs hb h.1, still_cell hs hb h.2⟩, fun h _ => h⟩
theorem wrd_ok : AtF.Ok WrdAt := ⟨fun h => World.block_lt_of_cell? _ _ h.1, fun h hb hs => by
    obtain ⟨h1, h2, v, h3, h4⟩ := h
    exact ⟨still_cell hs hb h1, still_cell hs hb h2, v, still_cell hs hb h3, h4.still prt_ok hs⟩, fun h hT => by
    obtain ⟨h1, h2, v, h3, h4⟩ := h
    exact ⟨h1, h2, v, h3, h4.fit prt_ok hT⟩⟩
theorem cmd_ok : AtF.Ok CmdAt := ⟨fun h => World.block_lt_of_cell? _ _ h.1, fun h hb hs => by
    obtain ⟨h1, v, h3, h4⟩ := h
    exact ⟨still_cell hs hb h1, v, still_cell hs hb h3, h4.still wrd_ok hs⟩, fun h hT => by
    obtain ⟨h1, v, h3, h4⟩ := h
    exact ⟨h1, v, h3, h4.fit wrd_ok hT⟩⟩
abbrev Prts (S : Nat → Prop) (W : World) (v : Value) (l : List Prt) : Prop := SlI 2 PrtAt S W v l
abbrev Wrds (S : Nat → Prop) (W : World) (v : Value) (l : List Wrd) : Prop := SlI 3 WrdAt S W v l
abbrev Cmds (S : Nat → Prop) (W : World) (v : Value) (l : List Cmd) : Prop := SlI 2 CmdAt S W v l
abbrev all : Nat → Prop := fun _ => True

/-! ### Rows that grow -/
/-- Things in a row of the call's own (since w0, in block g): each has one value, behind which its own list lies, in other blocks. -/
def URow {α : Type} (e s : Nat) (cs : α → Value → List Value) (Sub : SubF α) (w0 W : World) (g : Option Nat) (v : Value) (l : List α) : Prop :=
  ∃ q : List (α × Value), q.map Prod.fst = l ∧ RowS W e s g v l.length (q.flatMap fun p => cs p.1 p.2) ∧ (∀ b, g = some b → w0.heap.size ≤ b) ∧ ∀ p ∈ q, Sub (fun b => w0.heap.size ≤ b ∧ g ≠ some b) W p.2 p.1
section
variable {α : Type} {e s : Nat} {cs : α → Value → List Value} {Sub : SubF α} {w0 W W1 W' : World} {g g' : Option Nat} {v v' u : Value} {l : List α} {x : α}
theorem URow.nil : URow e s cs Sub w0 W none (.slice none 0 0) [] := ⟨[], rfl, RowS.nil W e s, by simp, by simp⟩
theorem URow.form (h : URow e s cs Sub w0 W g v l) : ∃ A c, v = .slice A l.length c ∧ l.length ≤ c := by obtain ⟨_, _, h, _⟩ := h; exact h.form
theorem URow.lt (h : URow e s cs Sub w0 W g v l) {b : Nat} (hb : g = some b) : b < W.heap.size := by obtain ⟨_, _, h, _⟩ := h; exact h.lt hb
theorem URow.own (h : URow e s cs Sub w0 W g v l) {b : Nat} (hb : g = some b) : w0.heap.size ≤ b := by obtain ⟨_, _, _, h, _⟩ := h; exact h b hb
theorem URow.still (k : SubF.Ok Sub) (h : URow e s cs Sub w0 W g v l) (hs : Still (fun b => w0.heap.size ≤ b) W W') : URow e s cs Sub w0 W' g v l := by
  obtain ⟨q, h1, h2, h3, h4⟩ := h
  exact ⟨q, h1, h2.keep fun b e => hs.same b (h3 b e) (h2.lt e), h3, fun p hp => k.still (h4 p hp) (hs.mono fun b hb => hb.1)⟩
theorem URow.below (k : SubF.Ok Sub) (h : URow e s cs Sub w0 W g v l) (hb : Below W.heap.size W W') : URow e s cs Sub w0 W' g v l := h.still k ⟨hb.size, fun b _ hl => hb.block b hl⟩
theorem flat_at (hl : ∀ x u, (cs x u).length = s) : ∀ (q : List (α × Value)) (j i : Nat) (y : α × Value) (z : Value), q[j]? = some y → (cs y.1 y.2)[i]? = some z → (q.flatMap fun p => cs p.1 p.2)[j * s + i]? = some z
  | [], _, _, _, _, h, _ => by simp at h
  | a :: q, j, i, y, z, hy, hz => by
    have hi : i < s := by rw [← hl y.1 y.2]; exact (List.getElem?_eq_some_iff.1 hz).1
    rw [List.flatMap_cons]
    cases j with
    | zero =>
      simp at hy; subst hy
      rw [Nat.zero_mul, Nat.zero_add, List.getElem?_append_left (by rw [hl]; exact hi)]
      exact hz
    | succ j =>
      rw [List.getElem?_append_right (by rw [hl, Nat.add_mul]; omega), hl, show (j + 1) * s + i - s = j * s + i by rw [Nat.add_mul]; omega]
      exact flat_at hl q j i y z (by simpa using hy) hz
/-- Read as a list. -/
theorem URow.read {At : AtF α} (h : URow e s cs Sub w0 W g v l) (hl : ∀ x u, (cs x u).length = s)
    (hA : ∀ S b o x u, (∀ j y, (cs x u)[j]? = some y → W.cell? ⟨b, o + j, none⟩ = some y) → Sub S W u x → At S W b o x) (k : AtF.Ok At) : SlI s At (fun b => w0.heap.size ≤ b) W v l := by
  obtain ⟨q, h1, h2, h3, h4⟩ := h
  obtain ⟨A, c, rfl, hle⟩ := h2.form
  refine ⟨A, c, rfl, hle, fun hp => ?_⟩
  obtain ⟨b, o, c', e1, e2, _, hx⟩ := h2.cells hp
  injection e1 with e3 e4 e5
  refine ⟨b, o, e3, h3 b e2, fun j x hj => ?_⟩
  subst h1
  rw [List.getElem?_map] at hj
  obtain ⟨y, hy, rfl⟩ := Option.map_eq_some_iff.1 hj
  refine k.fit (hA (fun b => w0.heap.size ≤ b ∧ g ≠ some b) b (o + j * s) y.1 y.2 (fun i z hz => ?_) (h4 y (List.mem_of_getElem? hy))) (fun b hb _ => hb.1)
  have := hx (j * s + i) z (flat_at hl q j i y z hy hz)
  rwa [← Nat.add_assoc] at this
/-- What an append of one makes. -/
theorem URow.run {P : Program} (k : SubF.Ok Sub) (h : URow e s cs Sub w0 W g v l) (hw : w0.heap.size ≤ W.heap.size) (hx : Sub (fun b => w0.heap.size ≤ b ∧ g ≠ some b) W u x) (t ty : TypeId) {z : Value} {bytes : Nat} (ht : P.underlying t = some (.slice e)) (hi : (P.info? e).map (fun i => (i.zero, i.size, i.bytes)) = some (some z, s, bytes)) (hzs : z.cells.size = s)
    (xv : Value) (hsrc : Src P s t xv 1 (cs x u) W) (hm : l.length + 1 ≤ 1048576000) (hbm : (l.length + 1) * bytes ≤ 140737488355328) :
    ∃ A' c' W' g', (Builtin.append_ #[t, t] ty #[v, xv]).run P W = .ok (.slice A' (l.length + 1) c') W' ∧ URow e s cs Sub w0 W' g' (.slice A' (l.length + 1) c') (l ++ [x]) ∧ W.grownBy W' g ∧ (g' = g ∨ g' = some W.heap.size) := by
  obtain ⟨i0, hi0, hz0, hz1, hz2⟩ := info_parts hi
  obtain ⟨q, h1, h2, h3, h4⟩ := h
  obtain ⟨v', W', g', hrun, hr, hg, hg'⟩ := run_append_rowS (P := P) W t t ty e i0 z s bytes ht hi0 hz0 hz1 hz2 hzs h2 xv 1 (cs x u) hsrc (by simp only [maxLen]; omega) hbm
  obtain ⟨A', c', rfl, _⟩ := hr.form
  refine ⟨A', c', W', g', hrun, ⟨q ++ [(x, u)], ?_⟩, hg, hg'⟩
  have key : ∀ {u x}, Sub (fun b => w0.heap.size ≤ b ∧ g ≠ some b) W u x → Sub (fun b => w0.heap.size ≤ b ∧ g' ≠ some b) W' u x := fun {u x} hs => by
    have a := k.fit (T := fun b => (w0.heap.size ≤ b ∧ g ≠ some b) ∧ b < W.heap.size) hs (fun b hb hl => ⟨hb, hl⟩)
    have b := k.still a ⟨hg.size, fun b hb hl => hg.block b hl (fun e => hb.1.2 e.symm)⟩
    refine k.fit b (fun b hb _ => ⟨hb.1.1, ?_⟩)
    rcases hg' with rfl | rfl
    · exact hb.1.2
    · intro e; injection e with e; omega
  refine ⟨by simp [h1], ?_, ?_, ?_⟩
  · rw [List.flatMap_append, List.length_append, List.length_singleton]
    simpa using hr
  · intro b hb
    rcases hg' with rfl | rfl
    · exact h3 b hb
    · cases hb; exact hw
  · intro y hy
    rcases List.mem_append.1 hy with hy | hy
    · exact key (h4 y hy)
    · rw [List.mem_singleton.1 hy]; exact key hx
/-- An append of one in the walk. -/
theorem URow.wp {P : Program} (k : SubF.Ok Sub) (h : URow e s cs Sub w0 W g v l) (hw : w0.heap.size ≤ W.heap.size) (hx : Sub (fun b => w0.heap.size ≤ b ∧ g ≠ some b) W u x) {ops : Array Oper} {rest : List Oper} {o : Oper} {a : Act} {Q : Exit → Act → World → Prop} (hgd : o.guard = none) (so xo : Operand) (t : TypeId)
    (ho : o.op = .call { callee := .builtin .append, args := #[so, xo], argTypes := #[t, t] }) {z : Value} {bytes : Nat} (ht : P.underlying t = some (.slice e)) (hi : (P.info? e).map (fun i => (i.zero, i.size, i.bytes)) = some (some z, s, bytes)) (hzs : z.cells.size = s)
    (hs : a.eval so = v) (xv : Value) (hxv : a.eval xo = xv) (hsrc : Src P s t xv 1 (cs x u) W) (hm : l.length + 1 ≤ 1048576000) (hbm : (l.length + 1) * bytes ≤ 140737488355328)
    (c : ∀ A' c' W' g', Hid (URow e s cs Sub w0 W' g' (.slice A' (l.length + 1) c') (l ++ [x])) → Hid (W.grownBy W' g) → Hid (g' = g ∨ g' = some W.heap.size) → wpList P ops Q rest (a.put o.dst (.slice A' (l.length + 1) c')) W') : wpList P ops Q (o :: rest) a W := by
  obtain ⟨i0, hi0, hz0, hz1, hz2⟩ := info_parts hi
  have hh := h
  obtain ⟨q, h1, h2, h3, h4⟩ := h
  refine wpList_append_rowS W hgd so xo t ho e i0 z s bytes ht hi0 hz0 hz1 hz2 hzs g v l.length _ hs h2 xv 1 (cs x u) hxv hsrc (by simp only [maxLen]; omega) hbm ?_
  intro A' c' W' g' hr hg hg'
  refine c A' c' W' g' (Lib.hid ⟨q ++ [(x, u)], ?_⟩) (Lib.hid hg) (Lib.hid hg')
  have key : ∀ {u x}, Sub (fun b => w0.heap.size ≤ b ∧ g ≠ some b) W u x → Sub (fun b => w0.heap.size ≤ b ∧ g' ≠ some b) W' u x := fun {u x} hs => by
    have a := k.fit (T := fun b => (w0.heap.size ≤ b ∧ g ≠ some b) ∧ b < W.heap.size) hs (fun b hb hl => ⟨hb, hl⟩)
    have b := k.still a ⟨hg.size, fun b hb hl => hg.block b hl (fun e => hb.1.2 e.symm)⟩
    refine k.fit b (fun b hb _ => ⟨hb.1.1, ?_⟩)
    rcases hg' with rfl | rfl
    · exact hb.1.2
    · intro e; injection e with e; omega
  refine ⟨by simp [h1], ?_, ?_, ?_⟩
  · rw [List.flatMap_append, List.length_append, List.length_singleton]
    simpa using hr
  · intro b hb
    rcases hg' with rfl | rfl
    · exact h3 b hb
    · cases hb; exact hw
  · intro y hy
    rcases List.mem_append.1 hy with hy | hy
    · exact key (h4 y hy)
    · rw [List.mem_singleton.1 hy]; exact key hx
end
/-- One thing in a block of its own, handed to append. -/
theorem src_cells {P : Program} {V : World} {C : Array Value} {e t : TypeId} {s : Nat} {news : List Value} (ht : P.underlying t = some (.slice e)) (q : Nat) (hq : q = V.heap.size) (hC : C.toList = news) (hs : news.length = s) (h1 : ∀ u ∈ news, u.oneCell' = true) :
    Src P s t (.slice (some ⟨q, 0, none⟩) 1 1) 1 news (V.alloc (.cells C e)) := by
  subst hq hC
  refine Src.ofSlice _ ht ⟨V.heap.size, 0, none⟩ 1 1 C.toList (by omega) (fun j u hu => ?_) h1
  rw [add_eq, cell_of_row _ V.heap.size (0 + j) C e (0, 0) (heap_alloc_new V _), Nat.zero_add, ← Array.getElem?_toList]
  exact hu

def noSub : SubF Prt := fun _ _ _ _ => True
def prtsSub : SubF Wrd := fun S W u x => Prts S W u x.parts
def wrdsSub : SubF Cmd := fun S W u x => Wrds S W u x.words
theorem noSub_ok : SubF.Ok noSub := ⟨fun _ _ => trivial, fun _ _ => trivial⟩
theorem prtsSub_ok : SubF.Ok prtsSub := ⟨fun h hs => SlI.still prt_ok h hs, fun h hT => SlI.fit prt_ok h hT⟩
theorem wrdsSub_ok : SubF.Ok wrdsSub := ⟨fun h hs => SlI.still wrd_ok h hs, fun h hT => SlI.fit wrd_ok h hT⟩
def pcell (p : Prt) (_ : Value) : List Value := [.bool p.var, .string (str p.s)]
def wcell (x : Wrd) (u : Value) : List Value := [.int .i64 x.at_, .int .i64 x.kind, u]
def ccell (x : Cmd) (u : Value) : List Value := [.int .i64 x.at_, u]
abbrev PRow (w0 W : World) (g : Option Nat) (v : Value) (l : List Prt) : Prop := URow 47 2 pcell noSub w0 W g v l
abbrev WRow (w0 W : World) (g : Option Nat) (v : Value) (l : List Wrd) : Prop := URow 44 3 wcell prtsSub w0 W g v l
abbrev CRow (w0 W : World) (g : Option Nat) (v : Value) (l : List Cmd) : Prop := URow 39 2 ccell wrdsSub w0 W g v l
theorem PRow.prts {w0 W : World} {g : Option Nat} {v : Value} {l : List Prt} (h : PRow w0 W g v l) : Prts (fun b => w0.heap.size ≤ b) W v l :=
  URow.read h (fun _ _ => rfl) (fun _ b o x u hc _ => ⟨by simpa using hc 0 _ rfl, hc 1 _ rfl⟩) prt_ok
theorem WRow.wrds {w0 W : World} {g : Option Nat} {v : Value} {l : List Wrd} (h : WRow w0 W g v l) : Wrds (fun b => w0.heap.size ≤ b) W v l :=
  URow.read h (fun _ _ => rfl) (fun _ b o x u hc hs => ⟨by simpa using hc 0 _ rfl, hc 1 _ rfl, u, hc 2 _ rfl, hs⟩) wrd_ok
theorem CRow.cmds {w0 W : World} {g : Option Nat} {v : Value} {l : List Cmd} (h : CRow w0 W g v l) : Cmds (fun b => w0.heap.size ≤ b) W v l :=
  URow.read h (fun _ _ => rfl) (fun _ b o x u hc hs => ⟨by simpa using hc 0 _ rfl, u, hc 1 _ rfl, hs⟩) cmd_ok
theorem part_info : (Try.prog.info? 47).map (fun i => (i.zero, i.size, i.bytes)) = some (some (.agg #[.bool false, .string ⟨#[]⟩]), 2, 24) := by kernel_rfl
theorem word_info : (Try.prog.info? 44).map (fun i => (i.zero, i.size, i.bytes)) = some (some (.agg #[.int .i64 0, .int .i64 0, .slice none 0 0]), 3, 40) := by kernel_rfl
theorem cmd_info : (Try.prog.info? 39).map (fun i => (i.zero, i.size, i.bytes)) = some (some (.agg #[.int .i64 0, .slice none 0 0]), 2, 32) := by kernel_rfl
end Go.Proofs.Ytphmhglebeapaaa
