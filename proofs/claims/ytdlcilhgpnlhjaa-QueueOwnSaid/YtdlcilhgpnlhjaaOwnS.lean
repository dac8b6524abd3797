/-
  What cuecardlaw01.QueueOwn holds: its boxes, its two lists and its queue, each in memory of its own.
  Conditions: none.
-/
import Derived.Test.YtdlcilhgpnlhjaaIter
import Derived.Test.YtdlcilhgpnlhjaaActs
import Derived.Deep.RegionHeld3
namespace Go.Proofs.Ytdlcilhgpnlhjaa
open Go.RowKit Go.Shelf

structure OS (w0 W : World) (B2 B4 B5 B7 q : Nat) (vl vw : Value) (gl gw g : Option Nat) (ls ws xs : List Int) : Prop where
  b2 : Blk W B2 30 #[vl]
  b4 : Blk W B4 4 #[.bool false]
  b5 : Blk W B5 25 #[.pointer (some ⟨q, 0, none⟩)]
  b7 : Blk W B7 30 #[vw]
  rl : Row W 3 gl vl (iv ls)
  rs : Row W 3 gw vw (iv ws)
  qa : QAt W q g 60 false (iv xs)
  d1 : ∀ b, gl = some b → gw ≠ some b ∧ g ≠ some b
  d2 : ∀ b, gw = some b → g ≠ some b
  n27 : B2 ≠ B7
  l2 : w0.heap.size ≤ B2
  l4 : w0.heap.size ≤ B4
  l5 : w0.heap.size ≤ B5
  l7 : w0.heap.size ≤ B7
  lq : w0.heap.size ≤ q
  lgl : ∀ b, gl = some b → w0.heap.size ≤ b
  lgw : ∀ b, gw = some b → w0.heap.size ≤ b
  lg : ∀ b, g = some b → w0.heap.size ≤ b
  below : Below w0.heap.size w0 W

section
variable {w0 W W' : World} {B2 B4 B5 B7 q : Nat} {vl vw : Value} {gl gw g g' : Option Nat} {ls ls' ws xs xs' : List Int}

theorem OS.keep (h : OS w0 W B2 B4 B5 B7 q vl vw gl gw g ls ws xs) (hb : Below W.heap.size W W') : OS w0 W' B2 B4 B5 B7 q vl vw gl gw g ls ws xs :=
  ⟨h.b2.below hb h.b2.lt, h.b4.below hb h.b4.lt, h.b5.below hb h.b5.lt, h.b7.below hb h.b7.lt, h.rl.below hb (fun _ e => h.rl.lt e), h.rs.below hb (fun _ e => h.rs.lt e),
    h.qa.below hb h.qa.blk_lt (fun _ e => h.qa.row_lt e), h.d1, h.d2, h.n27, h.l2, h.l4, h.l5, h.l7, h.lq, h.lgl, h.lgw, h.lg, h.below.trans (hb.mono h.below.size)⟩
theorem OS.drew (h : OS w0 W B2 B4 B5 B7 q vl vw gl gw g ls ws xs) : OS w0 W.drew B2 B4 B5 B7 q vl vw gl gw g ls ws xs := h.keep ((Below.refl _ _).drew)

theorem OS.turnQ (h : OS w0 W B2 B4 B5 B7 q vl vw gl gw g ls ws xs) (hq : QAt W' q g' 60 false (iv xs')) (ho : Only (fun b => b = q ∨ some b = g) W W') (hg : g' = g ∨ g' = none ∨ ∃ b, g' = some b ∧ W.heap.size ≤ b) :
    OS w0 W' B2 B4 B5 B7 q vl vw gl gw g' ls ws xs' := by
  obtain ⟨v, bq, rq⟩ := h.qa
  have far : ∀ {B : Nat} {t : TypeId} {cs : Array Value}, Blk W B t cs → 58 ≠ t → 3 ≠ t → ¬ (B = q ∨ some B = g) := by
    rintro B t cs hb h1 h2 (e | e)
    · exact bq.ne_ hb h1 e.symm
    · exact rq.ne_ hb h2 e.symm
  have hgl : ∀ b, gl = some b → ¬ (b = q ∨ some b = g) := by
    rintro b e (rfl | e')
    · exact h.rl.ne_ bq (by decide) e
    · exact (h.d1 b e).2 e'.symm
  have hgw : ∀ b, gw = some b → ¬ (b = q ∨ some b = g) := by
    rintro b e (rfl | e')
    · exact h.rs.ne_ bq (by decide) e
    · exact h.d2 b e e'.symm
  refine ⟨h.b2.only ho (far h.b2 (by decide) (by decide)), h.b4.only ho (far h.b4 (by decide) (by decide)), h.b5.only ho (far h.b5 (by decide) (by decide)), h.b7.only ho (far h.b7 (by decide) (by decide)),
    h.rl.only ho hgl, h.rs.only ho hgw, hq, ?_, ?_, h.n27, h.l2, h.l4, h.l5, h.l7, h.lq, h.lgl, h.lgw, ?_, ho.more' h.below ?_⟩
  · intro b e
    refine ⟨(h.d1 b e).1, ?_⟩
    rcases hg with rfl | rfl | ⟨b', rfl, hb'⟩
    · exact (h.d1 b e).2
    · simp
    · intro e2; cases e2; have := h.rl.lt e; omega
  · intro b e
    rcases hg with rfl | rfl | ⟨b', rfl, hb'⟩
    · exact h.d2 b e
    · simp
    · intro e2; cases e2; have := h.rs.lt e; omega
  · rcases hg with rfl | rfl | ⟨b', rfl, hb'⟩
    · exact h.lg
    · simp
    · intro b e; cases e; have := h.below.size; omega
  · rintro i hi (rfl | e)
    · have := h.lq; omega
    · have := h.lg i e.symm; omega

/-- Behind a store into the first list. -/
theorem OS.setL (h : OS w0 W B2 B4 B5 B7 q vl vw gl gw g ls ws xs) (hr : Row W' 3 gl vl (iv ls')) (hgr : W.grownBy W' gl) : OS w0 W' B2 B4 B5 B7 q vl vw gl gw g ls' ws xs := by
  have ho : Only (fun b => some b = gl) W W' := (Only.refl _ W).grown hgr (fun k e => .inl e.symm)
  obtain ⟨v, bq, rq⟩ := id h.qa
  have far : ∀ {B : Nat} {t : TypeId} {cs : Array Value}, Blk W B t cs → 3 ≠ t → ¬ (some B = gl) := fun hb h1 e => h.rl.ne_ hb h1 e.symm
  exact ⟨h.b2.only ho (far h.b2 (by decide)), h.b4.only ho (far h.b4 (by decide)), h.b5.only ho (far h.b5 (by decide)), h.b7.only ho (far h.b7 (by decide)), hr,
    h.rs.only ho (fun b e e' => (h.d1 b e'.symm).1 e), h.qa.only ho (far bq (by decide)) (fun b e e' => (h.d1 b e'.symm).2 e), h.d1, h.d2, h.n27, h.l2, h.l4, h.l5, h.l7, h.lq, h.lgl, h.lgw, h.lg,
    ho.more' h.below (fun i hi e => by have := h.lgl i e.symm; omega)⟩
end

/-- Cells stay where a block that is none turns. -/
theorem stays {W W' : World} {row : Option Nat} {B : Nat} (hg : W.grownBy W' row) (hr : ∀ r, row = some r → B ≤ r ∧ ∃ o : Obj, W.heap[r]? = some o ∧ o.isCells = false) {i : Nat} {cs : Array Value} {t : TypeId} {fz : Nat × Nat} (h : W.heap[i]? = some (.cells cs t fz)) : W'.heap[i]? = W.heap[i]? :=
  hg.block i (lt_of_heap h) (fun e => by
    obtain ⟨_, o, ho, hc⟩ := hr i e.symm
    rw [h] at ho
    cases ho
    cases hc)
theorem Row.stays {W W' : World} {row : Option Nat} {B : Nat} {e : TypeId} {g : Option Nat} {v : Value} {xs : List Value} (h : Row W e g v xs) (hg : W.grownBy W' row) (hr : ∀ r, row = some r → B ≤ r ∧ ∃ o : Obj, W.heap[r]? = some o ∧ o.isCells = false) : Row W' e g v xs :=
  h.keep fun b e' => by
    obtain ⟨_, _, _, _, _, _, hh⟩ := h
    rcases hh with ⟨_, e2⟩ | ⟨b', _, cs, _, e2, _, hh, _⟩
    · rw [e'] at e2; cases e2
    · rw [e'] at e2; cases e2
      exact Go.Proofs.Ytdlcilhgpnlhjaa.stays hg hr hh

/-- What a round of the loop keeps, where pre has come. -/
def OwnI (w : World) (B2 B4 B5 B7 B11 q : Nat) (vl vw : Value) (gl gw gs : Option Nat) (ms ls : List Int) (pre : List Int) (W : World) : Prop :=
  ∃ g, OS w W B2 B4 B5 B7 q vl vw gl gw g ms ls (if pre = [] then ls else ms) ∧ Blk W B11 3 #[.int .i64 pre.length] ∧ pre <+: ls ∧ (gl ≠ some B11 ∧ gw ≠ some B11 ∧ g ≠ some B11) ∧ w.heap.size ≤ B11 ∧ ∀ b, gs = some b → b < W.heap.size ∧ g ≠ some b ∧ b ≠ q ∧ b ≠ B11

theorem OwnI.own (w : World) (B2 B4 B5 B7 B11 q : Nat) (vl vw : Value) (gl gw gs : Option Nat) (ms ls : List Int) (B : Nat) (hB : w.heap.size ≤ B) : OwnFrom B (OwnI w B2 B4 B5 B7 B11 q vl vw gl gw gs ms ls) := by
  rintro pre W W' row ⟨g, h, b11, hp, hne, hlb, hgs⟩ hg hr
  obtain ⟨v, bq, rq⟩ := h.qa
  exact ⟨g, ⟨h.b2.keep (stays hg hr h.b2), h.b4.keep (stays hg hr h.b4), h.b5.keep (stays hg hr h.b5), h.b7.keep (stays hg hr h.b7), h.rl.stays hg hr, h.rs.stays hg hr, ⟨v, bq.keep (stays hg hr bq), rq.stays hg hr⟩,
    h.d1, h.d2, h.n27, h.l2, h.l4, h.l5, h.l7, h.lq, h.lgl, h.lgw, h.lg, h.below.grown hg h.below.size (fun k e => by have := (hr k e).1; omega)⟩, b11.keep (stays hg hr b11), hp, hne, hlb,
    fun b e => ⟨Nat.lt_of_lt_of_le (hgs b e).1 hg.size, (hgs b e).2⟩⟩

theorem Only.others {S : Nat → Prop} {W W' : World} (h : Only S W W') (hc : ∀ i, S i → ∃ cs t fz, W.heap[i]? = some (.cells cs t fz)) : KeepsOthers W W' :=
  ⟨h.size, fun i o hi ho => (h.block i (lt_of_heap hi) (fun hs => by
    obtain ⟨cs, t, fz, e⟩ := hc i hs
    rw [e] at hi
    cases hi
    cases ho)).trans hi⟩
theorem QAt.cells {w : World} {q : Nat} {g : Option Nat} {room : Nat} {en : Bool} {xs : List Value} (h : QAt w q g room en xs) : ∀ i, (i = q ∨ some i = g) → ∃ cs t fz, w.heap[i]? = some (.cells cs t fz) := by
  obtain ⟨v, hb, hr⟩ := h
  rintro i (rfl | e)
  · exact ⟨_, _, _, hb⟩
  · obtain ⟨_, _, _, _, _, _, hh⟩ := hr
    rcases hh with ⟨_, e2⟩ | ⟨b', _, cs, _, e2, _, hh, _⟩
    · rw [e2] at e; cases e
    · rw [e2] at e; cases e; exact ⟨_, _, _, hh⟩

theorem pre_next {ls pre : List Int} {x : Int} (h : pre <+: ls) (hl : pre.length < ls.length) (hx : ls[pre.length]?.getD 0 = x) : pre ++ [x] <+: ls := by
  have e := List.prefix_iff_eq_take.1 h
  have := take_next ls pre.length hl
  rw [← e, hx] at this
  rw [← this]
  exact List.take_prefix _ _
theorem pre_not {ls pre : List Int} {x y : Int} (hy : ls[pre.length]?.getD 0 = y) (hne : (x != y) = true) : ¬ (pre ++ [x] <+: ls) := by
  rintro ⟨t, rfl⟩
  simp at hy hne
  exact hne hy

section
variable {w W W' : World} {B2 B4 B5 B7 B11 q : Nat} {vl vw : Value} {gl gw g g' gs : Option Nat} {ms ls xs xs' : List Int} {cs : Array Value}
theorem own_turn (hS : OS w W B2 B4 B5 B7 q vl vw gl gw g ms ls xs) (b11 : Blk W B11 3 cs) (hne : g ≠ some B11) (hgs : ∀ b, gs = some b → b < W.heap.size ∧ g ≠ some b ∧ b ≠ q ∧ b ≠ B11)
    (hq : QAt W' q g' 60 false (iv xs')) (ho : Only (fun b => b = q ∨ some b = g) W W') (hg : g' = g ∨ g' = none ∨ ∃ b, g' = some b ∧ W.heap.size ≤ b) :
    OS w W' B2 B4 B5 B7 q vl vw gl gw g' ms ls xs' ∧ Blk W' B11 3 cs ∧ g' ≠ some B11 ∧ (∀ b, gs = some b → b < W'.heap.size ∧ g' ≠ some b ∧ b ≠ q ∧ b ≠ B11) ∧ KeepsOthers W W' ∧ Kpt gs W W' := by
  obtain ⟨v, bq, rq⟩ := id hS.qa
  refine ⟨hS.turnQ hq ho hg, b11.only ho ?_, ?_, fun b e => ⟨Nat.lt_of_lt_of_le (hgs b e).1 ho.size, ?_, (hgs b e).2.2⟩, ho.others hS.qa.cells, fun b e => ho.block b (hgs b e).1 ?_⟩
  · rintro (e | e)
    · exact b11.ne_ bq (by decide) e
    · exact hne e.symm
  · rcases hg with rfl | rfl | ⟨b, rfl, hb⟩
    · exact hne
    · simp
    · intro e; cases e; have := b11.lt; omega
  · rcases hg with rfl | rfl | ⟨b', rfl, hb⟩
    · exact (hgs b e).2.1
    · simp
    · intro e2; cases e2; have := (hgs _ e).1; omega
  · rintro (e2 | e2)
    · exact (hgs b e).2.2.1 e2
    · exact (hgs b e).2.1 e2.symm

/-- The counter goes on. -/
theorem own_tick (hS : OS w W B2 B4 B5 B7 q vl vw gl gw g ms ls xs) (b11 : Blk W B11 3 cs) (hcs : cs.size = 1) (hne : gl ≠ some B11 ∧ gw ≠ some B11 ∧ g ≠ some B11) (hlb : w.heap.size ≤ B11) (hgs : ∀ b, gs = some b → b < W.heap.size ∧ g ≠ some b ∧ b ≠ q ∧ b ≠ B11)
    {pre : List Int} (hp : pre <+: ls) (hxs : xs = if pre = [] then ls else ms) :
    KeepsOthers W (W.setCell ⟨B11, 0, none⟩ (.int .i64 pre.length)) ∧ Kpt gs W (W.setCell ⟨B11, 0, none⟩ (.int .i64 pre.length)) ∧ OwnI w B2 B4 B5 B7 B11 q vl vw gl gw gs ms ls pre (W.setCell ⟨B11, 0, none⟩ (.int .i64 pre.length)) := by
  obtain ⟨v, bq, rq⟩ := id hS.qa
  have f2 := hS.b2.ne_ b11 (by decide)
  have f4 := hS.b4.ne_ b11 (by decide)
  have f5 := hS.b5.ne_ b11 (by decide)
  have f7 := hS.b7.ne_ b11 (by decide)
  have fq := bq.ne_ b11 (by decide)
  have hset := b11.set_ 0 (.int .i64 pre.length)
  have e1 : cs.setIfInBounds 0 (.int .i64 pre.length) = #[.int .i64 pre.length] := by
    match cs, hcs with
    | ⟨[c0]⟩, _ => rfl
  rw [e1] at hset
  subst hxs
  refine ⟨KeepsOthers.setCell _ _ _, fun b e => Below.heap_setCell W _ _ b (hgs b e).2.2.2, g, ⟨hS.b2.far (p := ⟨B11, 0, none⟩) f2 _, hS.b4.far (p := ⟨B11, 0, none⟩) f4 _, hS.b5.far (p := ⟨B11, 0, none⟩) f5 _, hS.b7.far (p := ⟨B11, 0, none⟩) f7 _, hS.rl.far (p := ⟨B11, 0, none⟩) hne.1 _, hS.rs.far (p := ⟨B11, 0, none⟩) hne.2.1 _,
    ⟨v, bq.far (p := ⟨B11, 0, none⟩) fq _, rq.far (p := ⟨B11, 0, none⟩) hne.2.2 _⟩, hS.d1, hS.d2, hS.n27, hS.l2, hS.l4, hS.l5, hS.l7, hS.lq, hS.lgl, hS.lgw, hS.lg, hS.below.setCell (p := ⟨B11, 0, none⟩) hlb _⟩, hset, hp, hne, hlb, fun b e => ⟨by simpa [World.setCell] using (hgs b e).1, (hgs b e).2⟩⟩
end

/-- The first j are turned. -/
def stepped (f : Int → Int) (j : Nat) (ls : List Int) : List Int := (ls.take j).map f ++ ls.drop j
theorem stepped_zero (f : Int → Int) (ls : List Int) : stepped f 0 ls = ls := by simp [stepped]
theorem stepped_all (f : Int → Int) (ls : List Int) : stepped f ls.length ls = ls.map f := by simp [stepped]
theorem stepped_length (f : Int → Int) (j : Nat) (ls : List Int) (h : j ≤ ls.length) : (stepped f j ls).length = ls.length := by simp [stepped]; omega
theorem stepped_at (f : Int → Int) (j : Nat) (ls : List Int) (h : j < ls.length) : (stepped f j ls)[j]?.getD 0 = ls[j]?.getD 0 := by
  unfold stepped
  rw [List.getElem?_append_right (by simp; omega), List.getElem?_drop]
  simp [show min j ls.length = j by omega]
theorem stepped_set (f : Int → Int) (j : Nat) (ls : List Int) (h : j < ls.length) : (stepped f j ls).set j (f (ls[j]?.getD 0)) = stepped f (j + 1) ls := by
  unfold stepped
  have hl : ((ls.take j).map f).length = j := by simp; omega
  rw [List.set_append_right _ _ (by omega), hl, Nat.sub_self, List.drop_eq_getElem_cons h, List.set_cons_zero, List.take_succ_eq_append_getElem h, List.map_append, List.append_assoc]
  simp only [List.map_cons, List.map_nil, List.cons_append, List.nil_append]
  rw [List.getElem?_eq_getElem h]
  rfl

/-- A store into a row of its own. -/
theorem Row.set_ {w : World} {e : TypeId} {g : Option Nat} {b o n c k : Nat} {xs : List Value} (h : Row w e g (.slice (some ⟨b, o, none⟩) n c) xs) (hk : k < xs.length) {u : Value} (hu : u.oneCell' = true) :
    Row (w.setCell ⟨b, o + k, none⟩ u) e g (.slice (some ⟨b, o, none⟩) n c) (xs.set k u) ∧ w.grownBy (w.setCell ⟨b, o + k, none⟩ u) g ∧ w.frozen? ⟨b, o + k, none⟩ = false := by
  obtain ⟨A, c', hv, hle, hm, h1, hg⟩ := h
  injection hv with e1 e2 e3
  subst e1 e2 e3
  rcases hg with ⟨rfl, _⟩ | ⟨b', o', cs, hc, rfl, e1, hb, hfit, hx⟩
  · omega
  · cases e1
    have hblk : Blk w b e cs := hb
    have hb' := hblk.set_ (o + k) u
    refine ⟨⟨_, c, by rw [List.length_set], by rw [List.length_set]; exact hle, hm, fun v hv => ?_, .inr ⟨b, o, _, hc, rfl, rfl, hb', by simpa using hfit, fun j v hj => ?_⟩⟩, ⟨rfl, rfl, rfl, by simp [World.setCell], fun i _ hi => Below.heap_setCell w _ u i (fun e2 => hi (by rw [e2]))⟩, hblk.frozen _⟩
    · rcases List.mem_or_eq_of_mem_set hv with hv | rfl
      · exact h1 v hv
      · exact hu
    · rw [List.getElem?_set] at hj
      rw [Array.getElem?_setIfInBounds]
      by_cases hjk : k = j
      · subst hjk
        rw [if_pos rfl, if_pos hk] at hj
        rw [if_pos rfl, if_pos (by omega)]
        exact hj
      · rw [if_neg hjk] at hj
        rw [if_neg (by omega)]
        exact hx j v hj
end Go.Proofs.Ytdlcilhgpnlhjaa
