/-
  event.those: the events of a direction, one by one; and the contract of event.Bytes.
  Conditions: at most 1048576 events, of at most 1048576 bytes each.
-/
import Derived.Test.YtakcoplpmhgoiaaEvSame
import Derived.RangeFuncNested
import Derived.RangeFuncBound
import Derived.RangeFuncCalls
import Derived.RangeFuncLeaves
import Derived.RangeFuncBox
import Derived.Shelf.Abstract
import Derived.OwnWalkIn
import Derived.TacticsInMore
import Derived.LoopNIn
import Derived.LoopIn
import Derived.Maps.AppendAt
namespace Go.Proofs.Ytakcoplpmhgoiaa
open Go.RowKit Go.Shelf

attribute [local go_sem] Oper.semAt_some

/-- These blocks are as they were. -/
def Kept (S : Nat → Prop) (W W' : World) : Prop := ∀ b, S b → W'.heap[b]? = W.heap[b]?
theorem Kept.refl (S : Nat → Prop) (W : World) : Kept S W W := fun _ _ => rfl
theorem Kept.t {S : Nat → Prop} {A B C : World} (h : Kept S A B) (k : Kept S B C) : Kept S A C := fun b e => (k b e).trans (h b e)
theorem Kept.b {S : Nat → Prop} {w : World} (hS : ∀ b, S b → b < w.heap.size) (W : World) (l : Nat) (o o' : Obj) (hl : w.heap.size ≤ l) (_ : W.heap[l]? = some o) (_ : o.isCells = false) (_ : o.isWalk = false) : Kept S W (W.putObj l o') :=
  fun b e => World.putObj_heap_other (fun e' => by have := hS b e; omega)

/-- What those hands out. -/
def ThoseTo (w : World) (dir : Int) (v : Value) (e : Ending) (w' : World) : Prop :=
  ∃ Bl Bd, e = .returned (.func (.func 29) #[] #[.pointer (some ⟨Bl, 0, none⟩), .pointer (some ⟨Bd, 0, none⟩)]) ∧ Blk w' Bl 22 #[v] ∧ Blk w' Bd 3 #[.int .i64 dir] ∧ Below w.heap.size w w' ∧ w.heap.size ≤ Bl ∧ w.heap.size ≤ Bd
theorem those_any (dir : Int) (A : Option Addr) (n c : Nat) (w : World) : Calls Try.prog 25 #[.int .i64 dir, .slice A n c] w (ThoseTo w dir (.slice A n c)) := by
  go_enter Try.func25, Try.ntmps25
  go_wp2
  go_ret
  refine ⟨w.heap.size + 1, w.heap.size, rfl, ?_, (Blk.new w _ _).alloc _, ((Below.refl _ w).alloc (Nat.le_refl _) _).alloc (by simp) _, by omega, by omega⟩
  have := Blk.new (w.alloc (.cells #[.int .i64 dir] 3)) 22 #[.slice A n c]
  rwa [World.size_alloc] at this

/-- An event of the list. -/
abbrev El (L : List Ev) := { a : Ev // a ∈ L }
/-- The first k of the list, of a direction. -/
def told (L : List Ev) (dir : Int) (k : Nat) : List (El L) := (L.attach.take k).filter fun x => decide (x.1.dir = dir)
theorem att_at {L : List Ev} {k : Nat} {a : Ev} (h : L[k]? = some a) : L.attach[k]? = some ⟨a, List.mem_of_getElem? h⟩ := by
  rw [List.getElem?_attach]
  simp [h]
theorem told_next {L : List Ev} {dir : Int} {k : Nat} {a : Ev} (h : L[k]? = some a) (hm : a ∈ L) : told L dir (k + 1) = told L dir k ++ (if a.dir = dir then [⟨a, hm⟩] else []) := by
  unfold told
  rw [List.take_add_one, att_at h, List.filter_append]
  congr 1
  by_cases e : a.dir = dir <;> simp [e]
theorem told_lt {L : List Ev} {dir : Int} {k : Nat} {a : Ev} (h : L[k]? = some a) (hd : a.dir = dir) : (told L dir k).length < (told L dir L.length).length := by
  have h1 : (told L dir (k + 1)).length ≤ (told L dir L.length).length := by
    unfold told
    have hk := (List.getElem?_eq_some_iff.1 h).1
    rw [List.take_of_length_le (l := L.attach) (i := L.length) (by simp)]
    have e : L.attach = L.attach.take (k + 1) ++ L.attach.drop (k + 1) := (List.take_append_drop _ _).symm
    conv => rhs; rw [e, List.filter_append, List.length_append]
    omega
  rw [told_next h (List.mem_of_getElem? h), if_pos hd, List.length_append] at h1
  simp at h1
  omega
theorem told_le (L : List Ev) (dir : Int) : (told L dir L.length).length ≤ L.length := by
  unfold told
  have := List.length_filter_le (fun x : El L => decide (x.1.dir = dir)) (L.attach.take L.length)
  simp at this ⊢
  omega

set_option maxRecDepth 100000 in
set_option maxHeartbeats 2000000 in
/-- The closure of those: for every loop body that keeps the blocks of S. -/
theorem those1_in (n : Nat) (hn : 1 ≤ n) (l Bl Bd : Nat) (dir : Int) (v : Value) (L : List Ev) (S : Nat → Prop) (hSl : S Bl) (hSd : S Bd) (J Jx : List (El L) → World → Prop) (B0 : Nat) (hab : AbidesFrom B0 J)
    (hY : ∀ pre x W, J pre W → pre.length < (told L dir L.length).length → YieldAt Fence.wide (n - 1) Try.prog l #[x.1.val] W fun e W' =>
      (e = .returned (.bool true) ∧ J (pre ++ [x]) W' ∧ Kept S W W') ∨ (e = .returned (.bool false) ∧ Jx (pre ++ [x]) W'))
    (W : World) (hBl : Blk W Bl 22 #[v]) (hBd : Blk W Bd 3 #[.int .i64 dir]) (hL : EvsIn S W v L) (h0 : J [] W) :
    CallsIn Fence.wide n Try.prog 29 #[.func (.yield l) #[] #[], .pointer (some ⟨Bl, 0, none⟩), .pointer (some ⟨Bd, 0, none⟩)] W fun e W' => (∃ v, e = .returned v) ∧
      ((∃ ys, ys = told L dir L.length ∧ J ys W') ∨ (∃ pre, True ∧ Jx pre W')) := by
  obtain ⟨A, c, rfl, -⟩ := hL.form
  have hmax := hL.max
  have cl : W.cell? ⟨Bl, 0, none⟩ = some (.slice A L.length c) := hBl.cell 0
  have HH := Lib.hid (And.intro hBl (And.intro hBd hL))
  have HAB := Lib.hid hab
  clear hBl hBd hL hab
  refine callsIn_of_wp Try.func29 rfl trivial ?_ rfl
  simp only [Try.ntmps29, List.size_toArray, List.length_cons, List.length_nil, Nat.reduceAdd, Nat.reduceSub, Array.replicate_succ, Array.replicate_zero, List.push_toArray, List.append_toArray, List.nil_append, List.cons_append]
  gi_wp2
  gi_loopw [8] (fun i wr => ∃ k : Nat, k ≤ L.length ∧ i = .int .i64 k ∧ J (told L dir k) wr ∧ Hid (Blk wr Bl 22 #[.slice A L.length c] ∧ Blk wr Bd 3 #[.int .i64 dir] ∧ EvsIn S wr (.slice A L.length c) L))
    (fun i _ => L.length - (intOf i).toNat)
  case atStart => exact ⟨0, Nat.zero_le _, rfl, h0, HH⟩
  case round =>
    obtain ⟨k, hk, rfl, hJs, HR⟩ := hrel
    by_cases hlt : k < L.length
    · obtain ⟨b, o, ⟨d, t, Aa, ca, bs⟩, rfl, ha, hat, hok, -⟩ := HR.out.2.2.at hlt
      have c0 := hat.dir
      have c1 := hat.time
      have c2 := hat.data
      have HA := Lib.hid ha
      have hbm := hok.max
      have cd : ∀ o, (wr.alloc o).cell? ⟨Bd, 0, none⟩ = some (.int .i64 dir) := fun o => (HR.out.2.1.alloc o).cell 0
      dsimp only at c0 c1 c2 hbm
      have hmem := List.mem_of_getElem? ha
      have HN := Lib.hid (told_next (dir := dir) ha hmem)
      have HT : Hid (d = dir → (told L dir k).length < (told L dir L.length).length) := told_lt ha
      obtain ⟨O, hO⟩ : ∃ O : Obj, O = .cells #[.int .i64 d, .int .i64 t, .slice Aa bs.length ca] 25 := ⟨_, rfl⟩
      have hJa : J (told L dir k) (wr.alloc O) := HAB.out _ wr (wr.alloc O) none hJs (World.grownBy_alloc wr O none) (by simp)
      have HR2 : Hid (Blk (wr.alloc O) Bl 22 #[.slice (some ⟨b, o, none⟩) L.length c] ∧ Blk (wr.alloc O) Bd 3 #[.int .i64 dir] ∧ EvsIn S (wr.alloc O) (.slice (some ⟨b, o, none⟩) L.length c) L) := ⟨HR.out.1.alloc _, HR.out.2.1.alloc _, HR.out.2.2.keep fun b _ hlt => Below.heap_alloc wr O b hlt⟩
      subst hO
      clear hat hok ha
      by_cases hd : d = dir
      · subst hd
        rw [if_pos rfl] at HN
        obtain ⟨fn, tmps, assign, body, hy, hR⟩ := hY _ ⟨⟨d, t, Aa, ca, bs⟩, hmem⟩ _ hJa (HT.out rfl)
        simp only [Ev.val] at hy
        gi_wp2
        refine hR.mono ?_
        rintro e W3 (⟨rfl, hJ3, hk3⟩ | ⟨rfl, hJx3⟩)
        · have HR3 : Hid (Blk W3 Bl 22 #[.slice (some ⟨b, o, none⟩) L.length c] ∧ Blk W3 Bd 3 #[.int .i64 d] ∧ EvsIn S W3 (.slice (some ⟨b, o, none⟩) L.length c) L) := ⟨HR2.out.1.keep (hk3 _ hSl), HR2.out.2.1.keep (hk3 _ hSd), HR2.out.2.2.keep fun b hb _ => hk3 b hb⟩
          clear hk3
          gi_wp2
          go_roundw
          case rel => exact ⟨k + 1, by omega, by simp, by rw [HN.out]; exact hJ3, HR3.out⟩
          case measure => simp [intOf]; omega
        · gi_wp2
          refine bodyPost_ret (results_none rfl _ _ _) rfl ?_
          exact ⟨⟨_, rfl⟩, .inr ⟨_, trivial, hJx3⟩⟩
      · have hne : (d == dir) = false := by simpa using hd
        rw [if_neg hd, List.append_nil] at HN
        gi_wp2
        refine ⟨fun _ h => (by cases h), ?_⟩
        gi_wp2
        go_roundw
        case rel => exact ⟨k + 1, by omega, by simp, by rw [HN.out]; exact hJa, HR2.out⟩
        case measure => simp [intOf]; omega
    · obtain rfl : k = L.length := by omega
      gi_wp2
      go_end0
      exact ⟨⟨_, rfl⟩, .inl ⟨_, rfl, hJs⟩⟩

/-- The closure that those hands out, as the loop's law asks for it. -/
theorem those_stops (n : Nat) (hn : 1 ≤ n) (Bl Bd : Nat) (dir : Int) (v : Value) (L : List Ev) (S : Nat → Prop) (hSl : S Bl) (hSd : S Bd) (w : World) (hBl : Blk w Bl 22 #[v]) (hBd : Blk w Bd 3 #[.int .i64 dir]) (hL : EvsIn S w v L) :
    SeqStopsK Fence.wide n Try.prog 29 #[.pointer (some ⟨Bl, 0, none⟩), .pointer (some ⟨Bd, 0, none⟩)] (fun x : El L => #[x.1.val]) (Kept S) (fun ys => ys = told L dir L.length) (fun _ => True) (told L dir L.length).length w := fun l J Jx W hW hab _ hY h0 =>
  those1_in n hn l Bl Bd dir v L S hSl hSd J Jx W.heap.size hab hY W (hBl.below hW hBl.lt) (hBd.below hW hBd.lt) (hL.keep fun b _ hlt => hW.block b hlt) h0

/-- A variable that holds a row of bytes, outside S. -/
def RowI (w : World) (S : Nat → Prop) (Bb : Nat) (bs : List Nat) (W : World) : Prop :=
  ∃ v go, Blk W Bb 23 #[v] ∧ Row W 5 go v (bv bs) ∧ (∀ b, go = some b → w.heap.size ≤ b ∧ ¬ S b) ∧ Below w.heap.size w W ∧ ∀ b, S b → b < W.heap.size
/-- A block of cells stays where only others turn. -/
theorem cells_kept {W W' : World} {row : Option Nat} {B : Nat} (hg : W.grownBy W' row) (hrow : ∀ r, row = some r → B ≤ r ∧ ∃ o : Obj, W.heap[r]? = some o ∧ o.isCells = false) {k : Nat} {cs : Array Value} {t : TypeId} {z : Nat × Nat} (hk : W.heap[k]? = some (.cells cs t z)) : W'.heap[k]? = W.heap[k]? :=
  hg.block k (lt_of_heap hk) fun e => by
    obtain ⟨_, o, ho, hc⟩ := hrow k e.symm
    rw [hk] at ho
    cases ho
    cases hc
theorem Row.obj {w : World} {e : TypeId} {g : Option Nat} {v : Value} {xs : List Value} (h : Row w e g v xs) {b : Nat} (hb : g = some b) : ∃ cs, w.heap[b]? = some (.cells cs e (0, 0)) := by
  obtain ⟨_, _, _, _, _, _, hh⟩ := h
  rcases hh with ⟨_, e'⟩ | ⟨b', _, cs, _, e', _, hh, _⟩
  · rw [e'] at hb; cases hb
  · rw [e'] at hb; cases hb
    exact ⟨cs, hh⟩
theorem RowI.own {β : Type} (w : World) (S : Nat → Prop) (Bb B : Nat) (f : β → List Nat) (hB : w.heap.size ≤ B) : OwnFrom B (fun pre W => RowI w S Bb (f pre) W) := by
  rintro s W W' row ⟨v, go, hb, hr, hgo, hbel, hlt⟩ hg hrow
  refine ⟨v, go, hb.keep (cells_kept hg hrow hb), hr.keep (fun b e => ?_), hgo, hbel.grown hg hbel.size (fun k e => by have := (hrow k e).1; omega), fun b e => Nat.lt_of_lt_of_le (hlt b e) hg.size⟩
  obtain ⟨cs, hh⟩ := hr.obj e
  exact cells_kept hg hrow hh
theorem RowI.step {w W w1 : World} {S : Nat → Prop} {Bb : Nat} {go go' : Option Nat} {bs m : List Nat} {v V : Value} (hb : Blk W Bb 23 #[v]) (hr : Row W 5 go v (bv bs))
    (hgo : ∀ b, go = some b → w.heap.size ≤ b ∧ ¬ S b) (hbel : Below w.heap.size w W) (hlt : ∀ b, S b → b < W.heap.size) (hnS : ¬ S Bb) (hBw : w.heap.size ≤ Bb)
    (hrow' : Row w1 5 go' V (bv bs ++ bv m)) (hgr : W.grownBy w1 go) (hg' : go' = go ∨ go' = some W.heap.size) :
    KeepsOthers W (w1.setCell ⟨Bb, 0, none⟩ V) ∧ Kept S W (w1.setCell ⟨Bb, 0, none⟩ V) ∧ RowI w S Bb (bs ++ m) (w1.setCell ⟨Bb, 0, none⟩ V) := by
  have hne : go ≠ some Bb := hr.ne_ hb (by decide)
  have hb1 : Blk w1 Bb 23 #[v] := hb.keep (hgr.block _ hb.lt (Ne.symm hne))
  have hne' : go' ≠ some Bb := hrow'.ne_ hb1 (by decide)
  have hkg : ∀ b, S b → w1.heap[b]? = W.heap[b]? := fun b e => hgr.block b (hlt b e) (fun e' => (hgo b e'.symm).2 e)
  refine ⟨?_, ?_, V, go', ?_, ?_, ?_, ?_, ?_⟩
  · refine (KeepsOthers.of_grownBy hgr fun j o ej hj => ?_).trans (KeepsOthers.setCell _ _ _)
    obtain ⟨cs, hh⟩ := hr.obj ej
    rw [hh] at hj; cases hj; rfl
  · exact fun b e => (Below.heap_setCell w1 _ V b (by rintro rfl; exact hnS e)).trans (hkg b e)
  · have := hb1.set_ 0 V; simpa using this
  · rw [bv_append]; exact hrow'.far (p := ⟨Bb, 0, none⟩) hne' V
  · intro b e
    rcases hg' with e' | e'
    · exact hgo b (by rw [← e', e])
    · rw [e] at e'
      cases e'
      exact ⟨hbel.size, fun h => by have := hlt _ h; omega⟩
  · exact (hbel.grown hgr hbel.size (fun k e => (hgo k e).1)).setCell (p := ⟨Bb, 0, none⟩) hBw V
  · intro b e
    have h1 := hlt b e
    have h2 := hgr.size
    simp [World.setCell] at h2 ⊢
    omega

theorem wpListIn_append_row {F : Fence} {n : Nat} {P : Program} (w : World) {ops : Array Oper} {rest : List Oper} {o : Oper} {a : Act} {Q : Exit → Act → World → Prop}
    (hgd : o.guard = none) (s x : Operand) (t : TypeId) (ho : o.op = Op.call { callee := Callee.builtin Builtin.append, args := #[s, x], argTypes := #[t, t] })
    (e : TypeId) (i : TypeInfo) (z : Value) (bytes : Nat) (ht : P.underlying t = some (.slice e)) (hi : P.info? e = some i) (hz : i.zero = some z)
    (hsize : i.size = 1) (hby : i.bytes = bytes) (hzs : z.cells.size = 1)
    (g : Option Nat) (v : Value) (xs : List Value) (hs : a.eval s = v) (hrow : Row w e g v xs) (xv : Value) (ys : List Value) (hx : a.eval x = xv) (hrd : Rd w xv ys)
    (h63 : xs.length + ys.length ≤ maxLen) (hbytes : (xs.length + ys.length) * bytes ≤ 140737488355328)
    (h : ∀ A' c' w' g', Row w' e g' (.slice A' (xs.length + ys.length) c') (xs ++ ys) → w.grownBy w' g → (g' = g ∨ g' = some w.heap.size) → wpListIn F n P ops Q rest (a.put o.dst (.slice A' (xs.length + ys.length) c')) w') :
    wpListIn F n P ops Q (o :: rest) a w := by
  refine wpListIn_plain hgd fun K hK' => ?_
  obtain ⟨v', w', g', hrun, h2, h3, h4⟩ := run_append_row (P := P) w t t o.type e i z bytes ht hi hz hsize hby hzs hrow xv ys.length ys (hrd.src ht) h63 hbytes
  obtain ⟨A', c', rfl⟩ := h2.form
  rw [List.length_append] at h2 hrun
  unfold Oper.wpIn
  refine ⟨?_, ?_⟩
  · simp [Oper.about, ho, resolve, Target.leads, Sem.run_pure]
  · rw [Oper.semAt_plain F _ _ (by rw [ho]; intro c hc'; cases hc')]
    simp [execOp, ho, resolve, invoke, builtin, hs, hx, hrun, Result.andThen]
    exact hK' _ _ (h A' c' w' g' h2 h3 h4)

theorem EvsIn.own {β : Type} {S : Nat → Prop} {B : Nat} {v : Value} {L : List Ev} (hS : ∀ b, S b → b < B) : OwnFrom B (fun (_ : β) W => EvsIn S W v L) := fun _ _ _ _ h hg hr =>
  h.keep fun b hb hlt => hg.block b hlt fun e => by have := (hr b e.symm).1; have := hS b hb; omega

def catE {L : List Ev} (pre : List (El L)) : List Nat := pre.flatMap (·.1.data)
theorem catE_snoc {L : List Ev} (pre : List (El L)) (x : El L) : catE (pre ++ [x]) = catE pre ++ x.1.data := by simp [catE]
theorem catE_told (L : List Ev) (dir : Int) : ∀ k, k ≤ L.length → catE (told L dir k) = byts dir ((pes L).take k)
  | 0, _ => by simp [told, catE, byts]
  | k + 1, hk => by
    have h : L[k]? = some L[k] := List.getElem?_eq_getElem (by omega)
    rw [told_next h (List.getElem_mem _), pes_take h, byts_append, ← catE_told L dir k (by omega)]
    simp only [catE, List.flatMap_append]
    congr 1
    by_cases e : L[k].dir = dir
    · simp [e, byts, Ev.pe]
    · simp [e, byts, Ev.pe]
theorem catE_all (L : List Ev) (dir : Int) : catE (told L dir L.length) = byts dir (pes L) := by rw [catE_told L dir _ (Nat.le_refl _), pes_all]
theorem catE_le {L : List Ev} {m : Nat} (hd : ∀ a ∈ L, a.data.length ≤ m) : ∀ pre : List (El L), (catE pre).length ≤ pre.length * m
  | [] => by simp [catE]
  | x :: pre => by
    have h1 := catE_le hd pre
    have h2 := hd x.1 x.2
    have e : catE (x :: pre) = x.1.data ++ catE pre := by simp [catE]
    rw [e, List.length_append, List.length_cons, Nat.add_mul]
    omega

/-- What Bytes leaves: bytes in a row of their own. -/
def BytTo (w : World) (bs : List Nat) (e : Ending) (w' : World) : Prop :=
  ∃ A c g, e = .returned (.slice A bs.length c) ∧ Row w' 5 g (.slice A bs.length c) (bv bs) ∧ (∀ b, g = some b → w.heap.size ≤ b) ∧ Below w.heap.size w w'

set_option maxRecDepth 100000 in
set_option maxHeartbeats 2000000 in
theorem Bytes_any (dir : Int) (v : Value) (L : List Ev) (w : World) (h : Evs w v L) (hn : L.length ≤ 1048576) (hd : ∀ a ∈ L, a.data.length ≤ 1048576) :
    Calls Try.prog 16 #[.int .i64 dir, v] w (BytTo w (byts dir (pes L))) := by
  refine (callsIn_wide (n := 3)).1 ?_
  obtain ⟨i0, hi0, hz0, hz1, hz2⟩ := info_parts byte_info
  obtain ⟨A, c, rfl, -⟩ := h.form
  have HT := Lib.hid ((callsIn_wide (n := 2)).2 (those_any dir A L.length c (w.alloc (.cells #[.slice none 0 0] 23))))
  have HE := Lib.hid h
  have HD := Lib.hid hd
  clear h hd
  refine callsIn_of_wp_marks Try.func16 rfl trivial ?_ rfl
  simp only [Try.ntmps16, List.size_toArray, List.length_cons, List.length_nil, Nat.reduceAdd, Nat.reduceSub, Array.replicate_succ, Array.replicate_zero, List.push_toArray, List.append_toArray, List.nil_append, List.cons_append]
  gi_wp2_with fail
  refine ⟨trivial, ?_⟩
  refine HT.out.mono ?_
  rintro e w2 ⟨Bl, Bd, rfl, hBl, hBd, hbel, hl1, hl2⟩
  obtain ⟨S, hS⟩ : ∃ S : Nat → Prop, S = fun b => b < w.heap.size ∨ b = Bl ∨ b = Bd := ⟨_, rfl⟩
  have hbw : Below w.heap.size w w2 := ((Below.refl _ w).alloc (Nat.le_refl _) _).trans (hbel.mono (by simp))
  have hob : Blk w2 w.heap.size 23 #[.slice none 0 0] := (Blk.new w _ _).below hbel (by simp)
  rw [World.size_alloc] at hl1 hl2
  have hSlt : ∀ b, S b → b < w2.heap.size := by
    rw [hS]
    rintro b (hb | rfl | rfl)
    · exact Nat.lt_of_lt_of_le hb hbw.size
    · exact hBl.lt
    · exact hBd.lt
  have hnS : ¬ S w.heap.size := by rw [hS]; simp; omega
  have hEv : EvsIn S w2 (.slice A L.length c) L := EvsIn.mono (Evs.old HE.out |>.keep fun b hb _ => hbw.block b hb) (fun b _ hb => by rw [hS]; exact .inl hb)
  have hSl : S Bl := by rw [hS]; exact .inr (.inl rfl)
  have hSd : S Bd := by rw [hS]; exact .inr (.inr rfl)
  have X := Lib.hid (And.intro hbw (And.intro hob (And.intro hBl (And.intro hBd (And.intro hSlt (And.intro hnS hEv))))))
  have hown : OwnFrom w2.heap.size (fun (pre : List (El L)) W => RowI w S w.heap.size (catE pre) W ∧ EvsIn S W (.slice A L.length c) L) := (RowI.own w S _ _ _ hbw.size).and (EvsIn.own hSlt)
  clear hbw hob hBl hBd hSlt hnS hEv hS hbel hl1 hl2 HT HE
  gi_wp2_with fail
  refine wpIn_rangeFunc_ownH rfl (by omega) (gf := 29) (lb := #[.pointer (some ⟨Bl, 0, none⟩), .pointer (some ⟨Bd, 0, none⟩)]) rfl trivial (enters_of Try.func29 (by kernel_rfl) rfl)
    (those_stops 2 (by omega) Bl Bd dir _ L S hSl hSd w2 X.out.2.2.1 X.out.2.2.2.1 X.out.2.2.2.2.2.2) Kept.t (Kept.b X.out.2.2.2.2.1) (Below.refl _ _) (fun _ => rfl)
    (fun pre W => RowI w S w.heap.size (catE pre) W ∧ EvsIn S W (.slice A L.length c) L) (fun _ _ _ => False) hown (fun _ _ _ _ _ hs _ _ => hs)
    ⟨⟨_, none, X.out.2.1, Row.nil w2 _, fun b e => (by cases e), X.out.1, X.out.2.2.2.2.1⟩, X.out.2.2.2.2.2.2⟩
    (fun x a' W => ∃ Be, a' = { tmps := #[.int .i64 dir, .slice A L.length c, undef, undef, .slice none 0 0, .pointer (some ⟨w.heap.size, 0, none⟩), .pointer (some ⟨Be, 0, none⟩), .int .i64 dir, .slice A L.length c, .func (.func 29) #[] #[.pointer (some ⟨Bl, 0, none⟩), .pointer (some ⟨Bd, 0, none⟩)], x.1.val, undef, undef, undef, undef, undef], defers := [] } ∧ Blk W Be 25 #[.int .i64 x.1.dir, .int .i64 x.1.time, .slice x.1.A x.1.data.length x.1.c])
    ?ax ?assign ?body ?done ?stop
  case ax =>
    rintro x a' _ W W' row ⟨Be, ha, hb⟩ hg hr
    exact ⟨Be, ha, hb.keep (cells_kept hg hr hb)⟩
  case assign =>
    intro l pre x W K hI hK
    have HI := Lib.hid hI
    clear hI
    simp only [Ev.val] at hK ⊢
    gi_wp2
    exact hK _ _ ((KeepsOthers.alloc _ _).from _) (fun b hb => Below.heap_alloc W _ b (HI.out.1.choose_spec.choose_spec.2.2.2.2 b hb)) (hown.alloc _ HI.out) ⟨_, rfl, Blk.new W _ _⟩
  case body =>
    rintro l pre x a' W - - ⟨⟨v1, go, hb, hr, hgo, hB, hlt⟩, hEv⟩ ⟨Be, rfl, hBe⟩ hpl
    obtain ⟨A1, c1, rfl⟩ := hr.form
    rw [bv_len] at hr hb
    have hc : W.cell? ⟨w.heap.size, 0, none⟩ = some (.slice A1 (catE pre).length c1) := hb.cell 0
    have he : W.cell? ⟨Be, 2, none⟩ = some (.slice x.1.A x.1.data.length x.1.c) := hBe.cell 2
    have hrd := (hEv.ok x.2).rd
    have hlen : (catE pre).length ≤ 1048576 * 1048576 := Nat.le_trans (catE_le HD.out pre) (Nat.mul_le_mul_right _ (by have := told_le L dir; omega))
    have hx := HD.out x.1 x.2
    have Y := Lib.hid (And.intro hb (And.intro hr (And.intro hgo (And.intro hB (And.intro hlt (And.intro hEv hrd))))))
    clear hb hr hgo hB hlt hEv hrd hBe
    gi_wp2_with (gi_at_builtin; refine wpListIn_append_row _ rfl _ _ 23 rfl 5 i0 (.int .u8 0) 1 Try.underlying23 hi0 hz0 hz1 hz2 rfl go _ (bv (catE pre)) rfl Y.out.2.1 _ (bv x.1.data) rfl Y.out.2.2.2.2.2.2 (by rw [bv_len, bv_len]; simp only [maxLen]; omega) (by rw [bv_len, bv_len]; omega) ?_; intro A' c' w1 g' hrow' hgr hg'; have hk1 := Y.out.1.keep (hgr.block _ Y.out.1.lt (Ne.symm (Y.out.2.1.ne_ Y.out.1 (by decide)))); have hc1 : w1.cell? ⟨w.heap.size, 0, none⟩ = some (.slice A1 (catE pre).length c1) := hk1.cell 0; have hf1 : w1.frozen? ⟨w.heap.size, 0, none⟩ = false := hk1.frozen 0; have Z := Lib.hid (And.intro hrow' (And.intro hgr hg')); clear hrow' hgr hg' hk1)
    obtain ⟨hb, hr, hgo, hB, hlt, hEv, hrd⟩ := Y.out
    obtain ⟨hrow', hgr, hg'⟩ := Z.out
    obtain ⟨h1, h2, h3⟩ := RowI.step hb hr hgo hB hlt X.out.2.2.2.2.2.1 (Nat.le_refl _) hrow' hgr hg'
    exact ⟨h1.from _, h2, by rw [catE_snoc]; exact h3, hEv.keep fun b hb _ => h2 b hb⟩
  case done =>
    rintro D ys W hD rfl ⟨⟨v1, go, hb, hr, hgo, hB, hlt⟩, -⟩ hK
    rw [catE_all] at hr
    obtain ⟨A1, c1, rfl⟩ := hr.form
    rw [bv_len] at hr hb
    have hc : W.cell? ⟨w.heap.size, 0, none⟩ = some (.slice A1 (byts dir (pes L)).length c1) := hb.cell 0
    have Y := Lib.hid (And.intro hr (And.intro hB hgo))
    clear hb hr hgo hB hlt
    gi_wp2
    refine ⟨by simp, .inl ⟨_, _, rfl, run_takeDeferred hK, ?_⟩⟩
    obtain ⟨hr, hB, hgo⟩ := Y.out
    have hsz := X.out.1.size
    refine ⟨_, results_tmp rfl _ _ _, A1, c1, go, rfl, hr.keep (fun b e => World.putObj_heap_other (fun e' => ?_)), fun b e => (hgo b e).1, hB.trans (belowK_b (w := w) (Nat.le_refl _) W D _ _ (by omega) hK rfl rfl)⟩
    obtain ⟨cs, hh⟩ := hr.obj e
    subst e'; rw [hh] at hK; cases hK
  case stop =>
    rintro D c pre W _ _ h _
    exact h.elim
end Go.Proofs.Ytakcoplpmhgoiaa
