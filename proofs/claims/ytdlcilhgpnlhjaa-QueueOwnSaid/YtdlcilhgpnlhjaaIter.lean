/-
  slices.Values at []int, queue.Queue[int].All, and cuecardlaw01.all: those that wait, in order, in memory of their own.
  Conditions: none but that the queue was made by New, or is nil.
-/
import Derived.Test.YtdlcilhgpnlhjaaAlive
import Derived.RangeFuncNested
import Derived.RangeFuncBound
import Derived.RangeFuncCalls
import Derived.RangeFuncLeaves
import Derived.RangeFuncBox
import Derived.Shelf.Abstract
import Derived.OwnWalkIn
import Derived.TacticsInMore
import Derived.LoopNIn
import Derived.LoopIn
import Derived.Maps.AppendAt
namespace Go.Proofs.Ytdlcilhgpnlhjaa
open Go.RowKit Go.Shelf

attribute [local go_sem] Oper.semAt_some

theorem wpListIn_append_row {F : Fence} {n : Nat} {P : Program} (w : World) {ops : Array Oper} {rest : List Oper} {o : Oper} {a : Act} {Q : Exit → Act → World → Prop}
    (hgd : o.guard = none) (s x : Operand) (t : TypeId) (ho : o.op = Op.call { callee := Callee.builtin Builtin.append, args := #[s, x], argTypes := #[t, t] })
    (e : TypeId) (i : TypeInfo) (z : Value) (bytes : Nat) (ht : P.underlying t = some (.slice e)) (hi : P.info? e = some i) (hz : i.zero = some z)
    (hsize : i.size = 1) (hby : i.bytes = bytes) (hzs : z.cells.size = 1)
    (g : Option Nat) (v : Value) (xs : List Value) (hs : a.eval s = v) (hrow : Row w e g v xs) (xv : Value) (ys : List Value) (hx : a.eval x = xv) (hrd : Rd w xv ys)
    (h63 : xs.length + ys.length ≤ maxLen) (hbytes : (xs.length + ys.length) * bytes ≤ 140737488355328)
    (h : ∀ A' c' w' g', Row w' e g' (.slice A' (xs.length + ys.length) c') (xs ++ ys) → w.grownBy w' g → (g' = g ∨ g' = some w.heap.size) → wpListIn F n P ops Q rest (a.put o.dst (.slice A' (xs.length + ys.length) c')) w') :
    wpListIn F n P ops Q (o :: rest) a w := by
  refine wpListIn_plain hgd fun K hK' => ?_
  obtain ⟨v', w', g', hrun, h2, h3, h4⟩ := run_append_row (P := P) w t t o.type e i z bytes ht hi hz hsize hby hzs hrow xv ys.length ys (hrd.src ht) h63 hbytes
  obtain ⟨A', c', rfl⟩ := h2.form
  rw [List.length_append] at h2 hrun
  unfold Oper.wpIn
  refine ⟨?_, ?_⟩
  · simp [Oper.about, ho, resolve, Target.leads, Sem.run_pure]
  · rw [Oper.semAt_plain F _ _ (by rw [ho]; intro c hc'; cases hc')]
    simp [execOp, ho, resolve, invoke, builtin, hs, hx, hrun, Result.andThen]
    exact hK' _ _ (h A' c' w' g' h2 h3 h4)

/-- A block is as it was. -/
def Kpt (g : Option Nat) (W W' : World) : Prop := ∀ b, g = some b → W'.heap[b]? = W.heap[b]?
theorem Kpt.t {g : Option Nat} {A B C : World} (h : Kpt g A B) (k : Kpt g B C) : Kpt g A C := fun b e => (k b e).trans (h b e)
theorem Kpt.b {g : Option Nat} {w : World} (hg : ∀ b, g = some b → b < w.heap.size) (W : World) (l : Nat) (o o' : Obj) (hl : w.heap.size ≤ l) (_ : W.heap[l]? = some o) (_ : o.isCells = false) (_ : o.isWalk = false) : Kpt g W (W.putObj l o') :=
  fun b e => World.putObj_heap_other (fun e' => by have := hg b e; omega)

theorem take_next (zs : List Int) (k : Nat) (h : k < zs.length) : zs.take (k + 1) = zs.take k ++ [zs[k]?.getD 0] := by
  rw [List.take_succ_eq_append_getElem h]; simp [h]

/-- What is read of a row of numbers that holds any. -/
theorem Row.ints {w : World} {g : Option Nat} {A : Option Addr} {n c : Nat} {zs : List Int} (h : Row w 3 g (.slice A n c) (iv zs)) :
    n = zs.length ∧ (0 < zs.length → ∃ b o, A = some ⟨b, o, none⟩ ∧ ∀ j, j < zs.length → w.cell? ⟨b, o + j, none⟩ = some (.int .i64 (zs[j]?.getD 0))) := by
  obtain ⟨h1, _, h2⟩ := h.rd.ints
  exact ⟨h1, h2⟩

set_option maxRecDepth 100000 in
set_option maxHeartbeats 2000000 in
/-- The closure of slices.Values: for every loop body that keeps the row. -/
theorem values1_in (n : Nat) (hn : 1 ≤ n) (l Bs : Nat) (g : Option Nat) (v : Value) (zs : List Int) (hl : zs.length ≤ 65536) (J Jx : List Int → World → Prop)
    (hY : ∀ pre x W, J pre W → pre.length < zs.length → YieldAt Fence.wide (n - 1) Try.prog l #[.int .i64 x] W fun e W' =>
      (e = .returned (.bool true) ∧ J (pre ++ [x]) W' ∧ Kpt g W W') ∨ (e = .returned (.bool false) ∧ Jx (pre ++ [x]) W'))
    (W : World) (hBs : W.cell? ⟨Bs, 0, none⟩ = some v) (hrow : Row W 3 g v (iv zs)) (h0 : J [] W) :
    CallsIn Fence.wide n Try.prog 38 #[.func (.yield l) #[] #[], .pointer (some ⟨Bs, 0, none⟩)] W fun e W' => (∃ v, e = .returned v) ∧
      ((∃ ys, ys = zs ∧ J ys W') ∨ (∃ pre, pre <+: zs ∧ Jx pre W')) := by
  obtain ⟨A, c, rfl⟩ := hrow.form
  rw [List.length_map] at hrow hBs
  by_cases hz : zs.length = 0
  · obtain rfl : zs = [] := List.eq_nil_of_length_eq_zero hz
    clear hY hrow hz hl
    simp only [List.length_nil] at hBs
    refine callsIn_of_wp Try.func38 rfl trivial ?_ rfl
    simp only [Try.ntmps38, List.size_toArray, List.length_cons, List.length_nil, Nat.reduceAdd, Nat.reduceSub, Array.replicate_succ, Array.replicate_zero, List.push_toArray, List.append_toArray, List.nil_append, List.cons_append]
    gi_wp2
    gi_loopw [7] (fun i wr => i = .int .i64 0 ∧ J [] wr) (fun _ _ => 0)
    case atStart => exact ⟨rfl, h0⟩
    case round =>
      obtain ⟨rfl, hJs⟩ := hrel
      gi_wp2
      go_end0
      exact ⟨⟨_, rfl⟩, .inl ⟨[], rfl, hJs⟩⟩
  · obtain ⟨b, o, rfl, hx⟩ := hrow.ints.2 (by omega)
    have hp : 0 < zs.length := by omega
    clear hz hx
    have HR := Lib.hid hrow
    clear hrow
    refine callsIn_of_wp Try.func38 rfl trivial ?_ rfl
    simp only [Try.ntmps38, List.size_toArray, List.length_cons, List.length_nil, Nat.reduceAdd, Nat.reduceSub, Array.replicate_succ, Array.replicate_zero, List.push_toArray, List.append_toArray, List.nil_append, List.cons_append]
    gi_wp2
    gi_loopw [7] (fun i wr => ∃ k : Nat, k ≤ zs.length ∧ i = .int .i64 k ∧ J (zs.take k) wr ∧ Hid (Row wr 3 g (.slice (some ⟨b, o, none⟩) zs.length c) (iv zs)))
      (fun i _ => zs.length - (intOf i).toNat)
    case atStart => exact ⟨0, Nat.zero_le _, rfl, h0, HR⟩
    case round =>
      obtain ⟨k, hk, rfl, hJs, HR'⟩ := hrel
      by_cases hlt : k < zs.length
      · obtain ⟨x, hxk⟩ : ∃ x, zs[k]?.getD 0 = x := ⟨_, rfl⟩
        obtain ⟨fn, tmps, assign, body, hy, hR⟩ := hY _ x wr hJs (by simp; omega)
        have hcx : wr.cell? ⟨b, o + k, none⟩ = some (.int .i64 x) := by
          obtain ⟨b', o', e, hx⟩ := HR'.out.ints.2 hp
          cases e
          rw [← hxk]
          exact hx k hlt
        have HX := Lib.hid (take_next zs k hlt)
        rw [hxk] at HX
        clear hxk
        gi_wp2
        refine hR.mono ?_
        rintro e W3 (⟨rfl, hJ3, hk3⟩ | ⟨rfl, hJx3⟩)
        · gi_wp2
          go_roundw
          case rel => exact ⟨k + 1, by omega, by simp, by rw [HX.out]; exact hJ3, HR'.out.keep hk3⟩
          case measure => simp [intOf]; omega
        · gi_wp2
          refine bodyPost_ret (results_none rfl _ _ _) rfl ?_
          exact ⟨⟨_, rfl⟩, .inr ⟨_, by rw [← HX.out]; exact List.take_prefix _ _, hJx3⟩⟩
      · obtain rfl : k = zs.length := by omega
        gi_wp2
        go_end0
        exact ⟨⟨_, rfl⟩, .inl ⟨_, List.take_length, hJs⟩⟩

/-- What All hands out: a function that tells xs, out of a row of its own. -/
def AllTo (w : World) (zs : List Int) (e : Ending) (w' : World) : Prop :=
  ∃ Bs v g, e = .returned (.func (.func 38) #[] #[.pointer (some ⟨Bs, 0, none⟩)]) ∧ Blk w' Bs 30 #[v] ∧ Row w' 3 g v (iv zs) ∧ Below w.heap.size w w' ∧ w.heap.size ≤ Bs ∧ ∀ b, g = some b → w.heap.size ≤ b

theorem All_at {w : World} {q : Nat} {g : Option Nat} {room : Nat} {en : Bool} {zs : List Int} (h : QAt w q g room en (iv zs)) (hm : zs.length ≤ 65536) :
    Calls Try.prog 33 #[.pointer (some ⟨q, 0, none⟩)] w (AllTo w zs) := by
  have H := Lib.hid h
  clear h
  go_enter Try.func33, Try.ntmps33
  go_wp2_with fail
  refine (Len_at H.out).mono ?_
  rintro e w' ⟨rfl, rfl⟩
  go_wp2_with fail
  have P1 := Peek_at H.out (by rw [List.length_map]; exact hm) zs.length
  rw [Int.toNat_natCast, List.take_of_length_le (by simp)] at P1
  refine P1.mono ?_
  clear P1
  rintro e w1 ⟨v, gt, rfl, hrow, hbel, hfr⟩
  obtain ⟨A, c, rfl⟩ := hrow.form
  rw [List.length_map] at hrow ⊢
  have X := Lib.hid (And.intro hrow (And.intro hbel hfr))
  clear hrow hbel hfr
  go_wp2
  go_ret
  obtain ⟨hrow, hbel, hfr⟩ := X.out
  exact ⟨_, _, gt, rfl, Blk.new _ _ _, hrow.alloc _, hbel.alloc hbel.size _, hbel.size, hfr⟩

theorem All_nil (w : World) : Calls Try.prog 33 #[.pointer none] w (AllTo w []) := by
  go_enter Try.func33, Try.ntmps33
  go_wp2_with fail
  refine (Len_nil w).mono ?_
  rintro e w' ⟨rfl, rfl⟩
  go_wp2_with fail
  refine (Peek_nil 0 w).mono ?_
  rintro e w1 ⟨rfl, rfl⟩
  go_wp2
  go_ret
  exact ⟨_, _, none, rfl, Blk.new _ _ _, (Row.nil w _).alloc _, (Below.refl _ w).alloc (Nat.le_refl _) _, Nat.le_refl _, fun b e => by cases e⟩

/-- The closure that All hands out, as the loop's law asks for it. -/
theorem all_stops (n : Nat) (hn : 1 ≤ n) (Bs : Nat) (g : Option Nat) (v : Value) (zs : List Int) (hl : zs.length ≤ 65536) (w : World) (hBs : Blk w Bs 30 #[v]) (hrow : Row w 3 g v (iv zs)) :
    SeqStopsK Fence.wide n Try.prog 38 #[.pointer (some ⟨Bs, 0, none⟩)] (fun x : Int => #[Value.int .i64 x]) (Kpt g) (fun ys => ys = zs) (fun pre => pre <+: zs) zs.length w := fun l J Jx W hW _ _ hY h0 =>
  values1_in n hn l Bs g v zs hl J Jx hY W ((hBs.below hW hBs.lt).cell 0) (hrow.below hW (fun _ e => hrow.lt e)) h0

/-- What all leaves: the things in a row of its own. -/
def AllGot (w : World) (zs : List Int) (e : Ending) (w' : World) : Prop :=
  ∃ A c, e = .returned (.slice A zs.length c) ∧ Rd w' (.slice A zs.length c) (iv zs) ∧ Below w.heap.size w w'

/-- Between two rounds of all's loop. -/
def AllI (w : World) (g : Option Nat) (pre : List Int) (W : World) : Prop :=
  ∃ v go, Blk W w.heap.size 30 #[v] ∧ Row W 3 go v (iv pre) ∧ (∀ b, go = some b → w.heap.size ≤ b ∧ g ≠ some b) ∧ Below w.heap.size w W ∧ ∀ b, g = some b → b < W.heap.size

theorem AllI.own (w : World) (g : Option Nat) (B : Nat) (hB : w.heap.size ≤ B) : OwnFrom B (AllI w g) := by
  rintro s W W' row ⟨v, go, hb, hr, hgo, hbel, hlt⟩ hg hrow
  have hcell : ∀ (k : Nat) (cs : Array Value) (t : TypeId), W.heap[k]? = some (.cells cs t (0, 0)) → some k ≠ row := by
    intro k cs t hk e
    obtain ⟨_, o, ho, hc⟩ := hrow k e.symm
    rw [hk] at ho
    cases ho
    cases hc
  refine ⟨v, go, hb.keep (hg.block _ hb.lt (hcell _ _ _ hb)), hr.keep (fun b e => hg.block b (hr.lt e) ?_), hgo, hbel.grown hg hbel.size (fun k e => by have := (hrow k e).1; omega), fun b e => Nat.lt_of_lt_of_le (hlt b e) hg.size⟩
  obtain ⟨_, _, _, _, _, _, hh⟩ := hr
  rcases hh with ⟨_, e'⟩ | ⟨b', _, cs, _, e', _, hh, _⟩
  · rw [e'] at e; cases e
  · rw [e'] at e; cases e
    exact hcell _ _ _ hh

theorem AllI.step {w W w1 : World} {g go go' : Option Nat} {pre : List Int} {x : Int} {v V : Value} {tmp : Obj} (hb : Blk W w.heap.size 30 #[v]) (hr : Row W 3 go v (iv pre))
    (hgo : ∀ b, go = some b → w.heap.size ≤ b ∧ g ≠ some b) (hbel : Below w.heap.size w W) (hlt : ∀ b, g = some b → b < W.heap.size) (hgb : ∀ b, g = some b → w.heap.size < b)
    (hrow' : Row w1 3 go' V (iv pre ++ [.int .i64 x])) (hgr : (W.alloc tmp).grownBy w1 go) (hg' : go' = go ∨ go' = some (W.alloc tmp).heap.size) :
    KeepsOthers W (w1.setCell ⟨w.heap.size, 0, none⟩ V) ∧ Kpt g W (w1.setCell ⟨w.heap.size, 0, none⟩ V) ∧ AllI w g (pre ++ [x]) (w1.setCell ⟨w.heap.size, 0, none⟩ V) := by
  have hne : go ≠ some w.heap.size := hr.ne_ hb (by decide)
  have hb1 : Blk w1 w.heap.size 30 #[v] := (hb.alloc tmp).keep (hgr.block _ (hb.alloc tmp).lt (Ne.symm hne))
  have hne' : go' ≠ some w.heap.size := hrow'.ne_ hb1 (by decide)
  have hkg : ∀ b, g = some b → w1.heap[b]? = W.heap[b]? := fun b e =>
    (hgr.block b (by have := hlt b e; simp; omega) (fun e' => by have := (hgo b e'.symm).2; exact this e)).trans (Below.heap_alloc W tmp b (hlt b e))
  refine ⟨?_, ?_, V, go', ?_, ?_, ?_, ?_, ?_⟩
  · refine ((KeepsOthers.alloc W tmp).trans (KeepsOthers.of_grownBy hgr fun j o ej hj => ?_)).trans (KeepsOthers.setCell _ _ _)
    obtain ⟨_, _, _, _, _, _, hh⟩ := hr.alloc tmp
    rcases hh with ⟨_, e'⟩ | ⟨b', _, cs, _, e', _, hh, _⟩
    · rw [e'] at ej; cases ej
    · rw [e'] at ej; cases ej
      rw [hh] at hj; cases hj; rfl
  · exact fun b e => (Below.heap_setCell w1 _ V b (by have := hgb b e; simp; omega)).trans (hkg b e)
  · have := hb1.set_ 0 V; simpa using this
  · rw [iv, List.map_append]; exact hrow'.far (p := ⟨w.heap.size, 0, none⟩) hne' V
  · intro b e
    rcases hg' with e' | e'
    · exact hgo b (by rw [← e', e])
    · rw [e] at e'
      have e2 : b = W.heap.size + 1 := by simpa using e'
      have := hbel.size
      exact ⟨by omega, fun e3 => by have := hlt b e3; omega⟩
  · exact ((hbel.alloc hbel.size tmp).grown hgr (by have := hbel.size; simp; omega) (fun k e => (hgo k e).1)).setCell (p := ⟨w.heap.size, 0, none⟩) (Nat.le_refl _) V
  · intro b e
    have := hlt b e
    have := hgr.size
    simp [World.setCell] at this ⊢
    omega

set_option maxRecDepth 100000 in
set_option maxHeartbeats 2000000 in
theorem all_of (qp : Value) (zs : List Int) (hl : zs.length ≤ 65536) (w : World) (hA : Calls Try.prog 33 #[qp] (w.alloc (.cells #[.slice none 0 0] 30)) (AllTo (w.alloc (.cells #[.slice none 0 0] 30)) zs)) :
    Calls Try.prog 24 #[qp] w (AllGot w zs) := by
  refine (callsIn_wide (n := 3)).1 ?_
  obtain ⟨i0, hi0, hz0, hz1, hz2⟩ := info_parts int_info
  have HA := Lib.hid ((callsIn_wide (n := 2)).2 hA)
  clear hA
  refine callsIn_of_wp_marks Try.func24 rfl trivial ?_ rfl
  simp only [Try.ntmps24, List.size_toArray, List.length_cons, List.length_nil, Nat.reduceAdd, Nat.reduceSub, Array.replicate_succ, Array.replicate_zero, List.push_toArray, List.append_toArray, List.nil_append, List.cons_append]
  gi_wp2_with fail
  refine ⟨trivial, ?_⟩
  refine HA.out.mono ?_
  rintro e w2 ⟨Bs, v, g, rfl, hBs, hrow, hbel, hle, hfr⟩
  have hbw : Below w.heap.size w w2 := ((Below.refl _ w).alloc (Nat.le_refl _) _).trans (hbel.mono (by simp))
  have hgb : ∀ b, g = some b → w.heap.size < b := fun b e => by have := hfr b e; simp at this; omega
  have hob : Blk w2 w.heap.size 30 #[.slice none 0 0] := (Blk.new w _ _).below hbel (by simp)
  have X := Lib.hid (And.intro hbw (And.intro hgb (And.intro hob (And.intro hrow hBs))))
  clear hbw hgb hob hrow hBs hbel hle hfr HA
  gi_wp2_with fail
  refine wpIn_rangeFunc_ownG rfl (by omega) (gf := 38) (lb := #[.pointer (some ⟨Bs, 0, none⟩)]) rfl trivial (enters_of Try.func38 (by kernel_rfl) rfl)
    (all_stops 2 (by omega) Bs g v zs hl w2 X.out.2.2.2.2 X.out.2.2.2.1) Kpt.t (Kpt.b (fun b e => X.out.2.2.2.1.lt e)) (Below.refl _ _) (fun _ => rfl)
    (AllI w g) (fun _ _ _ => False) (AllI.own w g _ X.out.1.size) (fun _ _ _ _ _ hs _ _ => hs)
    ⟨_, none, X.out.2.2.1, Row.nil w2 _, fun b e => (by cases e), X.out.1, fun b e => X.out.2.2.2.1.lt e⟩
    (fun x => { tmps := #[qp, undef, .slice none 0 0, .pointer (some ⟨w.heap.size, 0, none⟩), .int .i64 x, qp, .func (.func 38) #[] #[.pointer (some ⟨Bs, 0, none⟩)], .int .i64 x, undef, undef, undef, undef, undef], defers := [] }) ?assign ?body ?done ?stop
  case assign =>
    intro l x W K hK
    gi_wp2
    exact hK
  case body =>
    rintro l pre x W ⟨v1, go, hb, hr, hgo, hB, hlt⟩ hpl
    have hgb := X.out.2.1
    obtain ⟨A1, c1, rfl⟩ := hr.form
    rw [List.length_map] at hr hb
    have hc : W.cell? ⟨w.heap.size, 0, none⟩ = some (.slice A1 pre.length c1) := hb.cell 0
    have Y := Lib.hid (And.intro hb (And.intro hr (And.intro hgo (And.intro hB (And.intro hlt hgb)))))
    clear hb hr hgo hB hlt hgb
    gi_wp2_with (gi_at_builtin; refine wpListIn_append_row _ rfl _ _ 30 rfl 3 i0 (.int .i64 0) 8 Try.underlying30 hi0 hz0 hz1 hz2 rfl go _ (iv pre) rfl (Y.out.2.1.alloc _) _ [.int .i64 x] rfl (Rd.lit W 3 #[.int .i64 x] 1 rfl (by omega) (by omega) (by simp [Value.oneCell'])) (by simp only [maxLen]; simp; omega) (by simp; omega) ?_; intro A' c' w1 g' hrow' hgr hg'; have hc1 : w1.cell? ⟨w.heap.size, 0, none⟩ = some (.slice A1 pre.length c1) := ((Y.out.1.alloc _).keep (hgr.block _ (Y.out.1.alloc _).lt (Ne.symm (Y.out.2.1.ne_ Y.out.1 (by decide))))).cell 0; have hf1 : w1.frozen? ⟨w.heap.size, 0, none⟩ = false := ((Y.out.1.alloc _).keep (hgr.block _ (Y.out.1.alloc _).lt (Ne.symm (Y.out.2.1.ne_ Y.out.1 (by decide))))).frozen 0; have Z := Lib.hid (And.intro hrow' (And.intro hgr hg')); clear hrow' hgr hg')
    obtain ⟨hb, hr, hgo, hB, hlt, hgb⟩ := Y.out
    obtain ⟨hrow', hgr, hg'⟩ := Z.out
    simp only [List.length_map, List.length_cons, List.length_nil, Nat.zero_add] at hrow'
    obtain ⟨h1, h2, h3⟩ := AllI.step hb hr hgo hB hlt hgb hrow' hgr hg'
    exact ⟨h1.from _, h2, h3⟩
  case done =>
    rintro D ys W hD rfl ⟨v1, go, hb, hr, hgo, hB, hlt⟩ hK
    obtain ⟨A1, c1, rfl⟩ := hr.form
    rw [List.length_map] at hr hb
    have hc : W.cell? ⟨w.heap.size, 0, none⟩ = some (.slice A1 ys.length c1) := hb.cell 0
    have Y := Lib.hid (And.intro hr hB)
    clear hb hr hgo hB hlt
    gi_wp2
    refine ⟨by simp, .inl ⟨_, _, rfl, run_takeDeferred hK, ?_⟩⟩
    obtain ⟨hr, hB⟩ := Y.out
    have hsz := X.out.1.size
    refine ⟨_, results_tmp rfl _ _ _, A1, c1, rfl, Row.rd (g := go) (hr.keep (fun b e => World.putObj_heap_other (fun e' => ?_))), hB.trans (belowK_b (w := w) (Nat.le_refl _) W D _ _ (by omega) hK rfl rfl)⟩
    obtain ⟨_, _, _, _, _, _, hh⟩ := hr
    rcases hh with ⟨_, e2⟩ | ⟨b', _, cs, _, e2, _, hh, _⟩
    · rw [e2] at e; cases e
    · rw [e2] at e; cases e; subst e'; rw [hh] at hK; cases hK
  case stop =>
    rintro D c pre W _ _ h _
    exact h.elim
end Go.Proofs.Ytdlcilhgpnlhjaa
