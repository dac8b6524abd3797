/-
  The document's parser in memory (PObj), and its small methods: more, fail; blank, end.
  Conditions: a text of at most 281474976710656 bytes.
-/
import Derived.Test.YtphmhglebeapaaaTclMem
import Derived.Test.YtphmhglebeapaaaQEsc
import Derived.Test.YtphmhglebeapaaaRet
import Derived.StillTailTactics
import Derived.Deep.QuietTactic
import Derived.BigQuiet
namespace Go.Proofs.Ytphmhglebeapaaa
open Go.RowKit

/-- The document's parser: in block b, its text l, its place, its error and that one's place, its commands' value. -/
def PObj (W : World) (b : Nat) (l : List Nat) (i e a : Nat) (cv : Value) : Prop := Blk W b 56 #[.string (str l), .int .i64 (i : Nat), .int .i64 (e : Nat), .int .i64 (a : Nat), cv]
section
variable {W W' : World} {b i e a : Nat} {l : List Nat} {cv : Value}
theorem PObj.cells (h : PObj W b l i e a cv) : W.cell? ⟨b, 0, none⟩ = some (.string (str l)) ∧ W.cell? ⟨b, 1, none⟩ = some (.int .i64 (i : Nat)) ∧ W.cell? ⟨b, 2, none⟩ = some (.int .i64 (e : Nat)) ∧ W.cell? ⟨b, 3, none⟩ = some (.int .i64 (a : Nat)) ∧ W.cell? ⟨b, 4, none⟩ = some cv :=
  ⟨(Blk.cell h 0).trans rfl, (Blk.cell h 1).trans rfl, (Blk.cell h 2).trans rfl, (Blk.cell h 3).trans rfl, (Blk.cell h 4).trans rfl⟩
theorem PObj.fz (h : PObj W b l i e a cv) (k : Nat) : W.frozen? ⟨b, k, none⟩ = false := Blk.frozen h k
theorem PObj.below (h : PObj W b l i e a cv) (hb : Below W.heap.size W W') : PObj W' b l i e a cv := Blk.below h hb (Blk.lt h)
theorem PObj.keep (h : PObj W b l i e a cv) (hk : W'.heap[b]? = W.heap[b]?) : PObj W' b l i e a cv := Blk.keep h hk
theorem PObj.at_ (h : PObj W b l i e a cv) (j : Nat) : PObj (W.setCell ⟨b, 1, none⟩ (.int .i64 (j : Nat))) b l j e a cv := Blk.set_ h 1 _
theorem PObj.err (h : PObj W b l i e a cv) (j : Nat) : PObj (W.setCell ⟨b, 2, none⟩ (.int .i64 (j : Nat))) b l i j a cv := Blk.set_ h 2 _
theorem PObj.place (h : PObj W b l i e a cv) (j : Nat) : PObj (W.setCell ⟨b, 3, none⟩ (.int .i64 (j : Nat))) b l i e j cv := Blk.set_ h 3 _
theorem PObj.cmds (h : PObj W b l i e a cv) (u : Value) : PObj (W.setCell ⟨b, 4, none⟩ u) b l i e a u := Blk.set_ h 4 _
end
/-- Only the parser's block may have turned. -/
abbrev OnlyP (b : Nat) (w w' : World) : Prop := Only (fun i => i = b) w w'
theorem OnlyP.set_ {b : Nat} {w w' : World} (h : OnlyP b w w') (k : Nat) (u : Value) : OnlyP b w (w'.setCell ⟨b, k, none⟩ u) := h.setCell (.inl rfl) u
theorem OnlyP.then {b : Nat} {w w1 w2 : World} (h : OnlyP b w w1) (k : OnlyP b w1 w2) : OnlyP b w w2 := h.trans k fun _ _ h => h
theorem OnlyP.below {b : Nat} {w w1 w2 : World} (h : OnlyP b w w1) (k : Below w1.heap.size w1 w2) : OnlyP b w w2 := h.trans (Only.of_below k (Nat.le_refl _) (fun i => i = b)) fun _ _ h => h

set_option maxRecDepth 100000 in
set_option maxHeartbeats 1000000 in
theorem Rblank_is (c : Nat) (w : World) : Calls Try.prog 23 #[.int .u8 (c : Nat)] w fun e w' => e = .returned (.bool (blankB c)) ∧ w = w' := by
  by_cases h9 : c = 9
  · have q : ((c : Int) == 9) = true := beq_iff_eq.2 (by omega)
    have HV : Hid (blankB c = true) := Lib.hid (decide_eq_true (.inl h9))
    clear h9
    go_enter Try.func23, Try.ntmps23
    go_wp2
    go_ret
    exact ⟨by rw [HV.out]; rfl, rfl⟩
  · have q : ((c : Int) == 9) = false := beq_eq_false_iff_ne.2 (by omega)
    have HV : Hid (((c : Int) == 32) = blankB c) := Lib.hid (by unfold blankB; rw [Bool.eq_iff_iff]; simp; omega)
    clear h9
    go_enter Try.func23, Try.ntmps23
    go_wp2
    go_ret
    exact ⟨by rw [← HV.out]; rfl, rfl⟩
set_option maxRecDepth 100000 in
set_option maxHeartbeats 1000000 in
theorem Rend_is (c : Nat) (w : World) : Calls Try.prog 24 #[.int .u8 (c : Nat)] w fun e w' => e = .returned (.bool (endB c)) ∧ w = w' := by
  by_cases h9 : c = 10
  · have q : ((c : Int) == 10) = true := beq_iff_eq.2 (by omega)
    have HV : Hid (endB c = true) := Lib.hid (decide_eq_true (.inl h9))
    clear h9
    go_enter Try.func24, Try.ntmps24
    go_wp2
    go_ret
    exact ⟨by rw [HV.out]; rfl, rfl⟩
  · have q : ((c : Int) == 10) = false := beq_eq_false_iff_ne.2 (by omega)
    have HV : Hid (((c : Int) == 59) = endB c) := Lib.hid (by unfold endB; rw [Bool.eq_iff_iff]; simp; omega)
    clear h9
    go_enter Try.func24, Try.ntmps24
    go_wp2
    go_ret
    exact ⟨by rw [← HV.out]; rfl, rfl⟩
set_option maxRecDepth 100000 in
set_option maxHeartbeats 2000000 in
theorem Rmore_q {w : World} {b i e a : Nat} {l : List Nat} {cv : Value} (h : PObj w b l i e a cv) : Calls Try.prog 22 #[.pointer (some ⟨b, 0, none⟩)] w fun r w' => r = .returned (.bool (decide (e = 0 ∧ i < l.length))) ∧ ∃ m, w' = w.drewN m := by
  obtain ⟨c0, c1, c2, _, _⟩ := h.cells
  have hsz := str_len l
  clear h
  by_cases he : e = 0
  · have q : ((e : Int) == 0) = true := beq_iff_eq.2 (by omega)
    have HV : Hid (decide (i < l.length) = decide (e = 0 ∧ i < l.length)) := Lib.hid (by rw [Bool.eq_iff_iff]; simp [he])
    clear he
    go_enter Try.func22, Try.ntmps22
    go_wp2
    go_quiet (fail)
    go_wp2
    go_ret
    exact ⟨by rw [← HV.out]; rfl, _, rfl⟩
  · have q : ((e : Int) == 0) = false := beq_eq_false_iff_ne.2 (by omega)
    have HV : Hid (decide (e = 0 ∧ i < l.length) = false) := Lib.hid (by simp [he])
    clear he
    go_enter Try.func22, Try.ntmps22
    go_wp2
    go_quiet (fail)
    go_wp2
    go_ret
    exact ⟨by rw [HV.out]; rfl, _, rfl⟩
theorem drewN_below (W : World) (n : Nat) : Below W.heap.size W (W.drewN n) := ⟨rfl, rfl, rfl, Nat.le_refl _, fun _ _ => rfl⟩
theorem drewN_two (W : World) (n m : Nat) : (W.drewN n).drewN m = W.drewN (n + m) := by simp [World.drewN, Nat.add_assoc]
theorem PObj.drewN {W : World} {b i e a : Nat} {l : List Nat} {cv : Value} (h : PObj W b l i e a cv) (n : Nat) : PObj (W.drewN n) b l i e a cv := h
theorem Rmore_is {w : World} {b i e a : Nat} {l : List Nat} {cv : Value} (h : PObj w b l i e a cv) : Calls Try.prog 22 #[.pointer (some ⟨b, 0, none⟩)] w fun r w' => r = .returned (.bool (decide (e = 0 ∧ i < l.length))) ∧ Below w.heap.size w w' ∧ w'.heap = w.heap :=
  (Rmore_q h).mono fun _ _ ⟨h1, m, h2⟩ => ⟨h1, h2 ▸ drewN_below w m, h2 ▸ rfl⟩
/-- As a region that draws its order wants it. -/
theorem Rmore_n {w : World} {b i e a : Nat} {l : List Nat} {cv : Value} (h : PObj w b l i e a cv) (n : Nat) : Calls Try.prog 22 #[.pointer (some ⟨b, 0, none⟩)] (w.drewN n) fun r w' => r = .returned (.bool (decide (e = 0 ∧ i < l.length))) ∧ ∃ m, w' = w.drewN m :=
  (Rmore_q (h.drewN n)).mono fun _ _ ⟨h1, m, h2⟩ => ⟨h1, n + m, by rw [h2, drewN_two]⟩
/-- What fail leaves. -/
def Failed (w : World) (b : Nat) (l : List Nat) (i e a : Nat) (cv : Value) (a' e' : Nat) (w' : World) : Prop := PObj w' b l i (if e = 0 then e' else e) (if e = 0 then a' else a) cv ∧ OnlyP b w w'
set_option maxRecDepth 100000 in
set_option maxHeartbeats 2000000 in
theorem Rfail_is {w : World} {b i e a : Nat} {l : List Nat} {cv : Value} (h : PObj w b l i e a cv) (a' e' : Nat) : Calls Try.prog 40 #[.pointer (some ⟨b, 0, none⟩), .int .i64 (a' : Nat), .int .i64 (e' : Nat)] w fun r w' => r = .returned (.tuple #[]) ∧ Failed w b l i e a cv a' e' w' := by
  obtain ⟨_, _, c2, c3, _⟩ := h.cells
  have f2 := h.fz 2
  have f3 := h.fz 3
  have HP := Lib.hid h
  clear h
  by_cases he : e = 0
  · have q : ((e : Int) == 0) = true := beq_iff_eq.2 (by omega)
    have d3 : (w.setCell ⟨b, 2, none⟩ (.int .i64 (e' : Nat))).cell? ⟨b, 3, none⟩ = some (.int .i64 (a : Nat)) := (HP.out.err e').cells.2.2.2.1
    have g3 : (w.setCell ⟨b, 2, none⟩ (.int .i64 (e' : Nat))).frozen? ⟨b, 3, none⟩ = false := (HP.out.err e').fz 3
    have HE := Lib.hid he
    clear he
    go_enter Try.func40, Try.ntmps40
    go_wp2
    go_end0
    refine ⟨rfl, ?_, ?_⟩
    · rw [if_pos HE.out, if_pos HE.out]
      exact (HP.out.err e').place a'
    · exact OnlyP.set_ (OnlyP.set_ (Only.refl _ w) 2 _) 3 _
  · have q : ((e : Int) == 0) = false := beq_eq_false_iff_ne.2 (by omega)
    have HE := Lib.hid he
    clear he
    go_enter Try.func40, Try.ntmps40
    go_wp2
    go_end0
    refine ⟨rfl, ?_, Only.refl _ w⟩
    rw [if_neg HE.out, if_neg HE.out]
    exact HP.out
end Go.Proofs.Ytphmhglebeapaaa
