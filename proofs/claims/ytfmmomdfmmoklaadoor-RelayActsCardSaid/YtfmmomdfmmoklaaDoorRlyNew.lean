/-
  The contract of relay.New.
  Conditions: none.
-/
import Derived.Test.YtfmmomdfmmoklaaDoorRly
import Derived.LaidEqlPtr
import Derived.StillTailTactics
namespace Go.Proofs.YtfmmomdfmmoklaaDoor
open Go.RowKit

theorem Blk.drew {w : World} {g : Nat} {t : TypeId} {cs : Array Value} (h : Blk w g t cs) : Blk w.drew g t cs := h
theorem RNew_nil1 (v : Option Addr) (w : World) : Calls Tryd.prog 26 #[.pointer none, .pointer v] w fun e w' => e = .returned (.tuple #[.pointer none, .int .i64 1]) ∧ w = w' := by
  go_enter Tryd.func26, Tryd.ntmps26
  go_wp2_with fail
  go_ret2
  exact ⟨rfl, rfl⟩
theorem RNew_nil2 (p : Nat) (w : World) : Calls Tryd.prog 26 #[.pointer (some ⟨p, 0, none⟩), .pointer none] w fun e w' => e = .returned (.tuple #[.pointer none, .int .i64 1]) ∧ w = w' := by
  go_enter Tryd.func26, Tryd.ntmps26
  go_wp2_with fail
  go_ret2
  exact ⟨rfl, rfl⟩
theorem pty_size : (Tryd.prog.info? 91).map (·.size) = some 2 := by kernel_rfl
theorem pty_sized : ∃ j, Tryd.prog.info? 91 = some j ∧ j.size ≠ 0 := by
  have h := pty_size
  cases e : Tryd.prog.info? 91 with
  | none => rw [e] at h; cases h
  | some j =>
    rw [e] at h
    simp only [Option.map_some, Option.some.injEq] at h
    exact ⟨j, rfl, by omega⟩
theorem RNew_same (p : Nat) (w : World) : Calls Tryd.prog 26 #[.pointer (some ⟨p, 0, none⟩), .pointer (some ⟨p, 0, none⟩)] w fun e w' => e = .returned (.tuple #[.pointer none, .int .i64 2]) ∧ w = w' := by
  obtain ⟨j, hj, -⟩ := pty_sized
  have he := fun W => run_eql_ptr_same (P := Tryd.prog) W ⟨p, 0, none⟩ Tryd.underlying49 hj
  clear hj
  go_enter Tryd.func26, Tryd.ntmps26
  go_wp2_with fail
  go_ret2
  exact ⟨rfl, rfl⟩

/-- The lines: the child's, the user's. -/
def two (c u : Nat) : Nat → Nat := fun k => if k = 0 then c else u

set_option maxHeartbeats 1000000 in
set_option maxRecDepth 100000 in
theorem RNew_at (u c rm : Nat) (w : World) (h : u ≠ c) {cu cc : Array Value} (hu : Blk w u 91 cu) (hc : Blk w c 91 cc) : Calls Tryd.prog 26 #[.pointer (some ⟨u, 0, none⟩), .pointer (some ⟨c, 0, none⟩)] w fun e w' => ∃ r, e = .returned (.tuple #[.pointer (some ⟨r, 0, none⟩), .int .i64 0]) ∧ Rly (two c u) r (Sys.start rm) (fun b => w.heap.size ≤ b ∧ b < w'.heap.size) w' ∧ Below w.heap.size w w' := by
  obtain ⟨j, hj, hj0⟩ := pty_sized
  have he := run_eql_ptr_other (P := Tryd.prog) w (a := ⟨u, 0, none⟩) (b := ⟨c, 0, none⟩) Tryd.underlying49 hj hj0 (fun e => h (congrArg Addr.block e)) hu hc
  clear hj hj0 h hu hc
  go_enter Tryd.func26, Tryd.ntmps26
  go_wp2_with fail
  obtain ⟨s0, hs0⟩ : ∃ s0, w.heap.size = s0 := ⟨_, rfl⟩
  obtain ⟨s1, hs1⟩ : ∃ s1, s0 + 1 = s1 := ⟨_, rfl⟩
  generalize hW2 : (w.alloc (.cells #[.pointer (some ⟨u, 0, none⟩), .int .i64 1] 78)).alloc (.cells #[.pointer (some ⟨c, 0, none⟩), .int .i64 0] 78) = W2
  have b0 : Blk W2 s0 78 #[.pointer (some ⟨u, 0, none⟩), .int .i64 1] := by rw [← hW2, ← hs0]; exact (Blk.new w _ _).alloc _
  have b1 : Blk W2 s1 78 #[.pointer (some ⟨c, 0, none⟩), .int .i64 0] := by
    rw [← hW2, ← hs1, ← hs0]
    have := Blk.new (w.alloc (.cells #[.pointer (some ⟨u, 0, none⟩), .int .i64 1] 78)) 78 #[.pointer (some ⟨c, 0, none⟩), .int .i64 0]
    rwa [World.size_alloc] at this
  have bw : Below w.heap.size w W2 := by rw [← hW2]; exact ((Below.refl _ w).alloc (Nat.le_refl _) _).alloc (by simp) _
  have hlt : s1 < W2.heap.size := b1.lt
  have hlt0 : s0 < W2.heap.size := b0.lt
  rw [hs0, hs1]
  have H2 := Lib.hid (And.intro b0 (And.intro b1 bw))
  have HS := Lib.hid (And.intro hs0 hs1)
  clear b0 b1 bw hs0 hs1 hW2
  refine (New_any W2).mono ?_
  rintro e w3 ⟨q, rfl, hq, hql, hb3⟩
  have H3 := Lib.hid (And.intro hq (And.intro hql hb3))
  clear hq hql hb3
  go_upto_region 7 with (fail)
  obtain ⟨rr, hrr⟩ : ∃ rr, w3.heap.size = rr := ⟨_, rfl⟩
  generalize hW4 : w3.alloc (.cells #[.pointer none, .int .i64 0, .pointer none, .int .i64 0, .slice none 0 0, .bool false, .pointer none, .int .i64 0, .pointer none, .int .i64 0, .slice none 0 0, .bool false, .pointer (some ⟨q, 0, none⟩), .slice none 0 0, .int .i64 0] 84) = w4
  have b4 : Blk w4 rr 84 #[.pointer none, .int .i64 0, .pointer none, .int .i64 0, .slice none 0 0, .bool false, .pointer none, .int .i64 0, .pointer none, .int .i64 0, .slice none 0 0, .bool false, .pointer (some ⟨q, 0, none⟩), .slice none 0 0, .int .i64 0] := by
    rw [← hW4, ← hrr]; exact Blk.new w3 _ _
  have o4 : Below W2.heap.size W2 w4 := by rw [← hW4]; exact H3.out.2.2.alloc H3.out.2.2.size _
  have q4 : CAt w4 q none := by rw [← hW4]; exact Blk.alloc H3.out.1 _
  have hr4 : W2.heap.size ≤ rr := by rw [← hrr]; exact H3.out.2.2.size
  have a0 := H2.out.1.below o4 hlt0
  have a1 := H2.out.2.1.below o4 hlt
  have H4 := Lib.hid (And.intro b4 (And.intro o4 (And.intro q4 (And.intro a0 a1))))
  have u0 : w4.cell? ⟨s0, 0, none⟩ = some (.pointer (some ⟨u, 0, none⟩)) := a0.cell 0
  have u1 : w4.cell? ⟨s0, 1, none⟩ = some (.int .i64 1) := a0.cell 1
  have p0 : w4.cell? ⟨rr, 0, none⟩ = some (.pointer none) := b4.cell 0
  have f0 : w4.frozen? ⟨rr, 0, none⟩ = false := b4.frozen 0
  have p1 : w4.cell? ⟨rr, 1, none⟩ = some (.int .i64 0) := b4.cell 1
  have f1 : w4.frozen? ⟨rr, 1, none⟩ = false := b4.frozen 1
  have p2 : w4.cell? ⟨rr, 2, none⟩ = some (.pointer none) := b4.cell 2
  have f2 : w4.frozen? ⟨rr, 2, none⟩ = false := b4.frozen 2
  have p3 : w4.cell? ⟨rr, 3, none⟩ = some (.int .i64 0) := b4.cell 3
  have f3 : w4.frozen? ⟨rr, 3, none⟩ = false := b4.frozen 3
  have p4 : w4.cell? ⟨rr, 4, none⟩ = some (.slice none 0 0) := b4.cell 4
  have f4 : w4.frozen? ⟨rr, 4, none⟩ = false := b4.frozen 4
  have p5 : w4.cell? ⟨rr, 5, none⟩ = some (.bool false) := b4.cell 5
  have f5 : w4.frozen? ⟨rr, 5, none⟩ = false := b4.frozen 5
  have p6 : w4.cell? ⟨rr, 6, none⟩ = some (.pointer none) := b4.cell 6
  have f6 : w4.frozen? ⟨rr, 6, none⟩ = false := b4.frozen 6
  have p7 : w4.cell? ⟨rr, 7, none⟩ = some (.int .i64 0) := b4.cell 7
  have f7 : w4.frozen? ⟨rr, 7, none⟩ = false := b4.frozen 7
  have p8 : w4.cell? ⟨rr, 8, none⟩ = some (.pointer none) := b4.cell 8
  have f8 : w4.frozen? ⟨rr, 8, none⟩ = false := b4.frozen 8
  have p9 : w4.cell? ⟨rr, 9, none⟩ = some (.int .i64 0) := b4.cell 9
  have f9 : w4.frozen? ⟨rr, 9, none⟩ = false := b4.frozen 9
  have p10 : w4.cell? ⟨rr, 10, none⟩ = some (.slice none 0 0) := b4.cell 10
  have f10 : w4.frozen? ⟨rr, 10, none⟩ = false := b4.frozen 10
  have p11 : w4.cell? ⟨rr, 11, none⟩ = some (.bool false) := b4.cell 11
  have f11 : w4.frozen? ⟨rr, 11, none⟩ = false := b4.frozen 11
  have v0 : w4.cell? ⟨s1, 0, none⟩ = some (.pointer (some ⟨c, 0, none⟩)) := a1.cell 0
  have v1 : w4.cell? ⟨s1, 1, none⟩ = some (.int .i64 0) := a1.cell 1
  rw [hrr]
  have HR := Lib.hid hrr
  clear b4 o4 q4 a0 a1 hW4 hrr
  go_still_tail 7, (by kernel_rfl)
  change wpList _ _ _ _ _ w4.drew
  go_wp2_with fail
  generalize hW5 : World.drew ((((((w4.setCell ⟨rr, 0, none⟩ (.pointer (some ⟨c, 0, none⟩))).setCell ⟨rr, 1, none⟩ (.int .i64 0)).setCell ⟨rr, 2, none⟩ (.pointer (some ⟨u, 0, none⟩))).setCell ⟨rr, 3, none⟩ (.int .i64 1)).setCell ⟨rr, 4, none⟩ (.slice none 0 0)).setCell ⟨rr, 5, none⟩ (.bool false)) = w5
  have b5 : Blk w5 rr 84 #[.pointer (some ⟨c, 0, none⟩), .int .i64 0, .pointer (some ⟨u, 0, none⟩), .int .i64 1, .slice none 0 0, .bool false, .pointer none, .int .i64 0, .pointer none, .int .i64 0, .slice none 0 0, .bool false, .pointer (some ⟨q, 0, none⟩), .slice none 0 0, .int .i64 0] := by
    rw [← hW5]
    have := (((((H4.out.1.set_ 0 (.pointer (some ⟨c, 0, none⟩))).set_ 1 (.int .i64 0)).set_ 2 (.pointer (some ⟨u, 0, none⟩))).set_ 3 (.int .i64 1)).set_ 4 (.slice none 0 0)).set_ 5 (.bool false)
    simp only [List.setIfInBounds_toArray, List.set_cons_zero, List.set_cons_succ] at this
    exact this.drew
  have o5 : Only (fun b => b = rr) w4 w5 := by rw [← hW5]; exact Only.drew (((((((Only.refl (fun b => b = rr) w4).setCell (p := ⟨rr, 0, none⟩) (.inl rfl) _).setCell (p := ⟨rr, 1, none⟩) (.inl rfl) _).setCell (p := ⟨rr, 2, none⟩) (.inl rfl) _).setCell (p := ⟨rr, 3, none⟩) (.inl rfl) _).setCell (p := ⟨rr, 4, none⟩) (.inl rfl) _).setCell (p := ⟨rr, 5, none⟩) (.inl rfl) _)
  have h0r : s0 ≠ rr := by omega
  have h1r : s1 ≠ rr := by omega
  have a0 := H4.out.2.2.2.1.only o5 h0r
  have a1 := H4.out.2.2.2.2.only o5 h1r
  clear u0 u1 v0 v1 p0 f0 p1 f1 p2 f2 p3 f3 p4 f4 p5 f5 p6 f6 p7 f7 p8 f8 p9 f9 p10 f10 p11 f11
  have u0 : w5.cell? ⟨s0, 0, none⟩ = some (.pointer (some ⟨u, 0, none⟩)) := a0.cell 0
  have u1 : w5.cell? ⟨s0, 1, none⟩ = some (.int .i64 1) := a0.cell 1
  have v0 : w5.cell? ⟨s1, 0, none⟩ = some (.pointer (some ⟨c, 0, none⟩)) := a1.cell 0
  have v1 : w5.cell? ⟨s1, 1, none⟩ = some (.int .i64 0) := a1.cell 1
  have p6 : w5.cell? ⟨rr, 6, none⟩ = some (.pointer none) := b5.cell 6
  have f6 : w5.frozen? ⟨rr, 6, none⟩ = false := b5.frozen 6
  have p7 : w5.cell? ⟨rr, 7, none⟩ = some (.int .i64 0) := b5.cell 7
  have f7 : w5.frozen? ⟨rr, 7, none⟩ = false := b5.frozen 7
  have p8 : w5.cell? ⟨rr, 8, none⟩ = some (.pointer none) := b5.cell 8
  have f8 : w5.frozen? ⟨rr, 8, none⟩ = false := b5.frozen 8
  have p9 : w5.cell? ⟨rr, 9, none⟩ = some (.int .i64 0) := b5.cell 9
  have f9 : w5.frozen? ⟨rr, 9, none⟩ = false := b5.frozen 9
  have p10 : w5.cell? ⟨rr, 10, none⟩ = some (.slice none 0 0) := b5.cell 10
  have f10 : w5.frozen? ⟨rr, 10, none⟩ = false := b5.frozen 10
  have p11 : w5.cell? ⟨rr, 11, none⟩ = some (.bool false) := b5.cell 11
  have f11 : w5.frozen? ⟨rr, 11, none⟩ = false := b5.frozen 11
  have H5 := Lib.hid (And.intro b5 o5)
  clear b5 o5 a0 a1 hW5
  go_still_tail 7, (by kernel_rfl)
  change wpList _ _ _ _ _ w5.drew
  go_wp2_with fail
  generalize hW6 : World.drew ((((((w5.setCell ⟨rr, 6, none⟩ (.pointer (some ⟨u, 0, none⟩))).setCell ⟨rr, 7, none⟩ (.int .i64 1)).setCell ⟨rr, 8, none⟩ (.pointer (some ⟨c, 0, none⟩))).setCell ⟨rr, 9, none⟩ (.int .i64 0)).setCell ⟨rr, 10, none⟩ (.slice none 0 0)).setCell ⟨rr, 11, none⟩ (.bool false)) = w6
  have HW6 := Lib.hid hW6
  clear hW6
  go_wp2_with fail
  go_ret2
  have b6 : Blk w6 rr 84 #[.pointer (some ⟨c, 0, none⟩), .int .i64 0, .pointer (some ⟨u, 0, none⟩), .int .i64 1, .slice none 0 0, .bool false, .pointer (some ⟨u, 0, none⟩), .int .i64 1, .pointer (some ⟨c, 0, none⟩), .int .i64 0, .slice none 0 0, .bool false, .pointer (some ⟨q, 0, none⟩), .slice none 0 0, .int .i64 0] := by
    rw [← HW6.out]
    have := (((((H5.out.1.set_ 6 (.pointer (some ⟨u, 0, none⟩))).set_ 7 (.int .i64 1)).set_ 8 (.pointer (some ⟨c, 0, none⟩))).set_ 9 (.int .i64 0)).set_ 10 (.slice none 0 0)).set_ 11 (.bool false)
    simp only [List.setIfInBounds_toArray, List.set_cons_zero, List.set_cons_succ] at this
    exact this.drew
  have o6 : Only (fun b => b = rr) w5 w6 := by rw [← HW6.out]; exact Only.drew (((((((Only.refl (fun b => b = rr) w5).setCell (p := ⟨rr, 6, none⟩) (.inl rfl) _).setCell (p := ⟨rr, 7, none⟩) (.inl rfl) _).setCell (p := ⟨rr, 8, none⟩) (.inl rfl) _).setCell (p := ⟨rr, 9, none⟩) (.inl rfl) _).setCell (p := ⟨rr, 10, none⟩) (.inl rfl) _).setCell (p := ⟨rr, 11, none⟩) (.inl rfl) _)
  have oo := H5.out.2.trans o6 (fun _ _ e => e)
  obtain ⟨b4, o4, q4, -, -⟩ := H4.out
  have hws := H2.out.2.2.size
  have hqr : q ≠ rr := Blk.ne_ (t := 106) q4 b4 (by decide)
  have bw6 : Below w.heap.size w w6 := (H2.out.2.2.trans (o4.mono hws)).trans (oo.below (B := w.heap.size) (by have := o4.size; omega) (fun i hi e => by omega))
  refine ⟨rr, rfl, ⟨fun _ => none, fun _ => 0, q, none, .slice none 0 0, [], b6, CAt.only q4 oo hqr, EL.nil .., rfl, fun d _ => ⟨?_, by simp [Sys.start], by simp [Sys.start], by simp [Sys.start]⟩, ⟨by omega, b6.lt⟩, ⟨by have := H3.out.2.1; omega, (CAt.only q4 oo hqr).lt⟩, fun b hb => hb.2⟩, bw6⟩
  exact (Row.nil w6 5).rd
end Go.Proofs.YtfmmomdfmmoklaaDoor
