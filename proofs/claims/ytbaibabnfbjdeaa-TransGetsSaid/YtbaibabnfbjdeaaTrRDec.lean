/-
  The contract of the document's Decode.
  Conditions: the slice reads as these bytes.
-/
import Derived.Test.YtbaibabnfbjdeaaTrREv
namespace Go.Proofs.Ytbaibabnfbjdeaa
open Go.RowKit

/-- How far the walk still has to go. -/
def decM (n Q : Nat) (er : Value) (wr : World) : Nat := if intOf er = 0 then n + 1 - (intOf ((wr.cell? ⟨Q, 1, none⟩).getD undef)).toNat else 0
theorem decM_run {n Q : Nat} {wr : World} {a : Nat} (h : wr.cell? ⟨Q, 1, none⟩ = some (.int .i64 a)) : decM n Q (.int .i64 0) wr = n + 1 - a := by
  unfold decM; rw [h]; simp [intOf]
theorem decM_err {n Q : Nat} {wr : World} {e : Nat} (h : e ≠ 0) : decM n Q (.int .i64 (e : Int)) wr = 0 := by
  unfold decM; rw [if_neg]; simp [intOf]; exact h

/-- Where the loop stands. -/
def RDecL (w1 : World) (Q n : Nat) (v : Value) (bs : List Nat) (p er : Value) (wr : World) : Prop :=
  (∃ P E : Nat, E ≠ 0 ∧ p = .int .i64 P ∧ er = .int .i64 E ∧ dec bs = ⟨[], false, P, E⟩ ∧ Below w1.heap.size w1 wr) ∨
  (p = .int .i64 0 ∧ er = .int .i64 0 ∧ dec bs = Go.Proofs.Ytbaibabnfbjdeaa.walk bs 4 0 [] ∧ ∃ a la B cB g acc, a ≤ n ∧ DecK bs a la acc ∧ RdrW w1 wr Q v a la B cB g acc false) ∨
  (p = .int .i64 0 ∧ er = .int .i64 0 ∧ ∃ la B cB g acc, acc.length ≤ 4096 ∧ dec bs = ⟨pes acc, true, 0, 0⟩ ∧ RdrW w1 wr Q v n la B cB g acc true)

theorem step_fin_end {bs : List Nat} {a : Nat} {la : Int} {acc : List PE} (h : step bs a la acc = .fin) : a + 1 = bs.length := by
  have := congrArg List.length (step_fin h)
  rw [List.length_drop] at this
  simp at this
  omega

theorem step_err_ne {bs : List Nat} {a p e : Nat} {la : Int} {acc : List PE} (hlt : a < bs.length) (h : step bs a la acc = .err p e) : e ≠ 0 := by
  obtain ⟨d, hd⟩ : ∃ d, bs[a]? = some d := ⟨_, List.getElem?_eq_getElem hlt⟩
  unfold step at h
  rw [hd] at h
  simp only at h
  repeat' split at h
  all_goals first
    | (injection h with h1 h2; omega)
    | (cases h; done)
theorem RDecL.start {w1 W W0 : World} {n Q : Nat} {A : Option Addr} {c : Nat} {bs : List Nat} {e : Ending} (h : RHeadTo w1 W Q (.slice A n c) 0 0 (.slice none 0 0) false (headW bs 0 hd) e W0) (hn : n = bs.length) (hQ : w1.heap.size ≤ Q) :
    ∃ P E : Nat, e = .returned (.tuple #[.int .i64 P, .int .i64 E]) ∧ RDecL w1 Q n (.slice A n c) bs (.int .i64 P) (.int .i64 E) W0 := by
  rcases hh : headW bs 0 hd with _ | ⟨p, er⟩
  · rw [hh] at h
    obtain ⟨rfl, hb, hr, -⟩ := h
    obtain ⟨-, h2, h3⟩ := dec_walk (bs := bs) (by rw [headP_none hh])
    exact ⟨0, 0, rfl, .inr (.inl ⟨rfl, rfl, h2, 4, 0, none, 0, none, [], by omega, DecK.start bs, hr, hQ, EL.nil _ _ _, hb⟩)⟩
  · rw [hh] at h
    obtain ⟨rfl, hb⟩ := h
    exact ⟨p, er, rfl, .inl ⟨p, er, (headW_some hh).1, rfl, rfl, by unfold dec; rw [hh], hb⟩⟩
theorem RDecL.step {w1 W2 : World} {Q n : Nat} {v : Value} {bs : List Nat} {a : Nat} {la : Int} {acc : List Ev} {e : Ending} (h : REvTo w1 Q v a la acc (Go.Proofs.Ytbaibabnfbjdeaa.step bs a la (pes acc)) e W2) (hk : DecK bs a la acc) (hdw : dec bs = Go.Proofs.Ytbaibabnfbjdeaa.walk bs 4 0 []) (hlt : a < n) (hn : n = bs.length) (hb : ∀ b ∈ bs, b < 256) :
    ∃ P E : Nat, e = .returned (.tuple #[.int .i64 P, .int .i64 E]) ∧ RDecL w1 Q n v bs (.int .i64 P) (.int .i64 E) W2 ∧ decM n Q (.int .i64 E) W2 < n + 1 - a := by
  rcases hs : Go.Proofs.Ytbaibabnfbjdeaa.step bs a la (pes acc) with ⟨p, er⟩ | _ | ⟨x, next⟩
  · rw [hs] at h
    obtain ⟨rfl, hbl⟩ := h
    have he := step_err_ne (by omega) hs
    exact ⟨p, er, rfl, .inl ⟨p, er, he, rfl, rfl, hk.err hdw (by omega) hs, hbl⟩, by rw [decM_err he]; omega⟩
  · rw [hs] at h
    obtain ⟨rfl, B, cB, g, hW⟩ := h
    have h1 := step_fin_end hs
    have hm : decM n Q (.int .i64 ((0 : Nat) : Int)) W2 = n + 1 - (a + 1) := decM_run (hW.box.cell 1)
    obtain rfl : a + 1 = n := by omega
    exact ⟨0, 0, rfl, .inr (.inr ⟨rfl, rfl, la, B, cB, g, acc, hk.len, hk.fin hdw (by omega) hs, hW⟩), by rw [hm]; omega⟩
  · rw [hs] at h
    obtain ⟨rfl, B, cB, g, A, c, hW⟩ := h
    obtain ⟨d, t, ds⟩ := x
    obtain ⟨k1, k2, k3, k4, k5⟩ := hk.next hb (by omega) hs A c
    have hm : decM n Q (.int .i64 ((0 : Nat) : Int)) W2 = n + 1 - next := decM_run (hW.box.cell 1)
    exact ⟨0, 0, rfl, .inr (.inl ⟨rfl, rfl, hdw, next, t, B, cB, g, _, by omega, k1, hW⟩), by rw [hm]; omega⟩

/-- Behind the stores into the result. -/
theorem RdrW.done {w w1 W : World} {Q : Nat} {v : Value} {a : Nat} {la : Int} {B : Option Addr} {cB : Nat} {g : Option Nat} {acc : List Ev} {f : Bool} {R : Nat} {cs : Array Value} (h : RdrW w1 W Q v a la B cB g acc f) (hR : Blk W R 24 cs) (hle : w.heap.size ≤ R) (hb : Below w.heap.size w W) (hm : acc.length ≤ 9223372036854775807) (x y : Value) :
    Evs ((W.setCell ⟨R, 0, none⟩ x).setCell ⟨R, 1, none⟩ y) (.slice B acc.length cB) acc ∧ Below w.heap.size w ((W.setCell ⟨R, 0, none⟩ x).setCell ⟨R, 1, none⟩ y) :=
  ⟨((h.evs.far hR 0 x).far (hR.set_ 0 x) 1 y).evs hm, (hb.setCell (p := ⟨R, 0, none⟩) hle x).setCell (p := ⟨R, 1, none⟩) hle y⟩

set_option maxRecDepth 100000 in
set_option maxHeartbeats 4000000 in
theorem RDecode_any (A : Option Addr) (n c : Nat) (bs : List Nat) (w : World) (hr : Rd w (.slice A n c) (bv bs)) (hb : ∀ b ∈ bs, b < 256) (hn : n ≤ 9223372036854775807) :
    Calls Try.prog 15 #[.slice A n c] w (DecTo w (dec bs)) := by
  have HR := Lib.hid hr
  have HN := Lib.hid hr.bytes
  have HB := Lib.hid hb
  clear hr hb
  go_enter Try.func15, Try.ntmps15
  go_wp2_with fail
  obtain ⟨w1, hw1⟩ : ∃ w1, w.alloc (.cells #[.slice none 0 0, .bool false] 24) = w1 := ⟨_, rfl⟩
  have hs1 : w1.heap.size = w.heap.size + 1 := by rw [← hw1]; exact World.size_alloc _ _
  have HR1 : Hid (Rd w1 (.slice A n c) (bv bs)) := by rw [← hw1]; exact HR.out.alloc _
  have HRN : Hid (Blk w1 w.heap.size 24 #[.slice none 0 0, .bool false]) := by rw [← hw1]; exact Blk.new w _ _
  have HSZ : Hid (Below w.heap.size w w1) := by rw [← hw1]; exact (Below.refl _ w).alloc (Nat.le_refl _) _
  rw [hw1]
  obtain ⟨Q, hQ⟩ : ∃ Q, w.heap.size + 1 = Q := ⟨_, rfl⟩
  have hQ1 : w1.heap.size = Q := by omega
  rw [hQ]
  have hq0 : Rdr (w1.alloc (.cells #[.slice A n c, .int .i64 0, .int .i64 0, .int .u64 0, .slice none 0 0, .bool false] 60)) Q (.slice A n c) 0 0 0 (.slice none 0 0) false := by rw [← hQ1]; exact Blk.new w1 _ _
  have hbW : Below w1.heap.size w1 (w1.alloc (.cells #[.slice A n c, .int .i64 0, .int .i64 0, .int .u64 0, .slice none 0 0, .bool false] 60)) := (Below.refl _ _).alloc (Nat.le_refl _) _
  refine (RHead_any w1 _ Q A n c bs 0 0 0 (.slice none 0 0) false hq0 (by omega) hbW HR1.out HB.out hn).mono ?_
  intro e W0 h0
  obtain ⟨P0, E0, rfl, hL⟩ := RDecL.start h0 HN.out (by omega)
  have HL := Lib.hid hL
  have hRs : w.heap.size < w1.heap.size := by omega
  clear h0 hL hbW hq0 hw1
  go_wp2_with fail
  go_loopw [6, 7] (fun p er wr => Hid (RDecL w1 Q n (.slice A n c) bs p er wr)) (fun _ er wr => decM n Q er wr)
  case atStart => exact HL.out
  case round =>
    rcases hrel.out with ⟨P, E, hE, rfl, rfl, hd, hb⟩ | ⟨rfl, rfl, hdw, a, la, B, cB, g, acc, han, hk, hW⟩ | ⟨rfl, rfl, la, B, cB, g, acc, hacc, hd, hW⟩
    · have bR := HRN.out.below hb (by omega)
      have r0 := bR.cell 0
      have r1 := bR.cell 1
      have f0 := bR.frozen 0
      have f1 := bR.frozen 1
      simp only [List.getElem?_toArray, List.getElem?_cons_zero, List.getElem?_cons_succ] at r0 r1
      have hne : ((E : Int) != 0) = true := by simp; exact hE
      have heq : ((E : Int) == 0) = false := by simp; exact hE
      have HF := Lib.hid (And.intro hd (HSZ.out.trans (hb.mono HSZ.out.size)))
      clear hrel hd hb hE bR
      go_wp2_with fail
      try rw [Exit.noGoto_ret]
      refine bodyPost_ret (v := .tuple #[.agg #[.slice none 0 0, .bool false], .int .i64 (P : Nat), .int .i64 (E : Nat)]) (by simp [results, Try.results15, go_sem, r0, r1]) rfl ?_
      exact DecTo.bad HF.out.1 ((HF.out.2.setCell (p := ⟨w.heap.size, 0, none⟩) (Nat.le_refl _) _).setCell (p := ⟨w.heap.size, 1, none⟩) (Nat.le_refl _) _)
    · have bR := HRN.out.below hW.bel (by omega)
      have q1 : wr.cell? ⟨Q, 1, none⟩ = some (.int .i64 a) := hW.box.cell 1
      have HK := Lib.hid (And.intro hdw (And.intro hk hW))
      by_cases hlt : a < n
      · have hlt' : (a : Int) < n := by omega
        clear hrel hdw hk hW bR
        go_wp2_with fail
        refine (REvent_any w1 wr Q A n c bs a la B cB g acc HK.out.2.2 HK.out.2.1.in_ HK.out.2.1.len HK.out.2.1.whole hlt HR1.out HB.out hn).mono ?_
        intro e W2 h2
        obtain ⟨P2, E2, rfl, hL2, hm2⟩ := RDecL.step h2 HK.out.2.1 HK.out.1 hlt HN.out HB.out
        have HL2 := Lib.hid (And.intro hL2 hm2)
        have HQ1 := Lib.hid q1
        clear h2 hL2 hm2 q1
        go_wp2_with fail
        go_roundw
        case rel => exact HL2.out.1
        case measure => rw [decM_run HQ1.out]; exact HL2.out.2
      · obtain rfl : a = n := by omega
        have r0 := bR.cell 0
        have r1 := bR.cell 1
        have f0 := bR.frozen 0
        have f1 := bR.frozen 1
        simp only [List.getElem?_toArray, List.getElem?_cons_zero, List.getElem?_cons_succ] at r0 r1
        have q4 : wr.cell? ⟨Q, 4, none⟩ = some (.slice B acc.length cB) := hW.box.cell 4
        have q5 : wr.cell? ⟨Q, 5, none⟩ = some (.bool false) := hW.box.cell 5
        have HF : Hid (dec bs = ⟨pes acc, false, 0, 0⟩) := by
          show _ = _
          rw [hdw, ← hk.walk, walk_end (by have := HN.out; omega)]
        have HBR := Lib.hid bR
        have hacc := hk.len
        clear hrel hdw hk hW bR
        go_wp2_with fail
        try rw [Exit.noGoto_ret]
        refine bodyPost_ret (v := .tuple #[.agg #[.slice B acc.length cB, .bool false], .int .i64 0, .int .i64 0]) (by simp [results, Try.results15, go_sem, r0, r1]) rfl ?_
        have h1 := HK.out.2.2.done HBR.out (Nat.le_refl _) (HSZ.out.trans (HK.out.2.2.bel.mono HSZ.out.size)) (by omega) (.slice B acc.length cB) (.bool false)
        exact DecTo.good HF.out h1.1 h1.2
    · have bR := HRN.out.below hW.bel (by omega)
      have q1 : wr.cell? ⟨Q, 1, none⟩ = some (.int .i64 n) := hW.box.cell 1
      have r0 := bR.cell 0
      have r1 := bR.cell 1
      have f0 := bR.frozen 0
      have f1 := bR.frozen 1
      simp only [List.getElem?_toArray, List.getElem?_cons_zero, List.getElem?_cons_succ] at r0 r1
      have q4 : wr.cell? ⟨Q, 4, none⟩ = some (.slice B acc.length cB) := hW.box.cell 4
      have q5 : wr.cell? ⟨Q, 5, none⟩ = some (.bool true) := hW.box.cell 5
      have HF := Lib.hid (And.intro hd hW)
      have HBR := Lib.hid bR
      clear hrel hd hW bR
      go_wp2_with fail
      try rw [Exit.noGoto_ret]
      refine bodyPost_ret (v := .tuple #[.agg #[.slice B acc.length cB, .bool true], .int .i64 0, .int .i64 0]) (by simp [results, Try.results15, go_sem, r0, r1]) rfl ?_
      have h1 := HF.out.2.done HBR.out (Nat.le_refl _) (HSZ.out.trans (HF.out.2.bel.mono HSZ.out.size)) (by omega) (.slice B acc.length cB) (.bool true)
      exact DecTo.good HF.out.1 h1.1 h1.2
end Go.Proofs.Ytbaibabnfbjdeaa
