/-
  tcl's Same and what it calls (slices.EqualFunc, slices.Equal): their contracts.
  Conditions: bytes; at most 1048576000 of anything.
-/
import Derived.Test.YtphmhglebeapaaaTRSame
namespace Go.Proofs.Ytphmhglebeapaaa
open Go.RowKit

set_option maxRecDepth 100000 in
set_option maxHeartbeats 2000000 in
theorem EqualP_is {S T : Nat → Prop} {w : World} (x y : List Prt) {va vb : Value} (hx : Prts S w va x) (hy : Prts T w vb y) (bx : ∀ p ∈ x, ∀ c ∈ p.s, c < 256) (by_ : ∀ p ∈ y, ∀ c ∈ p.s, c < 256) (hnx : x.length ≤ 1048576000) :
    Calls Try.prog 64 #[va, vb] w (Asks w (x = y)) := by
  obtain ⟨A, ca, rfl, hca⟩ := hx.form
  obtain ⟨B, cb, rfl, hcb⟩ := hy.form
  have HX := Lib.hid hx
  have HY := Lib.hid hy
  have HBX := Lib.hid bx
  have HBY := Lib.hid by_
  clear hx hy bx by_
  by_cases hn : x.length = y.length
  · have q2 : ((x.length : Int) != (y.length : Int)) = false := by simp; omega
    have HN := Lib.hid hn
    clear hn
    go_enter Try.func64, Try.ntmps64
    go_wp2_with fail
    go_loopw [13] (fun iv wr => ∃ i : Nat, i ≤ x.length ∧ iv = .int .i64 (i : Nat) ∧ Hid (Below w.heap.size w wr) ∧ Hid (∀ j, j < i → x[j]? = y[j]?)) (fun iv _ => x.length - (intOf iv).toNat)
    case atStart => exact ⟨0, by omega, rfl, Lib.hid (Below.refl _ w), Lib.hid fun j h => by omega⟩
    case round =>
      obtain ⟨i, hi, rfl, HW, HE⟩ := hrel
      by_cases hlt : i < x.length
      · have r1 : decide ((i : Int) < (x.length : Int)) = true := decide_eq_true (by omega)
        have hlt2 : i < y.length := by have := HN.out; omega
        obtain ⟨bx, ox, rfl, xv, xs⟩ := parts_at (SlI.below prt_ok HX.out HW.out) hlt
        obtain ⟨b2, o2, rfl, yv, ys⟩ := parts_at (SlI.below prt_ok HY.out HW.out) hlt2
        have HXI := Lib.hid (List.getElem?_eq_getElem hlt)
        have HYI := Lib.hid (List.getElem?_eq_getElem hlt2)
        have hxb := HBX.out _ (List.getElem_mem hlt)
        have hyb := HBY.out _ (List.getElem_mem hlt2)
        have i1 : (i : Int) < (x.length : Int) := by omega
        have i2 : (i : Int) < (y.length : Int) := by omega
        generalize x[i] = p at *
        generalize y[i] = q at *
        obtain ⟨pv, ps⟩ := p
        obtain ⟨qv, qs⟩ := q
        dsimp only at *
        obtain ⟨r, hr⟩ : ∃ r, r = decide (pv = qv ∧ ps = qs) := ⟨_, rfl⟩
        have hneq : ∀ W, (binOp .neq 47 (.agg #[.bool pv, .string (str ps)]) (.agg #[.bool qv, .string (str qs)])).run Try.prog W = .ok (.bool (!r)) W := fun W => by rw [hr]; exact part_neq pv qv hxb hyb W
        have HR := Lib.hid hr
        clear hxb hyb hr
        go_wp2_with fail
        go_quiet (fail)
        have HW2 := Lib.hid (HW.out.trans ((drewN_b wr nq).mono HW.out.size))
        generalize World.drewN wr _ = w2 at *
        clear hneq
        cases r with
        | true =>
          have HD := Lib.hid (of_decide_eq_true HR.out.symm)
          go_wp2_with fail
          go_roundw
          case rel =>
            refine ⟨i + 1, by omega, by go_num, HW2, Lib.hid fun j hj => ?_⟩
            rcases Nat.lt_or_ge j i with h | h
            · exact HE.out j h
            · have e : j = i := by omega
              rw [e, HXI.out, HYI.out, HD.out.1, HD.out.2]
          case measure => simp [intOf]; omega
        | false =>
          have HD := Lib.hid (of_decide_eq_false HR.out.symm)
          have HS : Hid (false = true ↔ x = y) := Lib.hid ⟨fun h => by simp at h, fun h => by
            exfalso
            have h1 := HXI.out
            rw [h, HYI.out] at h1
            injection h1 with h1
            injection h1 with h2 h3
            exact HD.out ⟨h2.symm, h3.symm⟩⟩
          go_wp2_with fail
          go_ret
          exact ⟨⟨false, rfl, HS.out⟩, HW2.out⟩
      · have r1 : decide ((i : Int) < (x.length : Int)) = false := decide_eq_false (by omega)
        have r1n : decide (i < x.length) = false := decide_eq_false hlt
        have HS : Hid (true = true ↔ x = y) := Lib.hid ⟨fun _ => List.ext_getElem? fun j => by
          rcases Nat.lt_or_ge j i with h | h
          · exact HE.out j h
          · rw [List.getElem?_eq_none (by omega), List.getElem?_eq_none (by have := HN.out; omega)], fun _ => rfl⟩
        clear hlt
        go_wp2_with fail
        go_ret
        exact ⟨⟨true, rfl, by simpa using HS.out⟩, HW.out⟩
  · have q2 : ((x.length : Int) != (y.length : Int)) = true := by simp; omega
    have HS : Hid (false = true ↔ x = y) := Lib.hid ⟨fun h => by simp at h, fun h => absurd (by rw [h]) hn⟩
    clear hn
    go_enter Try.func64, Try.ntmps64
    go_wp2_with fail
    go_ret
    exact ⟨⟨false, rfl, HS.out⟩, Below.refl _ w⟩

set_option maxRecDepth 100000 in
set_option maxHeartbeats 2000000 in
theorem sameWord_is {S T : Nat → Prop} {w : World} (x y : Wrd) {va vb : Value} (hx : Prts S w va x.parts) (hy : Prts T w vb y.parts) (bx : bytesW x) (by_ : bytesW y) (hnx : x.parts.length ≤ 1048576000) :
    Calls Try.prog 49 #[.agg #[.int .i64 x.at_, .int .i64 x.kind, va], .agg #[.int .i64 y.at_, .int .i64 y.kind, vb]] w (Asks w (sameW x y)) := by
  obtain ⟨A, ca, rfl, hca⟩ := hx.form
  obtain ⟨B, cb, rfl, hcb⟩ := hy.form
  have hb1 : Below w.heap.size w ((w.alloc (.cells #[.int .i64 x.at_, .int .i64 x.kind, .slice A x.parts.length ca] 44)).alloc (.cells #[.int .i64 y.at_, .int .i64 y.kind, .slice B y.parts.length cb] 44)) := ((Below.refl _ w).alloc (Nat.le_refl _) _).alloc (by simp) _
  have HC := Lib.hid (EqualP_is x.parts y.parts (SlI.below prt_ok hx hb1) (SlI.below prt_ok hy hb1) bx by_ hnx)
  have HB := Lib.hid hb1
  clear hx hy bx by_ hb1
  by_cases hk : x.kind = y.kind
  · have q1 : (x.kind == y.kind) = true := by simp [hk]
    have HK := Lib.hid hk
    clear hk
    go_enter Try.func49, Try.ntmps49
    go_wp2_with fail
    refine HC.out.mono ?_
    rintro e w1 ⟨⟨r, rfl, hr⟩, hb2⟩
    have HR := Lib.hid hr
    have HB2 := Lib.hid (HB.out.trans (hb2.mono HB.out.size))
    clear hr hb2
    go_wp2_with fail
    go_ret
    exact ⟨⟨r, rfl, HR.out.trans ⟨fun h => ⟨HK.out, h⟩, fun h => h.2⟩⟩, HB2.out⟩
  · have q1 : (x.kind == y.kind) = false := by simp [hk]
    have HK := Lib.hid hk
    clear hk
    go_enter Try.func49, Try.ntmps49
    go_wp2_with fail
    go_ret
    exact ⟨⟨false, rfl, ⟨fun h => by simp at h, fun h => absurd h.1 HK.out⟩⟩, HB.out⟩

set_option maxRecDepth 100000 in
set_option maxHeartbeats 4000000 in
theorem EqualW_is {S T : Nat → Prop} {w : World} (x y : List Wrd) {va vb : Value} (hx : Wrds S w va x) (hy : Wrds T w vb y) (fx : x.length ≤ 1048576000 ∧ ∀ p ∈ x, p.parts.length ≤ 1048576000 ∧ bytesW p) (fy : y.length ≤ 1048576000 ∧ ∀ p ∈ y, p.parts.length ≤ 1048576000 ∧ bytesW p) :
    Calls Try.prog 48 #[va, vb, .func (.func 49) #[] #[]] w (Asks w (samesW x y)) := by
  obtain ⟨A, ca, rfl, hca⟩ := hx.form
  obtain ⟨B, cb, rfl, hcb⟩ := hy.form
  have HX := Lib.hid hx
  have HY := Lib.hid hy
  have HFX := Lib.hid fx.2
  have HFY := Lib.hid fy.2
  have hl1 := fx.1
  have hm1 := fy.1
  have HI := Lib.hid (samesW_iff x y)
  clear hx hy fx fy
  by_cases hn : x.length = y.length
  · have q2 : ((x.length : Int) != (y.length : Int)) = false := by simp; omega
    have HN := Lib.hid hn
    clear hn
    go_enter Try.func48, Try.ntmps48
    go_wp2_with fail
    go_loopw [17] (fun iv wr => ∃ i : Nat, i ≤ x.length ∧ iv = .int .i64 (i : Nat) ∧ Hid (Below w.heap.size w wr) ∧ Hid (∀ j p q, j < i → x[j]? = some p → y[j]? = some q → sameW p q)) (fun iv _ => x.length - (intOf iv).toNat)
    case atStart => exact ⟨0, by omega, rfl, Lib.hid (Below.refl _ w), Lib.hid fun j p q h => by omega⟩
    case round =>
      obtain ⟨i, hi, rfl, HW, HE⟩ := hrel
      by_cases hlt : i < x.length
      · have r1 : decide ((i : Int) < (x.length : Int)) = true := decide_eq_true (by omega)
        have hlt2 : i < y.length := by have := HN.out; omega
        have HXI := Lib.hid (List.getElem?_eq_getElem hlt)
        have HYI := Lib.hid (List.getElem?_eq_getElem hlt2)
        have hfp := HFX.out _ (List.getElem_mem hlt)
        have hfq := HFY.out _ (List.getElem_mem hlt2)
        obtain ⟨b1, o1, v1, rfl, p0, p1, p2, X1⟩ := words_at (SlI.below wrd_ok HX.out HW.out) hlt
        obtain ⟨b2, o2, v2, rfl, u0, u1, u2, Y1⟩ := words_at (SlI.below wrd_ok HY.out HW.out) hlt2
        obtain ⟨A1, k1, rfl, _⟩ := X1.form
        obtain ⟨B1, k2, rfl, _⟩ := Y1.form
        have i1 : (i : Int) < (x.length : Int) := by omega
        have i2 : (i : Int) < (y.length : Int) := by omega
        generalize x[i] = p at *
        generalize y[i] = q at *
        have hb2 : Below wr.heap.size wr ((wr.alloc (.cells #[.int .i64 (p).at_, .int .i64 (p).kind, .slice A1 p.parts.length k1] 44)).alloc (.cells #[.int .i64 (q).at_, .int .i64 (q).kind, .slice B1 q.parts.length k2] 44)) := ((Below.refl _ wr).alloc (Nat.le_refl _) _).alloc (by simp) _
        have HS := Lib.hid (sameWord_is p q (SlI.below prt_ok X1 hb2) (SlI.below prt_ok Y1 hb2) hfp.2 hfq.2 hfp.1)
        have HW2 := Lib.hid (HW.out.trans (hb2.mono HW.out.size))
        have HBK := Lib.hid (show ∀ k (u : Value), wr.cell? ⟨b2, k, none⟩ = some u → (wr.alloc (.cells #[.int .i64 (p).at_, .int .i64 (p).kind, .slice A1 p.parts.length k1] 44)).cell? ⟨b2, k, none⟩ = some u from fun k u h => (World.cell?_alloc_lt wr _ _ (World.block_lt_of_cell? wr _ h)).trans h)
        have e0 := HBK.out _ _ u0
        have e1 := HBK.out _ _ u1
        have e2 := HBK.out _ _ u2
        clear X1 Y1 hfp hfq hb2 HBK
        go_wp2_with fail
        refine HS.out.mono ?_
        rintro e w5 ⟨⟨rb, rfl, hrb⟩, hb5⟩
        have HRB := Lib.hid hrb
        have HW5 := Lib.hid (HW2.out.trans (hb5.mono HW2.out.size))
        clear hrb hb5 HS HW2
        cases rb with
        | true =>
          go_wp2_with fail
          go_roundw
          case rel =>
            refine ⟨i + 1, by omega, by go_num, HW5, Lib.hid fun j p' q' hj hp hq => ?_⟩
            rcases Nat.lt_or_ge j i with h | h
            · exact HE.out j p' q' h hp hq
            · have e : j = i := by omega
              rw [e] at hp hq
              rw [HXI.out] at hp
              rw [HYI.out] at hq
              injection hp with hp
              injection hq with hq
              rw [← hp, ← hq]
              exact HRB.out.1 trivial
          case measure => simp [intOf]; omega
        | false =>
          have HSF : Hid (false = true ↔ samesW x y) := Lib.hid ⟨fun h => by simp at h, fun h => by
            exfalso
            have h2 := HRB.out.2 ((HI.out.1 h).2 i p q HXI.out HYI.out)
            simp at h2⟩
          go_wp2_with fail
          go_ret
          exact ⟨⟨false, rfl, HSF.out⟩, HW5.out⟩
      · have r1 : decide ((i : Int) < (x.length : Int)) = false := decide_eq_false (by omega)
        have r1n : decide (i < x.length) = false := decide_eq_false hlt
        have HSF : Hid (true = true ↔ samesW x y) := Lib.hid ⟨fun _ => HI.out.2 ⟨HN.out, fun j p q hp hq => HE.out j p q (by have := (List.getElem?_eq_some_iff.1 hp).1; omega) hp hq⟩, fun _ => rfl⟩
        clear hlt
        go_wp2_with fail
        go_ret
        exact ⟨⟨true, rfl, by simpa using HSF.out⟩, HW.out⟩
  · have q2 : ((x.length : Int) != (y.length : Int)) = true := by simp; omega
    have HSF : Hid (false = true ↔ samesW x y) := Lib.hid ⟨fun h => by simp at h, fun h => absurd (HI.out.1 h).1 hn⟩
    clear hn
    go_enter Try.func48, Try.ntmps48
    go_wp2_with fail
    go_ret
    exact ⟨⟨false, rfl, HSF.out⟩, Below.refl _ w⟩

set_option maxRecDepth 100000 in
set_option maxHeartbeats 2000000 in
theorem sameCommand_is {S T : Nat → Prop} {w : World} (x y : Cmd) {va vb : Value} (hx : Wrds S w va x.words) (hy : Wrds T w vb y.words) (fx : x.words.length ≤ 1048576000 ∧ ∀ z ∈ x.words, z.parts.length ≤ 1048576000 ∧ bytesW z) (fy : y.words.length ≤ 1048576000 ∧ ∀ z ∈ y.words, z.parts.length ≤ 1048576000 ∧ bytesW z) :
    Calls Try.prog 33 #[.agg #[.int .i64 x.at_, va], .agg #[.int .i64 y.at_, vb]] w (Asks w (sameC x y)) := by
  obtain ⟨A, ca, rfl, hca⟩ := hx.form
  obtain ⟨B, cb, rfl, hcb⟩ := hy.form
  have hb1 : Below w.heap.size w ((w.alloc (.cells #[.int .i64 x.at_, .slice A x.words.length ca] 39)).alloc (.cells #[.int .i64 y.at_, .slice B y.words.length cb] 39)) := ((Below.refl _ w).alloc (Nat.le_refl _) _).alloc (by simp) _
  have HC := Lib.hid (EqualW_is x.words y.words (SlI.below wrd_ok hx hb1) (SlI.below wrd_ok hy hb1) fx fy)
  have HB := Lib.hid hb1
  clear hx hy fx fy hb1
  go_enter Try.func33, Try.ntmps33
  go_wp2_with fail
  refine HC.out.mono ?_
  rintro e w1 ⟨⟨r, rfl, hr⟩, hb2⟩
  have HR := Lib.hid hr
  have HB2 := Lib.hid (HB.out.trans (hb2.mono HB.out.size))
  clear hr hb2
  go_wp2_with fail
  go_ret
  exact ⟨⟨r, rfl, HR.out⟩, HB2.out⟩

set_option maxRecDepth 100000 in
set_option maxHeartbeats 4000000 in
theorem EqualC_is {S T : Nat → Prop} {w : World} (x y : List Cmd) {va vb : Value} (hx : Cmds S w va x) (hy : Cmds T w vb y) (fx : x.length ≤ 1048576000 ∧ ∀ p ∈ x, p.words.length ≤ 1048576000 ∧ ∀ z ∈ p.words, z.parts.length ≤ 1048576000 ∧ bytesW z) (fy : y.length ≤ 1048576000 ∧ ∀ p ∈ y, p.words.length ≤ 1048576000 ∧ ∀ z ∈ p.words, z.parts.length ≤ 1048576000 ∧ bytesW z) :
    Calls Try.prog 32 #[va, vb, .func (.func 33) #[] #[]] w (Asks w (samesC x y)) := by
  obtain ⟨A, ca, rfl, hca⟩ := hx.form
  obtain ⟨B, cb, rfl, hcb⟩ := hy.form
  have HX := Lib.hid hx
  have HY := Lib.hid hy
  have HFX := Lib.hid fx.2
  have HFY := Lib.hid fy.2
  have hl1 := fx.1
  have hm1 := fy.1
  have HI := Lib.hid (samesC_iff x y)
  clear hx hy fx fy
  by_cases hn : x.length = y.length
  · have q2 : ((x.length : Int) != (y.length : Int)) = false := by simp; omega
    have HN := Lib.hid hn
    clear hn
    go_enter Try.func32, Try.ntmps32
    go_wp2_with fail
    go_loopw [17] (fun iv wr => ∃ i : Nat, i ≤ x.length ∧ iv = .int .i64 (i : Nat) ∧ Hid (Below w.heap.size w wr) ∧ Hid (∀ j p q, j < i → x[j]? = some p → y[j]? = some q → sameC p q)) (fun iv _ => x.length - (intOf iv).toNat)
    case atStart => exact ⟨0, by omega, rfl, Lib.hid (Below.refl _ w), Lib.hid fun j p q h => by omega⟩
    case round =>
      obtain ⟨i, hi, rfl, HW, HE⟩ := hrel
      by_cases hlt : i < x.length
      · have r1 : decide ((i : Int) < (x.length : Int)) = true := decide_eq_true (by omega)
        have hlt2 : i < y.length := by have := HN.out; omega
        have HXI := Lib.hid (List.getElem?_eq_getElem hlt)
        have HYI := Lib.hid (List.getElem?_eq_getElem hlt2)
        have hfp := HFX.out _ (List.getElem_mem hlt)
        have hfq := HFY.out _ (List.getElem_mem hlt2)
        obtain ⟨b1, o1, v1, rfl, p0, p1, X1⟩ := cmds_at (SlI.below cmd_ok HX.out HW.out) hlt
        obtain ⟨b2, o2, v2, rfl, u0, u1, Y1⟩ := cmds_at (SlI.below cmd_ok HY.out HW.out) hlt2
        obtain ⟨A1, k1, rfl, _⟩ := X1.form
        obtain ⟨B1, k2, rfl, _⟩ := Y1.form
        have i1 : (i : Int) < (x.length : Int) := by omega
        have i2 : (i : Int) < (y.length : Int) := by omega
        generalize x[i] = p at *
        generalize y[i] = q at *
        have hb2 : Below wr.heap.size wr ((wr.alloc (.cells #[.int .i64 (p).at_, .slice A1 p.words.length k1] 39)).alloc (.cells #[.int .i64 (q).at_, .slice B1 q.words.length k2] 39)) := ((Below.refl _ wr).alloc (Nat.le_refl _) _).alloc (by simp) _
        have HS := Lib.hid (sameCommand_is p q (SlI.below wrd_ok X1 hb2) (SlI.below wrd_ok Y1 hb2) hfp hfq)
        have HW2 := Lib.hid (HW.out.trans (hb2.mono HW.out.size))
        have HBK := Lib.hid (show ∀ k (u : Value), wr.cell? ⟨b2, k, none⟩ = some u → (wr.alloc (.cells #[.int .i64 (p).at_, .slice A1 p.words.length k1] 39)).cell? ⟨b2, k, none⟩ = some u from fun k u h => (World.cell?_alloc_lt wr _ _ (World.block_lt_of_cell? wr _ h)).trans h)
        have e0 := HBK.out _ _ u0
        have e1 := HBK.out _ _ u1
        clear X1 Y1 hfp hfq hb2 HBK
        go_wp2_with fail
        refine HS.out.mono ?_
        rintro e w5 ⟨⟨rb, rfl, hrb⟩, hb5⟩
        have HRB := Lib.hid hrb
        have HW5 := Lib.hid (HW2.out.trans (hb5.mono HW2.out.size))
        clear hrb hb5 HS HW2
        cases rb with
        | true =>
          go_wp2_with fail
          go_roundw
          case rel =>
            refine ⟨i + 1, by omega, by go_num, HW5, Lib.hid fun j p' q' hj hp hq => ?_⟩
            rcases Nat.lt_or_ge j i with h | h
            · exact HE.out j p' q' h hp hq
            · have e : j = i := by omega
              rw [e] at hp hq
              rw [HXI.out] at hp
              rw [HYI.out] at hq
              injection hp with hp
              injection hq with hq
              rw [← hp, ← hq]
              exact HRB.out.1 trivial
          case measure => simp [intOf]; omega
        | false =>
          have HSF : Hid (false = true ↔ samesC x y) := Lib.hid ⟨fun h => by simp at h, fun h => by
            exfalso
            have h2 := HRB.out.2 ((HI.out.1 h).2 i p q HXI.out HYI.out)
            simp at h2⟩
          go_wp2_with fail
          go_ret
          exact ⟨⟨false, rfl, HSF.out⟩, HW5.out⟩
      · have r1 : decide ((i : Int) < (x.length : Int)) = false := decide_eq_false (by omega)
        have r1n : decide (i < x.length) = false := decide_eq_false hlt
        have HSF : Hid (true = true ↔ samesC x y) := Lib.hid ⟨fun _ => HI.out.2 ⟨HN.out, fun j p q hp hq => HE.out j p q (by have := (List.getElem?_eq_some_iff.1 hp).1; omega) hp hq⟩, fun _ => rfl⟩
        clear hlt
        go_wp2_with fail
        go_ret
        exact ⟨⟨true, rfl, by simpa using HSF.out⟩, HW.out⟩
  · have q2 : ((x.length : Int) != (y.length : Int)) = true := by simp; omega
    have HSF : Hid (false = true ↔ samesC x y) := Lib.hid ⟨fun h => by simp at h, fun h => absurd (HI.out.1 h).1 hn⟩
    clear hn
    go_enter Try.func32, Try.ntmps32
    go_wp2_with fail
    go_ret
    exact ⟨⟨false, rfl, HSF.out⟩, Below.refl _ w⟩

set_option maxRecDepth 100000 in
set_option maxHeartbeats 2000000 in
theorem Same_is {S T : Nat → Prop} {w : World} (l m : List Cmd) {va vb : Value} (hx : Cmds S w va l) (hy : Cmds T w vb m) (fl : fitC l) (fm : fitC m) : Calls Try.prog 19 #[va, vb] w (Asks w (samesC l m)) := by
  have HC := Lib.hid (EqualC_is l m hx hy fl fm)
  obtain ⟨A, ca, rfl, hca⟩ := hx.form
  obtain ⟨B, cb, rfl, hcb⟩ := hy.form
  clear hx hy fl fm
  go_enter Try.func19, Try.ntmps19
  go_wp2_with fail
  refine HC.out.mono ?_
  rintro e w1 ⟨⟨r, rfl, hr⟩, hb2⟩
  have HR := Lib.hid hr
  have HB2 := Lib.hid hb2
  clear hr hb2
  go_wp2_with fail
  go_ret
  exact ⟨⟨r, rfl, HR.out⟩, HB2.out⟩
end Go.Proofs.Ytphmhglebeapaaa
