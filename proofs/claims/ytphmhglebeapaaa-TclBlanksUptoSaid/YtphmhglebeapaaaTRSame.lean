/-
  The document's Same.
  Conditions: bytes; at most 1048576000 of anything.
-/
import Derived.Test.YtphmhglebeapaaaTclMem
import Derived.Test.YtphmhglebeapaaaTclLs
import Derived.Test.YtphmhglebeapaaaQEsc
import Derived.Test.YtphmhglebeapaaaRet
import Derived.StillTailTactics
import Derived.Deep.QuietTactic
import Derived.BigQuiet
import Derived.Laws.StructEq
namespace Go.Proofs.Ytphmhglebeapaaa
open Go.RowKit

/-- What asks whether p holds. -/
def Asks (w : World) (p : Prop) (e : Ending) (w' : World) : Prop := (∃ r : Bool, e = .returned (.bool r) ∧ (r = true ↔ p)) ∧ Below w.heap.size w w'
/-- All bytes. -/
def bytesC (c : Cmd) : Prop := ∀ x ∈ c.words, bytesW x
theorem drewN_b (W : World) (n : Nat) : Below W.heap.size W (W.drewN n) := ⟨rfl, rfl, rfl, Nat.le_refl _, fun _ _ => rfl⟩
theorem parts_at {W : World} {S : Nat → Prop} {A : Option Addr} {n c k : Nat} {l : List Prt} (h : Prts S W (.slice A n c) l) (hk : k < l.length) : ∃ b o, A = some ⟨b, o, none⟩ ∧ W.cell? ⟨b, o + k * 2, none⟩ = some (.bool (l[k]).var) ∧ W.cell? ⟨b, o + k * 2 + 1, none⟩ = some (.string (str (l[k]).s)) := by
  obtain ⟨b, o, e, _, h1, h2⟩ := SlI.at_ h (List.getElem?_eq_getElem hk)
  exact ⟨b, o, e, h1, h2⟩

set_option maxRecDepth 100000 in
set_option maxHeartbeats 2000000 in
theorem part_neq (pv qv : Bool) {s t : List Nat} (hs : ∀ c ∈ s, c < 256) (ht : ∀ c ∈ t, c < 256) (W : World) : (binOp .neq 47 (.agg #[.bool pv, .string (str s)]) (.agg #[.bool qv, .string (str t)])).run Try.prog W = .ok (.bool (!decide (pv = qv ∧ s = t))) W := by
  rw [run_neq_struct]
  rw [run_equalIn_agg W 9999 47 _ _ (by kernel_rfl) (by kernel_rfl)]
  go_simp
  have hb : ((str s).toList = (str t).toList) ↔ s = t := by
    have := str_beq hs ht
    rw [Bool.eq_iff_iff] at this
    simpa using this
  by_cases h1 : pv = qv
  · by_cases h2 : s = t
    · rw [if_pos h1, if_pos (hb.2 h2)]; simp [h1, h2]
    · rw [if_pos h1, if_neg (fun e => h2 (hb.1 e))]; simp [h1, h2]
  · rw [if_neg h1]; simp [h1]
set_option maxRecDepth 100000 in
set_option maxHeartbeats 2000000 in
theorem RsameWord_is {S T : Nat → Prop} {w : World} (x y : Wrd) {va vb : Value} (hx : Prts S w va x.parts) (hy : Prts T w vb y.parts) (bx : bytesW x) (by_ : bytesW y) (hnx : x.parts.length ≤ 1048576000) :
    Calls Try.prog 26 #[.agg #[.int .i64 x.at_, .int .i64 x.kind, va], .agg #[.int .i64 y.at_, .int .i64 y.kind, vb]] w (Asks w (sameW x y)) := by
  obtain ⟨A, ca, rfl, hca⟩ := hx.form
  obtain ⟨B, cb, rfl, hcb⟩ := hy.form
  have HX := Lib.hid hx
  have HY := Lib.hid hy
  have HBX := Lib.hid bx
  have HBY := Lib.hid by_
  clear hx hy bx by_
  by_cases hk : x.kind = y.kind
  · have q1 : (x.kind != y.kind) = false := by simp [hk]
    have HK := Lib.hid hk
    clear hk
    by_cases hn : x.parts.length = y.parts.length
    · have q2 : ((x.parts.length : Int) != (y.parts.length : Int)) = false := by simp; omega
      have HN := Lib.hid hn
      clear hn
      go_enter Try.func26, Try.ntmps26
      go_wp2_with fail
      go_loopw [5] (fun iv wr => ∃ i : Nat, i ≤ x.parts.length ∧ iv = .int .i64 (i : Nat) ∧ Hid (Below w.heap.size w wr ∧ Blk wr w.heap.size 44 #[.int .i64 x.at_, .int .i64 x.kind, .slice A x.parts.length ca] ∧ Blk wr (w.heap.size + 1) 44 #[.int .i64 y.at_, .int .i64 y.kind, .slice B y.parts.length cb]) ∧ Hid (∀ j, j < i → x.parts[j]? = y.parts[j]?)) (fun iv _ => x.parts.length - (intOf iv).toNat)
      case atStart =>
        have hb1 : Below w.heap.size w (w.alloc (.cells #[.int .i64 x.at_, .int .i64 x.kind, .slice A x.parts.length ca] 44)) := (Below.refl _ w).alloc (Nat.le_refl _) _
        have hbk := Blk.new (w.alloc (.cells #[.int .i64 x.at_, .int .i64 x.kind, .slice A x.parts.length ca] 44)) 44 #[.int .i64 y.at_, .int .i64 y.kind, .slice B y.parts.length cb]
        exact ⟨0, by omega, rfl, Lib.hid ⟨hb1.alloc hb1.size _, (Blk.new w _ _).alloc _, by simpa using hbk⟩, Lib.hid fun j h => by omega⟩
      case round =>
        obtain ⟨i, hi, rfl, HW, HE⟩ := hrel
        have s2 := HW.out.2.1.cell 2
        have t2 := HW.out.2.2.cell 2
        simp at s2 t2
        by_cases hlt : i < x.parts.length
        · have r1 : decide ((i : Int) < (x.parts.length : Int)) = true := decide_eq_true (by omega)
          have hlt2 : i < y.parts.length := by have := HN.out; omega
          obtain ⟨bx, ox, rfl, xv, xs⟩ := parts_at (SlI.below prt_ok HX.out HW.out.1) hlt
          obtain ⟨b2, o2, rfl, yv, ys⟩ := parts_at (SlI.below prt_ok HY.out HW.out.1) hlt2
          have HXI := Lib.hid (List.getElem?_eq_getElem hlt)
          have HYI := Lib.hid (List.getElem?_eq_getElem hlt2)
          have hxb := HBX.out _ (List.getElem_mem hlt)
          have hyb := HBY.out _ (List.getElem_mem hlt2)
          have i1 : (i : Int) < (x.parts.length : Int) := by omega
          have i2 : (i : Int) < (y.parts.length : Int) := by omega
          generalize x.parts[i] = p at *
          generalize y.parts[i] = q at *
          obtain ⟨pv, ps⟩ := p
          obtain ⟨qv, qs⟩ := q
          dsimp only at *
          obtain ⟨r, hr⟩ : ∃ r, r = decide (pv = qv ∧ ps = qs) := ⟨_, rfl⟩
          have hneq : ∀ W, (binOp .neq 47 (.agg #[.bool pv, .string (str ps)]) (.agg #[.bool qv, .string (str qs)])).run Try.prog W = .ok (.bool (!r)) W := fun W => by rw [hr]; exact part_neq pv qv hxb hyb W
          have HR := Lib.hid hr
          clear hxb hyb hr
          go_wp2_with fail
          go_quiet (fail)
          have HW2 := Lib.hid (And.intro (HW.out.1.trans ((drewN_b wr nq).mono HW.out.1.size)) (And.intro (HW.out.2.1.below (drewN_b wr nq) HW.out.2.1.lt) (HW.out.2.2.below (drewN_b wr nq) HW.out.2.2.lt)))
          generalize World.drewN wr _ = w2 at *
          clear hneq
          cases r with
          | true =>
            have HD := Lib.hid (of_decide_eq_true HR.out.symm)
            go_wp2_with fail
            go_roundw
            case rel =>
              refine ⟨i + 1, by omega, by go_num, HW2, Lib.hid fun j hj => ?_⟩
              rcases Nat.lt_or_ge j i with h | h
              · exact HE.out j h
              · have e : j = i := by omega
                rw [e, HXI.out, HYI.out, HD.out.1, HD.out.2]
            case measure => simp [intOf]; omega
          | false =>
            have HD := Lib.hid (of_decide_eq_false HR.out.symm)
            have HS : Hid (false = true ↔ sameW x y) := Lib.hid ⟨fun h => by simp at h, fun h => by
              exfalso
              have h1 := HXI.out
              rw [h.2, HYI.out] at h1
              injection h1 with h1
              injection h1 with h2 h3
              exact HD.out ⟨h2.symm, h3.symm⟩⟩
            go_wp2_with fail
            go_ret
            exact ⟨⟨false, rfl, HS.out⟩, HW2.out.1⟩
        · have r1 : decide ((i : Int) < (x.parts.length : Int)) = false := decide_eq_false (by omega)
          have r1n : decide (i < x.parts.length) = false := decide_eq_false hlt
          have HS : Hid (true = true ↔ sameW x y) := Lib.hid ⟨fun _ => ⟨HK.out, List.ext_getElem? fun j => by
            rcases Nat.lt_or_ge j i with h | h
            · exact HE.out j h
            · rw [List.getElem?_eq_none (by omega), List.getElem?_eq_none (by have := HN.out; omega)]⟩, fun _ => rfl⟩
          clear hlt
          go_wp2_with fail
          go_ret
          exact ⟨⟨true, rfl, by simpa using HS.out⟩, HW.out.1⟩
    · have q2 : ((x.parts.length : Int) != (y.parts.length : Int)) = true := by simp; omega
      have HS : Hid (false = true ↔ sameW x y) := Lib.hid ⟨fun h => by simp at h, fun h => absurd (by rw [h.2]) hn⟩
      clear hn
      go_enter Try.func26, Try.ntmps26
      go_wp2_with fail
      go_ret
      exact ⟨⟨false, rfl, HS.out⟩, (((Below.refl _ w).alloc (Nat.le_refl _) _).alloc (by simp) _)⟩
  · have q1 : (x.kind != y.kind) = true := by simp [hk]
    have HS : Hid (false = true ↔ sameW x y) := Lib.hid ⟨fun h => by simp at h, fun h => absurd h.1 hk⟩
    clear hk
    go_enter Try.func26, Try.ntmps26
    go_wp2_with fail
    go_ret
    exact ⟨⟨false, rfl, HS.out⟩, (((Below.refl _ w).alloc (Nat.le_refl _) _).alloc (by simp) _)⟩

theorem words_at {W : World} {S : Nat → Prop} {A : Option Addr} {n c k : Nat} {l : List Wrd} (h : Wrds S W (.slice A n c) l) (hk : k < l.length) : ∃ b o v, A = some ⟨b, o, none⟩ ∧ W.cell? ⟨b, o + k * 3, none⟩ = some (.int .i64 (l[k]).at_) ∧ W.cell? ⟨b, o + k * 3 + 1, none⟩ = some (.int .i64 (l[k]).kind) ∧ W.cell? ⟨b, o + k * 3 + 2, none⟩ = some v ∧ Prts S W v (l[k]).parts := by
  obtain ⟨b, o, e, _, h1, h2, v, h3, h4⟩ := SlI.at_ h (List.getElem?_eq_getElem hk)
  exact ⟨b, o, v, e, h1, h2, h3, h4⟩
theorem cmds_at {W : World} {S : Nat → Prop} {A : Option Addr} {n c k : Nat} {l : List Cmd} (h : Cmds S W (.slice A n c) l) (hk : k < l.length) : ∃ b o v, A = some ⟨b, o, none⟩ ∧ W.cell? ⟨b, o + k * 2, none⟩ = some (.int .i64 (l[k]).at_) ∧ W.cell? ⟨b, o + k * 2 + 1, none⟩ = some v ∧ Wrds S W v (l[k]).words := by
  obtain ⟨b, o, e, _, h1, v, h3, h4⟩ := SlI.at_ h (List.getElem?_eq_getElem hk)
  exact ⟨b, o, v, e, h1, h3, h4⟩
/-- Lists whose things are the same in their order. -/
theorem samesW_iff : ∀ (l m : List Wrd), samesW l m ↔ l.length = m.length ∧ ∀ (j : Nat) (x y : Wrd), l[j]? = some x → m[j]? = some y → sameW x y
  | [], [] => by simp [samesW]
  | [], b :: m => by simp [samesW]
  | a :: l, [] => by simp [samesW]
  | a :: l, b :: m => by
    simp only [samesW, samesW_iff l m, List.length_cons]
    refine ⟨fun ⟨h1, h2, h3⟩ => ⟨by omega, fun j x y hx hy => ?_⟩, fun ⟨h1, h2⟩ => ⟨h2 0 a b rfl rfl, by omega, fun j x y hx hy => h2 (j + 1) x y (by simpa using hx) (by simpa using hy)⟩⟩
    cases j with
    | zero => simp at hx hy; subst hx hy; exact h1
    | succ j => exact h3 j x y (by simpa using hx) (by simpa using hy)
theorem samesC_iff : ∀ (l m : List Cmd), samesC l m ↔ l.length = m.length ∧ ∀ (j : Nat) (x y : Cmd), l[j]? = some x → m[j]? = some y → sameC x y
  | [], [] => by simp [samesC]
  | [], b :: m => by simp [samesC]
  | a :: l, [] => by simp [samesC]
  | a :: l, b :: m => by
    simp only [samesC, samesC_iff l m, List.length_cons]
    refine ⟨fun ⟨h1, h2, h3⟩ => ⟨by omega, fun j x y hx hy => ?_⟩, fun ⟨h1, h2⟩ => ⟨h2 0 a b rfl rfl, by omega, fun j x y hx hy => h2 (j + 1) x y (by simpa using hx) (by simpa using hy)⟩⟩
    cases j with
    | zero => simp at hx hy; subst hx hy; exact h1
    | succ j => exact h3 j x y (by simpa using hx) (by simpa using hy)
/-- Lists that are no longer than may be looked at, and all bytes. -/
def fitC (l : List Cmd) : Prop := l.length ≤ 1048576000 ∧ ∀ c ∈ l, c.words.length ≤ 1048576000 ∧ ∀ x ∈ c.words, x.parts.length ≤ 1048576000 ∧ bytesW x

set_option maxRecDepth 100000 in
set_option maxHeartbeats 4000000 in
theorem RSame_is {S T : Nat → Prop} {w : World} (l m : List Cmd) {va vb : Value} (hx : Cmds S w va l) (hy : Cmds T w vb m) (fl : fitC l) (fm : fitC m) :
    Calls Try.prog 14 #[va, vb] w (Asks w (samesC l m)) := by
  obtain ⟨A, ca, rfl, hca⟩ := hx.form
  obtain ⟨B, cb, rfl, hcb⟩ := hy.form
  have HX := Lib.hid hx
  have HY := Lib.hid hy
  have HFL := Lib.hid fl
  have HFM := Lib.hid fm
  have hl1 := fl.1
  have hm1 := fm.1
  have HI := Lib.hid (samesC_iff l m)
  clear hx hy fl fm
  by_cases hn : l.length = m.length
  · have q2 : ((l.length : Int) != (m.length : Int)) = false := by simp; omega
    have HN := Lib.hid hn
    clear hn
    go_enter Try.func14, Try.ntmps14
    go_wp2_with fail
    go_loopw [5] (fun iv wr => ∃ i : Nat, i ≤ l.length ∧ iv = .int .i64 (i : Nat) ∧ Hid (Below w.heap.size w wr) ∧ Hid (∀ j x y, j < i → l[j]? = some x → m[j]? = some y → sameC x y)) (fun iv _ => l.length - (intOf iv).toNat)
    case atStart => exact ⟨0, by omega, rfl, Lib.hid (Below.refl _ w), Lib.hid fun j x y h => by omega⟩
    case round =>
      obtain ⟨i, hi, rfl, HW, HE⟩ := hrel
      by_cases hlt : i < l.length
      · have r1 : decide ((i : Int) < (l.length : Int)) = true := decide_eq_true (by omega)
        have hlt2 : i < m.length := by have := HN.out; omega
        have HXI := Lib.hid (List.getElem?_eq_getElem hlt)
        have HYI := Lib.hid (List.getElem?_eq_getElem hlt2)
        have hfx := HFL.out.2 _ (List.getElem_mem hlt)
        have hfy := HFM.out.2 _ (List.getElem_mem hlt2)
        obtain ⟨b1, o1, v1, rfl, _, x1, X1⟩ := cmds_at (SlI.below cmd_ok HX.out HW.out) hlt
        obtain ⟨b2, o2, v2, rfl, _, y1, Y1⟩ := cmds_at (SlI.below cmd_ok HY.out HW.out) hlt2
        obtain ⟨A1, k1, rfl, _⟩ := X1.form
        obtain ⟨B1, k2, rfl, _⟩ := Y1.form
        have i1 : (i : Int) < (l.length : Int) := by omega
        have i2 : (i : Int) < (m.length : Int) := by omega
        generalize l[i] = x at *
        generalize m[i] = y at *
        have HX1 := Lib.hid X1
        have HY1 := Lib.hid Y1
        have HFX := Lib.hid hfx
        have HFY := Lib.hid hfy
        have hx1 := hfx.1
        have hy1 := hfy.1
        have HJ := Lib.hid (samesW_iff x.words y.words)
        clear X1 Y1 hfx hfy
        by_cases hnw : x.words.length = y.words.length
        · have q3 : ((x.words.length : Int) != (y.words.length : Int)) = false := by simp; omega
          have HNW := Lib.hid hnw
          clear hnw
          go_wp2_with fail
          go_quiet (fail)
          have HW2 := Lib.hid (HW.out.trans ((drewN_b wr nq).mono HW.out.size))
          have HC1 : Hid ((wr.drewN nq).cell? ⟨b1, o1 + i * 2 + 1, none⟩ = some (.slice A1 x.words.length k1)) := Lib.hid x1
          have HC2 : Hid ((wr.drewN nq).cell? ⟨b2, o2 + i * 2 + 1, none⟩ = some (.slice B1 y.words.length k2)) := Lib.hid y1
          have HX2 := Lib.hid (SlI.below wrd_ok HX1.out (drewN_b wr nq))
          have HY2 := Lib.hid (SlI.below wrd_ok HY1.out (drewN_b wr nq))
          clear x1 y1 HW HX1 HY1
          generalize World.drewN wr _ = w2 at *
          have x1 := HC1.out
          have y1 := HC2.out
          go_wp2_with fail
          go_loopw [6] (fun kv wi => ∃ k : Nat, k ≤ x.words.length ∧ kv = .int .i64 (k : Nat) ∧ Hid (Below w.heap.size w wi ∧ Below w2.heap.size w2 wi) ∧ Hid (∀ j p q, j < k → x.words[j]? = some p → y.words[j]? = some q → sameW p q)) (fun kv _ => x.words.length - (intOf kv).toNat)
          case atStart => exact ⟨0, by omega, rfl, Lib.hid ⟨HW2.out, Below.refl _ w2⟩, Lib.hid fun j p q h => by omega⟩
          case round =>
            obtain ⟨k, hk, rfl, HWI, HEK⟩ := hrel
            have x2 := (HWI.out.2.cell (p := ⟨b1, o1 + i * 2 + 1, none⟩) (World.block_lt_of_cell? _ _ HC1.out)).trans HC1.out
            have y2 := (HWI.out.2.cell (p := ⟨b2, o2 + i * 2 + 1, none⟩) (World.block_lt_of_cell? _ _ HC2.out)).trans HC2.out
            by_cases hkt : k < x.words.length
            · have r2 : decide ((k : Int) < (x.words.length : Int)) = true := decide_eq_true (by omega)
              have r2n : decide (k < x.words.length) = true := decide_eq_true hkt
              have hkt2 : k < y.words.length := by have := HNW.out; omega
              have HPI := Lib.hid (List.getElem?_eq_getElem hkt)
              have HQI := Lib.hid (List.getElem?_eq_getElem hkt2)
              have hfp := HFX.out.2 _ (List.getElem_mem hkt)
              have hfq := HFY.out.2 _ (List.getElem_mem hkt2)
              obtain ⟨b3, o3, v3, e3, p0, p1, p2, P3⟩ := words_at (SlI.below wrd_ok HX2.out HWI.out.2) hkt
              obtain ⟨b4, o4, v4, e4, u0, u1, u2, Q3⟩ := words_at (SlI.below wrd_ok HY2.out HWI.out.2) hkt2
              subst e3 e4
              have i3 : (k : Int) < (x.words.length : Int) := by omega
              have i4 : (k : Int) < (y.words.length : Int) := by omega
              generalize x.words[k] = p at *
              generalize y.words[k] = q at *
              have HSW := Lib.hid (RsameWord_is (w := wr.drew) p q (SlI.below prt_ok P3 (show Below wr.heap.size wr wr.drew from ⟨rfl, rfl, rfl, Nat.le_refl _, fun _ _ => rfl⟩)) (SlI.below prt_ok Q3 (show Below wr.heap.size wr wr.drew from ⟨rfl, rfl, rfl, Nat.le_refl _, fun _ _ => rfl⟩)) hfp.2 hfq.2 hfp.1)
              clear P3 Q3 hfp hfq
              go_wp2_with fail
              go_still_tail 16, (by kernel_rfl)
              change wpList _ _ _ _ _ wr.drew
              have HWD : Hid (Below w.heap.size w wr.drew ∧ Below w2.heap.size w2 wr.drew) := Lib.hid ⟨HWI.out.1.trans (show Below w.heap.size wr wr.drew from ⟨rfl, rfl, rfl, Nat.le_refl _, fun _ _ => rfl⟩), HWI.out.2.trans (show Below w2.heap.size wr wr.drew from ⟨rfl, rfl, rfl, Nat.le_refl _, fun _ _ => rfl⟩)⟩
              clear HWI p0 p1 p2 u0 u1 u2 x2 y2
              generalize wr.drew = wd at *
              go_wp2_with fail
              refine HSW.out.mono ?_
              rintro r w5 ⟨⟨rb, rfl, hrb⟩, hb5⟩
              have HRB := Lib.hid hrb
              have HW5 : Hid (Below w.heap.size w w5 ∧ Below w2.heap.size w2 w5) := Lib.hid ⟨HWD.out.1.trans (hb5.mono HWD.out.1.size), HWD.out.2.trans (hb5.mono HWD.out.2.size)⟩
              clear hrb hb5 HSW HWD
              cases rb with
              | true =>
                go_wp2_with fail
                go_roundw
                case rel =>
                  refine ⟨k + 1, by omega, by go_num, HW5, Lib.hid fun j p' q' hj hp hq => ?_⟩
                  rcases Nat.lt_or_ge j k with h | h
                  · exact HEK.out j p' q' h hp hq
                  · have e : j = k := by omega
                    rw [e] at hp hq
                    rw [HPI.out] at hp
                    rw [HQI.out] at hq
                    injection hp with hp
                    injection hq with hq
                    rw [← hp, ← hq]
                    exact HRB.out.1 trivial
                case measure => simp [intOf]; omega
              | false =>
                have HS : Hid (false = true ↔ samesC l m) := Lib.hid ⟨fun h => by simp at h, fun h => by
                  exfalso
                  have h1 := (HJ.out.1 ((HI.out.1 h).2 i x y HXI.out HYI.out)).2 k p q HPI.out HQI.out
                  have h2 := HRB.out.2 h1
                  simp at h2⟩
                go_wp2_with fail
                go_ret
                exact ⟨⟨false, rfl, HS.out⟩, HW5.out.1⟩
            · have r2 : decide ((k : Int) < (x.words.length : Int)) = false := decide_eq_false (by omega)
              have r2n : decide (k < x.words.length) = false := decide_eq_false hkt
              have HSX : Hid (sameC x y) := Lib.hid (HJ.out.2 ⟨HNW.out, fun j p q hp hq => HEK.out j p q (by have := (List.getElem?_eq_some_iff.1 hp).1; omega) hp hq⟩)
              clear hkt
              go_wp2_with fail
              go_roundw
              case rel =>
                refine ⟨i + 1, by omega, by go_num, Lib.hid HWI.out.1, Lib.hid fun j x' y' hj hx hy => ?_⟩
                rcases Nat.lt_or_ge j i with h | h
                · exact HE.out j x' y' h hx hy
                · have e : j = i := by omega
                  rw [e] at hx hy
                  rw [HXI.out] at hx
                  rw [HYI.out] at hy
                  injection hx with hx
                  injection hy with hy
                  rw [← hx, ← hy]
                  exact HSX.out
              case measure => simp [intOf]; omega
        · have q3 : ((x.words.length : Int) != (y.words.length : Int)) = true := by simp; omega
          have HS : Hid (false = true ↔ samesC l m) := Lib.hid ⟨fun h => by simp at h, fun h => absurd ((HJ.out.1 ((HI.out.1 h).2 i x y HXI.out HYI.out)).1) hnw⟩
          clear hnw
          go_wp2_with fail
          go_quiet (fail)
          have HW2 := Lib.hid (HW.out.trans ((drewN_b wr nq).mono HW.out.size))
          generalize World.drewN wr _ = w2 at *
          go_wp2_with fail
          go_ret
          exact ⟨⟨false, rfl, HS.out⟩, HW2.out⟩
      · have r1 : decide ((i : Int) < (l.length : Int)) = false := decide_eq_false (by omega)
        have r1n : decide (i < l.length) = false := decide_eq_false hlt
        have HS : Hid (true = true ↔ samesC l m) := Lib.hid ⟨fun _ => HI.out.2 ⟨HN.out, fun j x y hx hy => HE.out j x y (by have := (List.getElem?_eq_some_iff.1 hx).1; omega) hx hy⟩, fun _ => rfl⟩
        clear hlt
        go_wp2_with fail
        go_ret
        exact ⟨⟨true, rfl, by simpa using HS.out⟩, HW.out⟩
  · have q2 : ((l.length : Int) != (m.length : Int)) = true := by simp; omega
    have HS : Hid (false = true ↔ samesC l m) := Lib.hid ⟨fun h => by simp at h, fun h => absurd (HI.out.1 h).1 hn⟩
    clear hn
    go_enter Try.func14, Try.ntmps14
    go_wp2_with fail
    go_ret
    exact ⟨⟨false, rfl, HS.out⟩, Below.refl _ w⟩
end Go.Proofs.Ytphmhglebeapaaa
