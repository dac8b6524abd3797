/-
  The laws' great and places.
  Conditions: those of each theorem.
-/
import Derived.Test.YtphmhglebeapaaaTRSame
namespace Go.Proofs.Ytphmhglebeapaaa
open Go.RowKit

def countP : List Prt → Nat
  | [] => 0
  | p :: ps => p.s.length + countP ps
def countW : List Wrd → Nat
  | [] => 0
  | x :: ws => x.parts.length + countP x.parts + countW ws
def countC : List Cmd → Nat
  | [] => 0
  | c :: l => 1 + c.words.length + countW c.words + countC l
theorem countP_take : ∀ {ps : List Prt} {i : Nat} {p : Prt}, ps[i]? = some p → countP (ps.take (i + 1)) = countP (ps.take i) + p.s.length
  | [], i, p, h => by simp at h
  | a :: ps, 0, p, h => by simp at h; subst h; simp [countP]
  | a :: ps, i + 1, p, h => by
    have ih := countP_take (ps := ps) (i := i) (p := p) (by simpa using h)
    rw [List.take_succ_cons, countP, ih, List.take_succ_cons, countP]; omega
theorem countW_take : ∀ {ws : List Wrd} {i : Nat} {x : Wrd}, ws[i]? = some x → countW (ws.take (i + 1)) = countW (ws.take i) + (x.parts.length + countP x.parts)
  | [], i, p, h => by simp at h
  | a :: ps, 0, p, h => by simp at h; subst h; simp [countW]
  | a :: ps, i + 1, p, h => by
    have ih := countW_take (ws := ps) (i := i) (x := p) (by simpa using h)
    rw [List.take_succ_cons, countW, ih, List.take_succ_cons, countW]; omega
theorem countC_take : ∀ {l : List Cmd} {i : Nat} {c : Cmd}, l[i]? = some c → countC (l.take (i + 1)) = countC (l.take i) + (1 + c.words.length + countW c.words)
  | [], i, p, h => by simp at h
  | a :: ps, 0, p, h => by simp at h; subst h; simp [countC]
  | a :: ps, i + 1, p, h => by
    have ih := countC_take (l := ps) (i := i) (c := p) (by simpa using h)
    rw [List.take_succ_cons, countC, ih, List.take_succ_cons, countC]; omega
theorem countP_le : ∀ (ps : List Prt) (i : Nat), countP (ps.take i) ≤ countP ps
  | [], i => by simp
  | a :: ps, 0 => by simp [countP]
  | a :: ps, i + 1 => by rw [List.take_succ_cons, countP, countP]; have := countP_le ps i; omega
theorem countW_le : ∀ (ps : List Wrd) (i : Nat), countW (ps.take i) ≤ countW ps
  | [], i => by simp
  | a :: ps, 0 => by simp [countW]
  | a :: ps, i + 1 => by rw [List.take_succ_cons, countW, countW]; have := countW_le ps i; omega
theorem countC_le : ∀ (ps : List Cmd) (i : Nat), countC (ps.take i) ≤ countC ps
  | [], i => by simp
  | a :: ps, 0 => by simp [countC]
  | a :: ps, i + 1 => by rw [List.take_succ_cons, countC, countC]; have := countC_le ps i; omega

theorem countC_len : ∀ (l : List Cmd), l.length ≤ countC l
  | [] => by simp
  | a :: l => by rw [List.length_cons, countC]; have := countC_len l; omega

set_option maxRecDepth 100000 in
set_option maxHeartbeats 4000000 in
theorem great_is {S : Nat → Prop} {w : World} (l : List Cmd) {v : Value} (hx : Cmds S w v l) (hn : countC l ≤ 4611686018427387904) :
    Calls Try.prog 16 #[v] w fun e w' => e = .returned (.bool (decide (4000 < countC l))) ∧ Below w.heap.size w w' := by
  obtain ⟨A, ca, rfl, hca⟩ := hx.form
  have HX := Lib.hid hx
  have HTK := Lib.hid (fun (i : Nat) (c : Cmd) (h : l[i]? = some c) => countC_take h)
  have HLE := Lib.hid (countC_le l)
  have HN := Lib.hid hn
  have hl1 : l.length ≤ 4611686018427387904 := by have := countC_len l; omega
  clear hx hn
  go_enter Try.func16, Try.ntmps16
  go_wp2_with fail
  go_loopw [3, 12] (fun nv iv wr => ∃ i : Nat, i ≤ l.length ∧ iv = .int .i64 (i : Nat) ∧ nv = .int .i64 (countC (l.take i) : Nat) ∧ Hid (Below w.heap.size w wr)) (fun _ iv _ => l.length - (intOf iv).toNat)
  case atStart => exact ⟨0, by omega, rfl, rfl, Lib.hid (Below.refl _ w)⟩
  case round =>
    obtain ⟨i, hi, rfl, rfl, HW⟩ := hrel
    by_cases hlt : i < l.length
    · have r1 : decide ((i : Int) < (l.length : Int)) = true := decide_eq_true (by omega)
      have r1n : decide (i < l.length) = true := decide_eq_true hlt
      have i1 : (i : Int) < (l.length : Int) := by omega
      have HXI := Lib.hid (List.getElem?_eq_getElem hlt)
      obtain ⟨b1, o1, v1, rfl, _, x0, x1, X1⟩ := (fun h => by obtain ⟨b, o, v, e, h0, h1, h2⟩ := cmds_at h hlt; exact ⟨b, o, v, e, trivial, h0, h1, h2⟩ : ∀ h : Cmds S wr (.slice A l.length ca) l, ∃ b o v, A = some ⟨b, o, none⟩ ∧ True ∧ wr.cell? ⟨b, o + i * 2, none⟩ = some (.int .i64 (l[i]).at_) ∧ wr.cell? ⟨b, o + i * 2 + 1, none⟩ = some v ∧ Wrds S wr v (l[i]).words) (SlI.below cmd_ok HX.out HW.out)
      obtain ⟨A1, k1, rfl, _⟩ := X1.form
      generalize l[i] = x at *
      have HT := Lib.hid (HTK.out i x HXI.out)
      have hb2 : countC (l.take (i + 1)) ≤ 4611686018427387904 := by have := HLE.out (i + 1); have := HN.out; omega
      obtain ⟨N, hN⟩ : ∃ N, N = countC (l.take i) := ⟨_, rfl⟩
      rw [← hN] at HT ⊢
      have hbn : N + (1 + x.words.length + countW x.words) ≤ 4611686018427387904 := by have := HT.out; omega
      clear hN hb2
      go_upto_region 5 with (fail)
      have hb5 : Below wr.heap.size wr (wr.alloc (.cells #[.int .i64 x.at_, .slice A1 x.words.length k1] 39)) := (Below.refl _ wr).alloc (Nat.le_refl _) _
      have HC5 := Lib.hid (Blk.new wr 39 #[.int .i64 x.at_, .slice A1 x.words.length k1])
      have HW5 := Lib.hid (HW.out.trans (hb5.mono HW.out.size))
      have HX5 := Lib.hid (SlI.below wrd_ok X1 hb5)
      clear hb5 HW X1 x0 x1
      generalize wr.alloc _ = w5 at *
      generalize wr.heap.size = z5 at *
      have c0 := HC5.out.cell 0
      have c1 := HC5.out.cell 1
      simp at c0 c1
      go_wp2_with fail
      go_loopw [3, 25] (fun nv kv wi => ∃ k : Nat, k ≤ x.words.length ∧ kv = .int .i64 (k : Nat) ∧ nv = .int .i64 ((N + (1 + x.words.length + countW (x.words.take k)) : Nat) : Int) ∧ Hid (Below w.heap.size w wi ∧ Below w5.heap.size w5 wi)) (fun _ kv _ => x.words.length - (intOf kv).toNat)
      case atStart => exact ⟨0, by omega, rfl, by simp [countW], Lib.hid ⟨HW5.out, Below.refl _ w5⟩⟩
      case round =>
        obtain ⟨k, hk, rfl, rfl, HWI⟩ := hrel
        by_cases hkt : k < x.words.length
        · have r2 : decide ((k : Int) < (x.words.length : Int)) = true := decide_eq_true (by omega)
          have r2n : decide (k < x.words.length) = true := decide_eq_true hkt
          have i2 : (k : Int) < (x.words.length : Int) := by omega
          have HPI := Lib.hid (List.getElem?_eq_getElem hkt)
          obtain ⟨b3, o3, v3, e3, p0, p1, p2, P3⟩ := words_at (SlI.below wrd_ok HX5.out HWI.out.2) hkt
          subst e3
          obtain ⟨A3, k3, rfl, _⟩ := P3.form
          have HTT := Lib.hid (countW_take HPI.out)
          have hle := countW_le x.words (k + 1)
          generalize x.words[k] = p at *
          obtain ⟨M, hM⟩ : ∃ M, M = N + (1 + x.words.length + countW (x.words.take k)) := ⟨_, rfl⟩
          rw [← hM]
          have HM := Lib.hid hM
          have hbm : M + (p.parts.length + countP p.parts) ≤ 4611686018427387904 := by have := HTT.out; omega
          clear hM hle
          go_upto_region 9 with (fail)
          have hb6 : Below wr.heap.size wr (wr.alloc (.cells #[.int .i64 p.at_, .int .i64 p.kind, .slice A3 p.parts.length k3] 44)) := (Below.refl _ wr).alloc (Nat.le_refl _) _
          have HC6 := Lib.hid (Blk.new wr 44 #[.int .i64 p.at_, .int .i64 p.kind, .slice A3 p.parts.length k3])
          have HW6 : Hid (Below w.heap.size w _ ∧ Below w5.heap.size w5 _) := Lib.hid ⟨HWI.out.1.trans (hb6.mono HWI.out.1.size), HWI.out.2.trans (hb6.mono HWI.out.2.size)⟩
          have HX6 := Lib.hid (SlI.below prt_ok P3 hb6)
          clear hb6 HWI P3 p0 p1 p2
          generalize wr.alloc _ = w6 at *
          generalize wr.heap.size = z6 at *
          have c2 := HC6.out.cell 2
          simp at c2
          go_wp2_with fail
          go_loopw [3, 37] (fun nv jv wi => ∃ j : Nat, j ≤ p.parts.length ∧ jv = .int .i64 (j : Nat) ∧ nv = .int .i64 ((M + (p.parts.length + countP (p.parts.take j)) : Nat) : Int) ∧ Hid (Below w.heap.size w wi ∧ Below w5.heap.size w5 wi ∧ Below w6.heap.size w6 wi)) (fun _ jv _ => p.parts.length - (intOf jv).toNat)
          case atStart => exact ⟨0, by omega, rfl, by simp [countP], Lib.hid ⟨HW6.out.1, HW6.out.2, Below.refl _ w6⟩⟩
          case round =>
            obtain ⟨j, hj, rfl, rfl, HWJ⟩ := hrel
            by_cases hjt : j < p.parts.length
            · have r3 : decide ((j : Int) < (p.parts.length : Int)) = true := decide_eq_true (by omega)
              have r3n : decide (j < p.parts.length) = true := decide_eq_true hjt
              have i3 : (j : Int) < (p.parts.length : Int) := by omega
              have HQI := Lib.hid (List.getElem?_eq_getElem hjt)
              obtain ⟨b4, o4, e4, q0, q1⟩ := parts_at (SlI.below prt_ok HX6.out HWJ.out.2.2) hjt
              subst e4
              have HTP := Lib.hid (countP_take HQI.out)
              have hle := countP_le p.parts (j + 1)
              generalize p.parts[j] = t at *
              have hsz := str_len t.s
              obtain ⟨L, hL⟩ : ∃ L, L = M + (p.parts.length + countP (p.parts.take j)) := ⟨_, rfl⟩
              rw [← hL]
              have HL := Lib.hid hL
              have hbl : L + t.s.length ≤ 4611686018427387904 := by have := HTP.out; omega
              clear hL hle
              go_upto_region 13 with (fail)
              have hb7 : Below wr.heap.size wr (wr.alloc (.cells #[.bool t.var, .string (str t.s)] 47)) := (Below.refl _ wr).alloc (Nat.le_refl _) _
              have HC7 := Lib.hid (Blk.new wr 47 #[.bool t.var, .string (str t.s)])
              have HW7 : Hid (Below w.heap.size w _ ∧ Below w5.heap.size w5 _ ∧ Below w6.heap.size w6 _) := Lib.hid ⟨HWJ.out.1.trans (hb7.mono HWJ.out.1.size), HWJ.out.2.1.trans (hb7.mono HWJ.out.2.1.size), HWJ.out.2.2.trans (hb7.mono HWJ.out.2.2.size)⟩
              clear hb7 HWJ q0 q1
              generalize wr.alloc _ = w7 at *
              generalize wr.heap.size = z7 at *
              have c3 := HC7.out.cell 1
              simp at c3
              go_wp2_with fail
              go_roundw
              case rel => exact ⟨j + 1, by omega, by go_num, by rw [HTP.out]; have := HL.out; congr 1; omega, HW7⟩
              case measure => simp [intOf]; omega
            · have r3 : decide ((j : Int) < (p.parts.length : Int)) = false := decide_eq_false (by omega)
              have r3n : decide (j < p.parts.length) = false := decide_eq_false hjt
              have htk : p.parts.take j = p.parts := List.take_of_length_le (by omega)
              rw [htk]
              clear hjt htk
              go_wp2_with fail
              go_roundw
              case rel => exact ⟨k + 1, by omega, by go_num, by rw [HTT.out]; have := HM.out; congr 1; omega, Lib.hid ⟨HWJ.out.1, HWJ.out.2.1⟩⟩
              case measure => simp [intOf]; omega
        · have r2 : decide ((k : Int) < (x.words.length : Int)) = false := decide_eq_false (by omega)
          have r2n : decide (k < x.words.length) = false := decide_eq_false hkt
          have htk : x.words.take k = x.words := List.take_of_length_le (by omega)
          rw [htk]
          clear hkt htk
          go_wp2_with fail
          go_roundw
          case rel => exact ⟨i + 1, by omega, by go_num, by rw [HT.out], Lib.hid HWI.out.1⟩
          case measure => simp [intOf]; omega
    · have r1 : decide ((i : Int) < (l.length : Int)) = false := decide_eq_false (by omega)
      have r1n : decide (i < l.length) = false := decide_eq_false hlt
      have htk : l.take i = l := List.take_of_length_le (by omega)
      rw [htk]
      clear hlt htk
      obtain ⟨C, hC⟩ : ∃ C, C = countC l := ⟨_, rfl⟩
      rw [← hC]
      have HQ : Hid (decide ((4000 : Int) < (C : Int)) = decide (4000 < countC l)) := Lib.hid (by rw [Bool.eq_iff_iff]; simp; omega)
      clear hC
      go_wp2_with fail
      go_ret
      exact ⟨by rw [← HQ.out]; rfl, HW.out⟩
end Go.Proofs.Ytphmhglebeapaaa
namespace Go.Proofs.Ytphmhglebeapaaa
open Go.RowKit

def placesC (l m : List Cmd) : Prop := l.length = m.length ∧ ∀ (i : Nat) (x y : Cmd), l[i]? = some x → m[i]? = some y → x.at_ = y.at_ ∧ x.words.length = y.words.length ∧ ∀ (k : Nat) (p q : Wrd), x.words[k]? = some p → y.words[k]? = some q → p.at_ = q.at_

set_option maxRecDepth 100000 in
set_option maxHeartbeats 4000000 in
theorem places_is {S T : Nat → Prop} {w : World} (l m : List Cmd) {va vb : Value} (hx : Cmds S w va l) (hy : Cmds T w vb m) (fl : fitC l) (fm : fitC m) :
    Calls Try.prog 15 #[va, vb] w (Asks w (placesC l m)) := by
  obtain ⟨A, ca, rfl, hca⟩ := hx.form
  obtain ⟨B, cb, rfl, hcb⟩ := hy.form
  have HX := Lib.hid hx
  have HY := Lib.hid hy
  have HFL := Lib.hid fl
  have HFM := Lib.hid fm
  have hl1 := fl.1
  have hm1 := fm.1
  clear hx hy fl fm
  by_cases hn : l.length = m.length
  · have q2 : ((l.length : Int) != (m.length : Int)) = false := by simp; omega
    have HN := Lib.hid hn
    clear hn
    go_enter Try.func15, Try.ntmps15
    go_wp2_with fail
    go_loopw [14] (fun iv wr => ∃ i : Nat, i ≤ l.length ∧ iv = .int .i64 (i : Nat) ∧ Hid (Below w.heap.size w wr) ∧ Hid (∀ j x y, j < i → l[j]? = some x → m[j]? = some y → x.at_ = y.at_ ∧ x.words.length = y.words.length ∧ ∀ (k : Nat) (p q : Wrd), x.words[k]? = some p → y.words[k]? = some q → p.at_ = q.at_)) (fun iv _ => l.length - (intOf iv).toNat)
    case atStart => exact ⟨0, by omega, rfl, Lib.hid (Below.refl _ w), Lib.hid fun j x y h => by omega⟩
    case round =>
      obtain ⟨i, hi, rfl, HW, HE⟩ := hrel
      by_cases hlt : i < l.length
      · have r1 : decide ((i : Int) < (l.length : Int)) = true := decide_eq_true (by omega)
        have r1n : decide (i < l.length) = true := decide_eq_true hlt
        have hlt2 : i < m.length := by have := HN.out; omega
        have HXI := Lib.hid (List.getElem?_eq_getElem hlt)
        have HYI := Lib.hid (List.getElem?_eq_getElem hlt2)
        have hfx := HFL.out.2 _ (List.getElem_mem hlt)
        have hfy := HFM.out.2 _ (List.getElem_mem hlt2)
        obtain ⟨b1, o1, v1, rfl, x0, x1, X1⟩ := cmds_at (SlI.below cmd_ok HX.out HW.out) hlt
        obtain ⟨b2, o2, v2, rfl, y0, y1, Y1⟩ := cmds_at (SlI.below cmd_ok HY.out HW.out) hlt2
        obtain ⟨A1, k1, rfl, _⟩ := X1.form
        obtain ⟨B1, k2, rfl, _⟩ := Y1.form
        have i1 : (i : Int) < (l.length : Int) := by omega
        have i2 : (i : Int) < (m.length : Int) := by omega
        generalize l[i] = x at *
        generalize m[i] = y at *
        have HX1 := Lib.hid X1
        have HY1 := Lib.hid Y1
        have hx1 := hfx.1
        have hy1 := hfy.1
        have HC1 := Lib.hid x1
        have HC2 := Lib.hid y1
        clear X1 Y1 hfx hfy
        by_cases hat : x.at_ = y.at_
        · have q3 : (x.at_ != y.at_) = false := by simp [hat]
          have HAT := Lib.hid hat
          clear hat
          by_cases hnw : x.words.length = y.words.length
          · have q4 : ((x.words.length : Int) != (y.words.length : Int)) = false := by simp; omega
            have HNW := Lib.hid hnw
            clear hnw
            go_wp2_with fail
            go_quiet (fail)
            have HW2 := Lib.hid (HW.out.trans ((drewN_b wr nq).mono HW.out.size))
            have HC3 : Hid ((wr.drewN nq).cell? ⟨b1, o1 + i * 2 + 1, none⟩ = some (.slice A1 x.words.length k1)) := Lib.hid x1
            have HC4 : Hid ((wr.drewN nq).cell? ⟨b2, o2 + i * 2 + 1, none⟩ = some (.slice B1 y.words.length k2)) := Lib.hid y1
            have HX2 := Lib.hid (SlI.below wrd_ok HX1.out (drewN_b wr nq))
            have HY2 := Lib.hid (SlI.below wrd_ok HY1.out (drewN_b wr nq))
            clear x0 y0 x1 y1 HW HX1 HY1 HC1 HC2
            generalize World.drewN wr _ = w2 at *
            have x1 := HC3.out
            have y1 := HC4.out
            go_wp2_with fail
            go_loopw [49] (fun kv wi => ∃ k : Nat, k ≤ x.words.length ∧ kv = .int .i64 (k : Nat) ∧ Hid (Below w.heap.size w wi ∧ Below w2.heap.size w2 wi) ∧ Hid (∀ j p q, j < k → x.words[j]? = some p → y.words[j]? = some q → p.at_ = q.at_)) (fun kv _ => x.words.length - (intOf kv).toNat)
            case atStart => exact ⟨0, by omega, rfl, Lib.hid ⟨HW2.out, Below.refl _ w2⟩, Lib.hid fun j p q h => by omega⟩
            case round =>
              obtain ⟨k, hk, rfl, HWI, HEK⟩ := hrel
              have x2 := (HWI.out.2.cell (p := ⟨b1, o1 + i * 2 + 1, none⟩) (World.block_lt_of_cell? _ _ HC3.out)).trans HC3.out
              have y2 := (HWI.out.2.cell (p := ⟨b2, o2 + i * 2 + 1, none⟩) (World.block_lt_of_cell? _ _ HC4.out)).trans HC4.out
              by_cases hkt : k < x.words.length
              · have r2 : decide ((k : Int) < (x.words.length : Int)) = true := decide_eq_true (by omega)
                have r2n : decide (k < x.words.length) = true := decide_eq_true hkt
                have hkt2 : k < y.words.length := by have := HNW.out; omega
                have HPI := Lib.hid (List.getElem?_eq_getElem hkt)
                have HQI := Lib.hid (List.getElem?_eq_getElem hkt2)
                obtain ⟨b3, o3, v3, e3, p0, _, _, _⟩ := words_at (SlI.below wrd_ok HX2.out HWI.out.2) hkt
                obtain ⟨b4, o4, v4, e4, u0, _, _, _⟩ := words_at (SlI.below wrd_ok HY2.out HWI.out.2) hkt2
                subst e3 e4
                have i3 : (k : Int) < (x.words.length : Int) := by omega
                have i4 : (k : Int) < (y.words.length : Int) := by omega
                generalize x.words[k] = p at *
                generalize y.words[k] = q at *
                by_cases hpq : p.at_ = q.at_
                · have q5 : (p.at_ != q.at_) = false := by simp [hpq]
                  have HPQ := Lib.hid hpq
                  clear hpq
                  go_wp2_with fail
                  go_quiet (fail)
                  have HW5 : Hid (Below w.heap.size w (wr.drewN nq) ∧ Below w2.heap.size w2 (wr.drewN nq)) := Lib.hid ⟨HWI.out.1.trans ((drewN_b wr nq).mono HWI.out.1.size), HWI.out.2.trans ((drewN_b wr nq).mono HWI.out.2.size)⟩
                  clear HWI p0 u0 x2 y2
                  generalize World.drewN wr _ = w5 at *
                  go_wp2_with fail
                  go_roundw
                  case rel =>
                    refine ⟨k + 1, by omega, by go_num, HW5, Lib.hid fun j p' q' hj hp hq => ?_⟩
                    rcases Nat.lt_or_ge j k with h | h
                    · exact HEK.out j p' q' h hp hq
                    · have e : j = k := by omega
                      rw [e] at hp hq
                      rw [HPI.out] at hp
                      rw [HQI.out] at hq
                      injection hp with hp
                      injection hq with hq
                      rw [← hp, ← hq]
                      exact HPQ.out
                  case measure => simp [intOf]; omega
                · have q5 : (p.at_ != q.at_) = true := by simp [hpq]
                  have HS : Hid (false = true ↔ placesC l m) := Lib.hid ⟨fun h => by simp at h, fun h => absurd ((h.2 i x y HXI.out HYI.out).2.2 k p q HPI.out HQI.out) hpq⟩
                  clear hpq
                  go_wp2_with fail
                  go_quiet (fail)
                  have HW5 := Lib.hid (HWI.out.1.trans ((drewN_b wr nq).mono HWI.out.1.size))
                  generalize World.drewN wr _ = w5 at *
                  go_wp2_with fail
                  go_ret
                  exact ⟨⟨false, rfl, HS.out⟩, HW5.out⟩
              · have r2 : decide ((k : Int) < (x.words.length : Int)) = false := decide_eq_false (by omega)
                have r2n : decide (k < x.words.length) = false := decide_eq_false hkt
                have HSX : Hid (∀ (k : Nat) (p q : Wrd), x.words[k]? = some p → y.words[k]? = some q → p.at_ = q.at_) := Lib.hid (fun j p q hp hq => HEK.out j p q (by have := (List.getElem?_eq_some_iff.1 hp).1; omega) hp hq)
                clear hkt
                go_wp2_with fail
                go_roundw
                case rel =>
                  refine ⟨i + 1, by omega, by go_num, Lib.hid HWI.out.1, Lib.hid fun j x' y' hj hx hy => ?_⟩
                  rcases Nat.lt_or_ge j i with h | h
                  · exact HE.out j x' y' h hx hy
                  · have e : j = i := by omega
                    rw [e] at hx hy
                    rw [HXI.out] at hx
                    rw [HYI.out] at hy
                    injection hx with hx
                    injection hy with hy
                    rw [← hx, ← hy]
                    exact ⟨HAT.out, HNW.out, HSX.out⟩
                case measure => simp [intOf]; omega
          · have q4 : ((x.words.length : Int) != (y.words.length : Int)) = true := by simp; omega
            have HS : Hid (false = true ↔ placesC l m) := Lib.hid ⟨fun h => by simp at h, fun h => absurd (h.2 i x y HXI.out HYI.out).2.1 hnw⟩
            clear hnw
            go_wp2_with fail
            go_quiet (fail)
            have HW2 := Lib.hid (HW.out.trans ((drewN_b wr nq).mono HW.out.size))
            generalize World.drewN wr _ = w2 at *
            go_wp2_with fail
            go_ret
            exact ⟨⟨false, rfl, HS.out⟩, HW2.out⟩
        · have q3 : (x.at_ != y.at_) = true := by simp [hat]
          have HS : Hid (false = true ↔ placesC l m) := Lib.hid ⟨fun h => by simp at h, fun h => absurd (h.2 i x y HXI.out HYI.out).1 hat⟩
          clear hat
          go_wp2_with fail
          go_quiet (fail)
          have HW2 := Lib.hid (HW.out.trans ((drewN_b wr nq).mono HW.out.size))
          generalize World.drewN wr _ = w2 at *
          go_wp2_with fail
          go_ret
          exact ⟨⟨false, rfl, HS.out⟩, HW2.out⟩
      · have r1 : decide ((i : Int) < (l.length : Int)) = false := decide_eq_false (by omega)
        have r1n : decide (i < l.length) = false := decide_eq_false hlt
        have HS : Hid (true = true ↔ placesC l m) := Lib.hid ⟨fun _ => ⟨HN.out, fun j x y hx hy => HE.out j x y (by have := (List.getElem?_eq_some_iff.1 hx).1; omega) hx hy⟩, fun _ => rfl⟩
        clear hlt
        go_wp2_with fail
        go_ret
        exact ⟨⟨true, rfl, by simpa using HS.out⟩, HW.out⟩
  · have q2 : ((l.length : Int) != (m.length : Int)) = true := by simp; omega
    have HS : Hid (false = true ↔ placesC l m) := Lib.hid ⟨fun h => by simp at h, fun h => absurd h.1 hn⟩
    clear hn
    go_enter Try.func15, Try.ntmps15
    go_wp2_with fail
    go_ret
    exact ⟨⟨false, rfl, HS.out⟩, Below.refl _ w⟩
end Go.Proofs.Ytphmhglebeapaaa
