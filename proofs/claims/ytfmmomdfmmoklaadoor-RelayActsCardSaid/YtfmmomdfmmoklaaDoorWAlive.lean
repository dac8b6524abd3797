/-
  The document's example (cuecardlaw07.alive) answers true.
  Conditions: the package's table holds what its initialiser lays (Oth).
-/
import Derived.Test.YtfmmomdfmmoklaaDoorWOps
namespace Go.Proofs.YtfmmomdfmmoklaaDoor
open Go.RowKit

/-- A transcript's events; its end. -/
theorem run_events (A : Option Addr) (n c : Nat) (b : Bool) (W : World) : (Instr.field 56 (.agg #[.slice A n c, .bool b]) 0).run Tryd.prog W = .ok (.slice A n c) W := by kernel_rfl
theorem run_end (A : Option Addr) (n c : Nat) (b : Bool) (W : World) : (Instr.field 56 (.agg #[.slice A n c, .bool b]) 1).run Tryd.prog W = .ok (.bool b) W := by kernel_rfl

def al1 : Wld := (Wld.start 30).line 1 0 ⟨false, [104, 105]⟩
def al2 : Wld := { al1 with x := (al1.x.step 0 1 5).2 }
def al3 : Wld := { al2 with x := (al2.x.step 0 1 9).2 }
def al4 : Wld := { al3 with x := (al3.x.step 2 9 0).2 }
def al5 : Wld := al4.line 0 0 ⟨(al4.x.f 0 0).en, (al4.x.f 0 0).xs.drop 9⟩
def al6 : Wld := { al5 with x := (al5.x.step 0 9 3).2 }
theorem al1_ok : al1.x.Ok := (Sys.start_ok (by omega)).line (by omega) (by omega) (by show 2 ≤ 30; omega) (by simp)
theorem al2_ok : al2.x.Ok := al1_ok.step ..
theorem al3_ok : al3.x.Ok := al2_ok.step ..
theorem al4_ok : al4.x.Ok := al3_ok.step ..
theorem al5_ok : al5.x.Ok := al4_ok.line (by omega) (by omega) (by
  have := al4_ok.le 0 (by omega) 0 (by omega)
  show ((al4.x.f 0 0).xs.drop 9).length ≤ _
  rw [List.length_drop]; omega) (fun b hb => al4_ok.byte 0 (by omega) 0 (by omega) b (List.mem_of_mem_drop hb))
theorem al6_ok : al6.x.Ok := al5_ok.step ..
theorem al1_b : (al1.x.step 0 1 5).1 = true := by decide
theorem al2_b : (al2.x.step 0 1 9).1 = false := by decide
theorem al3_b : (al3.x.step 2 9 0).1 = true := by decide
theorem al4_b : (al4.x.f 0 0).xs.take 9 = [104] := by decide
theorem al5_b : (al5.x.step 0 9 3).1 = true := by decide
theorem al6_e : al6.x.ev = [⟨1, 5, [104]⟩, ⟨1, 5, [105]⟩] := by decide
theorem al6_w : (al6.x.ws 1).length = 1 := by decide

set_option maxHeartbeats 2000000 in
set_option maxRecDepth 100000 in
theorem alive_true (w : World) (ho : Oth w) : Calls Tryd.prog 9 #[] w fun e w' => e = .returned (.bool true) ∧ Below w.heap.size w w' := by
  have HO := Lib.hid ho
  clear ho
  go_enter Tryd.func9, Tryd.ntmps9
  go_wp2_with fail
  refine (WNew 29 (by omega) w 30 (by omega)).mono ?_
  intro e w1 hnew
  obtain ⟨b, u, c, r, rfl, h1⟩ := WAt.of_new (Below.refl _ w) hnew
  have i0 : w1.cell? ⟨b, 0, none⟩ = some (.pointer (some ⟨u, 0, none⟩)) := h1.blk.cell 0
  have H1 := Lib.hid h1
  clear hnew h1
  go_wp2_with fail
  generalize hW2 : w1.alloc (.cells #[.int .u8 104, .int .u8 105] 5) = W2
  have h2 : WAt (fun _ => False) w W2 b u c r (Wld.start 30) := by rw [← hW2]; exact (H1.out.more _).none_
  have hr2 : Rd W2 (.slice (some ⟨w1.heap.size, 0, none⟩) 2 2) (bv [104, 105]) := by
    rw [← hW2]
    exact Rd.ofBlk (al_at rfl) [104, 105] rfl
  have hwr := WWrite h2 (k := 1) (s := 0) (p := u) (z := 0) (by omega) (by omega) rfl rfl hr2 (by omega)
  have HWR := Lib.hid hwr
  clear h2 hr2 hwr hW2
  refine HWR.out.mono ?_
  rintro e w3 ⟨rfl, h3, -⟩
  have H3 : Hid (WAt (fun _ => False) w w3 b u c r al1) := h3
  clear h3
  have i2 : w3.cell? ⟨b, 2, none⟩ = some (.pointer (some ⟨r, 0, none⟩)) := H3.out.blk.cell 2
  go_wp2_with fail
  refine (WStep H3.out HO.out al1_ok 0 1 5).mono ?_
  rintro e w4 ⟨rfl, h4, -⟩
  rw [al1_b]
  have H4 : Hid (WAt (fun _ => False) w w4 b u c r al2) := h4
  clear h4 i2
  have i2 : w4.cell? ⟨b, 2, none⟩ = some (.pointer (some ⟨r, 0, none⟩)) := H4.out.blk.cell 2
  go_wp2_with fail
  refine (WStep H4.out HO.out al2_ok 0 1 9).mono ?_
  rintro e w5 ⟨rfl, h5, -⟩
  rw [al2_b]
  have H5 : Hid (WAt (fun _ => False) w w5 b u c r al3) := h5
  clear h5 i2
  have i2 : w5.cell? ⟨b, 2, none⟩ = some (.pointer (some ⟨r, 0, none⟩)) := H5.out.blk.cell 2
  go_wp2_with fail
  refine (WStep H5.out HO.out al3_ok 2 9 0).mono ?_
  rintro e w6 ⟨rfl, h6, -⟩
  rw [al3_b]
  have H6 : Hid (WAt (fun _ => False) w w6 b u c r al4) := h6
  clear h6 i2
  have i1 : w6.cell? ⟨b, 1, none⟩ = some (.pointer (some ⟨c, 0, none⟩)) := H6.out.blk.cell 1
  go_wp2_with fail
  refine (WRead H6.out HO.out (k := 0) (s := 1) (p := c) (z := 1) (by omega) (by omega) rfl rfl 9).mono ?_
  rintro e w7 ⟨A7, c7, g7, rfl, hr7, h7, -⟩
  have H7 : Hid (WAt (fun _ => False) w w7 b u c r al5) := h7
  have hcv := run_str hr7.rd
  have e7 : (al4.x.f 0 (1 - 1)).xs.take (Int.toNat 9) = [104] := al4_b
  rw [e7] at hcv ⊢
  rw [show str [104] = ⟨#[104]⟩ from rfl] at hcv
  simp only [List.length_cons, List.length_nil, Nat.zero_add] at hcv ⊢
  clear h7 hr7 i1 e7
  have i2 : w7.cell? ⟨b, 2, none⟩ = some (.pointer (some ⟨r, 0, none⟩)) := H7.out.blk.cell 2
  go_wp2_with fail
  refine (WStep H7.out HO.out al5_ok 0 9 3).mono ?_
  rintro e w8 ⟨rfl, h8, -⟩
  rw [al5_b]
  have H8 : Hid (WAt (fun _ => False) w w8 b u c r al6) := h8
  clear h8 i2 hcv
  have i2 : w8.cell? ⟨b, 2, none⟩ = some (.pointer (some ⟨r, 0, none⟩)) := H8.out.blk.cell 2
  go_wp2_with fail
  refine (WTell H8.out al6_ok).mono ?_
  intro e w9 h9
  obtain ⟨A9, c9, l, rfl, hev, hpe, hb9⟩ := h9.evs al6_ok
  rw [al6_e] at hpe
  obtain ⟨⟨d1, t1, A1, c1, bs1⟩, ⟨d2, t2, A2, c2, bs2⟩, rfl⟩ : ∃ a1 a2, l = [a1, a2] := by
    have := congrArg List.length hpe
    rw [pes_len] at this
    match l, this with
    | [a1, a2], _ => exact ⟨a1, a2, rfl⟩
  obtain ⟨rfl, rfl, rfl, rfl, rfl, rfl⟩ : d1 = 1 ∧ t1 = 5 ∧ bs1 = [104] ∧ d2 = 1 ∧ t2 = 5 ∧ bs2 = [105] := by
    simpa [pes, Ev.pe, and_assoc] using hpe
  have H9 := Lib.hid (H8.out.keep hb9)
  obtain ⟨bb, o, x1, rfl, hx1, hat1, hok1, -⟩ := EvsIn.at hev (k := 0) (by simp)
  obtain ⟨bb', o', x2, e', hx2, hat2, hok2, -⟩ := EvsIn.at hev (k := 1) (by simp)
  injection e' with e'
  injection e' with e1 e2
  subst e1 e2
  simp only [List.getElem?_cons_zero, List.getElem?_cons_succ, Option.some.injEq] at hx1 hx2
  subst hx1 hx2
  have j1 : w9.cell? ⟨bb, o + 1, none⟩ = some (.int .i64 5) := by have := hat1.time; simpa using this
  have j2 : w9.cell? ⟨bb, o + 3 + 1, none⟩ = some (.int .i64 5) := by have := hat2.time; simpa using this
  have j3 : w9.cell? ⟨bb, o + 3 + 2, none⟩ = some (.slice A2 1 c2) := by have := hat2.data; simpa using this
  have hcv := run_str (A := A2) (n := 1) (c := c2) hok2.rd
  rw [show str [105] = ⟨#[105]⟩ from rfl] at hcv
  have i9 : w9.cell? ⟨b, 2, none⟩ = some (.pointer (some ⟨r, 0, none⟩)) := H9.out.blk.cell 2
  have hfd := run_events (some ⟨bb, o, none⟩) 2 c9 (al6.x.ov 0)
  clear hev hpe hb9 hat1 hat2 hok1 hok2 h9 i2
  go_wp2_with fail
  refine (WRWaits H9.out (d := 1) (z := 1) (by omega) rfl).mono ?_
  rintro e w10 ⟨rfl, rfl⟩
  rw [al6_w]
  have HB := Lib.hid H9.out.below
  go_wp2_with fail
  go_ret
  exact ⟨rfl, HB.out⟩
end Go.Proofs.YtfmmomdfmmoklaaDoor
