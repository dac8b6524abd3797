/-
  The law MatchFirst.
  Conditions: each pattern has at most 1048576 bytes.
-/
import Derived.Test.YtcipljpalohjiaaDoorMtOps
import Derived.Test.YtcipljpalohjiaaDoorCut
namespace Go.Proofs.YtcipljpalohjiaaDoor
open Go.RowKit

/-- A hit in a block of its own. -/
theorem hit_cells {w W : World} {P : Nat} {a b c : Value} (h : Blk w P 34 #[a, b, c]) (hb : Below w.heap.size w W) : W.cell? ⟨P, 0, none⟩ = some a ∧ W.cell? ⟨P, 1, none⟩ = some b ∧ W.cell? ⟨P, 2, none⟩ = some c := by
  have h2 := h.below hb h.lt
  exact ⟨h2.cell 0, h2.cell 1, h2.cell 2⟩
theorem big_small {b : List Nat} {l : List Brc} (h : bigB b l = false) : b.length ≤ 60 ∧ l.length ≤ 70 := by
  unfold bigB at h
  simp only [Bool.or_eq_false_iff, decide_eq_false_iff_not] at h
  omega

set_option maxRecDepth 100000 in
set_option maxHeartbeats 4000000 in
theorem first_true (z : Int) (A : Option Addr) (n c : Nat) (b : List Nat) (v : Value) (l : List Brc) (w : World) [tz : TzW w] (hr : Rd w (.slice A n c) (bv b)) (hbb : ∀ d ∈ b, d < 256) (hnn : n ≤ 9223372036854775807) (h : Brs all w v l) (hx : ∀ x ∈ l, BrIn x) (hl : l.length ≤ 9223372036854775807) :
    Calls Tryd.prog 4 #[.int .i64 z, .slice A n c, v] w fun e w' => e = .returned (.bool true) ∧ Below w.heap.size w w' := by
  obtain rfl := hr.bytes
  obtain ⟨D, d, rfl, -⟩ := h.form
  have HR := Lib.hid hr
  have HB := Lib.hid h
  have HX := Lib.hid hx
  have HBB := Lib.hid hbb
  have HG := Lib.hid (fun W (hW : Below w.heap.size w W) => great_is A c b (.slice D l.length d) l W hnn (SlI.below brc_ok h hW) hx hl)
  have HCK := Lib.hid (fun W (hW : Below w.heap.size w W) => RCheck_is z (.slice D l.length d) l W (SlI.below brc_ok h hW) hx)
  have HFI := Lib.hid (fun W (hW : Below w.heap.size w W) (hbl : b.length ≤ 1048576) => First_is z A c b (.slice D l.length d) l W (tz.out.below hW) (hr.kept hW) hbb hbl (SlI.below brc_ok h hW) hx)
  clear hr h hx hbb hl
  go_enter Tryd.func4, Tryd.ntmps4
  go_wp2_with fail
  refine (NReset_is _).mono ?_
  rintro e w1 ⟨rfl, hb⟩
  have X1 := Lib.hid hb
  clear hb
  go_wp2_with fail
  refine (NStart_is _).mono ?_
  rintro e w2 ⟨rfl, hb⟩
  have X2 := Lib.hid (X1.out.trans (hb.mono X1.out.size))
  rw [show hitE none 0 = .tuple #[.agg #[.int .i64 0, .int .i64 0, .int .i64 0], .bool false] from rfl]
  have B2 := Lib.hid (Blk.new w2 34 #[.int .i64 0, .int .i64 0, .int .i64 0])
  have X3 := Lib.hid (X2.out.alloc X2.out.size (.cells #[.int .i64 0, .int .i64 0, .int .i64 0] 34))
  clear hb X1
  go_upto_region 4 with (fail)
  generalize hP : w2.heap.size = P at *
  generalize World.alloc w2 _ = w3 at *
  clear hP X2
  go_wp2_with fail
  refine (NFeed_is _ _).mono ?_
  rintro e w4 ⟨rfl, hb⟩
  have X4 := Lib.hid (X3.out.trans (hb.mono X3.out.size))
  have B4 := Lib.hid ((B2.out.below hb B2.out.lt).alloc (.cells #[.int .i64 0, .int .i64 0, .int .i64 0] 34))
  rw [show hitE none 0 = .tuple #[.agg #[.int .i64 0, .int .i64 0, .int .i64 0], .bool false] from rfl]
  have C4 := Lib.hid (Blk.new w4 34 #[.int .i64 0, .int .i64 0, .int .i64 0])
  have X5 := Lib.hid (X4.out.alloc X4.out.size (.cells #[.int .i64 0, .int .i64 0, .int .i64 0] 34))
  clear hb X3 B2
  go_upto_region 5 with (fail)
  generalize hQ : w4.heap.size = Q at *
  generalize World.alloc w4 _ = w5 at *
  clear hQ X4
  go_wp2_with fail
  refine (alive_true (X5.out)).mono ?_
  rintro e w6 ⟨rfl, hb⟩
  have X6 := Lib.hid (X5.out.trans (hb.mono X5.out.size))
  obtain ⟨c0, c1, c2⟩ := hit_cells B4.out hb
  obtain ⟨d0, d1, d2⟩ := hit_cells C4.out hb
  have HG6 := Lib.hid (HG.out w6 X6.out)
  clear hb X5 B4 C4
  go_wp2_with fail
  refine HG6.out.mono ?_
  rintro e w7 ⟨rfl, hb⟩
  have X7 := Lib.hid (X6.out.trans (hb.mono X6.out.size))
  clear hb X6 HG6 HG c0 c1 c2 d0 d1 d2
  cases hbig : bigB b l with
  | true =>
    go_wp2_with fail
    go_ret
    exact ⟨rfl, X7.out⟩
  | false =>
    obtain ⟨hb60, hl70⟩ := big_small hbig
    have HF7 := Lib.hid (HFI.out w7 X7.out (by omega))
    clear HFI hbig
    go_wp2_with fail
    refine HF7.out.mono ?_
    rintro e w8 ⟨rfl, hb⟩
    have X8 := Lib.hid (X7.out.trans (hb.mono X7.out.size))
    clear hb X7 HF7
    by_cases hc : checkS z l = 0
    · obtain ⟨hz1, hz2, -, hw⟩ := check_zero hc
      have HRF := Lib.hid (fun W (hW : Below w.heap.size w W) => RFirst_is z ⟨hz1, hz2⟩ b HBB.out (by omega) (.slice D l.length d) l W (SlI.below brc_ok HB.out hW) HX.out hw (by omega))
      rw [if_pos hc, hc]
      have HCZ := Lib.hid hc
      clear hw hc
      cases hq : firstHit z b l with
      | none =>
        rw [hq] at HRF
        rw [show firstE none 0 = .tuple #[.agg #[.int .i64 0, .int .i64 0, .int .i64 0], .bool false, .int .i64 0] from rfl]
        rw [show firstV none = .tuple #[.int .i64 (-1), .int .i64 0, .int .i64 0] from rfl] at HRF
        have B9 := Lib.hid (Blk.new w8 34 #[.int .i64 0, .int .i64 0, .int .i64 0])
        have X9 := Lib.hid (X8.out.alloc X8.out.size (.cells #[.int .i64 0, .int .i64 0, .int .i64 0] 34))
        go_upto_region 10 with (fail)
        generalize hP2 : w8.heap.size = P2 at *
        generalize World.alloc w8 _ = w9 at *
        clear hP2 X8 hq
        have HC9 := Lib.hid (HCK.out w9 X9.out)
        rw [HCZ.out] at HC9
        go_wp2_with fail
        refine HC9.out.mono ?_
        rintro e w10 ⟨rfl, hb⟩
        have X10 := Lib.hid (X9.out.trans (hb.mono X9.out.size))
        have B10 := Lib.hid (B9.out.below hb B9.out.lt)
        have HR10 := Lib.hid (HRF.out w10 X10.out)
        have s10 := run_str (HR.out.kept X10.out)
        clear hb X9 B9 HC9 HCK
        go_wp2_with fail
        refine HR10.out.mono ?_
        rintro e w11 ⟨rfl, hb⟩
        have X11 := Lib.hid (X10.out.trans (hb.mono X10.out.size))
        have B11 := Lib.hid (B10.out.below hb B10.out.lt)
        clear hb X10 B10 HR10 s10
        go_wp2_with fail
        refine (hit_none 0 0 _).mono ?_
        rintro e w12 ⟨rfl, hb⟩
        have X12 := Lib.hid (X11.out.trans (hb.mono X11.out.size))
        have X13 := Lib.hid (X12.out.alloc X12.out.size (.cells #[.int .i64 0, .int .i64 0, .int .i64 0] 34))
        have b13 := (B11.out.below hb B11.out.lt)
        have hlt := b13.lt
        have hne : P2 ≠ w12.heap.size := by omega
        obtain ⟨c0, c1, c2⟩ := hit_cells b13 ((Below.refl _ w12).alloc (Nat.le_refl _) (.cells #[.int .i64 0, .int .i64 0, .int .i64 0] 34))
        clear hb X11 B11 X12 b13
        go_wp2_with fail
        go_ret
        exact ⟨rfl, X13.out⟩
      | some p =>
        obtain ⟨i, f, e⟩ := p
        rw [hq] at HRF
        rw [show firstE (some (i, f, e)) 0 = .tuple #[.agg #[.int .i64 (i : Nat), .int .i64 (f : Nat), .int .i64 (e : Nat)], .bool true, .int .i64 0] from rfl]
        rw [show firstV (some (i, f, e)) = .tuple #[.int .i64 (i : Nat), .int .i64 (f : Nat), .int .i64 (e : Nat)] from rfl] at HRF
        have B9 := Lib.hid (Blk.new w8 34 #[.int .i64 (i : Nat), .int .i64 (f : Nat), .int .i64 (e : Nat)])
        have X9 := Lib.hid (X8.out.alloc X8.out.size (.cells #[.int .i64 (i : Nat), .int .i64 (f : Nat), .int .i64 (e : Nat)] 34))
        go_upto_region 10 with (fail)
        generalize hP2 : w8.heap.size = P2 at *
        generalize World.alloc w8 _ = w9 at *
        clear hP2 X8 hq
        have HC9 := Lib.hid (HCK.out w9 X9.out)
        rw [HCZ.out] at HC9
        go_wp2_with fail
        refine HC9.out.mono ?_
        rintro e2 w10 ⟨rfl, hb⟩
        have X10 := Lib.hid (X9.out.trans (hb.mono X9.out.size))
        have B10 := Lib.hid (B9.out.below hb B9.out.lt)
        have HR10 := Lib.hid (HRF.out w10 X10.out)
        have s10 := run_str (HR.out.kept X10.out)
        clear hb X9 B9 HC9 HCK
        go_wp2_with fail
        refine HR10.out.mono ?_
        rintro e2 w11 ⟨rfl, hb⟩
        have X11 := Lib.hid (X10.out.trans (hb.mono X10.out.size))
        have B11 := Lib.hid (B10.out.below hb B10.out.lt)
        clear hb X10 B10 HR10 s10
        go_wp2_with fail
        refine (hit_some i f e _).mono ?_
        rintro e2 w12 ⟨rfl, hb⟩
        have X12 := Lib.hid (X11.out.trans (hb.mono X11.out.size))
        have X13 := Lib.hid (X12.out.alloc X12.out.size (.cells #[.int .i64 (i : Nat), .int .i64 (f : Nat), .int .i64 (e : Nat)] 34))
        have b13 := (B11.out.below hb B11.out.lt)
        have hlt := b13.lt
        have hne : P2 ≠ w12.heap.size := by omega
        obtain ⟨c0, c1, c2⟩ := hit_cells b13 ((Below.refl _ w12).alloc (Nat.le_refl _) (.cells #[.int .i64 (i : Nat), .int .i64 (f : Nat), .int .i64 (e : Nat)] 34))
        clear hb X11 B11 X12 b13
        go_wp2_with fail
        go_ret
        exact ⟨rfl, X13.out⟩
    · rw [if_neg hc]
      rw [show firstE none (checkS z l) = .tuple #[.agg #[.int .i64 0, .int .i64 0, .int .i64 0], .bool false, .int .i64 (checkS z l : Nat)] from rfl]
      have q0 : (((checkS z l : Nat) : Int) != 0) = true := by simp; omega
      have B9 := Lib.hid (Blk.new w8 34 #[.int .i64 0, .int .i64 0, .int .i64 0])
      have X9 := Lib.hid (X8.out.alloc X8.out.size (.cells #[.int .i64 0, .int .i64 0, .int .i64 0] 34))
      clear hc
      go_upto_region 10 with (fail)
      generalize hP2 : w8.heap.size = P2 at *
      generalize World.alloc w8 _ = w9 at *
      clear hP2 X8
      have HC9 := Lib.hid (HCK.out w9 X9.out)
      go_wp2_with fail
      refine HC9.out.mono ?_
      rintro e w10 ⟨rfl, hb⟩
      have X10 := Lib.hid (X9.out.trans (hb.mono X9.out.size))
      obtain ⟨c0, c1, c2⟩ := hit_cells B9.out hb
      clear hb X9 B9 HC9 HCK
      go_wp2_with fail
      go_ret
      exact ⟨rfl, X10.out⟩
end Go.Proofs.YtcipljpalohjiaaDoor
