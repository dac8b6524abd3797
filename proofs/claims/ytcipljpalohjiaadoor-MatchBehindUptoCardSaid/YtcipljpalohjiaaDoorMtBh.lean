/-
  The law MatchBehind.
  Conditions: at most 1048576 bytes ahead and behind; each pattern has at most 1048576 bytes.
-/
import Derived.Test.YtcipljpalohjiaaDoorMtI
import Derived.Test.YtcipljpalohjiaaDoorMtFi
import Derived.Deep.QuietTactic
import Derived.BigQuiet
import Derived.OwnWalk
namespace Go.Proofs.YtcipljpalohjiaaDoor
open Go.RowKit

theorem hitG_agg (k : Option (Nat × Nat)) (e : Nat) : ∃ p q r : Int, hitG k e = .agg #[.int .i64 p, .int .i64 q, .int .i64 r] := by
  rcases k with _ | ⟨i, f⟩
  · exact ⟨0, 0, 0, rfl⟩
  · exact ⟨_, _, _, rfl⟩

set_option maxRecDepth 100000 in
set_option maxHeartbeats 8000000 in
theorem behind_true (A : Option Addr) (n c : Nat) (a : List Nat) (B : Option Addr) (k d : Nat) (b : List Nat) (z : Int) (v : Value) (l : List Brc) (w : World) [tz : TzW w] (ha : Rd w (.slice A n c) (bv a)) (hb : Rd w (.slice B k d) (bv b)) (qa : ∀ x ∈ a, x < 256) (qb : ∀ x ∈ b, x < 256) (na : n ≤ 1048576) (nb : k ≤ 1048576) (hz : z ≤ 9223372036854775807) (h : Brs all w v l) (hx : ∀ x ∈ l, BrIn x) (hl : l.length ≤ 9223372036854775807) :
    Calls Tryd.prog 8 #[.agg #[.slice A n c, .slice B k d], .int .i64 z, v] w fun e w' => e = .returned (.bool true) ∧ Below w.heap.size w w' := by
  obtain rfl := ha.bytes
  obtain rfl := hb.bytes
  obtain ⟨D, dd, rfl, -⟩ := h.form
  obtain ⟨r, hr⟩ : ∃ r : Nat, r = z.toNat % 12 := ⟨_, rfl⟩
  have m0 : max 0 z % 12 = (r : Int) := by omega
  obtain ⟨m, hm⟩ : ∃ m : Nat, m = r + 1 := ⟨_, rfl⟩
  have m1 : IntKind.i64.wrap (1 + (r : Int)) = (m : Int) := by rw [IntWalk.i64_in _ (by omega)]; omega
  have hm1 : 1 ≤ m ∧ m ≤ 12 := by omega
  have HAB := Lib.hid (And.intro ha hb)
  have HQ := Lib.hid (And.intro qa qb)
  have HB := Lib.hid h
  have HX := Lib.hid hx
  have HG := Lib.hid (fun (A' : Option Addr) (c' : Nat) W (hW : Below w.heap.size w W) => great_is A' c' (a ++ b) (.slice D l.length dd) l W (by rw [List.length_append]; omega) (SlI.below brc_ok h hW) hx hl)
  have HCK := Lib.hid (fun W (hW : Below w.heap.size w W) => RCheck_is (m : Int) (.slice D l.length dd) l W (SlI.below brc_ok h hW) hx)
  have X0 := Lib.hid (((Below.refl _ w).alloc (Nat.le_refl _) (.cells #[.slice A a.length c, .slice B b.length d] 49)))
  clear ha hb qa qb h hx hl hr hm
  go_enter Tryd.func8, Tryd.ntmps8
  go_wp2_with fail
  go_quiet (fail)
  have X0' : Hid (Below w.heap.size w ((w.alloc (.cells #[.slice A a.length c, .slice B b.length d] 49)).drewN nq)) := Lib.hid ⟨X0.out.os, X0.out.tape, X0.out.output, X0.out.size, X0.out.block⟩
  generalize World.drewN _ nq = w0 at *
  clear X0
  go_wp2_with fail
  refine (alive_true (X0'.out)).mono ?_
  rintro e w1 ⟨rfl, hb⟩
  have X1 := Lib.hid (X0'.out.trans (hb.mono X0'.out.size))
  clear hb X0'
  obtain ⟨A5, c5, w5, A7, c7, w7, hrun5, hrun7, hb7, hr7⟩ := joined_b (HAB.out.1.kept X1.out) (HAB.out.2.kept X1.out) (by omega)
  have X7 := Lib.hid (X1.out.trans (hb7.mono X1.out.size))
  have HG7 := HG.out A7 c7 w7 X7.out
  rw [List.length_append] at HG7
  have HG8 := Lib.hid HG7
  clear HG7 HG hb7 hr7
  cases hbig : bigB (a ++ b) l with
  | true =>
    rw [hbig] at HG8
    clear hbig
    go_wp2_with (first
      | (at_builtin; refine wpList_append_runG rfl (.tmp 33) (.tmp 34) 22 rfl (.slice (some ⟨w1.heap.size, 0, none⟩) 0 0) (.slice A a.length c) (.slice A5 a.length c5) w5 rfl rfl ?hh ?_; (case hh => with_reducible exact hrun5))
      | (at_builtin; refine wpList_append_runG rfl (.tmp 35) (.tmp 36) 22 rfl (.slice A5 a.length c5) (.slice B b.length d) (.slice A7 (a.length + b.length) c7) w7 rfl rfl ?hh ?_; (case hh => with_reducible exact hrun7)))
    refine HG8.out.mono ?_
    rintro e w2 ⟨rfl, hb⟩
    have X2 := Lib.hid (X7.out.trans (hb.mono X7.out.size))
    clear hb
    go_wp2_with fail
    refine (alive_true (X2.out)).mono ?_
    rintro e w3 ⟨rfl, hb⟩
    have X3 := Lib.hid (X2.out.trans (hb.mono X2.out.size))
    clear hb
    go_wp2_with fail
    go_ret
    exact ⟨rfl, X3.out⟩
  | false =>
    obtain ⟨hab60, hl70⟩ := big_small hbig
    rw [List.length_append] at hab60
    rw [hbig] at HG8
    clear hbig
    go_wp2_with (first
      | (at_builtin; refine wpList_append_runG rfl (.tmp 33) (.tmp 34) 22 rfl (.slice (some ⟨w1.heap.size, 0, none⟩) 0 0) (.slice A a.length c) (.slice A5 a.length c5) w5 rfl rfl ?hh ?_; (case hh => with_reducible exact hrun5))
      | (at_builtin; refine wpList_append_runG rfl (.tmp 35) (.tmp 36) 22 rfl (.slice A5 a.length c5) (.slice B b.length d) (.slice A7 (a.length + b.length) c7) w7 rfl rfl ?hh ?_; (case hh => with_reducible exact hrun7)))
    refine HG8.out.mono ?_
    rintro e w2 ⟨rfl, hb⟩
    have X2 := Lib.hid (X7.out.trans (hb.mono X7.out.size))
    clear hb HG8 X7 X1 hrun5 hrun7
    have HC2 := Lib.hid (HCK.out w2 X2.out)
    clear HCK
    by_cases hc : checkS (m : Int) l = 0
    · rw [hc] at HC2
      have HCZ := Lib.hid hc
      clear hc
      go_wp2_with fail
      refine HC2.out.mono ?_
      rintro e w3 ⟨rfl, hb⟩
      have X3 := Lib.hid (X2.out.trans (hb.mono X2.out.size))
      clear hb HC2 X2
      by_cases hbm : b.length < m
      · have r1 : decide ((b.length : Int) < (m : Int)) = true := decide_eq_true (by omega)
        go_wp2_with fail
        refine (alive_true (X3.out)).mono ?_
        rintro e w4 ⟨rfl, hb⟩
        have X4 := Lib.hid (X3.out.trans (hb.mono X3.out.size))
        clear hb
        go_wp2_with fail
        go_ret
        exact ⟨rfl, X4.out⟩
      · have r1 : decide ((b.length : Int) < (m : Int)) = false := decide_eq_false (by omega)
        have HN1 := Lib.hid (new_m m (.slice D l.length dd) l X3.out (SlI.below brc_ok HB.out X3.out) HX.out HCZ.out)
        go_wp2_with fail
        refine HN1.out.mono ?_
        rintro e w4 ⟨x, rfl, hm⟩
        have X4 := Lib.hid hm
        have HN2 := Lib.hid (new_m2 m (.slice D l.length dd) l X4.out (mat_framed _ _ _ _) (SlI.below brc_ok HB.out X4.out.below) HX.out HCZ.out)
        clear hm HN1 X3
        go_wp2_with fail
        refine HN2.out.mono ?_
        rintro e w5 ⟨y, rfl, hm⟩
        have X5 := Lib.hid hm
        clear hm HN2 X4
        go_wp2_with fail
        go_loopw [82] (fun iv wr => ∃ i : Nat, i ≤ a.length ∧ iv = .int .i64 (i : Nat) ∧ Hid (Has (Star (MatT x m l (a.take i)) (MatT y m l [])) (fun _ => False) w wr)) (fun iv _ => a.length - (intOf iv).toNat)
        case atStart => exact ⟨0, by omega, rfl, Lib.hid (by rw [List.take_zero]; exact X5.out)⟩
        case round =>
          obtain ⟨i, hi, rfl, HW⟩ := hrel
          clear X5
          by_cases hlt : i < a.length
          · obtain ⟨bb, oo, cc, rfl, cx, hcx⟩ := (HAB.out.1.kept HW.out.below).byteAt hlt
            have HF := Lib.hid (feed_l HW.out (mat_framed _ _ _ _) cc (HQ.out.1 cc (List.mem_of_getElem? hcx)) (by rw [List.length_take]; omega))
            have HT : Hid (a.take (i + 1) = a.take i ++ [cc]) := Lib.hid (by rw [List.take_add_one, hcx]; rfl)
            clear hcx
            go_wp2_with fail
            refine HF.out.mono ?_
            rintro e w6 ⟨rfl, hm, -⟩
            have X6 := Lib.hid hm
            clear hm HF HW
            go_wp2_with fail
            go_roundw
            case rel => exact ⟨i + 1, by omega, by go_num, Lib.hid (by rw [HT.out]; exact X6.out)⟩
            case measure => simp [intOf]; omega
          · obtain rfl : i = a.length := by omega
            rw [List.take_length] at HW
            go_wp2_with fail
            go_loopw [92] (fun iv wr => ∃ i : Nat, i ≤ b.length ∧ iv = .int .i64 (i : Nat) ∧ Hid (Has (Star (MatT x m l (a ++ b.take i)) (MatT y m l (b.take i))) (fun _ => False) w wr)) (fun iv _ => b.length - (intOf iv).toNat)
            case atStart => exact ⟨0, by omega, rfl, Lib.hid (by rw [List.take_zero, List.append_nil]; exact HW.out)⟩
            case round =>
              obtain ⟨i, hi, rfl, HW2⟩ := hrel
              clear HW
              have HW := HW2
              clear HW2
              by_cases hlt : i < b.length
              · obtain ⟨bb, oo, cc, rfl, cx, hcx⟩ := (HAB.out.2.kept HW.out.below).byteAt hlt
                have hcc := HQ.out.2 cc (List.mem_of_getElem? hcx)
                have HF := Lib.hid (feed_l HW.out (mat_framed _ _ _ _) cc hcc (by rw [List.length_append, List.length_take]; omega))
                have HM := Lib.hid (fun (N : Nat → Prop) W (hW : Has (Star (MatT x m l (a ++ b.take i ++ [cc])) (MatT y m l (b.take i))) N w W) => feed_r hW (mat_framed _ _ _ _) cc hcc (by rw [List.length_take]; omega))
                have HT : Hid (b.take (i + 1) = b.take i ++ [cc]) := Lib.hid (by rw [List.take_add_one, hcx]; rfl)
                have hE : (b.take i).length = i := by rw [List.length_take]; omega
                rw [List.length_append, hE] at HF
                rw [hE] at HM
                have HH : Hid (m ≤ i + 1 → hitS (m : Nat) (a ++ b.take i ++ [cc]) l = (hitS (m : Nat) (b.take i ++ [cc]) l).map fun p => (p.1, a.length + p.2)) := Lib.hid fun hmi => by rw [List.append_assoc]; exact hit_behind (by rw [List.length_append, hE, List.length_singleton]; exact hmi) l
                have v1 : IntKind.i64.wrap (((i + 1 : Nat) : Int) + (a.length : Int)) = ((a.length + i + 1 : Nat) : Int) := by rw [IntWalk.i64_in _ (by omega)]; omega
                clear hcx hcc hE
                by_cases hmi : i + 1 < m
                · have r2 : decide ((i : Int) + 1 < (m : Int)) = true := decide_eq_true (by omega)
                  obtain ⟨p1, q1, s1, hg1⟩ := hitG_agg (hitS (m : Nat) (a ++ b.take i ++ [cc]) l) (a.length + i + 1)
                  obtain ⟨p2, q2, s2, hg2⟩ := hitG_agg (hitS (m : Nat) (b.take i ++ [cc]) l) (i + 1)
                  unfold hitE at HF HM
                  rw [hg1] at HF
                  rw [hg2] at HM
                  generalize (hitS (m : Nat) (a ++ b.take i ++ [cc]) l).isSome = l1 at *
                  generalize (hitS (m : Nat) (b.take i ++ [cc]) l).isSome = l2 at *
                  clear hg1 hg2 HH
                  go_wp2_with fail
                  refine HF.out.mono ?_
                  rintro e w6 ⟨rfl, hm, -⟩
                  have X6 := Lib.hid hm
                  have X7 := Lib.hid (X6.out.more (Star.framed (mat_framed _ _ _ _) (mat_framed _ _ _ _)) (.cells #[.int .i64 p1, .int .i64 q1, .int .i64 s1] 34))
                  have B7 := Lib.hid (Blk.new w6 34 #[.int .i64 p1, .int .i64 q1, .int .i64 s1])
                  clear hm HF HW
                  go_upto_region 17 with (fail)
                  generalize hP : w6.heap.size = P at *
                  generalize World.alloc w6 _ = w7 at *
                  clear hP X6
                  have M7 := Lib.hid (HM.out _ w7 X7.out)
                  go_wp2_with fail
                  refine M7.out.mono ?_
                  rintro e w8 ⟨rfl, hm, hst⟩
                  have X8 := Lib.hid (hm.keep (Star.framed (mat_framed _ _ _ _) (mat_framed _ _ _ _)) ((Below.refl _ w8).alloc (Nat.le_refl _) (.cells #[.int .i64 p2, .int .i64 q2, .int .i64 s2] 34)))
                  have b8 := hst.blk (.inr rfl) B7.out
                  have hlt9 := b8.lt
                  have hne : P ≠ w8.heap.size := by omega
                  obtain ⟨c0, c1, c2⟩ := hit_cells b8 ((Below.refl _ w8).alloc (Nat.le_refl _) (.cells #[.int .i64 p2, .int .i64 q2, .int .i64 s2] 34))
                  clear hm hst b8 X7 B7 M7 HM
                  go_wp2_with fail
                  go_roundw
                  case rel => exact ⟨i + 1, by omega, by go_num, Lib.hid (by rw [HT.out, ← List.append_assoc]; exact X8.out.none_)⟩
                  case measure => simp [intOf]; omega
                · have r2 : decide ((i : Int) + 1 < (m : Int)) = false := decide_eq_false (by omega)
                  have hH := HH.out (by omega)
                  rw [hH] at HF
                  clear HH hH
                  have HBD := Lib.hid (fun (q : Nat × Nat) (hq : hitS (m : Nat) (b.take i ++ [cc]) l = some q) => (hit_bound hq).2)
                  generalize hitS (m : Nat) (b.take i ++ [cc]) l = o at *
                  cases o with
                  | none =>
                    rw [show hitE (Option.map (fun p : Nat × Nat => (p.1, a.length + p.2)) none) (a.length + i + 1) = .tuple #[.agg #[.int .i64 0, .int .i64 0, .int .i64 0], .bool false] from rfl] at HF
                    rw [show hitE none (i + 1) = .tuple #[.agg #[.int .i64 0, .int .i64 0, .int .i64 0], .bool false] from rfl] at HM
                    go_wp2_with fail
                    refine HF.out.mono ?_
                    rintro e w6 ⟨rfl, hm, -⟩
                    have X6 := Lib.hid hm
                    have X7 := Lib.hid (X6.out.more (Star.framed (mat_framed _ _ _ _) (mat_framed _ _ _ _)) (.cells #[.int .i64 0, .int .i64 0, .int .i64 0] 34))
                    have B7 := Lib.hid (Blk.new w6 34 #[.int .i64 0, .int .i64 0, .int .i64 0])
                    clear hm HF HW
                    go_upto_region 17 with (fail)
                    generalize hP : w6.heap.size = P at *
                    generalize World.alloc w6 _ = w7 at *
                    clear hP X6
                    have M7 := Lib.hid (HM.out _ w7 X7.out)
                    go_wp2_with fail
                    refine M7.out.mono ?_
                    rintro e w8 ⟨rfl, hm, hst⟩
                    have X8 := Lib.hid (hm.keep (Star.framed (mat_framed _ _ _ _) (mat_framed _ _ _ _)) ((Below.refl _ w8).alloc (Nat.le_refl _) (.cells #[.int .i64 0, .int .i64 0, .int .i64 0] 34)))
                    have b8 := hst.blk (.inr rfl) B7.out
                    have hlt9 := b8.lt
                    have hne : P ≠ w8.heap.size := by omega
                    obtain ⟨c0, c1, c2⟩ := hit_cells b8 ((Below.refl _ w8).alloc (Nat.le_refl _) (.cells #[.int .i64 0, .int .i64 0, .int .i64 0] 34))
                    clear hm hst b8 X7 B7 M7 HM
                    go_wp2_with fail
                    go_roundw
                    case rel => exact ⟨i + 1, by omega, by go_num, Lib.hid (by rw [HT.out, ← List.append_assoc]; exact X8.out.none_)⟩
                    case measure => simp [intOf]; omega
                  | some p =>
                    obtain ⟨j, f⟩ := p
                    rw [show hitE (Option.map (fun p : Nat × Nat => (p.1, a.length + p.2)) (some (j, f))) (a.length + i + 1) = .tuple #[.agg #[.int .i64 (j : Nat), .int .i64 ((a.length + f : Nat) : Int), .int .i64 ((a.length + i + 1 : Nat) : Int)], .bool true] from rfl] at HF
                    rw [show hitE (some (j, f)) (i + 1) = .tuple #[.agg #[.int .i64 (j : Nat), .int .i64 (f : Nat), .int .i64 ((i + 1 : Nat) : Int)], .bool true] from rfl] at HM
                    have hfb : f ≤ 60 := by have := HBD.out (j, f) rfl; simp only [List.length_append, List.length_take, List.length_singleton] at this; omega
                    have v2 : IntKind.i64.wrap ((f : Int) + (a.length : Int)) = ((a.length + f : Nat) : Int) := by rw [IntWalk.i64_in _ (by omega)]; omega
                    clear hfb HBD
                    obtain ⟨u3, hu3⟩ : ∃ u3, u3 = i + 1 := ⟨_, rfl⟩
                    rw [← hu3] at HM v1
                    clear hu3
                    generalize hu1 : a.length + f = u1 at *
                    generalize hu2 : a.length + i + 1 = u2 at *
                    clear hu1 hu2
                    go_wp2_with fail
                    refine HF.out.mono ?_
                    rintro e w6 ⟨rfl, hm, -⟩
                    have X6 := Lib.hid hm
                    have X7 := Lib.hid (X6.out.more (Star.framed (mat_framed _ _ _ _) (mat_framed _ _ _ _)) (.cells #[.int .i64 (j : Nat), .int .i64 (u1 : Nat), .int .i64 (u2 : Nat)] 34))
                    have B7 := Lib.hid (Blk.new w6 34 #[.int .i64 (j : Nat), .int .i64 (u1 : Nat), .int .i64 (u2 : Nat)])
                    clear hm HF HW
                    go_upto_region 17 with (fail)
                    generalize hP : w6.heap.size = P at *
                    generalize World.alloc w6 _ = w7 at *
                    clear hP X6
                    have M7 := Lib.hid (HM.out _ w7 X7.out)
                    go_wp2_with fail
                    refine M7.out.mono ?_
                    rintro e w8 ⟨rfl, hm, hst⟩
                    have X8 := Lib.hid (hm.keep (Star.framed (mat_framed _ _ _ _) (mat_framed _ _ _ _)) ((Below.refl _ w8).alloc (Nat.le_refl _) (.cells #[.int .i64 (j : Nat), .int .i64 (f : Nat), .int .i64 (u3 : Nat)] 34)))
                    have b8 := hst.blk (.inr rfl) B7.out
                    have hlt9 := b8.lt
                    have hne : P ≠ w8.heap.size := by omega
                    obtain ⟨c0, c1, c2⟩ := hit_cells b8 ((Below.refl _ w8).alloc (Nat.le_refl _) (.cells #[.int .i64 (j : Nat), .int .i64 (f : Nat), .int .i64 (u3 : Nat)] 34))
                    clear hm hst b8 X7 B7 M7 HM
                    go_wp2_with fail
                    go_roundw
                    case rel => exact ⟨i + 1, by omega, by go_num, Lib.hid (by rw [HT.out, ← List.append_assoc]; exact X8.out.none_)⟩
                    case measure => simp [intOf]; omega
              · obtain rfl : i = b.length := by omega
                go_wp2_with fail
                go_ret
                exact ⟨rfl, HW.out.below⟩
    · have q0 : ((checkS (m : Int) l : Int) == 0) = false := by simpa using hc
      go_wp2_with fail
      refine HC2.out.mono ?_
      rintro e w3 ⟨rfl, hb⟩
      have X3 := Lib.hid (X2.out.trans (hb.mono X2.out.size))
      clear hb HC2 X2
      go_wp2_with fail
      refine (alive_true (X3.out)).mono ?_
      rintro e w4 ⟨rfl, hb⟩
      have X4 := Lib.hid (X3.out.trans (hb.mono X3.out.size))
      clear hb
      go_wp2_with fail
      go_ret
      exact ⟨rfl, X4.out⟩
end Go.Proofs.YtcipljpalohjiaaDoor
