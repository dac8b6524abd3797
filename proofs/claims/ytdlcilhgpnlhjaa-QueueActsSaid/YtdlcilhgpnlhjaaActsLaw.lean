/-
  cuecardlaw01.QueueActs answers true for every number and every list of acts.
  Conditions: none.
-/
import Derived.Test.YtdlcilhgpnlhjaaActing
import Derived.Deep.DeepCutAuto
import Derived.Deep.CutBlock
namespace Go.Proofs.Ytdlcilhgpnlhjaa
open Go.RowKit

/-- The queue and the document's queue, in the same state. -/
structure Two (w0 W : World) (q mb rm : Nat) (en : Bool) (g gm : Option Nat) (xs : List Int) : Prop where
  que : QAt W q g rm en (iv xs)
  ref : MAt W mb gm rm en (iv xs)
  apart : ∀ b, g = some b → gm ≠ some b
  bq : w0.heap.size ≤ q
  bm : w0.heap.size ≤ mb
  bg : ∀ b, g = some b → w0.heap.size ≤ b
  bgm : ∀ b, gm = some b → w0.heap.size ≤ b
  below : Below w0.heap.size w0 W
  le : xs.length ≤ rm

section
variable {w0 W : World} {q mb cb rm : Nat} {en : Bool} {g gm : Option Nat} {xs : List Int} {cs : Array Value}
theorem Two.acting (h : Two w0 W q mb rm en g gm xs) (cs : Array Value) : Acting w0 (W.alloc (.cells cs 34)) q mb W.heap.size rm en en g gm xs xs cs :=
  ⟨h.que.alloc _, h.ref.alloc _, Blk.new W _ _, h.apart, h.bq, h.bm, h.bg, h.bgm, h.below.alloc h.below.size _⟩
theorem Acting.two (h : Acting w0 W q mb cb rm en en g gm xs xs cs) (hle : xs.length ≤ rm) : Two w0 W q mb rm en g gm xs :=
  ⟨h.que, h.ref, h.apart, h.bq, h.bm, h.bg, h.bgm, h.below, hle⟩
theorem Two.start (h : QOwn w0.heap.size W q rm false []) (hb : Below w0.heap.size w0 W) : ∃ g, Two w0 (W.alloc (.cells #[.slice none 0 0, .int .i64 rm, .bool false] 32)) q W.heap.size rm false g none [] := by
  obtain ⟨g, h1, h2, h3⟩ := h
  exact ⟨g, h1.alloc _, ⟨_, Blk.new W _ _, (Row.nil W _).alloc _⟩, by simp, h2, hb.size, h3, by simp, hb.alloc hb.size _, by simp⟩
theorem Two.keep {W' : World} (h : Two w0 W q mb rm en g gm xs) (hb : Below W.heap.size W W') : Two w0 W' q mb rm en g gm xs :=
  ⟨h.que.below hb h.que.blk_lt (fun _ e => h.que.row_lt e), h.ref.below hb h.ref.blk_lt (fun _ e => h.ref.row_lt e), h.apart, h.bq, h.bm, h.bg, h.bgm, h.below.trans (hb.mono h.below.size), h.le⟩
theorem Two.drewN (h : Two w0 W q mb rm en g gm xs) (n : Nat) : Two w0 (W.drewN n) q mb rm en g gm xs :=
  ⟨h.que, h.ref, h.apart, h.bq, h.bm, h.bg, h.bgm, ⟨h.below.os, h.below.tape, h.below.output, h.below.size, h.below.block⟩, h.le⟩
end

set_option maxHeartbeats 4000000 in
set_option maxRecDepth 100000 in
theorem acts_true (room : Int) (hr0 : room ≤ 9223372036854775807) (v : Value) (l : List ActV) (w : World) (h : Acts w v l) :
    Calls Try.prog 3 #[.int .i64 room, v] w fun e w' => e = .returned (.bool true) ∧ Below w.heap.size w w' := by
  have HA := Lib.hid h
  obtain ⟨hm, A, c, rfl, -⟩ := h
  by_cases hgt : isGreat l = true
  · have HG := Lib.hid hgt
    clear hgt
    go_enter Try.func3, Try.ntmps3
    go_wp2_with fail
    refine (alive_true w).mono ?_
    rintro e w1 ⟨rfl, hb1⟩
    have B1 := Lib.hid hb1
    clear hb1
    go_wp2_with fail
    refine (great_any _ l w1 (HA.out.below B1.out)).mono ?_
    rintro e w2 ⟨rfl, hb2⟩
    have B2 : Hid (Below w.heap.size w w2) := B1.out.trans (hb2.mono B1.out.size)
    clear hb2 B1
    rw [HG.out]
    go_wp2_with fail
    refine (alive_true w2).mono ?_
    rintro e w3 ⟨rfl, hb3⟩
    have B3 : Hid (Below w.heap.size w w3) := B2.out.trans (hb3.mono B2.out.size)
    clear hb3 B2
    go_wp2
    go_ret
    exact ⟨rfl, B3.out⟩
  · have hgf : isGreat l = false := by simpa using hgt
    have HG := Lib.hid hgf
    clear hgt hgf
    have hl80 : l.length ≤ 80 := by
      have := HG.out
      simp only [isGreat, Bool.or_eq_false_iff, decide_eq_false_iff_not] at this
      omega
    have hz80 : Hid (∀ a ∈ l, a.zs.length ≤ 80) := fun a ha => by
      have := HG.out
      simp only [isGreat, Bool.or_eq_false_iff, List.any_eq_false] at this
      have := this.2 a ha
      simp at this
      omega
    go_enter Try.func3, Try.ntmps3
    go_wp2_with fail
    refine (alive_true w).mono ?_
    rintro e w1 ⟨rfl, hb1⟩
    have B1 := Lib.hid hb1
    clear hb1
    go_wp2_with fail
    refine (great_any _ l w1 (HA.out.below B1.out)).mono ?_
    rintro e w2 ⟨rfl, hb2⟩
    have B2 : Hid (Below w.heap.size w w2) := B1.out.trans (hb2.mono B1.out.size)
    clear hb2 B1
    rw [HG.out]
    go_upto_region 3 with (fail)
    go_cut [5] (fun v wc => ∃ rm : Nat, 1 ≤ rm ∧ rm ≤ 40 ∧ v = .int .i64 rm ∧ w2 = wc)
    case first =>
      by_cases hrp : 0 < room
      all_goals
        go_wp2
        go_meet
        case rel =>
          first
          | exact ⟨1, by omega, by omega, rfl, rfl⟩
          | exact ⟨(1 + room % 40).toNat, by omega, by omega, by rw [Int.toNat_of_nonneg (by omega)], rfl⟩
    case rest =>
      obtain ⟨rm, hrm1, hrm2, rfl, rfl⟩ := hcut
      go_wp2_with fail
      refine (New_own (B := w.heap.size) rm w2 B2.out.size (by omega) (by omega)).mono ?_
      rintro e w3 ⟨rfl, hq3, hb3⟩
      have B3 : Hid (QOwn w.heap.size w3 w2.heap.size rm false [] ∧ Below w.heap.size w w3) := ⟨hq3, B2.out.trans (hb3.mono B2.out.size)⟩
      clear hq3 hb3 B2
      generalize w2.heap.size = q at *
      go_wp2_with fail
      obtain ⟨w4, hw4⟩ : ∃ w4, w3.alloc (.cells #[.slice none 0 0, .int .i64 rm, .bool false] 32) = w4 := ⟨_, rfl⟩
      have B4 : Hid (∃ g, Two w w4 q w3.heap.size rm false g none []) := by
        rw [← hw4]; exact Two.start B3.out.1 B3.out.2
      rw [hw4]
      clear hw4 B3
      generalize w3.heap.size = mb at *
      go_loopw [38] (fun i wr => ∃ (k : Nat) (en : Bool) (g gm : Option Nat) (xs : List Int), k ≤ l.length ∧ i = .int .i64 k ∧ Hid (Two w wr q mb rm en g gm xs)) (fun i _ => l.length - (intOf i).toNat)
      case atStart =>
        obtain ⟨g, hg⟩ := B4.out
        exact ⟨0, false, g, none, [], Nat.zero_le _, rfl, hg⟩
      case round =>
        obtain ⟨k, en, g, gm, xs, hk, rfl, HS⟩ := hrel
        have hxr := HS.out.le
        by_cases hlt : k < l.length
        · obtain ⟨a, ha⟩ : ∃ a, l[k]? = some a := ⟨_, List.getElem?_eq_getElem hlt⟩
          have hza := hz80.out a (List.mem_of_getElem? ha)
          obtain ⟨_, A', c', e', hacts⟩ := HA.out
          injection e' with e1 _ e3
          subst e1 e3
          obtain ⟨b, o, rfl, hx⟩ := hacts (by omega)
          clear hacts
          have HAT := Lib.hid (hx k a ha)
          have hat := HAT.out.below HS.out.below
          have k0 := hat.kind
          have k1 := hat.num
          have k2 := hat.list
          clear hat hx ha
          obtain ⟨kd, nm, AA, cc, zs⟩ := a
          simp only at k0 k1 k2 hza
          go_upto_block 2 with (fail)
          obtain ⟨cb, hcb⟩ : ∃ cb, wr.heap.size = cb := ⟨_, rfl⟩
          have hact := HS.out.acting #[.int .i64 kd, .int .i64 nm, .slice AA zs.length cc]
          rw [hcb] at hact ⊢
          obtain ⟨w5, hw5⟩ : ∃ w5, wr.alloc (.cells #[.int .i64 kd, .int .i64 nm, .slice AA zs.length cc] 34) = w5 := ⟨_, rfl⟩
          rw [hw5] at hact ⊢
          clear hcb hw5
          have j0 : w5.cell? ⟨cb, 0, none⟩ = some (.int .i64 kd) := hact.act.cell 0
          have j1 : w5.cell? ⟨cb, 1, none⟩ = some (.int .i64 nm) := hact.act.cell 1
          have j2 : w5.cell? ⟨cb, 2, none⟩ = some (.slice AA zs.length cc) := hact.act.cell 2
          have HC := Lib.hid hact
          clear hact k0 k1 k2
          go_cut [10] (fun _ wc => ∃ (en' : Bool) (g' gm' : Option Nat) (xs' : List Int), Hid (Two w wc q mb rm en' g' gm' xs'))
          case first =>
            by_cases hk0 : kd = 0
            · have hb0 : (kd == 0) = true := by simpa using hk0
              clear hk0
              have hput := A_put (HC.out.drew) (by omega) (by omega) ((HAT.out.below HC.out.drew.below).rd) (by simp only; omega)
              have hkz : putN rm en xs.length zs.length ≤ rm - xs.length := putN_le _ _ _ _
              have hrput : ∀ (W : World) (g1 : Option Nat) (xq : List Int), Acting w W q mb cb rm en en g1 gm xq xs #[.int .i64 kd, .int .i64 nm, .slice AA zs.length cc] → Calls Try.prog 13 #[.pointer (some ⟨mb, 0, none⟩), .slice AA zs.length cc] W fun e w' => e = .returned (.int .i64 (putN rm en xs.length zs.length)) ∧ ∃ gm', Hid (Acting w w' q mb cb rm en en g1 gm' xq (xs ++ zs.take (putN rm en xs.length zs.length)) #[.int .i64 kd, .int .i64 nm, .slice AA zs.length cc]) :=
                fun W g1 xq hA => A_rput hA (by omega) (by omega) (fun W' hb => (HAT.out.below hb).rd) (by omega)
              simp only at hput
              generalize putN rm en xs.length zs.length = kp at *
              have hyl : (zs.take kp).length ≤ kp := List.length_take_le _ _
              generalize zs.take kp = ys at *
              have HPut := Lib.hid hput
              have HRPut := Lib.hid hrput
              clear hput hrput
              go_wp2_with fail
              go_region_held3 (fun w' => w'.cell? ⟨cb, 2, none⟩ = some (.slice AA zs.length cc)) (go_keep) (first
                | (go_at_call 12; refine HPut.out.mono ?_; rintro e w6 ⟨rfl, g1, H6, c6⟩; have c6' : w6.cell? ⟨cb, 2, none⟩ = some (.slice AA zs.length cc) := c6; clear c6)
                | (go_at_call 13; refine (HRPut.out _ _ _ (by exact H6.out)).mono ?_; rintro e w7 ⟨rfl, gm1, H7⟩; have c7' : w7.cell? ⟨cb, 2, none⟩ = some (.slice AA zs.length cc) := H7.out.act.cell 2))
              all_goals
                go_wp2
                go_meet
                case rel => exact ⟨en, g1, gm1, xs ++ ys, H7.out.two (by rw [List.length_append]; omega)⟩
            · have hb0 : (kd == 0) = false := by simpa using hk0
              clear hk0
              by_cases hk1 : kd = 1
              · have hb1 : (kd == 1) = true := by simpa using hk1
                clear hk1
                have hop := A_take HC.out.drew (by omega) nm
                have hrop : ∀ (W : World) (g1 : Option Nat) (xq : List Int) (gt : Option Nat) (v : Value), Acting w W q mb cb rm en en g1 gm xq xs #[.int .i64 kd, .int .i64 nm, .slice AA zs.length cc] → Row W 3 gt v (iv (xs.take nm.toNat)) → Calls Try.prog 16 #[.pointer (some ⟨mb, 0, none⟩), .int .i64 nm] W fun e w' => ∃ Ar cr gm', e = .returned (.slice Ar (xs.take nm.toNat).length cr) ∧ Hid (Acting w w' q mb cb rm en en g1 gm' xq (xs.drop nm.toNat) #[.int .i64 kd, .int .i64 nm, .slice AA zs.length cc] ∧ Rd w' (.slice Ar (xs.take nm.toNat).length cr) (iv (xs.take nm.toNat)) ∧ Rd w' v (iv (xs.take nm.toNat))) :=
                  fun W g1 xq gt v hA hr => A_rtake hA (by omega) nm hr
                have hyl : (xs.take nm.toNat).length ≤ xs.length := by simp; omega
                have hrl : (xs.drop nm.toNat).length ≤ xs.length := by simp
                generalize xs.take nm.toNat = ys at *
                generalize xs.drop nm.toNat = rs at *
                have HOp := Lib.hid hop
                have HROp := Lib.hid hrop
                clear hop hrop
                go_wp2_with fail
                go_region_held3 (fun w' => w'.cell? ⟨cb, 1, none⟩ = some (.int .i64 nm)) (go_keep) (first
                  | (go_at_call 15; refine HOp.out.mono ?_; rintro e w6 ⟨At, ct, gt, g1, rfl, H6, c6⟩; have c6' : w6.cell? ⟨cb, 1, none⟩ = some (.int .i64 nm) := c6; clear c6)
                  | (go_at_call 16; refine (HROp.out _ _ _ _ _ (by exact H6.out.1) (by exact H6.out.2)).mono ?_; rintro e w7 ⟨Ar, cr, gm1, rfl, H7⟩; have c7' : w7.cell? ⟨cb, 1, none⟩ = some (.int .i64 nm) := H7.out.1.act.cell 1)
                  | (go_at_call 14; refine (Same_eq ys _ _ _ _ _ _ _ (by exact H7.out.2.2) (by exact H7.out.2.1) (by omega)).mono ?_; rintro e w8 ⟨rfl, nf, rfl⟩))
                all_goals
                  go_wp2
                  go_meet
                  case rel => exact ⟨en, g1, gm1, rs, (H7.out.1.two (by omega)).drewN nf⟩
              · have hb1 : (kd == 1) = false := by simpa using hk1
                clear hk1
                by_cases hk2 : kd = 2
                · have hb2 : (kd == 2) = true := by simpa using hk2
                  clear hk2
                  have hop := A_peek HC.out.drew (by omega) nm
                  have hrop : ∀ (W : World) (g1 : Option Nat) (xq : List Int) (gt : Option Nat) (v : Value), Acting w W q mb cb rm en en g1 gm xq xs #[.int .i64 kd, .int .i64 nm, .slice AA zs.length cc] → Row W 3 gt v (iv (xs.take nm.toNat)) → Calls Try.prog 18 #[.pointer (some ⟨mb, 0, none⟩), .int .i64 nm] W fun e w' => ∃ Ar cr gm', e = .returned (.slice Ar (xs.take nm.toNat).length cr) ∧ Hid (Acting w w' q mb cb rm en en g1 gm' xq xs #[.int .i64 kd, .int .i64 nm, .slice AA zs.length cc] ∧ Rd w' (.slice Ar (xs.take nm.toNat).length cr) (iv (xs.take nm.toNat)) ∧ Rd w' v (iv (xs.take nm.toNat))) :=
                    fun W g1 xq gt v hA hr => (A_rpeek hA (by omega) nm hr).mono fun e w1 ⟨Ar, cr, he, hx⟩ => ⟨Ar, cr, gm, he, hx⟩
                  have hyl : (xs.take nm.toNat).length ≤ xs.length := by simp; omega
                  have hrl : (xs.drop nm.toNat).length ≤ xs.length := by simp
                  generalize xs.take nm.toNat = ys at *
                  generalize xs.drop nm.toNat = rs at *
                  have HOp := Lib.hid hop
                  have HROp := Lib.hid hrop
                  clear hop hrop
                  go_wp2_with fail
                  go_region_held3 (fun w' => w'.cell? ⟨cb, 1, none⟩ = some (.int .i64 nm)) (go_keep) (first
                    | (go_at_call 17; refine HOp.out.mono ?_; rintro e w6 ⟨At, ct, gt, rfl, H6, c6⟩; have c6' : w6.cell? ⟨cb, 1, none⟩ = some (.int .i64 nm) := c6; clear c6)
                    | (go_at_call 18; refine (HROp.out _ _ _ _ _ (by exact H6.out.1) (by exact H6.out.2)).mono ?_; rintro e w7 ⟨Ar, cr, gm1, rfl, H7⟩; have c7' : w7.cell? ⟨cb, 1, none⟩ = some (.int .i64 nm) := H7.out.1.act.cell 1)
                    | (go_at_call 14; refine (Same_eq ys _ _ _ _ _ _ _ (by exact H7.out.2.2) (by exact H7.out.2.1) (by omega)).mono ?_; rintro e w8 ⟨rfl, nf, rfl⟩))
                  all_goals
                    go_wp2
                    go_meet
                    case rel => exact ⟨en, g, gm1, xs, (H7.out.1.two (by omega)).drewN nf⟩
                · have hb2 : (kd == 2) = false := by simpa using hk2
                  clear hk2
                  by_cases hk3 : kd = 3
                  · have hb3 : (kd == 3) = true := by simpa using hk3
                    clear hk3
                    go_wp2_with fail
                    refine (A_end HC.out).mono ?_
                    rintro e w6 ⟨rfl, H6⟩
                    obtain ⟨vm, hbm, _⟩ := H6.out.ref
                    have c2 : w6.cell? ⟨mb, 2, none⟩ = some (.bool en) := hbm.cell 2
                    have f2 := hbm.frozen 2
                    clear hbm
                    go_wp2
                    go_meet
                    case rel => exact ⟨true, g, gm, xs, (H6.out.endM).two (by omega)⟩
                  · have hb3 : (kd == 3) = false := by simpa using hk3
                    clear hk3
                    go_wp2
                    go_meet
                    case rel => exact ⟨en, g, gm, xs, HC.out.two (by omega)⟩
          case rest =>
            obtain ⟨en1, g1, gm1, xs1, HT⟩ := hcut
            clear HC HS hxr HAT j0 j1 j2
            obtain ⟨vm, hbm, hrm⟩ := HT.out.ref
            obtain ⟨Am, cm, rfl⟩ := hrm.form
            rw [List.length_map] at hbm
            have HM := Lib.hid hbm
            clear hbm hrm
            cases en1 with
            | false =>
              have PO : ∀ n, Calls Try.prog 23 #[.pointer (some ⟨q, 0, none⟩)] (wc.drewN n) fun e w' => e = .returned (.bool false) ∧ wc.drewN n = w' := fun n => Over_at (HT.out.que.drewN n)
              have c0 : wc.cell? ⟨mb, 0, none⟩ = some (.slice Am xs1.length cm) := HM.out.cell 0
              have c2 : wc.cell? ⟨mb, 2, none⟩ = some (.bool false) := HM.out.cell 2
              have PL := fun n => Len_at (HT.out.que.drewN n)
              have PR := fun n => Room_at (HT.out.que.drewN n) (by omega) (by rw [List.length_map]; exact HT.out.le)
              have PM := fun n => RRoom_at (HT.out.ref.drewN n) (by omega) (by rw [List.length_map]; exact HT.out.le)
              rw [List.length_map] at PL PR PM
              have HPL := Lib.hid PL
              have HPR := Lib.hid PR
              have HPM := Lib.hid PM
              have HPO := Lib.hid PO
              clear PL PR PM PO
              go_wp2_with fail
              go_quiet ((first
                | (go_at_call 20; exact quiet_l (HPL.out _))
                | (go_at_call 21; exact Calls.quiet_of (HPR.out _))
                | (go_at_call 22; exact Calls.quiet_of (HPM.out _))
                | (go_at_call 23; exact quiet_l (HPO.out _))))
              go_wp2
              go_roundw
              case rel => exact ⟨k + 1, false, g1, gm1, xs1, by omega, by go_num, HT.out.drewN _⟩
              case measure => simp [intOf]; omega
            | true =>
              by_cases hx0 : xs1 = []
              · subst hx0
                have PO : ∀ n, Calls Try.prog 23 #[.pointer (some ⟨q, 0, none⟩)] (wc.drewN n) fun e w' => e = .returned (.bool true) ∧ wc.drewN n = w' := fun n => Over_at (HT.out.que.drewN n)
                have c0 : wc.cell? ⟨mb, 0, none⟩ = some (.slice Am 0 cm) := HM.out.cell 0
                have c2 : wc.cell? ⟨mb, 2, none⟩ = some (.bool true) := HM.out.cell 2
                have PL := fun n => Len_at (HT.out.que.drewN n)
                have PR := fun n => Room_at (HT.out.que.drewN n) (by omega) (by rw [List.length_map]; exact HT.out.le)
                have PM := fun n => RRoom_at (HT.out.ref.drewN n) (by omega) (by rw [List.length_map]; exact HT.out.le)
                rw [List.length_map] at PL PR PM
                have HPL := Lib.hid PL
                have HPR := Lib.hid PR
                have HPM := Lib.hid PM
                have HPO := Lib.hid PO
                clear PL PR PM PO
                go_wp2_with fail
                go_quiet ((first
                  | (go_at_call 20; exact quiet_l (HPL.out _))
                  | (go_at_call 21; exact Calls.quiet_of (HPR.out _))
                  | (go_at_call 22; exact Calls.quiet_of (HPM.out _))
                  | (go_at_call 23; exact quiet_l (HPO.out _))))
                go_wp2
                go_roundw
                case rel => exact ⟨k + 1, true, g1, gm1, [], by omega, by go_num, HT.out.drewN _⟩
                case measure => simp [intOf]; omega
              · have PO : ∀ n, Calls Try.prog 23 #[.pointer (some ⟨q, 0, none⟩)] (wc.drewN n) fun e w' => e = .returned (.bool false) ∧ wc.drewN n = w' := by
                  intro n
                  have := Over_at (HT.out.que.drewN n)
                  rwa [show (true && (iv xs1).isEmpty) = false by cases xs1 <;> simp_all] at this
                have hxl : ((xs1.length : Int) == 0) = false := by
                  cases xs1
                  · exact absurd rfl hx0
                  · simp; omega
                clear hx0
                have c0 : wc.cell? ⟨mb, 0, none⟩ = some (.slice Am xs1.length cm) := HM.out.cell 0
                have c2 : wc.cell? ⟨mb, 2, none⟩ = some (.bool true) := HM.out.cell 2
                have PL := fun n => Len_at (HT.out.que.drewN n)
                have PR := fun n => Room_at (HT.out.que.drewN n) (by omega) (by rw [List.length_map]; exact HT.out.le)
                have PM := fun n => RRoom_at (HT.out.ref.drewN n) (by omega) (by rw [List.length_map]; exact HT.out.le)
                rw [List.length_map] at PL PR PM
                have HPL := Lib.hid PL
                have HPR := Lib.hid PR
                have HPM := Lib.hid PM
                have HPO := Lib.hid PO
                clear PL PR PM PO
                go_wp2_with fail
                go_quiet ((first
                  | (go_at_call 20; exact quiet_l (HPL.out _))
                  | (go_at_call 21; exact Calls.quiet_of (HPR.out _))
                  | (go_at_call 22; exact Calls.quiet_of (HPM.out _))
                  | (go_at_call 23; exact quiet_l (HPO.out _))))
                go_wp2
                go_roundw
                case rel => exact ⟨k + 1, true, g1, gm1, xs1, by omega, by go_num, HT.out.drewN _⟩
                case measure => simp [intOf]; omega
        · obtain rfl : k = l.length := by omega
          obtain ⟨vm, hbm, hrm⟩ := HS.out.ref
          obtain ⟨Am, cm, rfl⟩ := hrm.form
          rw [List.length_map] at hbm hrm
          have c0 : wr.cell? ⟨mb, 0, none⟩ = some (.slice Am xs.length cm) := hbm.cell 0
          have hlt0 := hbm.lt
          have hall : Calls Try.prog 24 #[.pointer (some ⟨q, 0, none⟩)] wr.drew (AllGot wr.drew xs) := all_of (.pointer (some ⟨q, 0, none⟩)) xs (by omega) wr.drew (All_at (QAt.alloc (w := wr.drew) HS.out.que _) (by omega))
          have HM := Lib.hid (And.intro hbm hrm)
          have HAll := Lib.hid hall
          clear hbm hrm hall
          go_wp2_with fail
          go_region_held3 (fun w' => w'.cell? ⟨mb, 0, none⟩ = some (.slice Am xs.length cm)) (go_keep) (first
            | (go_at_call 24; refine HAll.out.mono ?_; rintro e w6 ⟨At, ct, rfl, hrd6, hb6⟩; have c6' : w6.cell? ⟨mb, 0, none⟩ = some (.slice Am xs.length cm) := (hb6.cell (p := ⟨mb, 0, none⟩) hlt0).trans c0; have H6 : Hid (Rd w6 (.slice At xs.length ct) (iv xs) ∧ Rd w6 (.slice Am xs.length cm) (iv xs) ∧ Below w.heap.size w w6) := ⟨hrd6, (Row.below (w := wr.drew) HM.out.2 hb6 (fun b e => HM.out.2.lt e)).rd, HS.out.below.drew.trans (hb6.mono HS.out.below.size)⟩; clear hrd6 hb6)
            | (go_at_call 14; refine (Same_eq xs _ _ _ _ _ _ _ (by exact H6.out.1) (by exact H6.out.2.1) (by omega)).mono ?_; rintro e w8 ⟨rfl, nf, rfl⟩))
          all_goals
            go_wp2
            go_ret
            have hb := H6.out.2.2
            exact ⟨rfl, ⟨hb.os, hb.tape, hb.output, hb.size, hb.block⟩⟩
end Go.Proofs.Ytdlcilhgpnlhjaa
