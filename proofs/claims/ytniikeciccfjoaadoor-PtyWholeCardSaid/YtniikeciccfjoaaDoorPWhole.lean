/-
  cuecardlaw06.PtyWhole answers true for every room, all bytes and every two numbers.
  Conditions: the package's table holds what its initialiser lays (Oth).
-/
import Derived.Test.YtniikeciccfjoaaDoorPAlive
import Derived.Test.YtniikeciccfjoaaDoorStrCat
import Derived.Deep.DeepCutAuto
import Derived.Deep.CutBlock
namespace Go.Proofs.YtniikeciccfjoaaDoor
open Go.RowKit

/-- What waits: the bytes from r on, up to d. -/
def span (bs : List Nat) (r d : Nat) : List Nat := (bs.drop r).take (d - r)
theorem span_len {bs : List Nat} {r d : Nat} (h : d ≤ bs.length) : (span bs r d).length = d - r := by
  unfold span; simp; omega
theorem span_put (bs : List Nat) {r d a k : Nat} (hr : r ≤ d) (hk : k ≤ a) : span bs r d ++ ((bs.drop d).take a).take k = span bs r (d + k) := by
  unfold span
  rw [List.take_take, Nat.min_eq_left hk, show d + k - r = (d - r) + k by omega, List.take_add, List.drop_drop, show r + (d - r) = d by omega]
theorem span_take (bs : List Nat) {r d n : Nat} : bs.take r ++ (span bs r d).take n = bs.take (r + min n (d - r)) := by
  unfold span
  rw [List.take_take, List.take_add]
theorem span_drop (bs : List Nat) {r d n : Nat} (hr : r ≤ d) : (span bs r d).drop n = span bs (r + min n (d - r)) d := by
  unfold span
  rcases Nat.le_total n (d - r) with h | h
  · rw [List.drop_take, List.drop_drop, Nat.min_eq_left h, show d - (r + n) = d - r - n by omega]
  · rw [List.drop_of_length_le (by simp; omega), Nat.min_eq_right h, show d - (r + (d - r)) = 0 by omega, List.take_zero]
theorem span_none (bs : List Nat) (r : Nat) : span bs r r = [] := by unfold span; simp

set_option maxHeartbeats 4000000 in
set_option maxRecDepth 100000 in
theorem whole_true (room : Int) (A : Option Addr) (n c : Nat) (l : List Nat) (x y : Int) (w : World) (hr : Rd w (.slice A n c) (bv l)) (hn : n ≤ 9223372036854775807) (h1 : room ≤ 9223372036854775807) (h2 : x ≤ 9223372036854775807) (h3 : y ≤ 9223372036854775807) (ho : Oth w) :
    Calls Tryd.prog 7 #[.int .i64 room, .slice A n c, .agg #[.int .i64 x, .int .i64 y]] w fun e w' => e = .returned (.bool true) ∧ Below w.heap.size w w' := by
  obtain ⟨m, hm1, hm2, hmin⟩ : ∃ m : Nat, m ≤ n ∧ m ≤ 200 ∧ min (n : Int) 200 = (m : Int) := ⟨min n 200, Nat.min_le_left _ _, Nat.min_le_right _ _, by omega⟩
  obtain ⟨A1, hsl, hr1⟩ := run_upto hr hm1
  have hbl : (l.take m).length = m := by have := hr1.bytes; omega
  generalize l.take m = bs at *
  obtain ⟨z, hz1, hmax⟩ : ∃ z : Nat, z ≤ 9223372036854775807 ∧ max 0 room = (z : Int) := ⟨room.toNat, by omega, by omega⟩
  obtain ⟨rm, hrm1, hrm2, hrm3⟩ : ∃ rm : Nat, 1 ≤ rm ∧ rm ≤ 30 ∧ 1 + (z : Int) % 30 = (rm : Int) := ⟨1 + z % 30, by omega, by omega, by omega⟩
  obtain ⟨zx, hx1, hxm⟩ : ∃ z : Nat, z ≤ 9223372036854775807 ∧ max 0 x = (z : Int) := ⟨x.toNat, by omega, by omega⟩
  obtain ⟨px, hpx1, hpx2, hpx3⟩ : ∃ rm : Nat, 1 ≤ rm ∧ rm ≤ 9 ∧ 1 + (zx : Int) % 9 = (rm : Int) := ⟨1 + zx % 9, by omega, by omega, by omega⟩
  obtain ⟨zy, hy1, hym⟩ : ∃ z : Nat, z ≤ 9223372036854775807 ∧ max 0 y = (z : Int) := ⟨y.toNat, by omega, by omega⟩
  obtain ⟨py, hpy1, hpy2, hpy3⟩ : ∃ rm : Nat, 1 ≤ rm ∧ rm ≤ 9 ∧ 1 + (zy : Int) % 9 = (rm : Int) := ⟨1 + zy % 9, by omega, by omega, by omega⟩
  obtain ⟨wb, hwb⟩ : ∃ wb, w.alloc (.cells #[.int .i64 x, .int .i64 y] 52) = wb := ⟨_, rfl⟩
  have hbb : Below w.heap.size w wb := by rw [← hwb]; exact (Below.refl _ w).alloc (Nat.le_refl _) _
  have hblk : Blk wb w.heap.size 52 #[.int .i64 x, .int .i64 y] := by rw [← hwb]; exact Blk.new w _ _
  have HB := Lib.hid (And.intro hbb (And.intro hblk (And.intro (ho.below hbb) (hr1.kept hbb))))
  have HL := Lib.hid hbl
  clear hr hr1 ho hbb hblk hbl h1 h2 h3
  go_enter Tryd.func7, Tryd.ntmps7
  go_wp2_with fail
  clear hwb hsl hmin hmax hrm3
  generalize hBB : w.heap.size = B at *
  have HBB := Lib.hid hBB
  clear hBB
  refine (PNew_yes rm wb (by omega) (by omega)).mono ?_
  rintro e w1 ⟨rfl, hq1, hb1⟩
  have B1 : Hid (POwn wb w1 wb.heap.size rm (two ⟨false, []⟩ ⟨false, []⟩)) := (POwn.new (Below.refl _ wb) hq1 hb1).congr rfl rfl
  clear hq1 hb1
  generalize wb.heap.size = p at *
  go_wp2_with fail
  refine (alive_true w1 (HB.out.2.2.1.below B1.out.below)).mono ?_
  rintro e w2 ⟨rfl, hb2⟩
  have B2 : Hid (POwn wb w2 p rm (two ⟨false, []⟩ ⟨false, []⟩)) := B1.out.keep hb2
  clear hb2 B1
  go_wp2_with fail
  go_loopw [9, 10, 11, 36] (fun v9 v10 _ i wr => ∃ (k d r N : Nat) (A' : Option Addr) (c' : Nat), k ≤ 1000 ∧ i = .int .i64 k ∧ r ≤ d ∧ d ≤ m ∧ N + d = m ∧ v9 = .slice A' N c' ∧ v10 = .string (str (bs.take r)) ∧ Hid (min k m ≤ r ∧ Rd wb (.slice A' N c') (bv (bs.drop d)) ∧ POwn wb wr p rm (two ⟨false, []⟩ ⟨false, span bs r d⟩))) (fun _ _ _ i _ => 1000 - (intOf i).toNat)
  case atStart =>
    exact ⟨0, 0, 0, m, A1, c, by omega, rfl, Nat.le_refl _, Nat.zero_le _, rfl, rfl, rfl, by omega, HB.out.2.2.2, B2.out⟩
  case round =>
    obtain ⟨k, d, r, N, A', c', hk, rfl, hrd, hdm, hN, rfl, rfl, HS⟩ := hrel
    by_cases hlt : k < 1000
    · obtain ⟨a, ha1, ha2, hamin⟩ : ∃ a : Nat, a ≤ N ∧ Hid (a = min N px) ∧ min (N : Int) (px : Int) = (a : Int) := ⟨min N px, Nat.min_le_left _ _, rfl, by omega⟩
      obtain ⟨A2, hsl2, hr2⟩ := run_upto HS.out.2.1 ha1
      have hlen : (span bs r d).length = d - r := span_len (by rw [HL.out]; omega)
      obtain ⟨j, hj⟩ : ∃ j, putN rm false (d - r) a = j := ⟨_, rfl⟩
      have hjv : j = min a (rm - (d - r)) := by rw [← hj]; rfl
      have hja : j ≤ a := by omega
      have hjN : j ≤ N := by omega
      have PW : Hid (Calls Tryd.prog 13 #[.pointer (some ⟨p, 0, none⟩), .int .i64 1, .slice A2 a c'] wr fun e w' => e = .returned (.int .i64 j) ∧ POwn wb w' p rm (two ⟨false, []⟩ ⟨false, span bs r (d + j)⟩)) := by
        have h := WriteOwn HS.out.2.2 1 (by omega) (ys := (bs.drop d).take a) (hr2.kept HS.out.2.2.below) (by omega)
        refine h.mono ?_
        rintro e w' ⟨he, hp, -⟩
        have e1 : (two ⟨false, []⟩ ⟨false, span bs r d⟩ 1).xs = span bs r d := rfl
        have e2 : (two ⟨false, []⟩ ⟨false, span bs r d⟩ 1).en = false := rfl
        rw [e1, e2, hlen, hj] at he hp
        exact ⟨he, hp.congr rfl (by show Way.mk false (span bs r d ++ ((bs.drop d).take a).take j) = ⟨false, span bs r (d + j)⟩; rw [span_put bs hrd hja])⟩
      obtain ⟨A3, c3, N3, hsl3, hr3, hN3⟩ := run_from HS.out.2.1 hjN
      rw [List.drop_drop] at hr3
      obtain ⟨t, ht⟩ : ∃ t, min py (d + j - r) = t := ⟨_, rfl⟩
      have hlen2 : (span bs r (d + j)).length = d + j - r := span_len (by rw [HL.out]; omega)
      have hlen3 : ((span bs r (d + j)).take py).length = t := by rw [List.length_take, hlen2, ht]
      have PR : Hid (∀ w1, POwn wb w1 p rm (two ⟨false, []⟩ ⟨false, span bs r (d + j)⟩) → Calls Tryd.prog 14 #[.pointer (some ⟨p, 0, none⟩), .int .i64 0, .int .i64 py] w1 fun e w' => ∃ At ct, e = .returned (.slice At t ct) ∧ Rd w' (.slice At t ct) (bv ((span bs r (d + j)).take py)) ∧ POwn wb w' p rm (two ⟨false, []⟩ ⟨false, span bs (r + t) (d + j)⟩)) := by
        intro w1 hp1
        have h := ReadOwn hp1 HB.out.2.2.1 0 (by omega) (py : Int)
        refine h.mono ?_
        rintro e w' ⟨At, ct, he, hrr, hp⟩
        have e1 : (two ⟨false, []⟩ ⟨false, span bs r (d + j)⟩ (1 - 0)).xs = span bs r (d + j) := rfl
        have e2 : (two ⟨false, []⟩ ⟨false, span bs r (d + j)⟩ (1 - 0)).en = false := rfl
        rw [e1, e2, Int.toNat_natCast] at hp
        rw [e1, Int.toNat_natCast, hlen3] at he hrr
        exact ⟨At, ct, he, hrr, hp.congr rfl (by show Way.mk false ((span bs r (d + j)).drop py) = ⟨false, span bs (r + t) (d + j)⟩; rw [span_drop bs (by omega), ht])⟩
      have hcs : str (bs.take r) ++ str ((span bs r (d + j)).take py) = str (bs.take (r + t)) := by rw [str_app, span_take, ht]
      have hsz : (str (bs.take r)).size + (str ((span bs r (d + j)).take py)).size ≤ 9223372036854775807 := by rw [str_len, str_len, hlen3, List.length_take]; omega
      have HI : Hid (min (k + 1) m ≤ r + t ∧ r + t ≤ d + j ∧ d + j ≤ m ∧ N3 + (d + j) = m ∧ Rd wb (.slice A3 N3 c3) (bv (bs.drop (d + j)))) := by
        have h0 := HS.out.1
        have h5 := ha2.out
        exact ⟨by omega, by omega, by omega, by omega, hr3⟩
      have cx : wr.cell? ⟨B, 0, none⟩ = some (.int .i64 x) := (HB.out.2.1.keep (HS.out.2.2.below.block B HB.out.2.1.lt)).cell 0
      have HJ := Lib.hid (And.intro hj (And.intro hjv (And.intro ht (And.intro hN3 (And.intro hlen (And.intro hlen2 hlen3))))))
      clear hj hjv ht hN3 hlen hlen2 hlen3 hr2 hr3
      obtain ⟨sq, hsq⟩ : ∃ sq, str ((span bs r (d + j)).take py) = sq := ⟨_, rfl⟩
      rw [hsq] at hcs hsz
      have HQ := Lib.hid hsq
      have HN := Lib.hid hN
      clear hsq hN
      go_wp2_with fail
      refine PW.out.mono ?_
      rintro e w3 ⟨rfl, hp3⟩
      have cy : w3.cell? ⟨B, 1, none⟩ = some (.int .i64 y) := (HB.out.2.1.keep (hp3.below.block B HB.out.2.1.lt)).cell 1
      have B3 := Lib.hid hp3
      clear hp3 PW cx
      go_wp2_with fail
      refine (PR.out w3 B3.out).mono ?_
      rintro e w4 ⟨At, ct, rfl, hr4, hp4⟩
      have hcv := run_str hr4
      rw [HQ.out] at hcv
      have B4 := Lib.hid hp4
      clear hp4 hr4 PR cy
      go_wp2
      go_roundw
      case rel =>
        obtain ⟨i1, i2, i3, i4, i5⟩ := HI.out
        exact ⟨k + 1, d + j, r + t, N3, A3, c3, by omega, by go_num, i2, i3, i4, rfl, rfl, i1, i5, B4.out⟩
      case measure => simp [intOf]; omega
    · obtain rfl : k = 1000 := by omega
      have h0 := HS.out.1
      obtain rfl : r = m := by omega
      obtain rfl : d = r := by omega
      obtain rfl : N = 0 := by omega
      have hbs : bs.take d = bs := List.take_of_length_le (by rw [HL.out]; exact Nat.le_refl _)
      rw [hbs]
      have HP : Hid (POwn wb wr p rm (two ⟨false, []⟩ ⟨false, []⟩)) := by have := HS.out.2.2; rw [span_none] at this; exact this
      clear hbs h0 hN hk hrd hdm hlt hxm hym hpx3 hpy3
      have PH : Hid (Calls Tryd.prog 12 #[.pointer (some ⟨p, 0, none⟩), .int .i64 1] wr fun e w' => e = .returned (.tuple #[]) ∧ POwn wb w' p rm (two ⟨false, []⟩ ⟨true, []⟩)) :=
        (HangOwn HP.out 1 (by omega)).mono fun e w' ⟨he, hp⟩ => ⟨he, hp.congr rfl rfl⟩
      go_wp2_with fail
      refine PH.out.mono ?_
      rintro e w3 ⟨rfl, hp3⟩
      have hcv := run_str (HB.out.2.2.2.kept hp3.below)
      have P0 : Hid (Calls Tryd.prog 15 #[.pointer (some ⟨p, 0, none⟩), .int .i64 0] w3 fun e w' => e = .returned (.bool true) ∧ w3 = w') := OverOwn hp3 HB.out.2.2.1 0 (by omega)
      have P1 : Hid (Calls Tryd.prog 15 #[.pointer (some ⟨p, 0, none⟩), .int .i64 1] w3 fun e w' => e = .returned (.bool false) ∧ w3 = w') := OverOwn hp3 HB.out.2.2.1 1 (by omega)
      have HE : Hid (Below B w w3) := HB.out.1.trans (hp3.below.mono (Nat.le_of_lt HB.out.2.1.lt))
      clear hp3 PH HP
      go_wp2_with fail
      refine P0.out.mono ?_
      rintro e w' ⟨rfl, rfl⟩
      go_wp2_with fail
      refine P1.out.mono ?_
      rintro e w' ⟨rfl, rfl⟩
      go_wp2
      go_ret
      exact ⟨rfl, by rw [HBB.out]; exact HE.out⟩
end Go.Proofs.YtniikeciccfjoaaDoor
