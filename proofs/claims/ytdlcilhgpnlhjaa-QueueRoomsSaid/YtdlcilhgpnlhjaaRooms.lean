/-
  cuecardlaw01.QueueRooms answers true for all numbers and every list of acts.
  Conditions: none.
-/
import Derived.Test.YtdlcilhgpnlhjaaOnce
import Derived.Deep.RegionWith
import Derived.Deep.RegionHeld3
import Derived.Deep.DeepCutAuto
namespace Go.Proofs.Ytdlcilhgpnlhjaa
open Go.RowKit

theorem New_num {B : Nat} (n : Int) (w : World) (hB : B ≤ w.heap.size) (h1 : 1 ≤ n) (h2 : n ≤ 65536) :
    Calls Try.prog 11 #[.int .i64 n] w fun e w' => e = .returned (.tuple #[.pointer (some ⟨w.heap.size, 0, none⟩), .int .i64 0]) ∧ ∃ rm : Nat, (rm : Int) = n ∧ QOwn B w' w.heap.size rm false [] ∧ Below w.heap.size w w' := by
  refine (New_int n w hB h1 h2).mono ?_
  rintro e w' ⟨rfl, hq, hb⟩
  exact ⟨rfl, n.toNat, by omega, hq, hb⟩

section
variable {B : Nat} {w w' : World} {q room : Nat} {en : Bool} {xs : List Value}
theorem Room_open (h : QOwn B w q room false xs) (h1 : room ≤ 65536) (h2 : xs.length ≤ room) :
    Calls Try.prog 21 #[.pointer (some ⟨q, 0, none⟩)] w fun e w' => e = .returned (.int .i64 ((room : Int) - xs.length)) ∧ ∃ n, w' = w.drewN n := Room_own h h1 h2
theorem Room_end (h : QOwn B w q room true xs) (h1 : room ≤ 65536) (h2 : xs.length ≤ room) :
    Calls Try.prog 21 #[.pointer (some ⟨q, 0, none⟩)] w fun e w' => e = .returned (.int .i64 0) ∧ ∃ n, w' = w.drewN n := Room_own h h1 h2
theorem Over_open (h : QOwn B w q room false xs) : Calls Try.prog 23 #[.pointer (some ⟨q, 0, none⟩)] w fun e w' => e = .returned (.bool false) ∧ w = w' := Over_own h
theorem Peek_own (h : QOwn B w q room en xs) (hm : xs.length ≤ 65536) (n : Int) :
    Calls Try.prog 17 #[.pointer (some ⟨q, 0, none⟩), .int .i64 n] w (Own 3 w (xs.take n.toNat)) := by
  obtain ⟨g, h1, _⟩ := h
  exact Peek_at h1 hm n

/-- Take, beside a row that lies apart from the queue. -/
def TakeBeside (B : Nat) (w : World) (q room : Nat) (en : Bool) (ys zs : List Value) (gp : Option Nat) (vp : Value) (ps : List Value) (e : Ending) (w' : World) : Prop :=
  ∃ A c, e = .returned (.slice A ys.length c) ∧ Rd w' (.slice A ys.length c) ys ∧ QOwn B w' q room en zs ∧ Below B w w' ∧ Row w' 3 gp vp ps
theorem Take_beside {w0 : World} (h : QOwn B w0 q room en xs) (hB : B ≤ w0.heap.size) (hm : xs.length ≤ 65536) (n : Int) {gp : Option Nat} {vp : Value} {ps : List Value} (hb : Below w0.heap.size w0 w) (hp : Row w 3 gp vp ps) (hgp : ∀ b, gp = some b → w0.heap.size ≤ b) :
    Calls Try.prog 15 #[.pointer (some ⟨q, 0, none⟩), .int .i64 n] w (TakeBeside B w q room en (xs.take n.toNat) (xs.drop n.toNat) gp vp ps) := by
  obtain ⟨g, h1, h2, h3⟩ := h
  have hlt := h1.blk_lt
  have hgl : ∀ b, g = some b → b < w0.heap.size := fun b e => h1.row_lt e
  have h1' : QAt w q g room en xs := h1.below hb hlt hgl
  refine (Take_at h1' hm n).mono ?_
  rintro e w' ⟨v, gt, g', rfl, hrow, hq, ho, hf, hg⟩
  obtain ⟨A, c, rfl⟩ := hrow.form
  have hs := hb.size
  refine ⟨A, c, rfl, hrow.rd, ⟨g', hq, h2, ?_⟩, ho.below (by omega) ?_, hp.only ho ?_⟩
  · rintro b rfl
    rcases hg with rfl | e'
    · exact h3 b rfl
    · cases e'
  · rintro i hi (rfl | e')
    · omega
    · have := h3 i e'.symm; omega
  · rintro b e (rfl | e')
    · have := hgp _ e; omega
    · have := hgp _ e; have := hgl b e'.symm; omega
end

/-- A queue, and a row apart from it. -/
def QR (B : Nat) (W : World) (q room : Nat) (en : Bool) (xs : List Value) (gp : Option Nat) (vp : Value) (ps : List Value) : Prop :=
  ∃ g, QAt W q g room en xs ∧ B ≤ q ∧ (∀ b, g = some b → B ≤ b) ∧ Row W 3 gp vp ps ∧ ∀ b, g = some b → gp ≠ some b

section
variable {B : Nat} {W w' : World} {q room : Nat} {en : Bool} {xs ps : List Value} {gp : Option Nat} {vp : Value}
theorem QR.alloc (h : QR B W q room en xs gp vp ps) (o : Obj) : QR B (W.alloc o) q room en xs gp vp ps := by
  obtain ⟨g, h1, h2, h3, h4, h5⟩ := h
  exact ⟨g, h1.alloc o, h2, h3, h4.alloc o, h5⟩
theorem QR.own (h : QR B W q room en xs gp vp ps) : QOwn B W q room en xs := by
  obtain ⟨g, h1, h2, h3, h4, h5⟩ := h
  exact ⟨g, h1, h2, h3⟩
theorem QR.row (h : QR B W q room en xs gp vp ps) : Row W 3 gp vp ps := by
  obtain ⟨g, h1, h2, h3, h4, h5⟩ := h
  exact h4
theorem QR.turn {w : World} {g g' : Option Nat} {xs' : List Value} {en' : Bool} (h1 : QAt W q g room en xs) (h2 : B ≤ q) (h3 : ∀ b, g = some b → B ≤ b) (h4 : Row W 3 gp vp ps) (h5 : ∀ b, g = some b → gp ≠ some b) (hB : B ≤ W.heap.size)
    (hq : QAt w q g' room en' xs') (ho : Only (fun b => b = q ∨ some b = g) W w) (hg : g' = g ∨ g' = none ∨ ∃ b, g' = some b ∧ W.heap.size ≤ b) : QR B w q room en' xs' gp vp ps ∧ Below B W w := by
  obtain ⟨v, hb, _⟩ := h1
  have hne : gp ≠ some q := h4.ne_ hb (by decide)
  refine ⟨⟨g', hq, h2, ?_, h4.only ho ?_, ?_⟩, ho.below hB ?_⟩
  · rcases hg with rfl | rfl | ⟨b, rfl, hb'⟩
    · exact h3
    · intro b e; cases e
    · intro b' e; cases e; omega
  · rintro b e (rfl | e')
    · exact hne e
    · exact h5 b e'.symm e
  · rcases hg with rfl | rfl | ⟨b, rfl, hb'⟩
    · exact h5
    · intro b e; cases e
    · intro b' e e2; cases e; have := h4.lt e2; omega
  · rintro i hi (rfl | e)
    · omega
    · have := h3 i e.symm; omega
theorem End_qr (h : QR B W q room en xs gp vp ps) (hB : B ≤ W.heap.size) : Calls Try.prog 19 #[.pointer (some ⟨q, 0, none⟩)] W fun e w' => e = .returned (.tuple #[]) ∧ QR B w' q room true xs gp vp ps ∧ Below B W w' := by
  obtain ⟨g, h1, h2, h3, h4, h5⟩ := h
  refine (End_at h1).mono ?_
  rintro e w' ⟨rfl, hq, ho⟩
  exact ⟨rfl, QR.turn h1 h2 h3 h4 h5 hB hq (ho.mono (fun i _ e => .inl e)) (.inl rfl)⟩
/-- What Put leaves, of a queue with a row apart. -/
def PutQR (B : Nat) (w : World) (q room : Nat) (en : Bool) (k : Nat) (zs : List Value) (gp : Option Nat) (vp : Value) (ps : List Value) (e : Ending) (w' : World) : Prop :=
  e = .returned (.int .i64 k) ∧ QR B w' q room en zs gp vp ps ∧ Below B w w'
theorem Put_qr (h : QR B W q room en xs gp vp ps) (hB : B ≤ W.heap.size) (hroom : room ≤ 65536) (hle : xs.length ≤ room)
    {A : Option Addr} {m c : Nat} {ys : List Value} (hr : Rd W (.slice A m c) ys) (hm : m ≤ 9223372036854775807) :
    Calls Try.prog 12 #[.pointer (some ⟨q, 0, none⟩), .slice A m c] W (PutQR B W q room en (putN room en xs.length m) (xs ++ ys.take (putN room en xs.length m)) gp vp ps) := by
  obtain ⟨g, h1, h2, h3, h4, h5⟩ := h
  refine (Put_at h1 hroom hle hr hm).mono ?_
  rintro e w' ⟨g', rfl, hq, ho, hg⟩
  exact ⟨rfl, QR.turn h1 h2 h3 h4 h5 hB hq ho (hg.imp id .inr)⟩
/-- What Take leaves, of a queue with a row apart. -/
def TakeQR (B : Nat) (w : World) (q room : Nat) (en : Bool) (ys zs : List Value) (gp : Option Nat) (vp : Value) (ps : List Value) (e : Ending) (w' : World) : Prop :=
  ∃ A c, e = .returned (.slice A ys.length c) ∧ Rd w' (.slice A ys.length c) ys ∧ QR B w' q room en zs gp vp ps ∧ Below B w w'
theorem Take_qr (h : QR B W q room en xs gp vp ps) (hB : B ≤ W.heap.size) (hm : xs.length ≤ 65536) (n : Int) :
    Calls Try.prog 15 #[.pointer (some ⟨q, 0, none⟩), .int .i64 n] W (TakeQR B W q room en (xs.take n.toNat) (xs.drop n.toNat) gp vp ps) := by
  obtain ⟨g, h1, h2, h3, h4, h5⟩ := h
  refine (Take_at h1 hm n).mono ?_
  rintro e w' ⟨v, gt, g', rfl, hrow, hq, ho, hf, hg⟩
  obtain ⟨A, c, rfl⟩ := hrow.form
  exact ⟨A, c, rfl, hrow.rd, QR.turn h1 h2 h3 h4 h5 hB hq ho (hg.imp id .inl)⟩
end

set_option maxHeartbeats 4000000 in
set_option maxRecDepth 100000 in
theorem rooms_true (room : Int) (hr0 : room ≤ 9223372036854775807) (v : Value) (l : List ActV) (n : Int) (w : World) (h : Acts w v l) :
    Calls Try.prog 8 #[.int .i64 room, v, .int .i64 n] w fun e w' => e = .returned (.bool true) ∧ Below w.heap.size w w' := by
  have HA := Lib.hid h
  obtain ⟨hm, A, c, rfl, -⟩ := h
  by_cases hgt : isGreat l = true
  · have HG := Lib.hid hgt
    clear hgt
    go_enter Try.func8, Try.ntmps8
    go_wp2_with fail
    refine (alive_true w).mono ?_
    rintro e w1 ⟨rfl, hb1⟩
    have B1 := Lib.hid hb1
    clear hb1
    go_wp2_with fail
    refine (great_any _ l w1 (HA.out.below B1.out)).mono ?_
    rintro e w2 ⟨rfl, hb2⟩
    have B2 : Hid (Below w.heap.size w w2) := B1.out.trans (hb2.mono B1.out.size)
    clear hb2 B1
    rw [HG.out]
    go_wp2_with fail
    refine (alive_true w2).mono ?_
    rintro e w3 ⟨rfl, hb3⟩
    have B3 : Hid (Below w.heap.size w w3) := B2.out.trans (hb3.mono B2.out.size)
    clear hb3 B2
    go_wp2
    go_ret
    exact ⟨rfl, B3.out⟩
  · have hgf : isGreat l = false := by simpa using hgt
    have HG := Lib.hid hgf
    clear hgt hgf
    have hl80 : l.length ≤ 80 := by
      have := HG.out
      simp only [isGreat, Bool.or_eq_false_iff, decide_eq_false_iff_not] at this
      omega
    have hz80 : Hid (∀ a ∈ l, a.zs.length ≤ 80) := fun a ha => by
      have := HG.out
      simp only [isGreat, Bool.or_eq_false_iff, List.any_eq_false] at this
      have := this.2 a ha
      simp at this
      omega
    go_enter Try.func8, Try.ntmps8
    go_wp2_with fail
    refine (alive_true w).mono ?_
    rintro e w1 ⟨rfl, hb1⟩
    have B1 := Lib.hid hb1
    clear hb1
    go_wp2_with fail
    refine (great_any _ l w1 (HA.out.below B1.out)).mono ?_
    rintro e w2 ⟨rfl, hb2⟩
    have B2 : Hid (Below w.heap.size w w2) := B1.out.trans (hb2.mono B1.out.size)
    clear hb2 B1
    rw [HG.out]
    go_upto_region 3 with (fail)
    go_cut [7] (fun v wc => ∃ rm : Nat, 1 ≤ rm ∧ rm ≤ 40 ∧ v = .int .i64 rm ∧ w2 = wc)
    case first =>
      by_cases hrp : 0 < room
      all_goals
        go_wp2
        go_meet
        case rel =>
          first
          | exact ⟨1, by omega, by omega, rfl, rfl⟩
          | exact ⟨(1 + room % 40).toNat, by omega, by omega, by rw [Int.toNat_of_nonneg (by omega)], rfl⟩
    case rest =>
      obtain ⟨rm, hrm1, hrm2, rfl, rfl⟩ := hcut
      go_wp2_with fail
      refine (New_own (B := w.heap.size) rm w2 B2.out.size (by omega) (by omega)).mono ?_
      rintro e w3 ⟨rfl, hq3, hb3⟩
      have B3 : Hid (QOwn w.heap.size w3 w2.heap.size rm false [] ∧ Below w.heap.size w w3) := ⟨hq3, B2.out.trans (hb3.mono B2.out.size)⟩
      clear hq3 hb3 B2
      generalize w2.heap.size = q at *
      go_wp2_with fail
      go_loopw [39] (fun i wr => ∃ (k : Nat) (xs : List Int), k ≤ l.length ∧ i = .int .i64 k ∧ Hid (QOwn w.heap.size wr q rm false (iv xs) ∧ xs.length ≤ rm ∧ Below w.heap.size w wr)) (fun i _ => l.length - (intOf i).toNat)
      case atStart => exact ⟨0, [], Nat.zero_le _, rfl, B3.out.1, by simp, B3.out.2⟩
      case round =>
        obtain ⟨k, xs, hk, rfl, HS⟩ := hrel
        have hxr := HS.out.2.1
        by_cases hlt : k < l.length
        · obtain ⟨a, ha⟩ : ∃ a, l[k]? = some a := ⟨_, List.getElem?_eq_getElem hlt⟩
          have hza := hz80.out a (List.mem_of_getElem? ha)
          obtain ⟨_, A', c', e', hacts⟩ := HA.out
          injection e' with e1 _ e3
          subst e1 e3
          obtain ⟨b, o, rfl, hx⟩ := hacts (by omega)
          clear hacts
          have HAT := Lib.hid (hx k a ha)
          have hat := HAT.out.below HS.out.2.2
          have k0 := hat.kind
          have k1 := hat.num
          have k2 := hat.list
          clear hat hx ha
          obtain ⟨kd, nm, AA, cc, zs⟩ := a
          simp only at k0 k1 k2 hza
          have hqs := HS.out.2.2.size
          by_cases hk0 : kd = 0
          · subst hk0
            go_wp2_with fail
            refine (Put_own (HS.out.1.alloc _) (by simp; omega) (by omega) (by rw [List.length_map]; exact HS.out.2.1) ((HAT.out.below HS.out.2.2).rd.alloc _) HAT.out.max).mono ?_
            rintro e w4 ⟨rfl, hq4, hb4⟩
            have hkr : putN rm false (iv xs).length zs.length ≤ rm - xs.length := by
              have := Nat.min_le_right zs.length (if false = true then 0 else rm - (iv xs).length)
              simpa [putN] using this
            generalize putN rm false (iv xs).length zs.length = kp at *
            rw [← List.map_take, ← List.map_append] at hq4
            have hyl : (zs.take kp).length ≤ kp := List.length_take_le _ _
            generalize zs.take kp = ys at *
            have H4 : Hid (QOwn w.heap.size w4 q rm false (iv (xs ++ ys)) ∧ (xs ++ ys).length ≤ rm ∧ Below w.heap.size w w4) := ⟨hq4, by rw [List.length_append]; omega, (HS.out.2.2.alloc HS.out.2.2.size _).trans hb4⟩
            clear hq4 hb4 hyl hkr
            generalize xs ++ ys = rs at *
            have hrs := H4.out.2.1
            go_wp2_with fail
            refine (Len_own H4.out.1).mono ?_
            rintro e w5 ⟨rfl, rfl⟩
            go_wp2_with fail
            have PR := Room_open H4.out.1 (by omega) (by rw [List.length_map]; exact H4.out.2.1)
            rw [List.length_map] at PR
            refine PR.mono ?_
            clear PR
            rintro e w5 ⟨rfl, nd, rfl⟩
            go_wp2_with fail
            refine (Over_open (H4.out.1.drewN nd)).mono ?_
            rintro e w5 ⟨rfl, rfl⟩
            go_wp2
            go_roundw
            case rel =>
              obtain ⟨h1, h2, h3⟩ := H4.out
              exact ⟨k + 1, rs, by omega, by go_num, h1, h2, ⟨h3.os, h3.tape, h3.output, h3.size, h3.block⟩⟩
            case measure => simp [intOf]; omega
          · by_cases hk1 : kd = 1
            · subst hk1
              clear hk0
              go_wp2_with fail
              have PP := Peek_own (HS.out.1.alloc (.cells #[.int .i64 1, .int .i64 nm, .slice AA zs.length cc] 34)) (by rw [List.length_map]; omega) nm
              rw [← List.map_take] at PP
              refine PP.mono ?_
              clear PP
              rintro e w4 ⟨vp, gp, rfl, hrow4, hb4, hf4⟩
              obtain ⟨Ap, cp, rfl⟩ := hrow4.form
              rw [List.length_map] at hrow4 ⊢
              have k1' : w4.cell? ⟨wr.heap.size, 1, none⟩ = some (.int .i64 nm) := ((Blk.new wr 34 #[.int .i64 1, .int .i64 nm, .slice AA zs.length cc]).below hb4 (by simp)).cell 1
              have PT := Take_beside (HS.out.1.alloc (.cells #[.int .i64 1, .int .i64 nm, .slice AA zs.length cc] 34)) (by simp; omega) (by rw [List.length_map]; omega) nm hb4 hrow4 hf4
              rw [← List.map_take, ← List.map_drop] at PT
              have hb4' := (HS.out.2.2.alloc hqs (.cells #[.int .i64 1, .int .i64 nm, .slice AA zs.length cc] 34)).trans (hb4.mono (by simp; omega))
              have hsp : xs.take nm.toNat ++ xs.drop nm.toNat = xs := List.take_append_drop _ _
              have hys : (xs.take nm.toNat).length ≤ rm := by
                rw [← hsp, List.length_append] at hxr; omega
              have hrs0 : (xs.drop nm.toNat).length ≤ rm := by
                rw [← hsp, List.length_append] at hxr; omega
              clear hsp
              generalize xs.take nm.toNat = ys at *
              generalize xs.drop nm.toNat = rs at *
              have X := Lib.hid (And.intro PT hb4')
              clear PT hb4' hrow4 hf4 hb4
              go_wp2_with fail
              refine X.out.1.mono ?_
              rintro e w5 ⟨At, ct, rfl, hrd5, hq5, hb5, hp5⟩
              rw [List.length_map] at hrd5 ⊢
              have Y : Hid (QOwn w.heap.size w5 q rm false (iv rs) ∧ Below w.heap.size w w5 ∧ Rd w5 (.slice At ys.length ct) (iv ys) ∧ Rd w5 (.slice Ap ys.length cp) (iv ys)) := ⟨hq5, X.out.2.trans hb5, hrd5, hp5.rd⟩
              clear hrd5 hq5 hb5 hp5 X
              go_wp2_with fail
              refine (Same_eq ys _ _ _ _ _ _ _ Y.out.2.2.2 Y.out.2.2.1 (by omega)).mono ?_
              rintro e w6 ⟨rfl, ne, rfl⟩
              have H4 : Hid (QOwn w.heap.size (w5.drewN ne) q rm false (iv rs) ∧ rs.length ≤ rm ∧ Below w.heap.size w (w5.drewN ne)) := ⟨Y.out.1.drewN ne, hrs0, ⟨Y.out.2.1.os, Y.out.2.1.tape, Y.out.2.1.output, Y.out.2.1.size, Y.out.2.1.block⟩⟩
              clear Y
              generalize w5.drewN ne = w7 at *
              have hrs := H4.out.2.1
              go_wp2_with fail
              refine (Len_own H4.out.1).mono ?_
              rintro e w5 ⟨rfl, rfl⟩
              go_wp2_with fail
              have PR := Room_open H4.out.1 (by omega) (by rw [List.length_map]; exact H4.out.2.1)
              rw [List.length_map] at PR
              refine PR.mono ?_
              clear PR
              rintro e w5 ⟨rfl, nd, rfl⟩
              go_wp2_with fail
              refine (Over_open (H4.out.1.drewN nd)).mono ?_
              rintro e w5 ⟨rfl, rfl⟩
              go_wp2
              go_roundw
              case rel =>
                obtain ⟨h1, h2, h3⟩ := H4.out
                exact ⟨k + 1, rs, by omega, by go_num, h1, h2, ⟨h3.os, h3.tape, h3.output, h3.size, h3.block⟩⟩
              case measure => simp [intOf]; omega
            · have H4 : Hid (QOwn w.heap.size (wr.alloc (.cells #[.int .i64 kd, .int .i64 nm, .slice AA zs.length cc] 34)) q rm false (iv xs) ∧ xs.length ≤ rm ∧ Below w.heap.size w (wr.alloc (.cells #[.int .i64 kd, .int .i64 nm, .slice AA zs.length cc] 34))) := ⟨HS.out.1.alloc _, HS.out.2.1, HS.out.2.2.alloc hqs _⟩
              obtain ⟨rs, rfl⟩ : ∃ rs, rs = xs := ⟨_, rfl⟩
              have hrs := H4.out.2.1
              go_wp2_with fail
              refine (Len_own H4.out.1).mono ?_
              rintro e w5 ⟨rfl, rfl⟩
              go_wp2_with fail
              have PR := Room_open H4.out.1 (by omega) (by rw [List.length_map]; exact H4.out.2.1)
              rw [List.length_map] at PR
              refine PR.mono ?_
              clear PR
              rintro e w5 ⟨rfl, nd, rfl⟩
              go_wp2_with fail
              refine (Over_open (H4.out.1.drewN nd)).mono ?_
              rintro e w5 ⟨rfl, rfl⟩
              go_wp2
              go_roundw
              case rel =>
                obtain ⟨h1, h2, h3⟩ := H4.out
                exact ⟨k + 1, rs, by omega, by go_num, h1, h2, ⟨h3.os, h3.tape, h3.output, h3.size, h3.block⟩⟩
              case measure => simp [intOf]; omega
        · obtain rfl : k = l.length := by omega
          go_wp2_with fail
          have PP := Peek_own HS.out.1 (by rw [List.length_map]; omega) 1000
          rw [List.take_of_length_le (by rw [List.length_map]; omega)] at PP
          refine PP.mono ?_
          clear PP
          rintro e w4 ⟨vp, gp, rfl, hrow4, hb4, hf4⟩
          obtain ⟨Ap, cp, rfl⟩ := hrow4.form
          rw [List.length_map] at hrow4 ⊢
          obtain ⟨g, hq0, hq1, hq2⟩ := HS.out.1
          have hbw := HS.out.2.2.trans (hb4.mono HS.out.2.2.size)
          have hqr : QR w.heap.size w4 q rm false (iv xs) gp (.slice Ap xs.length cp) (iv xs) := ⟨g, hq0.below hb4 hq0.blk_lt (fun b e => hq0.row_lt e), hq1, hq2, hrow4, fun b e e2 => by have := hq0.row_lt e; have := hf4 b e2; omega⟩
          have X := Lib.hid (And.intro hqr hbw)
          clear hrow4 hb4 hf4 hqr hbw hq0 hq1 hq2 g
          go_wp2_with fail
          refine (Len_own X.out.1.own).mono ?_
          rintro e w5 ⟨rfl, rfl⟩
          go_wp2_with fail
          refine (End_qr X.out.1 X.out.2.size).mono ?_
          rintro e w5 ⟨rfl, hq5, hb5⟩
          have Y := Lib.hid (And.intro hq5 (X.out.2.trans hb5))
          clear hq5 hb5 X
          have hcp := Y.out.1.row.rd.le
          have hput : ∀ nd : Nat, Calls Try.prog 12 #[.pointer (some ⟨q, 0, none⟩), .slice (some ⟨w5.heap.size, 0, none⟩) 1 1] ((w5.drewN nd).alloc (.cells #[.int .i64 1] 3)) fun e w' => e = .returned (.int .i64 0) ∧ Hid (QR w.heap.size w' q rm true (iv xs) gp (.slice Ap xs.length cp) (iv xs) ∧ Below w.heap.size w w') := by
            intro nd
            have hW : QR w.heap.size (w5.drewN nd) q rm true (iv xs) gp (.slice Ap xs.length cp) (iv xs) := Y.out.1
            have hbW : Below w.heap.size w (w5.drewN nd) := ⟨Y.out.2.os, Y.out.2.tape, Y.out.2.output, Y.out.2.size, Y.out.2.block⟩
            have h0 : putN rm true (iv xs).length 1 = 0 := by simp [putN]
            have h1 := Put_qr (hW.alloc (.cells #[.int .i64 1] 3)) (by have := hbW.size; simp at this ⊢; omega) (by omega) (by rw [List.length_map]; exact hxr) (Rd.lit (w5.drewN nd) 3 #[.int .i64 1] 1 rfl (by omega) (by omega) (by simp [Value.oneCell'])) (by omega)
            rw [h0, List.take_zero, List.append_nil] at h1
            refine h1.mono ?_
            rintro e w' ⟨rfl, hq, hb⟩
            exact ⟨rfl, hq, (hbW.alloc hbW.size _).trans hb⟩
          have HPut := Lib.hid hput
          clear hput
          obtain ⟨ys, hys⟩ : ∃ ys, xs.take n.toNat = ys := ⟨_, rfl⟩
          obtain ⟨j, hj⟩ : ∃ j : Nat, min n.toNat xs.length = j := ⟨_, rfl⟩
          have hjl : ys.length = j := by rw [← hys, List.length_take, hj]
          have hjx : j ≤ xs.length := by omega
          have htk : xs.take j = ys := by
            rw [← hys, ← hj]
            by_cases hc : n.toNat ≤ xs.length
            · rw [Nat.min_eq_left hc]
            · rw [Nat.min_eq_right (by omega), List.take_of_length_le (by omega), List.take_of_length_le (by omega)]
          have htake : ∀ W : World, QR w.heap.size W q rm true (iv xs) gp (.slice Ap xs.length cp) (iv xs) → Below w.heap.size w W → Calls Try.prog 15 #[.pointer (some ⟨q, 0, none⟩), .int .i64 n] W fun e w' => ∃ At ct, e = .returned (.slice At j ct) ∧ Hid (Rd w' (.slice At j ct) (iv ys) ∧ Rd w' (.slice Ap j cp) (iv ys) ∧ Below w.heap.size w w') := by
            intro W hW hbW
            have h1 := Take_qr hW hbW.size (by rw [List.length_map]; omega) n
            rw [← List.map_take, hys] at h1
            refine h1.mono ?_
            rintro e w' ⟨At, ct, rfl, hrd, hq, hb⟩
            rw [List.length_map, hjl] at hrd ⊢
            have h2 := hq.row.rd.take hjx
            rw [← List.map_take, htk] at h2
            exact ⟨At, ct, rfl, hrd, h2, hbW.trans hb⟩
          have HTake := Lib.hid htake
          have HJ := Lib.hid (And.intro hjl hj)
          have hjc : j ≤ cp := by omega
          clear htake hys htk hjl hj
          go_wp2_with fail
          obtain ⟨_, _, e5, -, -, -, hrest⟩ := Y.out.1.row
          injection e5 with e51 e52 e53
          subst e51 e53
          clear e52
          rcases hrest with ⟨rfl, -⟩ | ⟨b5, o5, _, hcp5, -, rfl, -⟩
          · obtain rfl : xs = [] := List.eq_nil_of_length_eq_zero (by simpa using hcp)
            have hj0 : j = 0 := by simpa using hjx
            subst hj0
            clear hjx hjc hcp
            simp only [List.length_nil] at *
            by_cases hn0 : n ≤ 0
            · have hj1 : ¬ ((0 : Int) < n) := by omega
              have hg1 : (n > 0) = False := by simp; omega
              go_region_held3 (fun _ => Hid True) (exact trivial) (first
                | (go_at_call 21; refine (Room_end (B := w.heap.size) (by exact Y.out.1.own) (by omega) (by rw [List.length_map]; exact hxr)).mono ?_; rintro e w6 ⟨rfl, nd, rfl⟩)
                | (go_at_call 12; refine (HPut.out _).mono ?_; rintro e w7 ⟨rfl, Z⟩)
                | (go_at_call 15; refine (HTake.out _ (by exact Z.out.1) (by exact Z.out.2)).mono ?_; rintro e w8 ⟨At, ct, rfl, T⟩)
                | (go_at_call 14; refine (Same_eq ys _ _ _ _ _ _ _ (by exact T.out.1) (by exact T.out.2.1) (by have := HJ.out.1; omega)).mono ?_; rintro e w9 ⟨rfl, nf, rfl⟩))
              all_goals
                go_wp2
                go_ret
                have hb := T.out.2.2
                exact ⟨rfl, ⟨hb.os, hb.tape, hb.output, hb.size, hb.block⟩⟩
            · have hj1 : (0 : Int) < n := by omega
              go_region_held3 (fun _ => Hid True) (exact trivial) (first
                | (go_at_call 21; refine (Room_end (B := w.heap.size) (by exact Y.out.1.own) (by omega) (by rw [List.length_map]; exact hxr)).mono ?_; rintro e w6 ⟨rfl, nd, rfl⟩)
                | (go_at_call 12; refine (HPut.out _).mono ?_; rintro e w7 ⟨rfl, Z⟩)
                | (go_at_call 15; refine (HTake.out _ (by exact Z.out.1) (by exact Z.out.2)).mono ?_; rintro e w8 ⟨At, ct, rfl, T⟩)
                | (go_at_call 14; refine (Same_eq ys _ _ _ _ _ _ _ (by exact T.out.1) (by exact T.out.2.1) (by have := HJ.out.1; omega)).mono ?_; rintro e w9 ⟨rfl, nf, rfl⟩))
              all_goals
                go_wp2
                go_ret
                have hb := T.out.2.2
                exact ⟨rfl, ⟨hb.os, hb.tape, hb.output, hb.size, hb.block⟩⟩
          · have hcp6 : ¬ (cp = 0) := by omega
            have hc0 : (0 : Int) ≤ (cp : Int) := by omega
            have hcj : ((j : Nat) : Int) ≤ (cp : Int) := by omega
            by_cases hn0 : n ≤ 0
            · have hj0 : j = 0 := by have := HJ.out.2; omega
              subst hj0
              have hg1 : (if (xs.length : Int) < n then (xs.length : Int) else n) = n := if_neg (by omega)
              have hg2 : (if n > 0 then n else 0) = 0 := if_neg (by omega)
              go_region_held3 (fun _ => Hid True) (exact trivial) (first
                | (go_at_call 21; refine (Room_end (B := w.heap.size) (by exact Y.out.1.own) (by omega) (by rw [List.length_map]; exact hxr)).mono ?_; rintro e w6 ⟨rfl, nd, rfl⟩)
                | (go_at_call 12; refine (HPut.out _).mono ?_; rintro e w7 ⟨rfl, Z⟩)
                | (go_at_call 15; refine (HTake.out _ (by exact Z.out.1) (by exact Z.out.2)).mono ?_; rintro e w8 ⟨At, ct, rfl, T⟩)
                | (go_at_call 14; refine (Same_eq ys _ _ _ _ _ _ _ (by exact T.out.1) (by exact T.out.2.1) (by have := HJ.out.1; omega)).mono ?_; rintro e w9 ⟨rfl, nf, rfl⟩))
              all_goals
                go_wp2
                go_ret
                have hb := T.out.2.2
                exact ⟨rfl, ⟨hb.os, hb.tape, hb.output, hb.size, hb.block⟩⟩
            · by_cases hnm : n ≤ xs.length
              · have hnj : n = j := by have := HJ.out.2; omega
                subst hnj
                have hj2 : (0 : Int) < j := by omega
                have hj3 : (0 : Int) ≤ j := by omega
                have hg1 : 0 < j := by omega
                have hg2 : (if xs.length < j then (xs.length : Int) else (j : Int)) = j := if_neg (by omega)
                go_region_held3 (fun _ => Hid True) (exact trivial) (first
                  | (go_at_call 21; refine (Room_end (B := w.heap.size) (by exact Y.out.1.own) (by omega) (by rw [List.length_map]; exact hxr)).mono ?_; rintro e w6 ⟨rfl, nd, rfl⟩)
                  | (go_at_call 12; refine (HPut.out _).mono ?_; rintro e w7 ⟨rfl, Z⟩)
                  | (go_at_call 15; refine (HTake.out _ (by exact Z.out.1) (by exact Z.out.2)).mono ?_; rintro e w8 ⟨At, ct, rfl, T⟩)
                  | (go_at_call 14; refine (Same_eq ys _ _ _ _ _ _ _ (by exact T.out.1) (by exact T.out.2.1) (by have := HJ.out.1; omega)).mono ?_; rintro e w9 ⟨rfl, nf, rfl⟩))
                all_goals
                  go_wp2
                  go_ret
                  have hb := T.out.2.2
                  exact ⟨rfl, ⟨hb.os, hb.tape, hb.output, hb.size, hb.block⟩⟩
              · have hnj : j = xs.length := by have := HJ.out.2; omega
                subst hnj
                have hj1 : (xs.length : Int) < n := by omega
                by_cases hx0 : xs.length = 0
                · obtain rfl : xs = [] := List.eq_nil_of_length_eq_zero hx0
                  clear hx0 hjx hjc hcp hnm
                  simp only [List.length_nil] at *
                  have hj2 : (0 : Int) < n := by omega
                  go_region_held3 (fun _ => Hid True) (exact trivial) (first
                    | (go_at_call 21; refine (Room_end (B := w.heap.size) (by exact Y.out.1.own) (by omega) (by rw [List.length_map]; exact hxr)).mono ?_; rintro e w6 ⟨rfl, nd, rfl⟩)
                    | (go_at_call 12; refine (HPut.out _).mono ?_; rintro e w7 ⟨rfl, Z⟩)
                    | (go_at_call 15; refine (HTake.out _ (by exact Z.out.1) (by exact Z.out.2)).mono ?_; rintro e w8 ⟨At, ct, rfl, T⟩)
                    | (go_at_call 14; refine (Same_eq ys _ _ _ _ _ _ _ (by exact T.out.1) (by exact T.out.2.1) (by have := HJ.out.1; omega)).mono ?_; rintro e w9 ⟨rfl, nf, rfl⟩))
                  all_goals
                    go_wp2
                    go_ret
                    have hb := T.out.2.2
                    exact ⟨rfl, ⟨hb.os, hb.tape, hb.output, hb.size, hb.block⟩⟩
                · have hj2 : (0 : Int) < xs.length := by omega
                  have hj3 : (0 : Int) ≤ xs.length := by omega
                  have hg1 : 0 < xs.length := by omega
                  go_region_held3 (fun _ => Hid True) (exact trivial) (first
                    | (go_at_call 21; refine (Room_end (B := w.heap.size) (by exact Y.out.1.own) (by omega) (by rw [List.length_map]; exact hxr)).mono ?_; rintro e w6 ⟨rfl, nd, rfl⟩)
                    | (go_at_call 12; refine (HPut.out _).mono ?_; rintro e w7 ⟨rfl, Z⟩)
                    | (go_at_call 15; refine (HTake.out _ (by exact Z.out.1) (by exact Z.out.2)).mono ?_; rintro e w8 ⟨At, ct, rfl, T⟩)
                    | (go_at_call 14; refine (Same_eq ys _ _ _ _ _ _ _ (by exact T.out.1) (by exact T.out.2.1) (by have := HJ.out.1; omega)).mono ?_; rintro e w9 ⟨rfl, nf, rfl⟩))
                  all_goals
                    go_wp2
                    go_ret
                    have hb := T.out.2.2
                    exact ⟨rfl, ⟨hb.os, hb.tape, hb.output, hb.size, hb.block⟩⟩
end Go.Proofs.Ytdlcilhgpnlhjaa
