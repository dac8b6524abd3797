/-
  Contracts of what looks at events and makes nothing of them: Check, Rises, Due, and the document's Check and Due.
  Conditions: of Due that the bytes together are fewer than 2^62.
-/
import Derived.Test.YtchfiiiippnigaaRet
import Derived.Test.YtchfiiiippnigaaEvMath
import Derived.Lib.Hide
import Derived.Lib.Walk
import Derived.LoopTactic
import Derived.Deep.QuietTactic
import Derived.BigQuiet
import Derived.IntWalk
namespace Go.Proofs.Ytchfiiiippnigaa
open Go.RowKit

theorem chkAll_big {l : List PE} (h : 4096 < l.length) : chkAll l = 10 := by simp [chkAll, h]
theorem chkAll_not {l : List PE} (h : ¬ 4096 < l.length) : chkAll l = chk 0 l := by simp [chkAll, h]

/-- The k-th of a list that lay in w, in a world behind it. -/
theorem Evs.seeAt {w wr : World} {A : Option Addr} {n c k : Nat} {l : List Ev} (h : Evs w (.slice A n c) l) (hb : Below w.heap.size w wr) (hk : k < n) :
    ∃ b o d t Aa ca bs, A = some ⟨b, o, none⟩ ∧ l[k]? = some ⟨d, t, Aa, ca, bs⟩ ∧ wr.cell? ⟨b, o + k * 3, none⟩ = some (.int .i64 d) ∧ wr.cell? ⟨b, o + k * 3 + 1, none⟩ = some (.int .i64 t) ∧
      wr.cell? ⟨b, o + k * 3 + 2, none⟩ = some (.slice Aa bs.length ca) ∧ bs.length ≤ 9223372036854775807 ∧ EvOk (fun _ => True) wr ⟨d, t, Aa, ca, bs⟩ := by
  obtain ⟨b, o, ⟨d, t, Aa, ca, bs⟩, rfl, ha, hat, hok, _⟩ := EvsIn.at (h.below hb) hk
  exact ⟨b, o, d, t, Aa, ca, bs, rfl, ha, hat.dir, hat.time, hat.data, hok.max, hok⟩

theorem belowN {B : Nat} {w wr : World} (h : Below B w wr) (n : Nat) : Below B w (wr.drewN n) := ⟨h.os, h.tape, h.output, h.size, h.block⟩
/-- Behind a copy of an event in a box of its own. -/
theorem boxed {B : Nat} {w wr : World} {o : Obj} {x y z : Value} (h : Below B w wr) (hB : B ≤ wr.heap.size) :
    Below B w ((((wr.alloc o).setCell ⟨wr.heap.size, 0, none⟩ x).setCell ⟨wr.heap.size, 1, none⟩ y).setCell ⟨wr.heap.size, 2, none⟩ z) :=
  (((h.alloc hB o).setCell (p := ⟨wr.heap.size, 0, none⟩) hB x).setCell (p := ⟨wr.heap.size, 1, none⟩) hB y).setCell (p := ⟨wr.heap.size, 2, none⟩) hB z

theorem dueF_step (told : Int) (ahead : Nat) (l : List Ev) (k : Nat) (d t : Int) (Aa : Option Addr) (ca : Nat) (bs : List Nat) (h : l[k]? = some ⟨d, t, Aa, ca, bs⟩) :
    dueF told ahead ((pes l).drop k) = if d = 1 then dueF told (ahead + bs.length) ((pes l).drop (k + 1)) else if d = 0 ∧ (ahead : Int) ≤ told then bs.length + dueF told ahead ((pes l).drop (k + 1)) else dueF told ahead ((pes l).drop (k + 1)) := by
  rw [pes_drop h]
  conv => lhs; unfold dueF
  rfl

/-- What both Dues have between two rounds. -/
def DueAt (told : Int) (l : List Ev) (k ahead n : Nat) : Prop := n + dueF told ahead ((pes l).drop k) = due told (pes l) ∧ ahead ≤ whole ((pes l).take k) ∧ n ≤ whole ((pes l).take k)
theorem DueAt.start (told : Int) (l : List Ev) : DueAt told l 0 0 0 := ⟨by rw [Nat.zero_add]; rfl, Nat.zero_le _, Nat.zero_le _⟩
theorem DueAt.stop {told : Int} {l : List Ev} {ahead n : Nat} (h : DueAt told l l.length ahead n) : n = due told (pes l) := by
  rw [← h.1, pes_end]; rfl
theorem whole_next {l : List Ev} {k : Nat} {d t : Int} {Aa : Option Addr} {ca : Nat} {bs : List Nat} (h : l[k]? = some ⟨d, t, Aa, ca, bs⟩) : whole ((pes l).take (k + 1)) = whole ((pes l).take k) + bs.length := by
  rw [pes_take h, whole_append]; simp [whole, Ev.pe]
section
variable {told : Int} {l : List Ev} {k ahead n : Nat} {d t : Int} {Aa : Option Addr} {ca : Nat} {bs : List Nat}
theorem DueAt.in1 (h : DueAt told l k ahead n) (ha : l[k]? = some ⟨1, t, Aa, ca, bs⟩) : DueAt told l (k + 1) (ahead + bs.length) n := by
  obtain ⟨h1, h2, h3⟩ := h
  rw [dueF_step told ahead l k _ _ _ _ _ ha, if_pos rfl] at h1
  exact ⟨h1, by rw [whole_next ha]; omega, by rw [whole_next ha]; omega⟩
theorem DueAt.out1 (h : DueAt told l k ahead n) (ha : l[k]? = some ⟨0, t, Aa, ca, bs⟩) (ht : (ahead : Int) ≤ told) : DueAt told l (k + 1) ahead (n + bs.length) := by
  obtain ⟨h1, h2, h3⟩ := h
  rw [dueF_step told ahead l k _ _ _ _ _ ha, if_neg (by omega), if_pos ⟨rfl, ht⟩] at h1
  exact ⟨by omega, by rw [whole_next ha]; omega, by rw [whole_next ha]; omega⟩
theorem DueAt.not1 (h : DueAt told l k ahead n) (ha : l[k]? = some ⟨d, t, Aa, ca, bs⟩) (h1 : d ≠ 1) (h0 : ¬ (d = 0 ∧ (ahead : Int) ≤ told)) : DueAt told l (k + 1) ahead n := by
  obtain ⟨k1, h2, h3⟩ := h
  rw [dueF_step told ahead l k _ _ _ _ _ ha, if_neg h1, if_neg h0] at k1
  exact ⟨k1, by rw [whole_next ha]; omega, by rw [whole_next ha]; omega⟩
theorem DueAt.le (h : DueAt told l k ahead n) (ha : l[k]? = some ⟨d, t, Aa, ca, bs⟩) : ahead + bs.length ≤ whole (pes l) ∧ n + bs.length ≤ whole (pes l) := by
  have := whole_at (pes_at ha)
  have e : (Ev.pe ⟨d, t, Aa, ca, bs⟩).data.length = bs.length := rfl
  exact ⟨by have := h.2.1; omega, by have := h.2.2; omega⟩
end

theorem RDue_any (told : Int) (v : Value) (l : List Ev) (w : World) (h : Evs w v l) (hw : whole (pes l) ≤ 4611686018427387904) :
    Calls Try.prog 22 #[.int .i64 told, v] w fun e w' => e = .returned (.int .i64 (due told (pes l) : Nat)) ∧ w = w' := by
  have hm := h.max
  obtain ⟨A, c, rfl, hle⟩ := h.form
  have HE := Lib.hid h
  clear h hle
  go_enter Try.func22, Try.ntmps22
  go_wp2_with fail
  go_loop [5, 6, 7] (fun q s i => ∃ (k ahead n : Nat), k ≤ l.length ∧ i = .int .i64 k ∧ s = .int .i64 n ∧ q = .int .i64 ahead ∧ Hid (DueAt told l k ahead n)) (fun _ _ i => l.length - (intOf i).toNat)
  case atStart => exact ⟨0, 0, 0, by omega, rfl, rfl, rfl, DueAt.start _ _⟩
  case round =>
    obtain ⟨k, ahead, n, hk, rfl, rfl, rfl, HW⟩ := hrel
    by_cases hlt : k < l.length
    · obtain ⟨b, o, d, t, Aa, ca, bs, rfl, ha, c0, c1, c2, hbm, -⟩ := HE.out.seeAt (Below.refl _ w) hlt
      obtain ⟨le1, le2⟩ := HW.out.le ha
      have HA := Lib.hid ha
      clear ha
      by_cases hd1 : d = 1
      · subst hd1
        go_wp2_with fail
        go_round
        case rel => exact ⟨k + 1, ahead + bs.length, n, by omega, by go_num, rfl, by go_num, HW.out.in1 HA.out⟩
        case measure => simp [intOf]; omega
      · by_cases hd0 : d = 0
        · subst hd0
          by_cases ht : (ahead : Int) ≤ told
          · go_wp2_with fail
            go_round
            case rel => exact ⟨k + 1, ahead, n + bs.length, by omega, by go_num, by go_num, rfl, HW.out.out1 HA.out ht⟩
            case measure => simp [intOf]; omega
          · go_wp2_with fail
            go_round
            case rel => exact ⟨k + 1, ahead, n, by omega, by go_num, rfl, rfl, HW.out.not1 HA.out (by omega) (by omega)⟩
            case measure => simp [intOf]; omega
        · have e0 : (d == 0) = false := by simpa using hd0
          have e1 : (d == 1) = false := by simpa using hd1
          go_wp2_with fail
          go_round
          case rel => exact ⟨k + 1, ahead, n, by omega, by go_num, rfl, rfl, HW.out.not1 HA.out hd1 (fun h => hd0 h.1)⟩
          case measure => simp [intOf]; omega
    · obtain rfl : k = l.length := by omega
      go_wp2_with fail
      go_ret
      exact ⟨ret_int (by rw [HW.out.stop]), rfl⟩
end Go.Proofs.Ytchfiiiippnigaa
