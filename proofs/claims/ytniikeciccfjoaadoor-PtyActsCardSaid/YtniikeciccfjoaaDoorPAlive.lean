/-
  A line that lies in memory of the call's own (POwn), and the contract of cuecardlaw06.alive: the document's example holds.
  Conditions: the package's table holds what its initialiser lays (Oth).
-/
import Derived.Test.YtniikeciccfjoaaDoorPtyOps
namespace Go.Proofs.YtniikeciccfjoaaDoor
open Go.RowKit

theorem PAt.congr {F : Nat → Prop} {w : World} {p room : Nat} {f f' : Nat → Way} (h : PAt F w p room f) (h0 : f 0 = f' 0) (h1 : f 1 = f' 1) : PAt F w p room f' := by
  have key : ∀ s, s < 2 → f s = f' s := by
    intro s hs
    rcases (show s = 0 ∨ s = 1 by omega) with rfl | rfl
    · exact h0
    · exact h1
  obtain ⟨⟨q, g, hB, hF⟩, hl, hr, hle⟩ := h
  exact ⟨⟨q, g, ⟨hB.blk, fun s hs => by rw [← key s hs]; exact hB.que s hs, hB.ne_, hB.apart⟩, hF⟩, hl, hr, fun s hs => by rw [← key s hs]; exact hle s hs⟩

/-- A line in memory that was made since w0, of which nothing has turned. -/
def POwn (w0 w : World) (p room : Nat) (f : Nat → Way) : Prop := ∃ F, PAt F w p room f ∧ (∀ b, F b → w0.heap.size ≤ b) ∧ Below w0.heap.size w0 w

section
variable {w0 w w' : World} {p room : Nat} {f f' : Nat → Way}
theorem POwn.below (h : POwn w0 w p room f) : Below w0.heap.size w0 w := by obtain ⟨_, _, _, h⟩ := h; exact h
theorem POwn.room_le (h : POwn w0 w p room f) : room ≤ 65536 := by obtain ⟨_, h, _⟩ := h; exact h.room_le
theorem POwn.le (h : POwn w0 w p room f) (s : Nat) (hs : s < 2) : (f s).xs.length ≤ room := by obtain ⟨_, h, _⟩ := h; exact h.le s hs
theorem POwn.lt (h : POwn w0 w p room f) : p < w.heap.size := by
  obtain ⟨_, h, _⟩ := h
  obtain ⟨q, g, hB, hp, _⟩ := h.ex
  exact h.lt p hp
theorem POwn.ge (h : POwn w0 w p room f) : w0.heap.size ≤ p := by
  obtain ⟨_, h, hF, _⟩ := h
  obtain ⟨q, g, hB, hp, _⟩ := h.ex
  exact hF p hp
theorem POwn.congr (h : POwn w0 w p room f) (h0 : f 0 = f' 0) (h1 : f 1 = f' 1) : POwn w0 w p room f' := by
  obtain ⟨F, h, hF, hb⟩ := h; exact ⟨F, h.congr h0 h1, hF, hb⟩
theorem POwn.keep (h : POwn w0 w p room f) (hb : Below w.heap.size w w') : POwn w0 w' p room f := by
  obtain ⟨F, h, hF, hb0⟩ := h; exact ⟨F, h.keep hb, hF, hb0.trans (hb.mono hb0.size)⟩
theorem POwn.alloc (h : POwn w0 w p room f) (o : Obj) : POwn w0 (w.alloc o) p room f := h.keep ((Below.refl _ w).alloc (Nat.le_refl _) o)
theorem POwn.drewN (h : POwn w0 w p room f) (n : Nat) : POwn w0 (w.drewN n) p room f := h.keep ⟨rfl, rfl, rfl, Nat.le_refl _, fun _ _ => rfl⟩
theorem POwn.drew (h : POwn w0 w p room f) : POwn w0 w.drew p room f := h.keep ⟨rfl, rfl, rfl, Nat.le_refl _, fun _ _ => rfl⟩
/-- A store into a block that is no line's. -/
theorem POwn.store {g t : Nat} {cs : Array Value} (h : POwn w0 w p room f) (hb : Blk w g t cs) (hg : w0.heap.size ≤ g) (ht : 57 ≠ t ∧ 66 ≠ t ∧ 5 ≠ t) (i : Nat) (u : Value) : POwn w0 (w.setCell ⟨g, i, none⟩ u) p room f := by
  obtain ⟨F, h, hF, hb0⟩ := h
  have ho : Only (fun b => b = g) w (w.setCell ⟨g, i, none⟩ u) := (Only.refl (fun b => b = g) w).setCell (p := ⟨g, i, none⟩) (.inl rfl) u
  obtain ⟨⟨q, gg, hB, hp, hF'⟩, hl, h1, h2⟩ := h
  refine ⟨F, ⟨⟨q, gg, ⟨hB.blk.only ho (hB.blk.ne_ hb ht.1), fun s hs => ?_, hB.ne_, hB.apart⟩, hp, hF'⟩, fun b hb' => Nat.lt_of_lt_of_le (hl b hb') ho.size, h1, h2⟩, hF, hb0.setCell (p := ⟨g, i, none⟩) hg u⟩
  obtain ⟨v, b1, r1⟩ := hB.que s hs
  exact ⟨v, b1.only ho (b1.ne_ hb ht.2.1), r1.only ho (fun b e e' => r1.ne_ hb ht.2.2 (by rw [e, e']))⟩
theorem POwn.new {w1 : World} (hb : Below w0.heap.size w0 w) (h : PAt (Since w w1) w1 p room f) (hb1 : Below w.heap.size w w1) : POwn w0 w1 p room f :=
  ⟨_, h, fun _ hb' => Nat.le_trans hb.size hb'.1, hb.trans (hb1.mono hb.size)⟩
theorem POwn.turn {F : Nat → Prop} (h : Turns F w w' p room f') (hF : ∀ b, F b → w0.heap.size ≤ b) (hb : Below w0.heap.size w0 w) : POwn w0 w' p room f' := by
  obtain ⟨F', h, ho, hF'⟩ := h
  refine ⟨F', h, fun b hb' => ?_, ho.more' hb (fun i hi hi' => by have := hF i hi'; omega)⟩
  rcases hF' b hb' with h1 | h1
  · exact hF b h1
  · have := hb.size; omega

theorem WriteOwn (h : POwn w0 w p room f) (s : Nat) (hs : s < 2) {A : Option Addr} {m c : Nat} {ys : List Nat} (hr : Rd w (.slice A m c) (bv ys)) (hm : m ≤ 9223372036854775807) :
    Calls Tryd.prog 13 #[.pointer (some ⟨p, 0, none⟩), .int .i64 s, .slice A m c] w fun e w' => e = .returned (.int .i64 (putN room (f s).en (f s).xs.length m)) ∧ POwn w0 w' p room (upd f s ⟨(f s).en, (f s).xs ++ ys.take (putN room (f s).en (f s).xs.length m)⟩) ∧ Only (fun b => w0.heap.size ≤ b) w w' := by
  obtain ⟨F, h, hF, hb⟩ := h
  refine (PWrite_at h s hs hr hm).mono ?_
  rintro e w' ⟨rfl, ht⟩
  exact ⟨rfl, POwn.turn ht hF hb, by obtain ⟨_, _, ho, _⟩ := ht; exact ho.mono fun i _ hi => hF i hi⟩
theorem ReadOwn (h : POwn w0 w p room f) (ho : Oth w0) (s : Nat) (hs : s < 2) (n : Int) :
    Calls Tryd.prog 14 #[.pointer (some ⟨p, 0, none⟩), .int .i64 s, .int .i64 n] w fun e w' => ∃ A c, e = .returned (.slice A ((f (1 - s)).xs.take n.toNat).length c) ∧ Rd w' (.slice A ((f (1 - s)).xs.take n.toNat).length c) (bv ((f (1 - s)).xs.take n.toNat)) ∧ POwn w0 w' p room (upd f (1 - s) ⟨(f (1 - s)).en, (f (1 - s)).xs.drop n.toNat⟩) := by
  obtain ⟨F, h, hF, hb⟩ := h
  refine (PRead_at h (ho.below hb) s hs n).mono ?_
  rintro e w' ⟨A, c, gt, rfl, hrow, _, ht⟩
  exact ⟨A, c, rfl, hrow.rd, POwn.turn ht hF hb⟩
theorem HangOwn (h : POwn w0 w p room f) (s : Nat) (hs : s < 2) :
    Calls Tryd.prog 12 #[.pointer (some ⟨p, 0, none⟩), .int .i64 s] w fun e w' => e = .returned (.tuple #[]) ∧ POwn w0 w' p room (upd f s ⟨true, (f s).xs⟩) := by
  obtain ⟨F, h, hF, hb⟩ := h
  refine (PHang_at h s hs).mono ?_
  rintro e w' ⟨rfl, ht⟩
  exact ⟨rfl, POwn.turn ht hF hb⟩
theorem OverOwn (h : POwn w0 w p room f) (ho : Oth w0) (s : Nat) (hs : s < 2) :
    Calls Tryd.prog 15 #[.pointer (some ⟨p, 0, none⟩), .int .i64 s] w fun e w' => e = .returned (.bool ((f (1 - s)).en && (f (1 - s)).xs.isEmpty)) ∧ w = w' := by
  obtain ⟨F, h, hF, hb⟩ := h
  exact POver_at h (ho.below hb) s hs
theorem WaitsOwn (h : POwn w0 w p room f) (ho : Oth w0) (s : Nat) (hs : s < 2) :
    Calls Tryd.prog 16 #[.pointer (some ⟨p, 0, none⟩), .int .i64 s] w fun e w' => e = .returned (.int .i64 (f (1 - s)).xs.length) ∧ w = w' := by
  obtain ⟨F, h, hF, hb⟩ := h
  exact PWaits_at h (ho.below hb) s hs
theorem RoomOwn (h : POwn w0 w p room f) (s : Nat) (hs : s < 2) :
    Calls Tryd.prog 17 #[.pointer (some ⟨p, 0, none⟩), .int .i64 s] w fun e w' => e = .returned (.int .i64 (roomOf room (f s).en (f s).xs.length)) ∧ ∃ n, w' = w.drewN n := by
  obtain ⟨F, h, hF, hb⟩ := h
  exact PRoom_at h s hs
end

/-- Two ways. -/
def two (a b : Way) : Nat → Way := fun k => if k = 0 then a else b

theorem Rd.litb (w : World) (e : TypeId) (cs : Array Value) (n : Nat) (hn : n = cs.size) (hp : 0 < n) (hm : n ≤ 65536) (h1 : ∀ u ∈ cs.toList, u.oneCell' = true) :
    Rd (w.alloc (.cells cs e)) (.slice (some ⟨w.heap.size, 0, none⟩) n n) cs.toList := (Row.new w e cs n hn (by simp only [maxLen]; omega) hp h1).rd

set_option maxHeartbeats 1000000 in
theorem alive_true (w : World) (ho : Oth w) : Calls Tryd.prog 8 #[] w fun e w' => e = .returned (.bool true) ∧ Below w.heap.size w w' := by
  have HO := Lib.hid ho
  clear ho
  have s12 : str [1, 2] = { data := #[1, 2] } := rfl
  have s3 : str [3] = { data := #[3] } := rfl
  go_enter Tryd.func8, Tryd.ntmps8
  go_wp2_with fail
  refine (PNew_yes 3 w (by omega) (by omega)).mono ?_
  rintro e w1 ⟨rfl, hq1, hb1⟩
  have B1 : Hid (POwn w w1 w.heap.size 3 (two ⟨false, []⟩ ⟨false, []⟩)) := (POwn.new (Below.refl _ w) hq1 hb1).congr rfl rfl
  clear hq1 hb1
  generalize w.heap.size = p at *
  go_wp2_with fail
  have P1 : Calls Tryd.prog 13 #[.pointer (some ⟨p, 0, none⟩), .int .i64 0, .slice (some ⟨w1.heap.size, 0, none⟩) 4 4] (w1.alloc (.cells #[.int .u8 1, .int .u8 2, .int .u8 3, .int .u8 4] 5)) fun e w' => e = .returned (.int .i64 3) ∧ POwn w w' p 3 (two ⟨false, [1, 2, 3]⟩ ⟨false, []⟩) :=
    (WriteOwn (B1.out.alloc _) 0 (by omega) (ys := [1, 2, 3, 4]) (Rd.litb w1 5 #[.int .u8 1, .int .u8 2, .int .u8 3, .int .u8 4] 4 rfl (by omega) (by omega) (by simp [Value.oneCell'])) (by omega)).mono fun e w' ⟨he, h1, _⟩ => ⟨he, h1.congr rfl rfl⟩
  refine P1.mono ?_
  clear P1
  rintro e w2 ⟨rfl, hq2⟩
  have B2 := Lib.hid hq2
  clear B1 hq2
  go_wp2_with fail
  have P2 : Calls Tryd.prog 14 #[.pointer (some ⟨p, 0, none⟩), .int .i64 1, .int .i64 2] w2 fun e w' => ∃ A c, e = .returned (.slice A 2 c) ∧ Rd w' (.slice A 2 c) (bv [1, 2]) ∧ POwn w w' p 3 (two ⟨false, [3]⟩ ⟨false, []⟩) :=
    (ReadOwn B2.out HO.out 1 (by omega) 2).mono fun e w' ⟨A, c, he, hr, h1⟩ => ⟨A, c, he, hr, h1.congr rfl rfl⟩
  refine P2.mono ?_
  clear P2
  rintro e w3 ⟨A, c, rfl, hr3, hq3⟩
  have hc3 := run_str hr3
  rw [s12] at hc3
  have B3 := Lib.hid hq3
  clear B2 hq3 hr3
  go_wp2_with fail
  have P3 : Calls Tryd.prog 12 #[.pointer (some ⟨p, 0, none⟩), .int .i64 0] w3 fun e w' => e = .returned (.tuple #[]) ∧ POwn w w' p 3 (two ⟨true, [3]⟩ ⟨false, []⟩) :=
    (HangOwn B3.out 0 (by omega)).mono fun e w' ⟨he, h1⟩ => ⟨he, h1.congr rfl rfl⟩
  refine P3.mono ?_
  clear P3
  rintro e w4 ⟨rfl, hq4⟩
  have B4 := Lib.hid hq4
  clear B3 hq4 hc3
  go_wp2_with fail
  have P4 : Calls Tryd.prog 15 #[.pointer (some ⟨p, 0, none⟩), .int .i64 1] w4 fun e w' => e = .returned (.bool false) ∧ w4 = w' := OverOwn B4.out HO.out 1 (by omega)
  refine P4.mono ?_
  clear P4
  rintro e w' ⟨rfl, rfl⟩
  go_wp2_with fail
  have P5 : Calls Tryd.prog 14 #[.pointer (some ⟨p, 0, none⟩), .int .i64 1, .int .i64 9] w4 fun e w' => ∃ A c, e = .returned (.slice A 1 c) ∧ Rd w' (.slice A 1 c) (bv [3]) ∧ POwn w w' p 3 (two ⟨true, []⟩ ⟨false, []⟩) :=
    (ReadOwn B4.out HO.out 1 (by omega) 9).mono fun e w' ⟨A, c, he, hr, h1⟩ => ⟨A, c, he, hr, h1.congr rfl rfl⟩
  refine P5.mono ?_
  clear P5
  rintro e w5 ⟨A5, c5, rfl, hr5, hq5⟩
  have hc5 := run_str hr5
  rw [s3] at hc5
  have B5 := Lib.hid hq5
  clear B4 hq5 hr5
  go_wp2_with fail
  have P6 : Calls Tryd.prog 15 #[.pointer (some ⟨p, 0, none⟩), .int .i64 1] w5 fun e w' => e = .returned (.bool true) ∧ w5 = w' := OverOwn B5.out HO.out 1 (by omega)
  refine P6.mono ?_
  clear P6
  rintro e w' ⟨rfl, rfl⟩
  go_wp2_with fail
  go_ret
  exact ⟨rfl, B5.out.below⟩
end Go.Proofs.YtniikeciccfjoaaDoor
