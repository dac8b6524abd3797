/-
  The contracts of pty's New, Write, Read, Hang, Over, Waits and Room: of a line that New made, of none, of a side that is none.
  Conditions: the package's table holds what its initialiser lays (Oth).
-/
import Derived.Test.YtfmmomdfmmoklaaDoorPty
namespace Go.Proofs.YtfmmomdfmmoklaaDoor
open Go.RowKit

theorem bv_take (l : List Nat) (n : Nat) : (bv l).take n = bv (l.take n) := by simp [bv, List.map_take]
theorem bv_drop (l : List Nat) (n : Nat) : (bv l).drop n = bv (l.drop n) := by simp [bv, List.map_drop]
theorem bv_isEmpty (l : List Nat) : (bv l).isEmpty = l.isEmpty := by cases l <;> rfl
theorem putN_le (room : Nat) (en : Bool) (n m : Nat) : putN room en n m ≤ room - n := by
  unfold putN
  cases en <;> simp <;> omega
theorem putN_le_m (room : Nat) (en : Bool) (n m : Nat) : putN room en n m ≤ m := Nat.min_le_left _ _

theorem PWrite_no (p : Nat) (s : Int) (A : Option Addr) (m c : Nat) (h0 : s ≠ 0) (h1 : s ≠ 1) (w : World) : Calls Tryd.prog 30 #[.pointer (some ⟨p, 0, none⟩), .int .i64 s, .slice A m c] w fun e w' => e = .returned (.int .i64 0) ∧ w = w' := by
  have H := Lib.hid (And.intro h0 h1)
  clear h0 h1
  go_enter Tryd.func30, Tryd.ntmps30
  go_wp2_with (first
    | (go_at_call 45; refine (from_no p s H.out.1 H.out.2 _).mono ?_; rintro e w' ⟨rfl, rfl⟩)
    | (go_at_call 46; refine (Put_nil A m c _).mono ?_; rintro e w' ⟨rfl, rfl⟩))
  go_ret
  exact ⟨rfl, rfl⟩
theorem PWrite_nil (s : Int) (A : Option Addr) (m c : Nat) (w : World) : Calls Tryd.prog 30 #[.pointer none, .int .i64 s, .slice A m c] w fun e w' => e = .returned (.int .i64 0) ∧ w = w' := by
  go_enter Tryd.func30, Tryd.ntmps30
  go_wp2_with (first
    | (go_at_call 45; refine (from_nil s _).mono ?_; rintro e w' ⟨rfl, rfl⟩)
    | (go_at_call 46; refine (Put_nil A m c _).mono ?_; rintro e w' ⟨rfl, rfl⟩))
  go_ret
  exact ⟨rfl, rfl⟩
theorem PRead_no (p : Nat) (s : Int) (n : Int) (h0 : s ≠ 0) (h1 : s ≠ 1) (w : World) : Calls Tryd.prog 32 #[.pointer (some ⟨p, 0, none⟩), .int .i64 s, .int .i64 n] w fun e w' => e = .returned (.slice none 0 0) ∧ w = w' := by
  have H := Lib.hid (And.intro h0 h1)
  clear h0 h1
  go_enter Tryd.func32, Tryd.ntmps32
  go_wp2_with (first
    | (go_at_call 38; refine (to_no _ s H.out.1 H.out.2 _).mono ?_; rintro e w' ⟨rfl, rfl⟩)
    | (go_at_call 48; refine (Take_nil n _).mono ?_; rintro e w' ⟨rfl, rfl⟩))
  go_ret
  exact ⟨rfl, rfl⟩
theorem PRead_nil (s : Int) (n : Int) (w : World) (ho : Oth w) : Calls Tryd.prog 32 #[.pointer none, .int .i64 s, .int .i64 n] w fun e w' => e = .returned (.slice none 0 0) ∧ w = w' := by
  have H : Hid (Calls Tryd.prog 38 #[.pointer none, .int .i64 s] w fun e w' => e = .returned (.pointer none) ∧ w = w') := by
    by_cases h0 : s = 0
    · subst h0; exact to_nil 0 (by omega) w ho
    · by_cases h1 : s = 1
      · subst h1; exact to_nil 1 (by omega) w ho
      · exact to_no _ s h0 h1 w
  go_enter Tryd.func32, Tryd.ntmps32
  go_wp2_with (first
    | (go_at_call 38; refine H.out.mono ?_; rintro e w' ⟨rfl, rfl⟩)
    | (go_at_call 48; refine (Take_nil n _).mono ?_; rintro e w' ⟨rfl, rfl⟩))
  go_ret
  exact ⟨rfl, rfl⟩
theorem PHang_no (p : Nat) (s : Int)  (h0 : s ≠ 0) (h1 : s ≠ 1) (w : World) : Calls Tryd.prog 31 #[.pointer (some ⟨p, 0, none⟩), .int .i64 s] w fun e w' => e = .returned (.tuple #[]) ∧ w = w' := by
  have H := Lib.hid (And.intro h0 h1)
  clear h0 h1
  go_enter Tryd.func31, Tryd.ntmps31
  go_wp2_with (first
    | (go_at_call 45; refine (from_no p s H.out.1 H.out.2 _).mono ?_; rintro e w' ⟨rfl, rfl⟩)
    | (go_at_call 47; refine (End_nil _).mono ?_; rintro e w' ⟨rfl, rfl⟩))
  go_end0
  exact ⟨rfl, rfl⟩
theorem PHang_nil (s : Int)  (w : World) : Calls Tryd.prog 31 #[.pointer none, .int .i64 s] w fun e w' => e = .returned (.tuple #[]) ∧ w = w' := by
  go_enter Tryd.func31, Tryd.ntmps31
  go_wp2_with (first
    | (go_at_call 45; refine (from_nil s _).mono ?_; rintro e w' ⟨rfl, rfl⟩)
    | (go_at_call 47; refine (End_nil _).mono ?_; rintro e w' ⟨rfl, rfl⟩))
  go_end0
  exact ⟨rfl, rfl⟩
theorem POver_no (p : Nat) (s : Int)  (h0 : s ≠ 0) (h1 : s ≠ 1) (w : World) : Calls Tryd.prog 22 #[.pointer (some ⟨p, 0, none⟩), .int .i64 s] w fun e w' => e = .returned (.bool false) ∧ w = w' := by
  have H := Lib.hid (And.intro h0 h1)
  clear h0 h1
  go_enter Tryd.func22, Tryd.ntmps22
  go_wp2_with (first
    | (go_at_call 38; refine (to_no _ s H.out.1 H.out.2 _).mono ?_; rintro e w' ⟨rfl, rfl⟩)
    | (go_at_call 40; refine (Over_nil _).mono ?_; rintro e w' ⟨rfl, rfl⟩))
  go_ret
  exact ⟨rfl, rfl⟩
theorem POver_nil (s : Int)  (w : World) (ho : Oth w) : Calls Tryd.prog 22 #[.pointer none, .int .i64 s] w fun e w' => e = .returned (.bool false) ∧ w = w' := by
  have H : Hid (Calls Tryd.prog 38 #[.pointer none, .int .i64 s] w fun e w' => e = .returned (.pointer none) ∧ w = w') := by
    by_cases h0 : s = 0
    · subst h0; exact to_nil 0 (by omega) w ho
    · by_cases h1 : s = 1
      · subst h1; exact to_nil 1 (by omega) w ho
      · exact to_no _ s h0 h1 w
  go_enter Tryd.func22, Tryd.ntmps22
  go_wp2_with (first
    | (go_at_call 38; refine H.out.mono ?_; rintro e w' ⟨rfl, rfl⟩)
    | (go_at_call 40; refine (Over_nil _).mono ?_; rintro e w' ⟨rfl, rfl⟩))
  go_ret
  exact ⟨rfl, rfl⟩
theorem PWaits_no (p : Nat) (s : Int)  (h0 : s ≠ 0) (h1 : s ≠ 1) (w : World) : Calls Tryd.prog 21 #[.pointer (some ⟨p, 0, none⟩), .int .i64 s] w fun e w' => e = .returned (.int .i64 0) ∧ w = w' := by
  have H := Lib.hid (And.intro h0 h1)
  clear h0 h1
  go_enter Tryd.func21, Tryd.ntmps21
  go_wp2_with (first
    | (go_at_call 38; refine (to_no _ s H.out.1 H.out.2 _).mono ?_; rintro e w' ⟨rfl, rfl⟩)
    | (go_at_call 39; refine (Len_nil _).mono ?_; rintro e w' ⟨rfl, rfl⟩))
  go_ret
  exact ⟨rfl, rfl⟩
theorem PWaits_nil (s : Int)  (w : World) (ho : Oth w) : Calls Tryd.prog 21 #[.pointer none, .int .i64 s] w fun e w' => e = .returned (.int .i64 0) ∧ w = w' := by
  have H : Hid (Calls Tryd.prog 38 #[.pointer none, .int .i64 s] w fun e w' => e = .returned (.pointer none) ∧ w = w') := by
    by_cases h0 : s = 0
    · subst h0; exact to_nil 0 (by omega) w ho
    · by_cases h1 : s = 1
      · subst h1; exact to_nil 1 (by omega) w ho
      · exact to_no _ s h0 h1 w
  go_enter Tryd.func21, Tryd.ntmps21
  go_wp2_with (first
    | (go_at_call 38; refine H.out.mono ?_; rintro e w' ⟨rfl, rfl⟩)
    | (go_at_call 39; refine (Len_nil _).mono ?_; rintro e w' ⟨rfl, rfl⟩))
  go_ret
  exact ⟨rfl, rfl⟩
section
variable {F : Nat → Prop} {w : World} {p room : Nat} {f : Nat → Way}

/-- Write: as many bytes as there is room for wait behind the others. -/
theorem PWrite_at (h : PAt F w p room f) (s : Nat) (hs : s < 2) {A : Option Addr} {m c : Nat} {ys : List Nat} (hr : Rd w (.slice A m c) (bv ys)) (hm : m ≤ 9223372036854775807) :
    Calls Tryd.prog 30 #[.pointer (some ⟨p, 0, none⟩), .int .i64 s, .slice A m c] w fun e w' => e = .returned (.int .i64 (putN room (f s).en (f s).xs.length m)) ∧ Turns F w w' p room (upd f s ⟨(f s).en, (f s).xs ++ ys.take (putN room (f s).en (f s).xs.length m)⟩) := by
  obtain ⟨q, g, hB, hF⟩ := id h.ex
  have hle := h.le s hs
  have hput := Put_at (hB.que s hs) h.room_le (by rw [bv_len]; exact hle) hr hm
  rw [bv_len, bv_take, ← bv_append] at hput
  have HP := Lib.hid hput
  have HF := Lib.hid (from_at hB.blk s hs)
  have H := Lib.hid (And.intro h (And.intro hB hF))
  have hk := putN_le room (f s).en (f s).xs.length m
  have hyl : (ys.take (putN room (f s).en (f s).xs.length m)).length ≤ putN room (f s).en (f s).xs.length m := List.length_take_le _ _
  have HL : Hid ((Way.mk (f s).en ((f s).xs ++ ys.take (putN room (f s).en (f s).xs.length m))).xs.length ≤ room) := by
    show ((f s).xs ++ ys.take (putN room (f s).en (f s).xs.length m)).length ≤ room
    rw [List.length_append]; omega
  clear h hB hF hput hr hm hle hk hyl
  generalize putN room (f s).en (f s).xs.length m = k at *
  go_enter Tryd.func30, Tryd.ntmps30
  go_wp2_with (first
    | (go_at_call 45; refine HF.out.mono ?_; rintro e w' ⟨rfl, rfl⟩)
    | (go_at_call 46; refine HP.out.mono ?_; rintro e w1 ⟨g1, rfl, hq, ho, hg⟩; have X := Lib.hid (And.intro hq (And.intro ho hg)); clear hq ho hg))
  go_ret
  obtain ⟨h, hB, hF⟩ := H.out
  obtain ⟨hq, ho, hg⟩ := X.out
  exact ⟨rfl, hB.turn h hF hs HL.out hq ho (hg.imp id .inr)⟩

/-- Read: the first n that wait, in memory of their own; the others wait. -/
theorem PRead_at (h : PAt F w p room f) (ho : Oth w) (s : Nat) (hs : s < 2) (n : Int) :
    Calls Tryd.prog 32 #[.pointer (some ⟨p, 0, none⟩), .int .i64 s, .int .i64 n] w fun e w' => ∃ A c gt, e = .returned (.slice A ((f (1 - s)).xs.take n.toNat).length c) ∧ Row w' 5 gt (.slice A ((f (1 - s)).xs.take n.toNat).length c) (bv ((f (1 - s)).xs.take n.toNat)) ∧ (∀ b, gt = some b → w.heap.size ≤ b) ∧ Turns F w w' p room (upd f (1 - s) ⟨(f (1 - s)).en, (f (1 - s)).xs.drop n.toNat⟩) := by
  obtain ⟨q, g, hB, hF⟩ := id h.ex
  have ht : 1 - s < 2 := by omega
  have hle := h.le (1 - s) ht
  have hput := Take_at (hB.que (1 - s) ht) (by rw [bv_len]; have := h.room_le; omega) n
  rw [bv_take, bv_drop] at hput
  have HP := Lib.hid hput
  have HF := Lib.hid (to_at hB.blk ho s hs)
  have H := Lib.hid (And.intro h (And.intro hB hF))
  have HL : Hid ((Way.mk (f (1 - s)).en ((f (1 - s)).xs.drop n.toNat)).xs.length ≤ room) := by
    show ((f (1 - s)).xs.drop n.toNat).length ≤ room
    rw [List.length_drop]; omega
  clear h hB hF hput hle ho hs
  generalize 1 - s = k at *
  go_enter Tryd.func32, Tryd.ntmps32
  go_wp2_with (first
    | (go_at_call 38; refine HF.out.mono ?_; rintro e w' ⟨rfl, rfl⟩)
    | (go_at_call 48; refine HP.out.mono ?_; rintro e w1 ⟨v1, gt, g1, rfl, hrow, hq, ho, hf, hg⟩; have X := Lib.hid (And.intro hq (And.intro ho (And.intro hg (And.intro hrow hf)))); clear hq ho hg hrow hf))
  go_ret
  obtain ⟨h, hB, hF⟩ := H.out
  obtain ⟨hq, ho, hg, hrow, hf⟩ := X.out
  obtain ⟨A, c, rfl⟩ := hrow.form
  rw [bv_len] at hrow ⊢
  exact ⟨A, c, gt, rfl, hrow, hf, hB.turn h hF ht HL.out hq ho (hg.imp id .inl)⟩

/-- Hang: the way from that side is at its end. -/
theorem PHang_at (h : PAt F w p room f) (s : Nat) (hs : s < 2) :
    Calls Tryd.prog 31 #[.pointer (some ⟨p, 0, none⟩), .int .i64 s] w fun e w' => e = .returned (.tuple #[]) ∧ Turns F w w' p room (upd f s ⟨true, (f s).xs⟩) := by
  obtain ⟨q, g, hB, hF⟩ := id h.ex
  have HP := Lib.hid (End_at (hB.que s hs))
  have HF := Lib.hid (from_at hB.blk s hs)
  have H := Lib.hid (And.intro h (And.intro hB hF))
  have HL : Hid ((Way.mk true (f s).xs).xs.length ≤ room) := h.le s hs
  clear h hB hF
  go_enter Tryd.func31, Tryd.ntmps31
  go_wp2_with (first
    | (go_at_call 45; refine HF.out.mono ?_; rintro e w' ⟨rfl, rfl⟩)
    | (go_at_call 47; refine HP.out.mono ?_; rintro e w1 ⟨rfl, hq, ho⟩; have X := Lib.hid (And.intro hq ho); clear hq ho))
  go_end0
  obtain ⟨h, hB, hF⟩ := H.out
  obtain ⟨hq, ho⟩ := X.out
  exact ⟨rfl, hB.turn h hF hs HL.out hq (ho.mono fun _ _ e => .inl e) (.inl rfl)⟩

theorem POver_at (h : PAt F w p room f) (ho : Oth w) (s : Nat) (hs : s < 2) :
    Calls Tryd.prog 22 #[.pointer (some ⟨p, 0, none⟩), .int .i64 s] w fun e w' => e = .returned (.bool ((f (1 - s)).en && (f (1 - s)).xs.isEmpty)) ∧ w = w' := by
  obtain ⟨q, g, hB, hF⟩ := id h.ex
  have ht : 1 - s < 2 := by omega
  have hput := Over_at (hB.que (1 - s) ht)
  rw [bv_isEmpty] at hput
  have HP := Lib.hid hput
  have HF := Lib.hid (to_at hB.blk ho s hs)
  clear h hB hF hput ho hs ht
  generalize 1 - s = k at *
  go_enter Tryd.func22, Tryd.ntmps22
  go_wp2_with (first
    | (go_at_call 38; refine HF.out.mono ?_; rintro e w' ⟨rfl, rfl⟩)
    | (go_at_call 40; refine HP.out.mono ?_; rintro e w1 ⟨rfl, rfl⟩))
  go_ret
  exact ⟨rfl, rfl⟩

theorem PWaits_at (h : PAt F w p room f) (ho : Oth w) (s : Nat) (hs : s < 2) :
    Calls Tryd.prog 21 #[.pointer (some ⟨p, 0, none⟩), .int .i64 s] w fun e w' => e = .returned (.int .i64 (f (1 - s)).xs.length) ∧ w = w' := by
  obtain ⟨q, g, hB, hF⟩ := id h.ex
  have ht : 1 - s < 2 := by omega
  have hput := Len_at (hB.que (1 - s) ht)
  rw [bv_len] at hput
  have HP := Lib.hid hput
  have HF := Lib.hid (to_at hB.blk ho s hs)
  clear h hB hF hput ho hs ht
  generalize 1 - s = k at *
  go_enter Tryd.func21, Tryd.ntmps21
  go_wp2_with (first
    | (go_at_call 38; refine HF.out.mono ?_; rintro e w' ⟨rfl, rfl⟩)
    | (go_at_call 39; refine HP.out.mono ?_; rintro e w1 ⟨rfl, rfl⟩))
  go_ret
  exact ⟨rfl, rfl⟩

end

theorem PNew_no (n : Int) (w : World) (h : n < 1 ∨ 65536 < n) :
    Calls Tryd.prog 25 #[.int .i64 n] w fun e w' => e = .returned (.tuple #[.pointer none, .int .i64 3]) ∧ Below w.heap.size w w' := by
  have H := Lib.hid h
  clear h
  go_enter Tryd.func25, Tryd.ntmps25
  go_wp2
  go_loopw [5, 6, 7, 10] (fun _ _ _ i wr => i = .int .i64 0 ∧ Hid (Below w.heap.size w wr)) (fun _ _ _ _ _ => 0)
  case atStart => exact ⟨rfl, (Below.refl _ w).alloc (Nat.le_refl _) _⟩
  case round =>
    obtain ⟨rfl, HB⟩ := hrel
    go_wp2_with (go_at_call 43; refine (New_no n _ H.out).mono ?_; rintro e w' ⟨rfl, rfl⟩)
    go_ret2
    exact ⟨rfl, HB.out⟩

/-- What New has made of a line behind k rounds. -/
def Made (w wr : World) (room k : Nat) : Prop :=
  ∃ q : Nat → Nat, Below w.heap.size w wr ∧ Blk wr w.heap.size 91 #[.pointer (if 0 < k then some ⟨q 0, 0, none⟩ else none), .pointer (if 1 < k then some ⟨q 1, 0, none⟩ else none)] ∧
    (∀ s, s < k → QAt wr (q s) none room false [] ∧ w.heap.size ≤ q s) ∧ (1 < k → q 0 ≠ q 1)

theorem Made.next {w wr wn : World} {room k : Nat} (h : Made w wr room k) (hk : k < 2) (hq : QAt wn wr.heap.size none room false []) (hb : Below wr.heap.size wr wn) :
    Made w (wn.setCell ⟨w.heap.size, k, none⟩ (.pointer (some ⟨wr.heap.size, 0, none⟩))) room (k + 1) := by
  obtain ⟨q, hbel, hblk, hqs, hne⟩ := h
  have hPlt := hblk.lt
  have hblk' := (hblk.below hb hPlt).set_ k (.pointer (some ⟨wr.heap.size, 0, none⟩))
  have hsz := hbel.size
  refine ⟨fun s => if s = k then wr.heap.size else q s, (hbel.trans (hb.mono hsz)).setCell (p := ⟨w.heap.size, k, none⟩) (Nat.le_refl _) _, ?_, ?_, ?_⟩
  · rcases (show k = 0 ∨ k = 1 by omega) with rfl | rfl
    · simpa using hblk'
    · simpa using hblk'
  · intro s hs
    by_cases hsk : s = k
    · subst hsk
      simp only [if_pos]
      obtain ⟨v, b1, r1⟩ := hq
      exact ⟨⟨v, b1.far (p := ⟨w.heap.size, s, none⟩) (by simp; omega) _, r1.far (by simp) _⟩, hsz⟩
    · simp only [if_neg hsk]
      obtain ⟨h1, h2⟩ := hqs s (by omega)
      have hlt := h1.blk_lt
      obtain ⟨v, b1, r1⟩ := h1.below hb hlt (fun b e => by cases e)
      refine ⟨⟨v, b1.far (p := ⟨w.heap.size, k, none⟩) ?_ _, r1.far (by simp) _⟩, h2⟩
      exact b1.ne_ (hblk.below hb hPlt) (by decide)
  · intro h1
    obtain rfl : k = 1 := by omega
    have := (hqs 0 (by omega)).1.blk_lt
    simp
    omega

theorem Made.cell {w wr : World} {room k : Nat} (h : Made w wr room k) (hk : k < 2) : wr.cell? ⟨w.heap.size, k, none⟩ = some (.pointer none) ∧ wr.frozen? ⟨w.heap.size, k, none⟩ = false ∧ w.heap.size < wr.heap.size := by
  obtain ⟨q, hbel, hblk, hqs, hne⟩ := h
  refine ⟨?_, hblk.frozen k, hblk.lt⟩
  rw [hblk.cell k]
  rcases (show k = 0 ∨ k = 1 by omega) with rfl | rfl <;> rfl

/-- The blocks that a call made. -/
def Since (w w' : World) : Nat → Prop := fun b => w.heap.size ≤ b ∧ b < w'.heap.size

theorem PNew_yes (n : Nat) (w : World) (h1 : 1 ≤ n) (h2 : n ≤ 65536) :
    Calls Tryd.prog 25 #[.int .i64 n] w fun e w' => e = .returned (.tuple #[.pointer (some ⟨w.heap.size, 0, none⟩), .int .i64 0]) ∧ PAt (Since w w') w' w.heap.size n (fun _ => ⟨false, []⟩) ∧ Below w.heap.size w w' := by
  go_enter Tryd.func25, Tryd.ntmps25
  go_wp2
  go_loopw [5, 6, 7, 10] (fun _ _ _ i wr => ∃ k : Nat, k ≤ 2 ∧ i = .int .i64 k ∧ Hid (Made w wr n k)) (fun _ _ _ i _ => 2 - (intOf i).toNat)
  case atStart =>
    refine ⟨0, by omega, rfl, fun _ => 0, (Below.refl _ w).alloc (Nat.le_refl _) _, Blk.new w _ _, fun s hs => by omega, fun h => by omega⟩
  case round =>
    obtain ⟨k, hk, rfl, HM⟩ := hrel
    by_cases hlt : k < 2
    · obtain ⟨c0, f0, l0⟩ := HM.out.cell hlt
      have HC := Lib.hid (And.intro c0 f0)
      clear c0 f0
      rcases (show k = 0 ∨ k = 1 by omega) with rfl | rfl
      all_goals
        go_wp2_with fail
        refine (New_yes n _ h1 h2).mono ?_
        rintro e wn ⟨rfl, hq, hb, -⟩
        have X := Lib.hid (And.intro hq hb)
        have c1 := (hb.cell (p := ⟨w.heap.size, _, none⟩) l0).trans HC.out.1
        have f1 := (hb.frozen (p := ⟨w.heap.size, _, none⟩) l0).trans HC.out.2
        clear hq hb
        go_wp2
        go_roundw
        case rel => exact ⟨_, by omega, by go_num, HM.out.next (by omega) X.out.1 X.out.2⟩
        case measure => simp [intOf]
    · obtain rfl : k = 2 := by omega
      go_wp2
      go_ret2
      obtain ⟨q, hbel, hblk, hqs, hne⟩ := HM.out
      refine ⟨rfl, ⟨⟨q, fun _ => none, ⟨hblk, fun s hs => (hqs s hs).1, hne (by omega), fun b e => by cases e⟩, ⟨Nat.le_refl _, hblk.lt⟩, fun s hs => ⟨⟨(hqs s hs).2, (hqs s hs).1.blk_lt⟩, fun b e => by cases e⟩⟩, fun b hb => hb.2, h2, fun s hs => Nat.zero_le _⟩, hbel⟩
end Go.Proofs.YtfmmomdfmmoklaaDoor
