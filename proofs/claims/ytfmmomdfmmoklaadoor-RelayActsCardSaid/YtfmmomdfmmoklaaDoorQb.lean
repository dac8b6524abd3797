/-
  The contracts of queue.Queue[byte]'s small methods: New, Len, Room, End, Over; what a queue is in memory (QAt).
  Conditions: none but that the queue was made by New, or is nil.
-/
import Derived.Test.YtfmmomdfmmoklaaDoorMem
import Derived.Test.YtfmmomdfmmoklaaDoorProg
import Derived.WalkKit
import Derived.Deep.QuietTactic
import Derived.BigQuiet
import Derived.KernelRfl
namespace Go.Proofs.YtfmmomdfmmoklaaDoor
open Go.RowKit

/-- A queue of bytes: its struct is block q, its row block g, there is room for so many, it is at its end or not, and xs wait. -/
def QAt (w : World) (q : Nat) (g : Option Nat) (room : Nat) (en : Bool) (xs : List Value) : Prop :=
  ∃ v, Blk w q 100 #[v, .int .i64 room, .bool en] ∧ Row w 5 g v xs

theorem QAt.blk_lt {w : World} {q : Nat} {g : Option Nat} {room : Nat} {en : Bool} {xs : List Value} (h : QAt w q g room en xs) : q < w.heap.size := by
  obtain ⟨v, hb, _⟩ := h; exact hb.lt
theorem QAt.row_lt {w : World} {q b : Nat} {g : Option Nat} {room : Nat} {en : Bool} {xs : List Value} (h : QAt w q g room en xs) (e : g = some b) : b < w.heap.size := by
  obtain ⟨v, _, hr⟩ := h; exact hr.lt e
theorem QAt.ne_ {w : World} {q : Nat} {g : Option Nat} {room : Nat} {en : Bool} {xs : List Value} (h : QAt w q g room en xs) : g ≠ some q := by
  obtain ⟨v, hb, hr⟩ := h; exact hr.ne_ hb (by decide)
theorem QAt.only {w w' : World} {S : Nat → Prop} {q : Nat} {g : Option Nat} {room : Nat} {en : Bool} {xs : List Value} (h : QAt w q g room en xs) (hb : Only S w w') (hq : ¬ S q) (hg : ∀ b, g = some b → ¬ S b) : QAt w' q g room en xs := by
  obtain ⟨v, h1, h2⟩ := h
  exact ⟨v, h1.only hb hq, h2.only hb hg⟩
theorem QAt.below {w w' : World} {B : Nat} {q : Nat} {g : Option Nat} {room : Nat} {en : Bool} {xs : List Value} (h : QAt w q g room en xs) (hb : Below B w w') (hq : q < B) (hg : ∀ b, g = some b → b < B) : QAt w' q g room en xs := by
  obtain ⟨v, h1, h2⟩ := h
  exact ⟨v, h1.below hb hq, h2.below hb hg⟩
theorem QAt.alloc {w : World} {q : Nat} {g : Option Nat} {room : Nat} {en : Bool} {xs : List Value} (h : QAt w q g room en xs) (o : Obj) : QAt (w.alloc o) q g room en xs := by
  obtain ⟨v, h1, h2⟩ := h
  exact ⟨v, h1.alloc o, h2.alloc o⟩
theorem QAt.drewN {w : World} {q : Nat} {g : Option Nat} {room : Nat} {en : Bool} {xs : List Value} (h : QAt w q g room en xs) (n : Nat) : QAt (w.drewN n) q g room en xs := h

theorem New_no (n : Int) (w : World) (h : n < 1 ∨ 65536 < n) :
    Calls Tryd.prog 43 #[.int .i64 n] w fun e w' => e = .returned (.tuple #[.pointer none, .int .i64 3]) ∧ w = w' := by
  rcases h with h | h
  · go_enter Tryd.func43, Tryd.ntmps43
    go_wp2
    go_ret2
    exact ⟨rfl, rfl⟩
  · have h' : ¬ n < 1 := by omega
    go_enter Tryd.func43, Tryd.ntmps43
    go_wp2
    go_ret2
    exact ⟨rfl, rfl⟩

theorem New_yes (n : Nat) (w : World) (h1 : 1 ≤ n) (h2 : n ≤ 65536) :
    Calls Tryd.prog 43 #[.int .i64 n] w fun e w' => e = .returned (.tuple #[.pointer (some ⟨w.heap.size, 0, none⟩), .int .i64 0]) ∧ QAt w' w.heap.size none n false [] ∧ Below w.heap.size w w' ∧ w'.heap.size = w.heap.size + 1 := by
  go_enter Tryd.func43, Tryd.ntmps43
  go_wp2
  go_ret2
  exact ⟨rfl, ⟨_, Blk.new w _ _, (Row.nil w _).alloc _⟩, (Below.refl _ _).alloc (Nat.le_refl _) _, by simp⟩

theorem Len_nil (w : World) : Calls Tryd.prog 39 #[.pointer none] w fun e w' => e = .returned (.int .i64 0) ∧ w = w' := by
  go_enter Tryd.func39, Tryd.ntmps39
  go_wp2
  go_ret
  exact ⟨rfl, rfl⟩
theorem Len_at {w : World} {q : Nat} {g : Option Nat} {room : Nat} {en : Bool} {xs : List Value} (h : QAt w q g room en xs) :
    Calls Tryd.prog 39 #[.pointer (some ⟨q, 0, none⟩)] w fun e w' => e = .returned (.int .i64 xs.length) ∧ w = w' := by
  obtain ⟨v, hb, A, c, rfl, _⟩ := h
  have c0 : w.cell? ⟨q, 0, none⟩ = some (.slice A xs.length c) := hb.cell 0
  clear hb
  go_enter Tryd.func39, Tryd.ntmps39
  go_wp2
  go_ret
  exact ⟨rfl, rfl⟩

theorem End_nil (w : World) : Calls Tryd.prog 47 #[.pointer none] w fun e w' => e = .returned (.tuple #[]) ∧ w = w' := by
  go_enter Tryd.func47, Tryd.ntmps47
  go_wp2
  go_end0
  exact ⟨rfl, rfl⟩
theorem End_at {w : World} {q : Nat} {g : Option Nat} {room : Nat} {en : Bool} {xs : List Value} (h : QAt w q g room en xs) :
    Calls Tryd.prog 47 #[.pointer (some ⟨q, 0, none⟩)] w fun e w' => e = .returned (.tuple #[]) ∧ QAt w' q g room true xs ∧ Only (fun b => b = q) w w' := by
  have hne := h.ne_
  obtain ⟨v, hb, hr⟩ := h
  have c2 : w.cell? ⟨q, 2, none⟩ = some (.bool en) := hb.cell 2
  have f2 := hb.frozen 2
  have H : Hid (Blk w q 100 #[v, .int .i64 room, .bool en] ∧ Row w 5 g v xs ∧ g ≠ some q) := ⟨hb, hr, hne⟩
  clear hb hr hne
  go_enter Tryd.func47, Tryd.ntmps47
  go_wp2
  go_end0
  obtain ⟨hb, hr, hne⟩ := H.out
  exact ⟨rfl, ⟨v, hb.set_ 2 _, hr.far hne _⟩, (Only.refl (fun b => b = q) w).setCell (p := ⟨q, 2, none⟩) (.inl rfl) _⟩

theorem Room_nil (w : World) : Calls Tryd.prog 55 #[.pointer none] w fun e w' => e = .returned (.int .i64 0) ∧ w = w' := by
  go_enter Tryd.func55, Tryd.ntmps55
  go_wp2
  go_ret
  exact ⟨rfl, rfl⟩
/-- How much room there is. -/
def roomOf (room : Nat) (en : Bool) (n : Nat) : Int := if en then 0 else (room : Int) - n
theorem Room_at {w : World} {q : Nat} {g : Option Nat} {room : Nat} {en : Bool} {xs : List Value} (h : QAt w q g room en xs) (h1 : room ≤ 65536) (h2 : xs.length ≤ room) :
    Calls Tryd.prog 55 #[.pointer (some ⟨q, 0, none⟩)] w fun e w' => e = .returned (.int .i64 (roomOf room en xs.length)) ∧ ∃ n, w' = w.drewN n := by
  obtain ⟨v, hb, A, c, rfl, _⟩ := h
  have c0 : w.cell? ⟨q, 0, none⟩ = some (.slice A xs.length c) := hb.cell 0
  have c1 : w.cell? ⟨q, 1, none⟩ = some (.int .i64 room) := hb.cell 1
  have c2 : w.cell? ⟨q, 2, none⟩ = some (.bool en) := hb.cell 2
  clear hb
  cases en with
  | true =>
    go_enter Tryd.func55, Tryd.ntmps55
    go_wp2
    go_ret
    exact ⟨rfl, 0, rfl⟩
  | false =>
    go_enter Tryd.func55, Tryd.ntmps55
    go_wp2
    go_quiet (fail)
    go_wp2
    go_ret
    exact ⟨rfl, _, rfl⟩

theorem Over_nil (w : World) : Calls Tryd.prog 40 #[.pointer none] w fun e w' => e = .returned (.bool false) ∧ w = w' := by
  go_enter Tryd.func40, Tryd.ntmps40
  go_wp2
  go_ret
  exact ⟨rfl, rfl⟩
theorem Over_at {w : World} {q : Nat} {g : Option Nat} {room : Nat} {en : Bool} {xs : List Value} (h : QAt w q g room en xs) :
    Calls Tryd.prog 40 #[.pointer (some ⟨q, 0, none⟩)] w fun e w' => e = .returned (.bool (en && xs.isEmpty)) ∧ w = w' := by
  obtain ⟨v, hb, A, c, rfl, _⟩ := h
  have c0 : w.cell? ⟨q, 0, none⟩ = some (.slice A xs.length c) := hb.cell 0
  have c2 : w.cell? ⟨q, 2, none⟩ = some (.bool en) := hb.cell 2
  clear hb
  cases en with
  | false =>
    go_enter Tryd.func40, Tryd.ntmps40
    go_wp2
    go_ret
    exact ⟨rfl, rfl⟩
  | true =>
    go_enter Tryd.func40, Tryd.ntmps40
    go_wp2
    go_ret
    refine ⟨?_, rfl⟩
    cases xs <;> rfl
end Go.Proofs.YtfmmomdfmmoklaaDoor
