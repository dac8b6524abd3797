/-
  The contracts of cuecardref01.Same (two lists of the same numbers are the same) and cuecardlaw01.alive (the document's example holds).
  Conditions: none.
-/
import Derived.Test.YtdlcilhgpnlhjaaQiPut
namespace Go.Proofs.Ytdlcilhgpnlhjaa
open Go.RowKit

/-- Numbers as values. -/
abbrev iv (zs : List Int) : List Value := zs.map (Value.int .i64)

theorem iv_one (zs : List Int) : ∀ u ∈ iv zs, u.oneCell' = true := by
  intro u hu
  obtain ⟨z, _, rfl⟩ := List.mem_map.1 hu
  rfl

/-- What is read of a slice of numbers that holds any. -/
theorem Rd.ints {w : World} {A : Option Addr} {n c : Nat} {zs : List Int} (h : Rd w (.slice A n c) (iv zs)) :
    n = zs.length ∧ zs.length ≤ c ∧ (0 < zs.length → ∃ b o, A = some ⟨b, o, none⟩ ∧ ∀ j, j < zs.length → w.cell? ⟨b, o + j, none⟩ = some (.int .i64 (zs[j]?.getD 0))) := by
  obtain ⟨A', c', hv, hle, _, hr⟩ := h
  injection hv with e1 e2 e3
  subst e1 e2 e3
  rw [List.length_map] at hle hr ⊢
  refine ⟨rfl, hle, fun hp => ?_⟩
  obtain ⟨b, o, rfl, hx⟩ := hr hp
  refine ⟨b, o, rfl, fun j hj => hx j _ ?_⟩
  simp [hj]

theorem Same_eq (zs : List Int) (A B : Option Addr) (n m c d : Nat) (w : World) (h1 : Rd w (.slice A n c) (iv zs)) (h2 : Rd w (.slice B m d) (iv zs)) (hl : zs.length ≤ 9223372036854775806) :
    Calls Try.prog 14 #[.slice A n c, .slice B m d] w fun e w' => e = .returned (.bool true) ∧ ∃ n, w' = w.drewN n := by
  obtain ⟨rfl, hc1, r1⟩ := h1.ints
  obtain ⟨rfl, hc2, r2⟩ := h2.ints
  clear h1 h2
  by_cases h0 : zs.length = 0
  · clear r1 r2 hc1 hc2
    generalize zs.length = l at *
    subst h0
    go_enter Try.func14, Try.ntmps14
    go_wp2
    go_loopw [5] (fun i wr => i = .int .i64 0 ∧ wr = w) (fun _ _ => 0)
    case atStart => exact ⟨rfl, rfl⟩
    case round =>
      obtain ⟨rfl, rfl⟩ := hrel
      go_wp2
      go_ret
      exact ⟨rfl, 0, rfl⟩
  · obtain ⟨b1, o1, rfl, x1⟩ := r1 (by omega)
    obtain ⟨b2, o2, rfl, x2⟩ := r2 (by omega)
    clear r1 r2 h0
    have X1 := Lib.hid x1
    have X2 := Lib.hid x2
    clear x1 x2
    go_enter Try.func14, Try.ntmps14
    go_wp2
    go_loopw [5] (fun i wr => ∃ k n : Nat, k ≤ zs.length ∧ i = .int .i64 k ∧ wr = w.drewN n) (fun i _ => zs.length - (intOf i).toNat)
    case atStart => exact ⟨0, 0, Nat.zero_le _, rfl, rfl⟩
    case round =>
      obtain ⟨k, nd, hk, rfl, rfl⟩ := hrel
      by_cases hlt : k < zs.length
      · have y1 := X1.out k hlt
        have y2 := X2.out k hlt
        go_wp2
        go_quiet (fail)
        go_wp2
        go_roundw
        case rel => exact ⟨k + 1, _, by omega, by go_num, rfl⟩
        case measure => simp [intOf]; omega
      · go_wp2
        go_ret
        exact ⟨rfl, _, rfl⟩

/-- A new slice of the call's own, written out. -/
theorem Rd.lit (w : World) (e : TypeId) (cs : Array Value) (n : Nat) (hn : n = cs.size) (hp : 0 < n) (hm : n ≤ 65536) (h1 : ∀ u ∈ cs.toList, u.oneCell' = true) :
    Rd (w.alloc (.cells cs e)) (.slice (some ⟨w.heap.size, 0, none⟩) n n) cs.toList := (Row.new w e cs n hn (by simp only [maxLen]; omega) hp h1).rd

/-- A queue that lies beyond block B. -/
def QOwn (B : Nat) (w : World) (q : Nat) (room : Nat) (en : Bool) (xs : List Value) : Prop := ∃ g, QAt w q g room en xs ∧ B ≤ q ∧ ∀ b, g = some b → B ≤ b

section
variable {B : Nat} {w w' : World} {q room : Nat} {en : Bool} {xs : List Value}
theorem QOwn.alloc (h : QOwn B w q room en xs) (o : Obj) : QOwn B (w.alloc o) q room en xs := by
  obtain ⟨g, h1, h2⟩ := h; exact ⟨g, h1.alloc o, h2⟩
theorem QOwn.drewN (h : QOwn B w q room en xs) (n : Nat) : QOwn B (w.drewN n) q room en xs := h
theorem QOwn.keep (h : QOwn B w q room en xs) (hb : Below w.heap.size w w') : QOwn B w' q room en xs := by
  obtain ⟨g, h1, h2⟩ := h; exact ⟨g, h1.below hb h1.blk_lt (fun b e => h1.row_lt e), h2⟩

/-- What Put leaves, of a queue that lies beyond block B. -/
def PutOwn (B : Nat) (w : World) (q room : Nat) (en : Bool) (k : Nat) (zs : List Value) (e : Ending) (w' : World) : Prop :=
  e = .returned (.int .i64 k) ∧ QOwn B w' q room en zs ∧ Below B w w'
theorem Put_own (h : QOwn B w q room en xs) (hB : B ≤ w.heap.size) (hroom : room ≤ 65536) (hle : xs.length ≤ room)
    {A : Option Addr} {m c : Nat} {ys : List Value} (hr : Rd w (.slice A m c) ys) (hm : m ≤ 9223372036854775807) :
    Calls Try.prog 12 #[.pointer (some ⟨q, 0, none⟩), .slice A m c] w (PutOwn B w q room en (putN room en xs.length m) (xs ++ ys.take (putN room en xs.length m))) := by
  obtain ⟨g, h1, h2, h3⟩ := h
  refine (Put_at h1 hroom hle hr hm).mono ?_
  rintro e w' ⟨g', rfl, hq, ho, hg⟩
  refine ⟨rfl, ⟨g', hq, h2, ?_⟩, ho.below hB ?_⟩
  · rintro b rfl
    rcases hg with rfl | ⟨b', e', hb'⟩
    · exact h3 b rfl
    · cases e'; omega
  · rintro i hi (rfl | e')
    · omega
    · have := h3 i e'.symm; omega

/-- What Take leaves, of a queue that lies beyond block B. -/
def TakeOwn (B : Nat) (w : World) (q room : Nat) (en : Bool) (ys zs : List Value) (e : Ending) (w' : World) : Prop :=
  ∃ A c, e = .returned (.slice A ys.length c) ∧ Rd w' (.slice A ys.length c) ys ∧ QOwn B w' q room en zs ∧ Below B w w'
theorem Take_own (h : QOwn B w q room en xs) (hB : B ≤ w.heap.size) (hm : xs.length ≤ 65536) (n : Int) :
    Calls Try.prog 15 #[.pointer (some ⟨q, 0, none⟩), .int .i64 n] w (TakeOwn B w q room en (xs.take n.toNat) (xs.drop n.toNat)) := by
  obtain ⟨g, h1, h2, h3⟩ := h
  refine (Take_at h1 hm n).mono ?_
  rintro e w' ⟨v, gt, g', rfl, hrow, hq, ho, hf, hg⟩
  obtain ⟨A, c, rfl⟩ := hrow.form
  refine ⟨A, c, rfl, hrow.rd, ⟨g', hq, h2, ?_⟩, ho.below hB ?_⟩
  · rintro b rfl
    rcases hg with rfl | e'
    · exact h3 b rfl
    · cases e'
  · rintro i hi (rfl | e')
    · omega
    · have := h3 i e'.symm; omega

theorem Room_own (h : QOwn B w q room en xs) (h1 : room ≤ 65536) (h2 : xs.length ≤ room) :
    Calls Try.prog 21 #[.pointer (some ⟨q, 0, none⟩)] w fun e w' => e = .returned (.int .i64 (roomOf room en xs.length)) ∧ ∃ n, w' = w.drewN n := by
  obtain ⟨g, h3, _⟩ := h
  exact Room_at h3 h1 h2
theorem Len_own (h : QOwn B w q room en xs) : Calls Try.prog 20 #[.pointer (some ⟨q, 0, none⟩)] w fun e w' => e = .returned (.int .i64 xs.length) ∧ w = w' := by
  obtain ⟨g, h3, _⟩ := h
  exact Len_at h3
theorem Over_own (h : QOwn B w q room en xs) : Calls Try.prog 23 #[.pointer (some ⟨q, 0, none⟩)] w fun e w' => e = .returned (.bool (en && xs.isEmpty)) ∧ w = w' := by
  obtain ⟨g, h3, _⟩ := h
  exact Over_at h3
theorem End_own (h : QOwn B w q room en xs) (hB : B ≤ w.heap.size) : Calls Try.prog 19 #[.pointer (some ⟨q, 0, none⟩)] w fun e w' => e = .returned (.tuple #[]) ∧ QOwn B w' q room true xs ∧ Below B w w' := by
  obtain ⟨g, h3, h4, h5⟩ := h
  refine (End_at h3).mono ?_
  rintro e w' ⟨rfl, hq, ho⟩
  exact ⟨rfl, ⟨g, hq, h4, h5⟩, ho.below hB (by rintro i hi rfl; omega)⟩
theorem New_own (n : Nat) (w : World) (hB : B ≤ w.heap.size) (h1 : 1 ≤ n) (h2 : n ≤ 65536) :
    Calls Try.prog 11 #[.int .i64 n] w fun e w' => e = .returned (.tuple #[.pointer (some ⟨w.heap.size, 0, none⟩), .int .i64 0]) ∧ QOwn B w' w.heap.size n false [] ∧ Below w.heap.size w w' := by
  refine (New_yes n w h1 h2).mono ?_
  rintro e w' ⟨rfl, hq, hb, _⟩
  exact ⟨rfl, ⟨none, hq, hB, by intro b e; cases e⟩, hb⟩
end

set_option maxHeartbeats 1000000 in
theorem alive_true (w : World) : Calls Try.prog 9 #[] w fun e w' => e = .returned (.bool true) ∧ Below w.heap.size w w' := by
  go_enter Try.func9, Try.ntmps9
  go_wp2_with fail
  refine (New_own (B := w.heap.size) 3 w (Nat.le_refl _) (by omega) (by omega)).mono ?_
  rintro e w1 ⟨rfl, hq1, hb1⟩
  have B1 := Lib.hid (And.intro hq1 hb1)
  clear hq1 hb1
  go_wp2_with fail
  have P1 : Calls Try.prog 12 #[.pointer (some ⟨w.heap.size, 0, none⟩), .slice (some ⟨w1.heap.size, 0, none⟩) 2 2] (w1.alloc (.cells #[.int .i64 1, .int .i64 2] 3)) (PutOwn w.heap.size (w1.alloc (.cells #[.int .i64 1, .int .i64 2] 3)) w.heap.size 3 false 2 (iv [1, 2])) :=
    Put_own (B1.out.1.alloc _) (by have := B1.out.2.size; simp; omega) (by omega) (by simp) (Rd.lit w1 3 #[.int .i64 1, .int .i64 2] 2 rfl (by omega) (by omega) (by simp [Value.oneCell'])) (by omega)
  refine P1.mono ?_
  clear P1
  rintro e w2 ⟨rfl, hq2, hb2⟩
  have B2 : Hid (QOwn w.heap.size w2 w.heap.size 3 false (iv [1, 2]) ∧ Below w.heap.size w w2) := ⟨hq2, (B1.out.2.alloc B1.out.2.size _).trans hb2⟩
  clear B1 hq2 hb2
  go_wp2_with fail
  have P2 : Calls Try.prog 12 #[.pointer (some ⟨w.heap.size, 0, none⟩), .slice (some ⟨w2.heap.size, 0, none⟩) 2 2] (w2.alloc (.cells #[.int .i64 3, .int .i64 4] 3)) (PutOwn w.heap.size (w2.alloc (.cells #[.int .i64 3, .int .i64 4] 3)) w.heap.size 3 false 1 (iv [1, 2, 3])) :=
    Put_own (B2.out.1.alloc _) (by have := B2.out.2.size; simp; omega) (by omega) (by simp) (Rd.lit w2 3 #[.int .i64 3, .int .i64 4] 2 rfl (by omega) (by omega) (by simp [Value.oneCell'])) (by omega)
  refine P2.mono ?_
  clear P2
  rintro e w3 ⟨rfl, hq3, hb3⟩
  have B3 : Hid (QOwn w.heap.size w3 w.heap.size 3 false (iv [1, 2, 3]) ∧ Below w.heap.size w w3) := ⟨hq3, (B2.out.2.alloc B2.out.2.size _).trans hb3⟩
  clear B2 hq3 hb3
  go_wp2_with fail
  have P3 : Calls Try.prog 15 #[.pointer (some ⟨w.heap.size, 0, none⟩), .int .i64 2] w3 (TakeOwn w.heap.size w3 w.heap.size 3 false (iv [1, 2]) (iv [3])) :=
    Take_own B3.out.1 B3.out.2.size (by simp) 2
  refine P3.mono ?_
  clear P3
  rintro e w4 ⟨A, c, rfl, hr4, hq4, hb4⟩
  have B4 : Hid (QOwn w.heap.size w4 w.heap.size 3 false (iv [3]) ∧ Below w.heap.size w w4 ∧ Rd w4 (.slice A (iv [1, 2]).length c) (iv [1, 2])) := ⟨hq4, B3.out.2.trans hb4, hr4⟩
  clear B3 hq4 hb4 hr4
  go_wp2_with fail
  have P4 : Calls Try.prog 14 #[.slice A 2 c, .slice (some ⟨w4.heap.size, 0, none⟩) 2 2] (w4.alloc (.cells #[.int .i64 1, .int .i64 2] 3)) fun e w' => e = .returned (.bool true) ∧ ∃ n, w' = (w4.alloc (.cells #[.int .i64 1, .int .i64 2] 3)).drewN n :=
    Same_eq [1, 2] _ _ _ _ _ _ _ (B4.out.2.2.alloc _) (Rd.lit w4 3 #[.int .i64 1, .int .i64 2] 2 rfl (by omega) (by omega) (by simp [Value.oneCell'])) (by simp)
  refine P4.mono ?_
  clear P4
  rintro e w5 ⟨rfl, nd, rfl⟩
  go_wp2_with fail
  have P5 : Calls Try.prog 21 #[.pointer (some ⟨w.heap.size, 0, none⟩)] ((w4.alloc (.cells #[.int .i64 1, .int .i64 2] 3)).drewN nd) fun e w' => e = .returned (.int .i64 2) ∧ ∃ n, w' = ((w4.alloc (.cells #[.int .i64 1, .int .i64 2] 3)).drewN nd).drewN n :=
    Room_own ((B4.out.1.alloc _).drewN nd) (by omega) (by simp)
  refine P5.mono ?_
  clear P5
  rintro e w6 ⟨rfl, ne, rfl⟩
  go_wp2_with fail
  go_ret
  have hb := (B4.out.2.1.alloc B4.out.2.1.size (.cells #[.int .i64 1, .int .i64 2] 3))
  exact ⟨rfl, ⟨hb.os, hb.tape, hb.output, hb.size, hb.block⟩⟩
end Go.Proofs.Ytdlcilhgpnlhjaa
