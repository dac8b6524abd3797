/-
  The contracts of pty's methods: a line is two queues of bytes; what a line is in memory (PAt, with the blocks F that it lies in).
  Conditions: none but that the line was made by New, or is nil; the package's table holds what its initialiser lays (Oth).
-/
import Derived.Test.YtfmmomdfmmoklaaDoorQbPut
import Derived.Test.YtfmmomdfmmoklaaDoorBy
namespace Go.Proofs.YtfmmomdfmmoklaaDoor
open Go.RowKit

/-- The package's table: a side's other one. -/
def Oth (w : World) : Prop := w.cell? ⟨0, 0, none⟩ = some (.int .i64 1) ∧ w.cell? ⟨0, 1, none⟩ = some (.int .i64 0)
theorem Oth.below {w w' : World} (h : Oth w) (hb : Below w.heap.size w w') : Oth w' :=
  ⟨(hb.cell (p := ⟨0, 0, none⟩) (World.block_lt_of_cell? w _ h.1)).trans h.1, (hb.cell (p := ⟨0, 1, none⟩) (World.block_lt_of_cell? w _ h.2)).trans h.2⟩
theorem Oth.drewN {w : World} (h : Oth w) (n : Nat) : Oth (w.drewN n) := h

/-- A way: whether it is at its end, and what waits. -/
structure Way where
  en : Bool
  xs : List Nat

/-- The ways, of which one is another. -/
def upd (f : Nat → Way) (s : Nat) (y : Way) : Nat → Way := fun k => if k = s then y else f k
theorem upd_at (f : Nat → Way) (s : Nat) (y : Way) : upd f s y s = y := by simp [upd]
theorem upd_far (f : Nat → Way) {s k : Nat} (y : Way) (h : k ≠ s) : upd f s y k = f k := by simp [upd, h]

/-- Both ways' queues. -/
structure Both (w : World) (p room : Nat) (f : Nat → Way) (q : Nat → Nat) (g : Nat → Option Nat) : Prop where
  blk : Blk w p 91 #[.pointer (some ⟨q 0, 0, none⟩), .pointer (some ⟨q 1, 0, none⟩)]
  que : ∀ s, s < 2 → QAt w (q s) (g s) room (f s).en (bv (f s).xs)
  ne_ : q 0 ≠ q 1
  apart : ∀ b, g 0 = some b → g 1 ≠ some b

/-- A line, in the blocks F: by sides the ways from them. -/
structure PAt (F : Nat → Prop) (w : World) (p room : Nat) (f : Nat → Way) : Prop where
  ex : ∃ q g, Both w p room f q g ∧ F p ∧ ∀ s, s < 2 → F (q s) ∧ ∀ b, g s = some b → F b
  lt : ∀ b, F b → b < w.heap.size
  room_le : room ≤ 65536
  le : ∀ s, s < 2 → (f s).xs.length ≤ room

/-- What a call leaves of a line. -/
def Turns (F : Nat → Prop) (w w' : World) (p room : Nat) (f : Nat → Way) : Prop :=
  ∃ F', PAt F' w' p room f ∧ Only F w w' ∧ ∀ b, F' b → F b ∨ w.heap.size ≤ b

section
variable {F G : Nat → Prop} {w w' : World} {p room : Nat} {f : Nat → Way} {q : Nat → Nat} {g : Nat → Option Nat}

theorem two_ne {s k : Nat} (hs : s < 2) (hk : k < 2) (h : k ≠ s) : (s = 0 ∧ k = 1) ∨ (s = 1 ∧ k = 0) := by omega

theorem PAt.only (h : PAt G w p room f) (hb : Only F w w') (hd : ∀ b, G b → ¬ F b) : PAt G w' p room f := by
  obtain ⟨⟨q, g, hB, hp, hF⟩, hl, h1, h2⟩ := h
  exact ⟨⟨q, g, ⟨hB.blk.only hb (hd _ hp), fun s hs => (hB.que s hs).only hb (hd _ (hF s hs).1) (fun b e => hd _ ((hF s hs).2 b e)), hB.ne_, hB.apart⟩, hp, hF⟩, fun b hb' => Nat.lt_of_lt_of_le (hl b hb') hb.size, h1, h2⟩
theorem PAt.keep (h : PAt G w p room f) (hb : Below w.heap.size w w') : PAt G w' p room f :=
  h.only (Only.of_below hb (Nat.le_refl _) (fun _ => False)) (fun _ _ e => e)
theorem PAt.drewN (h : PAt G w p room f) (n : Nat) : PAt G (w.drewN n) p room f := h.keep ⟨rfl, rfl, rfl, Nat.le_refl _, fun _ _ => rfl⟩
theorem PAt.alloc (h : PAt G w p room f) (o : Obj) : PAt G (w.alloc o) p room f := h.keep ((Below.refl _ w).alloc (Nat.le_refl _) o)

/-- One way has turned. -/
theorem Both.turn (h : PAt F w p room f) (hB : Both w p room f q g) (hF : F p ∧ ∀ s, s < 2 → F (q s) ∧ ∀ b, g s = some b → F b) {s : Nat} (hs : s < 2) {y : Way} {g' : Option Nat} (hy : y.xs.length ≤ room)
    (hq : QAt w' (q s) g' room y.en (bv y.xs)) (ho : Only (fun b => b = q s ∨ some b = g s) w w') (hg : g' = g s ∨ g' = none ∨ ∃ b, g' = some b ∧ w.heap.size ≤ b) : Turns F w w' p room (upd f s y) := by
  have hoF : Only F w w' := ho.mono (by
    rintro i _ (rfl | e)
    · exact (hF.2 s hs).1
    · exact (hF.2 s hs).2 i e.symm)
  have hne : ∀ k, k < 2 → k ≠ s → q k ≠ q s ∧ (∀ b, g k = some b → g s ≠ some b) := by
    intro k hk hks
    rcases two_ne hs hk hks with ⟨rfl, rfl⟩ | ⟨rfl, rfl⟩
    · exact ⟨Ne.symm hB.ne_, fun b e1 e2 => hB.apart b e2 e1⟩
    · exact ⟨hB.ne_, hB.apart⟩
  have hsz := ho.size
  refine ⟨fun b => F b ∨ (w.heap.size ≤ b ∧ b < w'.heap.size), ⟨⟨q, fun k => if k = s then g' else g k, ⟨?_, ?_, hB.ne_, ?_⟩, .inl hF.1, ?_⟩, ?_, h.room_le, ?_⟩, hoF, fun b hb => hb.imp id And.left⟩
  · refine hB.blk.only ho ?_
    rintro (e | e)
    · obtain ⟨v, hb, _⟩ := hB.que s hs
      exact hB.blk.ne_ hb (by decide) e
    · obtain ⟨v, _, hr⟩ := hB.que s hs
      exact hr.ne_ hB.blk (by decide) e.symm
  · intro k hk
    by_cases hks : k = s
    · subst hks; simp only [upd_at, if_pos]; exact hq
    · rw [upd_far _ _ hks]
      simp only [if_neg hks]
      obtain ⟨n1, n2⟩ := hne k hk hks
      refine (hB.que k hk).only ho ?_ ?_
      · rintro (e | e)
        · exact n1 e
        · obtain ⟨v, hb, _⟩ := hB.que k hk
          obtain ⟨v', _, hr⟩ := hB.que s hs
          exact hr.ne_ hb (by decide) e.symm
      · rintro b e (rfl | e')
        · obtain ⟨v, _, hr⟩ := hB.que k hk
          obtain ⟨v', hb, _⟩ := hB.que s hs
          exact hr.ne_ hb (by decide) e
        · exact n2 b e e'.symm
  · have key : ∀ k, k < 2 → k ≠ s → ∀ b, g' = some b → g k ≠ some b := by
      intro k hk hks b e e2
      rcases hg with rfl | rfl | ⟨b', rfl, hb'⟩
      · exact (hne k hk hks).2 b e2 e
      · cases e
      · cases e; have := (hB.que k hk).row_lt e2; omega
    intro b e e2
    rcases (show s = 0 ∨ s = 1 by omega) with rfl | rfl
    · simp at e e2; exact key 1 (by omega) (by omega) b e e2
    · simp at e e2; exact key 0 (by omega) (by omega) b e2 e
  · intro k hk
    refine ⟨.inl (hF.2 k hk).1, fun b e => ?_⟩
    by_cases hks : k = s
    · subst hks
      simp only [if_pos] at e
      rcases hg with rfl | rfl | ⟨b', rfl, hb'⟩
      · exact .inl ((hF.2 k hk).2 b e)
      · cases e
      · cases e; exact .inr ⟨hb', hq.row_lt rfl⟩
    · simp only [if_neg hks] at e
      exact .inl ((hF.2 k hk).2 b e)
  · rintro b (hb | ⟨_, hb⟩)
    · exact Nat.lt_of_lt_of_le (h.lt b hb) hsz
    · exact hb
  · intro k hk
    by_cases hks : k = s
    · subst hks; rw [upd_at]; exact hy
    · rw [upd_far _ _ hks]; exact h.le k hk
end

theorem isSide_yes (s : Nat) (hs : s < 2) (w : World) : Calls Tryd.prog 53 #[.int .i64 s] w fun e w' => e = .returned (.bool true) ∧ w = w' := by
  rcases (show s = 0 ∨ s = 1 by omega) with rfl | rfl
  all_goals
    clear hs
    go_enter Tryd.func53, Tryd.ntmps53
    go_wp2
    go_ret
    exact ⟨rfl, rfl⟩
theorem isSide_no (s : Int) (h0 : s ≠ 0) (h1 : s ≠ 1) (w : World) : Calls Tryd.prog 53 #[.int .i64 s] w fun e w' => e = .returned (.bool false) ∧ w = w' := by
  have e0 : (s == 0) = false := by simpa using h0
  have e1 : (s == 1) = false := by simpa using h1
  clear h0 h1
  go_enter Tryd.func53, Tryd.ntmps53
  go_wp2
  go_ret
  exact ⟨rfl, rfl⟩

theorem from_nil (s : Int) (w : World) : Calls Tryd.prog 45 #[.pointer none, .int .i64 s] w fun e w' => e = .returned (.pointer none) ∧ w = w' := by
  go_enter Tryd.func45, Tryd.ntmps45
  go_wp2
  go_ret
  exact ⟨rfl, rfl⟩
theorem from_no (p : Nat) (s : Int) (h0 : s ≠ 0) (h1 : s ≠ 1) (w : World) : Calls Tryd.prog 45 #[.pointer (some ⟨p, 0, none⟩), .int .i64 s] w fun e w' => e = .returned (.pointer none) ∧ w = w' := by
  have H := Lib.hid (And.intro h0 h1)
  clear h0 h1
  go_enter Tryd.func45, Tryd.ntmps45
  go_wp2_with (go_at_call 53; refine (isSide_no s H.out.1 H.out.2 _).mono ?_; rintro e w' ⟨rfl, rfl⟩)
  go_ret
  exact ⟨rfl, rfl⟩
theorem from_at {w : World} {p : Nat} {q : Nat → Nat} (h : Blk w p 91 #[.pointer (some ⟨q 0, 0, none⟩), .pointer (some ⟨q 1, 0, none⟩)]) (s : Nat) (hs : s < 2) :
    Calls Tryd.prog 45 #[.pointer (some ⟨p, 0, none⟩), .int .i64 s] w fun e w' => e = .returned (.pointer (some ⟨q s, 0, none⟩)) ∧ w = w' := by
  have c0 : w.cell? ⟨p, 0, none⟩ = some (.pointer (some ⟨q 0, 0, none⟩)) := h.cell 0
  have c1 : w.cell? ⟨p, 1, none⟩ = some (.pointer (some ⟨q 1, 0, none⟩)) := h.cell 1
  clear h
  rcases (show s = 0 ∨ s = 1 by omega) with rfl | rfl
  · clear hs
    go_enter Tryd.func45, Tryd.ntmps45
    go_wp2_with (go_at_call 53; refine (isSide_yes 0 (by omega) _).mono ?_; rintro e w' ⟨rfl, rfl⟩)
    go_ret
    exact ⟨rfl, rfl⟩
  · clear hs
    go_enter Tryd.func45, Tryd.ntmps45
    go_wp2_with (go_at_call 53; refine (isSide_yes 1 (by omega) _).mono ?_; rintro e w' ⟨rfl, rfl⟩)
    go_ret
    exact ⟨rfl, rfl⟩

theorem to_no (v : Value) (s : Int) (h0 : s ≠ 0) (h1 : s ≠ 1) (w : World) : Calls Tryd.prog 38 #[v, .int .i64 s] w fun e w' => e = .returned (.pointer none) ∧ w = w' := by
  have H := Lib.hid (And.intro h0 h1)
  clear h0 h1
  go_enter Tryd.func38, Tryd.ntmps38
  go_wp2_with (go_at_call 53; refine (isSide_no s H.out.1 H.out.2 _).mono ?_; rintro e w' ⟨rfl, rfl⟩)
  go_ret
  exact ⟨rfl, rfl⟩
theorem to_nil (s : Nat) (hs : s < 2) (w : World) (ho : Oth w) : Calls Tryd.prog 38 #[.pointer none, .int .i64 s] w fun e w' => e = .returned (.pointer none) ∧ w = w' := by
  obtain ⟨o0, o1⟩ := ho
  rcases (show s = 0 ∨ s = 1 by omega) with rfl | rfl
  · clear hs
    go_enter Tryd.func38, Tryd.ntmps38
    go_wp2_with (first
      | (go_at_call 53; refine (isSide_yes 0 (by omega) _).mono ?_; rintro e w' ⟨rfl, rfl⟩)
      | (go_at_call 45; refine (from_nil _ _).mono ?_; rintro e w' ⟨rfl, rfl⟩))
    go_ret
    exact ⟨rfl, rfl⟩
  · clear hs
    go_enter Tryd.func38, Tryd.ntmps38
    go_wp2_with (first
      | (go_at_call 53; refine (isSide_yes 1 (by omega) _).mono ?_; rintro e w' ⟨rfl, rfl⟩)
      | (go_at_call 45; refine (from_nil _ _).mono ?_; rintro e w' ⟨rfl, rfl⟩))
    go_ret
    exact ⟨rfl, rfl⟩
theorem to_at {w : World} {p : Nat} {q : Nat → Nat} (h : Blk w p 91 #[.pointer (some ⟨q 0, 0, none⟩), .pointer (some ⟨q 1, 0, none⟩)]) (ho : Oth w) (s : Nat) (hs : s < 2) :
    Calls Tryd.prog 38 #[.pointer (some ⟨p, 0, none⟩), .int .i64 s] w fun e w' => e = .returned (.pointer (some ⟨q (1 - s), 0, none⟩)) ∧ w = w' := by
  obtain ⟨o0, o1⟩ := ho
  rcases (show s = 0 ∨ s = 1 by omega) with rfl | rfl
  · have H := Lib.hid (from_at h 1 (by omega))
    clear hs h
    go_enter Tryd.func38, Tryd.ntmps38
    go_wp2_with (first
      | (go_at_call 53; refine (isSide_yes 0 (by omega) _).mono ?_; rintro e w' ⟨rfl, rfl⟩)
      | (go_at_call 45; refine H.out.mono ?_; rintro e w' ⟨rfl, rfl⟩))
    go_ret
    exact ⟨rfl, rfl⟩
  · have H := Lib.hid (from_at h 0 (by omega))
    clear hs h
    go_enter Tryd.func38, Tryd.ntmps38
    go_wp2_with (first
      | (go_at_call 53; refine (isSide_yes 1 (by omega) _).mono ?_; rintro e w' ⟨rfl, rfl⟩)
      | (go_at_call 45; refine H.out.mono ?_; rintro e w' ⟨rfl, rfl⟩))
    go_ret
    exact ⟨rfl, rfl⟩
end Go.Proofs.YtfmmomdfmmoklaaDoor
