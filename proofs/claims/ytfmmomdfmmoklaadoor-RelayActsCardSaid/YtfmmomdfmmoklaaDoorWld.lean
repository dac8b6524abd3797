/-
  What the laws have in memory: a user's line, a child's, a relay between them, and what was written and read (WorldT); the contract of cuecardlaw07.New.
  Conditions: the package's table holds what its initialiser lays (Oth).
-/
import Derived.Test.YtfmmomdfmmoklaaDoorRlyStep
import Derived.Test.YtfmmomdfmmoklaaDoorRlyNew
import Derived.Test.YtfmmomdfmmoklaaDoorRlyTell
import Derived.Test.YtfmmomdfmmoklaaDoorStrCat
namespace Go.Proofs.YtfmmomdfmmoklaaDoor
open Go.RowKit

/-- A relay and its lines, and of the ends (0 the user, 1 the child) what they wrote and read. -/
structure Wld where
  x : Sys
  wr : Nat → List Nat
  rd : Nat → List Nat
def Wld.start (rm : Nat) : Wld := ⟨Sys.start rm, fun _ => [], fun _ => []⟩

/-- The struct's cells. -/
def wldCells (u c r : Nat) (wr rd : Nat → List Nat) : Array Value :=
  #[.pointer (some ⟨u, 0, none⟩), .pointer (some ⟨c, 0, none⟩), .pointer (some ⟨r, 0, none⟩), .string (str (wr 0)), .string (str (wr 1)), .string (str (rd 0)), .string (str (rd 1))]
def Bx (b u c r : Nat) (wr rd : Nat → List Nat) : Thing := fun F w => Blk w b 53 (wldCells u c r wr rd) ∧ ∀ i, F i ↔ i = b
theorem Bx.framed (b u c r : Nat) (wr rd : Nat → List Nat) : Framed (Bx b u c r wr rd) :=
  ⟨fun h ho hd => ⟨h.1.only ho (hd _ ((h.2 _).2 rfl)), h.2⟩, fun h i hi => by rw [(h.2 i).1 hi]; exact h.1.lt⟩
/-- All of it. -/
def WorldT (b u c r : Nat) (y : Wld) : Thing := Star (Bx b u c r y.wr y.rd) (SysT (two c u) r y.x)
theorem WorldT.framed (b u c r : Nat) (y : Wld) : Framed (WorldT b u c r y) := Star.framed (Bx.framed ..) (SysT.framed ..)

section
variable {b u c r : Nat} {y : Wld} {F N : Nat → Prop} {w0 w : World}
theorem WorldT.blk (h : WorldT b u c r y F w) : Blk w b 53 (wldCells u c r y.wr y.rd) := by
  obtain ⟨A, B, h⟩ := h
  exact h.fst.1
theorem WorldT.has (h : WorldT b u c r y F w) : F b := by
  obtain ⟨A, B, h⟩ := h
  exact (h.un b).2 (.inl ((h.fst.2 b).2 rfl))
theorem WorldT.sys (h : WorldT b u c r y F w) : ∃ B, SysT (two c u) r y.x B w ∧ (∀ i, B i → F i) ∧ ¬ B b ∧ ∀ x' w', Turned (SysT (two c u) r x') B w w' → Turned (WorldT b u c r { y with x := x' }) F w w' := by
  obtain ⟨A, B, h⟩ := h
  exact ⟨B, h.snd, fun i hi => (h.un i).2 (.inr hi), fun hb => h.ap b ((h.fst.2 b).2 rfl) hb, fun x' w' t => h.right (Bx.framed ..) t⟩
theorem HasF.oth {P : Thing} (h : HasF P F N w0 w) (ho : Oth w0) : OthF F w := fun w' k => ho.below (k.more' h.below (fun i hi hF => by have := h.new i hF; omega))
theorem OthF.less {G : Nat → Prop} (h : OthF F w) (hG : ∀ i, G i → F i) : OthF G w := fun w' k => h w' (k.mono fun i _ hi => hG i hi)

/-- A line is none of the relay's. -/
theorem Rly.line {L : Nat → Nat} {x : Sys} {k s : Nat} {z : Way} (h : Rly L r x F w) : Rly L r (x.line k s z) F w := by
  obtain ⟨A, c, q, g, v, l, h⟩ := h
  exact ⟨A, c, q, g, v, l, h.blk, h.clk, h.el, h.pe, h.wt, h.fr, h.fq, h.lt⟩

/-- One of the lines, of all. -/
theorem SysT.at {L : Nat → Nat} {x : Sys} (h : SysT L r x F w) (k : Nat) (hk : k < 2) : ∃ G, PAt G w (L k) x.rm (x.f k) ∧ (∀ b, G b → F b) ∧
    (∀ s z w', Turned (Ln (L k) x.rm (upd (x.f k) s z)) G w w' → Turned (SysT L r (x.line k s z)) F w w') := by
  obtain ⟨A, B, h⟩ := h
  obtain ⟨G, hp, hG, ht, -⟩ := Lines.at h.fst k hk
  exact ⟨G, hp, fun b hb => (h.un b).2 (.inl (hG b hb)), fun s z w' t => (h.left (P' := Lines L (x.line k s z)) (Rly.framed ..) (ht s z w' t)).imp fun _ ⟨A, B, k⟩ => ⟨A, B, k.fst, Rly.line k.snd, k.ap, k.un⟩⟩
end

/-- What New leaves. -/
def Newed (w : World) (rm : Nat) (e : Ending) (w' : World) : Prop := ∃ b u c r, e = .returned (.pointer (some ⟨b, 0, none⟩)) ∧ WorldT b u c r (Wld.start rm) (fun i => w.heap.size ≤ i ∧ i < w'.heap.size) w' ∧ Below w.heap.size w w'

set_option maxHeartbeats 1000000 in
set_option maxRecDepth 100000 in
theorem WNew (room : Int) (hr : room ≤ 9223372036854775807) (w : World) (rm : Nat) (hrm : (rm : Int) = 1 + (max 0 room) % 30) : Calls Tryd.prog 11 #[.int .i64 room] w (Newed w rm) := by
  obtain ⟨z, hz1, hmax⟩ : ∃ z : Nat, z ≤ 9223372036854775807 ∧ max 0 room = (z : Int) := ⟨room.toNat, by omega, by omega⟩
  rw [hmax] at hrm
  have hr1 : 1 ≤ rm := by omega
  have hr2 : rm ≤ 30 := by omega
  have hrm3 : 1 + (z : Int) % 30 = (rm : Int) := hrm.symm
  clear hrm
  go_enter Tryd.func11, Tryd.ntmps11
  go_wp2_with fail
  refine (PNew_yes rm w hr1 (by omega)).mono ?_
  rintro e w1 ⟨rfl, hp1, hb1⟩
  have X1 := Lib.hid (And.intro hp1 hb1)
  obtain ⟨u, hu⟩ : ∃ u, w.heap.size = u := ⟨_, rfl⟩
  rw [hu]
  have HU := Lib.hid hu
  clear hp1 hb1 hmax hrm3 hu
  go_wp2_with fail
  refine (PNew_yes rm w1 hr1 (by omega)).mono ?_
  rintro e w2 ⟨rfl, hp2, hb2⟩
  obtain ⟨c, hc⟩ : ∃ c, w1.heap.size = c := ⟨_, rfl⟩
  rw [hc] at hp2 ⊢
  have hpu := PAt.keep (X1.out.1) hb2
  rw [HU.out] at hpu
  have huc : u ≠ c := by have := X1.out.1.lt; have h1 := X1.out.1.ex; obtain ⟨q, g, hB, hF, -⟩ := h1; have := hB.blk.lt; have := HU.out; omega
  have X2 := Lib.hid (And.intro hpu (And.intro hp2 (And.intro hb2 (And.intro hc huc))))
  obtain ⟨q1, g1, B1, -, -⟩ := hpu.ex
  obtain ⟨q2, g2, B2, -, -⟩ := hp2.ex
  have hnew := RNew_at u c rm w2 huc B1.blk B2.blk
  have HNEW := Lib.hid hnew
  clear hpu hp2 hb2 hc B1 B2 hnew huc
  go_wp2_with fail
  refine HNEW.out.mono ?_
  rintro e w3 ⟨r, rfl, hR, hb3⟩
  have X3 := Lib.hid (And.intro hR hb3)
  clear hR hb3
  go_wp2_with fail
  go_ret
  obtain ⟨hp1, hb1⟩ := X1.out
  obtain ⟨hpu, hpc, hb2, hc, huc⟩ := X2.out
  obtain ⟨hR, hb3⟩ := X3.out
  have s1 := hb1.size
  have s2 := hb2.size
  have s3 := hb3.size
  have hb4 : Below w3.heap.size w3 (w3.alloc (.cells #[.pointer (some ⟨u, 0, none⟩), .pointer (some ⟨c, 0, none⟩), .pointer (some ⟨r, 0, none⟩), .string ⟨#[]⟩, .string ⟨#[]⟩, .string ⟨#[]⟩, .string ⟨#[]⟩] 53)) := (Below.refl _ w3).alloc (Nat.le_refl _) _
  have l2 : Lines (two c u) (Sys.start rm) (fun i => Since w1 w2 i ∨ Since w w1 i) w2 := ⟨Since w1 w2, Since w w1, hpc, hpu, fun i h1 h2 => by have := h1.1; have := h2.2; omega, fun _ => Iff.rfl⟩
  have l4 : Lines (two c u) (Sys.start rm) (fun i => Since w1 w2 i ∨ Since w w1 i) (w3.alloc (.cells #[.pointer (some ⟨u, 0, none⟩), .pointer (some ⟨c, 0, none⟩), .pointer (some ⟨r, 0, none⟩), .string ⟨#[]⟩, .string ⟨#[]⟩, .string ⟨#[]⟩, .string ⟨#[]⟩] 53)) :=
    (Lines.framed ..).only l2 (Only.of_below (hb3.trans (hb4.mono s3)) (Nat.le_refl _) (fun _ => False)) (fun _ _ e => e)
  have r4 := (Rly.framed (two c u) r (Sys.start rm)).only hR (Only.of_below hb4 (Nat.le_refl _) (fun _ => False)) (fun _ _ e => e)
  refine ⟨w3.heap.size, u, c, r, rfl, ⟨fun i => i = w3.heap.size, fun i => (Since w1 w2 i ∨ Since w w1 i) ∨ (w2.heap.size ≤ i ∧ i < w3.heap.size), ⟨Blk.new w3 _ _, fun _ => Iff.rfl⟩, ⟨_, _, l4, r4, fun i h1 h2 => ?_, fun _ => Iff.rfl⟩, fun i e h => ?_, fun i => ?_⟩, (hb1.trans (hb2.mono s1)).trans ((hb3.mono (by omega)).trans (hb4.mono (by omega)))⟩
  · unfold Since at h1; omega
  · unfold Since at h; omega
  · unfold Since; simp only [World.size_alloc]; omega
end Go.Proofs.YtfmmomdfmmoklaaDoor
