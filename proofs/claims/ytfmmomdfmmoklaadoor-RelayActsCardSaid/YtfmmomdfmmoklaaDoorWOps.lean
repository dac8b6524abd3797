/-
  What the calls on the lines and on the relay leave of the laws' world, since w0.
  Conditions: the package's table holds what its initialiser lays (Oth).
-/
import Derived.Test.YtfmmomdfmmoklaaDoorWld
namespace Go.Proofs.YtfmmomdfmmoklaaDoor
open Go.RowKit

/-- The laws' world, since w0; N are blocks that are none of its. -/
def WAt (N : Nat → Prop) (w0 w : World) (b u c r : Nat) (y : Wld) : Prop := Has (WorldT b u c r y) N w0 w
/-- Line k's way from side s is another. -/
def Wld.line (y : Wld) (k s : Nat) (z : Way) : Wld := { y with x := y.x.line k s z }

section
variable {N M : Nat → Prop} {w0 w w' : World} {b u c r : Nat} {y : Wld}
theorem WAt.below (h : WAt N w0 w b u c r y) : Below w0.heap.size w0 w := Has.below h
theorem WAt.lt (h : WAt N w0 w b u c r y) {i : Nat} (hi : N i) : i < w.heap.size := Has.lt h hi
theorem WAt.less (h : WAt N w0 w b u c r y) (k : ∀ i, M i → N i) : WAt M w0 w b u c r y := Has.less h k
theorem WAt.none_ (h : WAt N w0 w b u c r y) : WAt (fun _ => False) w0 w b u c r y := Has.none_ h
theorem WAt.keep (h : WAt N w0 w b u c r y) (hb : Below w.heap.size w w') : WAt N w0 w' b u c r y := Has.keep h (WorldT.framed ..) hb
theorem WAt.drew (h : WAt N w0 w b u c r y) : WAt N w0 w.drew b u c r y := Has.drew h (WorldT.framed ..)
theorem WAt.drewN (h : WAt N w0 w b u c r y) (n : Nat) : WAt N w0 (w.drewN n) b u c r y := Has.drewN h (WorldT.framed ..) n
theorem WAt.more (h : WAt N w0 w b u c r y) (o : Obj) : WAt (fun i => N i ∨ i = w.heap.size) w0 (w.alloc o) b u c r y := Has.more h (WorldT.framed ..) o
theorem WAt.blk (h : WAt N w0 w b u c r y) : Blk w b 53 (wldCells u c r y.wr y.rd) := by
  obtain ⟨F, h⟩ := h
  exact h.it.blk
theorem WAt.of_new {rm : Nat} {e : Ending} (hb : Below w0.heap.size w0 w) (h : Newed w rm e w') : ∃ b u c r, e = .returned (.pointer (some ⟨b, 0, none⟩)) ∧ WAt (fun _ => False) w0 w' b u c r (Wld.start rm) := by
  obtain ⟨b, u, c, r, rfl, h1, h2⟩ := h
  exact ⟨b, u, c, r, rfl, Has.made hb h1 (fun i hi => hi.1) h2⟩

theorem two_at {k : Nat} (c u : Nat) : two c u k = if k = 0 then c else u := rfl

/-- Write, on line k from side s. -/
theorem WWrite (h : WAt N w0 w b u c r y) {k s p : Nat} {z : Int} (hk : k < 2) (hs : s < 2) (hp : two c u k = p) (hz : z = (s : Int)) {A : Option Addr} {m c' : Nat} {ys : List Nat} (hr : Rd w (.slice A m c') (bv ys)) (hm : m ≤ 9223372036854775807) :
    Calls Tryd.prog 30 #[.pointer (some ⟨p, 0, none⟩), .int .i64 z, .slice A m c'] w fun e w' => e = .returned (.int .i64 (putN y.x.rm (y.x.f k s).en (y.x.f k s).xs.length m)) ∧ WAt N w0 w' b u c r (y.line k s ⟨(y.x.f k s).en, (y.x.f k s).xs ++ ys.take (putN y.x.rm (y.x.f k s).en (y.x.f k s).xs.length m)⟩) ∧ Stay N w w' := by
  subst hp hz
  obtain ⟨F, h⟩ := h
  obtain ⟨B, hS, hB, -, hT⟩ := h.it.sys
  obtain ⟨G, hp, hG, ht⟩ := hS.at k hk
  refine (PWrite_at hp s hs hr hm).mono ?_
  rintro e w' ⟨rfl, t⟩
  obtain ⟨k1, k2⟩ := h.turn (hT _ w' (ht s _ w' t))
  exact ⟨rfl, k1, k2⟩
/-- Read, on line k to side s. -/
theorem WRead (h : WAt N w0 w b u c r y) (ho : Oth w0) {k s p : Nat} {z : Int} (hk : k < 2) (hs : s < 2) (hp : two c u k = p) (hz : z = (s : Int)) (n : Int) :
    Calls Tryd.prog 32 #[.pointer (some ⟨p, 0, none⟩), .int .i64 z, .int .i64 n] w fun e w' => ∃ A c' gt, e = .returned (.slice A ((y.x.f k (1 - s)).xs.take n.toNat).length c') ∧ Row w' 5 gt (.slice A ((y.x.f k (1 - s)).xs.take n.toNat).length c') (bv ((y.x.f k (1 - s)).xs.take n.toNat)) ∧ WAt N w0 w' b u c r (y.line k (1 - s) ⟨(y.x.f k (1 - s)).en, (y.x.f k (1 - s)).xs.drop n.toNat⟩) ∧ Stay N w w' := by
  subst hp hz
  obtain ⟨F, h⟩ := h
  obtain ⟨B, hS, hB, -, hT⟩ := h.it.sys
  obtain ⟨G, hp, hG, ht⟩ := hS.at k hk
  refine (PRead_at hp (ho.below h.below) s hs n).mono ?_
  rintro e w' ⟨A, c', gt, rfl, hrow, -, t⟩
  obtain ⟨k1, k2⟩ := h.turn (hT _ w' (ht (1 - s) _ w' t))
  exact ⟨A, c', gt, rfl, hrow, k1, k2⟩
theorem WHang (h : WAt N w0 w b u c r y) {k s p : Nat} {z : Int} (hk : k < 2) (hs : s < 2) (hp : two c u k = p) (hz : z = (s : Int)) :
    Calls Tryd.prog 31 #[.pointer (some ⟨p, 0, none⟩), .int .i64 z] w fun e w' => e = .returned (.tuple #[]) ∧ WAt N w0 w' b u c r (y.line k s ⟨true, (y.x.f k s).xs⟩) ∧ Stay N w w' := by
  subst hp hz
  obtain ⟨F, h⟩ := h
  obtain ⟨B, hS, hB, -, hT⟩ := h.it.sys
  obtain ⟨G, hp, hG, ht⟩ := hS.at k hk
  refine (PHang_at hp s hs).mono ?_
  rintro e w' ⟨rfl, t⟩
  obtain ⟨k1, k2⟩ := h.turn (hT _ w' (ht s _ w' t))
  exact ⟨rfl, k1, k2⟩
theorem WOver (h : WAt N w0 w b u c r y) (ho : Oth w0) {k s p : Nat} {z : Int} (hk : k < 2) (hs : s < 2) (hp : two c u k = p) (hz : z = (s : Int)) :
    Calls Tryd.prog 22 #[.pointer (some ⟨p, 0, none⟩), .int .i64 z] w fun e w' => e = .returned (.bool ((y.x.f k (1 - s)).en && (y.x.f k (1 - s)).xs.isEmpty)) ∧ w = w' := by
  subst hp hz
  obtain ⟨F, h⟩ := h
  obtain ⟨B, hS, hB, -, hT⟩ := h.it.sys
  obtain ⟨G, hp, hG, ht⟩ := hS.at k hk
  exact POver_at hp (ho.below h.below) s hs
theorem WWaits (h : WAt N w0 w b u c r y) (ho : Oth w0) {k s p : Nat} {z : Int} (hk : k < 2) (hs : s < 2) (hp : two c u k = p) (hz : z = (s : Int)) :
    Calls Tryd.prog 21 #[.pointer (some ⟨p, 0, none⟩), .int .i64 z] w fun e w' => e = .returned (.int .i64 (y.x.f k (1 - s)).xs.length) ∧ w = w' := by
  subst hp hz
  obtain ⟨F, h⟩ := h
  obtain ⟨B, hS, hB, -, hT⟩ := h.it.sys
  obtain ⟨G, hp, hG, ht⟩ := hS.at k hk
  exact PWaits_at hp (ho.below h.below) s hs
theorem WStep (h : WAt N w0 w b u c r y) (ho : Oth w0) (hx : y.x.Ok) (kind n t : Int) :
    Calls Tryd.prog 24 #[.pointer (some ⟨r, 0, none⟩), .int .i64 kind, .int .i64 n, .int .i64 t] w fun e w' => e = .returned (.bool (y.x.step kind n t).1) ∧ WAt N w0 w' b u c r { y with x := (y.x.step kind n t).2 } ∧ Stay N w w' := by
  obtain ⟨F, h⟩ := h
  obtain ⟨B, hS, hB, -, hT⟩ := h.it.sys
  refine (Step_at hS hx ((h.oth ho).less hB) kind n t).mono ?_
  rintro e w' ⟨rfl, t⟩
  obtain ⟨k1, k2⟩ := h.turn (hT _ w' t)
  exact ⟨rfl, k1, k2⟩
theorem SysT.rly {L : Nat → Nat} {x : Sys} {F : Nat → Prop} (h : SysT L r x F w) : ∃ B, Rly L r x B w := by
  obtain ⟨A, B, h⟩ := h
  exact ⟨B, h.snd⟩
theorem WAt.rly (h : WAt N w0 w b u c r y) : ∃ B, Rly (two c u) r y.x B w := by
  obtain ⟨F, h⟩ := h
  obtain ⟨B, hS, -⟩ := h.it.sys
  exact hS.rly
theorem WTell (h : WAt N w0 w b u c r y) (hx : y.x.Ok) : Calls Tryd.prog 19 #[.pointer (some ⟨r, 0, none⟩)] w (Told w y.x) := by
  obtain ⟨B, h⟩ := h.rly
  exact Tell_at h hx
theorem WRWaits (h : WAt N w0 w b u c r y) {d : Nat} {z : Int} (hd : d < 2) (hz : z = (d : Int)) : Calls Tryd.prog 17 #[.pointer (some ⟨r, 0, none⟩), .int .i64 z] w fun e w' => e = .returned (.int .i64 (y.x.ws d).length) ∧ w = w' := by
  subst hz
  obtain ⟨B, h⟩ := h.rly
  exact Waits_at h d hd
theorem WDone (h : WAt N w0 w b u c r y) : Calls Tryd.prog 18 #[.pointer (some ⟨r, 0, none⟩)] w fun e w' => e = .returned (.bool y.x.done) ∧ w = w' := by
  obtain ⟨B, h⟩ := h.rly
  exact Done_at h
/-- What was told, as a list of events. -/
theorem Told.evs {x : Sys} {e : Ending} (h : Told w x e w') (hx : x.Ok) : ∃ A c' l, e = .returned (.agg #[.slice A (List.length l) c', .bool (x.ov 0)]) ∧ Evs w' (.slice A l.length c') l ∧ pes l = x.ev ∧ Below w.heap.size w w' := by
  obtain ⟨A, c', g, l, rfl, h1, h2, h3⟩ := h
  exact ⟨A, c', l, rfl, h1.evsIn (by have := hx.len; rw [← h2, pes_len] at this; omega) (fun _ _ => trivial) (fun _ _ => trivial), h2, h3⟩
end
end Go.Proofs.YtfmmomdfmmoklaaDoor
