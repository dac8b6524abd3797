/-
  What PtyPrefix has in memory: a line, what each side wrote and what each side read; and how these hang together.
  Conditions: the package's table holds what its initialiser lays (Oth).
-/
import Derived.Test.YtniikeciccfjoaaDoorPBes
import Derived.Test.YtniikeciccfjoaaDoorPActs
import Derived.Test.YtniikeciccfjoaaDoorStrCat
namespace Go.Proofs.YtniikeciccfjoaaDoor
open Go.RowKit

/-- Lists by sides, of which one is another. -/
def updl (f : Nat → List Nat) (s : Nat) (y : List Nat) : Nat → List Nat := fun k => if k = s then y else f k
theorem updl_at (f : Nat → List Nat) (s : Nat) (y : List Nat) : updl f s y s = y := by simp [updl]
theorem updl_far (f : Nat → List Nat) {s k : Nat} (y : List Nat) (h : k ≠ s) : updl f s y k = f k := by simp [updl, h]

/-- Two strings in a block. -/
def Strs (w : World) (b : Nat) (ws : Nat → List Nat) : Prop := Blk w b 50 #[.string (str (ws 0)), .string (str (ws 1))]
theorem Strs.cell {w : World} {b : Nat} {ws : Nat → List Nat} (h : Strs w b ws) (s : Nat) (hs : s < 2) : w.cell? ⟨b, s, none⟩ = some (.string (str (ws s))) := by
  rw [Blk.cell h s]
  rcases (show s = 0 ∨ s = 1 by omega) with rfl | rfl <;> rfl
theorem Strs.set_ {w : World} {b : Nat} {ws : Nat → List Nat} (h : Strs w b ws) (s : Nat) (hs : s < 2) (x : List Nat) : Strs (w.setCell ⟨b, s, none⟩ (.string (str x))) b (updl ws s x) := by
  have := Blk.set_ h s (.string (str x))
  rcases (show s = 0 ∨ s = 1 by omega) with rfl | rfl
  · simpa [Strs, updl] using this
  · simpa [Strs, updl] using this

/-- A line, and what was written and read, each in blocks of its own. -/
structure Mm (N : Nat → Prop) (w0 w : World) (p rm bw br : Nat) (f : Nat → Way) (ws rs : Nat → List Nat) : Prop where
  line : PBes N w0 w p rm f
  wrote : Strs w bw ws
  read : Strs w br rs
  nw : N bw
  nr : N br
  gw : w0.heap.size ≤ bw
  gr : w0.heap.size ≤ br
  ne_ : bw ≠ br

/-- All that was written is what was read, and what waits. -/
structure Rel (k : Nat) (f : Nat → Way) (ws rs : Nat → List Nat) : Prop where
  eq : ∀ s, s < 2 → ws s = rs (1 - s) ++ (f s).xs
  le : ∀ s, s < 2 → (ws s).length ≤ 100 * k

section
variable {N M : Nat → Prop} {w0 w w' : World} {p rm bw br k : Nat} {f : Nat → Way} {ws rs : Nat → List Nat}
theorem Mm.below (h : Mm N w0 w p rm bw br f ws rs) : Below w0.heap.size w0 w := h.line.below
theorem Mm.keep (h : Mm N w0 w p rm bw br f ws rs) (hb : Below w.heap.size w w') : Mm N w0 w' p rm bw br f ws rs :=
  ⟨h.line.keep hb, Blk.below h.wrote hb (h.line.lt h.nw), Blk.below h.read hb (h.line.lt h.nr), h.nw, h.nr, h.gw, h.gr, h.ne_⟩
theorem Mm.drew (h : Mm N w0 w p rm bw br f ws rs) : Mm N w0 w.drew p rm bw br f ws rs := h.keep ⟨rfl, rfl, rfl, Nat.le_refl _, fun _ _ => rfl⟩
theorem Mm.drewN (h : Mm N w0 w p rm bw br f ws rs) (n : Nat) : Mm N w0 (w.drewN n) p rm bw br f ws rs := h.keep ⟨rfl, rfl, rfl, Nat.le_refl _, fun _ _ => rfl⟩
theorem Mm.more (h : Mm N w0 w p rm bw br f ws rs) (o : Obj) : Mm (fun b => N b ∨ b = w.heap.size) w0 (w.alloc o) p rm bw br f ws rs :=
  ⟨h.line.more o, Blk.alloc h.wrote o, Blk.alloc h.read o, .inl h.nw, .inl h.nr, h.gw, h.gr, h.ne_⟩
theorem Mm.less (h : Mm N w0 w p rm bw br f ws rs) (hM : ∀ b, M b → N b) (h1 : M bw) (h2 : M br) : Mm M w0 w p rm bw br f ws rs :=
  ⟨h.line.less hM, h.wrote, h.read, h1, h2, h.gw, h.gr, h.ne_⟩
theorem Mm.turned {f' : Nat → Way} (h : Mm N w0 w p rm bw br f ws rs) (hl : PBes N w0 w' p rm f') (hk : Kept N w w') : Mm N w0 w' p rm bw br f' ws rs :=
  ⟨hl, hk.blk h.nw h.wrote, hk.blk h.nr h.read, h.nw, h.nr, h.gw, h.gr, h.ne_⟩
theorem Mm.setW (h : Mm N w0 w p rm bw br f ws rs) (s : Nat) (hs : s < 2) (x : List Nat) : Mm N w0 (w.setCell ⟨bw, s, none⟩ (.string (str x))) p rm bw br f (updl ws s x) rs :=
  ⟨h.line.store h.nw h.gw s _, h.wrote.set_ s hs x, Blk.far h.read (p := ⟨bw, s, none⟩) (Ne.symm h.ne_) _, h.nw, h.nr, h.gw, h.gr, h.ne_⟩
theorem Mm.setR (h : Mm N w0 w p rm bw br f ws rs) (s : Nat) (hs : s < 2) (x : List Nat) : Mm N w0 (w.setCell ⟨br, s, none⟩ (.string (str x))) p rm bw br f ws (updl rs s x) :=
  ⟨h.line.store h.nr h.gr s _, Blk.far h.wrote (p := ⟨br, s, none⟩) h.ne_ _, h.read.set_ s hs x, h.nw, h.nr, h.gw, h.gr, h.ne_⟩
theorem Mm.start (h : POwn w0 w p rm f) (hb : w.heap.size = bw) (hr : bw + 1 = br) : Mm (fun b => b = bw ∨ b = br) w0 ((w.alloc (.cells #[.string ⟨#[]⟩, .string ⟨#[]⟩] 50)).alloc (.cells #[.string ⟨#[]⟩, .string ⟨#[]⟩] 50)) p rm bw br f (fun _ => []) (fun _ => []) := by
  subst hb hr
  have h0 := h.below.size
  refine ⟨(((PBes.of_own h).more _).more _).less ?_, ?_, ?_, .inl rfl, .inr rfl, h0, by omega, by omega⟩
  · rintro b (rfl | rfl)
    · exact .inl (.inr rfl)
    · exact .inr (by simp)
  · exact (Blk.new w _ _).alloc _
  · have := Blk.new (w.alloc (.cells #[.string ⟨#[]⟩, .string ⟨#[]⟩] 50)) 50 #[.string ⟨#[]⟩, .string ⟨#[]⟩]
    simpa [Strs, str_nil] using this

theorem Rel.next (h : Rel k f ws rs) : Rel (k + 1) f ws rs := ⟨h.eq, fun s hs => by have := h.le s hs; omega⟩
theorem Rel.write (h : Rel k f ws rs) {s : Nat} (hs : s < 2) {ys : List Nat} (hy : ys.length ≤ 100) (en : Bool) : Rel (k + 1) (upd f s ⟨en, (f s).xs ++ ys⟩) (updl ws s (ws s ++ ys)) rs := by
  constructor
  · intro t ht
    by_cases hts : t = s
    · subst hts; rw [updl_at, upd_at, h.eq t ht, List.append_assoc]
    · rw [updl_far _ _ hts, upd_far _ _ hts]; exact h.eq t ht
  · intro t ht
    by_cases hts : t = s
    · subst hts; rw [updl_at, List.length_append]; have := h.le t ht; omega
    · rw [updl_far _ _ hts]; have := h.le t ht; omega
theorem Rel.read (h : Rel k f ws rs) {s : Nat} (hs : s < 2) (n : Nat) (en : Bool) : Rel (k + 1) (upd f (1 - s) ⟨en, (f (1 - s)).xs.drop n⟩) ws (updl rs s (rs s ++ (f (1 - s)).xs.take n)) := by
  constructor
  · intro t ht
    by_cases hts : t = 1 - s
    · subst hts
      rw [upd_at, show 1 - (1 - s) = s by omega, updl_at, List.append_assoc, List.take_append_drop]
      have := h.eq (1 - s) ht
      rw [show 1 - (1 - s) = s by omega] at this
      exact this
    · rw [upd_far _ _ hts, updl_far _ _ (show 1 - t ≠ s by omega)]
      exact h.eq t ht
  · intro t ht
    have := h.le t ht; omega
theorem Rel.hang (h : Rel k f ws rs) (s : Nat) : Rel (k + 1) (upd f s ⟨true, (f s).xs⟩) ws rs := by
  constructor
  · intro t ht
    by_cases hts : t = s
    · subst hts; rw [upd_at]; exact h.eq t ht
    · rw [upd_far _ _ hts]; exact h.eq t ht
  · intro t ht
    have := h.le t ht; omega
end
end Go.Proofs.YtniikeciccfjoaaDoor
