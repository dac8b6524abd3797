/-
  A search and a row of numbers side by side: what Feed, Reset and append leave of both.
  Conditions: none.
-/
import Derived.Test.YtigapfgfbdofoaaKLaw
namespace Go.Proofs.Ytigapfgfbdofoaa
open Go.RowKit

theorem quiet_on {w W W' : World} {n : Nat} (h : Below w.heap.size w W) (e : W' = W.drewN n) : Below w.heap.size w W' := by
  rw [e]; exact ⟨h.os, h.tape, h.output, h.size, h.block⟩

/-- A search that saw s, its blocks made since w and below z; a row v of numbers whose block lies beyond. -/
def Seek (w : World) (z q : Nat) (p s : List Int) (v : Value) (xs : List Int) (W : World) : Prop :=
  ∃ go, Row W 3 go v (iv xs) ∧ (∀ b, go = some b → z ≤ b) ∧ SAt (fun b => w.heap.size ≤ b ∧ b < z) W q p (longest s p) ∧ Below w.heap.size w W ∧ z ≤ W.heap.size
section
variable {w W W' : World} {z q : Nat} {p s : List Int} {v : Value} {xs : List Int}
theorem Seek.start {V : World} (hb : Below w.heap.size w V) (hs : SAt (fun b => V.heap.size ≤ b) W q p 0) (hb2 : Below V.heap.size V W) : Seek w W.heap.size q p [] (.slice none 0 0) [] W := by
  refine ⟨none, Row.nil _ _, (fun b e => by cases e), ?_, hb.trans (hb2.mono hb.size), Nat.le_refl _⟩
  rw [longest_nil]
  exact hs.bound.mono fun b h => ⟨Nat.le_trans hb.size h.1, h.2⟩
theorem Seek.older (h : Seek w z q p s v xs W) (hb' : Below W.heap.size W W') : Seek w z q p s v xs W' := by
  obtain ⟨go, hr, hg, h1, hb, hz⟩ := h
  exact ⟨go, hr.below hb' (fun b e => hr.lt e), hg, h1.below hb', hb.trans (hb'.mono hb.size), Nat.le_trans hz hb'.size⟩
theorem Seek.below (h : Seek w z q p s v xs W) : Below w.heap.size w W := by obtain ⟨_, _, _, _, h, _⟩ := h; exact h
theorem Seek.at_ (h : Seek w z q p s v xs W) : SAt (fun b => w.heap.size ≤ b ∧ b < z) W q p (longest s p) := by obtain ⟨_, _, _, h, _⟩ := h; exact h
theorem Seek.form (h : Seek w z q p s v xs W) : ∃ A c, v = .slice A xs.length c := by
  obtain ⟨go, hr, _⟩ := h
  obtain ⟨A, c, e⟩ := hr.form
  exact ⟨A, c, by rw [e, iv_len]⟩
theorem Seek.rd (h : Seek w z q p s v xs W) : Rd W v (iv xs) := by obtain ⟨go, hr, _⟩ := h; exact hr.rd
theorem Seek.turn {s' : List Int} {n : Nat} (h : Seek w z q p s v xs W) (hs : SAt (fun b => w.heap.size ≤ b ∧ b < z) W' q p n) (hn : n = longest s' p) (ho : Only (fun b => b = q) W W') : Seek w z q p s' v xs W' := by
  obtain ⟨go, hr, hg, h1, hb, hz⟩ := h
  have hq := h1.own
  subst hn
  exact ⟨go, hr.only ho (fun b e h => by have := hg b e; omega), hg, hs, hb.trans (ho.below hb.size fun i hi h => by omega), Nat.le_trans hz ho.size⟩
theorem Seek.fed {x : Int} {e : Ending} (h : Seek w z q p s v xs W) (hf : Fed (fun b => w.heap.size ≤ b ∧ b < z) W q p (longest (s ++ [x]) p) e W') : Seek w z q p (s ++ [x]) v xs W' := h.turn hf.2.1 rfl hf.2.2
theorem Seek.drewN (h : Seek w z q p s v xs W) (n : Nat) : Seek w z q p s v xs (W.drewN n) := by
  obtain ⟨go, hr, hg, h1, hb, hz⟩ := h
  exact ⟨go, hr, hg, h1.drewN n, ⟨hb.os, hb.tape, hb.output, hb.size, hb.block⟩, hz⟩
theorem Seek.alloc (h : Seek w z q p s v xs W) (o : Obj) : Seek w z q p s v xs (W.alloc o) := by
  obtain ⟨go, hr, hg, h1, hb, hz⟩ := h
  exact ⟨go, hr.alloc o, hg, h1.alloc o, hb.alloc hb.size o, by simp; omega⟩
theorem Seek.drop (h : Seek w z q p s v xs W) : Seek w z q p s (.slice none 0 0) [] W := by
  obtain ⟨go, hr, hg, h1, hb, hz⟩ := h
  exact ⟨none, Row.nil _ _, (fun b e => by cases e), h1, hb, hz⟩
theorem Seek.grown {go go' : Option Nat} {v' : Value} {ys : List Int} {n : Nat} (hg : ∀ b, go = some b → z ≤ b) (h1 : SAt (fun b => w.heap.size ≤ b ∧ b < z) W q p n) (hn : n = longest s p) (hb : Below w.heap.size w W) (hz : z ≤ W.heap.size)
    (hr' : Row W' 3 go' v' (iv xs ++ iv ys)) (hgr : W.grownBy W' go) (hg' : go' = go ∨ go' = some W.heap.size) : Seek w z q p s v' (xs ++ ys) W' := by
  have hw : w.heap.size ≤ z := by have := h1.own; omega
  subst hn
  refine ⟨go', by rw [iv_append]; exact hr', fun b e => ?_, h1.still ⟨hgr.size, fun b hb' hl => hgr.block b hl fun e => by have := hg b e.symm; omega⟩, hb.grown hgr hb.size fun k e => Nat.le_trans hw (hg k e), Nat.le_trans hz hgr.size⟩
  rcases hg' with rfl | rfl
  · exact hg b e
  · cases e; exact hz
/-- The row's numbers need not be what was seen. -/
abbrev SeekS (w : World) (z q : Nat) (p s : List Int) (v : Value) (xs : List Int) (W : World) : Prop := Seek w z q p s v xs W
theorem SeekS.grown {go go' : Option Nat} {v' : Value} {ys : List Int} (hg : ∀ b, go = some b → z ≤ b) (h1 : SAt (fun b => w.heap.size ≤ b ∧ b < z) W q p (longest s p)) (hb : Below w.heap.size w W) (hz : z ≤ W.heap.size)
    (hr' : Row W' 3 go' v' (iv xs ++ iv ys)) (hgr : W.grownBy W' go) (hg' : go' = go ∨ go' = some W.heap.size) : SeekS w z q p s v' (xs ++ ys) W' := Seek.grown hg h1 rfl hb hz hr' hgr hg'
end
theorem SAt.number {T : Nat → Prop} {w : World} {q n m : Nat} {p : List Int} (h : SAt T w q p n) (e : n = m) : SAt T w q p m := by subst e; exact h
end Go.Proofs.Ytigapfgfbdofoaa
