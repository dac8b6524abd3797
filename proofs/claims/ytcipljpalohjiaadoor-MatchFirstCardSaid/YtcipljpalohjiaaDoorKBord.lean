/-
  kmp's Borders, of numbers: the borders of each beginning, in memory of their own.
  Conditions: at most 17592186044416 things.
-/
import Derived.Test.YtcipljpalohjiaaDoorKSame
import Derived.Deep.OwnRows
import Derived.StillTailTactics
import Derived.IntWalk
namespace Go.Proofs.YtcipljpalohjiaaDoor
open Go.RowKit

/-- The borders of each beginning. -/
def bords (l : List Int) : List Int := (List.range l.length).map fun j => ((border l (j + 1) : Nat) : Int)
theorem bords_len (l : List Int) : (bords l).length = l.length := by simp [bords]
theorem bords_ok (l : List Int) : Bords l (bords l) l.length := fun j hj => by simp [bords, hj]
theorem Bords.mono {p bs : List Int} {m k : Nat} (h : Bords p bs m) (hk : k ≤ m) : Bords p bs k := fun j hj => h j (by omega)
theorem Bords.all {l bs : List Int} (h : Bords l bs l.length) (hl : bs.length = l.length) : bs = bords l := by
  apply List.ext_getElem? fun j => ?_
  by_cases hj : j < l.length
  · rw [h j hj, bords_ok l j hj]
  · rw [List.getElem?_eq_none (by omega), List.getElem?_eq_none (by rw [bords_len]; omega)]

/-- A block that holds numbers alone, as a slice of them. -/
theorem Blk.ints {w : World} {g : Nat} {t : TypeId} {zs : List Int} (h : Blk w g t (iv zs).toArray) : Rd w (.slice (some ⟨g, 0, none⟩) zs.length zs.length) (iv zs) := by
  refine ⟨_, zs.length, by rw [iv_len], by rw [iv_len]; exact Nat.le_refl _, iv_one zs, fun _ => ⟨g, 0, rfl, fun j u hu => ?_⟩⟩
  rw [Nat.zero_add, h.cell j]
  simpa using hu
theorem Blk.row {w : World} {g : Nat} {zs : List Int} (h : Blk w g 3 (iv zs).toArray) (hm : zs.length ≤ maxLen) : Row w 3 (if zs.length = 0 then none else some g) (.slice (some ⟨g, 0, none⟩) zs.length zs.length) (iv zs) := by
  refine ⟨_, zs.length, by rw [iv_len], by rw [iv_len]; exact Nat.le_refl _, hm, iv_one zs, ?_⟩
  by_cases h0 : zs.length = 0
  · exact .inl ⟨h0, by rw [if_pos h0]⟩
  · refine .inr ⟨g, 0, _, by omega, by rw [if_neg h0], rfl, h, by simp, fun j u hu => ?_⟩
    rw [Nat.zero_add]
    simpa using hu
theorem Blk.setInt {w : World} {g : Nat} {t : TypeId} {zs : List Int} (h : Blk w g t (iv zs).toArray) (k : Nat) (z : Int) : Blk (w.setCell ⟨g, k, none⟩ (.int .i64 z)) g t (iv (zs.set k z)).toArray := by
  have := h.set_ k (.int .i64 z)
  rwa [List.setIfInBounds_toArray, ← List.map_set] at this

theorem int_info : (Tryd.prog.info? 3).map (fun i => (i.zero, i.size, i.bytes)) = some (some (.int .i64 0), 1, 8) := by kernel_rfl
theorem made_ints (n : Nat) : madeCells #[.int .i64 0] n = (iv (List.replicate n 0)).toArray := by
  apply Array.ext
  · simp [madeCells]
  · intro i h1 h2
    simp [madeCells, Nat.mod_one]

/-- What Borders hands out. -/
def BordsTo (w : World) (l : List Int) (e : Ending) (w' : World) : Prop :=
  ∃ g, e = .returned (.slice (some ⟨g, 0, none⟩) l.length l.length) ∧ Blk w' g 3 (iv (bords l)).toArray ∧ w.heap.size ≤ g ∧ Below w.heap.size w w'

/-- Between two rounds. -/
def BordI (w : World) (l : List Int) (g k : Nat) (wr : World) : Prop :=
  ∃ bs, bs.length = l.length ∧ Blk wr g 3 (iv bs).toArray ∧ Bords l bs (min k l.length) ∧ Below w.heap.size w wr ∧ w.heap.size ≤ g

theorem BordI.drew {w wr : World} {l : List Int} {g k : Nat} (h : BordI w l g k wr) : BordI w l g k wr.drew := by
  obtain ⟨bs, h1, h2, h3, h4, h5⟩ := h
  exact ⟨bs, h1, h2, h3, h4.drew, h5⟩
theorem bord_next {l : List Int} {k : Nat} (h1 : 1 ≤ k) (hk : k < l.length) : border l k = longest ((l.take k).drop 1) l ∧ longest ((l.take k).drop 1 ++ [l[k]]) l = border l (k + 1) := by
  obtain ⟨n, rfl⟩ : ∃ n, k = n + 1 := ⟨k - 1, by omega⟩
  exact ⟨border_longest l (by omega), by rw [← border_next l hk, ← border_longest l hk]⟩

end Go.Proofs.YtcipljpalohjiaaDoor
