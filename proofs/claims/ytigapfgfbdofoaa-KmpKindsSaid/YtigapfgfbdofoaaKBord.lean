/-
  kmp's Borders, of numbers: the borders of each beginning, in memory of their own.
  Conditions: at most 17592186044416 things.
-/
import Derived.Test.YtigapfgfbdofoaaKSame
import Derived.Deep.OwnRows
import Derived.StillTailTactics
import Derived.IntWalk
namespace Go.Proofs.Ytigapfgfbdofoaa
open Go.RowKit

/-- The borders of each beginning. -/
def bords (l : List Int) : List Int := (List.range l.length).map fun j => ((border l (j + 1) : Nat) : Int)
theorem bords_len (l : List Int) : (bords l).length = l.length := by simp [bords]
theorem bords_ok (l : List Int) : Bords l (bords l) l.length := fun j hj => by simp [bords, hj]
theorem Bords.mono {p bs : List Int} {m k : Nat} (h : Bords p bs m) (hk : k ≤ m) : Bords p bs k := fun j hj => h j (by omega)
theorem Bords.all {l bs : List Int} (h : Bords l bs l.length) (hl : bs.length = l.length) : bs = bords l := by
  apply List.ext_getElem? fun j => ?_
  by_cases hj : j < l.length
  · rw [h j hj, bords_ok l j hj]
  · rw [List.getElem?_eq_none (by omega), List.getElem?_eq_none (by rw [bords_len]; omega)]

/-- A block that holds numbers alone, as a slice of them. -/
theorem Blk.ints {w : World} {g : Nat} {t : TypeId} {zs : List Int} (h : Blk w g t (iv zs).toArray) : Rd w (.slice (some ⟨g, 0, none⟩) zs.length zs.length) (iv zs) := by
  refine ⟨_, zs.length, by rw [iv_len], by rw [iv_len]; exact Nat.le_refl _, iv_one zs, fun _ => ⟨g, 0, rfl, fun j u hu => ?_⟩⟩
  rw [Nat.zero_add, h.cell j]
  simpa using hu
theorem Blk.row {w : World} {g : Nat} {zs : List Int} (h : Blk w g 3 (iv zs).toArray) (hm : zs.length ≤ maxLen) : Row w 3 (if zs.length = 0 then none else some g) (.slice (some ⟨g, 0, none⟩) zs.length zs.length) (iv zs) := by
  refine ⟨_, zs.length, by rw [iv_len], by rw [iv_len]; exact Nat.le_refl _, hm, iv_one zs, ?_⟩
  by_cases h0 : zs.length = 0
  · exact .inl ⟨h0, by rw [if_pos h0]⟩
  · refine .inr ⟨g, 0, _, by omega, by rw [if_neg h0], rfl, h, by simp, fun j u hu => ?_⟩
    rw [Nat.zero_add]
    simpa using hu
theorem Blk.setInt {w : World} {g : Nat} {t : TypeId} {zs : List Int} (h : Blk w g t (iv zs).toArray) (k : Nat) (z : Int) : Blk (w.setCell ⟨g, k, none⟩ (.int .i64 z)) g t (iv (zs.set k z)).toArray := by
  have := h.set_ k (.int .i64 z)
  rwa [List.setIfInBounds_toArray, ← List.map_set] at this

theorem int_info : (Try.prog.info? 3).map (fun i => (i.zero, i.size, i.bytes)) = some (some (.int .i64 0), 1, 8) := by kernel_rfl
theorem made_ints (n : Nat) : madeCells #[.int .i64 0] n = (iv (List.replicate n 0)).toArray := by
  apply Array.ext
  · simp [madeCells]
  · intro i h1 h2
    simp [madeCells, Nat.mod_one]

/-- What Borders hands out. -/
def BordsTo (w : World) (l : List Int) (e : Ending) (w' : World) : Prop :=
  ∃ g, e = .returned (.slice (some ⟨g, 0, none⟩) l.length l.length) ∧ Blk w' g 3 (iv (bords l)).toArray ∧ w.heap.size ≤ g ∧ Below w.heap.size w w'

/-- Between two rounds. -/
def BordI (w : World) (l : List Int) (g k : Nat) (wr : World) : Prop :=
  ∃ bs, bs.length = l.length ∧ Blk wr g 3 (iv bs).toArray ∧ Bords l bs (min k l.length) ∧ Below w.heap.size w wr ∧ w.heap.size ≤ g

theorem BordI.drew {w wr : World} {l : List Int} {g k : Nat} (h : BordI w l g k wr) : BordI w l g k wr.drew := by
  obtain ⟨bs, h1, h2, h3, h4, h5⟩ := h
  exact ⟨bs, h1, h2, h3, h4.drew, h5⟩
theorem bord_next {l : List Int} {k : Nat} (h1 : 1 ≤ k) (hk : k < l.length) : border l k = longest ((l.take k).drop 1) l ∧ longest ((l.take k).drop 1 ++ [l[k]]) l = border l (k + 1) := by
  obtain ⟨n, rfl⟩ : ∃ n, k = n + 1 := ⟨k - 1, by omega⟩
  exact ⟨border_longest l (by omega), by rw [← border_next l hk, ← border_longest l hk]⟩

set_option maxRecDepth 100000 in
set_option maxHeartbeats 1000000 in
theorem Borders_i (l : List Int) (A : Option Addr) (n c : Nat) (w : World) (h : Rd w (.slice A n c) (iv l)) (hl : l.length ≤ 17592186044416) :
    Calls Try.prog 16 #[.slice A n c] w (BordsTo w l) := by
  obtain ⟨i0, hi0, hz0, hz1, hz2⟩ := info_parts int_info
  obtain ⟨rfl, hc1, r1⟩ := h.ints
  have HR := Lib.hid h
  have R1 := Lib.hid r1
  clear h r1
  go_enter Try.func16, Try.ntmps16
  go_wp2_with (refine wpList_make_row _ rfl _ _ 22 rfl 3 i0 _ Try.underlying22 hi0 hz0 hz1 rfl .i64 .i64 l.length rfl rfl (by rw [hz2]; omega) (by omega) ?_)
  have H0 : Hid (BordI w l w.heap.size 1 (w.alloc (.cells (madeCells #[.int .i64 0] l.length) 3))) := by
    refine Lib.hid ⟨List.replicate l.length 0, by simp, ?_, fun j hj => ?_, (Below.refl _ w).alloc (Nat.le_refl _) _, Nat.le_refl _⟩
    · rw [← made_ints]; exact Blk.new w _ _
    · obtain rfl : j = 0 := by omega
      rw [List.getElem?_replicate, if_pos (by omega), border_one]
      rfl
  generalize w.alloc (.cells (madeCells #[.int .i64 0] l.length) 3) = w1 at H0 ⊢
  generalize w.heap.size = g at H0 ⊢
  go_wp2
  go_loopw [4] (fun i wr => ∃ k : Nat, 1 ≤ k ∧ (k ≤ l.length ∨ k = 1) ∧ i = .int .i64 k ∧ Hid (BordI w l g k wr)) (fun i _ => l.length - (intOf i).toNat)
  case atStart => exact ⟨1, by omega, .inr rfl, rfl, H0⟩
  case round =>
    obtain ⟨k, hk1, hk, rfl, HI⟩ := hrel
    by_cases hlt : k < l.length
    · obtain ⟨bs, hbl, hblk, hbs, hbel, hge⟩ := HI.out
      have hr := HR.out.kept hbel
      obtain ⟨b, o, rfl, x1⟩ := hr.ints.2.2 (by omega)
      have y1 := x1 k hlt
      rw [List.getElem?_eq_getElem hlt, Option.getD_some] at y1
      have hbk := hbs (k - 1) (by omega)
      rw [show k - 1 + 1 = k by omega] at hbk
      have y2 : wr.cell? ⟨g, k - 1, none⟩ = some (.int .i64 (border l k : Nat)) := by rw [hblk.cell]; simp [hbk]
      have y3 : wr.frozen? ⟨g, k, none⟩ = false := hblk.frozen k
      have y4 : wr.cell? ⟨g, k, none⟩ = some (.int .i64 (bs[k]'(by omega))) := by rw [hblk.cell]; simp [List.getElem?_eq_getElem (show k < bs.length by omega)]
      obtain ⟨e1, e2⟩ := bord_next hk1 hlt
      have G := grown_i ((l.take k).drop 1) l bs l[k] (some ⟨b, o, none⟩) (some ⟨g, 0, none⟩) l.length bs.length c bs.length wr.drew hr hblk.ints (by rw [← e1]; exact hbs.mono (by have := border_lt (p := l) (a := k) (by omega); omega)) hl (by omega)
      rw [← e1, e2, hbl] at G
      have G2 : Calls Try.prog 29 #[.slice (some ⟨b, o, none⟩) l.length c, .slice (some ⟨g, 0, none⟩) l.length l.length, .int .i64 (border l k : Nat), .int .i64 l[k]] wr.drew fun e w' => e = .returned (.int .i64 (border l (k + 1) : Nat)) ∧ w' = wr.drew := G.mono fun _ _ h => ⟨h.1, h.2.symm⟩
      have HG := Lib.hid G2
      have HN : Hid (∀ W, Blk W g 3 (iv bs).toArray → Below w.heap.size w W → BordI w l g (k + 1) (W.setCell ⟨g, k, none⟩ (.int .i64 (border l (k + 1) : Nat)))) := Lib.hid fun W hb hB => by
        refine ⟨bs.set k (border l (k + 1) : Nat), by simp [hbl], hb.setInt k _, fun j hj => ?_, hB.setCell hge _, hge⟩
        rw [List.getElem?_set]
        by_cases hkj : k = j
        · subst hkj
          rw [if_pos rfl, if_pos (by omega)]
        · rw [if_neg hkj]
          exact hbs j (by omega)
      have HW := Lib.hid (And.intro hblk hbel)
      have i1 : (0 : Int) ≤ (k : Int) - 1 := by omega
      have i2 : (k : Int) - 1 < (l.length : Int) := by omega
      have i3 : (1 : Int) ≤ (k : Int) := by omega
      generalize border l (k + 1) = v at *
      generalize border l k = u at *
      generalize l[k] = x at *
      clear x1 hr hbk hbs hblk hbel hge G G2 e1 e2 hk
      have w1 : IntKind.i64.wrap ((k : Int) - 1) = (k : Int) - 1 := IntWalk.i64_in _ (by omega)
      have w2 : ((k : Int) - 1).toNat = k - 1 := by omega
      go_wp2
      go_still_tail 15, (by kernel_rfl)
      still_call HG.out
      repeat still_step
      refine wpStill_nil ?_
      clear w1 w2
      change wpList _ _ _ _ _ wr.drew
      go_wp2
      go_roundw
      case rel => exact ⟨k + 1, by omega, by omega, by go_num, Lib.hid (HN.out _ HW.out.1 HW.out.2).drew⟩
      case measure => simp [intOf]; omega
    · obtain ⟨bs, hbl, hblk, hbs, hbel, hge⟩ := HI.out
      have hk' : l.length ≤ k := by omega
      have hbb := hbs.mono (show l.length ≤ min k l.length by omega)
      obtain rfl := hbb.all hbl
      have HW := Lib.hid (And.intro hblk (And.intro hge hbel))
      clear hbs hbb hblk hbel hge hbl
      go_wp2
      go_ret
      exact ⟨g, rfl, HW.out.1, HW.out.2.1, HW.out.2.2⟩
end Go.Proofs.Ytigapfgfbdofoaa
