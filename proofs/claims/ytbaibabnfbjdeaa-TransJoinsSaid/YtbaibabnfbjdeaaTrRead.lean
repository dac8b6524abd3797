/-
  The contracts of trans.dirOf, readTime and readData.
  Conditions: the slice reads as these bytes.
-/
import Derived.Test.YtbaibabnfbjdeaaTrHead
import Derived.Test.YtbaibabnfbjdeaaClone
import Derived.Test.YtbaibabnfbjdeaaRGet
namespace Go.Proofs.Ytbaibabnfbjdeaa
open Go.RowKit

theorem dirOf_any (m : Nat) (w : World) (h : m = 1 ∨ m = 2) : Calls Try.prog 26 #[.int .u8 m] w fun e w' => e = .returned (.int .i64 ((m : Int) - 1)) ∧ w = w' := by
  rcases h with rfl | rfl
  · go_enter Try.func26, Try.ntmps26
    go_wp2
    go_ret
    exact ⟨rfl, rfl⟩
  · go_enter Try.func26, Try.ntmps26
    go_wp2
    go_ret
    exact ⟨rfl, rfl⟩

/-- What readTime tells, of what Get told. -/
def TimeTo (w : World) (a : Nat) (ahead : Int) (r : Nat × Nat × Nat) (e : Ending) (w' : World) : Prop :=
  e = .returned (.tuple (if r.2.2 = 0 then #[.int .i64 (plus ahead (zag r.1)), .int .i64 (r.2.1 : Nat), .int .i64 0] else #[.int .i64 0, .int .i64 (a : Nat), .int .i64 (r.2.2 : Nat)])) ∧ w = w'

theorem readTime_any (A : Option Addr) (n c a : Nat) (ahead : Int) (bs : List Nat) (w : World) (hr : Rd w (.slice A n c) (bv bs)) (hb : ∀ b ∈ bs, b < 256) (hn : n ≤ 9223372036854775807) (ha : a ≤ n) (hi : In64 ahead) :
    Calls Try.prog 27 #[.slice A n c, .int .i64 a, .int .i64 ahead] w (TimeTo w a ahead (getIn bs a)) := by
  have HG := Lib.hid (Get_in A n c a bs w hr hb hn ha)
  have hu := (getIn_bounds bs a (by have := hr.bytes; omega)).2
  obtain ⟨⟨u, p, er⟩, hgv⟩ : ∃ r, getIn bs a = r := ⟨_, rfl⟩
  rw [hgv] at HG hu ⊢
  simp only at hu
  have HI := Lib.hid hi
  clear hgv hr hb hi
  by_cases he : er = 0
  · subst he
    go_enter Try.func27, Try.ntmps27
    go_wp2_with fail
    refine HG.out.mono ?_
    rintro e w1 ⟨rfl, rfl⟩
    go_wp2_with fail
    refine (Zag_any (u : Int) _ (by omega) (by omega)).mono ?_
    rintro e w1 ⟨rfl, rfl⟩
    go_wp2_with fail
    refine (Add_any _ _ _ HI.out ⟨zag_lo _ (by omega) (by omega), zag_hi _ (by omega) (by omega)⟩).mono ?_
    rintro e w1 ⟨rfl, rfl⟩
    go_wp2_with fail
    go_ret3
    exact ⟨rfl, rfl⟩
  · have heb : ((er : Int) != 0) = true := by simp; omega
    have HE := Lib.hid he
    clear he
    go_enter Try.func27, Try.ntmps27
    go_wp2_with fail
    refine HG.out.mono ?_
    rintro e w1 ⟨rfl, rfl⟩
    go_wp2_with fail
    go_ret3
    exact ⟨congrArg (fun z => Ending.returned (.tuple z)) (if_neg HE.out).symm, rfl⟩

/-- b[p:p+u], under one name. -/
theorem run_range {w : World} {A : Option Addr} {n c p u : Nat} {bs : List Nat} (h : Rd w (.slice A n c) (bv bs)) (hp : p + u ≤ n) :
    ∃ A' c', (∀ W, (Instr.slice 25 (.slice A n c) (some (.int .i64 (p : Int))) (some (.int .i64 ((p : Int) + (u : Int)))) none).run Try.prog W = .ok (.slice A' u c') W) ∧ Rd w (.slice A' u c') (bv ((bs.drop p).take u)) := by
  have h1 := (h.drop (a := p) (by omega)).take (n := u) (by omega)
  rw [show ((bv bs).drop p).take u = bv ((bs.drop p).take u) by simp [bv]] at h1
  refine ⟨_, _, fun W => ?_, h1⟩
  have hle := h.le
  obtain ⟨i0, hi0, hz0, hz1, hz2⟩ := info_parts byte_info
  have hs : (sizeOf (Try.prog.elem 25)).run Try.prog W = .ok 1 W := by
    rw [show Try.prog.elem 25 = 5 by kernel_rfl]
    simp [sizeOf, typeInfo, hi0, hz1]
  rw [run_slice_lh W 25 A n c (by kernel_rfl) .i64 .i64 (p : Int) ((p : Int) + (u : Int)) (by omega) (by omega) (by omega), hs]
  simp only [Result.andThen, Int.toNat_natCast, sliced, Nat.mul_one, show ((p : Int) + (u : Int)).toNat = p + u by omega, show p + u - p = u by omega]

section
variable {A : Option Addr} {n c a u p er : Nat} {lf : Int} {bs : List Nat} {w : World}
theorem readData_err (hr : Rd w (.slice A n c) (bv bs)) (hb : ∀ b ∈ bs, b < 256) (hn : n ≤ 9223372036854775807) (ha : a ≤ n) (hg : getIn bs a = (u, p, er)) (he : er ≠ 0) :
    Calls Try.prog 28 #[.slice A n c, .int .i64 a, .int .i64 lf] w fun e w' => e = .returned (.tuple #[.slice none 0 0, .int .i64 (a : Nat), .int .i64 (er : Nat)]) ∧ w = w' := by
  have HG := Lib.hid (Get_in A n c a bs w hr hb hn ha)
  rw [hg] at HG
  have heb : ((er : Int) != 0) = true := by simp; omega
  clear hg hr hb he
  go_enter Try.func28, Try.ntmps28
  go_wp2_with fail
  refine HG.out.mono ?_
  rintro e w1 ⟨rfl, rfl⟩
  go_wp2_with fail
  go_ret3
  exact ⟨rfl, rfl⟩
theorem readData_long (hr : Rd w (.slice A n c) (bv bs)) (hb : ∀ b ∈ bs, b < 256) (hn : n ≤ 9223372036854775807) (ha : a ≤ n) (hg : getIn bs a = (u, p, 0)) (hl : 0 ≤ lf) (hl2 : lf ≤ 262144) (hu : 65536 < u ∨ lf < (u : Int)) :
    Calls Try.prog 28 #[.slice A n c, .int .i64 a, .int .i64 lf] w fun e w' => e = .returned (.tuple #[.slice none 0 0, .int .i64 (a : Nat), .int .i64 6]) ∧ w = w' := by
  have HG := Lib.hid (Get_in A n c a bs w hr hb hn ha)
  rw [hg] at HG
  have hu64 := (getIn_bounds bs a (by have := hr.bytes; omega)).2
  rw [hg] at hu64
  simp only at hu64
  obtain ⟨m, hmn, hm2⟩ : ∃ m : Nat, min (65536 : Int) lf = (m : Int) ∧ m < u := ⟨min 65536 lf.toNat, by omega, by omega⟩
  have hm3 : m ≤ 65536 := by omega
  clear hg hr hb hu
  go_enter Try.func28, Try.ntmps28
  go_wp2_with fail
  refine HG.out.mono ?_
  rintro e w1 ⟨rfl, rfl⟩
  go_wp2_with fail
  go_ret3
  exact ⟨rfl, rfl⟩
theorem readData_short (hr : Rd w (.slice A n c) (bv bs)) (hb : ∀ b ∈ bs, b < 256) (hn : n ≤ 9223372036854775807) (ha : a ≤ n) (hg : getIn bs a = (u, p, 0)) (hl : 0 ≤ lf) (hl2 : lf ≤ 262144) (hu : u ≤ 65536) (hu2 : (u : Int) ≤ lf) (hs : n < p + u) (hp : p ≤ n) :
    Calls Try.prog 28 #[.slice A n c, .int .i64 a, .int .i64 lf] w fun e w' => e = .returned (.tuple #[.slice none 0 0, .int .i64 (n : Nat), .int .i64 5]) ∧ w = w' := by
  have HG := Lib.hid (Get_in A n c a bs w hr hb hn ha)
  rw [hg] at HG
  obtain ⟨m, hmn, hm2⟩ : ∃ m : Nat, min (65536 : Int) lf = (m : Int) ∧ ¬ m < u := ⟨min 65536 lf.toNat, by omega, by omega⟩
  have hm3 : m ≤ 65536 := by omega
  obtain ⟨q, hq, hq2⟩ : ∃ q : Nat, (n : Int) - (p : Int) = (q : Int) ∧ q < u := ⟨n - p, by omega, by omega⟩
  clear hg hr hb
  go_enter Try.func28, Try.ntmps28
  go_wp2_with fail
  refine HG.out.mono ?_
  rintro e w1 ⟨rfl, rfl⟩
  go_wp2_with fail
  go_ret3
  exact ⟨rfl, rfl⟩
/-- The bytes, in a row of their own; the place behind them. -/
def DataTo (w : World) (d : List Nat) (q : Nat) (e : Ending) (w' : World) : Prop :=
  ∃ A c g, e = .returned (.tuple #[.slice A d.length c, .int .i64 (q : Nat), .int .i64 0]) ∧ Row w' 5 g (.slice A d.length c) (bv d) ∧ (∀ b, g = some b → w.heap.size ≤ b) ∧ Below w.heap.size w w'
theorem readData_ok (hr : Rd w (.slice A n c) (bv bs)) (hb : ∀ b ∈ bs, b < 256) (hn : n ≤ 9223372036854775807) (ha : a ≤ n) (hg : getIn bs a = (u, p, 0)) (hl : 0 ≤ lf) (hl2 : lf ≤ 262144) (hu : u ≤ 65536) (hu2 : (u : Int) ≤ lf) (hs : p + u ≤ n) :
    Calls Try.prog 28 #[.slice A n c, .int .i64 a, .int .i64 lf] w (DataTo w ((bs.drop p).take u) (p + u)) := by
  have HG := Lib.hid (Get_in A n c a bs w hr hb hn ha)
  rw [hg] at HG
  obtain ⟨m, hmn, hm2⟩ : ∃ m : Nat, min (65536 : Int) lf = (m : Int) ∧ ¬ m < u := ⟨min 65536 lf.toNat, by omega, by omega⟩
  have hm3 : m ≤ 65536 := by omega
  obtain ⟨q, hq, hq2⟩ : ∃ q : Nat, (n : Int) - (p : Int) = (q : Int) ∧ ¬ q < u := ⟨n - p, by omega, by omega⟩
  obtain ⟨A', c', hsl, hr'⟩ := run_range hr hs
  have HR' := Lib.hid hr'
  clear hg hr hb hr'
  go_enter Try.func28, Try.ntmps28
  go_wp2_with fail
  refine HG.out.mono ?_
  rintro e w1 ⟨rfl, rfl⟩
  go_wp2_with fail
  refine (Clone_any A' u c' _ _ HR'.out (by omega)).mono ?_
  rintro e w1 ⟨A2, c2, g2, rfl, hrow, hfr, hbel⟩
  have HY := Lib.hid (And.intro hrow (And.intro hfr hbel))
  clear hrow hfr hbel hsl hq hmn
  go_wp2_with fail
  go_ret3
  exact ⟨A2, c2, g2, by simp, HY.out.1, HY.out.2.1, HY.out.2.2⟩
end
end Go.Proofs.Ytbaibabnfbjdeaa
