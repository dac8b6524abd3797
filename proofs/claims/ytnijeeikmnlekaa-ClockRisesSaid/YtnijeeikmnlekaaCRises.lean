/-
  cuecardlaw03.ClockRises answers true for all times.
  Conditions: none.
-/
import Derived.Test.YtnijeeikmnlekaaTimes
namespace Go.Proofs.Ytnijeeikmnlekaa
open Go.RowKit

theorem top_ge (o : Option Int) (t : Int) : t ≤ top o t := by cases o <;> simp only [top] <;> omega
theorem top_last (y t : Int) : y ≤ top (some y) t := by simp only [top]; omega
theorem fold_mem (l : List Int) (o : Option Int) (g : Int) (h : l.foldl (fun o t => some (top o t)) o = some g) : o = some g ∨ g ∈ l := by
  induction l generalizing o with
  | nil => exact .inl h
  | cons t r ih =>
    rcases ih _ h with e | hm
    · injection e with e
      cases o with
      | none => right; simp only [top] at e; rw [← e]; exact List.mem_cons_self
      | some s =>
        simp only [top] at e
        by_cases hts : t ≤ s
        · left; rw [← e, show max t s = s by omega]
        · right; rw [← e, show max t s = t by omega]; exact List.mem_cons_self
    · right; exact List.mem_cons_of_mem _ hm
theorem seen_mem {l : List Int} {g : Int} (h : seen l = some g) : g ∈ l := by
  rcases fold_mem l none g h with e | hm
  · cases e
  · exact hm
/-- Is g among the first j? -/
def among (g : Int) (l : List Int) (j : Nat) : Bool := decide (g ∈ l.take j)
theorem among_snoc {g x : Int} {l : List Int} {j : Nat} (h : l[j]? = some x) : among g l (j + 1) = (among g l j || g == x) := by
  have e : l.take (j + 1) = l.take j ++ [x] := by rw [List.take_add_one, h]; rfl
  unfold among
  rw [e]
  by_cases h1 : g ∈ l.take j <;> by_cases h2 : g = x <;> simp [h1, h2]

set_option maxRecDepth 100000 in
theorem rises_true (A : Option Addr) (n c : Nat) (l : List Int) (w : World) (hr : Rd w (.slice A n c) (tv l)) (hn : n ≤ 9223372036854775807) :
    Calls Try.prog 6 #[.slice A n c] w fun e w' => e = .returned (.bool true) ∧ Below w.heap.size w w' := by
  obtain ⟨m, hm1, hm2, hm3⟩ : ∃ m : Nat, m ≤ n ∧ m ≤ 300 ∧ min (n : Int) 300 = (m : Int) := ⟨min n 300, Nat.min_le_left _ _, Nat.min_le_right _ _, by omega⟩
  obtain ⟨A', hsl, hr'⟩ := run_first hr hm1
  have hlm := hr'.times
  generalize l.take m = xs at *
  have HR := Lib.hid hr'
  have HL := Lib.hid hlm
  clear hr hr' hlm
  go_enter Try.func6, Try.ntmps6
  go_wp2_with fail
  clear hsl hm3
  refine (New_any w).mono ?_
  rintro e w1 ⟨q, rfl, hc, hq, hb⟩
  have H := Lib.hid (And.intro hc (And.intro hq hb))
  clear hc hq hb
  go_wp2_with fail
  refine (alive_true w1).mono ?_
  rintro e w2 ⟨rfl, hA⟩
  have H2 : Hid (CAt w2 q none ∧ w.heap.size ≤ q ∧ Below w.heap.size w w2) := ⟨H.out.1.below hA H.out.1.lt, H.out.2.1, H.out.2.2.trans (hA.mono H.out.2.2.size)⟩
  clear hA H
  go_wp2_with fail
  go_loopw [4, 25] (fun y i wr => ∃ (k : Nat) (z : Int), k ≤ m ∧ i = .int .i64 k ∧ y = .int .i64 z ∧ Hid (CAt wr q (seen (xs.take k)) ∧ Below w.heap.size w wr ∧ (0 < k → seen (xs.take k) = some z))) (fun _ i _ => m - (intOf i).toNat)
  case atStart => exact ⟨0, 0, by omega, rfl, rfl, H2.out.1, H2.out.2.2, by omega⟩
  case round =>
    obtain ⟨k, z, hk, rfl, rfl, HW⟩ := hrel
    by_cases hlt : k < m
    · obtain ⟨b, o, t, hA', hcx, hx⟩ := (HR.out.kept HW.out.2.1).timeAt hlt
      subst hA'
      have HX := Lib.hid (seen_snoc hx)
      clear hx
      go_wp2_with fail
      clear hcx
      refine (See_at t HW.out.1).mono ?_
      intro e w5 h5
      have H5 := Lib.hid (And.intro h5.2.1 (h5.more HW.out.2.1 H2.out.2.1))
      obtain ⟨rfl, -, -⟩ := h5
      have hge := top_ge (seen (xs.take k)) t
      have hlast : Hid (0 < k → z ≤ top (seen (xs.take k)) t) := fun hp => by rw [HW.out.2.2 hp]; exact top_last z t
      have hmem : Hid (among (top (seen (xs.take k)) t) xs (k + 1) = true) := by show _ = _; exact decide_eq_true (seen_mem HX.out)
      generalize top (seen (xs.take k)) t = g at *
      obtain ⟨B, hsl, hrB⟩ := run_first (HR.out.kept H5.out.2) (show k + 1 ≤ m by omega)
      rw [show ((k + 1 : Nat) : Int) = (k : Int) + 1 by omega] at hsl
      have HB := Lib.hid hrB
      clear hrB
      go_wp2_with fail
      clear hsl
      go_loop [8, 38] (fun v i => ∃ j : Nat, j ≤ k + 1 ∧ i = .int .i64 j ∧ v = .bool (among g xs j)) (fun _ i => k + 1 - (intOf i).toNat)
      case atStart => exact ⟨0, by omega, rfl, rfl⟩
      case round =>
        obtain ⟨j, hj, rfl, rfl⟩ := hrel
        by_cases hjl : j < k + 1
        · obtain ⟨b2, o2, y, hB, hcy, hy⟩ := HB.out.timeAt hjl
          subst hB
          have hy' : xs[j]? = some y := by rw [List.getElem?_take, if_pos hjl] at hy; exact hy
          have AS := Lib.hid (among_snoc (g := g) hy')
          clear hy hy'
          cases hin : among g xs j with
          | true =>
            rw [hin] at AS
            clear hin
            go_wp2_with fail
            exact ⟨⟨j + 1, by omega, by go_num, by rw [AS.out]; rfl⟩, by simp [intOf]; omega⟩
          | false =>
            rw [hin] at AS
            clear hin
            go_wp2_with fail
            exact ⟨⟨j + 1, by omega, by go_num, by rw [AS.out]; rfl⟩, by simp [intOf]; omega⟩
        · obtain rfl : j = k + 1 := by omega
          rw [hmem.out]
          have hgt : decide (g < t) = false := by simp; omega
          by_cases hk0 : 0 < k
          · have hz := hlast.out hk0
            have hgz : decide (g < z) = false := by simp; omega
            go_wp2_with fail
            exact ⟨⟨k + 1, g, by omega, by go_num, rfl, by rw [HX.out]; exact H5.out.1, H5.out.2, fun _ => HX.out⟩, by simp [intOf]; omega⟩
          · obtain rfl : k = 0 := by omega
            go_wp2_with fail
            exact ⟨⟨1, g, by omega, by go_num, rfl, by rw [HX.out]; exact H5.out.1, H5.out.2, fun _ => HX.out⟩, by simp [intOf]; omega⟩
    · go_wp2_with fail
      go_ret
      exact ⟨rfl, HW.out.2.1⟩
end Go.Proofs.Ytnijeeikmnlekaa
