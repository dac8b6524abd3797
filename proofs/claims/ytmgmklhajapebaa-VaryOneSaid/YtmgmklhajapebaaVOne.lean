/-
  cuecardlaw02.VaryOne answers true for all bytes and every number.
  Conditions: none.
-/
import Derived.Test.YtmgmklhajapebaaVPuts
import Derived.Test.YtmgmklhajapebaaUpto
import Derived.Deep.RegionHeld
namespace Go.Proofs.Ytmgmklhajapebaa
open Go.RowKit

theorem below2 {w a b : World} (h1 : Below w.heap.size w a) (h2 : Below a.heap.size a b) : Below w.heap.size w b := h1.trans (h2.mono h1.size)

set_option maxHeartbeats 4000000 in
set_option maxRecDepth 100000 in
theorem one_true (A : Option Addr) (n c : Nat) (bs : List Nat) (x : Int) (w : World) (hr : Rd w (.slice A n c) (bv bs)) (hb : ∀ b ∈ bs, b < 256) (hn : n ≤ 9223372036854775807) (h1 : -9223372036854775808 ≤ x) (h2 : x ≤ 9223372036854775807) :
    Calls Try.prog 6 #[.slice A n c, .int .i64 x] w fun e w' => e = .returned (.bool true) ∧ Below w.heap.size w w' := by
  have HG := Lib.hid (Get_zero A n c bs w hr hb hn)
  have HZ := Lib.hid (zag_zig x)
  obtain ⟨⟨y, k, er⟩, hgv⟩ : ∃ r, r = getIn bs 0 := ⟨_, rfl⟩
  rw [← hgv] at HG
  have hgv' : Var.getv bs = (y, k, er) := by
    simp only [getIn, List.drop_zero, Nat.zero_add] at hgv
    injection hgv with g1 g2
    injection g2 with g2 g3
    by_cases he : (Var.getv bs).2.2 = 0
    · rw [if_pos he] at g2
      rw [g1, g2, g3]
    · rw [if_neg he] at g2
      have := Var.getv_err (l := bs) (y := (Var.getv bs).1) (n := (Var.getv bs).2.1) (e := (Var.getv bs).2.2) rfl he
      rw [g1, g2, g3]
      ext <;> simp <;> omega
  clear hgv
  have z1 := zig_lo x h1
  have z2 := zig_hi x h1 h2
  by_cases he : er = 0
  · subst he
    obtain ⟨k0, k1, k2, y1, hy⟩ := Var.getv_one hb hgv'
    clear hgv'
    have hle : k ≤ n := by have := hr.bytes; omega
    obtain ⟨A', hsl, hr'⟩ := run_upto hr hle
    rw [← hy] at hr'
    have kB : ∀ W, Below w.heap.size w W → (convert 24 9 (.slice A' k c)).run Try.prog W = .ok (.string (str (Var.enc y))) W := fun W hb => run_str (hr'.kept hb)
    have hzz : zig (zag (y : Int)) = (y : Int) := zig_zag _ (by omega)
    have za := zag_lo (y : Int) (by omega) (by omega)
    have zb := zag_hi (y : Int) (by omega) (by omega)
    have HK := Lib.hid (And.intro hsl kB)
    have HZZ := Lib.hid hzz
    clear hr hr' hb hy hsl kB hzz
    go_enter Try.func6, Try.ntmps6
    go_wp2_with fail
    refine (Zig_any x _ h1 h2).mono ?_
    rintro e w1 ⟨rfl, rfl⟩
    go_wp2_with fail
    refine (Zag_any (zig x) _ z1 z2).mono ?_
    rintro e w1 ⟨rfl, rfl⟩
    rw [HZ.out]
    go_wp2_with fail
    refine HG.out.mono ?_
    rintro e w1 ⟨rfl, rfl⟩
    go_wp2_with fail
    obtain ⟨hsl, kB⟩ := HK.out
    have hzz := HZZ.out
    have hD : Below w.heap.size w w.drew := ⟨rfl, rfl, rfl, Nat.le_refl _, fun _ _ => rfl⟩
    go_region_held (fun W => Below w.heap.size w W) (first | exact hD | exact hA' | exact hP' | assumption) (first
      | (go_at_call 9; refine (alive_true _).mono ?_; rintro e wA ⟨rfl, hA⟩; have hA' := Below.undrew hA; clear hA)
      | (go_at_call 10; refine (Put_any y _ y1).mono ?_; rintro e wP ⟨AP, cP, gP, rfl, hrP, -, hP⟩; have kP := str_keeps hrP; have rP := Below.refl wP.heap.size wP; have hP' := below2 hA' hP; clear hrP)
      | (go_at_call 14; refine (Zag_any (y : Int) _ (by omega) (by omega)).mono ?_; rintro e wZ ⟨rfl, rfl⟩)
      | (go_at_call 12; refine (Zig_any (zag (y : Int)) _ za zb).mono ?_; rintro e wZ ⟨rfl, rfl⟩))
    all_goals go_wp2
    all_goals go_ret
    all_goals exact ⟨rfl, hP'⟩
  · obtain ⟨rfl, rfl⟩ := Var.getv_err hgv' he
    have heb : ((er : Int) != 0) = true := by simp; omega
    clear hgv' hr hb
    go_enter Try.func6, Try.ntmps6
    go_wp2_with fail
    refine (Zig_any x _ h1 h2).mono ?_
    rintro e w1 ⟨rfl, rfl⟩
    go_wp2_with fail
    refine (Zag_any (zig x) _ z1 z2).mono ?_
    rintro e w1 ⟨rfl, rfl⟩
    rw [HZ.out]
    go_wp2_with fail
    refine HG.out.mono ?_
    rintro e w1 ⟨rfl, rfl⟩
    go_wp2_with fail
    refine (alive_true w).mono ?_
    rintro e w1 ⟨rfl, hA⟩
    go_wp2_with fail
    go_ret
    exact ⟨rfl, hA⟩
end Go.Proofs.Ytmgmklhajapebaa
