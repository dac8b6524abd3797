/-
  The contracts of the relay's Step, Waits and Done.
  Conditions: none but that all were made by New, or the relay is nil; the package's table holds what its initialiser lays (Oth).
-/
import Derived.Test.YtfmmomdfmmoklaaDoorRlyRd
namespace Go.Proofs.YtfmmomdfmmoklaaDoor
open Go.RowKit

section
variable {L : Nat → Nat} {r : Nat} {x : Sys} {F : Nat → Prop} {w : World}

theorem Step_nil (kind n t : Int) (w : World) : Calls Tryd.prog 24 #[.pointer none, .int .i64 kind, .int .i64 n, .int .i64 t] w fun e w' => e = .returned (.bool false) ∧ w = w' := by
  go_enter Tryd.func24, Tryd.ntmps24
  go_wp2_with fail
  go_ret
  exact ⟨rfl, rfl⟩
theorem Waits_nil (d : Int) (w : World) : Calls Tryd.prog 17 #[.pointer none, .int .i64 d] w fun e w' => e = .returned (.int .i64 0) ∧ w = w' := by
  go_enter Tryd.func17, Tryd.ntmps17
  go_wp2_with fail
  go_ret
  exact ⟨rfl, rfl⟩
theorem Done_nil (w : World) : Calls Tryd.prog 18 #[.pointer none] w fun e w' => e = .returned (.bool false) ∧ w = w' := by
  go_enter Tryd.func18, Tryd.ntmps18
  go_wp2_with fail
  go_ret
  exact ⟨rfl, rfl⟩

theorem Waits_at (h : Rly L r x F w) (d : Nat) (hd : d < 2) : Calls Tryd.prog 17 #[.pointer (some ⟨r, 0, none⟩), .int .i64 d] w fun e w' => e = .returned (.int .i64 (x.ws d).length) ∧ w = w' := by
  obtain ⟨A, c, q, g, v, l, hr⟩ := h
  have h0 : w.cell? ⟨r, 4, none⟩ = some (.slice (A 0) (x.ws 0).length (c 0)) := hr.blk.cell 4
  have h1 : w.cell? ⟨r, 10, none⟩ = some (.slice (A 1) (x.ws 1).length (c 1)) := hr.blk.cell 10
  clear hr
  rcases (show d = 0 ∨ d = 1 by omega) with rfl | rfl
  all_goals
    clear hd
    go_enter Tryd.func17, Tryd.ntmps17
    go_wp2_with fail
    go_ret
    exact ⟨rfl, rfl⟩
theorem Waits_no (r : Nat) (d : Int) (w : World) (h0 : d ≠ 0) (h1 : d ≠ 1) : Calls Tryd.prog 17 #[.pointer (some ⟨r, 0, none⟩), .int .i64 d] w fun e w' => e = .returned (.int .i64 0) ∧ w = w' := by
  have b0 : (d != 0) = true := by simpa using h0
  have b1 : (d != 1) = true := by simpa using h1
  clear h0 h1
  go_enter Tryd.func17, Tryd.ntmps17
  go_wp2_with fail
  go_ret
  exact ⟨rfl, rfl⟩

/-- Whether all was handed on. -/
def Sys.done (x : Sys) : Bool := x.ov 0 && (x.ws 0).isEmpty
theorem Done_at (h : Rly L r x F w) : Calls Tryd.prog 18 #[.pointer (some ⟨r, 0, none⟩)] w fun e w' => e = .returned (.bool x.done) ∧ w = w' := by
  obtain ⟨A, c, q, g, v, l, hr⟩ := h
  have h0 : w.cell? ⟨r, 4, none⟩ = some (.slice (A 0) (x.ws 0).length (c 0)) := hr.blk.cell 4
  have h1 : w.cell? ⟨r, 5, none⟩ = some (.bool (x.ov 0)) := hr.blk.cell 5
  clear hr
  have e : x.done = (x.ov 0 && decide ((x.ws 0).length = 0)) := by
    unfold Sys.done
    congr 1
    cases x.ws 0 <;> simp
  rw [e]
  clear e
  generalize x.ov 0 = ov at *
  generalize (x.ws 0).length = k at *
  cases ov with
  | false =>
    go_enter Tryd.func18, Tryd.ntmps18
    go_wp2_with fail
    go_ret
    exact ⟨rfl, rfl⟩
  | true =>
    by_cases hk : k = 0
    · subst hk
      go_enter Tryd.func18, Tryd.ntmps18
      go_wp2_with fail
      go_ret
      exact ⟨rfl, rfl⟩
    · have e0 : decide (k = 0) = false := by simpa using hk
      have hk' : ((k : Int) == 0) = false := by simp; omega
      rw [e0]
      clear e0 hk
      go_enter Tryd.func18, Tryd.ntmps18
      go_wp2_with fail
      go_ret
      exact ⟨rfl, rfl⟩

set_option maxHeartbeats 1000000 in
set_option maxRecDepth 100000 in
theorem Step_at (h : SysT L r x F w) (hx : x.Ok) (hO : OthF F w) (kind n t : Int) :
    Calls Tryd.prog 24 #[.pointer (some ⟨r, 0, none⟩), .int .i64 kind, .int .i64 n, .int .i64 t] w (Did L r F w (x.step kind n t)) := by
  have R0 := Lib.hid (way_read h hx hO (d := 0) (o := 0) (.inl ⟨rfl, rfl⟩) n t)
  have R1 := Lib.hid (way_read h hx hO (d := 1) (o := 6) (.inr ⟨rfl, rfl⟩) n t)
  have W0 := Lib.hid (way_write h hx (d := 0) (o := 0) (.inl ⟨rfl, rfl⟩) n)
  have W1 := Lib.hid (way_write h hx (d := 1) (o := 6) (.inr ⟨rfl, rfl⟩) n)
  have H := Lib.hid h
  have c5 : w.cell? ⟨r, 5, none⟩ = some (.bool (x.ov 0)) := by
    obtain ⟨A0, B0, hst⟩ := h
    obtain ⟨A, c, q, g, v, l, hr⟩ := hst.snd
    exact hr.blk.cell 5
  clear h hx hO
  by_cases k0 : kind = 0
  · subst k0
    cases hov : x.ov 0 with
    | true =>
      rw [hov] at c5
      have e : x.step 0 n t = (false, x) := by simp [Sys.step, hov]
      rw [e]
      clear e hov
      go_enter Tryd.func24, Tryd.ntmps24
      go_wp2_with fail
      go_ret
      exact ⟨rfl, Turned.refl H.out⟩
    | false =>
      rw [hov] at c5
      have e : x.step 0 n t = x.read 1 n t := by simp [Sys.step, hov]
      rw [e]
      clear e hov
      go_enter Tryd.func24, Tryd.ntmps24
      go_wp2_with fail
      refine R1.out.mono ?_
      rintro e w1 ⟨rfl, ht⟩
      have HH := Lib.hid ht
      clear ht
      go_wp2_with fail
      go_ret
      exact ⟨rfl, HH.out⟩
  · by_cases k1 : kind = 1
    · subst k1
      have e : x.step 1 n t = x.read 0 n t := by simp [Sys.step]
      rw [e]
      clear e k0
      go_enter Tryd.func24, Tryd.ntmps24
      go_wp2_with fail
      refine R0.out.mono ?_
      rintro e w1 ⟨rfl, ht⟩
      have HH := Lib.hid ht
      clear ht
      go_wp2_with fail
      go_ret
      exact ⟨rfl, HH.out⟩
    · by_cases k2 : kind = 2
      · subst k2
        have e : x.step 2 n t = x.write 1 n := by simp [Sys.step]
        rw [e]
        clear e k0 k1
        go_enter Tryd.func24, Tryd.ntmps24
        go_wp2_with fail
        refine W1.out.mono ?_
        rintro e w1 ⟨rfl, ht⟩
        have HH := Lib.hid ht
        clear ht
        go_wp2_with fail
        go_ret
        exact ⟨rfl, HH.out⟩
      · by_cases k3 : kind = 3
        · subst k3
          have e : x.step 3 n t = x.write 0 n := by simp [Sys.step]
          rw [e]
          clear e k0 k1 k2
          go_enter Tryd.func24, Tryd.ntmps24
          go_wp2_with fail
          refine W0.out.mono ?_
          rintro e w1 ⟨rfl, ht⟩
          have HH := Lib.hid ht
          clear ht
          go_wp2_with fail
          go_ret
          exact ⟨rfl, HH.out⟩
        · have e : x.step kind n t = (false, x) := by simp [Sys.step, k0, k1, k2, k3]
          rw [e]
          have b0 : (kind == 0) = false := by simpa using k0
          have b1 : (kind == 1) = false := by simpa using k1
          have b2 : (kind == 2) = false := by simpa using k2
          have b3 : (kind == 3) = false := by simpa using k3
          clear e k0 k1 k2 k3
          go_enter Tryd.func24, Tryd.ntmps24
          go_wp2_with fail
          go_ret
          exact ⟨rfl, Turned.refl H.out⟩
end
end Go.Proofs.YtfmmomdfmmoklaaDoor
