/-
  Slices of times: what is read of them, l[:k] under one name; the greatest of some times (seen), and the contract of the document's Greatest.
  Conditions: none.
-/
import Derived.Test.YtfmmomdfmmoklaaDoorClk
import Derived.Lib.Hide
import Derived.Lib.Walk
namespace Go.Proofs.YtfmmomdfmmoklaaDoor
open Go.RowKit

/-- Times as the model has them. -/
def tv (l : List Int) : List Value := l.map (Value.int .i64)
theorem tv_len (l : List Int) : (tv l).length = l.length := by simp [tv]
theorem tv_at (l : List Int) (j : Nat) : (tv l)[j]? = (l[j]?).map (Value.int .i64) := by simp [tv]
theorem Rd.keptT {w w' : World} {v : Value} {xs : List Value} (h : Rd w v xs) (hb : Below w.heap.size w w') : Rd w' v xs := by
  obtain ⟨A, c, rfl, hle, h1, hr⟩ := h
  refine ⟨A, c, rfl, hle, h1, fun hp => ?_⟩
  obtain ⟨b, o, rfl, hx⟩ := hr hp
  exact ⟨b, o, rfl, fun j u hu => (hb.cell (p := ⟨b, o + j, none⟩) (World.block_lt_of_cell? w _ (hx j u hu))).trans (hx j u hu)⟩
theorem Rd.times {w : World} {A : Option Addr} {n c : Nat} {l : List Int} (h : Rd w (.slice A n c) (tv l)) : n = l.length := by
  obtain ⟨_, _, e, _⟩ := h
  injection e with _ e2 _
  rw [e2, tv_len]
theorem Rd.timeAt {w : World} {A : Option Addr} {n c : Nat} {l : List Int} (h : Rd w (.slice A n c) (tv l)) {k : Nat} (hk : k < n) : ∃ b o d, A = some ⟨b, o, none⟩ ∧ w.cell? ⟨b, o + k, none⟩ = some (.int .i64 d) ∧ l[k]? = some d := by
  have hn := h.times
  obtain ⟨A', c', e, _, _, hr⟩ := h
  injection e with e1 e2 e3
  subst e1 e3
  obtain ⟨b, o, rfl, hx⟩ := hr (by rw [tv_len]; omega)
  obtain ⟨d, hd⟩ : ∃ d, l[k]? = some d := ⟨_, List.getElem?_eq_getElem (by omega)⟩
  exact ⟨b, o, d, rfl, hx k _ (by rw [tv_at, hd]; rfl), hd⟩

theorem i64_info : (Tryd.prog.info? 2).map (fun i => (i.zero, i.size, i.bytes)) = some (some (.int .i64 0), 1, 8) := by kernel_rfl
/-- l[:k], under one name. -/
theorem run_first {w : World} {A : Option Addr} {n c k : Nat} {l : List Int} (h : Rd w (.slice A n c) (tv l)) (hk : k ≤ n) :
    ∃ A', (∀ W, (Instr.slice 33 (.slice A n c) none (some (.int .i64 (k : Int))) none).run Tryd.prog W = .ok (.slice A' k c) W) ∧ Rd w (.slice A' k c) (tv (l.take k)) := by
  refine ⟨if c = 0 then A else A.map (·.add 0), fun W => ?_, ?_⟩
  · have hle := h.le
    obtain ⟨i0, hi0, hz0, hz1, hz2⟩ := info_parts i64_info
    have hs : (sizeOf (Tryd.prog.elem 33)).run Tryd.prog W = .ok 1 W := by
      rw [show Tryd.prog.elem 33 = 2 by kernel_rfl]
      simp [sizeOf, typeInfo, hi0, hz1]
    rw [run_slice_h W 33 A n c (by kernel_rfl) .i64 (k : Int) (by omega) (by omega), hs]
    simp only [Result.andThen, Int.toNat_natCast, sliced, Nat.mul_one, Nat.sub_zero]
  · have h1 := h.take hk
    rw [show (tv l).take k = tv (l.take k) by simp [tv]] at h1
    obtain ⟨A', c', hv, hle, h2, hr⟩ := h1
    injection hv with e1 e2 e3
    subst e1 e3
    refine ⟨_, _, by rw [← e2], hle, h2, fun hp => ?_⟩
    obtain ⟨b, o, rfl, hx⟩ := hr hp
    refine ⟨b, o, ?_, hx⟩
    split
    · rfl
    · simp [add_eq]

/-- The greatest of some times, if there is one. -/
def seen (l : List Int) : Option Int := l.foldl (fun o t => some (top o t)) none
theorem seen_nil : seen [] = none := rfl
theorem seen_snoc {l : List Int} {k : Nat} {x : Int} (h : l[k]? = some x) : seen (l.take (k + 1)) = some (top (seen (l.take k)) x) := by
  have hk : k < l.length := by
    rcases Nat.lt_or_ge k l.length with h' | h'
    · exact h'
    · rw [List.getElem?_eq_none h'] at h; cases h
  have e : l.take (k + 1) = l.take k ++ [x] := by rw [List.take_add_one, h]; rfl
  rw [e, seen, List.foldl_append]
  rfl

theorem Greatest_any (A : Option Addr) (n c : Nat) (l : List Int) (w : World) (hr : Rd w (.slice A n c) (tv l)) (h1 : 1 ≤ n) (hn : n ≤ 9223372036854775807) :
    Calls Tryd.prog 52 #[.slice A n c] w fun e w' => ∃ g, e = .returned (.int .i64 g) ∧ seen l = some g ∧ w = w' := by
  obtain ⟨b, o, x0, rfl, hc0, hx0⟩ := hr.timeAt (show 0 < n by omega)
  have HR := Lib.hid hr
  have HX := Lib.hid hx0
  have hp : 0 < n := by omega
  rw [Nat.add_zero] at hc0
  clear hr hx0
  go_enter Tryd.func52, Tryd.ntmps52
  go_wp2_with fail
  clear hc0
  go_loop [3, 4] (fun g i => ∃ (k : Nat) (y : Int), 1 ≤ k ∧ k ≤ n ∧ i = .int .i64 k ∧ g = .int .i64 y ∧ Hid (seen (l.take k) = some y)) (fun _ i => n - (intOf i).toNat)
  case atStart => exact ⟨1, x0, by omega, by omega, rfl, rfl, by show _ = _; rw [seen_snoc HX.out]; rfl⟩
  case round =>
    obtain ⟨k, y, hk1, hk, rfl, rfl, HS⟩ := hrel
    by_cases hlt : k < n
    · obtain ⟨b', o', x, e, hcx, hx⟩ := HR.out.timeAt hlt
      injection e with e
      injection e with e1 e2
      subst e1 e2
      have hs := seen_snoc hx
      rw [HS.out] at hs
      have HN := Lib.hid hs
      clear hs hx
      by_cases hgt : y < x
      · go_wp2_with fail
        exact ⟨⟨k + 1, x, by omega, by omega, by go_num, rfl, by show _ = _; rw [HN.out]; show some (max x y) = _; rw [show max x y = x by omega]⟩, by simp [intOf]; omega⟩
      · go_wp2_with fail
        exact ⟨⟨k + 1, y, by omega, by omega, by go_num, rfl, by show _ = _; rw [HN.out]; show some (max x y) = _; rw [show max x y = y by omega]⟩, by simp [intOf]; omega⟩
    · obtain rfl : k = n := by omega
      go_wp2_with fail
      go_ret
      refine ⟨y, rfl, ?_, rfl⟩
      have h := HS.out
      rw [show l.take k = l by rw [HR.out.times, List.take_length]] at h
      exact h
end Go.Proofs.YtfmmomdfmmoklaaDoor
