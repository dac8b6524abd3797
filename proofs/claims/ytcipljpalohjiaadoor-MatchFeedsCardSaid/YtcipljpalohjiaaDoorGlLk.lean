/-
  What one thing of a pattern is like, as a function value: anything, itself and oneOf, what calls of them tell; begins.
  Conditions: those of each theorem.
-/
import Derived.Test.YtcipljpalohjiaaDoorGlPl
import Derived.Test.YtcipljpalohjiaaDoorIdxB
import Derived.Test.YtcipljpalohjiaaDoorGlRLike
import Derived.Test.YtcipljpalohjiaaDoorGlRSet
import Derived.WalkKit
namespace Go.Proofs.YtcipljpalohjiaaDoor
open Go.RowKit

/-- A function value is like what a thing is like. -/
def LkV (w : World) (v : Value) (x : Thg) : Prop :=
  x.any = false ∧ ((v = .func (.func 53) #[] #[] ∧ ∀ c, c < 256 → x.one c = true) ∨
    (∃ (b d : Nat), v = .func (.func 60) #[] #[.pointer (some ⟨b, 0, none⟩)] ∧ Blk w b 5 #[.int .u8 (d : Nat)] ∧ ∀ c, c < 256 → x.one c = decide (c = d)) ∨
    ∃ (b : Nat), v = .func (.func 62) #[] #[.pointer (some ⟨b, 0, none⟩)] ∧ Blk w b 66 (bz 256 x.one))
section
variable {w w' : World} {v : Value} {x : Thg}
theorem LkV.keep (h : LkV w v x) (hk : ∀ b t cs, t ≠ 99 → t ≠ 103 → Blk w b t cs → w'.heap[b]? = w.heap[b]?) : LkV w' v x := by
  obtain ⟨h0, h⟩ := h
  refine ⟨h0, ?_⟩
  rcases h with h | ⟨b, d, e, hb, hx⟩ | ⟨b, e, hb⟩
  · exact .inl h
  · exact .inr (.inl ⟨b, d, e, hb.keep (hk b _ _ (by decide) (by decide) hb), hx⟩)
  · exact .inr (.inr ⟨b, e, hb.keep (hk b _ _ (by decide) (by decide) hb)⟩)
theorem LkV.below (h : LkV w v x) (hb : Below w.heap.size w w') : LkV w' v x := h.keep fun b _ _ _ _ hq => hb.block b hq.lt
theorem LkV.form (h : LkV w v x) : ∃ fn f c, v = .func fn f c := by
  rcases h.2 with ⟨rfl, _⟩ | ⟨b, d, rfl, _⟩ | ⟨b, rfl, _⟩ <;> exact ⟨_, _, _, rfl⟩
theorem LkV.one' (h : LkV w v x) : v.oneCell' = true := by
  rcases h.2 with ⟨rfl, _⟩ | ⟨b, d, rfl, _⟩ | ⟨b, rfl, _⟩ <;> rfl
end

set_option maxRecDepth 100000 in
set_option maxHeartbeats 1000000 in
theorem anything_is (c : Int) (w : World) : Calls Tryd.prog 53 #[.int .u8 c] w fun e w' => e = .returned (.bool true) ∧ w = w' := by
  go_enter Tryd.func53, Tryd.ntmps53
  go_wp2
  go_ret
  exact ⟨rfl, rfl⟩
set_option maxRecDepth 100000 in
set_option maxHeartbeats 1000000 in
theorem itself1_is (c d b : Nat) (w : World) (h : Blk w b 5 #[.int .u8 (d : Nat)]) : Calls Tryd.prog 60 #[.int .u8 (c : Nat), .pointer (some ⟨b, 0, none⟩)] w fun e w' => e = .returned (.bool (decide (c = d))) ∧ w = w' := by
  have c0 : w.cell? ⟨b, 0, none⟩ = some (.int .u8 (d : Nat)) := h.cell 0
  have HE : Hid (((c : Int) == (d : Int)) = decide (c = d)) := Lib.hid (by rw [Bool.eq_iff_iff]; simp; omega)
  clear h
  go_enter Tryd.func60, Tryd.ntmps60
  go_wp2
  go_ret
  exact ⟨by rw [← HE.out]; rfl, rfl⟩
set_option maxRecDepth 100000 in
set_option maxHeartbeats 1000000 in
theorem oneOf1_is (c b : Nat) (hc : c < 256) (f : Nat → Bool) (w : World) (h : Blk w b 66 (bz 256 f)) : Calls Tryd.prog 62 #[.int .u8 (c : Nat), .pointer (some ⟨b, 0, none⟩)] w fun e w' => e = .returned (.bool (f c)) ∧ w = w' := by
  have c0 : w.cell? ⟨b, c, none⟩ = some (.bool (f c)) := (h.cell c).trans (bz_at f hc)
  clear h
  go_enter Tryd.func62, Tryd.ntmps62
  go_wp2
  go_ret
  exact ⟨rfl, rfl⟩

/-- What a function value of a thing is made as. -/
def Made (w w' : World) (x : Thg) (e : Ending) : Prop := ∃ v, e = .returned v ∧ LkV w' v x ∧ Below w.heap.size w w'
set_option maxRecDepth 100000 in
set_option maxHeartbeats 1000000 in
theorem itself_is (d : Nat) (w : World) : Calls Tryd.prog 52 #[.int .u8 (d : Nat)] w fun e w' => Made w w' (oneT d) e := by
  have HM : Hid (Made w (w.alloc (.cells #[.int .u8 (d : Nat)] 5)) (oneT d) (.returned (.func (.func 60) #[] #[.pointer (some ⟨w.heap.size, 0, none⟩)]))) :=
    Lib.hid ⟨_, rfl, ⟨rfl, .inr (.inl ⟨_, d, rfl, Blk.new w _ _, fun c _ => rfl⟩)⟩, (Below.refl _ w).alloc (Nat.le_refl _) _⟩
  have hmf : ∀ (fn : Fn) (first cap : Array Value) (w : World), (Instr.makeFunc fn first cap).run Tryd.prog w = .ok (.func fn first cap) w := fun _ _ _ _ => rfl
  go_enter Tryd.func52, Tryd.ntmps52
  go_wp2
  go_ret
  exact HM.out

/-- A row of them, read. -/
def LsV (w : World) (v : Value) (r : List Thg) : Prop := ∃ us, Rd w v us ∧ us.length = r.length ∧ ∀ (j : Nat) (u : Value) (x : Thg), us[j]? = some u → r[j]? = some x → LkV w u x
theorem LsV.form {w : World} {v : Value} {r : List Thg} (h : LsV w v r) : ∃ A c, v = .slice A r.length c := by
  obtain ⟨us, ⟨A, c, e, _⟩, h1, _⟩ := h
  exact ⟨A, c, by rw [e, h1]⟩
theorem LsV.at_ {w : World} {A : Option Addr} {n c k : Nat} {r : List Thg} (h : LsV w (.slice A n c) r) {x : Thg} (hx : r[k]? = some x) : ∃ b o u, A = some ⟨b, o, none⟩ ∧ w.cell? ⟨b, o + k, none⟩ = some u ∧ LkV w u x := by
  obtain ⟨us, ⟨A', c', e, _, _, hr⟩, h1, h2⟩ := h
  injection e with e1 e2 e3
  subst e1
  have hk := (List.getElem?_eq_some_iff.1 hx).1
  obtain ⟨b, o, rfl, hc⟩ := hr (by omega)
  have hu : us[k]? = some us[k] := List.getElem?_eq_getElem (by omega)
  exact ⟨b, o, us[k], rfl, hc k _ hu, h2 k _ x hu hx⟩

set_option maxRecDepth 100000 in
set_option maxHeartbeats 2000000 in
theorem begins_is (v : Value) (r : List Thg) (t : List Nat) (w : World) (h : LsV w v r) (ht : ∀ c ∈ t, c < 256) (hn : r.length ≤ t.length) (hm : t.length ≤ 140737488351232) :
    Calls Tryd.prog 70 #[v, .string (str t)] w fun e w' => e = .returned (.bool (sitB r t)) ∧ w = w' := by
  obtain ⟨A, c, rfl⟩ := h.form
  have HV := Lib.hid h
  have HT := Lib.hid ht
  have hsz := str_len t
  have HN := Lib.hid hn
  have HI := Lib.hid (sit_at hn)
  clear h ht
  go_enter Tryd.func70, Tryd.ntmps70
  go_wp2_with fail
  go_loopw [9] (fun iv wr => ∃ i : Nat, i ≤ r.length ∧ iv = .int .i64 (i : Nat) ∧ w = wr ∧ Hid (∀ (j : Nat) (x : Thg), j < i → r[j]? = some x → x.one (t.getD j 0) = true)) (fun iv _ => r.length - (intOf iv).toNat)
  case atStart => exact ⟨0, by omega, rfl, rfl, Lib.hid fun j x h => by omega⟩
  case round =>
    obtain ⟨i, hi, rfl, rfl, HE⟩ := hrel
    by_cases hlt : i < r.length
    · obtain ⟨x, hx⟩ : ∃ x, r[i]? = some x := ⟨_, List.getElem?_eq_getElem hlt⟩
      obtain ⟨d, hd⟩ : ∃ d, t[i]? = some d := ⟨_, List.getElem?_eq_getElem (by omega)⟩
      obtain ⟨hks, hx1⟩ := str_at HT.out hd
      have hd6 := HT.out d (List.mem_of_getElem? hd)
      have HD : Hid (t.getD i 0 = d) := Lib.hid (by rw [List.getD_eq_getElem?_getD, hd]; rfl)
      obtain ⟨b, o, u, rfl, cu, hu⟩ := HV.out.at_ hx
      have HX := Lib.hid hx
      have HF : Hid (x.one d = false → sitB r t = false) := Lib.hid fun h1 => by
        rw [← Bool.not_eq_true, HI.out]
        intro h2
        have := h2 i x HX.out
        rw [HD.out, h1] at this
        cases this
      have HS : Hid (x.one d = true → ∀ (j : Nat) (y : Thg), j < i + 1 → r[j]? = some y → y.one (t.getD j 0) = true) := Lib.hid fun h1 j y hj hy => by
        rcases Nat.lt_or_ge j i with h | h
        · exact HE.out j y h hy
        · obtain rfl : j = i := by omega
          rw [HX.out] at hy
          cases hy
          rw [HD.out]; exact h1
      have i1 : (i : Int) < (t.length : Int) := by omega
      clear hx hd HE
      have HR : Hid (LkV w u x) := Lib.hid hu
      rcases hu with ⟨_, hu⟩
      rcases hu with ⟨rfl, hu⟩ | ⟨q, d2, rfl, hq, hu⟩ | ⟨q, rfl, hq⟩
      · have hb := hu d hd6
        have HS1 := Lib.hid (HS.out hb)
        have HC := Lib.hid (anything_is (d : Nat) w)
        clear hu
        go_wp2_with fail
        refine HC.out.mono ?_
        rintro e w1 ⟨rfl, rfl⟩
        go_wp2_with fail
        go_roundw
        case rel => exact ⟨i + 1, by omega, by go_num, trivial, HS1⟩
        case measure => simp [intOf]; omega
      · have hb := hu d hd6
        have HC := Lib.hid (itself1_is d d2 q w hq)
        rw [← hb] at HC
        clear hu hq hb
        generalize x.one d = y at *
        cases y with
        | true =>
          have HS1 := Lib.hid (HS.out rfl)
          clear HS HF HR
          go_wp2_with fail
          refine HC.out.mono ?_
          rintro e w1 ⟨rfl, rfl⟩
          go_wp2_with fail
          go_roundw
          case rel => exact ⟨i + 1, by omega, by go_num, trivial, HS1⟩
          case measure => simp [intOf]; omega
        | false =>
          have HF1 := Lib.hid (HF.out rfl)
          clear HS HF HR
          go_wp2_with fail
          refine HC.out.mono ?_
          rintro e w1 ⟨rfl, rfl⟩
          go_wp2_with fail
          go_ret
          exact ⟨by rw [HF1.out]; rfl, rfl⟩
      · have HC := Lib.hid (oneOf1_is d q hd6 x.one w hq)
        clear hq
        generalize x.one d = y at *
        cases y with
        | true =>
          have HS1 := Lib.hid (HS.out rfl)
          clear HS HF HR
          go_wp2_with fail
          refine HC.out.mono ?_
          rintro e w1 ⟨rfl, rfl⟩
          go_wp2_with fail
          go_roundw
          case rel => exact ⟨i + 1, by omega, by go_num, trivial, HS1⟩
          case measure => simp [intOf]; omega
        | false =>
          have HF1 := Lib.hid (HF.out rfl)
          clear HS HF HR
          go_wp2_with fail
          refine HC.out.mono ?_
          rintro e w1 ⟨rfl, rfl⟩
          go_wp2_with fail
          go_ret
          exact ⟨by rw [HF1.out]; rfl, rfl⟩
    · have HS : Hid (sitB r t = true) := Lib.hid (HI.out.2 fun j x hj => HE.out j x (by have := (List.getElem?_eq_some_iff.1 hj).1; omega) hj)
      go_wp2_with fail
      go_ret
      exact ⟨by rw [HS.out]; rfl, rfl⟩
end Go.Proofs.YtcipljpalohjiaaDoor
