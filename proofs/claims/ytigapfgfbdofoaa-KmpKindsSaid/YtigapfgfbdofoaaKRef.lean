/-
  cuecardref08's All, Borders, Longest: places, borders, and how much of a pattern stands at the end, each looked at anew.
  Conditions: at most 1048576 things.
-/
import Derived.Test.YtigapfgfbdofoaaKRefAt
import Derived.Test.YtigapfgfbdofoaaKClone
import Derived.Test.YtigapfgfbdofoaaKmpSeek
namespace Go.Proofs.Ytigapfgfbdofoaa
open Go.RowKit

/-- A row of numbers that grows. -/
def IntsI (w0 : World) (v : Value) (xs : List Int) (W : World) : Prop :=
  ∃ go, Row W 3 go v (iv xs) ∧ (∀ b, go = some b → w0.heap.size ≤ b) ∧ Below w0.heap.size w0 W
theorem IntsI.form {w0 W : World} {v : Value} {xs : List Int} (h : IntsI w0 v xs W) : ∃ A c, v = .slice A xs.length c := by
  obtain ⟨go, hr, _⟩ := h
  obtain ⟨A, c, e⟩ := hr.form
  exact ⟨A, c, by rw [e, iv_len]⟩
theorem IntsI.nil (w : World) : IntsI w (.slice none 0 0) [] w := ⟨none, Row.nil w _, (fun b e => by cases e), Below.refl _ _⟩
theorem IntsI.drewN {w0 W : World} {v : Value} {xs : List Int} (h : IntsI w0 v xs W) (n : Nat) : IntsI w0 v xs (W.drewN n) := by
  obtain ⟨go, hr, hg, hb⟩ := h
  exact ⟨go, hr, hg, ⟨hb.os, hb.tape, hb.output, hb.size, hb.block⟩⟩
theorem IntsI.alloc {w0 W : World} {v : Value} {xs : List Int} (h : IntsI w0 v xs W) (o : Obj) : IntsI w0 v xs (W.alloc o) := by
  obtain ⟨go, hr, hg, hb⟩ := h
  exact ⟨go, hr.alloc o, hg, hb.alloc hb.size o⟩
theorem IntsI.below {w0 W W' : World} {v : Value} {xs : List Int} (h : IntsI w0 v xs W) (hb' : Below W.heap.size W W') : IntsI w0 v xs W' := by
  obtain ⟨go, hr, hg, hb⟩ := h
  exact ⟨go, hr.below hb' (fun b e => hr.lt e), hg, hb.trans (hb'.mono hb.size)⟩
theorem IntsI.grown {w0 W W' : World} {v' : Value} {go go' : Option Nat} {xs ys : List Int} (hg : ∀ b, go = some b → w0.heap.size ≤ b) (hb : Below w0.heap.size w0 W)
    (hr' : Row W' 3 go' v' (iv xs ++ iv ys)) (hgr : W.grownBy W' go) (hg' : go' = go ∨ go' = some W.heap.size) : IntsI w0 v' (xs ++ ys) W' := by
  refine ⟨go', by rw [iv_append]; exact hr', fun b e => ?_, hb.grown hgr hb.size hg⟩
  rcases hg' with rfl | rfl
  · exact hg b e
  · cases e; exact hb.size
theorem IntsI.to {w0 W : World} {A : Option Addr} {n c : Nat} {xs : List Int} (h : IntsI w0 (.slice A n c) xs W) : IntsTo w0 xs (.returned (.slice A n c)) W := by
  obtain ⟨go, hr, hg, hb⟩ := h
  obtain ⟨rfl, -⟩ := hr.rd.ints
  exact ⟨A, c, go, rfl, hr, hg, hb⟩

/-- The places below k. -/
def upTo (text p : List Int) (k : Nat) : List Nat := (List.range k).filter (fun i => decide (At text p i))
theorem upTo_yes {text p : List Int} {k : Nat} (h : At text p k) : upTo text p (k + 1) = upTo text p k ++ [k] := by simp [upTo, List.range_succ, h]
theorem upTo_no {text p : List Int} {k : Nat} (h : ¬ At text p k) : upTo text p (k + 1) = upTo text p k := by simp [upTo, List.range_succ, h]
theorem upTo_len (text p : List Int) (k : Nat) : (upTo text p k).length ≤ k := by
  have := List.length_filter_le (fun i => decide (At text p i)) (List.range k)
  rwa [List.length_range] at this


set_option maxRecDepth 100000 in
set_option maxHeartbeats 1000000 in
theorem RAll_i (A B : Option Addr) (n c m d : Nat) (text p : List Int) (hlt : text.length ≤ 1048576) (hlp : p.length ≤ 1048576) (w : World) (ht : Rd w (.slice A n c) (iv text)) (hp : Rd w (.slice B m d) (iv p)) :
    Calls Try.prog 12 #[.slice A n c, .slice B m d] w (IntsTo w (ni (places text p))) := by
  obtain ⟨i0, hi0, hz0, hz1, hz2⟩ := info_parts int_info
  obtain ⟨rfl, -⟩ := ht.ints
  have HA : Hid (∀ k, k ≤ text.length → ∀ W, Below w.heap.size w W → Calls Try.prog 26 #[.slice A text.length c, .slice B m d, .int .i64 ((k : Nat) : Int)] W fun e w' => e = .returned (.bool (decide (At text p k))) ∧ ∃ n, w' = W.drewN n) :=
    Lib.hid fun k hk W hb => At_i A B text.length c m d text p k (by omega) (by omega) (by omega) W (ht.kept hb) (hp.kept hb)
  clear ht hp
  go_enter Try.func12, Try.ntmps12
  go_wp2
  go_loopw [5, 6] (fun v i wr => ∃ k : Nat, k ≤ text.length + 1 ∧ i = .int .i64 k ∧ Hid (IntsI w v (ni (upTo text p k)) wr)) (fun _ i _ => text.length + 1 - (intOf i).toNat)
  case atStart => exact ⟨0, Nat.zero_le _, rfl, Lib.hid (IntsI.nil w)⟩
  case round =>
    obtain ⟨k, hk, rfl, HI⟩ := hrel
    obtain ⟨A1, c1, rfl⟩ := HI.out.form
    have hul := upTo_len text p k
    rw [ni_len] at HI ⊢
    by_cases hlt : k ≤ text.length
    · have HC := Lib.hid (HA.out k hlt wr HI.out.choose_spec.2.2)
      by_cases hat : At text p k
      · have HN := Lib.hid (upTo_yes hat)
        rw [show decide (At text p k) = true by simpa using hat] at HC
        clear hat
        go_wp2_with fail
        refine HC.out.mono ?_
        rintro e w1 ⟨rfl, nd, hw1⟩
        have HI1 : Hid (IntsI w (.slice A1 (upTo text p k).length c1) (ni (upTo text p k)) w1) := Lib.hid (by rw [hw1]; exact HI.out.drewN nd)
        clear hw1 HC HI
        obtain ⟨go, hr, hg, hb⟩ := HI1.out
        have X := Lib.hid (And.intro hr (And.intro hg hb))
        clear hr hg hb HI1
        go_wp2_with (at_builtin; refine wpList_append_row _ rfl (.tmp 19) (.tmp 21) _ rfl 3 i0 _ 8 Try.underlying22 hi0 hz0 hz1 hz2 rfl go _ (iv (ni (upTo text p k))) rfl (X.out.1.alloc _) _ [.int .i64 (k : Int)] rfl (Rd.lit w1 3 #[.int .i64 (k : Int)] 1 rfl (by omega) (by omega) (by simp [Value.oneCell'])) (by rw [iv_len, ni_len]; simp only [maxLen]; simp; omega) (by rw [iv_len, ni_len]; simp; omega) ?_; intro B' d' w7 gn hrow' hgr hgn; simp only [iv_len, ni_len] at hrow' ⊢; have Y := Lib.hid (And.intro hrow' (And.intro hgr hgn)); clear hrow' hgr hgn)
        go_roundw
        case rel =>
          refine ⟨k + 1, by omega, by go_num, Lib.hid ?_⟩
          rw [HN.out, ni_snoc]
          have := IntsI.grown (w0 := w) (xs := ni (upTo text p k)) (ys := [(k : Int)]) X.out.2.1 (X.out.2.2.alloc X.out.2.2.size _) Y.out.1 Y.out.2.1 Y.out.2.2
          simpa using this
        case measure => simp [intOf]; omega
      · have HN := Lib.hid (upTo_no hat)
        rw [show decide (At text p k) = false by simpa using hat] at HC
        clear hat
        go_wp2_with fail
        refine HC.out.mono ?_
        rintro e w1 ⟨rfl, nd, hw1⟩
        have HI1 : Hid (IntsI w (.slice A1 (upTo text p k).length c1) (ni (upTo text p k)) w1) := Lib.hid (by rw [hw1]; exact HI.out.drewN nd)
        clear hw1 HC HI
        go_wp2
        go_roundw
        case rel => exact ⟨k + 1, by omega, by go_num, Lib.hid (by rw [HN.out]; exact HI1.out)⟩
        case measure => simp [intOf]; omega
    · obtain rfl : k = text.length + 1 := by omega
      go_wp2
      go_ret
      exact HI.out.to
end Go.Proofs.Ytigapfgfbdofoaa
