/-
  A copy of a row of numbers; the document's At and All.
  Conditions: those of each theorem.
-/
import Derived.Test.YtcipljpalohjiaaDoorKBord
import Derived.Test.YtcipljpalohjiaaDoorKmpMath
import Derived.Test.YtcipljpalohjiaaDoorKInt
import Derived.Test.YtcipljpalohjiaaDoorRet
import Derived.WalkKit
import Derived.LoopTactic
import Derived.Lib.Hide
import Derived.IntWalk
import Derived.Deep.QuietTactic
import Derived.BigQuiet
namespace Go.Proofs.YtcipljpalohjiaaDoor
open Go.RowKit

/-- Numbers that are handed out in a row of their own. -/
def IntsTo (w : World) (zs : List Int) (e : Ending) (w' : World) : Prop :=
  ∃ A c g, e = .returned (.slice A zs.length c) ∧ Row w' 3 g (.slice A zs.length c) (iv zs) ∧ (∀ b, g = some b → w.heap.size ≤ b) ∧ Below w.heap.size w w'

end Go.Proofs.YtcipljpalohjiaaDoor
namespace Go.Proofs.YtcipljpalohjiaaDoor
section
variable {α : Type} [DecidableEq α]

/-- The places that end within the first k things. -/
def placesTo (text p : List α) (k : Nat) : List Nat := (List.range (k + 1 - p.length)).filter (fun i => decide (At text p i))
theorem placesTo_len (text p : List α) (k : Nat) : (placesTo text p k).length ≤ k + 1 - p.length := by
  have := List.length_filter_le (fun i => decide (At text p i)) (List.range (k + 1 - p.length))
  rwa [List.length_range] at this
theorem placesTo_zero (text : List α) {p : List α} (h : p.length = 0) : placesTo text p 0 = [0] := by
  have hp : p = [] := List.eq_nil_of_length_eq_zero h
  subst hp
  have h0 : At text ([] : List α) 0 := ⟨Nat.zero_le _, Nat.zero_le _, rfl⟩
  simp [placesTo, List.range_succ, h0]
theorem placesTo_none (text : List α) {p : List α} (h : p.length ≠ 0) : placesTo text p 0 = [] := by
  unfold placesTo
  rw [show 0 + 1 - p.length = 0 by omega]
  rfl
theorem placesTo_hit {text p : List α} {k : Nat} (hk : k < text.length) (h : longest (text.take (k + 1)) p = p.length) : p.length ≤ k + 1 ∧ placesTo text p (k + 1) = placesTo text p k ++ [k + 1 - p.length] := by
  have hs := longest_suf (text.take (k + 1)) p
  have hm : p.length ≤ k + 1 := by
    have := hs.2.1
    rw [h, List.length_take] at this
    omega
  refine ⟨hm, ?_⟩
  have hi : (k + 1 - p.length) + p.length = k + 1 := by omega
  have ha : At text p (k + 1 - p.length) := (at_ends (by omega)).2 (by rw [hi]; exact h)
  unfold placesTo
  rw [show k + 1 + 1 - p.length = (k + 1 - p.length) + 1 by omega, List.range_succ, List.filter_append]
  simp [ha]
theorem placesTo_miss {text p : List α} {k : Nat} (hk : k < text.length) (h : longest (text.take (k + 1)) p ≠ p.length) : placesTo text p (k + 1) = placesTo text p k := by
  unfold placesTo
  by_cases hm : p.length ≤ k + 1
  · have hi : (k + 1 - p.length) + p.length = k + 1 := by omega
    have ha : ¬ At text p (k + 1 - p.length) := fun ha => h (by have := (at_ends (by omega)).1 ha; rwa [hi] at this)
    rw [show k + 1 + 1 - p.length = (k + 1 - p.length) + 1 by omega, List.range_succ, List.filter_append]
    simp [ha]
  · rw [show k + 1 + 1 - p.length = 0 by omega, show k + 1 - p.length = 0 by omega]
theorem placesTo_all (text p : List α) : placesTo text p text.length = places text p := by
  unfold placesTo places
  by_cases hm : p.length ≤ text.length
  · have h1 : List.range (text.length + 1) = List.range (text.length + 1 - p.length) ++ (List.range p.length).map (text.length + 1 - p.length + ·) := by
      rw [← List.range_add]
      congr 1
      omega
    rw [h1, List.filter_append]
    have hz : ((List.range p.length).map (text.length + 1 - p.length + ·)).filter (fun i => decide (At text p i)) = [] := by
      rw [List.filter_eq_nil_iff]
      intro i hi
      obtain ⟨j, _, rfl⟩ := List.mem_map.1 hi
      simp only [decide_eq_true_eq]
      rintro ⟨h2, h3, _⟩
      omega
    rw [hz, List.append_nil]
  · rw [show text.length + 1 - p.length = 0 by omega]
    symm
    rw [List.range_zero, List.filter_nil, List.filter_eq_nil_iff]
    intro i _
    simp only [decide_eq_true_eq]
    rintro ⟨_, h3, _⟩
    omega
theorem placesTo_prefix (text p : List α) {j k : Nat} (h : j ≤ k) : placesTo text p j <+: placesTo text p k := by
  unfold placesTo
  obtain ⟨d, hd⟩ : ∃ d, k + 1 - p.length = (j + 1 - p.length) + d := ⟨(k + 1 - p.length) - (j + 1 - p.length), by omega⟩
  rw [hd, List.range_add, List.filter_append]
  exact List.prefix_append _ _
theorem placesTo_le (text p : List α) {k : Nat} (h : k ≤ text.length) : placesTo text p k <+: places text p := by rw [← placesTo_all]; exact placesTo_prefix text p h
theorem places_zero (text : List α) {p : List α} (h : p.length = 0) : [0] <+: places text p := by rw [← placesTo_zero text h]; exact placesTo_le text p (Nat.zero_le _)
end
end Go.Proofs.YtcipljpalohjiaaDoor
namespace Go.Proofs.YtcipljpalohjiaaDoor
open Go.RowKit

/-- The first k things of p are those of the text from i on. -/
def Agree (text p : List Int) (i k : Nat) : Prop := (text.drop i).take k = p.take k
theorem Agree.next {text p : List Int} {i k : Nat} (h : Agree text p i k) (hk : k < p.length) (hi : i + k < text.length) (e : text[i + k] = p[k]) : Agree text p i (k + 1) := by
  unfold Agree at *
  rw [List.take_succ_eq_append_getElem hk, List.take_succ_eq_append_getElem (by rw [List.length_drop]; omega), h, List.getElem_drop, e]
theorem Agree.no {text p : List Int} {i k : Nat} (hk : k < p.length) (hi : i + k < text.length) (e : text[i + k] ≠ p[k]) : ¬ At text p i := by
  rintro ⟨_, _, h⟩
  apply e
  have h2 : ((text.drop i).take p.length)[k]? = p[k]? := by rw [h]
  rw [List.getElem?_take, if_pos hk, List.getElem?_drop, List.getElem?_eq_getElem hi, List.getElem?_eq_getElem hk] at h2
  injection h2

set_option maxHeartbeats 1000000 in
theorem At_i (A B : Option Addr) (n c m d : Nat) (text p : List Int) (i : Nat) (hi : i ≤ 4294967296) (hlt : text.length ≤ 4294967296) (hlp : p.length ≤ 4294967296) (w : World) (ht : Rd w (.slice A n c) (iv text)) (hp : Rd w (.slice B m d) (iv p)) :
    Calls Tryd.prog 25 #[.slice A n c, .slice B m d, .int .i64 (i : Int)] w fun e w' => e = .returned (.bool (decide (At text p i))) ∧ ∃ n, w' = w.drewN n := by
  obtain ⟨rfl, -, r1⟩ := ht.ints
  obtain ⟨rfl, -, r2⟩ := hp.ints
  have R1 := Lib.hid r1
  have R2 := Lib.hid r2
  clear ht hp r1 r2
  have n0 : decide ((i : Int) < 0) = false := by simp
  by_cases h1 : text.length < i
  · have HF : Hid (decide (At text p i) = false) := Lib.hid (by simp; intro h; have := h.1; omega)
    have q1 : decide (text.length < i) = true := by simp; omega
    clear h1
    go_enter Tryd.func25, Tryd.ntmps25
    go_wp2
    go_ret
    exact ⟨ret_bool HF.out.symm, 0, rfl⟩
  · by_cases h2 : text.length - i < p.length
    · have HF : Hid (decide (At text p i) = false) := Lib.hid (by simp; intro h; have := h.2.1; omega)
      have q1 : decide (text.length < i) = false := by simp; omega
      have q2 : decide ((text.length : Int) - (i : Int) < (p.length : Int)) = true := by simp; omega
      go_enter Tryd.func25, Tryd.ntmps25
      go_wp2
      go_ret
      exact ⟨ret_bool HF.out.symm, 0, rfl⟩
    · have q1 : decide (text.length < i) = false := by simp; omega
      have q2 : decide ((text.length : Int) - (i : Int) < (p.length : Int)) = false := by simp; omega
      go_enter Tryd.func25, Tryd.ntmps25
      go_wp2
      clear q1 q2
      go_loopw [7] (fun j wr => ∃ k n : Nat, k ≤ p.length ∧ j = .int .i64 k ∧ wr = w.drewN n ∧ Agree text p i k) (fun j _ => p.length - (intOf j).toNat)
      case atStart => exact ⟨0, 0, Nat.zero_le _, rfl, rfl, rfl⟩
      case round =>
        obtain ⟨k, nd, hk, rfl, rfl, hag⟩ := hrel
        by_cases hlt : k < p.length
        · obtain ⟨b, o, rfl, x1⟩ := R1.out (by omega)
          obtain ⟨b2, o2, rfl, x2⟩ := R2.out (by omega)
          have y1 := x1 (i + k) (by omega)
          have y2 := x2 k hlt
          have hik : i + k < text.length := by omega
          rw [List.getElem?_eq_getElem hik, Option.getD_some] at y1
          rw [List.getElem?_eq_getElem hlt, Option.getD_some] at y2
          have HY := Lib.hid (hag.next hlt hik)
          have HN := Lib.hid (Agree.no hlt hik)
          generalize text[i + k] = u at *
          generalize p[k] = v at *
          clear x1 x2 hag
          have i1 : (0 : Int) ≤ (i : Int) + (k : Int) := by omega
          have i2 : (i : Int) + (k : Int) < (text.length : Int) := by omega
          have w1 : IntKind.i64.wrap ((i : Int) + (k : Int)) = (i : Int) + (k : Int) := IntWalk.i64_in _ (by omega)
          have w2 : ((i : Int) + (k : Int)).toNat = i + k := by omega
          by_cases huv : u = v
          · have e1 : (u != v) = false := by simpa using huv
            have HA := Lib.hid (HY.out huv)
            clear huv HY HN
            go_wp2
            go_quiet (fail)
            clear w1 w2
            go_wp2
            go_roundw
            case rel => exact ⟨k + 1, _, by omega, by go_num, rfl, HA.out⟩
            case measure => simp [intOf]; omega
          · have e1 : (u != v) = true := by simpa using huv
            have HA : Hid (decide (At text p i) = false) := Lib.hid (by simpa using HN.out huv)
            clear huv HY HN
            go_wp2
            go_quiet (fail)
            clear w1 w2
            go_wp2
            go_ret
            exact ⟨ret_bool HA.out.symm, _, World.drewN_drewN _ _ _⟩
        · obtain rfl : k = p.length := by omega
          have HA : Hid (decide (At text p i) = true) := Lib.hid (by
            simp only [decide_eq_true_eq]
            refine ⟨by omega, by omega, ?_⟩
            unfold Agree at hag
            rwa [List.take_length] at hag)
          clear hag
          go_wp2
          go_ret
          exact ⟨ret_bool HA.out.symm, _, rfl⟩
end Go.Proofs.YtcipljpalohjiaaDoor
namespace Go.Proofs.YtcipljpalohjiaaDoor
open Go.RowKit

/-- A row of numbers that grows. -/
def IntsI (w0 : World) (v : Value) (xs : List Int) (W : World) : Prop :=
  ∃ go, Row W 3 go v (iv xs) ∧ (∀ b, go = some b → w0.heap.size ≤ b) ∧ Below w0.heap.size w0 W
theorem IntsI.form {w0 W : World} {v : Value} {xs : List Int} (h : IntsI w0 v xs W) : ∃ A c, v = .slice A xs.length c := by
  obtain ⟨go, hr, _⟩ := h
  obtain ⟨A, c, e⟩ := hr.form
  exact ⟨A, c, by rw [e, iv_len]⟩
theorem IntsI.nil (w : World) : IntsI w (.slice none 0 0) [] w := ⟨none, Row.nil w _, (fun b e => by cases e), Below.refl _ _⟩
theorem IntsI.drewN {w0 W : World} {v : Value} {xs : List Int} (h : IntsI w0 v xs W) (n : Nat) : IntsI w0 v xs (W.drewN n) := by
  obtain ⟨go, hr, hg, hb⟩ := h
  exact ⟨go, hr, hg, ⟨hb.os, hb.tape, hb.output, hb.size, hb.block⟩⟩
theorem IntsI.alloc {w0 W : World} {v : Value} {xs : List Int} (h : IntsI w0 v xs W) (o : Obj) : IntsI w0 v xs (W.alloc o) := by
  obtain ⟨go, hr, hg, hb⟩ := h
  exact ⟨go, hr.alloc o, hg, hb.alloc hb.size o⟩
theorem IntsI.below {w0 W W' : World} {v : Value} {xs : List Int} (h : IntsI w0 v xs W) (hb' : Below W.heap.size W W') : IntsI w0 v xs W' := by
  obtain ⟨go, hr, hg, hb⟩ := h
  exact ⟨go, hr.below hb' (fun b e => hr.lt e), hg, hb.trans (hb'.mono hb.size)⟩
theorem IntsI.grown {w0 W W' : World} {v' : Value} {go go' : Option Nat} {xs ys : List Int} (hg : ∀ b, go = some b → w0.heap.size ≤ b) (hb : Below w0.heap.size w0 W)
    (hr' : Row W' 3 go' v' (iv xs ++ iv ys)) (hgr : W.grownBy W' go) (hg' : go' = go ∨ go' = some W.heap.size) : IntsI w0 v' (xs ++ ys) W' := by
  refine ⟨go', by rw [iv_append]; exact hr', fun b e => ?_, hb.grown hgr hb.size hg⟩
  rcases hg' with rfl | rfl
  · exact hg b e
  · cases e; exact hb.size
theorem IntsI.to {w0 W : World} {A : Option Addr} {n c : Nat} {xs : List Int} (h : IntsI w0 (.slice A n c) xs W) : IntsTo w0 xs (.returned (.slice A n c)) W := by
  obtain ⟨go, hr, hg, hb⟩ := h
  obtain ⟨rfl, -⟩ := hr.rd.ints
  exact ⟨A, c, go, rfl, hr, hg, hb⟩

/-- The places below k. -/
def upTo (text p : List Int) (k : Nat) : List Nat := (List.range k).filter (fun i => decide (At text p i))
theorem upTo_yes {text p : List Int} {k : Nat} (h : At text p k) : upTo text p (k + 1) = upTo text p k ++ [k] := by simp [upTo, List.range_succ, h]
theorem upTo_no {text p : List Int} {k : Nat} (h : ¬ At text p k) : upTo text p (k + 1) = upTo text p k := by simp [upTo, List.range_succ, h]
theorem upTo_len (text p : List Int) (k : Nat) : (upTo text p k).length ≤ k := by
  have := List.length_filter_le (fun i => decide (At text p i)) (List.range k)
  rwa [List.length_range] at this


set_option maxRecDepth 100000 in
set_option maxHeartbeats 1000000 in
theorem RAll_i (A B : Option Addr) (n c m d : Nat) (text p : List Int) (hlt : text.length ≤ 1048576) (hlp : p.length ≤ 1048576) (w : World) (ht : Rd w (.slice A n c) (iv text)) (hp : Rd w (.slice B m d) (iv p)) :
    Calls Tryd.prog 20 #[.slice A n c, .slice B m d] w (IntsTo w (ni (places text p))) := by
  obtain ⟨i0, hi0, hz0, hz1, hz2⟩ := info_parts int_info
  obtain ⟨rfl, -⟩ := ht.ints
  have HA : Hid (∀ k, k ≤ text.length → ∀ W, Below w.heap.size w W → Calls Tryd.prog 25 #[.slice A text.length c, .slice B m d, .int .i64 ((k : Nat) : Int)] W fun e w' => e = .returned (.bool (decide (At text p k))) ∧ ∃ n, w' = W.drewN n) :=
    Lib.hid fun k hk W hb => At_i A B text.length c m d text p k (by omega) (by omega) (by omega) W (ht.kept hb) (hp.kept hb)
  clear ht hp
  go_enter Tryd.func20, Tryd.ntmps20
  go_wp2
  go_loopw [5, 6] (fun v i wr => ∃ k : Nat, k ≤ text.length + 1 ∧ i = .int .i64 k ∧ Hid (IntsI w v (ni (upTo text p k)) wr)) (fun _ i _ => text.length + 1 - (intOf i).toNat)
  case atStart => exact ⟨0, Nat.zero_le _, rfl, Lib.hid (IntsI.nil w)⟩
  case round =>
    obtain ⟨k, hk, rfl, HI⟩ := hrel
    obtain ⟨A1, c1, rfl⟩ := HI.out.form
    have hul := upTo_len text p k
    rw [ni_len] at HI ⊢
    by_cases hlt : k ≤ text.length
    · have HC := Lib.hid (HA.out k hlt wr HI.out.choose_spec.2.2)
      by_cases hat : At text p k
      · have HN := Lib.hid (upTo_yes hat)
        rw [show decide (At text p k) = true by simpa using hat] at HC
        clear hat
        go_wp2_with fail
        refine HC.out.mono ?_
        rintro e w1 ⟨rfl, nd, hw1⟩
        have HI1 : Hid (IntsI w (.slice A1 (upTo text p k).length c1) (ni (upTo text p k)) w1) := Lib.hid (by rw [hw1]; exact HI.out.drewN nd)
        clear hw1 HC HI
        obtain ⟨go, hr, hg, hb⟩ := HI1.out
        have X := Lib.hid (And.intro hr (And.intro hg hb))
        clear hr hg hb HI1
        go_wp2_with (at_builtin; refine wpList_append_row _ rfl (.tmp 19) (.tmp 21) _ rfl 3 i0 _ 8 Tryd.underlying46 hi0 hz0 hz1 hz2 rfl go _ (iv (ni (upTo text p k))) rfl (X.out.1.alloc _) _ [.int .i64 (k : Int)] rfl (Rd.lit w1 3 #[.int .i64 (k : Int)] 1 rfl (by omega) (by omega) (by simp [Value.oneCell'])) (by rw [iv_len, ni_len]; simp only [maxLen]; simp; omega) (by rw [iv_len, ni_len]; simp; omega) ?_; intro B' d' w7 gn hrow' hgr hgn; simp only [iv_len, ni_len] at hrow' ⊢; have Y := Lib.hid (And.intro hrow' (And.intro hgr hgn)); clear hrow' hgr hgn)
        go_roundw
        case rel =>
          refine ⟨k + 1, by omega, by go_num, Lib.hid ?_⟩
          rw [HN.out, ni_snoc]
          have := IntsI.grown (w0 := w) (xs := ni (upTo text p k)) (ys := [(k : Int)]) X.out.2.1 (X.out.2.2.alloc X.out.2.2.size _) Y.out.1 Y.out.2.1 Y.out.2.2
          simpa using this
        case measure => simp [intOf]; omega
      · have HN := Lib.hid (upTo_no hat)
        rw [show decide (At text p k) = false by simpa using hat] at HC
        clear hat
        go_wp2_with fail
        refine HC.out.mono ?_
        rintro e w1 ⟨rfl, nd, hw1⟩
        have HI1 : Hid (IntsI w (.slice A1 (upTo text p k).length c1) (ni (upTo text p k)) w1) := Lib.hid (by rw [hw1]; exact HI.out.drewN nd)
        clear hw1 HC HI
        go_wp2
        go_roundw
        case rel => exact ⟨k + 1, by omega, by go_num, Lib.hid (by rw [HN.out]; exact HI1.out)⟩
        case measure => simp [intOf]; omega
    · obtain rfl : k = text.length + 1 := by omega
      go_wp2
      go_ret
      exact HI.out.to
end Go.Proofs.YtcipljpalohjiaaDoor
