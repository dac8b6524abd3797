/-
  What all of stage 15's laws lean on: alive, great, hit.
  Conditions: those of each theorem.
-/
import Derived.Test.YtcipljpalohjiaaDoorMtE
import Derived.Test.YtcipljpalohjiaaDoorConst
import Derived.Test.YtcipljpalohjiaaDoorRowAt
import Derived.Lib.SlBytesConst
import Derived.Laws.StructEq
import Derived.Deep.DeepCutAuto
import Derived.Deep.CutBlock
namespace Go.Proofs.YtcipljpalohjiaaDoor
open Go.RowKit

/-- Branches side by side in a new block. -/
theorem brs_new (w : World) (l : List Brc) (C : Array Value) (n : Nat) (hn : n = l.length) (h0 : 0 < n) (hC : C.toList = l.flatMap fun x => [.int .i64 x.kind, .string (str x.pat)]) : Brs (fun x => x = w.heap.size) (w.alloc (.cells C 45)) (.slice (some ⟨w.heap.size, 0, none⟩) n n) l := by
  subst hn
  refine ⟨_, _, rfl, Nat.le_refl _, fun _ => ⟨_, 0, rfl, rfl, fun j x hj => ?_⟩⟩
  have hcell : ∀ (l : List Brc) (j : Nat) (x : Brc), l[j]? = some x → (l.flatMap fun x => [Value.int .i64 x.kind, .string (str x.pat)])[j * 2]? = some (.int .i64 x.kind) ∧ (l.flatMap fun x => [Value.int .i64 x.kind, .string (str x.pat)])[j * 2 + 1]? = some (.string (str x.pat)) := by
    intro l
    induction l with
    | nil => intro j x h; simp at h
    | cons y l ih =>
      intro j x h
      cases j with
      | zero => simp at h; subst h; simp
      | succ j =>
        have := ih j x (by simpa using h)
        rw [List.flatMap_cons, show (j + 1) * 2 = j * 2 + 2 by omega]
        simpa using this
  obtain ⟨k0, k1⟩ := hcell l j x hj
  have hb := Blk.new w 45 C
  refine ⟨?_, ?_⟩
  · rw [Nat.zero_add, hb.cell, ← Array.getElem?_toList, hC]; exact k0
  · rw [Nat.zero_add, hb.cell, ← Array.getElem?_toList, hC]; exact k1

theorem eg_things : thingsS [97, 42] = some [oneT 97, starT] := by simp [thingsS]
theorem eg1_first : checkS 9 [⟨0, [98]⟩, ⟨1, [97, 42]⟩] = 0 ∧ firstHit 9 [120, 97, 98] [⟨0, [98]⟩, ⟨1, [97, 42]⟩] = some (1, 1, 2) := by
  have hr : checkS 9 [⟨0, [98]⟩, ⟨1, [97, 42]⟩] = 0 := by
    simp [checkS, wrongsB, wrongB, errS, eg_things]
  refine ⟨hr, first_is (by simp) ?_ fun k hk => ?_⟩
  · simp [hitS, hitFrom, fromS, endsB, eg_things, show spanS [oneT 97, starT] [120, 97] 9 = some 1 by decide]
  · have hk2 : k = 0 ∨ k = 1 := by omega
    rcases hk2 with rfl | rfl
    · simp [hitS, hitFrom, fromS, endsB, eg_things, show spanS [oneT 97, starT] [] 9 = none by decide]
    · simp [hitS, hitFrom, fromS, endsB, eg_things, show spanS [oneT 97, starT] [120] 9 = none by decide]
theorem eg2_first : checkS 9 [⟨0, [97, 98]⟩, ⟨0, [98]⟩] = 0 ∧ firstHit 9 [120, 97, 98] [⟨0, [97, 98]⟩, ⟨0, [98]⟩] = some (0, 1, 3) := by
  refine ⟨by simp [checkS, wrongsB, wrongB], first_is (by simp) ?_ fun k hk => ?_⟩
  · simp [hitS, hitFrom, fromS, endsB]
  · have hk2 : k = 0 ∨ k = 1 ∨ k = 2 := by omega
    rcases hk2 with rfl | rfl | rfl
    · simp [hitS, hitFrom, fromS, endsB]
    · simp [hitS, hitFrom, fromS, endsB]
    · simp [hitS, hitFrom, fromS, endsB]

/-- Are they more than are looked at? -/
def sumP (l : List Brc) : Nat := (l.map fun x => min x.pat.length 100).sum
def bigB (b : List Nat) (l : List Brc) : Bool := decide (60 < b.length) || decide (70 < l.length) || decide (300 < sumP l)
theorem sum_take {l : List Brc} {i : Nat} {x : Brc} (h : l[i]? = some x) : sumP (l.take (i + 1)) = sumP (l.take i) + min x.pat.length 100 := by
  rw [List.take_add_one, h]; simp [sumP]
theorem sum_le (l : List Brc) : sumP l ≤ l.length * 100 := by
  induction l with
  | nil => simp [sumP]
  | cons x l ih => simp only [sumP, List.map_cons, List.sum_cons, List.length_cons] at *; omega
set_option maxRecDepth 100000 in
set_option maxHeartbeats 2000000 in
theorem great_is {S : Nat → Prop} (A : Option Addr) (c : Nat) (b : List Nat) (v : Value) (l : List Brc) (w : World) (hbn : b.length ≤ 9223372036854775807) (h : Brs S w v l) (hx : ∀ x ∈ l, BrIn x) (hl : l.length ≤ 9223372036854775807) :
    Calls Tryd.prog 10 #[.slice A b.length c, v] w fun e w' => e = .returned (.bool (bigB b l)) ∧ Below w.heap.size w w' := by
  obtain ⟨B, d, rfl, -⟩ := h.form
  have HB := Lib.hid h
  have HX := Lib.hid hx
  clear h hx
  by_cases h1 : 60 < b.length
  · have HR : Hid (bigB b l = true) := Lib.hid (by unfold bigB; rw [decide_eq_true h1]; rfl)
    go_enter Tryd.func10, Tryd.ntmps10
    go_wp2_with fail
    go_ret
    exact ⟨by rw [HR.out]; rfl, Below.refl _ w⟩
  by_cases h2 : 70 < l.length
  · have HR : Hid (bigB b l = true) := Lib.hid (by unfold bigB; rw [decide_eq_true h2, Bool.or_true]; rfl)
    go_enter Tryd.func10, Tryd.ntmps10
    go_wp2_with fail
    go_ret
    exact ⟨by rw [HR.out]; rfl, Below.refl _ w⟩
  have HR : Hid (bigB b l = decide (300 < sumP l)) := Lib.hid (by unfold bigB; rw [decide_eq_false h1, decide_eq_false h2]; rfl)
  have h3 : l.length ≤ 70 := by omega
  go_enter Tryd.func10, Tryd.ntmps10
  go_wp2_with fail
  go_loopw [5, 18] (fun u iv wr => ∃ (s i : Nat), i ≤ l.length ∧ u = .int .i64 (s : Nat) ∧ iv = .int .i64 (i : Nat) ∧ s ≤ i * 100 ∧ Hid (Below w.heap.size w wr) ∧ Hid (s = sumP (l.take i))) (fun _ iv _ => l.length - (intOf iv).toNat)
  case atStart => exact ⟨0, 0, by omega, rfl, rfl, by omega, Lib.hid (Below.refl _ w), Lib.hid rfl⟩
  case round =>
    obtain ⟨s, i, hi, rfl, rfl, hs, HW, HS⟩ := hrel
    by_cases hlt : i < l.length
    · obtain ⟨x, hx⟩ : ∃ x, l[i]? = some x := ⟨_, List.getElem?_eq_getElem hlt⟩
      obtain ⟨bb, o, rfl, -, c0, c1⟩ := (SlI.below brc_ok HB.out HW.out).at_ hx
      have hxn := (HX.out x (List.mem_of_getElem? hx)).2.1
      have hsz := str_len x.pat
      have HN := Lib.hid (sum_take hx)
      have X2 := Lib.hid (HW.out.alloc HW.out.size (.cells #[.int .i64 x.kind, .string (str x.pat)] 45))
      obtain ⟨m, hm⟩ : ∃ m : Nat, m = min x.pat.length 100 := ⟨_, rfl⟩
      have e1 : min (x.pat.length : Int) 100 = (m : Int) := by omega
      have hm2 : m ≤ 100 := by omega
      have HM := Lib.hid hm
      clear hx hm
      go_wp2_with fail
      go_roundw
      case rel => exact ⟨s + m, i + 1, by omega, by go_num, by go_num, by omega, X2, Lib.hid (by rw [HN.out, ← HS.out, HM.out])⟩
      case measure => simp [intOf]; omega
    · obtain rfl : i = l.length := by omega
      rw [List.take_length] at HS
      by_cases h4 : 300 < s
      · have h4' : (300 : Int) < (s : Int) := by omega
        go_wp2_with fail
        go_ret
        exact ⟨by rw [HR.out, ← HS.out, decide_eq_true h4]; rfl, HW.out⟩
      · have h4' : ¬ (300 : Int) < (s : Int) := by omega
        go_wp2_with fail
        go_ret
        exact ⟨by rw [HR.out, ← HS.out, decide_eq_false h4]; rfl, HW.out⟩

theorem br_small {p : List Nat} {k : Int} (h : ∀ d ∈ p, d < 256) (hl : p.length ≤ 3) (hk : k = 0 ∨ k = 1) : BrIn ⟨k, p⟩ := ⟨h, by show p.length ≤ _; omega, by show _ ≤ k; omega, by show k ≤ _; omega⟩
set_option maxRecDepth 100000 in
set_option maxHeartbeats 2000000 in
theorem alive_true {w0 : World} [tz : TzW w0] {w : World} (hw0 : Below w0.heap.size w0 w) : Calls Tryd.prog 9 #[] w fun e w' => e = .returned (.bool true) ∧ Below w.heap.size w w' := by
  have mk : ∀ (W : World) (l : List Brc) (C : Array Value), l.length = 2 → C.toList = (l.flatMap fun x => [.int .i64 x.kind, .string (str x.pat)]) → (∀ x ∈ l, BrIn x) → Tz W →
      Hid (Calls Tryd.prog 18 #[.int .i64 9, .slice (some ⟨W.heap.size, 0, none⟩) 3 3, .slice (some ⟨W.heap.size + 1, 0, none⟩) 2 2] ((W.alloc (.cells #[.int .u8 120, .int .u8 97, .int .u8 98] 5 (3, 4))).alloc (.cells C 45)) fun e w' => e = .returned (firstE (if checkS 9 l = 0 then firstHit 9 [120, 97, 98] l else none) (checkS 9 l)) ∧ Below ((W.alloc (.cells #[.int .u8 120, .int .u8 97, .int .u8 98] 5 (3, 4))).alloc (.cells C 45)).heap.size ((W.alloc (.cells #[.int .u8 120, .int .u8 97, .int .u8 98] 5 (3, 4))).alloc (.cells C 45)) w') := fun W l C h2 hC hx hs => Lib.hid (by
    have hr := (Rd.ofBlk (heap_alloc_new W (.cells #[.int .u8 120, .int .u8 97, .int .u8 98] 5 (3, 4))) [120, 97, 98] rfl).alloc (.cells C 45)
    have hb := brs_new (W.alloc (.cells #[.int .u8 120, .int .u8 97, .int .u8 98] 5 (3, 4))) l C 2 h2.symm (by omega) hC
    rw [World.size_alloc] at hb
    exact First_is (b := [120, 97, 98]) 9 _ 3 _ l _ (hs.below (((Below.refl _ W).alloc (Nat.le_refl _) _).alloc (by simp) _)) hr (by simp) (by simp) hb hx)
  have M1 := mk w [⟨0, [98]⟩, ⟨1, [97, 42]⟩] #[.int .i64 0, .string ⟨#[98]⟩, .int .i64 1, .string ⟨#[97, 42]⟩] rfl rfl (by intro x hx; simp at hx; rcases hx with rfl | rfl <;> exact br_small (by simp) (by simp) (by simp)) (tz.out.below hw0)
  rw [eg1_first.1, if_pos rfl, eg1_first.2, show firstE (some (1, 1, 2)) 0 = .tuple #[.agg #[.int .i64 1, .int .i64 1, .int .i64 2], .bool true, .int .i64 0] from rfl] at M1
  have HM := Lib.hid mk
  have X0 : Hid (Below w.heap.size w ((w.alloc (.cells #[.int .u8 120, .int .u8 97, .int .u8 98] 5 (3, 4))).alloc (.cells #[.int .i64 0, .string ⟨#[98]⟩, .int .i64 1, .string ⟨#[97, 42]⟩] 45))) := Lib.hid (((Below.refl _ w).alloc (Nat.le_refl _) _).alloc (by simp) _)
  clear mk
  have kc := fun (W : World) (C : Array Value) (n c : Nat) => Lib.run_convert_bytes_const (P := Tryd.prog) W 22 5 C n c Tryd.underlying22 Tryd.underlying5
  go_enter Tryd.func9, Tryd.ntmps9
  go_wp2_with fail
  refine M1.out.mono ?_
  rintro e w1 ⟨rfl, hb⟩
  have X1 := Lib.hid (X0.out.trans (hb.mono X0.out.size))
  clear hb X0 M1
  have B1 := Lib.hid (Blk.new w1 34 #[.int .i64 1, .int .i64 1, .int .i64 2])
  have M2 := HM.out (w1.alloc (.cells #[.int .i64 1, .int .i64 1, .int .i64 2] 34)) [⟨0, [97, 98]⟩, ⟨0, [98]⟩] #[.int .i64 0, .string ⟨#[97, 98]⟩, .int .i64 0, .string ⟨#[98]⟩] rfl rfl (by intro x hx; simp at hx; rcases hx with rfl | rfl <;> exact br_small (by simp) (by simp) (by simp)) ((tz.out.below hw0).below (X1.out.alloc X1.out.size _))
  rw [eg2_first.1, if_pos rfl, eg2_first.2, show firstE (some (0, 1, 3)) 0 = .tuple #[.agg #[.int .i64 0, .int .i64 1, .int .i64 3], .bool true, .int .i64 0] from rfl] at M2
  have X2 := Lib.hid (X1.out.alloc X1.out.size (.cells #[.int .i64 1, .int .i64 1, .int .i64 2] 34))
  clear HM
  go_upto_region 2 with (fail)
  generalize hP : w1.heap.size = P at *
  generalize World.alloc w1 _ = w2 at *
  have X3 : Hid (Below w.heap.size w ((w2.alloc (.cells #[.int .u8 120, .int .u8 97, .int .u8 98] 5 (3, 4))).alloc (.cells #[.int .i64 0, .string ⟨#[97, 98]⟩, .int .i64 0, .string ⟨#[98]⟩] 45))) := Lib.hid ((X2.out.alloc X2.out.size _).alloc (Nat.le_trans X2.out.size (by simp)) _)
  have B3 : Hid (Blk ((w2.alloc (.cells #[.int .u8 120, .int .u8 97, .int .u8 98] 5 (3, 4))).alloc (.cells #[.int .i64 0, .string ⟨#[97, 98]⟩, .int .i64 0, .string ⟨#[98]⟩] 45)) P 34 #[.int .i64 1, .int .i64 1, .int .i64 2]) := Lib.hid ((B1.out.alloc _).alloc _)
  have B3l := Lib.hid B3.out.lt
  clear X2 X1 B1 hP
  go_wp2_with fail
  refine M2.out.mono ?_
  rintro e w3 ⟨rfl, hb⟩
  have X4 := Lib.hid (X3.out.trans (hb.mono X3.out.size))
  have b4 := B3.out.below hb B3l.out
  have hne : P ≠ w3.heap.size := by have := b4.lt; omega
  have X5 := Lib.hid (X4.out.alloc X4.out.size (.cells #[.int .i64 0, .int .i64 1, .int .i64 3] 34))
  have c0 := (b4.alloc (.cells #[.int .i64 0, .int .i64 1, .int .i64 3] 34)).cell 0
  have c1 := (b4.alloc (.cells #[.int .i64 0, .int .i64 1, .int .i64 3] 34)).cell 1
  have c2 := (b4.alloc (.cells #[.int .i64 0, .int .i64 1, .int .i64 3] 34)).cell 2
  have hlt := b4.lt
  simp only [List.getElem?_toArray, List.getElem?_cons_zero, List.getElem?_cons_succ] at c0 c1 c2
  clear hb X3 B3 B3l M2 b4 X4
  go_wp2_with fail
  go_ret
  exact ⟨rfl, X5.out⟩

set_option maxRecDepth 100000 in
set_option maxHeartbeats 1000000 in
theorem hit_some (i : Nat) (f e : Int) (w : World) : Calls Tryd.prog 14 #[.int .i64 (i : Nat), .int .i64 f, .int .i64 e] w fun r w' => r = .returned (.tuple #[.agg #[.int .i64 (i : Nat), .int .i64 f, .int .i64 e], .bool true]) ∧ Below w.heap.size w w' := by
  have q : ¬ ((i : Int) < 0) := by omega
  have b1 := Blk.new w 34 #[.int .i64 (i : Nat), .int .i64 f, .int .i64 e]
  have c0 := b1.cell 0
  have c1 := b1.cell 1
  have c2 := b1.cell 2
  simp only [List.getElem?_toArray, List.getElem?_cons_zero, List.getElem?_cons_succ] at c0 c1 c2
  have X := Lib.hid ((Below.refl _ w).alloc (Nat.le_refl _) (.cells #[.int .i64 (i : Nat), .int .i64 f, .int .i64 e] 34))
  clear b1
  go_enter Tryd.func14, Tryd.ntmps14
  go_wp2_with fail
  refine bodyPost_ret (v := .tuple #[.agg #[.int .i64 (i : Nat), .int .i64 f, .int .i64 e], .bool true]) (by simp [results, Tryd.results14, go_sem, c0, c1, c2]) rfl ?_
  exact ⟨rfl, X.out⟩
set_option maxRecDepth 100000 in
set_option maxHeartbeats 1000000 in
theorem hit_none (f e : Int) (w : World) : Calls Tryd.prog 14 #[.int .i64 (-1), .int .i64 f, .int .i64 e] w fun r w' => r = .returned (.tuple #[.agg #[.int .i64 0, .int .i64 0, .int .i64 0], .bool false]) ∧ Below w.heap.size w w' := by
  have b1 := Blk.new w 34 #[.int .i64 0, .int .i64 0, .int .i64 0]
  have c0 := b1.cell 0
  have c1 := b1.cell 1
  have c2 := b1.cell 2
  simp only [List.getElem?_toArray, List.getElem?_cons_zero, List.getElem?_cons_succ] at c0 c1 c2
  have X := Lib.hid ((Below.refl _ w).alloc (Nat.le_refl _) (.cells #[.int .i64 0, .int .i64 0, .int .i64 0] 34))
  clear b1
  go_enter Tryd.func14, Tryd.ntmps14
  go_wp2_with fail
  refine bodyPost_ret (v := .tuple #[.agg #[.int .i64 0, .int .i64 0, .int .i64 0], .bool false]) (by simp [results, Tryd.results14, go_sem, c0, c1, c2]) rfl ?_
  exact ⟨rfl, X.out⟩

/-! ### A matcher since world w0 -/
section
variable {b n : Nat} {l : List Brc} {came : List Nat} {N : Nat → Prop} {w0 w : World}
theorem start_1 (h : Has (MatT b n l came) N w0 w) : Calls Tryd.prog 15 #[.pointer (some ⟨b, 0, none⟩)] w fun e w' => e = .returned (hitE (hitS (n : Nat) [] l) 0) ∧ Has (MatT b n l came) N w0 w' ∧ Stay N w w' := h.callM fun _ hm => Start_is hm
end
section
variable {b n : Nat} {l : List Brc} {came : List Nat} {N : Nat → Prop} {w0 w : World} [tz : TzW w0]
theorem new_m {S : Nat → Prop} (n : Nat) (v : Value) (l : List Brc) (hw : Below w0.heap.size w0 w) (h : Brs S w v l) (hx : ∀ x ∈ l, BrIn x) (hc : checkS (n : Nat) l = 0) :
    Calls Tryd.prog 11 #[.int .i64 (n : Nat), v] w fun e w' => ∃ b, e = .returned (.tuple #[.pointer (some ⟨b, 0, none⟩), .int .i64 0]) ∧ Has (MatT b n l []) (fun _ => False) w0 w' := by
  refine (New_ok n v l w (tz.out.below hw) h hx hc).mono ?_
  rintro e w' ⟨b, F, he, hm, hF, hb⟩
  exact ⟨b, he, Has.made hw hm hF hb⟩
theorem feed_1 (h : Has (MatT b n l came) N w0 w) (c : Nat) (hc : c < 256) (hm : came.length ≤ 1048576) : Calls Tryd.prog 16 #[.pointer (some ⟨b, 0, none⟩), .int .u8 (c : Nat)] w fun e w' => e = .returned (hitE (hitS (n : Nat) (came ++ [c]) l) (came.length + 1)) ∧ Has (MatT b n l (came ++ [c])) N w0 w' ∧ Stay N w w' := h.callM fun _ h' => Feed_is h' (tz.out.below h.below) c hc (by omega)
theorem reset_1 (h : Has (MatT b n l came) N w0 w) : Calls Tryd.prog 17 #[.pointer (some ⟨b, 0, none⟩)] w fun e w' => e = .returned (.tuple #[]) ∧ Has (MatT b n l []) N w0 w' ∧ Stay N w w' := h.callM fun _ h' => Reset_is h' (tz.out.below h.below)
end
end Go.Proofs.YtcipljpalohjiaaDoor
