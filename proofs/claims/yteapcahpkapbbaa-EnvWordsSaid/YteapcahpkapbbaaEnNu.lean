/-
  env's number, Number.
  Conditions: at most 9223372036854775807 bytes.
-/
import Derived.Test.YteapcahpkapbbaaEnRefN
import Derived.Test.YteapcahpkapbbaaStrLib
import Derived.Test.YteapcahpkapbbaaShelf
import Derived.Test.YteapcahpkapbbaaRet
namespace Go.Proofs.Yteapcahpkapbbaa
open Go.RowKit

/-- The number that a text is, if it is one. -/
def numI (s : List Nat) : Option Int :=
  let d := if s.head? = some 45 then s.drop 1 else s
  if s = [48] then some 0
  else if d.length < 1 ∨ 9 < d.length ∨ d.head? = some 48 then none
  else if d.all digitB = true then some (if s.head? = some 45 then -(valD d : Int) else (valD d : Int)) else none
theorem num_of (s : List Nat) (lo hi : Int) : numS s lo hi = match numI s with | none => (4, 0) | some n => if n < lo ∨ hi < n then (3, 0) else (0, n) := by
  unfold numS numI
  by_cases h : s = [48]
  · subst h
    simp [digitB, valD]
  · simp only [h, if_false, ne_eq, not_false_eq_true, true_and]
    by_cases h1 : (if s.head? = some 45 then List.drop 1 s else s).length < 1 ∨ 9 < (if s.head? = some 45 then List.drop 1 s else s).length ∨ (if s.head? = some 45 then List.drop 1 s else s).head? = some 48
    · rw [if_pos (.inl h1), if_pos h1]
    · rw [if_neg h1]
      by_cases h2 : (if s.head? = some 45 then List.drop 1 s else s).all digitB = true
      · rw [if_neg, if_pos h2]
        rintro (h3 | h3)
        · exact h1 h3
        · rw [h2] at h3; cases h3
      · rw [if_pos (.inr (by simpa using h2)), if_neg h2]
/-- What is behind a sign. -/
theorem cut_sign {s : List Nat} (hs : ∀ c ∈ s, c < 256) (W : World) : Calls Try.prog 41 #[.string (str s), .string ⟨#[45]⟩] W fun e w' => e = .returned (.tuple #[.string (str (if s.head? = some 45 then s.drop 1 else s)), .bool (decide (s.head? = some 45))]) ∧ w' = W := by
  have h := Try.strings_CutPrefix (str s) ⟨#[45]⟩ W
  have e2 : Lib.hasPrefix (str s).data.toList (⟨#[45]⟩ : ByteArray).data.toList = decide (s.head? = some 45) := by
    rw [str_list]
    cases s with
    | nil => rfl
    | cons c t =>
      show (List.isPrefixOf [45] (UInt8.ofNat c :: _)) = _
      rw [List.isPrefixOf]
      have hb := u8_beq (a := 45) (c := c) (by omega) (hs c (by simp))
      rw [show (45 : UInt8) = UInt8.ofNat 45 from rfl, hb]
      simp [eq_comm]
  have e1 : (⟨(Lib.trimPrefix (str s).data.toList (⟨#[45]⟩ : ByteArray).data.toList).toArray⟩ : ByteArray) = str (if s.head? = some 45 then s.drop 1 else s) := by
    unfold Lib.trimPrefix
    rw [e2, str_list]
    by_cases h45 : s.head? = some 45
    · rw [decide_eq_true h45, if_pos rfl, if_pos h45, ← str_toList, List.map_drop]; rfl
    · rw [decide_eq_false h45, if_neg h45]
      simp only [Bool.false_eq_true, if_false]
      exact str_toList s
  rw [e1, e2] at h
  exact h

/-- What number tells. -/
def numR (o : Option Int) : Value := match o with | some n => .tuple #[.int .i64 n, .bool true] | none => .tuple #[.int .i64 0, .bool false]

set_option maxRecDepth 100000 in
set_option maxHeartbeats 4000000 in
theorem number_is (s : List Nat) (hs : ∀ c ∈ s, c < 256) (hn : s.length ≤ 9223372036854775807) (w : World) :
    Calls Try.prog 33 #[.string (str s)] w fun e w' => e = .returned (numR (numI s)) ∧ Below w.heap.size w w' := by
  have hsz := str_len s
  by_cases h48 : s = [48]
  · have n48 : (str s).toList = [48] := (is48 hs).2 h48
    have HN : Hid (numI s = some 0) := Lib.hid (by rw [h48]; rfl)
    clear h48
    go_enter Try.func33, Try.ntmps33
    go_wp2_with fail
    go_ret2
    exact ⟨by rw [HN.out]; rfl, Below.refl _ _⟩
  have n48 : ((str s).toList = [48]) = False := eq_false fun e => h48 ((is48 hs).1 e)
  have n48' : ((str s).toList == [48]) = false := beq_eq_false_iff_ne.2 fun e => h48 ((is48 hs).1 e)
  have HCP := Lib.hid (cut_sign hs w)
  obtain ⟨D, hD⟩ : ∃ D, D = if s.head? = some 45 then s.drop 1 else s := ⟨_, rfl⟩
  have hDm : ∀ c ∈ D, c < 256 := by
    intro c hc
    rw [hD] at hc
    split at hc
    · exact hs c (List.mem_of_mem_drop hc)
    · exact hs c hc
  have hDn : D.length ≤ 9223372036854775807 := by
    rw [hD]
    split
    · rw [List.length_drop]; omega
    · exact hn
  have HNI : Hid (numI s = if D.length < 1 ∨ 9 < D.length ∨ D.head? = some 48 then none else if D.all digitB = true then some (if s.head? = some 45 then -(valD D : Int) else (valD D : Int)) else none) := Lib.hid (by unfold numI; rw [← hD, if_neg h48])
  rw [← hD] at HCP
  obtain ⟨bn, hbn⟩ : ∃ bn, bn = decide (s.head? = some 45) := ⟨_, rfl⟩
  have HNB : Hid (bn = decide (s.head? = some 45)) := Lib.hid hbn
  rw [← hbn] at HCP
  have hDz := str_len D
  have hbq := str_beq (l := D) (m := []) hDm (by simp)
  rw [show (str []).toList = [] by rw [ByteArray.toList_eq]; rfl] at hbq
  have HDM := Lib.hid hDm
  clear h48 hD hbn hs hDm
  by_cases h0 : D.length = 0
  · obtain rfl := List.length_eq_zero_iff.1 h0
    have HN : Hid (numI s = none) := Lib.hid (by rw [HNI.out, if_pos (.inl (by simp))])
    have he : ((str []).toList = []) := by rw [ByteArray.toList_eq]; rfl
    clear h0 hbq
    go_enter Try.func33, Try.ntmps33
    go_wp2_with fail
    refine HCP.out.mono ?_
    rintro e w1 ⟨rfl, rfl⟩
    go_wp2_with fail
    go_ret2
    exact ⟨by rw [HN.out]; rfl, Below.refl _ _⟩
  have he : ((str D).toList == []) = false := by
    rw [hbq]; exact decide_eq_false fun e => h0 (by rw [e]; rfl)
  have he' : ((str D).toList = []) = False := eq_false fun e => by rw [e] at he; cases he
  clear hbq
  by_cases h9 : 9 < D.length
  · have d1 : decide ((9 : Int) < (D.length : Int)) = true := decide_eq_true (by omega)
    have HN : Hid (numI s = none) := Lib.hid (by rw [HNI.out, if_pos (.inr (.inl h9))])
    clear h0 h9
    go_enter Try.func33, Try.ntmps33
    go_wp2_with fail
    refine HCP.out.mono ?_
    rintro e w1 ⟨rfl, rfl⟩
    go_wp2_with fail
    go_ret2
    exact ⟨by rw [HN.out]; rfl, Below.refl _ _⟩
  have d1 : decide ((9 : Int) < (D.length : Int)) = false := decide_eq_false (by omega)
  obtain ⟨c0, hc0⟩ : ∃ c, D[0]? = some c := ⟨_, List.getElem?_eq_getElem (by omega)⟩
  obtain ⟨hk0, hx0⟩ := str_at HDM.out hc0
  have hh : D.head? = some c0 := by rw [List.head?_eq_getElem?]; exact hc0
  by_cases hz : c0 = 48
  · subst hz
    have HN : Hid (numI s = none) := Lib.hid (by rw [HNI.out, if_pos (.inr (.inr hh))])
    clear h0 h9 hc0 hh
    go_enter Try.func33, Try.ntmps33
    go_wp2_with fail
    refine HCP.out.mono ?_
    rintro e w1 ⟨rfl, rfl⟩
    go_wp2_with fail
    go_ret2
    exact ⟨by rw [HN.out]; rfl, Below.refl _ _⟩
  have q48 : ((c0 : Int) == 48) = false := beq_eq_false_iff_ne.2 (by omega)
  have HF : Hid (numI s = if D.all digitB = true then some (if s.head? = some 45 then -(valD D : Int) else (valD D : Int)) else none) := Lib.hid (by
    rw [HNI.out, if_neg]
    rintro (h | h | h)
    · omega
    · exact h9 h
    · rw [hh] at h; injection h with h; exact hz h)
  have HB9 : Hid (D.length ≤ 9) := Lib.hid (by omega)
  clear h0 h9 hc0 hh hz HNI
  go_enter Try.func33, Try.ntmps33
  go_wp2_with fail
  refine HCP.out.mono ?_
  rintro e w1 ⟨rfl, rfl⟩
  go_wp2_with fail
  go_loopw [6] (fun n wr => ∃ i : Nat, i ≤ D.length ∧ n = .int .i64 ((valD (D.take i) : Nat) : Int) ∧ wr.heap[w1.heap.size]? = some (.stringIter (str D) i) ∧ Hid (Below w1.heap.size w1 wr ∧ ∀ c ∈ D.take i, digitB c = true)) (fun _ wr => D.length - wr.iterPos w1.heap.size)
  case atStart => exact ⟨0, by omega, rfl, World.iter_heap w1 (str D) 0, Lib.hid ⟨(Below.refl _ w1).alloc (Nat.le_refl _) _, by simp⟩⟩
  case round =>
    obtain ⟨i, hi, rfl, hit, HB⟩ := hrel
    have hpos : wr.iterPos w1.heap.size = i := by simp [World.iterPos, hit]
    by_cases hlt : i < D.length
    · obtain ⟨c, hc⟩ : ∃ c, D[i]? = some c := ⟨_, List.getElem?_eq_getElem hlt⟩
      obtain ⟨hks, hx⟩ := str_at HDM.out hc
      have HM := Lib.hid (List.mem_of_getElem? hc)
      have HT : Hid (D.take (i + 1) = D.take i ++ [c]) := Lib.hid (by rw [List.take_add_one, hc]; rfl)
      have hvb : valD (D.take i) ≤ 99999999 := by
        have h1 := val_bound HB.out.2
        have h2 : 10 ^ (D.take i).length ≤ 10 ^ 8 := Nat.pow_le_pow_right (by omega) (by rw [List.length_take]; have := HB9.out; omega)
        omega
      clear hc
      by_cases ha : c < 128
      · have hnx := fun ty => Lib.run_next_ascii_at (P := Try.prog) wr w1.heap.size (str D) i ty hit hks (by omega)
        rw [hx] at hnx
        have hit2 := Lib.iterAt_heap wr w1.heap.size (str D) i (i + 1) hit
        have HB2 := Lib.hid (Lib.below_iterAt HB.out.1 (Nat.le_refl _) (str D) (i + 1))
        have hb := HB.out.2
        have hpos2 : (wr.iterAt w1.heap.size (str D) (i + 1)).iterPos w1.heap.size = i + 1 := by simp [World.iterPos, hit2]
        generalize wr.iterAt w1.heap.size (str D) (i + 1) = w2 at *
        have HBX := Lib.hid hb
        clear hb
        by_cases hdg : digitB c = true
        · have hb := hdg
          unfold digitB at hb
          rw [decide_eq_true_eq] at hb
          have d3 : decide ((c : Int) < 48) = false := decide_eq_false (by omega)
          have d4 : decide ((57 : Int) < (c : Int)) = false := decide_eq_false (by omega)
          have HV : Hid (valD (D.take (i + 1)) = 10 * valD (D.take i) + (c - 48)) := Lib.hid (by rw [HT.out, val_snoc])
          generalize valD (D.take i) = v at *
          have k0 : IntKind.i32.wrap ((c : Int) - 48) = (c : Int) - 48 := by unfold IntKind.wrap; simp [IntKind.bits, IntKind.signed]; omega
          have k1 : IntKind.i64.wrap ((c : Int) - 48) = (c : Int) - 48 := IntWalk.i64_in _ (by omega)
          have k2 : IntKind.i64.wrap (10 * (v : Int)) = 10 * (v : Int) := IntWalk.i64_in _ (by omega)
          have k3 : IntKind.i64.wrap (10 * (v : Int) + ((c : Int) - 48)) = 10 * (v : Int) + ((c : Int) - 48) := IntWalk.i64_in _ (by omega)
          have HC2 : Hid (10 * (v : Int) + ((c : Int) - 48) = ((10 * v + (c - 48) : Nat) : Int)) := Lib.hid (by omega)
          have HDG := Lib.hid hdg
          clear hdg hb
          go_wp2_with fail
          go_roundw
          case rel => exact ⟨i + 1, by omega, by rw [HV.out, ← HC2.out], hit2, Lib.hid ⟨HB2.out, by
            intro x hxx
            rw [HT.out] at hxx
            rcases List.mem_append.1 hxx with hxx | hxx
            · exact HBX.out x hxx
            · rw [List.mem_singleton.1 hxx]; exact HDG.out⟩⟩
          case measure => rw [hpos, hpos2]; omega
        · have HN : Hid (numI s = none) := Lib.hid (by rw [HF.out, List.all_eq_false.2 ⟨c, HM.out, hdg⟩]; rfl)
          have hb := hdg
          unfold digitB at hb
          simp only [decide_eq_true_eq] at hb
          clear hdg
          by_cases hc48 : c < 48
          · have d3 : decide ((c : Int) < 48) = true := decide_eq_true (by omega)
            clear hb hc48
            go_wp2_with fail
            go_ret2
            exact ⟨by rw [HN.out]; rfl, HB2.out⟩
          · have d3 : decide ((c : Int) < 48) = false := decide_eq_false (by omega)
            have d4 : decide ((57 : Int) < (c : Int)) = true := decide_eq_true (by omega)
            clear hb hc48
            go_wp2_with fail
            go_ret2
            exact ⟨by rw [HN.out]; rfl, HB2.out⟩
      · have hnx := fun ty => Lib.run_next_any_at (P := Try.prog) wr w1.heap.size (str D) i ty hit hks
        obtain ⟨hd1, -⟩ := decode_high (str D) i hks (by omega)
        have HN : Hid (numI s = none) := Lib.hid (by
          have hdg : ¬ digitB c = true := by unfold digitB; simp only [decide_eq_true_eq]; omega
          rw [HF.out, List.all_eq_false.2 ⟨c, HM.out, hdg⟩]; rfl)
        generalize hdec : Utf8.decode (str D) i = dec at *
        obtain ⟨r, m⟩ := dec
        dsimp only at hnx hd1
        have HB2 := Lib.hid (Lib.below_iterAt HB.out.1 (Nat.le_refl _) (str D) (i + m))
        generalize wr.iterAt w1.heap.size (str D) (i + m) = w2 at *
        have d3 : decide ((r : Int) < 48) = false := decide_eq_false (by omega)
        have d4 : decide ((57 : Int) < (r : Int)) = true := decide_eq_true (by omega)
        clear hdec hd1
        go_wp2_with fail
        go_ret2
        exact ⟨by rw [HN.out]; rfl, HB2.out⟩
    · have hnx := fun ty => Lib.run_next_end_at (P := Try.prog) wr w1.heap.size (str D) i ty hit (by rw [hDz]; exact hlt)
      have HE : Hid (D.take i = D) := Lib.hid (List.take_of_length_le (by omega))
      rw [HE.out]
      have HAL : Hid (D.all digitB = true) := Lib.hid (List.all_eq_true.2 (by rw [← HE.out]; exact HB.out.2))
      have hvb : valD D ≤ 999999999 := by
        have h1 := val_bound (l := D) (by rw [← HE.out]; exact HB.out.2)
        have h2 : 10 ^ D.length ≤ 10 ^ 9 := Nat.pow_le_pow_right (by omega) HB9.out
        omega
      have HBW := Lib.hid HB.out.1
      clear HB
      cases bn with
      | true =>
        have HN : Hid (numI s = some (-(valD D : Int))) := Lib.hid (by rw [HF.out, if_pos HAL.out, if_pos (of_decide_eq_true HNB.out.symm)])
        generalize valD D = v at *
        go_wp2_with fail
        go_ret2
        exact ⟨by rw [HN.out]; rfl, HBW.out⟩
      | false =>
        have HN : Hid (numI s = some (valD D : Int)) := Lib.hid (by rw [HF.out, if_pos HAL.out, if_neg (of_decide_eq_false HNB.out.symm)])
        generalize valD D = v at *
        go_wp2_with fail
        go_ret2
        exact ⟨by rw [HN.out]; rfl, HBW.out⟩

set_option maxRecDepth 100000 in
set_option maxHeartbeats 2000000 in
theorem Number_is (s : List Nat) (hs : ∀ c ∈ s, c < 256) (hn : s.length ≤ 9223372036854775807) (lo hi : Int) (w : World) :
    Calls Try.prog 21 #[.string (str s), .int .i64 lo, .int .i64 hi] w fun e w' => NumTo s lo hi e ∧ Below w.heap.size w w' := by
  unfold NumTo
  have HN := Lib.hid (number_is s hs hn w)
  have HO := Lib.hid (num_of s lo hi)
  clear hs
  generalize str s = t at *
  cases hv : numI s with
  | none =>
    rw [hv] at HN HO
    rw [show numR none = .tuple #[.int .i64 0, .bool false] from rfl] at HN
    rw [HO.out]
    clear hv
    go_enter Try.func21, Try.ntmps21
    go_wp2_with fail
    refine HN.out.mono ?_
    rintro e w1 ⟨rfl, hb⟩
    have HB := Lib.hid hb
    clear hb
    go_wp2_with fail
    go_ret2
    exact ⟨rfl, HB.out⟩
  | some n =>
    rw [hv] at HN HO
    rw [show numR (some n) = .tuple #[.int .i64 n, .bool true] from rfl] at HN
    clear hv
    by_cases h1 : n < lo
    · have d1 : decide (n < lo) = true := decide_eq_true h1
      have HV : Hid (numS s lo hi = (3, 0)) := Lib.hid (HO.out.trans (if_pos (.inl h1)))
      rw [HV.out]
      clear h1
      go_enter Try.func21, Try.ntmps21
      go_wp2_with fail
      refine HN.out.mono ?_
      rintro e w1 ⟨rfl, hb⟩
      have HB := Lib.hid hb
      clear hb
      go_wp2_with fail
      go_ret2
      exact ⟨rfl, HB.out⟩
    · have d1 : decide (n < lo) = false := decide_eq_false h1
      by_cases h2 : hi < n
      · have d2 : decide (hi < n) = true := decide_eq_true h2
        have HV : Hid (numS s lo hi = (3, 0)) := Lib.hid (HO.out.trans (if_pos (.inr h2)))
        rw [HV.out]
        clear h1 h2
        go_enter Try.func21, Try.ntmps21
        go_wp2_with fail
        refine HN.out.mono ?_
        rintro e w1 ⟨rfl, hb⟩
        have HB := Lib.hid hb
        clear hb
        go_wp2_with fail
        go_ret2
        exact ⟨rfl, HB.out⟩
      · have d2 : decide (hi < n) = false := decide_eq_false h2
        have HV : Hid (numS s lo hi = (0, n)) := Lib.hid (HO.out.trans (if_neg (by rintro (h | h); exact h1 h; exact h2 h)))
        rw [HV.out]
        clear h1 h2
        go_enter Try.func21, Try.ntmps21
        go_wp2_with fail
        refine HN.out.mono ?_
        rintro e w1 ⟨rfl, hb⟩
        have HB := Lib.hid hb
        clear hb
        go_wp2_with fail
        go_ret2
        exact ⟨rfl, HB.out⟩
end Go.Proofs.Yteapcahpkapbbaa
