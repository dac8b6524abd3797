/-
  The document's Number.
  Conditions: at most 9223372036854775807 bytes.
-/
import Derived.Test.YteapcahpkapbbaaEnMath
import Derived.Test.YteapcahpkapbbaaQEsc
import Derived.Test.YteapcahpkapbbaaStrMid
import Derived.Deep.QuietTactic
import Derived.BigQuiet
namespace Go.Proofs.Yteapcahpkapbbaa
open Go.RowKit

theorem str_from (l : List Nat) (k n : Nat) (hn : l.length ≤ n) : (str l).extract k n = str (l.drop k) := by
  apply ba_ext
  rw [ByteArray.data_extract, Array.toList_extract]
  unfold str
  rw [strOfNums_data, strOfNums_data]
  rw [List.extract_eq_take_drop, List.take_of_length_le (by simp; omega)]
  simp [List.map_drop]
theorem is48 {s : List Nat} (h : ∀ c ∈ s, c < 256) : (str s).toList = [48] ↔ s = [48] := by
  have h1 := str_beq (l := s) (m := [48]) h (by simp)
  rw [show (str [48]).toList = [48] by rw [ByteArray.toList_eq]; rfl] at h1
  constructor
  · intro e; rw [e] at h1; exact of_decide_eq_true (h1.symm.trans (by rfl))
  · rintro rfl; rw [ByteArray.toList_eq]; rfl
def NumTo (s : List Nat) (lo hi : Int) (e : Ending) : Prop := e = .returned (.tuple #[.int .i64 (numS s lo hi).2, .int .i64 ((numS s lo hi).1 : Nat)])

set_option maxRecDepth 100000 in
set_option maxHeartbeats 4000000 in
theorem RNumber_is (s : List Nat) (hs : ∀ c ∈ s, c < 256) (hn : s.length ≤ 9223372036854775807) (lo hi : Int) (w : World) :
    Calls Try.prog 22 #[.string (str s), .int .i64 lo, .int .i64 hi] w fun e w' => NumTo s lo hi e ∧ w = w' := by
  unfold NumTo
  have hsz := str_len s
  have HS := Lib.hid hs
  clear hs
  cases s with
  | nil =>
    have HN : Hid (numS [] lo hi = (4, 0)) := Lib.hid (by rw [numS]; simp)
    have hn' : ((str []).toList = [48]) = False := eq_false fun e => by rw [is48 (by simp)] at e; cases e
    have hn2 : ((str []).toList == [48]) = false := beq_eq_false_iff_ne.2 fun e => by rw [is48 (by simp)] at e; cases e
    rw [HN.out]
    generalize str [] = s at *
    go_enter Try.func22, Try.ntmps22
    go_wp2_with fail
    go_ret2
    exact ⟨rfl, rfl⟩
  | cons c t =>
    obtain ⟨s, hsd⟩ : ∃ s, s = c :: t := ⟨_, rfl⟩
    have hl : s.length = t.length + 1 := by rw [hsd]; rfl
    have h0 : s[0]? = some c := by rw [hsd]; rfl
    rw [← hsd] at HS hn hsz ⊢
    obtain ⟨hkc, hxc⟩ := str_at HS.out h0
    have HSD := Lib.hid hsd
    clear hsd h0
    have p0 : decide ((0 : Int) < (s.length : Int)) = true := decide_eq_true (by omega)
    have hp1 : 1 ≤ s.length := by omega
    have HL := Lib.hid hl
    clear hl
    by_cases hneg : s.head? = some 45
    · have hc : c = 45 := by rw [HSD.out] at hneg; simpa using hneg
      have pc : ((c : Int) == 45) = true := by rw [hc]; rfl
      have ht : t = s.drop 1 := by rw [HSD.out]; rfl
      have HD : Hid (∀ x ∈ t, x < 256) := Lib.hid fun x hx => HS.out x (by rw [HSD.out]; simp [hx])
      have htz := str_len t
      have hsl : ∀ W, (Instr.slice 9 (.string (str s)) (some (.int .i64 1)) none none).run Try.prog W = .ok (.string (str t)) W := fun W => by
        rw [run_slice_string_l (P := Try.prog) W 9 (str s) Try.underlying9 .i64 1 (by omega) (by rw [hsz]; omega)]
        rw [show (1 : Int).toNat = 1 from rfl, hsz, str_from s 1 s.length (Nat.le_refl _), ht]
      have htn : t.length ≤ 9223372036854775807 := by have := HL.out; omega
      have HTD := Lib.hid ht
      clear hc ht
      by_cases hform : s ≠ [48] ∧ (t.length < 1 ∨ 9 < t.length ∨ t.head? = some 48)
      · have HN : Hid (numS s lo hi = (4, 0)) := Lib.hid (by rw [numS]; simp only [hneg, if_true]; rw [← HTD.out, if_pos (.inl hform)])
        obtain ⟨hs48, hor⟩ := hform
        have n48 : ((str s).toList = [48]) = False := eq_false fun e => hs48 ((is48 HS.out).1 e)
        have n48' : ((str s).toList == [48]) = false := beq_eq_false_iff_ne.2 fun e => hs48 ((is48 HS.out).1 e)
        rw [HN.out]
        clear hs48
        by_cases h1 : t.length < 1
        · have k1 : decide ((t.length : Int) < 1) = true := decide_eq_true (by omega)
          clear hor
          go_enter Try.func22, Try.ntmps22
          go_wp2_with fail
          go_ret2
          exact ⟨rfl, rfl⟩
        · have k1 : decide ((t.length : Int) < 1) = false := decide_eq_false (by omega)
          by_cases h2 : 9 < t.length
          · have k2 : decide ((9 : Int) < (t.length : Int)) = true := decide_eq_true (by omega)
            clear hor
            go_enter Try.func22, Try.ntmps22
            go_wp2_with fail
            go_ret2
            exact ⟨rfl, rfl⟩
          · have k2 : decide ((9 : Int) < (t.length : Int)) = false := decide_eq_false (by omega)
            have h3 : t.head? = some 48 := by rcases hor with h | h | h; exact absurd h h1; exact absurd h h2; exact h
            have h4 : t[0]? = some 48 := by rw [← List.head?_eq_getElem?]; exact h3
            obtain ⟨hk0, hx0⟩ := str_at HD.out h4
            clear hor h3 h4
            go_enter Try.func22, Try.ntmps22
            go_wp2_with fail
            go_ret2
            exact ⟨rfl, rfl⟩
      · have HFORM := Lib.hid hform
        have HNEG := Lib.hid hneg
        by_cases h48 : s = [48]
        · have n48 : (str s).toList = [48] := (is48 HS.out).2 h48
          have HB9 : Hid (t.length ≤ 9) := Lib.hid (by have := HL.out; rw [h48, List.length_singleton] at this; omega)
          clear hform hneg h48
          go_enter Try.func22, Try.ntmps22
          go_wp2_with fail
          go_loop [10, 11] (fun n i => ∃ k : Nat, k ≤ t.length ∧ i = .int .i64 (k : Nat) ∧ n = .int .i64 ((valD (t.take k) : Nat) : Int) ∧ Hid (∀ c ∈ t.take k, digitB c = true)) (fun _ i => t.length - (intOf i).toNat)
          case atStart => exact ⟨0, by omega, rfl, rfl, Lib.hid (by simp)⟩
          case round =>
            obtain ⟨k, hk, rfl, rfl, HA⟩ := hrel
            by_cases hlt : k < t.length
            · obtain ⟨x, hx⟩ : ∃ x, t[k]? = some x := ⟨_, List.getElem?_eq_getElem hlt⟩
              obtain ⟨hkx, hxx⟩ := str_at HD.out hx
              have hx6 := HD.out x (List.mem_of_getElem? hx)
              have HT : Hid (t.take (k + 1) = t.take k ++ [x]) := Lib.hid (by rw [List.take_add_one, hx]; rfl)
              have HM := Lib.hid (List.mem_of_getElem? hx)
              clear hx
              have r1 : decide ((k : Int) < (t.length : Int)) = true := decide_eq_true (by omega)
              have hvb : valD (t.take k) ≤ 99999999 := by
                have h1 := val_bound HA.out
                have h2 : 10 ^ (t.take k).length ≤ 10 ^ 8 := Nat.pow_le_pow_right (by omega) (by rw [List.length_take]; have := HB9.out; omega)
                omega
              by_cases hdg : digitB x = true
              · have hb := hdg
                unfold digitB at hb
                rw [decide_eq_true_eq] at hb
                have d1 : decide ((x : Int) < 48) = false := decide_eq_false (by omega)
                have d2 : decide ((57 : Int) < (x : Int)) = false := decide_eq_false (by omega)
                have HV : Hid (valD (t.take (k + 1)) = 10 * valD (t.take k) + (x - 48)) := Lib.hid (by rw [HT.out, val_snoc])
                generalize valD (t.take k) = v at *
                have w0 : IntKind.i64.wrap (x : Int) = (x : Int) := IntWalk.i64_in _ (by omega)
                have w1 : IntKind.i64.wrap (10 * (v : Int)) = 10 * (v : Int) := IntWalk.i64_in _ (by omega)
                have w2 : IntKind.i64.wrap (10 * (v : Int) + (x : Int)) = 10 * (v : Int) + (x : Int) := IntWalk.i64_in _ (by omega)
                have w3 : IntKind.i64.wrap (10 * (v : Int) + (x : Int) - 48) = ((10 * v + (x - 48) : Nat) : Int) := by rw [IntWalk.i64_in _ (by omega)]; omega
                have HDG := Lib.hid hdg
                clear hdg
                go_wp2_with fail
                go_round
                case rel => exact ⟨k + 1, by omega, by go_num, by rw [HV.out]; congr 1, Lib.hid (fun c hc => by rw [HT.out] at hc; rcases List.mem_append.1 hc with hc | hc; exact HA.out c hc; rw [List.mem_singleton.1 hc]; exact HDG.out)⟩
                case measure => simp [intOf]; omega
              · have HN : Hid (numS s lo hi = (4, 0)) := Lib.hid (by rw [numS]; simp only [HNEG.out, if_true]; rw [← HTD.out, if_pos (.inr (List.all_eq_false.2 ⟨x, HM.out, hdg⟩))])
                have hb := hdg
                unfold digitB at hb
                simp only [decide_eq_true_eq] at hb
                by_cases hx48 : x < 48
                · have d1 : decide ((x : Int) < 48) = true := decide_eq_true (by omega)
                  clear hdg hb
                  go_wp2_with fail
                  go_ret2
                  exact ⟨by rw [HN.out]; rfl, rfl⟩
                · have d1 : decide ((x : Int) < 48) = false := decide_eq_false (by omega)
                  have d2 : decide ((57 : Int) < (x : Int)) = true := decide_eq_true (by omega)
                  clear hdg hb
                  go_wp2_with fail
                  go_ret2
                  exact ⟨by rw [HN.out]; rfl, rfl⟩
            · obtain rfl : k = t.length := by omega
              rw [List.take_length] at HA ⊢
              have HN : Hid (numS s lo hi = if -((valD t : Nat) : Int) < lo ∨ hi < -((valD t : Nat) : Int) then (3, 0) else (0, -((valD t : Nat) : Int))) := Lib.hid (by rw [numS]; simp only [HNEG.out, if_true]; rw [← HTD.out, if_neg]; rintro (h | h); exact HFORM.out h; rw [List.all_eq_true.2 HA.out] at h; cases h)
              have hvb : valD t ≤ 999999999 := by
                have h1 := val_bound HA.out
                have h2 : 10 ^ t.length ≤ 10 ^ 9 := Nat.pow_le_pow_right (by omega) HB9.out
                omega
              have r1 : decide ((t.length : Int) < (t.length : Int)) = false := decide_eq_false (by omega)
              generalize valD t = v at *
              have w9 : IntKind.i64.wrap (-(v : Int)) = -(v : Int) := IntWalk.i64_in _ (by omega)
              by_cases hlo : -(v : Int) < lo
              · have d1 : decide (-(v : Int) < lo) = true := decide_eq_true hlo
                go_wp2_with fail
                go_ret2
                exact ⟨by rw [HN.out, if_pos (.inl hlo)]; rfl, rfl⟩
              · have d1 : decide (-(v : Int) < lo) = false := decide_eq_false hlo
                by_cases hhi : hi < -(v : Int)
                · have d2 : decide (hi < -(v : Int)) = true := decide_eq_true hhi
                  go_wp2_with fail
                  go_ret2
                  exact ⟨by rw [HN.out, if_pos (.inr hhi)]; rfl, rfl⟩
                · have d2 : decide (hi < -(v : Int)) = false := decide_eq_false hhi
                  go_wp2_with fail
                  go_ret2
                  exact ⟨by rw [HN.out, if_neg (by omega)]; rfl, rfl⟩
        · have n48 : ((str s).toList = [48]) = False := eq_false fun e => h48 ((is48 HS.out).1 e)
          have n48' : ((str s).toList == [48]) = false := beq_eq_false_iff_ne.2 fun e => h48 ((is48 HS.out).1 e)
          have h9 : 1 ≤ t.length ∧ t.length ≤ 9 ∧ t.head? ≠ some 48 := by
            refine ⟨?_, ?_, fun h => hform ⟨h48, .inr (.inr h)⟩⟩
            · exact Nat.le_of_not_lt fun h => hform ⟨h48, .inl (by omega)⟩
            · exact Nat.le_of_not_lt fun h => hform ⟨h48, .inr (.inl h)⟩
          have HB9 := Lib.hid h9.2.1
          have k1 : decide ((t.length : Int) < 1) = false := decide_eq_false (by omega)
          have k2 : decide ((9 : Int) < (t.length : Int)) = false := decide_eq_false (by omega)
          obtain ⟨y, hy⟩ : ∃ y, t[0]? = some y := ⟨_, List.getElem?_eq_getElem (by omega)⟩
          obtain ⟨hk0, hx0⟩ := str_at HD.out hy
          have hy48 : ((y : Int) == 48) = false := beq_eq_false_iff_ne.2 fun e => h9.2.2 (by rw [List.head?_eq_getElem?, hy, show y = 48 by omega])
          clear hform hneg h48 hy h9
          go_enter Try.func22, Try.ntmps22
          go_wp2_with fail
          go_loop [10, 11] (fun n i => ∃ k : Nat, k ≤ t.length ∧ i = .int .i64 (k : Nat) ∧ n = .int .i64 ((valD (t.take k) : Nat) : Int) ∧ Hid (∀ c ∈ t.take k, digitB c = true)) (fun _ i => t.length - (intOf i).toNat)
          case atStart => exact ⟨0, by omega, rfl, rfl, Lib.hid (by simp)⟩
          case round =>
            obtain ⟨k, hk, rfl, rfl, HA⟩ := hrel
            by_cases hlt : k < t.length
            · obtain ⟨x, hx⟩ : ∃ x, t[k]? = some x := ⟨_, List.getElem?_eq_getElem hlt⟩
              obtain ⟨hkx, hxx⟩ := str_at HD.out hx
              have hx6 := HD.out x (List.mem_of_getElem? hx)
              have HT : Hid (t.take (k + 1) = t.take k ++ [x]) := Lib.hid (by rw [List.take_add_one, hx]; rfl)
              have HM := Lib.hid (List.mem_of_getElem? hx)
              clear hx
              have r1 : decide ((k : Int) < (t.length : Int)) = true := decide_eq_true (by omega)
              have hvb : valD (t.take k) ≤ 99999999 := by
                have h1 := val_bound HA.out
                have h2 : 10 ^ (t.take k).length ≤ 10 ^ 8 := Nat.pow_le_pow_right (by omega) (by rw [List.length_take]; have := HB9.out; omega)
                omega
              by_cases hdg : digitB x = true
              · have hb := hdg
                unfold digitB at hb
                rw [decide_eq_true_eq] at hb
                have d1 : decide ((x : Int) < 48) = false := decide_eq_false (by omega)
                have d2 : decide ((57 : Int) < (x : Int)) = false := decide_eq_false (by omega)
                have HV : Hid (valD (t.take (k + 1)) = 10 * valD (t.take k) + (x - 48)) := Lib.hid (by rw [HT.out, val_snoc])
                generalize valD (t.take k) = v at *
                have w0 : IntKind.i64.wrap (x : Int) = (x : Int) := IntWalk.i64_in _ (by omega)
                have w1 : IntKind.i64.wrap (10 * (v : Int)) = 10 * (v : Int) := IntWalk.i64_in _ (by omega)
                have w2 : IntKind.i64.wrap (10 * (v : Int) + (x : Int)) = 10 * (v : Int) + (x : Int) := IntWalk.i64_in _ (by omega)
                have w3 : IntKind.i64.wrap (10 * (v : Int) + (x : Int) - 48) = ((10 * v + (x - 48) : Nat) : Int) := by rw [IntWalk.i64_in _ (by omega)]; omega
                have HDG := Lib.hid hdg
                clear hdg
                go_wp2_with fail
                go_round
                case rel => exact ⟨k + 1, by omega, by go_num, by rw [HV.out]; congr 1, Lib.hid (fun c hc => by rw [HT.out] at hc; rcases List.mem_append.1 hc with hc | hc; exact HA.out c hc; rw [List.mem_singleton.1 hc]; exact HDG.out)⟩
                case measure => simp [intOf]; omega
              · have HN : Hid (numS s lo hi = (4, 0)) := Lib.hid (by rw [numS]; simp only [HNEG.out, if_true]; rw [← HTD.out, if_pos (.inr (List.all_eq_false.2 ⟨x, HM.out, hdg⟩))])
                have hb := hdg
                unfold digitB at hb
                simp only [decide_eq_true_eq] at hb
                by_cases hx48 : x < 48
                · have d1 : decide ((x : Int) < 48) = true := decide_eq_true (by omega)
                  clear hdg hb
                  go_wp2_with fail
                  go_ret2
                  exact ⟨by rw [HN.out]; rfl, rfl⟩
                · have d1 : decide ((x : Int) < 48) = false := decide_eq_false (by omega)
                  have d2 : decide ((57 : Int) < (x : Int)) = true := decide_eq_true (by omega)
                  clear hdg hb
                  go_wp2_with fail
                  go_ret2
                  exact ⟨by rw [HN.out]; rfl, rfl⟩
            · obtain rfl : k = t.length := by omega
              rw [List.take_length] at HA ⊢
              have HN : Hid (numS s lo hi = if -((valD t : Nat) : Int) < lo ∨ hi < -((valD t : Nat) : Int) then (3, 0) else (0, -((valD t : Nat) : Int))) := Lib.hid (by rw [numS]; simp only [HNEG.out, if_true]; rw [← HTD.out, if_neg]; rintro (h | h); exact HFORM.out h; rw [List.all_eq_true.2 HA.out] at h; cases h)
              have hvb : valD t ≤ 999999999 := by
                have h1 := val_bound HA.out
                have h2 : 10 ^ t.length ≤ 10 ^ 9 := Nat.pow_le_pow_right (by omega) HB9.out
                omega
              have r1 : decide ((t.length : Int) < (t.length : Int)) = false := decide_eq_false (by omega)
              generalize valD t = v at *
              have w9 : IntKind.i64.wrap (-(v : Int)) = -(v : Int) := IntWalk.i64_in _ (by omega)
              by_cases hlo : -(v : Int) < lo
              · have d1 : decide (-(v : Int) < lo) = true := decide_eq_true hlo
                go_wp2_with fail
                go_ret2
                exact ⟨by rw [HN.out, if_pos (.inl hlo)]; rfl, rfl⟩
              · have d1 : decide (-(v : Int) < lo) = false := decide_eq_false hlo
                by_cases hhi : hi < -(v : Int)
                · have d2 : decide (hi < -(v : Int)) = true := decide_eq_true hhi
                  go_wp2_with fail
                  go_ret2
                  exact ⟨by rw [HN.out, if_pos (.inr hhi)]; rfl, rfl⟩
                · have d2 : decide (hi < -(v : Int)) = false := decide_eq_false hhi
                  go_wp2_with fail
                  go_ret2
                  exact ⟨by rw [HN.out, if_neg (by omega)]; rfl, rfl⟩
    · have hc : c ≠ 45 := by rw [HSD.out] at hneg; simpa using hneg
      have pc : ((c : Int) == 45) = false := beq_eq_false_iff_ne.2 (by omega)
      have HD := HS
      by_cases hform : s ≠ [48] ∧ (s.length < 1 ∨ 9 < s.length ∨ s.head? = some 48)
      · have HN : Hid (numS s lo hi = (4, 0)) := Lib.hid (by rw [numS]; simp only [hneg, if_false]; rw [if_pos (.inl hform)])
        obtain ⟨hs48, hor⟩ := hform
        have n48 : ((str s).toList = [48]) = False := eq_false fun e => hs48 ((is48 HS.out).1 e)
        have n48' : ((str s).toList == [48]) = false := beq_eq_false_iff_ne.2 fun e => hs48 ((is48 HS.out).1 e)
        rw [HN.out]
        clear hs48
        by_cases h1 : s.length < 1
        · exact absurd h1 (by omega)
        · have k1 : decide ((s.length : Int) < 1) = false := decide_eq_false (by omega)
          by_cases h2 : 9 < s.length
          · have k2 : decide ((9 : Int) < (s.length : Int)) = true := decide_eq_true (by omega)
            clear hor
            go_enter Try.func22, Try.ntmps22
            go_wp2_with fail
            go_ret2
            exact ⟨rfl, rfl⟩
          · have k2 : decide ((9 : Int) < (s.length : Int)) = false := decide_eq_false (by omega)
            have h3 : s.head? = some 48 := by rcases hor with h | h | h; exact absurd h h1; exact absurd h h2; exact h
            have h4 : s[0]? = some 48 := by rw [← List.head?_eq_getElem?]; exact h3
            obtain ⟨hk0, hx0⟩ := str_at HD.out h4
            clear hor h3 h4
            go_enter Try.func22, Try.ntmps22
            go_wp2_with fail
            go_ret2
            exact ⟨rfl, rfl⟩
      · have HFORM := Lib.hid hform
        have HNEG := Lib.hid hneg
        by_cases h48 : s = [48]
        · have n48 : (str s).toList = [48] := (is48 HS.out).2 h48
          have HB9 : Hid (s.length ≤ 9) := Lib.hid (by rw [h48]; simp)
          clear hform hneg h48
          go_enter Try.func22, Try.ntmps22
          go_wp2_with fail
          go_loop [10, 11] (fun n i => ∃ k : Nat, k ≤ s.length ∧ i = .int .i64 (k : Nat) ∧ n = .int .i64 ((valD (s.take k) : Nat) : Int) ∧ Hid (∀ c ∈ s.take k, digitB c = true)) (fun _ i => s.length - (intOf i).toNat)
          case atStart => exact ⟨0, by omega, rfl, rfl, Lib.hid (by simp)⟩
          case round =>
            obtain ⟨k, hk, rfl, rfl, HA⟩ := hrel
            by_cases hlt : k < s.length
            · obtain ⟨x, hx⟩ : ∃ x, s[k]? = some x := ⟨_, List.getElem?_eq_getElem hlt⟩
              obtain ⟨hkx, hxx⟩ := str_at HD.out hx
              have hx6 := HD.out x (List.mem_of_getElem? hx)
              have HT : Hid (s.take (k + 1) = s.take k ++ [x]) := Lib.hid (by rw [List.take_add_one, hx]; rfl)
              have HM := Lib.hid (List.mem_of_getElem? hx)
              clear hx
              have r1 : decide ((k : Int) < (s.length : Int)) = true := decide_eq_true (by omega)
              have hvb : valD (s.take k) ≤ 99999999 := by
                have h1 := val_bound HA.out
                have h2 : 10 ^ (s.take k).length ≤ 10 ^ 8 := Nat.pow_le_pow_right (by omega) (by rw [List.length_take]; have := HB9.out; omega)
                omega
              by_cases hdg : digitB x = true
              · have hb := hdg
                unfold digitB at hb
                rw [decide_eq_true_eq] at hb
                have d1 : decide ((x : Int) < 48) = false := decide_eq_false (by omega)
                have d2 : decide ((57 : Int) < (x : Int)) = false := decide_eq_false (by omega)
                have HV : Hid (valD (s.take (k + 1)) = 10 * valD (s.take k) + (x - 48)) := Lib.hid (by rw [HT.out, val_snoc])
                generalize valD (s.take k) = v at *
                have w0 : IntKind.i64.wrap (x : Int) = (x : Int) := IntWalk.i64_in _ (by omega)
                have w1 : IntKind.i64.wrap (10 * (v : Int)) = 10 * (v : Int) := IntWalk.i64_in _ (by omega)
                have w2 : IntKind.i64.wrap (10 * (v : Int) + (x : Int)) = 10 * (v : Int) + (x : Int) := IntWalk.i64_in _ (by omega)
                have w3 : IntKind.i64.wrap (10 * (v : Int) + (x : Int) - 48) = ((10 * v + (x - 48) : Nat) : Int) := by rw [IntWalk.i64_in _ (by omega)]; omega
                have HDG := Lib.hid hdg
                clear hdg
                go_wp2_with fail
                go_round
                case rel => exact ⟨k + 1, by omega, by go_num, by rw [HV.out]; congr 1, Lib.hid (fun c hc => by rw [HT.out] at hc; rcases List.mem_append.1 hc with hc | hc; exact HA.out c hc; rw [List.mem_singleton.1 hc]; exact HDG.out)⟩
                case measure => simp [intOf]; omega
              · have HN : Hid (numS s lo hi = (4, 0)) := Lib.hid (by rw [numS]; simp only [HNEG.out, if_false]; rw [if_pos (.inr (List.all_eq_false.2 ⟨x, HM.out, hdg⟩))])
                have hb := hdg
                unfold digitB at hb
                simp only [decide_eq_true_eq] at hb
                by_cases hx48 : x < 48
                · have d1 : decide ((x : Int) < 48) = true := decide_eq_true (by omega)
                  clear hdg hb
                  go_wp2_with fail
                  go_ret2
                  exact ⟨by rw [HN.out]; rfl, rfl⟩
                · have d1 : decide ((x : Int) < 48) = false := decide_eq_false (by omega)
                  have d2 : decide ((57 : Int) < (x : Int)) = true := decide_eq_true (by omega)
                  clear hdg hb
                  go_wp2_with fail
                  go_ret2
                  exact ⟨by rw [HN.out]; rfl, rfl⟩
            · obtain rfl : k = s.length := by omega
              rw [List.take_length] at HA ⊢
              have HN : Hid (numS s lo hi = if ((valD s : Nat) : Int) < lo ∨ hi < ((valD s : Nat) : Int) then (3, 0) else (0, ((valD s : Nat) : Int))) := Lib.hid (by rw [numS]; simp only [HNEG.out, if_false]; rw [if_neg]; rintro (h | h); exact HFORM.out h; rw [List.all_eq_true.2 HA.out] at h; cases h)
              have hvb : valD s ≤ 999999999 := by
                have h1 := val_bound HA.out
                have h2 : 10 ^ s.length ≤ 10 ^ 9 := Nat.pow_le_pow_right (by omega) HB9.out
                omega
              have r1 : decide ((s.length : Int) < (s.length : Int)) = false := decide_eq_false (by omega)
              generalize valD s = v at *
              have w9 : IntKind.i64.wrap (-(v : Int)) = -(v : Int) := IntWalk.i64_in _ (by omega)
              by_cases hlo : (v : Int) < lo
              · have d1 : decide ((v : Int) < lo) = true := decide_eq_true hlo
                go_wp2_with fail
                go_ret2
                exact ⟨by rw [HN.out, if_pos (.inl hlo)]; rfl, rfl⟩
              · have d1 : decide ((v : Int) < lo) = false := decide_eq_false hlo
                by_cases hhi : hi < (v : Int)
                · have d2 : decide (hi < (v : Int)) = true := decide_eq_true hhi
                  go_wp2_with fail
                  go_ret2
                  exact ⟨by rw [HN.out, if_pos (.inr hhi)]; rfl, rfl⟩
                · have d2 : decide (hi < (v : Int)) = false := decide_eq_false hhi
                  go_wp2_with fail
                  go_ret2
                  exact ⟨by rw [HN.out, if_neg (by omega)]; rfl, rfl⟩
        · have n48 : ((str s).toList = [48]) = False := eq_false fun e => h48 ((is48 HS.out).1 e)
          have n48' : ((str s).toList == [48]) = false := beq_eq_false_iff_ne.2 fun e => h48 ((is48 HS.out).1 e)
          have h9 : 1 ≤ s.length ∧ s.length ≤ 9 ∧ s.head? ≠ some 48 := by
            refine ⟨?_, ?_, fun h => hform ⟨h48, .inr (.inr h)⟩⟩
            · exact Nat.le_of_not_lt fun h => hform ⟨h48, .inl (by omega)⟩
            · exact Nat.le_of_not_lt fun h => hform ⟨h48, .inr (.inl h)⟩
          have HB9 := Lib.hid h9.2.1
          have k1 : decide ((s.length : Int) < 1) = false := decide_eq_false (by omega)
          have k2 : decide ((9 : Int) < (s.length : Int)) = false := decide_eq_false (by omega)
          obtain ⟨y, hy⟩ : ∃ y, s[0]? = some y := ⟨_, List.getElem?_eq_getElem (by omega)⟩
          obtain ⟨hk0, hx0⟩ := str_at HD.out hy
          have hy48 : ((y : Int) == 48) = false := beq_eq_false_iff_ne.2 fun e => h9.2.2 (by rw [List.head?_eq_getElem?, hy, show y = 48 by omega])
          clear hform hneg h48 hy h9
          go_enter Try.func22, Try.ntmps22
          go_wp2_with fail
          go_loop [10, 11] (fun n i => ∃ k : Nat, k ≤ s.length ∧ i = .int .i64 (k : Nat) ∧ n = .int .i64 ((valD (s.take k) : Nat) : Int) ∧ Hid (∀ c ∈ s.take k, digitB c = true)) (fun _ i => s.length - (intOf i).toNat)
          case atStart => exact ⟨0, by omega, rfl, rfl, Lib.hid (by simp)⟩
          case round =>
            obtain ⟨k, hk, rfl, rfl, HA⟩ := hrel
            by_cases hlt : k < s.length
            · obtain ⟨x, hx⟩ : ∃ x, s[k]? = some x := ⟨_, List.getElem?_eq_getElem hlt⟩
              obtain ⟨hkx, hxx⟩ := str_at HD.out hx
              have hx6 := HD.out x (List.mem_of_getElem? hx)
              have HT : Hid (s.take (k + 1) = s.take k ++ [x]) := Lib.hid (by rw [List.take_add_one, hx]; rfl)
              have HM := Lib.hid (List.mem_of_getElem? hx)
              clear hx
              have r1 : decide ((k : Int) < (s.length : Int)) = true := decide_eq_true (by omega)
              have hvb : valD (s.take k) ≤ 99999999 := by
                have h1 := val_bound HA.out
                have h2 : 10 ^ (s.take k).length ≤ 10 ^ 8 := Nat.pow_le_pow_right (by omega) (by rw [List.length_take]; have := HB9.out; omega)
                omega
              by_cases hdg : digitB x = true
              · have hb := hdg
                unfold digitB at hb
                rw [decide_eq_true_eq] at hb
                have d1 : decide ((x : Int) < 48) = false := decide_eq_false (by omega)
                have d2 : decide ((57 : Int) < (x : Int)) = false := decide_eq_false (by omega)
                have HV : Hid (valD (s.take (k + 1)) = 10 * valD (s.take k) + (x - 48)) := Lib.hid (by rw [HT.out, val_snoc])
                generalize valD (s.take k) = v at *
                have w0 : IntKind.i64.wrap (x : Int) = (x : Int) := IntWalk.i64_in _ (by omega)
                have w1 : IntKind.i64.wrap (10 * (v : Int)) = 10 * (v : Int) := IntWalk.i64_in _ (by omega)
                have w2 : IntKind.i64.wrap (10 * (v : Int) + (x : Int)) = 10 * (v : Int) + (x : Int) := IntWalk.i64_in _ (by omega)
                have w3 : IntKind.i64.wrap (10 * (v : Int) + (x : Int) - 48) = ((10 * v + (x - 48) : Nat) : Int) := by rw [IntWalk.i64_in _ (by omega)]; omega
                have HDG := Lib.hid hdg
                clear hdg
                go_wp2_with fail
                go_round
                case rel => exact ⟨k + 1, by omega, by go_num, by rw [HV.out]; congr 1, Lib.hid (fun c hc => by rw [HT.out] at hc; rcases List.mem_append.1 hc with hc | hc; exact HA.out c hc; rw [List.mem_singleton.1 hc]; exact HDG.out)⟩
                case measure => simp [intOf]; omega
              · have HN : Hid (numS s lo hi = (4, 0)) := Lib.hid (by rw [numS]; simp only [HNEG.out, if_false]; rw [if_pos (.inr (List.all_eq_false.2 ⟨x, HM.out, hdg⟩))])
                have hb := hdg
                unfold digitB at hb
                simp only [decide_eq_true_eq] at hb
                by_cases hx48 : x < 48
                · have d1 : decide ((x : Int) < 48) = true := decide_eq_true (by omega)
                  clear hdg hb
                  go_wp2_with fail
                  go_ret2
                  exact ⟨by rw [HN.out]; rfl, rfl⟩
                · have d1 : decide ((x : Int) < 48) = false := decide_eq_false (by omega)
                  have d2 : decide ((57 : Int) < (x : Int)) = true := decide_eq_true (by omega)
                  clear hdg hb
                  go_wp2_with fail
                  go_ret2
                  exact ⟨by rw [HN.out]; rfl, rfl⟩
            · obtain rfl : k = s.length := by omega
              rw [List.take_length] at HA ⊢
              have HN : Hid (numS s lo hi = if ((valD s : Nat) : Int) < lo ∨ hi < ((valD s : Nat) : Int) then (3, 0) else (0, ((valD s : Nat) : Int))) := Lib.hid (by rw [numS]; simp only [HNEG.out, if_false]; rw [if_neg]; rintro (h | h); exact HFORM.out h; rw [List.all_eq_true.2 HA.out] at h; cases h)
              have hvb : valD s ≤ 999999999 := by
                have h1 := val_bound HA.out
                have h2 : 10 ^ s.length ≤ 10 ^ 9 := Nat.pow_le_pow_right (by omega) HB9.out
                omega
              have r1 : decide ((s.length : Int) < (s.length : Int)) = false := decide_eq_false (by omega)
              generalize valD s = v at *
              have w9 : IntKind.i64.wrap (-(v : Int)) = -(v : Int) := IntWalk.i64_in _ (by omega)
              by_cases hlo : (v : Int) < lo
              · have d1 : decide ((v : Int) < lo) = true := decide_eq_true hlo
                go_wp2_with fail
                go_ret2
                exact ⟨by rw [HN.out, if_pos (.inl hlo)]; rfl, rfl⟩
              · have d1 : decide ((v : Int) < lo) = false := decide_eq_false hlo
                by_cases hhi : hi < (v : Int)
                · have d2 : decide (hi < (v : Int)) = true := decide_eq_true hhi
                  go_wp2_with fail
                  go_ret2
                  exact ⟨by rw [HN.out, if_pos (.inr hhi)]; rfl, rfl⟩
                · have d2 : decide (hi < (v : Int)) = false := decide_eq_false hhi
                  go_wp2_with fail
                  go_ret2
                  exact ⟨by rw [HN.out, if_neg (by omega)]; rfl, rfl⟩
end Go.Proofs.Yteapcahpkapbbaa
