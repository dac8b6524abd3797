/-
  The law QuoteAll: each byte's octal digits tell it, whatever stands behind; so does a backslash ahead of it.
  Conditions: two bytes.
-/
import Derived.Test.YtfpemegagangeaaQAlive
namespace Go.Proofs.Ytfpemegagangeaa
open Go.RowKit

theorem escape_octs {c : Nat} (hc : c < 256) (d : Nat) : escape (octs c ++ [d]) 0 = (c, 4, 0) := by
  have h := escape_at (l := octs c ++ [d]) (k := 0) (by simp [octs]) rfl
  rw [show ((0 : Nat) : Int) = 0 from rfl] at h
  rw [h, show (octs c ++ [d]).drop (0 + 1) = (octs c).tail ++ [d] from rfl, escL_octs hc]
  rfl
theorem escape_two (c d : Nat) : escape [92, c, d] 0 = ((escL [c, d]).1, 1 + (escL [c, d]).2, 0) := by
  have h := escape_at (l := [92, c, d]) (k := 0) (by simp) rfl
  rw [show ((0 : Nat) : Int) = 0 from rfl] at h
  rw [h, show ([92, c, d] : List Nat).drop (0 + 1) = [c, d] from rfl, Nat.zero_add]
theorem escL_two {c d : Nat} (h : octd c = false) : escL [c, d] = (letter c, 1) := by
  have e : digs 3 0 [c, d] = (0, 0) := digs_none (.inr (.inr ⟨c, [d], rfl, h⟩))
  exact escL_zero e rfl

set_option maxRecDepth 100000 in
set_option maxHeartbeats 4000000 in
theorem all_true (c d : Nat) (w : World) (hc : c < 256) (hd : d < 256) : Calls Try.prog 7 #[.int .u8 (c : Nat), .int .u8 (d : Nat)] w fun e w' => e = .returned (.bool true) ∧ Below w.heap.size w w' := by
  have HO := Lib.hid (Octal_is c hc w)
  have HE1 : Hid (∀ W, Calls Try.prog 18 #[.string (str (octs c ++ [d])), .int .i64 0] W fun e w' => e = .returned (.tuple #[.int .u8 (c : Nat), .int .i64 4, .int .i64 0]) ∧ Below W.heap.size W w') := Lib.hid fun W => by
    have h := Escape_is (octs c ++ [d]) (fun x hx => (List.mem_append.1 hx).elim (octs_byte hc x) (fun hx => by rw [List.mem_singleton.1 hx]; exact hd)) (by simp [octs]) 0 (by omega) W
    rw [escape_octs hc] at h
    exact h
  obtain ⟨y, hy⟩ : ∃ y, y = (escL [c, d]).1 := ⟨_, rfl⟩
  obtain ⟨k, hk⟩ : ∃ k, k = 1 + (escL [c, d]).2 := ⟨_, rfl⟩
  have hk2 : 2 ≤ k := by have := (escL_pos [c, d]).1; omega
  have hk4 : k ≤ 4 := by have := (escL_pos [c, d]).2; omega
  have hy6 : y < 256 := by rw [hy]; exact escL_byte (by simp; omega)
  have HE2 : Hid (∀ W, Calls Try.prog 18 #[.string (str [92, c, d]), .int .i64 0] W fun e w' => e = .returned (.tuple #[.int .u8 (y : Nat), .int .i64 (k : Nat), .int .i64 0]) ∧ Below W.heap.size W w') := Lib.hid fun W => by
    have h := Escape_is [92, c, d] (by simp; omega) (by simp) 0 (by omega) W
    rw [escape_two, ← hy, ← hk] at h
    exact h
  have HYK : Hid (octd c = false → y = letter c ∧ k = 2) := Lib.hid fun ho => by rw [hy, hk, escL_two ho]; exact ⟨rfl, rfl⟩
  have hcat := str_app (octs c) [d]
  have hz : (str (octs c)).size + (str [d]).size ≤ 9223372036854775807 := by rw [str_len, str_len, octs_len]; simp
  have hsz : (str (octs c)).size = 4 := by rw [str_len, octs_len]
  have hq1 : Hid (∀ W : World, (convert 22 9 (.slice (some ⟨W.heap.size, 0, none⟩) 1 1)).run Try.prog (W.alloc (.cells #[.int .u8 (d : Nat)] 5)) = .ok (.string (str [d])) (W.alloc (.cells #[.int .u8 (d : Nat)] 5))) := Lib.hid fun W => run_str_new W _ [d] 1 rfl rfl
  have hq2 : Hid (∀ W : World, (convert 22 9 (.slice (some ⟨W.heap.size, 0, none⟩) 3 3)).run Try.prog (W.alloc (.cells #[.int .u8 92, .int .u8 (c : Nat), .int .u8 (d : Nat)] 5)) = .ok (.string (str [92, c, d])) (W.alloc (.cells #[.int .u8 92, .int .u8 (c : Nat), .int .u8 (d : Nat)] 5))) := Lib.hid fun W => run_str_new W _ [92, c, d] 3 rfl rfl
  clear hy hk
  generalize str (octs c ++ [d]) = s1 at *
  generalize str [92, c, d] = s2 at *
  generalize str (octs c) = s0 at *
  generalize str [d] = sd at *
  go_enter Try.func7, Try.ntmps7
  go_wp2_with fail
  refine HO.out.mono ?_
  rintro e w1 ⟨rfl, hb1⟩
  have X1 := Lib.hid hb1
  have q1 := hq1.out w1
  clear hb1 HO hq1
  go_wp2_with fail
  refine (HE1.out _).mono ?_
  rintro e w2 ⟨rfl, hb2⟩
  have X2 : Hid (Below w.heap.size w w2) := Lib.hid ((X1.out.alloc X1.out.size _).trans (hb2.mono (by have := X1.out.size; simp; omega)))
  have q2 := hq2.out w2
  clear hb2 HE1 hq2 q1 X1
  go_wp2_with fail
  refine (HE2.out _).mono ?_
  rintro e w3 ⟨rfl, hb3⟩
  have X3 : Hid (Below w.heap.size w w3) := Lib.hid ((X2.out.alloc X2.out.size _).trans (hb3.mono (by have := X2.out.size; simp; omega)))
  clear hb3 HE2 q2 X2 hcat hz
  have t2 : decide ((2 : Int) ≤ (k : Int)) = true := decide_eq_true (by omega)
  by_cases h48 : 48 ≤ c
  · have a1 : decide ((48 : Int) ≤ (c : Int)) = true := decide_eq_true (by omega)
    have a1' : decide ((c : Int) < 48) = false := decide_eq_false (by omega)
    by_cases h55 : c ≤ 55
    · have a2 : decide ((c : Int) ≤ 55) = true := decide_eq_true (by omega)
      have a2' : decide ((55 : Int) < (c : Int)) = false := decide_eq_false (by omega)
      clear HYK h48 h55
      go_wp2_with fail
      refine (alive_true w3).mono ?_
      rintro e w4 ⟨rfl, hb4⟩
      have X4 := Lib.hid (X3.out.trans (hb4.mono X3.out.size))
      clear hb4
      go_wp2_with fail
      go_ret
      exact ⟨rfl, X4.out⟩
    · have a2 : decide ((c : Int) ≤ 55) = false := decide_eq_false (by omega)
      have a2' : decide ((55 : Int) < (c : Int)) = true := decide_eq_true (by omega)
      obtain ⟨hyl, rfl⟩ := HYK.out (by simp [octd]; omega)
      have HYL := Lib.hid hyl
      clear HYK hyl
      by_cases h110 : c = 110
      · have e1 : ((c : Int) == 110) = true := beq_iff_eq.2 (by omega)
        clear h48 h55 h110
        go_wp2_with fail
        refine (alive_true w3).mono ?_
        rintro e w4 ⟨rfl, hb4⟩
        have X4 := Lib.hid (X3.out.trans (hb4.mono X3.out.size))
        clear hb4
        go_wp2_with fail
        go_ret
        exact ⟨rfl, X4.out⟩
      · have e1 : ((c : Int) == 110) = false := beq_eq_false_iff_ne.2 (by omega)
        by_cases h114 : c = 114
        · have e2 : ((c : Int) == 114) = true := beq_iff_eq.2 (by omega)
          clear h48 h55 h110 h114
          go_wp2_with fail
          refine (alive_true w3).mono ?_
          rintro e w4 ⟨rfl, hb4⟩
          have X4 := Lib.hid (X3.out.trans (hb4.mono X3.out.size))
          clear hb4
          go_wp2_with fail
          go_ret
          exact ⟨rfl, X4.out⟩
        · have e2 : ((c : Int) == 114) = false := beq_eq_false_iff_ne.2 (by omega)
          by_cases h116 : c = 116
          · have e3 : ((c : Int) == 116) = true := beq_iff_eq.2 (by omega)
            clear h48 h55 h110 h114 h116
            go_wp2_with fail
            refine (alive_true w3).mono ?_
            rintro e w4 ⟨rfl, hb4⟩
            have X4 := Lib.hid (X3.out.trans (hb4.mono X3.out.size))
            clear hb4
            go_wp2_with fail
            go_ret
            exact ⟨rfl, X4.out⟩
          · have e3 : ((c : Int) == 116) = false := beq_eq_false_iff_ne.2 (by omega)
            obtain rfl : y = c := by rw [HYL.out]; unfold letter; rw [if_neg h110, if_neg h116, if_neg h114]
            clear h48 h55 h110 h114 h116
            go_wp2_with fail
            refine (alive_true w3).mono ?_
            rintro e w4 ⟨rfl, hb4⟩
            have X4 := Lib.hid (X3.out.trans (hb4.mono X3.out.size))
            clear hb4
            go_wp2_with fail
            go_ret
            exact ⟨rfl, X4.out⟩
  · have a1 : decide ((48 : Int) ≤ (c : Int)) = false := decide_eq_false (by omega)
    have a1' : decide ((c : Int) < 48) = true := decide_eq_true (by omega)
    obtain ⟨hyl, rfl⟩ := HYK.out (by simp [octd]; omega)
    have e1 : ((c : Int) == 110) = false := beq_eq_false_iff_ne.2 (by omega)
    have e2 : ((c : Int) == 114) = false := beq_eq_false_iff_ne.2 (by omega)
    have e3 : ((c : Int) == 116) = false := beq_eq_false_iff_ne.2 (by omega)
    obtain rfl : y = c := by rw [hyl]; unfold letter; rw [if_neg (by omega), if_neg (by omega), if_neg (by omega)]
    clear h48 HYK hyl
    go_wp2_with fail
    refine (alive_true w3).mono ?_
    rintro e w4 ⟨rfl, hb4⟩
    have X4 := Lib.hid (X3.out.trans (hb4.mono X3.out.size))
    clear hb4
    go_wp2_with fail
    go_ret
    exact ⟨rfl, X4.out⟩
end Go.Proofs.Ytfpemegagangeaa
