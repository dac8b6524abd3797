/-
  quote's Plain, Octal, Quote, Escape, Unquote, and what they call: their contracts.
  Conditions: bytes; quoted are at most 4194304, unquoted at most 140737488351232.
-/
import Derived.Test.YtphmhglebeapaaaQRU
import Derived.Test.YtphmhglebeapaaaBld
import Derived.Lib.Bytealg
namespace Go.Proofs.Ytphmhglebeapaaa
open Go.RowKit

/-! ### Single bytes -/
set_option maxRecDepth 100000 in
set_option maxHeartbeats 1000000 in
theorem value_is (c : Nat) (hc : 48 ≤ c ∧ c < 256) (w : World) : Calls Try.prog 84 #[.int .u8 (c : Nat)] w fun e w' => e = .returned (.int .u8 (c - 48 : Nat)) ∧ w = w' := by
  have e1 : ((c : Int) - 48) % 256 = ((c - 48 : Nat) : Int) := by omega
  have HE := Lib.hid e1
  clear hc e1
  go_enter Try.func84, Try.ntmps84
  go_wp2
  go_ret
  exact ⟨by rw [← HE.out]; rfl, rfl⟩
set_option maxRecDepth 100000 in
set_option maxHeartbeats 1000000 in
theorem letter_is (c : Nat) (w : World) : Calls Try.prog 85 #[.int .u8 (c : Nat)] w fun e w' => e = .returned (.int .u8 (letter c : Nat)) ∧ w = w' := by
  have HL : Hid (letter c = if c = 110 then 10 else if c = 116 then 9 else if c = 114 then 13 else c) := Lib.hid rfl
  by_cases h110 : c = 110
  · have e1 : ((c : Int) == 110) = true := beq_iff_eq.2 (by omega)
    have HV : Hid (letter c = 10) := Lib.hid (by rw [HL.out, if_pos h110])
    clear h110
    go_enter Try.func85, Try.ntmps85
    go_wp2
    go_ret
    exact ⟨by rw [HV.out]; rfl, rfl⟩
  · have e1 : ((c : Int) == 110) = false := beq_eq_false_iff_ne.2 (by omega)
    by_cases h116 : c = 116
    · have e2 : ((c : Int) == 116) = true := beq_iff_eq.2 (by omega)
      have HV : Hid (letter c = 9) := Lib.hid (by rw [HL.out, if_neg h110, if_pos h116])
      clear h110 h116
      go_enter Try.func85, Try.ntmps85
      go_wp2
      go_ret
      exact ⟨by rw [HV.out]; rfl, rfl⟩
    · have e2 : ((c : Int) == 116) = false := beq_eq_false_iff_ne.2 (by omega)
      by_cases h114 : c = 114
      · have e3 : ((c : Int) == 114) = true := beq_iff_eq.2 (by omega)
        have HV : Hid (letter c = 13) := Lib.hid (by rw [HL.out, if_neg h110, if_neg h116, if_pos h114])
        clear h110 h116 h114
        go_enter Try.func85, Try.ntmps85
        go_wp2
        go_ret
        exact ⟨by rw [HV.out]; rfl, rfl⟩
      · have e3 : ((c : Int) == 114) = false := beq_eq_false_iff_ne.2 (by omega)
        have HV : Hid (letter c = c) := Lib.hid (by rw [HL.out, if_neg h110, if_neg h116, if_neg h114])
        clear h110 h116 h114
        go_enter Try.func85, Try.ntmps85
        go_wp2
        go_ret
        exact ⟨by rw [HV.out]; rfl, rfl⟩
set_option maxRecDepth 100000 in
set_option maxHeartbeats 1000000 in
theorem IndexByte_is (s : ByteArray) (c : Int) (w : World) : Calls Try.prog 50 #[.string s, .int .u8 c] w fun e w' => e = .returned (.int .i64 (Lib.indexByte s.data.toList c.toNat.toUInt8)) ∧ w = w' := by
  go_enter Try.func50, Try.ntmps50
  go_wp2
  rw [run_callFunc_extern Try.func76 (by kernel_rfl) (by kernel_rfl) (by kernel_rfl) (e := Extern.BytealgIndexByte.indexByte) (by kernel_rfl), Lib.run_indexByteString]
  simp only [Result.andThen]
  rw [Oper.upon_value]
  go_wp2
  go_ret
  exact ⟨rfl, rfl⟩
/-- Where a byte stands among those with a meaning. -/
def spec (c : Nat) : Int := Lib.indexByte [34, 35, 36, 59, 91, 92, 93, 123, 125] (UInt8.ofNat c)
theorem u8_beq {a c : Nat} (ha : a < 256) (hc : c < 256) : (UInt8.ofNat a == UInt8.ofNat c) = decide (a = c) := by
  rw [Bool.eq_iff_iff, beq_iff_eq, decide_eq_true_eq, ← UInt8.toNat_inj]
  simp; omega
theorem idx_neg (l : List UInt8) (c : UInt8) : decide (Lib.indexByte l c < 0) = !(l.any (· == c)) := by
  induction l with
  | nil => rfl
  | cons b l ih =>
    have hg := Lib.indexByte_ge l c
    unfold Lib.indexByte
    by_cases h : (b == c) = true
    · rw [if_pos h]; simp [h]
    · rw [if_neg h]
      simp only [List.any_cons, h, Bool.false_or] at ih ⊢
      by_cases h1 : (Lib.indexByte l c == -1) = true
      · rw [if_pos h1, ← ih]
        have : Lib.indexByte l c = -1 := by simpa using h1
        rw [this]
      · rw [if_neg h1, ← ih]
        have : Lib.indexByte l c ≠ -1 := by simpa using h1
        have a1 : ¬ (Lib.indexByte l c + 1 < 0) := by omega
        have a2 : ¬ (Lib.indexByte l c < 0) := by omega
        rw [decide_eq_false a1, decide_eq_false a2]
theorem spec_plain (c : Nat) (hc : c < 256) : plain c = (decide (32 ≤ c) && decide (c ≤ 126) && decide (spec c < 0)) := by
  unfold spec
  rw [idx_neg]
  have e : ([34, 35, 36, 59, 91, 92, 93, 123, 125] : List UInt8) = [UInt8.ofNat 34, UInt8.ofNat 35, UInt8.ofNat 36, UInt8.ofNat 59, UInt8.ofNat 91, UInt8.ofNat 92, UInt8.ofNat 93, UInt8.ofNat 123, UInt8.ofNat 125] := rfl
  rw [e]
  simp only [List.any_cons, List.any_nil, Bool.or_false]
  rw [u8_beq (by omega) hc, u8_beq (by omega) hc, u8_beq (by omega) hc, u8_beq (by omega) hc, u8_beq (by omega) hc, u8_beq (by omega) hc, u8_beq (by omega) hc, u8_beq (by omega) hc, u8_beq (by omega) hc]
  rw [Bool.eq_iff_iff]
  simp only [plain, decide_eq_true_eq, Bool.and_eq_true, Bool.not_eq_true', Bool.or_eq_false_iff, decide_eq_false_iff_not]
  omega
set_option maxRecDepth 100000 in
set_option maxHeartbeats 1000000 in
theorem Plain_eq (c : Nat) (hc : c < 256) (w : World) : Calls Try.prog 81 #[.int .u8 (c : Nat)] w fun e w' => e = .returned (.bool (plain c)) ∧ w = w' := by
  have HP := Lib.hid (spec_plain c hc)
  have HI : Hid (∀ W, Calls Try.prog 50 #[.string ⟨#[34, 35, 36, 59, 91, 92, 93, 123, 125]⟩, .int .u8 (c : Nat)] W fun e w' => e = .returned (.int .i64 (spec c)) ∧ W = w') := Lib.hid fun W => IndexByte_is _ _ W
  have hs : -1 ≤ spec c := Lib.indexByte_ge _ _
  generalize spec c = z at *
  by_cases h32 : 32 ≤ c
  · have q1 : decide ((32 : Int) ≤ (c : Int)) = true := decide_eq_true (by omega)
    by_cases h126 : c ≤ 126
    · have q2 : decide ((c : Int) ≤ 126) = true := decide_eq_true (by omega)
      have HR : Hid (plain c = decide (z < 0)) := Lib.hid (by rw [HP.out, decide_eq_true h32, decide_eq_true h126]; rfl)
      clear h32 h126 hc
      go_enter Try.func81, Try.ntmps81
      go_wp2_with fail
      refine (HI.out w).mono ?_
      rintro e w1 ⟨rfl, rfl⟩
      go_wp2_with fail
      all_goals
        go_ret
        exact ⟨by rw [HR.out]; rfl, rfl⟩
    · have q2 : decide ((c : Int) ≤ 126) = false := decide_eq_false (by omega)
      have HR : Hid (plain c = false) := Lib.hid (by rw [HP.out, decide_eq_false h126]; simp)
      clear h32 h126 hc
      go_enter Try.func81, Try.ntmps81
      go_wp2_with fail
      go_ret
      exact ⟨by rw [HR.out]; rfl, rfl⟩
  · have q1 : decide ((32 : Int) ≤ (c : Int)) = false := decide_eq_false (by omega)
    have HR : Hid (plain c = false) := Lib.hid (by rw [HP.out, decide_eq_false h32]; simp)
    clear h32 hc
    go_enter Try.func81, Try.ntmps81
    go_wp2_with fail
    go_ret
    exact ⟨by rw [HR.out]; rfl, rfl⟩
theorem Octal_is (c : Nat) (hc : c < 256) (w : World) : Calls Try.prog 82 #[.int .u8 (c : Nat)] w fun e w' => e = .returned (.string (str (octs c))) ∧ Below w.heap.size w w' := by
  have hx1 : 48 + (c : Int) / 64 = ((48 + c / 64 : Nat) : Int) := by omega
  have hx2 : 48 + (c : Int) / 8 % 8 = ((48 + c / 8 % 8 : Nat) : Int) := by omega
  have hx3 : 48 + (c : Int) % 8 = ((48 + c % 8 : Nat) : Int) := by omega
  have ho : octs c = [92, 48 + c / 64, 48 + c / 8 % 8, 48 + c % 8] := rfl
  generalize 48 + c / 64 = x1 at *
  generalize 48 + c / 8 % 8 = x2 at *
  generalize 48 + c % 8 = x3 at *
  rw [ho]
  have q := run_str_new w #[.int .u8 92, .int .u8 (x1 : Nat), .int .u8 (x2 : Nat), .int .u8 (x3 : Nat)] [92, x1, x2, x3] 4 rfl rfl
  clear ho
  go_enter Try.func82, Try.ntmps82
  go_wp2
  go_ret
  exact ⟨rfl, (Below.refl _ w).alloc (Nat.le_refl _) _⟩

/-! ### An escape -/
set_option maxRecDepth 100000 in
set_option maxHeartbeats 2000000 in
theorem digits_is (r : List Nat) (hl : ∀ c ∈ r, c < 256) (hn : r.length ≤ 281474976710656) (w : World) : Calls Try.prog 83 #[.string (str r)] w fun e w' => e = .returned (.int .i64 ((digs 3 0 r).2 : Nat)) ∧ w = w' := by
  have hsz := str_len r
  have HB := Lib.hid hl
  clear hl
  go_enter Try.func83, Try.ntmps83
  go_wp2
  go_loop [3] (fun a => ∃ n x : Nat, a = .int .i64 n ∧ Hid (Dug r n x)) (fun a => 3 - (intOf a).toNat)
  case atStart => exact ⟨0, 0, rfl, Lib.hid (Dug.start r)⟩
  case round =>
    obtain ⟨n, x, rfl, HD⟩ := hrel
    have hn3 := HD.out.1
    have hnl := HD.out.2.1
    obtain ⟨m, hm⟩ : ∃ m : Nat, m = min 3 r.length := ⟨_, rfl⟩
    have hmin : min (3 : Int) (r.length : Int) = (m : Int) := by omega
    by_cases hnm : n < m
    · have q0 : decide ((n : Int) < (m : Int)) = true := decide_eq_true (by omega)
      obtain ⟨c, hc⟩ : ∃ c, r[n]? = some c := ⟨_, List.getElem?_eq_getElem (by omega)⟩
      obtain ⟨hks, hx⟩ := str_at HB.out hc
      have hnn : n < r.length := by omega
      have HRC := Lib.hid hc
      clear hc hm
      by_cases ho : octd c = true
      · have hcr : 48 ≤ c ∧ c ≤ 55 := of_decide_eq_true ho
        have q1 : decide ((48 : Int) ≤ (c : Int)) = true := decide_eq_true (by omega)
        have q2 : decide ((c : Int) ≤ 55) = true := decide_eq_true (by omega)
        have HD2 := Lib.hid (HD.out.next (by omega) HRC.out ho)
        clear ho
        go_wp2
        go_round
        case rel => exact ⟨n + 1, 8 * x + (c - 48), by go_num, HD2⟩
        case measure => simp [intOf]; omega
      · have HL := Lib.hid (HD.out.last (.inr (.inr ⟨c, HRC.out, by simpa using ho⟩)))
        have hcr : c < 48 ∨ 55 < c := by simp only [octd, decide_eq_true_eq] at ho; omega
        clear ho
        rcases hcr with hcr | hcr
        · have q1 : decide ((48 : Int) ≤ (c : Int)) = false := decide_eq_false (by omega)
          go_wp2
          go_ret
          rw [HL.out]
          exact ⟨rfl, rfl⟩
        · have q1 : decide ((48 : Int) ≤ (c : Int)) = true := decide_eq_true (by omega)
          have q2 : decide ((c : Int) ≤ 55) = false := decide_eq_false (by omega)
          go_wp2
          go_ret
          rw [HL.out]
          exact ⟨rfl, rfl⟩
    · have HL := Lib.hid (HD.out.last (by omega))
      have q0 : decide ((n : Int) < (m : Int)) = false := decide_eq_false (by omega)
      clear hm
      go_wp2
      go_ret
      rw [HL.out]
      exact ⟨rfl, rfl⟩

theorem escL_val3 {r : List Nat} {x : Nat} (h : digs 3 0 r = (x, 3)) : ∃ a b c, r[0]? = some a ∧ r[1]? = some b ∧ r[2]? = some c ∧ octd a = true ∧ octd b = true ∧ octd c = true ∧ x = 8 * (8 * (a - 48) + (b - 48)) + (c - 48) := by
  cases r with
  | nil => simp [digs] at h
  | cons a r =>
    by_cases ha : octd a = true
    · rw [digs_one ha] at h
      cases r with
      | nil => simp [digs] at h
      | cons b r =>
        by_cases hb : octd b = true
        · rw [digs_one hb] at h
          cases r with
          | nil => simp [digs] at h
          | cons c r =>
            by_cases hc : octd c = true
            · rw [digs_one hc] at h
              simp [digs] at h
              exact ⟨a, b, c, rfl, rfl, rfl, ha, hb, hc, by omega⟩
            · rw [digs_none (.inr (.inr ⟨c, r, rfl, by simpa using hc⟩))] at h; simp at h
        · rw [digs_none (.inr (.inr ⟨b, r, rfl, by simpa using hb⟩))] at h; simp at h
    · rw [digs_none (.inr (.inr ⟨a, r, rfl, by simpa using ha⟩))] at h; simp at h
theorem escL_val2 {r : List Nat} {x : Nat} (h : digs 3 0 r = (x, 2)) : ∃ a b, r[0]? = some a ∧ r[1]? = some b ∧ octd a = true ∧ octd b = true ∧ x = 8 * (a - 48) + (b - 48) := by
  cases r with
  | nil => simp [digs] at h
  | cons a r =>
    by_cases ha : octd a = true
    · rw [digs_one ha] at h
      cases r with
      | nil => simp [digs] at h
      | cons b r =>
        by_cases hb : octd b = true
        · rw [digs_one hb] at h
          have h0 : (digs 1 (8 * (8 * 0 + (a - 48)) + (b - 48)) r).2 = 0 := by have := congrArg Prod.snd h; dsimp only at this; omega
          have h1 : (digs 1 (8 * (8 * 0 + (a - 48)) + (b - 48)) r).1 = 8 * (8 * 0 + (a - 48)) + (b - 48) := by
            cases r with
            | nil => rfl
            | cons c r =>
              by_cases hc : octd c = true
              · rw [digs_one hc] at h0; simp at h0
              · rw [digs_none (.inr (.inr ⟨c, r, rfl, by simpa using hc⟩))]
          have h2 := congrArg Prod.fst h
          dsimp only at h2
          rw [h1] at h2
          exact ⟨a, b, rfl, rfl, ha, hb, by omega⟩
        · rw [digs_none (.inr (.inr ⟨b, r, rfl, by simpa using hb⟩))] at h; simp at h
    · rw [digs_none (.inr (.inr ⟨a, r, rfl, by simpa using ha⟩))] at h; simp at h
theorem escL_val1 {r : List Nat} {x : Nat} (h : digs 3 0 r = (x, 1)) : ∃ a, r[0]? = some a ∧ octd a = true ∧ x = a - 48 := by
  cases r with
  | nil => simp [digs] at h
  | cons a r =>
    by_cases ha : octd a = true
    · rw [digs_one ha] at h
      have h0 : (digs 2 (8 * 0 + (a - 48)) r).2 = 0 := by have := congrArg Prod.snd h; dsimp only at this; omega
      have h1 : (digs 2 (8 * 0 + (a - 48)) r).1 = 8 * 0 + (a - 48) := by
        cases r with
        | nil => rfl
        | cons c r =>
          by_cases hc : octd c = true
          · rw [digs_one hc] at h0; simp at h0
          · rw [digs_none (.inr (.inr ⟨c, r, rfl, by simpa using hc⟩))]
      have h2 := congrArg Prod.fst h
      dsimp only at h2
      rw [h1] at h2
      exact ⟨a, rfl, ha, by omega⟩
    · rw [digs_none (.inr (.inr ⟨a, r, rfl, by simpa using ha⟩))] at h; simp at h
set_option maxRecDepth 100000 in
set_option maxHeartbeats 4000000 in
theorem told_is (r : List Nat) (hl : ∀ c ∈ r, c < 256) (h0 : 0 < r.length) (hn : r.length ≤ 281474976710656) (w : World) : Calls Try.prog 78 #[.string (str r)] w fun e w' => e = .returned (.tuple #[.int .u8 ((escL r).1 : Nat), .int .i64 ((escL r).2 : Nat)]) ∧ w = w' := by
  have hsz := str_len r
  have HD := Lib.hid (digits_is r hl hn w)
  have hd3 := digs_le 3 0 r
  obtain ⟨x, hx⟩ : ∃ x, digs 3 0 r = (x, (digs 3 0 r).2) := ⟨_, rfl⟩
  generalize (digs 3 0 r).2 = n at *
  have HX := Lib.hid hx
  have HV := Lib.hid value_is
  rcases (show n = 3 ∨ n = 2 ∨ n = 1 ∨ n = 0 by omega) with rfl | rfl | rfl | rfl
  · obtain ⟨a, b, c, ha, hb, hc, oa, ob, oc, hxv⟩ := escL_val3 hx
    have HE := Lib.hid (escL_some hx (by omega))
    simp only [octd, decide_eq_true_eq] at oa ob oc
    obtain ⟨ka, qa⟩ := str_at hl ha
    obtain ⟨kb, qb'⟩ := str_at hl hb
    obtain ⟨kc, qc⟩ := str_at hl hc
    have HF : Hid ((x % 256 : Nat) = (8 * (8 * (a - 48) + (b - 48)) + (c - 48)) % 256) := Lib.hid (by rw [hxv])
    have va := HV.out a (by omega) w
    have vb := HV.out b (by omega) w
    have vc := HV.out c (by omega) w
    obtain ⟨a', ea⟩ : ∃ a', a' = a - 48 := ⟨_, rfl⟩
    obtain ⟨b', eb⟩ : ∃ b', b' = b - 48 := ⟨_, rfl⟩
    obtain ⟨c', ec⟩ : ∃ c', c' = c - 48 := ⟨_, rfl⟩
    rw [← ea] at va
    rw [← eb] at vb
    rw [← ec] at vc
    rw [← ea, ← eb, ← ec] at HF
    have VA := Lib.hid va
    have VB := Lib.hid vb
    have VC := Lib.hid vc
    have hab : a' ≤ 7 ∧ b' ≤ 7 ∧ c' ≤ 7 := by omega
    have HG : Hid (64 * (a' : Int) % 256 + 8 * (b' : Int) + (c' : Int) = ((x % 256 : Nat) : Int)) := Lib.hid (by have := HF.out; omega)
    clear hx hxv ha hb hc ea eb ec va vb vc oa ob oc hl h0 hd3
    go_enter Try.func78, Try.ntmps78
    go_wp2_with fail
    refine HD.out.mono ?_
    rintro e w1 ⟨rfl, rfl⟩
    go_wp2_with fail
    refine VA.out.mono ?_
    rintro e w1 ⟨rfl, rfl⟩
    go_wp2_with fail
    refine VB.out.mono ?_
    rintro e w1 ⟨rfl, rfl⟩
    go_wp2_with fail
    refine VC.out.mono ?_
    rintro e w1 ⟨rfl, rfl⟩
    go_wp2_with fail
    go_ret2
    rw [HE.out]
    refine ⟨?_, rfl⟩
    dsimp only
    rw [← HG.out]
    rfl
  · obtain ⟨a, b, ha, hb, oa, ob, hxv⟩ := escL_val2 hx
    have HE := Lib.hid (escL_some hx (by omega))
    simp only [octd, decide_eq_true_eq] at oa ob
    obtain ⟨ka, qa⟩ := str_at hl ha
    obtain ⟨kb, qb'⟩ := str_at hl hb
    have va := HV.out a (by omega) w
    have vb := HV.out b (by omega) w
    obtain ⟨a', ea⟩ : ∃ a', a' = a - 48 := ⟨_, rfl⟩
    obtain ⟨b', eb⟩ : ∃ b', b' = b - 48 := ⟨_, rfl⟩
    rw [← ea] at va
    rw [← eb] at vb
    have VA := Lib.hid va
    have VB := Lib.hid vb
    have hab : a' ≤ 7 ∧ b' ≤ 7 := by omega
    have HG : Hid (8 * (a' : Int) + (b' : Int) = ((x % 256 : Nat) : Int)) := Lib.hid (by omega)
    clear hx hxv ha hb ea eb va vb oa ob hl h0 hd3
    go_enter Try.func78, Try.ntmps78
    go_wp2_with fail
    refine HD.out.mono ?_
    rintro e w1 ⟨rfl, rfl⟩
    go_wp2_with fail
    refine VA.out.mono ?_
    rintro e w1 ⟨rfl, rfl⟩
    go_wp2_with fail
    refine VB.out.mono ?_
    rintro e w1 ⟨rfl, rfl⟩
    go_wp2_with fail
    go_ret2
    rw [HE.out]
    refine ⟨?_, rfl⟩
    dsimp only
    rw [← HG.out]
    first | rfl | (simp; done)
  · obtain ⟨a, ha, oa, hxv⟩ := escL_val1 hx
    have HE := Lib.hid (escL_some hx (by omega))
    simp only [octd, decide_eq_true_eq] at oa
    obtain ⟨ka, qa⟩ := str_at hl ha
    have va := HV.out a (by omega) w
    obtain ⟨a', ea⟩ : ∃ a', a' = a - 48 := ⟨_, rfl⟩
    rw [← ea] at va
    have VA := Lib.hid va
    have hab : a' ≤ 7 := by omega
    have HG : Hid ((a' : Int) = ((x % 256 : Nat) : Int)) := Lib.hid (by omega)
    clear hx hxv ha ea va oa hl h0 hd3
    go_enter Try.func78, Try.ntmps78
    go_wp2_with fail
    refine HD.out.mono ?_
    rintro e w1 ⟨rfl, rfl⟩
    go_wp2_with fail
    refine VA.out.mono ?_
    rintro e w1 ⟨rfl, rfl⟩
    go_wp2_with fail
    go_ret2
    rw [HE.out]
    refine ⟨?_, rfl⟩
    dsimp only
    rw [← HG.out]
    first | rfl | (simp; done)
  · obtain ⟨d, hd⟩ : ∃ d, r[0]? = some d := ⟨_, List.getElem?_eq_getElem h0⟩
    obtain ⟨ka, qa⟩ := str_at hl hd
    have HE := Lib.hid (escL_zero hx hd)
    have VL := Lib.hid (letter_is d w)
    generalize letter d = v at *
    clear hx hd hl h0 hd3
    go_enter Try.func78, Try.ntmps78
    go_wp2_with fail
    refine HD.out.mono ?_
    rintro e w1 ⟨rfl, rfl⟩
    go_wp2_with fail
    refine VL.out.mono ?_
    rintro e w1 ⟨rfl, rfl⟩
    go_wp2_with fail
    go_ret2
    rw [HE.out]
    exact ⟨rfl, rfl⟩
theorem str_cutf (l : List Nat) (k : Nat) : (str l).extract k (str l).size = str (l.drop k) := by
  apply ba_ext
  rw [ByteArray.data_extract, Array.toList_extract, str_len]
  unfold str
  rw [strOfNums_data, strOfNums_data]
  simp [List.map_drop]
  rw [List.take_of_length_le (by simp)]
theorem run_from_str (l : List Nat) (k : Nat) (hk : k ≤ l.length) (W : World) : (Instr.slice 9 (.string (str l)) (some (.int .i64 (k : Nat))) none none).run Try.prog W = .ok (.string (str (l.drop k))) W := by
  have := str_len l
  rw [run_slice_string_l (P := Try.prog) W 9 (str l) Try.underlying9 .i64 (k : Nat) (by omega) (by omega), Int.toNat_natCast, str_cutf]
set_option maxRecDepth 100000 in
set_option maxHeartbeats 4000000 in
theorem Escape_eq (l : List Nat) (hl : ∀ c ∈ l, c < 256) (hn : l.length ≤ 140737488351232) (z : Int) (_ : -9223372036854775808 ≤ z ∧ z ≤ 9223372036854775807) (w : World) :
    Calls Try.prog 68 #[.string (str l), .int .i64 z] w fun e w' => e = .returned (.tuple #[.int .u8 ((escape l z).1 : Nat), .int .i64 ((escape l z).2.1 : Nat), .int .i64 ((escape l z).2.2 : Nat)]) ∧ w = w' := by
  have hsz := str_len l
  by_cases h0 : 0 ≤ z
  · by_cases h1 : z < l.length
    · obtain ⟨k, rfl⟩ : ∃ k : Nat, z = (k : Int) := ⟨z.toNat, by omega⟩
      have hk : k < l.length := by omega
      have hkb : k ≤ 281474976710656 := by omega
      obtain ⟨d, hd⟩ : ∃ d, l[k]? = some d := ⟨_, List.getElem?_eq_getElem hk⟩
      obtain ⟨hks, hx⟩ := str_at hl hd
      by_cases h92 : d = 92
      · have hd' : l[k]? = some 92 := by rw [hd, h92]
        have q0 : ((d : Int) != 92) = false := by simp [h92]
        have q5 : decide ((l.length : Int) ≤ (k : Int)) = false := decide_eq_false (by omega)
        have hrun := fun W => run_from_str l (k + 1) (by omega) W
        have e1 : ((k + 1 : Nat) : Int) = (k : Int) + 1 := by omega
        rw [e1] at hrun
        by_cases hlast : k + 1 = l.length
        · have HE : Hid (escape l (k : Int) = (0, 0, 5)) := Lib.hid (by unfold escape; rw [Int.toNat_natCast, if_pos ⟨h0, h1, hd'⟩, if_pos hlast])
          have hs0 : (str (l.drop (k + 1))).size = 0 := by rw [str_len, List.length_drop]; omega
          generalize str (l.drop (k + 1)) = sr at *
          have HL := Lib.hid hlast
          clear hd hd' hlast h92 e1
          go_enter Try.func68, Try.ntmps68
          go_wp2_with fail
          go_ret3
          rw [HE.out]
          exact ⟨rfl, rfl⟩
        · have hk2 : k + 1 < l.length := by omega
          have HE := Lib.hid (escape_at hk2 hd')
          have hrl : (l.drop (k + 1)).length = l.length - (k + 1) := List.length_drop
          have hfit := escL_fits (r := l.drop (k + 1)) (fun e => by rw [e] at hrl; simp at hrl; omega)
          have HT := Lib.hid (told_is (l.drop (k + 1)) (fun c hc => hl c (List.mem_of_mem_drop hc)) (by omega) (by omega) w)
          have hs0 : ((str (l.drop (k + 1))).size : Int) = ((l.length - (k + 1) : Nat) : Int) := by rw [str_len, hrl]
          have hs1 : (((l.length - (k + 1) : Nat) : Int) == 0) = false := beq_eq_false_iff_ne.2 (by omega)
          have hp := escL_pos (l.drop (k + 1))
          generalize (escL (l.drop (k + 1))).1 = v at *
          generalize (escL (l.drop (k + 1))).2 = m at *
          generalize str (l.drop (k + 1)) = sr at *
          generalize l.length - (k + 1) = rl at *
          clear hd hd' hlast h92 e1 hrl
          go_enter Try.func68, Try.ntmps68
          go_wp2_with fail
          refine HT.out.mono ?_
          rintro e w1 ⟨rfl, rfl⟩
          go_wp2_with fail
          go_ret3
          rw [HE.out]
          exact ⟨by go_num, rfl⟩
      · have HE : Hid (escape l (k : Int) = (0, 0, 3)) := Lib.hid (by unfold escape; rw [if_neg]; rintro ⟨_, _, h⟩; rw [Int.toNat_natCast, hd] at h; injection h with h; exact h92 h)
        have q : ((d : Int) != 92) = true := by simp; omega
        have q5 : decide ((l.length : Int) ≤ (k : Int)) = false := decide_eq_false (by omega)
        clear hd h92
        go_enter Try.func68, Try.ntmps68
        go_wp2_with fail
        go_ret3
        rw [HE.out]
        exact ⟨rfl, rfl⟩
    · have HE : Hid (escape l z = (0, 0, 3)) := Lib.hid (by unfold escape; rw [if_neg]; rintro ⟨_, h, _⟩; exact h1 h)
      have q : decide ((l.length : Int) ≤ z) = true := by simp; omega
      have q2 : decide (z < 0) = false := by simp; omega
      clear hl
      go_enter Try.func68, Try.ntmps68
      go_wp2_with fail
      go_ret3
      rw [HE.out]
      exact ⟨rfl, rfl⟩
  · have HE : Hid (escape l z = (0, 0, 3)) := Lib.hid (by unfold escape; rw [if_neg]; rintro ⟨h, _, _⟩; exact h0 h)
    have q : decide (z < 0) = true := by simp; omega
    clear hl
    go_enter Try.func68, Try.ntmps68
    go_wp2_with fail
    go_ret3
    rw [HE.out]
    exact ⟨rfl, rfl⟩

/-! ### Quote -/
/-! ### Unquote -/
theorem nameNext_drop {l : List Nat} {k d : Nat} (h : l[k]? = some d) : nameNext (l.drop k) = nameB d := by rw [drop_cons h]; rfl
theorem Plain_is (c : Nat) (hc : c < 256) (w : World) : Calls Try.prog 81 #[.int .u8 (c : Nat)] w fun e w' => e = .returned (.bool (plain c)) ∧ Below w.heap.size w w' :=
  (Plain_eq c hc w).mono fun _ _ h => ⟨h.1, h.2 ▸ Below.refl _ w⟩
theorem Escape_is (l : List Nat) (hl : ∀ c ∈ l, c < 256) (hn : l.length ≤ 140737488351232) (z : Int) (hz : -9223372036854775808 ≤ z ∧ z ≤ 9223372036854775807) (w : World) :
    Calls Try.prog 68 #[.string (str l), .int .i64 z] w fun e w' => e = .returned (.tuple #[.int .u8 ((escape l z).1 : Nat), .int .i64 ((escape l z).2.1 : Nat), .int .i64 ((escape l z).2.2 : Nat)]) ∧ Below w.heap.size w w' :=
  (Escape_eq l hl hn z hz w).mono fun _ _ h => ⟨h.1, h.2 ▸ Below.refl _ w⟩
end Go.Proofs.Ytphmhglebeapaaa
