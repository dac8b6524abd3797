/-
  The law EnvDigits.
  Conditions: none.
-/
import Derived.Test.YteapcahpkapbbaaEnOps
import Derived.Test.YteapcahpkapbbaaRowAt
namespace Go.Proofs.Yteapcahpkapbbaa
open Go.RowKit

/-- The digits so far: k is left, s is written. -/
def DigSt (k0 k : Nat) (s : List Nat) : Prop := (s = [] ∧ k = k0) ∨ (s ≠ [] ∧ dgs k0 = (if k = 0 then [] else dgs k) ++ s)
theorem dig_step {k0 k : Nat} {s : List Nat} (h : DigSt k0 k s) (hk : 0 < k ∨ s = []) : DigSt k0 (k / 10) ((48 + k % 10) :: s) := by
  refine .inr ⟨by simp, ?_⟩
  have key : (if k / 10 = 0 then [] else dgs (k / 10)) ++ [48 + k % 10] = dgs k := by
    rcases Nat.lt_or_ge k 10 with h | h
    · rw [if_pos (by omega), dgs_small h, List.nil_append, Nat.mod_eq_of_lt h]
    · rw [if_neg (by omega), dgs_step h]
  rw [show (48 + k % 10) :: s = [48 + k % 10] ++ s from rfl, ← List.append_assoc, key]
  rcases h with ⟨rfl, rfl⟩ | ⟨h1, h2⟩
  · rw [List.append_nil]
  · rcases hk with hk | hk
    · rw [h2, if_neg (by omega)]
    · exact absurd hk h1
theorem dig_end {k0 : Nat} {s : List Nat} (h : DigSt k0 0 s) (hs : s ≠ []) : s = dgs k0 := by
  rcases h with ⟨h1, _⟩ | ⟨_, h2⟩
  · exact absurd h1 hs
  · rw [h2, if_pos rfl, List.nil_append]

theorem dgs_ok {n : Int} (h : -1000000000 < n ∧ n < 1000000000) : (∀ c ∈ dgs n.natAbs, c < 256) ∧ (dgs n.natAbs).length ≤ 9 :=
  ⟨fun c hc => by have := dgs_digit _ c hc; unfold digitB at this; rw [decide_eq_true_eq] at this; omega, dgs_len (by omega) (by omega)⟩
theorem signed_ok {n : Int} (h : -1000000000 < n ∧ n < 1000000000) : (∀ c ∈ signed n, c < 256) ∧ (signed n).length ≤ 9223372036854775807 := by
  obtain ⟨h1, h2⟩ := dgs_ok h
  unfold signed
  refine ⟨fun c hc => ?_, ?_⟩
  · rcases List.mem_append.1 hc with hc | hc
    · split at hc
      · rw [List.mem_singleton.1 hc]; omega
      · cases hc
    · exact h1 c hc
  · rw [List.length_append]; split <;> simp <;> omega
theorem signed_ok4 {n : Int} (h : -1000000000 < n ∧ n < 1000000000) : (∀ c ∈ (if n < 0 then [45] else []) ++ [48] ++ dgs n.natAbs, c < 256) ∧ ((if n < 0 then [45] else []) ++ [48] ++ dgs n.natAbs).length ≤ 9223372036854775807 := by
  obtain ⟨h1, h2⟩ := dgs_ok h
  refine ⟨fun c hc => ?_, ?_⟩
  · rcases List.mem_append.1 hc with hc | hc
    · rcases List.mem_append.1 hc with hc | hc
      · split at hc
        · rw [List.mem_singleton.1 hc]; omega
        · cases hc
      · rw [List.mem_singleton.1 hc]; omega
    · exact h1 c hc
  · rw [List.length_append, List.length_append]; split <;> simp <;> omega
theorem dig_len {k0 k : Nat} {s : List Nat} (h : DigSt k0 k s) (hk : k0 ≤ 999999999) : s.length ≤ 9 := by
  rcases h with ⟨rfl, _⟩ | ⟨_, h⟩
  · simp
  · have h1 := dgs_len (m := 9) (k := k0) (by omega) (by omega)
    rw [h, List.length_append] at h1
    omega
def lenOf : Value → Nat
  | .string b => b.size
  | _ => 0

set_option maxRecDepth 100000 in
set_option maxHeartbeats 4000000 in
theorem digits_true (n0 : Int) (w : World) :
    Calls Try.prog 8 #[.int .i64 n0] w fun e w' => e = .returned (.bool true) ∧ Below w.heap.size w w' := by
  obtain ⟨n, hnn⟩ : ∃ n : Int, n = n0.tmod 1000000000 := ⟨_, rfl⟩
  have hb1 : -1000000000 < n ∧ n < 1000000000 := by
    have h1 := Int.lt_tmod_of_pos n0 (b := 1000000000) (by omega)
    have h2 := Int.tmod_lt_of_pos n0 (b := 1000000000) (by omega)
    omega
  have e0 : n0.tmod 1000000000 = n := hnn.symm
  clear hnn
  obtain ⟨k0, hk⟩ : ∃ k0 : Nat, k0 = n.natAbs ∧ k0 ≤ 999999999 := ⟨_, rfl, by omega⟩
  by_cases hneg : n < 0
  · have d0 : decide (n < 0) = true := decide_eq_true hneg
    have hk0 : IntKind.i64.wrap (-n) = (k0 : Int) := by rw [IntWalk.i64_in _ (by omega)]; omega
    have HNEG := Lib.hid hneg
    have HSIG : Hid ((if n < 0 then [45] else []) = [45]) := Lib.hid (if_pos hneg)
    have HSB : Hid ((∀ c ∈ signed n, c < 256) ∧ (signed n).length ≤ 9223372036854775807) := Lib.hid (signed_ok hb1)
    have HSB4 : Hid ((∀ c ∈ [45] ++ [48] ++ dgs n.natAbs, c < 256) ∧ ([45] ++ [48] ++ dgs n.natAbs).length ≤ 9223372036854775807) := Lib.hid (by have h := signed_ok4 hb1; rw [HSIG.out] at h; exact h)
    have HK0 := Lib.hid hk
    clear hneg hk
    go_enter Try.func8, Try.ntmps8
    go_wp2_with fail
    go_loopw [3, 4] (fun sv kv wr => ∃ (k : Nat) (s : List Nat), k ≤ 999999999 ∧ s.length ≤ 9 ∧ sv = .string (str s) ∧ kv = .int .i64 (k : Nat) ∧ Hid (DigSt k0 k s) ∧ Hid (Below w.heap.size w wr)) (fun sv kv _ => (intOf kv).toNat + (1 - lenOf sv))
    case atStart => exact ⟨k0, [], HK0.out.2, by simp, rfl, rfl, Lib.hid (.inl ⟨rfl, rfl⟩), Lib.hid (Below.refl _ w)⟩
    case round =>
      obtain ⟨k, s, hk9, hs9, rfl, rfl, HD, HW⟩ := hrel
      have hsz := str_len s
      have hgo : ∀ (hc : 0 < k ∨ s = []), DigSt k0 (k / 10) ((48 + k % 10) :: s) ∧ ((48 + k % 10) :: s).length ≤ 9 := fun hc => ⟨dig_step HD.out hc, dig_len (dig_step HD.out hc) HK0.out.2⟩
      by_cases hc : 0 < k ∨ s = []
      · have HG := Lib.hid (hgo hc)
        have x6 : 48 + k % 10 < 256 := by omega
        have e1 : (k : Int).tmod 10 = ((k % 10 : Nat) : Int) := by rw [Int.tmod_eq_emod_of_nonneg (by omega)]; omega
        have e2 : (k : Int).tdiv 10 = ((k / 10 : Nat) : Int) := by rw [Int.tdiv_eq_ediv_of_nonneg (by omega)]; omega
        have w1 : IntKind.i64.wrap (48 + ((k % 10 : Nat) : Int)) = ((48 + k % 10 : Nat) : Int) := by rw [IntWalk.i64_in _ (by omega)]; omega
        have w2 : IntKind.u8.wrap ((48 + k % 10 : Nat) : Int) = ((48 + k % 10 : Nat) : Int) := IntWalk.u8_in _ (by omega)
        have w3 : IntKind.i64.wrap ((k / 10 : Nat) : Int) = ((k / 10 : Nat) : Int) := IntWalk.i64_in _ (by omega)
        have hcv := run_str (w := wr.alloc (.cells #[.int .u8 ((48 + k % 10 : Nat) : Int)] 5)) (Rd.ofBlk (heap_alloc_new wr _) [48 + k % 10] rfl)
        have hz1 := str_len [48 + k % 10]
        have l2 : (9223372036854775807 < (str [48 + k % 10]).size + (str s).size) = False := eq_false (by rw [hz1, hsz]; simp; omega)
        have HW2 := Lib.hid (HW.out.alloc HW.out.size (.cells #[.int .u8 ((48 + k % 10 : Nat) : Int)] 5))
        have hq : decide (0 < k) = true ∨ (decide (0 < k) = false ∧ (str s).toList = []) := by
          rcases Nat.eq_zero_or_pos k with h0 | h0
          · rcases hc with h1 | h1
            · omega
            · exact .inr ⟨decide_eq_false (by omega), by rw [h1]; rw [ByteArray.toList_eq]; rfl⟩
          · exact .inl (decide_eq_true h0)
        have HC := Lib.hid hc
        simp only [List.length_singleton] at hz1 hcv
        generalize 48 + k % 10 = x at *
        generalize k % 10 = m at *
        clear hgo hc
        rcases hq with q1 | ⟨q1, q2⟩
        all_goals
          go_wp2_with fail
          go_roundw
          case rel => exact ⟨k / 10, x :: s, by omega, HG.out.2, by rw [str_app]; rfl, by go_num, Lib.hid HG.out.1, HW2⟩
          case measure =>
            have hc := HC.out
            simp [intOf, lenOf, ByteArray.size_append, hsz, hz1]
            rcases hc with h | h
            · omega
            · subst h; simp; omega
      · have hk0' : k = 0 := by omega
        have hsn : s ≠ [] := fun e => hc (.inr e)
        have q1 : decide (0 < k) = false := decide_eq_false (by omega)
        have q2 : ((str s).toList = []) = False := eq_false fun e => hsn (by rw [str_bytes] at e; simpa using e)
        have q3 : ((str s).toList == []) = false := beq_eq_false_iff_ne.2 fun e => hsn (by rw [str_bytes] at e; simpa using e)
        have HSE : Hid (s = dgs n.natAbs) := Lib.hid (by have h := HD.out; rw [hk0'] at h; rw [dig_end h hsn, ← HK0.out.1])
        have HS9 := Lib.hid hs9
        clear hc hk0' hsn hgo
        have hn4 := num_zero (z := n) (lo := -1099511627776) (hi := 1099511627776)
        rw [HSIG.out, ← HSE.out] at hn4
        have N1 := Lib.hid (fun W => Number_is (signed n) HSB.out.1 HSB.out.2 n n W)
        have N2 := Lib.hid (fun W => Number_is (signed n) HSB.out.1 HSB.out.2 (n + 1) 1099511627776 W)
        have N3 := Lib.hid (fun W => Number_is (signed n) HSB.out.1 HSB.out.2 (-1099511627776) (n - 1) W)
        have N4 := Lib.hid (fun W => Number_is ([45] ++ [48] ++ s) (by rw [HSE.out]; exact HSB4.out.1) (by rw [HSE.out]; exact HSB4.out.2) (-1099511627776) 1099511627776 W)
        unfold NumTo at N1 N2 N3 N4
        rw [num_signed hb1.1 hb1.2, if_neg (by omega)] at N1
        rw [num_signed hb1.1 hb1.2, if_pos (by omega)] at N2
        rw [num_signed hb1.1 hb1.2, if_pos (by omega)] at N3
        rw [hn4] at N4
        have hcat : signed n = [45] ++ s := by rw [signed, HSIG.out, ← HSE.out]
        rw [hcat, ← str_app, show str [45] = (⟨#[45]⟩ : ByteArray) from rfl] at N1 N2 N3
        rw [← str_app, ← str_app, show str [45] = (⟨#[45]⟩ : ByteArray) from rfl, show str [48] = (⟨#[48]⟩ : ByteArray) from rfl] at N4
        have wa : IntKind.i64.wrap (n + 1) = n + 1 := IntWalk.i64_in _ (by omega)
        have wb : IntKind.i64.wrap (n - 1) = n - 1 := IntWalk.i64_in _ (by omega)
        have l4 : (9223372036854775807 < (⟨#[45]⟩ : ByteArray).size + (str s).size) = False := eq_false (by have := HS9.out; rw [hsz]; show ¬ (9223372036854775807 < 1 + s.length); omega)
        have l5 : (9223372036854775807 < ((⟨#[45]⟩ : ByteArray) ++ (⟨#[48]⟩ : ByteArray)).size + (str s).size) = False := eq_false (by have := HS9.out; rw [hsz, ByteArray.size_append]; show ¬ (9223372036854775807 < 1 + 1 + s.length); omega)
        clear hn4 hcat
        go_wp2_with fail
        refine (N1.out wr).mono ?_
        rintro e w1 ⟨rfl, hb⟩
        have X1 := Lib.hid (HW.out.trans (hb.mono HW.out.size))
        clear hb
        go_wp2_with fail
        refine (N2.out w1).mono ?_
        rintro e w2 ⟨rfl, hb⟩
        have X2 := Lib.hid (X1.out.trans (hb.mono X1.out.size))
        clear hb
        go_wp2_with fail
        refine (N3.out w2).mono ?_
        rintro e w3 ⟨rfl, hb⟩
        have X3 := Lib.hid (X2.out.trans (hb.mono X2.out.size))
        clear hb
        go_wp2_with fail
        refine (N4.out w3).mono ?_
        rintro e w4 ⟨rfl, hb⟩
        have X4 := Lib.hid (X3.out.trans (hb.mono X3.out.size))
        clear hb
        go_wp2_with fail
        refine (alive_true _).mono ?_
        rintro e w5 ⟨rfl, hb⟩
        have X5 := Lib.hid (X4.out.trans (hb.mono X4.out.size))
        clear hb
        go_wp2_with fail
        go_ret
        exact ⟨rfl, X5.out⟩
  · have d0 : decide (n < 0) = false := decide_eq_false hneg
    have HKN : Hid (n = (k0 : Int)) := Lib.hid (by omega)
    have HNEG := Lib.hid hneg
    have HSIG : Hid ((if n < 0 then [45] else []) = []) := Lib.hid (if_neg hneg)
    have HSB : Hid ((∀ c ∈ signed n, c < 256) ∧ (signed n).length ≤ 9223372036854775807) := Lib.hid (signed_ok hb1)
    have HSB4 : Hid ((∀ c ∈ [] ++ [48] ++ dgs n.natAbs, c < 256) ∧ ([] ++ [48] ++ dgs n.natAbs).length ≤ 9223372036854775807) := Lib.hid (by have h := signed_ok4 hb1; rw [HSIG.out] at h; exact h)
    have HK0 := Lib.hid hk
    clear hneg hk
    go_enter Try.func8, Try.ntmps8
    go_wp2_with fail
    go_loopw [3, 4] (fun sv kv wr => ∃ (k : Nat) (s : List Nat), k ≤ 999999999 ∧ s.length ≤ 9 ∧ sv = .string (str s) ∧ kv = .int .i64 (k : Nat) ∧ Hid (DigSt k0 k s) ∧ Hid (Below w.heap.size w wr)) (fun sv kv _ => (intOf kv).toNat + (1 - lenOf sv))
    case atStart => exact ⟨k0, [], HK0.out.2, by simp, rfl, congrArg (Value.int .i64) HKN.out, Lib.hid (.inl ⟨rfl, rfl⟩), Lib.hid (Below.refl _ w)⟩
    case round =>
      obtain ⟨k, s, hk9, hs9, rfl, rfl, HD, HW⟩ := hrel
      have hsz := str_len s
      have hgo : ∀ (hc : 0 < k ∨ s = []), DigSt k0 (k / 10) ((48 + k % 10) :: s) ∧ ((48 + k % 10) :: s).length ≤ 9 := fun hc => ⟨dig_step HD.out hc, dig_len (dig_step HD.out hc) HK0.out.2⟩
      by_cases hc : 0 < k ∨ s = []
      · have HG := Lib.hid (hgo hc)
        have x6 : 48 + k % 10 < 256 := by omega
        have e1 : (k : Int).tmod 10 = ((k % 10 : Nat) : Int) := by rw [Int.tmod_eq_emod_of_nonneg (by omega)]; omega
        have e2 : (k : Int).tdiv 10 = ((k / 10 : Nat) : Int) := by rw [Int.tdiv_eq_ediv_of_nonneg (by omega)]; omega
        have w1 : IntKind.i64.wrap (48 + ((k % 10 : Nat) : Int)) = ((48 + k % 10 : Nat) : Int) := by rw [IntWalk.i64_in _ (by omega)]; omega
        have w2 : IntKind.u8.wrap ((48 + k % 10 : Nat) : Int) = ((48 + k % 10 : Nat) : Int) := IntWalk.u8_in _ (by omega)
        have w3 : IntKind.i64.wrap ((k / 10 : Nat) : Int) = ((k / 10 : Nat) : Int) := IntWalk.i64_in _ (by omega)
        have hcv := run_str (w := wr.alloc (.cells #[.int .u8 ((48 + k % 10 : Nat) : Int)] 5)) (Rd.ofBlk (heap_alloc_new wr _) [48 + k % 10] rfl)
        have hz1 := str_len [48 + k % 10]
        have l2 : (9223372036854775807 < (str [48 + k % 10]).size + (str s).size) = False := eq_false (by rw [hz1, hsz]; simp; omega)
        have HW2 := Lib.hid (HW.out.alloc HW.out.size (.cells #[.int .u8 ((48 + k % 10 : Nat) : Int)] 5))
        have hq : decide (0 < k) = true ∨ (decide (0 < k) = false ∧ (str s).toList = []) := by
          rcases Nat.eq_zero_or_pos k with h0 | h0
          · rcases hc with h1 | h1
            · omega
            · exact .inr ⟨decide_eq_false (by omega), by rw [h1]; rw [ByteArray.toList_eq]; rfl⟩
          · exact .inl (decide_eq_true h0)
        have HC := Lib.hid hc
        simp only [List.length_singleton] at hz1 hcv
        generalize 48 + k % 10 = x at *
        generalize k % 10 = m at *
        clear hgo hc
        rcases hq with q1 | ⟨q1, q2⟩
        all_goals
          go_wp2_with fail
          go_roundw
          case rel => exact ⟨k / 10, x :: s, by omega, HG.out.2, by rw [str_app]; rfl, by go_num, Lib.hid HG.out.1, HW2⟩
          case measure =>
            have hc := HC.out
            simp [intOf, lenOf, ByteArray.size_append, hsz, hz1]
            rcases hc with h | h
            · omega
            · subst h; simp; omega
      · have hk0' : k = 0 := by omega
        have hsn : s ≠ [] := fun e => hc (.inr e)
        have q1 : decide (0 < k) = false := decide_eq_false (by omega)
        have q2 : ((str s).toList = []) = False := eq_false fun e => hsn (by rw [str_bytes] at e; simpa using e)
        have q3 : ((str s).toList == []) = false := beq_eq_false_iff_ne.2 fun e => hsn (by rw [str_bytes] at e; simpa using e)
        have HSE : Hid (s = dgs n.natAbs) := Lib.hid (by have h := HD.out; rw [hk0'] at h; rw [dig_end h hsn, ← HK0.out.1])
        have HS9 := Lib.hid hs9
        clear hc hk0' hsn hgo
        have hn4 := num_zero (z := n) (lo := -1099511627776) (hi := 1099511627776)
        rw [HSIG.out, ← HSE.out] at hn4
        have N1 := Lib.hid (fun W => Number_is (signed n) HSB.out.1 HSB.out.2 n n W)
        have N2 := Lib.hid (fun W => Number_is (signed n) HSB.out.1 HSB.out.2 (n + 1) 1099511627776 W)
        have N3 := Lib.hid (fun W => Number_is (signed n) HSB.out.1 HSB.out.2 (-1099511627776) (n - 1) W)
        have N4 := Lib.hid (fun W => Number_is ([] ++ [48] ++ s) (by rw [HSE.out]; exact HSB4.out.1) (by rw [HSE.out]; exact HSB4.out.2) (-1099511627776) 1099511627776 W)
        unfold NumTo at N1 N2 N3 N4
        rw [num_signed hb1.1 hb1.2, if_neg (by omega)] at N1
        rw [num_signed hb1.1 hb1.2, if_pos (by omega)] at N2
        rw [num_signed hb1.1 hb1.2, if_pos (by omega)] at N3
        rw [hn4] at N4
        have hcat : signed n = [] ++ s := by rw [signed, HSIG.out, ← HSE.out]
        rw [hcat, ← str_app, show str [] = (⟨#[]⟩ : ByteArray) from rfl] at N1 N2 N3
        rw [← str_app, ← str_app, show str [] = (⟨#[]⟩ : ByteArray) from rfl, show str [48] = (⟨#[48]⟩ : ByteArray) from rfl] at N4
        have wa : IntKind.i64.wrap (n + 1) = n + 1 := IntWalk.i64_in _ (by omega)
        have wb : IntKind.i64.wrap (n - 1) = n - 1 := IntWalk.i64_in _ (by omega)
        have l4 : (9223372036854775807 < (⟨#[]⟩ : ByteArray).size + (str s).size) = False := eq_false (by have := HS9.out; rw [hsz]; show ¬ (9223372036854775807 < 0 + s.length); omega)
        have l5 : (9223372036854775807 < ((⟨#[]⟩ : ByteArray) ++ (⟨#[48]⟩ : ByteArray)).size + (str s).size) = False := eq_false (by have := HS9.out; rw [hsz, ByteArray.size_append]; show ¬ (9223372036854775807 < 0 + 1 + s.length); omega)
        clear hn4 hcat
        go_wp2_with fail
        refine (N1.out wr).mono ?_
        rintro e w1 ⟨rfl, hb⟩
        have X1 := Lib.hid (HW.out.trans (hb.mono HW.out.size))
        clear hb
        go_wp2_with fail
        refine (N2.out w1).mono ?_
        rintro e w2 ⟨rfl, hb⟩
        have X2 := Lib.hid (X1.out.trans (hb.mono X1.out.size))
        clear hb
        go_wp2_with fail
        refine (N3.out w2).mono ?_
        rintro e w3 ⟨rfl, hb⟩
        have X3 := Lib.hid (X2.out.trans (hb.mono X2.out.size))
        clear hb
        go_wp2_with fail
        refine (N4.out w3).mono ?_
        rintro e w4 ⟨rfl, hb⟩
        have X4 := Lib.hid (X3.out.trans (hb.mono X3.out.size))
        clear hb
        go_wp2_with fail
        refine (alive_true _).mono ?_
        rintro e w5 ⟨rfl, hb⟩
        have X5 := Lib.hid (X4.out.trans (hb.mono X4.out.size))
        clear hb
        go_wp2_with fail
        go_ret
        exact ⟨rfl, X5.out⟩
end Go.Proofs.Yteapcahpkapbbaa
