/-
  What the program's Check, Match, Span and Escape answer.
  Conditions: a text of at most 140737488351232 bytes; to be escaped, of at most 35184372088832.
-/
import Derived.Test.YtgocngglpdgaiaaGlPlc
import Derived.Test.YtgocngglpdgaiaaGlRSpan
import Derived.Test.YtgocngglpdgaiaaBld
namespace Go.Proofs.Ytgocngglpdgaiaa
open Go.RowKit

def spanE (k : Option Nat) (e : Nat) : Value := .tuple #[.int .i64 (k.getD 0 : Nat), .bool k.isSome, .int .i64 (e : Nat)]
theorem errS_zero {p : List Nat} (h : errS p = 0) : ¬ 1024 < p.length ∧ ∃ l, thingsS p = some l := by
  unfold errS at h
  by_cases h1 : 1024 < p.length
  · rw [if_pos h1] at h; omega
  · rw [if_neg h1] at h
    cases hk : thingsS p with
    | none => rw [hk] at h; simp at h
    | some l => exact ⟨h1, l, rfl⟩
theorem placeS_err {p : List Nat} (h : errS p ≠ 0) (t : List Nat) (most : Int) : placeS p t most = none := by
  unfold placeS
  split
  · rfl
  · rename_i h1
    cases hk : thingsS p with
    | none => rfl
    | some l => exact absurd (by rw [errS, if_neg h1, if_neg (by rw [hk]; simp)]) h
theorem placeS_ok {p : List Nat} {l : List Thg} (h : p.length ≤ 1024) (k : thingsS p = some l) (t : List Nat) (most : Int) : placeS p t most = spanS l t most := by
  rw [placeS, if_neg (by omega), k]
theorem okS_place (p t : List Nat) : okS p t = (decide (placeS p t (t.length : Nat) = some 0)) := by
  unfold okS placeS
  by_cases h1 : 1024 < p.length
  · rw [if_pos h1, decide_eq_false (by omega)]; rfl
  · rw [if_neg h1, decide_eq_true (by omega), Bool.true_and]
    cases thingsS p with
    | none => rfl
    | some l =>
      show likeS l t = decide (firstS l t = some 0)
      rw [Bool.eq_iff_iff, decide_eq_true_eq, first_zero]

set_option maxRecDepth 100000 in
set_option maxHeartbeats 1000000 in
theorem Check_is (p : List Nat) (hp : ∀ c ∈ p, c < 256) (hn : p.length ≤ 9223372036854775807) (w : World) :
    Calls Try.prog 14 #[.string (str p)] w fun r w' => r = .returned (.int .i64 (errS p : Nat)) ∧ Below w.heap.size w w' := by
  have HP := Lib.hid (parse_is p hp hn w)
  clear hp hn
  go_enter Try.func14, Try.ntmps14
  go_wp2_with fail
  refine HP.out.mono ?_
  rintro e w1 ⟨hb, ⟨he, rfl⟩ | ⟨he, v, ll, rfl, h⟩⟩
  · have HB := Lib.hid hb
    clear hb he
    go_wp2_with fail
    go_ret
    exact ⟨rfl, HB.out⟩
  · have HB := Lib.hid hb
    have HE := Lib.hid he
    clear hb he h
    go_wp2_with fail
    go_ret
    exact ⟨by rw [HE.out]; rfl, HB.out⟩

set_option maxRecDepth 100000 in
set_option maxHeartbeats 2000000 in
theorem Span_is (p t : List Nat) (hp : ∀ c ∈ p, c < 256) (hn : p.length ≤ 9223372036854775807) (ht : ∀ c ∈ t, c < 256) (hm : t.length ≤ 140737488351232) (most : Int) (hz : -9223372036854775808 ≤ most ∧ most ≤ 9223372036854775807) (w : World) :
    Calls Try.prog 16 #[.string (str p), .string (str t), .int .i64 most] w fun r w' => r = .returned (spanE (placeS p t most) (errS p)) ∧ Below w.heap.size w w' := by
  have hsz := str_len t
  have HP := Lib.hid (parse_is p hp hn w)
  have HT := Lib.hid ht
  obtain ⟨hz1, hz2⟩ := hz
  clear hp hn ht
  go_enter Try.func16, Try.ntmps16
  go_wp2_with fail
  refine HP.out.mono ?_
  rintro e w1 ⟨hb, ⟨he, rfl⟩ | ⟨he, v, ll, rfl, hv, h0, hs, hpl, hth⟩⟩
  · have HB := Lib.hid hb
    have HE : Hid (spanE (placeS p t most) (errS p) = .tuple #[.int .i64 0, .bool false, .int .i64 (errS p : Nat)]) := Lib.hid (by rw [placeS_err he]; rfl)
    have q1 : (((errS p : Nat) : Int) != 0) = true := by simp; omega
    clear hb he HP
    go_wp2_with fail
    go_ret3
    exact ⟨by rw [HE.out]; rfl, HB.out⟩
  · have HE0 : Hid (spanE (placeS p t most) (errS p) = spanE (spanS (joinR ll) t most) 0) := Lib.hid (by rw [he, placeS_ok hpl hth])
    have hjl := things_len p.length p _ (Nat.le_refl _) hth
    have hll := joinR_len ll
    have HLL := Lib.hid (place_of (ll := ll) v)
    have HB := Lib.hid hb
    have HV := Lib.hid hv
    have HLN : Hid (ll.length ≤ 1025 ∧ ∀ r ∈ ll, r.length ≤ 1024) := Lib.hid ⟨by omega, fun r hr => by have := hll.2 r hr; omega⟩
    have HS := Lib.hid (And.intro h0 hs)
    clear hb he HP hv h0 hs hth hjl hll hpl
    generalize hll : joinR ll = l at *
    by_cases hneg : most < 0
    · have HE : Hid (spanE (spanS l t most) 0 = .tuple #[.int .i64 0, .bool false, .int .i64 0]) := Lib.hid (by rw [span_neg hneg]; rfl)
      clear hll
      go_wp2_with fail
      go_ret3
      exact ⟨by rw [HE0.out, HE.out]; rfl, HB.out⟩
    · obtain ⟨f, hf⟩ : ∃ f : Nat, (f : Int) = max 0 ((t.length : Int) - most) := ⟨(max 0 ((t.length : Int) - most)).toNat, by omega⟩
      have hfl : f ≤ t.length := by omega
      have q1 : decide (most < 0) = false := decide_eq_false hneg
      have HPL := Lib.hid (HLL.out (t.drop f) w1 HV.out HS.out.1 HS.out.2 HLN.out.1 HLN.out.2 (fun c hc => HT.out c (List.mem_of_mem_drop hc)) (by rw [List.length_drop]; omega))
      rw [span_of_first (l := l) (by omega) hf] at HE0
      have hrun := fun W => run_from_str t f hfl W
      have hfk : ∀ k, firstS l (t.drop f) = some k → k ≤ t.length - f := fun k hk => by
        rcases first_cases l (t.drop f) with ⟨k2, e, h2, _⟩ | ⟨e, _⟩
        · rw [e] at hk; cases hk; rwa [List.length_drop] at h2
        · rw [e] at hk; cases hk
      generalize str (t.drop f) = sd at *
      have hmx : max 0 ((t.length : Int) - most) = (f : Int) := hf.symm
      clear hf hll HLL
      cases hq : firstS l (t.drop f) with
      | none =>
        rw [hq] at HPL HE0
        rw [show plcE none = .tuple #[.int .i64 0, .bool false] from rfl] at HPL
        clear hq hfk
        go_wp2_with fail
        refine HPL.out.mono ?_
        rintro e w2 ⟨rfl, hb2⟩
        have HB2 := Lib.hid (HB.out.trans (hb2.mono HB.out.size))
        clear hb2
        go_wp2_with fail
        go_ret3
        exact ⟨by rw [HE0.out]; rfl, HB2.out⟩
      | some k =>
        rw [hq] at HPL HE0
        rw [show plcE (some k) = .tuple #[.int .i64 (k : Nat), .bool true] from rfl] at HPL
        have hk := hfk k hq
        clear hq hfk
        go_wp2_with fail
        refine HPL.out.mono ?_
        rintro e w2 ⟨rfl, hb2⟩
        have HB2 := Lib.hid (HB.out.trans (hb2.mono HB.out.size))
        clear hb2
        go_wp2_with fail
        go_ret3
        rw [HE0.out]
        exact ⟨by unfold spanE; go_num, HB2.out⟩

set_option maxRecDepth 100000 in
set_option maxHeartbeats 1000000 in
theorem Match_is (p t : List Nat) (hp : ∀ c ∈ p, c < 256) (hn : p.length ≤ 9223372036854775807) (ht : ∀ c ∈ t, c < 256) (hm : t.length ≤ 140737488351232) (w : World) :
    Calls Try.prog 13 #[.string (str p), .string (str t)] w fun r w' => r = .returned (.tuple #[.bool (okS p t), .int .i64 (errS p : Nat)]) ∧ Below w.heap.size w w' := by
  have hsz := str_len t
  have HS := Lib.hid (Span_is p t hp hn ht hm (t.length : Nat) (by omega) w)
  have HO := Lib.hid (okS_place p t)
  clear hp hn ht
  generalize errS p = z at *
  cases hq : placeS p t (t.length : Nat) with
  | none =>
    rw [hq] at HS HO
    rw [show spanE none z = .tuple #[.int .i64 0, .bool false, .int .i64 (z : Nat)] from rfl] at HS
    have HR : Hid (okS p t = false) := Lib.hid (by rw [HO.out]; rfl)
    clear hq HO
    go_enter Try.func13, Try.ntmps13
    go_wp2_with fail
    refine HS.out.mono ?_
    rintro e w1 ⟨rfl, hb⟩
    have HB := Lib.hid hb
    clear hb
    go_wp2_with fail
    go_ret2
    exact ⟨by rw [HR.out]; rfl, HB.out⟩
  | some k =>
    rw [hq] at HS HO
    rw [show spanE (some k) z = .tuple #[.int .i64 (k : Nat), .bool true, .int .i64 (z : Nat)] from rfl] at HS
    have HR : Hid (okS p t = ((k : Int) == 0)) := Lib.hid (by
      rw [HO.out, Bool.eq_iff_iff, decide_eq_true_eq, beq_iff_eq]
      constructor
      · intro h; cases h; rfl
      · intro h; congr 1; omega)
    clear hq HO
    go_enter Try.func13, Try.ntmps13
    go_wp2_with fail
    refine HS.out.mono ?_
    rintro e w1 ⟨rfl, hb⟩
    have HB := Lib.hid hb
    clear hb
    go_wp2_with fail
    go_ret2
    exact ⟨by rw [HR.out]; rfl, HB.out⟩

/-! ### Escape -/
def escB (c : Nat) : List Nat := if c = 42 ∨ c = 63 ∨ c = 91 ∨ c = 92 then [92, c] else [c]
theorem esc_take {t : List Nat} {k c : Nat} (h : t[k]? = some c) : escS (t.take (k + 1)) = escS (t.take k) ++ escB c := by
  have hlt := (List.getElem?_eq_some_iff.1 h).1
  have e : t.take (k + 1) = t.take k ++ [c] := by rw [List.take_add_one, h]; rfl
  rw [e]
  unfold escS escB
  rw [List.flatMap_append]
  simp
theorem esc_byte {t : List Nat} (h : ∀ c ∈ t, c < 256) : ∀ c ∈ escS t, c < 256 := by
  intro c hc
  unfold escS at hc
  obtain ⟨d, hd, hc⟩ := List.mem_flatMap.1 hc
  have := h d hd
  split at hc
  · simp at hc; omega
  · simp at hc; omega
theorem esc_mem (c : Nat) : decide (0 ≤ idxS [42, 63, 91, 92] c) = decide (c = 42 ∨ c = 63 ∨ c = 91 ∨ c = 92) := by
  rw [idx_mem0]; simp
theorem esc_nil {t : List Nat} (h : escS t = []) : t = [] := by
  cases t with
  | nil => rfl
  | cons c t =>
    unfold escS at h
    rw [List.flatMap_cons] at h
    have := congrArg List.length h
    rw [List.length_append] at this
    split at this <;> simp at this

set_option maxRecDepth 100000 in
set_option maxHeartbeats 2000000 in
/-- String of a builder that nothing was written to. -/
theorem StringNew_is {w : World} {b : Nat} (h : Blk w b 56 #[.pointer none, .slice none 0 0]) :
    Calls Try.prog 25 #[.pointer (some ⟨b, 0, none⟩)] w fun e w' => e = .returned (.string (str [])) ∧ Below w.heap.size w w' := by
  have c1 : w.drew.cell? ⟨b, 1, none⟩ = some (.slice none 0 0) := by
    show w.cell? _ = _
    rw [h.cell]; rfl
  have hSD : (Builtin.unsafeSliceData_ #[40] 69 #[.slice none 0 0]).run Try.prog w.drew = .ok (.pointer none) w.drew := Lib.run_unsafeSliceData_nil _ _ _ _ _
  have hUS : (Builtin.unsafeString_ #[69, 3] 9 #[.pointer none, .int .i64 0]).run Try.prog w.drew = .ok (.string .empty) w.drew := Lib.run_unsafeString_none _ _ _ _ _
  have HF : Hid (Below w.heap.size w w.drew) := Lib.hid ⟨rfl, rfl, rfl, Nat.le_refl _, fun _ _ => rfl⟩
  clear h
  go_enter Try.func25, Try.ntmps25
  go_wp2
  go_region
  all_goals
    go_wp2
    go_ret
    exact ⟨rfl, HF.out⟩

set_option maxRecDepth 100000 in
set_option maxHeartbeats 2000000 in
theorem Escape_is (t : List Nat) (ht : ∀ c ∈ t, c < 256) (hm : t.length ≤ 35184372088832) (w : World) :
    Calls Try.prog 18 #[.string (str t)] w fun r w' => r = .returned (.string (str (escS t))) ∧ Below w.heap.size w w' := by
  by_cases h0 : t = []
  · subst h0
    have e1 : str [] = ⟨#[]⟩ := rfl
    have HS := Lib.hid (StringNew_is (Blk.new w 56 #[.pointer none, .slice none 0 0]))
    have HB := Lib.hid ((Below.refl _ w).alloc (Nat.le_refl _) (.cells #[.pointer none, .slice none 0 0] 56))
    rw [show escS [] = [] from rfl, e1]
    rw [e1] at HS
    go_enter Try.func18, Try.ntmps18
    go_wp2_with fail
    go_loopw [7] (fun i wr => i = .int .i64 0 ∧ wr = w.alloc (.cells #[.pointer none, .slice none 0 0] 56)) (fun i _ => 0)
    case atStart => exact ⟨rfl, rfl⟩
    case round =>
      obtain ⟨rfl, rfl⟩ := hrel
      go_wp2_with fail
      refine HS.out.mono ?_
      rintro e w1 ⟨rfl, hb⟩
      have HB2 := Lib.hid (HB.out.trans (hb.mono HB.out.size))
      clear hb
      go_wp2_with fail
      go_ret
      exact ⟨rfl, HB2.out⟩
  · have hsz := str_len t
    have HL := Lib.hid ht
    have H0 := Lib.hid h0
    have e1 : str [42, 63, 91, 92] = ⟨#[42, 63, 91, 92]⟩ := rfl
    clear ht h0
    go_enter Try.func18, Try.ntmps18
    go_wp2_with fail
    go_loopw [7] (fun i wr => ∃ (k : Nat) (g : Option Nat), k ≤ t.length ∧ i = .int .i64 k ∧ Hid (Bld w wr w.heap.size g (escS (t.take k)))) (fun i _ => t.length - (intOf i).toNat)
    case atStart => exact ⟨0, none, by omega, rfl, Lib.hid (Bld.new w)⟩
    case round =>
      obtain ⟨k, g, hk, rfl, HW⟩ := hrel
      by_cases hlt : k < t.length
      · obtain ⟨c, hc⟩ : ∃ c, t[k]? = some c := ⟨_, List.getElem?_eq_getElem hlt⟩
        have hc256 := HL.out c (List.mem_of_getElem? hc)
        obtain ⟨hkc, hxc⟩ := str_at HL.out hc
        have HI := Lib.hid (IndexByteS_is [42, 63, 91, 92] (by simp) c hc256 wr)
        rw [e1] at HI
        have HE := Lib.hid (esc_take hc)
        have hle := esc_len (t.take k)
        rw [List.length_take] at hle
        have HQ := esc_mem c
        clear hc
        generalize escS (t.take k) = Z at *
        have hlz : Z.length ≤ 70368744177664 := by omega
        have r1 : decide ((k : Int) < (t.length : Int)) = true := decide_eq_true (by omega)
        generalize idxS [42, 63, 91, 92] c = z at *
        by_cases hsp : c = 42 ∨ c = 63 ∨ c = 91 ∨ c = 92
        · have HX : Hid (escS (t.take (k + 1)) = (Z ++ [92]) ++ [c]) := Lib.hid (by rw [HE.out, escB, if_pos hsp]; simp)
          rw [decide_eq_true hsp] at HQ
          have HW1 := Lib.hid (WriteByte_is HW.out 92 (by omega))
          clear hsp hle
          go_wp2_with fail
          refine HI.out.mono ?_
          rintro e w1 ⟨rfl, rfl⟩
          go_wp2_with fail
          refine HW1.out.mono ?_
          rintro e w2 ⟨rfl, g2, hB2, _, _⟩
          have HW2 := Lib.hid (WriteByte_is hB2 c (by rw [List.length_append, List.length_singleton]; omega))
          clear hB2
          go_wp2_with fail
          refine HW2.out.mono ?_
          rintro e w3 ⟨rfl, g3, hB3, _, _⟩
          rw [← HX.out] at hB3
          have HB3 := Lib.hid hB3
          clear hB3
          go_wp2_with fail
          go_roundw
          case rel => exact ⟨k + 1, g3, by omega, by go_num, HB3⟩
          case measure => simp [intOf]; omega
        · have HX : Hid (escS (t.take (k + 1)) = Z ++ [c]) := Lib.hid (by rw [HE.out, escB, if_neg hsp])
          rw [decide_eq_false hsp] at HQ
          have HW1 := Lib.hid (WriteByte_is HW.out c (by omega))
          clear hsp hle
          go_wp2_with fail
          refine HI.out.mono ?_
          rintro e w1 ⟨rfl, rfl⟩
          go_wp2_with fail
          refine HW1.out.mono ?_
          rintro e w3 ⟨rfl, g3, hB3, _, _⟩
          rw [← HX.out] at hB3
          have HB3 := Lib.hid hB3
          clear hB3
          go_wp2_with fail
          go_roundw
          case rel => exact ⟨k + 1, g3, by omega, by go_num, HB3⟩
          case measure => simp [intOf]; omega
      · obtain rfl : k = t.length := by omega
        rw [List.take_length] at HW
        have hle := esc_len t
        have HS := Lib.hid (String_is HW.out (esc_byte HL.out) (fun h => H0.out (esc_nil h)) (by omega))
        have r1 : decide ((t.length : Int) < (t.length : Int)) = false := decide_eq_false (by omega)
        clear hle hlt
        go_wp2_with fail
        refine HS.out.mono ?_
        rintro e w1 ⟨rfl, hb⟩
        have HB := Lib.hid hb
        clear hb
        go_wp2_with fail
        go_ret
        exact ⟨rfl, HB.out⟩
end Go.Proofs.Ytgocngglpdgaiaa
