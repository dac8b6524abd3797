/-
  What the program's Check, Match and Span answer.
  Conditions: a text of at most 140737488351232 bytes.
-/
import Derived.Test.YtcipljpalohjiaaDoorGlPlc
import Derived.Test.YtcipljpalohjiaaDoorGlRSpan
namespace Go.Proofs.YtcipljpalohjiaaDoor
open Go.RowKit

def spanE (k : Option Nat) (e : Nat) : Value := .tuple #[.int .i64 (k.getD 0 : Nat), .bool k.isSome, .int .i64 (e : Nat)]
theorem errS_zero {p : List Nat} (h : errS p = 0) : ¬ 1024 < p.length ∧ ∃ l, thingsS p = some l := by
  unfold errS at h
  by_cases h1 : 1024 < p.length
  · rw [if_pos h1] at h; omega
  · rw [if_neg h1] at h
    cases hk : thingsS p with
    | none => rw [hk] at h; simp at h
    | some l => exact ⟨h1, l, rfl⟩
theorem placeS_err {p : List Nat} (h : errS p ≠ 0) (t : List Nat) (most : Int) : placeS p t most = none := by
  unfold placeS
  split
  · rfl
  · rename_i h1
    cases hk : thingsS p with
    | none => rfl
    | some l => exact absurd (by rw [errS, if_neg h1, if_neg (by rw [hk]; simp)]) h
theorem placeS_ok {p : List Nat} {l : List Thg} (h : p.length ≤ 1024) (k : thingsS p = some l) (t : List Nat) (most : Int) : placeS p t most = spanS l t most := by
  rw [placeS, if_neg (by omega), k]
theorem okS_place (p t : List Nat) : okS p t = (decide (placeS p t (t.length : Nat) = some 0)) := by
  unfold okS placeS
  by_cases h1 : 1024 < p.length
  · rw [if_pos h1, decide_eq_false (by omega)]; rfl
  · rw [if_neg h1, decide_eq_true (by omega), Bool.true_and]
    cases thingsS p with
    | none => rfl
    | some l =>
      show likeS l t = decide (firstS l t = some 0)
      rw [Bool.eq_iff_iff, decide_eq_true_eq, first_zero]

set_option maxRecDepth 100000 in
set_option maxHeartbeats 1000000 in
theorem Check_is (p : List Nat) (hp : ∀ c ∈ p, c < 256) (hn : p.length ≤ 9223372036854775807) (w : World) :
    Calls Tryd.prog 27 #[.string (str p)] w fun r w' => r = .returned (.int .i64 (errS p : Nat)) ∧ Below w.heap.size w w' := by
  have HP := Lib.hid (parse_is p hp hn w)
  clear hp hn
  go_enter Tryd.func27, Tryd.ntmps27
  go_wp2_with fail
  refine HP.out.mono ?_
  rintro e w1 ⟨hb, ⟨he, rfl⟩ | ⟨he, v, ll, rfl, h⟩⟩
  · have HB := Lib.hid hb
    clear hb he
    go_wp2_with fail
    go_ret
    exact ⟨rfl, HB.out⟩
  · have HB := Lib.hid hb
    have HE := Lib.hid he
    clear hb he h
    go_wp2_with fail
    go_ret
    exact ⟨by rw [HE.out]; rfl, HB.out⟩

set_option maxRecDepth 100000 in
set_option maxHeartbeats 2000000 in
theorem Span_is (p t : List Nat) (hp : ∀ c ∈ p, c < 256) (hn : p.length ≤ 9223372036854775807) (ht : ∀ c ∈ t, c < 256) (hm : t.length ≤ 140737488351232) (most : Int) (hz : -9223372036854775808 ≤ most ∧ most ≤ 9223372036854775807) (w : World) :
    Calls Tryd.prog 67 #[.string (str p), .string (str t), .int .i64 most] w fun r w' => r = .returned (spanE (placeS p t most) (errS p)) ∧ Below w.heap.size w w' := by
  have hsz := str_len t
  have HP := Lib.hid (parse_is p hp hn w)
  have HT := Lib.hid ht
  obtain ⟨hz1, hz2⟩ := hz
  clear hp hn ht
  go_enter Tryd.func67, Tryd.ntmps67
  go_wp2_with fail
  refine HP.out.mono ?_
  rintro e w1 ⟨hb, ⟨he, rfl⟩ | ⟨he, v, ll, rfl, hv, h0, hs, hpl, hth⟩⟩
  · have HB := Lib.hid hb
    have HE : Hid (spanE (placeS p t most) (errS p) = .tuple #[.int .i64 0, .bool false, .int .i64 (errS p : Nat)]) := Lib.hid (by rw [placeS_err he]; rfl)
    have q1 : (((errS p : Nat) : Int) != 0) = true := by simp; omega
    clear hb he HP
    go_wp2_with fail
    go_ret3
    exact ⟨by rw [HE.out]; rfl, HB.out⟩
  · have HE0 : Hid (spanE (placeS p t most) (errS p) = spanE (spanS (joinR ll) t most) 0) := Lib.hid (by rw [he, placeS_ok hpl hth])
    have hjl := things_len p.length p _ (Nat.le_refl _) hth
    have hll := joinR_len ll
    have HLL := Lib.hid (place_of (ll := ll) v)
    have HB := Lib.hid hb
    have HV := Lib.hid hv
    have HLN : Hid (ll.length ≤ 1025 ∧ ∀ r ∈ ll, r.length ≤ 1024) := Lib.hid ⟨by omega, fun r hr => by have := hll.2 r hr; omega⟩
    have HS := Lib.hid (And.intro h0 hs)
    clear hb he HP hv h0 hs hth hjl hll hpl
    generalize hll : joinR ll = l at *
    by_cases hneg : most < 0
    · have HE : Hid (spanE (spanS l t most) 0 = .tuple #[.int .i64 0, .bool false, .int .i64 0]) := Lib.hid (by rw [span_neg hneg]; rfl)
      clear hll
      go_wp2_with fail
      go_ret3
      exact ⟨by rw [HE0.out, HE.out]; rfl, HB.out⟩
    · obtain ⟨f, hf⟩ : ∃ f : Nat, (f : Int) = max 0 ((t.length : Int) - most) := ⟨(max 0 ((t.length : Int) - most)).toNat, by omega⟩
      have hfl : f ≤ t.length := by omega
      have q1 : decide (most < 0) = false := decide_eq_false hneg
      have HPL := Lib.hid (HLL.out (t.drop f) w1 HV.out HS.out.1 HS.out.2 HLN.out.1 HLN.out.2 (fun c hc => HT.out c (List.mem_of_mem_drop hc)) (by rw [List.length_drop]; omega))
      rw [span_of_first (l := l) (by omega) hf] at HE0
      have hrun := fun W => run_from_str t f hfl W
      have hfk : ∀ k, firstS l (t.drop f) = some k → k ≤ t.length - f := fun k hk => by
        rcases first_cases l (t.drop f) with ⟨k2, e, h2, _⟩ | ⟨e, _⟩
        · rw [e] at hk; cases hk; rwa [List.length_drop] at h2
        · rw [e] at hk; cases hk
      generalize str (t.drop f) = sd at *
      have hmx : max 0 ((t.length : Int) - most) = (f : Int) := hf.symm
      clear hf hll HLL
      cases hq : firstS l (t.drop f) with
      | none =>
        rw [hq] at HPL HE0
        rw [show plcE none = .tuple #[.int .i64 0, .bool false] from rfl] at HPL
        clear hq hfk
        go_wp2_with fail
        refine HPL.out.mono ?_
        rintro e w2 ⟨rfl, hb2⟩
        have HB2 := Lib.hid (HB.out.trans (hb2.mono HB.out.size))
        clear hb2
        go_wp2_with fail
        go_ret3
        exact ⟨by rw [HE0.out]; rfl, HB2.out⟩
      | some k =>
        rw [hq] at HPL HE0
        rw [show plcE (some k) = .tuple #[.int .i64 (k : Nat), .bool true] from rfl] at HPL
        have hk := hfk k hq
        clear hq hfk
        go_wp2_with fail
        refine HPL.out.mono ?_
        rintro e w2 ⟨rfl, hb2⟩
        have HB2 := Lib.hid (HB.out.trans (hb2.mono HB.out.size))
        clear hb2
        go_wp2_with fail
        go_ret3
        rw [HE0.out]
        exact ⟨by unfold spanE; go_num, HB2.out⟩

set_option maxRecDepth 100000 in
set_option maxHeartbeats 1000000 in
theorem Match_is (p t : List Nat) (hp : ∀ c ∈ p, c < 256) (hn : p.length ≤ 9223372036854775807) (ht : ∀ c ∈ t, c < 256) (hm : t.length ≤ 140737488351232) (w : World) :
    Calls Tryd.prog 64 #[.string (str p), .string (str t)] w fun r w' => r = .returned (.tuple #[.bool (okS p t), .int .i64 (errS p : Nat)]) ∧ Below w.heap.size w w' := by
  have hsz := str_len t
  have HS := Lib.hid (Span_is p t hp hn ht hm (t.length : Nat) (by omega) w)
  have HO := Lib.hid (okS_place p t)
  clear hp hn ht
  generalize errS p = z at *
  cases hq : placeS p t (t.length : Nat) with
  | none =>
    rw [hq] at HS HO
    rw [show spanE none z = .tuple #[.int .i64 0, .bool false, .int .i64 (z : Nat)] from rfl] at HS
    have HR : Hid (okS p t = false) := Lib.hid (by rw [HO.out]; rfl)
    clear hq HO
    go_enter Tryd.func64, Tryd.ntmps64
    go_wp2_with fail
    refine HS.out.mono ?_
    rintro e w1 ⟨rfl, hb⟩
    have HB := Lib.hid hb
    clear hb
    go_wp2_with fail
    go_ret2
    exact ⟨by rw [HR.out]; rfl, HB.out⟩
  | some k =>
    rw [hq] at HS HO
    rw [show spanE (some k) z = .tuple #[.int .i64 (k : Nat), .bool true, .int .i64 (z : Nat)] from rfl] at HS
    have HR : Hid (okS p t = ((k : Int) == 0)) := Lib.hid (by
      rw [HO.out, Bool.eq_iff_iff, decide_eq_true_eq, beq_iff_eq]
      constructor
      · intro h; cases h; rfl
      · intro h; congr 1; omega)
    clear hq HO
    go_enter Tryd.func64, Tryd.ntmps64
    go_wp2_with fail
    refine HS.out.mono ?_
    rintro e w1 ⟨rfl, hb⟩
    have HB := Lib.hid hb
    clear hb
    go_wp2_with fail
    go_ret2
    exact ⟨by rw [HR.out]; rfl, HB.out⟩

end Go.Proofs.YtcipljpalohjiaaDoor
