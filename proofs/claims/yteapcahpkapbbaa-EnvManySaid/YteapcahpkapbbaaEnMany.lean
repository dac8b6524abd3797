/-
  The law EnvMany.
  Conditions: none.
-/
import Derived.Test.YteapcahpkapbbaaEnOps
import Derived.Test.YteapcahpkapbbaaStrMid
import Derived.Test.YteapcahpkapbbaaRowAt
import Derived.Laws.Cover1
namespace Go.Proofs.Yteapcahpkapbbaa
open Go.RowKit

/-- The i-th name. -/
def manyN (i : Nat) : List Nat := [118, 97 + i / 26 % 26, 97 + i % 26, 65 + i / 676]
theorem many_less {i j : Nat} (h : i < j) (hj : j < 300) : lessN (manyN i) (manyN j) = true := by
  simp only [manyN, lessN, Bool.or_eq_true, Bool.and_eq_true, decide_eq_true_eq]
  refine .inr ⟨trivial, ?_⟩
  rcases (show i / 26 < j / 26 ∨ (i / 26 = j / 26 ∧ i % 26 < j % 26) by omega) with h1 | ⟨h1, h2⟩
  · exact .inl (by omega)
  · exact .inr ⟨by omega, .inl (by omega)⟩
theorem many_right {i : Nat} (h : i < 300) : rightN (manyN i) = true := by
  simp [rightN, manyN, nameB]
  omega
theorem many_bytes {i : Nat} (h : i < 300) : ∀ c ∈ manyN i, c < 256 := right_bytes (many_right h)
def manyV (j : Nat) (v : List Nat) : Vrs := (List.range (min j 256)).map fun i => (manyN i, v)
theorem many_names (j : Nat) (v : List Nat) : (manyV j v).map (·.1) = (List.range (min j 256)).map manyN := by
  simp [manyV, Function.comp_def]
theorem many_order (j : Nat) : ((List.range (min j 256)).map manyN).Pairwise fun a b => lessN a b = true := by
  rw [List.pairwise_map]
  refine (List.pairwise_lt_range (n := min j 256)).imp_of_mem fun {a b} ha hb h => many_less h ?_
  have := List.mem_range.1 hb
  omega
theorem sort_self {l : List (List Nat)} (h : l.Pairwise fun a b => lessN a b = true) : sortN l = l := by
  have hn : l.Nodup := h.imp fun {a b} hl e => by rw [e, less_self] at hl; cases hl
  exact order_same (sort_strict hn) h fun x => sort_mem
theorem many_sorted (j : Nat) (v : List Nat) : namesV (manyV j v) = (List.range (min j 256)).map manyN := by
  rw [namesV, many_names, sort_self (many_order j)]
theorem many_set {i : Nat} (hi : i < 300) {v : List Nat} (hv : v.length ≤ 100) : setV (manyV i v) (manyN i) v = if i < 256 then (0, manyV (i + 1) v) else (10, manyV (i + 1) v) := by
  have hno : ∀ j, j < (manyV i v).length → ∀ p, (manyV i v)[j]? = some p → p.1 ≠ manyN i := by
    intro j hj p hp e
    have hjl : j < min i 256 := by simpa [manyV] using hj
    rw [manyV, List.getElem?_map, List.getElem?_range hjl] at hp
    simp at hp
    rw [← hp] at e
    have := many_less (i := j) (j := i) (by omega) hi
    rw [show manyN j = manyN i from e, less_self] at this
    cases this
  obtain ⟨h1, h2⟩ := get_no hno
  have hl : (manyV i v).length = min i 256 := by simp [manyV]
  rw [setV, if_neg (by rw [many_right hi]; simp), if_neg (by omega), h1, h2]
  by_cases h : i < 256
  · rw [if_neg (by omega), if_pos h]
    congr 1
    rw [manyV, manyV, Nat.min_eq_left (by omega), Nat.min_eq_left (by omega), List.range_succ, List.map_append]
    rfl
  · rw [if_pos ⟨rfl, by omega⟩, if_neg h]
    congr 1
    rw [manyV, manyV, Nat.min_eq_right (by omega), Nat.min_eq_right (by omega)]
/-- Set of a variable that there is. -/
theorem set_old {l : Vrs} {n v : List Nat} {NM : List (List Nat)} (hl : l.map (·.1) = NM) (hn : n ∈ NM) (hr : rightN n = true) (hv : v.length ≤ 101) : ∃ l2, setV l n v = (0, l2) ∧ l2.map (·.1) = NM ∧ getV l2 n = some v := by
  have hg : getV l n ≠ none := fun e => (get_none.1 e) (by rw [hl]; exact hn)
  refine ⟨putV l n v, ?_, ?_, ?_⟩
  · rw [setV, if_neg (by rw [hr]; simp), if_neg (by omega), if_neg fun h => hg h.1]
  · rw [put_names, if_neg hg, hl]
  · rw [get_put, if_pos rfl]

set_option maxRecDepth 100000 in
set_option maxHeartbeats 8000000 in
theorem many_true (z : Int) (v0 : List Nat) (w : World) (hz : z ≤ 9223372036854775807) (hv0 : ∀ c ∈ v0, c < 256) (hvl : v0.length ≤ 9223372036854775807) :
    Calls Try.prog 9 #[.int .i64 z, .string (str v0)] w fun e w' => e = .returned (.bool true) ∧ Below w.heap.size w w' := by
  have hs0 := str_len v0
  obtain ⟨k, hk⟩ : ∃ k, k = min v0.length 100 := ⟨_, rfl⟩
  obtain ⟨v, hv⟩ : ∃ v, v = v0.take k := ⟨_, rfl⟩
  have hvn : v.length ≤ 100 := by rw [hv, List.length_take]; omega
  have hvb : ∀ c ∈ v, c < 256 := fun c hc => hv0 c (by rw [hv] at hc; exact List.mem_of_mem_take hc)
  have e1 : min (v0.length : Int) 100 = (k : Int) := by omega
  have hsl := fun W => run_strg_upto v0 k (by omega) W
  rw [← hv] at hsl
  obtain ⟨r, hr⟩ : ∃ r : Nat, r = z.toNat % 300 := ⟨_, rfl⟩
  have m0 : max 0 z % 300 = (r : Int) := by omega
  have hr3 : r < 300 := by omega
  have HV := Lib.hid (And.intro hvb hvn)
  have hsv := str_len v
  have HH := Lib.hid (And.intro hk hv)
  clear hk hv hv0 hvb hr
  go_enter Try.func9, Try.ntmps9
  go_wp2_with fail
  refine (new_1 (Below.refl _ w)).mono ?_
  rintro e w1 ⟨b, rfl, hm⟩
  have X1 := Lib.hid hm
  clear hm
  go_wp2_with fail
  refine (alive_true _).mono ?_
  rintro e w2 ⟨rfl, hb⟩
  have X2 := Lib.hid (X1.out.keep (env_framed _ _) hb)
  clear hb X1
  go_wp2_with fail
  try rw [m0]
  clear m0
  go_loopw [30] (fun iv wr => ∃ i : Nat, i ≤ r ∧ iv = .int .i64 (i : Nat) ∧ Hid (Has (EnvT b (manyV i v)) (fun _ => False) w wr)) (fun iv _ => r - (intOf iv).toNat)
  case atStart => exact ⟨0, by omega, rfl, X2⟩
  case round =>
    obtain ⟨i, hi, rfl, HW⟩ := hrel
    clear X2
    by_cases hlt : i < r
    · have r1 : decide ((i : Int) < (r : Int)) = true := decide_eq_true (by omega)
      obtain ⟨a1, ha1⟩ : ∃ x, x = 97 + i / 26 % 26 := ⟨_, rfl⟩
      obtain ⟨a2, ha2⟩ : ∃ x, x = 97 + i % 26 := ⟨_, rfl⟩
      obtain ⟨a3, ha3⟩ : ∃ x, x = 65 + i / 676 := ⟨_, rfl⟩
      have t1 : (i : Int).tdiv 26 = ((i / 26 : Nat) : Int) := by rw [Int.tdiv_eq_ediv_of_nonneg (by omega)]; omega
      have t2 : ((i / 26 : Nat) : Int).tmod 26 = ((i / 26 % 26 : Nat) : Int) := by rw [Int.tmod_eq_emod_of_nonneg (by omega)]; omega
      have t3 : (i : Int).tmod 26 = ((i % 26 : Nat) : Int) := by rw [Int.tmod_eq_emod_of_nonneg (by omega)]; omega
      have t4 : (i : Int).tdiv 676 = ((i / 676 : Nat) : Int) := by rw [Int.tdiv_eq_ediv_of_nonneg (by omega)]; omega
      have w1 : IntKind.i64.wrap ((i / 26 : Nat) : Int) = ((i / 26 : Nat) : Int) := IntWalk.i64_in _ (by omega)
      have w2 : IntKind.i64.wrap (97 + ((i / 26 % 26 : Nat) : Int)) = (a1 : Int) := by rw [IntWalk.i64_in _ (by omega)]; omega
      have w3 : IntKind.i64.wrap (97 + ((i % 26 : Nat) : Int)) = (a2 : Int) := by rw [IntWalk.i64_in _ (by omega)]; omega
      have w4 : IntKind.i64.wrap (65 + ((i / 676 : Nat) : Int)) = (a3 : Int) := by rw [IntWalk.i64_in _ (by omega)]; omega
      have w4' : IntKind.i64.wrap ((i / 676 : Nat) : Int) = ((i / 676 : Nat) : Int) := IntWalk.i64_in _ (by omega)
      have u1 : IntKind.u8.wrap (a1 : Int) = (a1 : Int) := IntWalk.u8_in _ (by omega)
      have u2 : IntKind.u8.wrap (a2 : Int) = (a2 : Int) := IntWalk.u8_in _ (by omega)
      have u3 : IntKind.u8.wrap (a3 : Int) = (a3 : Int) := IntWalk.u8_in _ (by omega)
      have hmn : manyN i = [118] ++ [a1, a2, a3] := by rw [ha1, ha2, ha3]; rfl
      have hcv := run_str (w := wr.alloc (.cells #[.int .u8 (a1 : Nat), .int .u8 (a2 : Nat), .int .u8 (a3 : Nat)] 5)) (Rd.ofBlk (heap_alloc_new wr _) [a1, a2, a3] rfl)
      have hz3 := str_len [a1, a2, a3]
      have l2 : (9223372036854775807 < (⟨#[118]⟩ : ByteArray).size + (str [a1, a2, a3]).size) = False := eq_false (by rw [hz3]; show ¬ (9223372036854775807 < 1 + 3); omega)
      have hal := (Below.refl wr.heap.size wr).alloc (Nat.le_refl _) (.cells #[.int .u8 (a1 : Nat), .int .u8 (a2 : Nat), .int .u8 (a3 : Nat)] 5)
      have HS := set_1 (HW.out.keep (env_framed _ _) hal) (manyN i) v (many_bytes (by omega)) HV.out.1 (by simp [manyN]) (by omega)
      rw [many_set (by omega) hvn, hmn, ← str_app, show str [118] = (⟨#[118]⟩ : ByteArray) from rfl] at HS
      simp only [List.length_cons, List.length_nil] at hcv
      generalize i / 26 % 26 = b1 at *
      generalize i / 26 = b2 at *
      generalize i % 26 = b3 at *
      generalize i / 676 = b4 at *
      clear ha1 ha2 ha3 hmn hal
      by_cases h256 : i < 256
      · rw [if_pos h256] at HS
        have HS1 := Lib.hid HS
        have d1 : decide ((i : Int) < 256) = true := decide_eq_true (by omega)
        clear HS
        go_wp2_with fail
        refine HS1.out.mono ?_
        rintro e w3 ⟨rfl, hm, -⟩
        have X3 := Lib.hid hm
        clear hm HS1 HW
        go_wp2_with fail
        go_roundw
        case rel => exact ⟨i + 1, by omega, by go_num, X3⟩
        case measure => simp [intOf]; omega
      · rw [if_neg h256] at HS
        have HS1 := Lib.hid HS
        have d1 : decide ((i : Int) < 256) = false := decide_eq_false (by omega)
        clear HS
        go_wp2_with fail
        refine HS1.out.mono ?_
        rintro e w3 ⟨rfl, hm, -⟩
        have X3 := Lib.hid hm
        clear hm HS1 HW
        go_wp2_with fail
        go_roundw
        case rel => exact ⟨i + 1, by omega, by go_num, X3⟩
        case measure => simp [intOf]; omega
    · obtain rfl : i = r := by omega
      have HN := Lib.hid (names_2 HW.out)
      rw [many_sorted] at HN
      obtain ⟨NM, hNM⟩ : ∃ NM, NM = (List.range (min i 256)).map manyN := ⟨_, rfl⟩
      have HNA := Lib.hid (many_names i v)
      rw [← hNM] at HN HNA
      have hnl : NM.length = min i 256 := by rw [hNM]; simp
      have HNM := Lib.hid hNM
      obtain ⟨M, hM⟩ : ∃ M, M = NM.length := ⟨_, rfl⟩
      have e2 : min (i : Int) 256 = (M : Int) := by omega
      rw [← hM] at HN
      have HM := Lib.hid hM
      have hM2 : M ≤ 256 := by omega
      clear hNM hnl hM
      go_wp2_with fail
      refine HN.out.mono ?_
      rintro e w3 ⟨A, c, go, rfl, hrow, hgo, hm, -⟩
      have X3 := Lib.hid (And.intro hrow hm)
      clear hrow hm HN HW
      go_wp2_with fail
      go_loopw [75] (fun jv wr => ∃ (j : Nat) (L : Vrs), j ≤ M ∧ jv = .int .i64 (j : Nat) ∧ Hid (L.map (·.1) = NM) ∧ Hid (Row wr 9 go (.slice A M c) (sv NM)) ∧ Hid (Has (EnvT b L) (fun x => False ∨ go = some x) w wr)) (fun jv _ => M - (intOf jv).toNat)
      case atStart => exact ⟨0, manyV i v, by omega, rfl, HNA, Lib.hid X3.out.1, Lib.hid X3.out.2⟩
      case round =>
        obtain ⟨j, L, hj, rfl, HL, HR, HE⟩ := hrel
        clear X3
        by_cases hjl : j < M
        · obtain ⟨A', c', e3, hle, h1, hx⟩ := HR.out.rd
          injection e3 with e4 e5 e6
          obtain ⟨b5, o5, e7, hcell⟩ := hx (by rw [sv_len, ← HM.out]; omega)
          have hNj : ∀ t, t < M → NM[t]? = some (manyN t) := fun t ht => by rw [HNM.out, List.getElem?_map, List.getElem?_range (by have := HM.out; rw [HNM.out] at this; simp at this; omega)]; rfl
          have q0 : wr.cell? ⟨b5, o5 + j, none⟩ = some (.string (str (manyN j))) := hcell j _ (sv_at (hNj j hjl))
          subst e4 e7
          have hjr : j < 300 := by omega
          obtain ⟨L2, hset, hL2, hg2⟩ := set_old (v := v ++ [49]) HL.out (List.mem_of_getElem? (hNj j hjl)) (many_right hjr) (by rw [List.length_append]; simp; omega)
          have HS := set_1 HE.out (manyN j) (v ++ [49]) (many_bytes hjr) (fun x hx => by rcases List.mem_append.1 hx with hx | hx; exact HV.out.1 x hx; rw [List.mem_singleton.1 hx]; omega) (by simp [manyN]) (by rw [List.length_append]; simp; omega)
          rw [hset, ← str_app, show str [49] = (⟨#[49]⟩ : ByteArray) from rfl] at HS
          have HS1 := Lib.hid HS
          have HG2 := Lib.hid hg2
          have HL2 := Lib.hid hL2
          have HMB := Lib.hid (many_bytes hjr)
          have HR2 := HR
          have l3 : (9223372036854775807 < (str v).size + (⟨#[49]⟩ : ByteArray).size) = False := eq_false (by rw [hsv]; show ¬ (9223372036854775807 < v.length + 1); omega)
          have r1 : decide ((j : Int) < (M : Int)) = true := decide_eq_true (by omega)
          have hq : (j = 0) ∨ (∃ t, j = t + 1 ∧ wr.cell? ⟨b5, o5 + t, none⟩ = some (.string (str (manyN t))) ∧ Op.bytesLess (str (manyN t)).toList (str (manyN j)).toList = true) := by
            rcases Nat.eq_zero_or_pos j with h0 | h0
            · exact .inl h0
            · refine .inr ⟨j - 1, by omega, hcell (j - 1) _ (sv_at (hNj (j - 1) (by omega))), ?_⟩
              rw [less_str (many_bytes (by omega)) (many_bytes hjr)]
              exact many_less (by omega) hjr
          clear hx hle h1 hcell hNj hset hL2 hg2 HS e5
          subst e6
          have HNL : Hid ((manyN j).length ≤ 4) := Lib.hid (by simp [manyN])
          generalize manyN j = nj at *
          rcases hq with h0 | ⟨t, ht, ct, lt⟩
          · have d0 : decide (0 < j) = false := decide_eq_false (by omega)
            clear h0
            go_wp2_with fail
            refine HS1.out.mono ?_
            rintro e w6 ⟨rfl, hm, hst⟩
            have X6 := Lib.hid hm
            have R6 := Lib.hid (hst.row (fun x hx => .inr hx) HR2.out)
            have HG6 := get_1 X6.out nj HMB.out (by have := HNL.out; omega)
            rw [HG2.out, show getE (some (v ++ [49])) = .tuple #[.string (str (v ++ [49])), .bool true] from rfl, ← str_app, show str [49] = (⟨#[49]⟩ : ByteArray) from rfl] at HG6
            have HG7 := Lib.hid HG6
            clear hm hst HS1 HG6 HE HR HR2
            go_wp2_with fail
            refine HG7.out.mono ?_
            rintro e w7 ⟨rfl, hm, hb⟩
            have X7 := Lib.hid hm
            have R7 := Lib.hid (R6.out.below hb fun x hx => R6.out.lt hx)
            clear hm hb X6 R6 HG7
            go_wp2_with fail
            go_roundw
            case rel => exact ⟨j + 1, L2, by omega, by go_num, HL2, R7, X7⟩
            case measure => simp [intOf]; omega
          · have d0 : decide (0 < j) = true := decide_eq_true (by omega)
            have wj : IntKind.i64.wrap ((j : Int) - 1) = (t : Int) := by rw [IntWalk.i64_in _ (by omega)]; omega
            have b1 : (t : Int) < (M : Int) := by omega
            have HTJ := Lib.hid ht
            generalize manyN t = nt at *
            clear ht
            go_wp2_with fail
            refine HS1.out.mono ?_
            rintro e w6 ⟨rfl, hm, hst⟩
            have X6 := Lib.hid hm
            have R6 := Lib.hid (hst.row (fun x hx => .inr hx) HR2.out)
            have HG6 := get_1 X6.out nj HMB.out (by have := HNL.out; omega)
            rw [HG2.out, show getE (some (v ++ [49])) = .tuple #[.string (str (v ++ [49])), .bool true] from rfl, ← str_app, show str [49] = (⟨#[49]⟩ : ByteArray) from rfl] at HG6
            have HG7 := Lib.hid HG6
            clear hm hst HS1 HG6 HE HR HR2
            go_wp2_with fail
            refine HG7.out.mono ?_
            rintro e w7 ⟨rfl, hm, hb⟩
            have X7 := Lib.hid hm
            have R7 := Lib.hid (R6.out.below hb fun x hx => R6.out.lt hx)
            clear hm hb X6 R6 HG7
            go_wp2_with fail
            go_roundw
            case rel => exact ⟨j + 1, L2, by omega, by go_num, HL2, R7, X7⟩
            case measure => simp [intOf]; omega
        · obtain rfl : j = M := by omega
          go_wp2_with fail
          go_ret
          exact ⟨rfl, HE.out.below⟩
end Go.Proofs.Yteapcahpkapbbaa
