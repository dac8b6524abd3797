/-
  The law QuoteInside: bytes without a meaning between quotes tell themselves; a byte of those that have one never does.
  Conditions: none.
-/
import Derived.Test.YtfpemegagangeaaQAlive
namespace Go.Proofs.Ytfpemegagangeaa
open Go.RowKit

/-- A byte without a meaning. -/
def calm (c : Nat) : Bool := decide (c ≠ 34 ∧ c ≠ 92 ∧ c ≠ 91 ∧ c ≠ 36)
theorem calm_next {b : List Nat} {k c : Nat} (h : b[k]? = some c) : (b.take (k + 1)).filter calm = (b.take k).filter calm ++ if calm c then [c] else [] := by
  have hk := (List.getElem?_eq_some_iff.1 h).1
  rw [List.take_succ_eq_append_getElem hk, (List.getElem?_eq_some_iff.1 h).2, List.filter_append]
  by_cases hc : calm c = true <;> simp [hc]
theorem calm_all {b : List Nat} : ∀ c ∈ b.filter calm, c ≠ 34 ∧ c ≠ 91 ∧ c ≠ 36 ∧ c ≠ 92 := by
  intro c hc
  have := (List.mem_filter.1 hc).2
  simp only [calm, decide_eq_true_eq] at this
  omega
theorem unq_whole {s : List Nat} (h : ∀ c ∈ s, c ≠ 34 ∧ c ≠ 91 ∧ c ≠ 36 ∧ c ≠ 92) : unquoteL ([34] ++ s ++ [34]) = (s, 0, 0) := by
  show unS (s ++ [34]) 1 [] = _
  rw [unS_none s [34] h, unS]
  simp
theorem unq_bracket {s : List Nat} (h : ∀ c ∈ s, c ≠ 34 ∧ c ≠ 91 ∧ c ≠ 36 ∧ c ≠ 92) : unquoteL ([34] ++ s ++ [91]) = ([], 1 + s.length, 4) := by
  show unS (s ++ [91]) 1 [] = _
  rw [unS_none s [91] h, unS]
  simp
theorem unq_cut {s : List Nat} (h : ∀ c ∈ s, c ≠ 34 ∧ c ≠ 91 ∧ c ≠ 36 ∧ c ≠ 92) : unquoteL ([34] ++ s) = ([], 0, 5) := by
  show unS s 1 [] = _
  have := unS_none s [] h 1 []
  rw [List.append_nil] at this
  rw [this, unS]

set_option maxRecDepth 100000 in
set_option maxHeartbeats 4000000 in
theorem inside_true (A : Option Addr) (n c : Nat) (b0 : List Nat) (w : World) (h : Rd w (.slice A n c) (bv b0)) (hb0 : ∀ d ∈ b0, d < 256) (hn : b0.length ≤ 9223372036854775807) :
    Calls Try.prog 8 #[.slice A n c] w fun e w' => e = .returned (.bool true) ∧ Below w.heap.size w w' := by
  obtain rfl := h.bytes
  obtain ⟨m, hm1, hm2, hm3⟩ : ∃ m : Nat, m ≤ b0.length ∧ m ≤ 200 ∧ min (b0.length : Int) 200 = (m : Int) := ⟨min b0.length 200, Nat.min_le_left _ _, Nat.min_le_right _ _, by omega⟩
  obtain ⟨A1, hsl, hE⟩ := run_upto h hm1
  have hbl : (b0.take m).length = m := by simp; omega
  have hb : ∀ d ∈ b0.take m, d < 256 := fun d hd => hb0 d (List.mem_of_mem_take hd)
  generalize b0.take m = b at *
  obtain rfl : b.length = m := hbl
  have HE := Lib.hid (And.intro hE hb)
  have HS := Lib.hid (And.intro hsl hm3)
  have s0 : Hid (str ((b.take 0).filter calm) = ⟨#[]⟩) := Lib.hid rfl
  clear h hE hb hb0
  go_enter Try.func8, Try.ntmps8
  go_wp2_with fail
  clear hsl hm3
  go_loopw [3, 21] (fun s i wr => ∃ k : Nat, k ≤ b.length ∧ i = .int .i64 k ∧ s = .string (str ((b.take k).filter calm)) ∧ Hid (Below w.heap.size w wr)) (fun _ i _ => b.length - (intOf i).toNat)
  case atStart => exact ⟨0, by omega, rfl, by rw [s0.out], Lib.hid (Below.refl _ _)⟩
  case round =>
    obtain ⟨k, hk, rfl, rfl, HW⟩ := hrel
    by_cases hlt : k < b.length
    · obtain ⟨p, o, d, rfl, hc, hd⟩ := (HE.out.1.kept HW.out).byteAt hlt
      have hd6 := HE.out.2 d (List.mem_of_getElem? hd)
      have HN := calm_next hd
      obtain ⟨Z, hZ⟩ : ∃ Z, Z = (b.take k).filter calm := ⟨_, rfl⟩
      obtain ⟨Z', hZ'⟩ : ∃ Z', Z' = (b.take (k + 1)).filter calm := ⟨_, rfl⟩
      have hlz : Z.length ≤ 200 := by rw [hZ]; have := List.length_filter_le calm (b.take k); have := List.length_take_le' k b; omega
      have HQ : Hid (Z' = Z ++ if calm d then [d] else []) := Lib.hid (by rw [hZ, hZ', HN])
      have HZ' := Lib.hid hZ'
      rw [← hZ]
      clear hZ hZ' HN hd
      by_cases hcm : calm d = true
      · have hx := hcm
        simp only [calm, decide_eq_true_eq] at hx
        have e1 : ((d : Int) != 34) = true := by simp; omega
        have e2 : ((d : Int) != 92) = true := by simp; omega
        have e3 : ((d : Int) != 91) = true := by simp; omega
        have e4 : ((d : Int) != 36) = true := by simp; omega
        have HQ2 : Hid (Z' = Z ++ [d]) := Lib.hid (by rw [HQ.out, if_pos hcm])
        have q := run_str_new wr #[.int .u8 (d : Nat)] [d] 1 rfl rfl
        have hcat := str_app Z [d]
        have hz : (str Z).size + (str [d]).size ≤ 9223372036854775807 := by rw [str_len, str_len]; simp; omega
        rw [← HQ2.out] at hcat
        clear hcm hx
        go_wp2_with fail
        go_roundw
        case rel => exact ⟨k + 1, by omega, by go_num, by rw [← HZ'.out], Lib.hid (HW.out.alloc HW.out.size _)⟩
        case measure => simp [intOf]; omega
      · have HQ2 : Hid (Z' = Z) := Lib.hid (by rw [HQ.out, if_neg hcm, List.append_nil])
        have hx : d = 34 ∨ d = 92 ∨ d = 91 ∨ d = 36 := by simp only [calm, decide_eq_true_eq] at hcm; omega
        clear hcm
        rcases hx with hx | hx | hx | hx
        all_goals
          subst hx
          go_wp2_with fail
          go_roundw
          case rel => exact ⟨k + 1, by omega, by go_num, by rw [← HZ'.out, HQ2.out], HW⟩
          case measure => simp [intOf]; omega
    · obtain rfl : k = b.length := by omega
      rw [List.take_length]
      have HC := Lib.hid (calm_all (b := b))
      have hs2 : (b.filter calm).length ≤ 200 := by have := List.length_filter_le calm b; omega
      have hs6 : ∀ x ∈ b.filter calm, x < 256 := fun x hx => HE.out.2 x (List.mem_filter.1 hx).1
      generalize b.filter calm = s at *
      have hs7 : ∀ d, d < 256 → ∀ x ∈ [34] ++ s ++ [d], x < 256 := by
        intro d hd x hx
        rcases List.mem_append.1 hx with hx | hx
        · rcases List.mem_append.1 hx with hx | hx
          · rw [List.mem_singleton.1 hx]; omega
          · exact hs6 x hx
        · rw [List.mem_singleton.1 hx]; exact hd
      have h34 : str [34] = ⟨#[34]⟩ := rfl
      have h91 : str [91] = ⟨#[91]⟩ := rfl
      have H1 : Hid (∀ W, Calls Try.prog 16 #[.string (str ([34] ++ s ++ [34]))] W (UnqTo W ([34] ++ s ++ [34]))) := Lib.hid fun W => Unquote_is _ (hs7 34 (by omega)) (by simp; omega) W
      have H2 : Hid (∀ W, Calls Try.prog 16 #[.string (str ([34] ++ s ++ [91]))] W (UnqTo W ([34] ++ s ++ [91]))) := Lib.hid fun W => Unquote_is _ (hs7 91 (by omega)) (by simp; omega) W
      have H3 : Hid (∀ W, Calls Try.prog 16 #[.string (str ([34] ++ s))] W (UnqTo W ([34] ++ s))) := Lib.hid fun W => Unquote_is _ (by simp; exact hs6) (by simp; omega) W
      have c1 := str_app [34] s
      have c2 := str_app ([34] ++ s) [34]
      have c3 := str_app ([34] ++ s) [91]
      have z1 : (1 : Nat) + (str s).size ≤ 9223372036854775807 := by rw [str_len]; omega
      have z2 : (str ([34] ++ s)).size + 1 ≤ 9223372036854775807 := by rw [str_len]; simp; omega
      have z3 := str_len s
      rw [h34] at c1 c2
      rw [h91] at c3
      unfold UnqTo at H1 H2 H3
      rw [unq_whole HC.out] at H1
      rw [unq_bracket HC.out] at H2
      rw [unq_cut HC.out] at H3
      clear h34 h91 hs6 hs7 HC
      generalize str ([34] ++ s ++ [34]) = u1 at *
      generalize str ([34] ++ s ++ [91]) = u2 at *
      generalize str ([34] ++ s) = u0 at *
      generalize hst : str s = t at *
      have HST := Lib.hid hst
      clear hst
      go_wp2_with fail
      refine (H1.out wr).mono ?_
      rintro e w2 ⟨A2, n2, c2, rfl, hr2, hn2, hb2⟩
      obtain rfl : n2 = s.length := hn2
      have q := run_str hr2
      rw [HST.out] at q
      have X2 := Lib.hid (HW.out.trans (hb2.mono HW.out.size))
      clear hr2 hb2 H1
      go_wp2_with fail
      refine (H2.out w2).mono ?_
      rintro e w3 ⟨A3, n3, c3, rfl, -, hn3, hb3⟩
      have X3 := Lib.hid (X2.out.trans (hb3.mono X2.out.size))
      clear hb3 H2 hn3
      go_wp2_with fail
      refine (H3.out w3).mono ?_
      rintro e w4 ⟨A4, n4, c4, rfl, -, hn4, hb4⟩
      have X4 := Lib.hid (X3.out.trans (hb4.mono X3.out.size))
      clear hb4 H3 hn4
      have t1 : ((1 + s.length : Nat) : Int) = 1 + (s.length : Int) := by omega
      go_wp2_with fail
      refine (alive_true w4).mono ?_
      rintro e w5 ⟨rfl, hb5⟩
      have X5 := Lib.hid (X4.out.trans (hb5.mono X4.out.size))
      clear hb5
      go_wp2_with fail
      go_ret
      exact ⟨rfl, X5.out⟩
end Go.Proofs.Ytfpemegagangeaa
