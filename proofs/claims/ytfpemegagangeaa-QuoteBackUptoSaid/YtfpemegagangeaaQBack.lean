/-
  The law QuoteBack: what is quoted is unquoted; between its quotes stand plain bytes and backslashes alone.
  Conditions: at most 1048576 bytes.
-/
import Derived.Test.YtfpemegagangeaaQAlive
namespace Go.Proofs.Ytfpemegagangeaa
open Go.RowKit

theorem quoteL_first (b : List Nat) : (quoteL b)[0]? = some 34 := rfl
theorem quoteL_last (b : List Nat) : (quoteL b)[(b.flatMap qb).length + 1]? = some 34 := by
  show (b.flatMap qb ++ [34])[(b.flatMap qb).length]? = some 34
  rw [List.getElem?_append_right (Nat.le_refl _)]
  simp
theorem quoteL_mid {b : List Nat} {j : Nat} (h : j < (b.flatMap qb).length) : (quoteL b)[j + 1]? = some (b.flatMap qb)[j] := by
  show (b.flatMap qb ++ [34])[j]? = _
  rw [List.getElem?_append_left h, List.getElem?_eq_getElem h]

set_option maxRecDepth 100000 in
set_option maxHeartbeats 4000000 in
theorem back_true (A : Option Addr) (n c : Nat) (b : List Nat) (w : World) (h : Rd w (.slice A n c) (bv b)) (hb : ∀ d ∈ b, d < 256) (hn : b.length ≤ 1048576) :
    Calls Try.prog 5 #[.slice A n c] w fun e w' => e = .returned (.bool true) ∧ Below w.heap.size w w' := by
  obtain rfl := h.bytes
  have hqb := quoteL_byte hb
  have hfl := flat_len b
  have hql := quoteL_len b
  have HQ := Lib.hid (Quote_is A b.length c b w h hb (by omega))
  have HU := Lib.hid (Unquote_is (quoteL b) hqb (by omega))
  have HUQ := Lib.hid (unquote_quote hb)
  have HE := Lib.hid h
  have hsz : (str (quoteL b)).size = (b.flatMap qb).length + 2 := by rw [str_len, hql]
  obtain ⟨k1, hx1⟩ := str_at hqb (quoteL_first b)
  obtain ⟨k2, hx2⟩ := str_at hqb (quoteL_last b)
  have HM : Hid (∀ k, 1 ≤ k → k < (b.flatMap qb).length + 1 → ∃ x, x < 256 ∧ (x = 92 ∨ plain x = true) ∧ ∃ hk : k < (str (quoteL b)).size, ((str (quoteL b))[k]'hk).toNat = x) := Lib.hid fun k h1 h2 => by
    obtain ⟨j, rfl⟩ : ∃ j, k = j + 1 := ⟨k - 1, by omega⟩
    have hj : j < (b.flatMap qb).length := by omega
    exact ⟨_, flat_byte hb _ (List.getElem_mem hj), quote_inside hb _ (List.getElem_mem hj), str_at hqb (quoteL_mid hj)⟩
  clear hql hqb h hb
  unfold QuoTo at HQ
  unfold UnqTo at HU
  rw [HUQ.out] at HU
  generalize str (quoteL b) = s at *
  generalize (b.flatMap qb).length = m at *
  go_enter Try.func5, Try.ntmps5
  go_wp2_with fail
  refine HQ.out.mono ?_
  rintro e w1 ⟨rfl, hb1⟩
  have X1 := Lib.hid (And.intro hb1 (HE.out.kept hb1))
  clear hb1 HQ
  go_wp2_with fail
  refine (HU.out w1).mono ?_
  rintro e w2 ⟨A2, n2, c2, rfl, hr2, hn2, hb2⟩
  obtain rfl : n2 = b.length := hn2
  have s1 := run_str hr2
  have s2 := run_str (X1.out.2.kept hb2)
  have X2 := Lib.hid (X1.out.1.trans (hb2.mono X1.out.1.size))
  have q1 : decide (m + 2 < 2) = false := decide_eq_false (by omega)
  have q2 : decide ((m : Int) + 2 < 2) = false := decide_eq_false (by omega)
  have q3 : decide (((m + 2 : Nat) : Int) < 2) = false := decide_eq_false (by omega)
  clear hb2 hr2 HU X1
  generalize str b = t at *
  go_wp2_with fail
  go_loopw [7] (fun i wr => ∃ k : Nat, 1 ≤ k ∧ k ≤ m + 1 ∧ i = .int .i64 k ∧ Hid (Below w2.heap.size w2 wr)) (fun i _ => m + 1 - (intOf i).toNat)
  case atStart => exact ⟨1, by omega, by omega, rfl, Lib.hid (Below.refl _ _)⟩
  case round =>
    obtain ⟨k, hk1, hk, rfl, HB⟩ := hrel
    by_cases hlt : k < m + 1
    · obtain ⟨x, hx6, hpx, hks, hxx⟩ := HM.out k hk1 hlt
      have HC := Lib.hid (RPlain_is x hx6 wr)
      have t1 : decide ((k : Int) < (m : Int) + 2 - 1) = true := decide_eq_true (by omega)
      have t2 : decide ((k : Int) < (m : Int) + 1) = true := decide_eq_true (by omega)
      by_cases h92 : x = 92
      · have e92 : ((x : Int) != 92) = false := by simp [h92]
        clear h92 hpx
        go_wp2_with fail
        go_roundw
        case rel => exact ⟨k + 1, by omega, by omega, by go_num, HB⟩
        case measure => simp [intOf]; omega
      · have e92 : ((x : Int) != 92) = true := by simp; omega
        have hp : plain x = true := hpx.resolve_left h92
        rw [hp] at HC
        clear h92 hpx hp
        go_wp2_with fail
        refine HC.out.mono ?_
        rintro e w5 ⟨rfl, rfl⟩
        go_wp2_with fail
        go_roundw
        case rel => exact ⟨k + 1, by omega, by omega, by go_num, HB⟩
        case measure => simp [intOf]; omega
    · have t1 : decide ((k : Int) < (m : Int) + 2 - 1) = false := decide_eq_false (by omega)
      have t2 : decide ((k : Int) < (m : Int) + 1) = false := decide_eq_false (by omega)
      have t3 : decide ((m : Int) + 2 ≤ 2 + 4 * (b.length : Int)) = true := decide_eq_true (by omega)
      go_wp2_with fail
      refine (alive_true wr).mono ?_
      rintro e w6 ⟨rfl, hb6⟩
      have X6 := Lib.hid (X2.out.trans ((HB.out.trans (hb6.mono HB.out.size)).mono X2.out.size))
      clear hb6 HB
      go_wp2_with fail
      go_ret
      exact ⟨rfl, X6.out⟩
end Go.Proofs.Ytfpemegagangeaa
