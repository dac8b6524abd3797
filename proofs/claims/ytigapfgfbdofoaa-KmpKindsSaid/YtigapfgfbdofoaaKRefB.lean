/-
  cuecardref08's Borders and Longest: each length is looked at anew.
  Conditions: at most 1048576 things.
-/
import Derived.Test.YtigapfgfbdofoaaKRef
import Derived.Test.YtigapfgfbdofoaaKUpto
namespace Go.Proofs.Ytigapfgfbdofoaa
open Go.RowKit

theorem suf_at {s p : List Int} {k : Nat} (hp : k ≤ p.length) (hs : k ≤ s.length) : Suf s p k ↔ At s (p.take k) (s.length - k) := by
  unfold Suf At
  have h1 : (p.take k).length = k := by rw [List.length_take]; omega
  have h2 : (s.drop (s.length - k)).length = k := by rw [List.length_drop]; omega
  rw [h1, List.take_of_length_le (l := s.drop (s.length - k)) (by omega)]
  exact ⟨fun h => ⟨by omega, by omega, h.2.2⟩, fun h => ⟨hp, hs, h.2.2⟩⟩
theorem lastOf_next {P : Nat → Prop} [DecidablePred P] {k : Nat} (h1 : 1 ≤ k) : lastOf P k = if P k then k else lastOf P (k - 1) := by
  obtain ⟨n, rfl⟩ : ∃ n, k = n + 1 := ⟨k - 1, by omega⟩
  rfl
theorem lastOf_stop {P : Nat → Prop} [DecidablePred P] {k n : Nat} (hk : k ≤ n) (h : ∀ j, k < j → ¬ P j) : lastOf P n = lastOf P k := by
  induction n with
  | zero => obtain rfl : k = 0 := by omega
            rfl
  | succ n ih =>
    by_cases e : k = n + 1
    · rw [e]
    · rw [lastOf, if_neg (h _ (by omega)), ih (by omega)]

set_option maxRecDepth 100000 in
set_option maxHeartbeats 2000000 in
theorem Longest_i (A B : Option Addr) (n c m d : Nat) (s p : List Int) (hls : s.length ≤ 1048576) (hlp : p.length ≤ 1048576) (w : World) (hs : Rd w (.slice A n c) (iv s)) (hp : Rd w (.slice B m d) (iv p)) :
    Calls Try.prog 22 #[.slice A n c, .slice B m d] w fun e w' => e = .returned (.int .i64 (longest s p : Nat)) ∧ ∃ n, w' = w.drewN n := by
  obtain ⟨rfl, -⟩ := hs.ints
  obtain ⟨rfl, -⟩ := hp.ints
  have HA : Hid (∀ k, 1 ≤ k → k ≤ p.length → k ≤ s.length → ∃ B', (∀ W, (Instr.slice 22 (.slice B p.length d) none (some (.int .i64 ((k : Nat) : Int))) none).run Try.prog W = .ok (.slice B' k d) W) ∧
      ∀ nd, Calls Try.prog 26 #[.slice A s.length c, .slice B' k d, .int .i64 ((s.length : Int) - (k : Int))] (w.drewN nd) fun e w' => e = .returned (.bool (decide (Suf s p k))) ∧ ∃ n, w' = (w.drewN nd).drewN n) := Lib.hid fun k h1 hk hk2 => by
    obtain ⟨B', hrun, hr⟩ := run_upto_i hp hk
    refine ⟨B', hrun, fun nd => ?_⟩
    have := At_i A B' s.length c k d s (p.take k) (s.length - k) (by omega) (by omega) (by rw [List.length_take]; omega) (w.drewN nd) hs hr
    rw [show ((s.length - k : Nat) : Int) = (s.length : Int) - (k : Int) by omega] at this
    rwa [show decide (At s (p.take k) (s.length - k)) = decide (Suf s p k) by rw [Bool.eq_iff_iff]; simp only [decide_eq_true_eq]; exact (suf_at hk hk2).symm] at this
  clear hs hp
  have HL : Hid (longest s p = lastOf (Suf s p) p.length) := Lib.hid rfl
  go_enter Try.func22, Try.ntmps22
  go_wp2
  go_loopw [5, 6] (fun v i wr => ∃ k nd : Nat, 1 ≤ k ∧ k ≤ p.length + 1 ∧ k ≤ s.length + 1 ∧ i = .int .i64 k ∧ v = .int .i64 (lastOf (Suf s p) (k - 1) : Nat) ∧ wr = w.drewN nd) (fun _ i _ => p.length + 1 - (intOf i).toNat)
  case atStart => exact ⟨1, 0, by omega, by omega, by omega, rfl, rfl, rfl⟩
  case round =>
    obtain ⟨k, nd, h1, hk, hk2, rfl, rfl, rfl⟩ := hrel
    by_cases hlt : k ≤ p.length
    · by_cases hlt2 : k ≤ s.length
      · obtain ⟨B', hrun, hc⟩ := HA.out k h1 hlt hlt2
        have HC := Lib.hid (hc nd)
        have HN := Lib.hid (lastOf_next (P := Suf s p) h1)
        have q1 : decide (k ≤ p.length) = true := by simpa using hlt
        have q2 : decide (k ≤ s.length) = true := by simpa using hlt2
        clear hc
        by_cases hsf : Suf s p k
        · rw [if_pos hsf] at HN
          rw [show decide (Suf s p k) = true by simpa using hsf] at HC
          clear hsf
          go_wp2_with fail
          refine HC.out.mono ?_
          rintro e w1 ⟨rfl, nd2, rfl⟩
          go_wp2
          go_roundw
          case rel => exact ⟨k + 1, nd + nd2, by omega, by omega, by omega, by go_num, by rw [Nat.add_sub_cancel, HN.out], rfl⟩
          case measure => simp [intOf]; omega
        · rw [if_neg hsf] at HN
          rw [show decide (Suf s p k) = false by simpa using hsf] at HC
          clear hsf
          go_wp2_with fail
          refine HC.out.mono ?_
          rintro e w1 ⟨rfl, nd2, rfl⟩
          go_wp2
          go_roundw
          case rel => exact ⟨k + 1, nd + nd2, by omega, by omega, by omega, by go_num, by rw [Nat.add_sub_cancel, HN.out], rfl⟩
          case measure => simp [intOf]; omega
      · have q1 : decide (k ≤ p.length) = true := by simpa using hlt
        have q2 : decide (k ≤ s.length) = false := by simpa using hlt2
        have HE : Hid (longest s p = lastOf (Suf s p) (k - 1)) := Lib.hid (by rw [HL.out]; exact lastOf_stop (by omega) fun j hj hsj => by have := hsj.2.1; omega)
        go_wp2
        go_ret
        exact ⟨ret_int (by rw [HE.out]), _, rfl⟩
    · have q1 : decide (k ≤ p.length) = false := by simpa using hlt
      obtain rfl : k = p.length + 1 := by omega
      have HE : Hid (longest s p = lastOf (Suf s p) (p.length + 1 - 1)) := HL
      go_wp2
      go_ret
      exact ⟨ret_int (by rw [HE.out]; rfl), _, rfl⟩

theorem bords_next {l : List Int} {n : Nat} (h1 : 1 ≤ n) (hn : n ≤ l.length) : (bords l).take n = (bords l).take (n - 1) ++ [((border l n : Nat) : Int)] := by
  obtain ⟨m, rfl⟩ : ∃ m, n = m + 1 := ⟨n - 1, by omega⟩
  have hm : m < (bords l).length := by rw [bords_len]; omega
  rw [Nat.add_sub_cancel, List.take_succ_eq_append_getElem hm]
  simp [bords]

set_option maxRecDepth 100000 in
set_option maxHeartbeats 2000000 in
theorem RBorders_i (A : Option Addr) (n c : Nat) (l : List Int) (hl : l.length ≤ 1048576) (w : World) (hr : Rd w (.slice A n c) (iv l)) :
    Calls Try.prog 17 #[.slice A n c] w (IntsTo w (bords l)) := by
  obtain ⟨i0, hi0, hz0, hz1, hz2⟩ := info_parts int_info
  obtain ⟨rfl, -⟩ := hr.ints
  have HA : Hid (∀ n k, 1 ≤ k → k < n → n ≤ l.length → ∃ A1 A2, (∀ W, (Instr.slice 22 (.slice A l.length c) none (some (.int .i64 ((n : Nat) : Int))) none).run Try.prog W = .ok (.slice A1 n c) W) ∧
      (∀ W, (Instr.slice 22 (.slice A l.length c) none (some (.int .i64 ((k : Nat) : Int))) none).run Try.prog W = .ok (.slice A2 k c) W) ∧
      ∀ W, Below w.heap.size w W → Calls Try.prog 26 #[.slice A1 n c, .slice A2 k c, .int .i64 ((n : Int) - (k : Int))] W fun e w' => e = .returned (.bool (decide (Suf (l.take n) l k))) ∧ ∃ n, w' = W.drewN n) := Lib.hid fun n k h1 hk hn => by
    obtain ⟨A1, hrun1, hr1⟩ := run_upto_i hr hn
    obtain ⟨A2, hrun2, hr2⟩ := run_upto_i hr (show k ≤ l.length by omega)
    refine ⟨A1, A2, hrun1, hrun2, fun W hb => ?_⟩
    have hln : (l.take n).length = n := by rw [List.length_take]; omega
    have := At_i A1 A2 n c k c (l.take n) (l.take k) (n - k) (by omega) (by omega) (by rw [List.length_take]; omega) W (hr1.kept hb) (hr2.kept hb)
    rw [show ((n - k : Nat) : Int) = (n : Int) - (k : Int) by omega] at this
    have hsa := suf_at (s := l.take n) (p := l) (k := k) (by omega) (by omega)
    rw [hln] at hsa
    rwa [show decide (At (l.take n) (l.take k) (n - k)) = decide (Suf (l.take n) l k) by rw [Bool.eq_iff_iff]; simp only [decide_eq_true_eq]; exact hsa.symm] at this
  clear hr
  go_enter Try.func17, Try.ntmps17
  go_wp2
  go_loopw [3, 4] (fun v i wr => ∃ n : Nat, 1 ≤ n ∧ n ≤ l.length + 1 ∧ i = .int .i64 n ∧ Hid (IntsI w v ((bords l).take (n - 1)) wr)) (fun _ i _ => l.length + 1 - (intOf i).toNat)
  case atStart => exact ⟨1, by omega, by omega, rfl, Lib.hid (IntsI.nil w)⟩
  case round =>
    obtain ⟨n, hn1, hn, rfl, HI⟩ := hrel
    obtain ⟨A1, c1, rfl⟩ := HI.out.form
    have hbl : ((bords l).take (n - 1)).length = n - 1 := by rw [List.length_take, bords_len]; omega
    rw [hbl] at HI ⊢
    by_cases hlt : n ≤ l.length
    · have q1 : decide (n ≤ l.length) = true := by simpa using hlt
      have HB := Lib.hid (bords_next hn1 hlt)
      have HE : Hid (border l n = lastOf (fun k => Suf (l.take n) l k) (n - 1)) := Lib.hid rfl
      go_wp2
      go_loopw [5, 6] (fun v i wi => ∃ k : Nat, 1 ≤ k ∧ k ≤ n ∧ i = .int .i64 k ∧ v = .int .i64 (lastOf (fun k => Suf (l.take n) l k) (k - 1) : Nat) ∧ Hid (IntsI w (.slice A1 (n - 1) c1) ((bords l).take (n - 1)) wi)) (fun _ i _ => n - (intOf i).toNat)
      case atStart => exact ⟨1, by omega, by omega, rfl, rfl, HI⟩
      case round =>
        obtain ⟨k, hk1, hk, rfl, rfl, HJ⟩ := hrel
        by_cases hkn : k < n
        · obtain ⟨B1, B2, hrun1, hrun2, hc⟩ := HA.out n k hk1 hkn hlt
          have HC := Lib.hid (fun nd => hc (wr.drewN nd) ((HJ.out.drewN nd).choose_spec.2.2))
          have HN := Lib.hid (lastOf_next (P := fun k => Suf (l.take n) l k) hk1)
          have w1 : IntKind.i64.wrap ((n : Int) - (k : Int)) = (n : Int) - (k : Int) := IntWalk.i64_in _ (by omega)
          clear hc
          by_cases hsf : Suf (l.take n) l k
          · rw [if_pos hsf] at HN
            rw [show decide (Suf (l.take n) l k) = true by simpa using hsf] at HC
            clear hsf
            go_wp2
            go_quiet ((go_at_call 26; exact Calls.quiet_of (HC.out _)))
            clear w1
            go_wp2
            go_roundw
            case rel => exact ⟨k + 1, by omega, by omega, by go_num, by rw [Nat.add_sub_cancel, HN.out], Lib.hid (HJ.out.drewN _)⟩
            case measure => simp [intOf]; omega
          · rw [if_neg hsf] at HN
            rw [show decide (Suf (l.take n) l k) = false by simpa using hsf] at HC
            clear hsf
            go_wp2
            go_quiet ((go_at_call 26; exact Calls.quiet_of (HC.out _)))
            clear w1
            go_wp2
            go_roundw
            case rel => exact ⟨k + 1, by omega, by omega, by go_num, by rw [Nat.add_sub_cancel, HN.out], Lib.hid (HJ.out.drewN _)⟩
            case measure => simp [intOf]; omega
        · obtain rfl : k = n := by omega
          rw [← HE.out]
          obtain ⟨go, hr, hg, hb⟩ := HJ.out
          have X := Lib.hid (And.intro hr (And.intro hg hb))
          have Hbl := Lib.hid hbl
          clear hr hg hb HJ HI hbl
          go_wp2_with (at_builtin; refine wpList_append_row _ rfl (.tmp 31) (.tmp 33) _ rfl 3 i0 _ 8 Try.underlying22 hi0 hz0 hz1 hz2 rfl go _ (iv ((bords l).take (k - 1))) rfl (X.out.1.alloc _) _ [.int .i64 (border l k : Nat)] rfl (Rd.lit _ 3 #[.int .i64 (border l k : Nat)] 1 rfl (by omega) (by omega) (by simp [Value.oneCell'])) (by rw [iv_len, Hbl.out]; simp only [maxLen]; simp; omega) (by rw [iv_len, Hbl.out]; simp; omega) ?_; intro B' d' w7 gn hrow' hgr hgn; simp only [iv_len, Hbl.out] at hrow' ⊢; have Y := Lib.hid (And.intro hrow' (And.intro hgr hgn)); clear hrow' hgr hgn)
          go_roundw
          case rel =>
            refine ⟨k + 1, by omega, by omega, by go_num, Lib.hid ?_⟩
            rw [Nat.add_sub_cancel, HB.out]
            have := IntsI.grown (w0 := w) (xs := (bords l).take (k - 1)) (ys := [((border l k : Nat) : Int)]) X.out.2.1 (X.out.2.2.alloc X.out.2.2.size _) Y.out.1 Y.out.2.1 Y.out.2.2
            simpa [Nat.sub_add_cancel hn1] using this
          case measure => simp [intOf]; omega
    · have q1 : decide (n ≤ l.length) = false := by simpa using hlt
      obtain rfl : n = l.length + 1 := by omega
      have HT : Hid ((bords l).take (l.length + 1 - 1) = bords l) := Lib.hid (by rw [Nat.add_sub_cancel, ← bords_len l, List.take_length])
      go_wp2
      go_ret
      have := HI.out.to
      rwa [HT.out] at this
end Go.Proofs.Ytigapfgfbdofoaa
