/-
  The law WindowCuts.
  Conditions: none.
-/
import Derived.Test.YtkfpameaopjjnaaWnOps
import Derived.Test.YtkfpameaopjjnaaCut
namespace Go.Proofs.Ytkfpameaopjjnaa
open Go.RowKit

/-- b[:min(len(b), m)]. -/
theorem run_min {w : World} {A : Option Addr} {n c : Nat} {bs : List Nat} (h : Rd w (.slice A n c) (bv bs)) (m : Nat) :
    ∃ A', (∀ W, (Instr.slice 30 (.slice A n c) none (some (.int .i64 (min (n : Int) (m : Int)))) none).run Try.prog W = .ok (.slice A' (bs.take m).length c) W) ∧ Rd w (.slice A' (bs.take m).length c) (bv (bs.take m)) := by
  have hn := h.bytes
  obtain ⟨A', h1, h2⟩ := run_upto h (k := min n m) (by omega)
  have e1 : (min (n : Int) (m : Int)) = ((min n m : Nat) : Int) := by omega
  have e2 : (bs.take m).length = min n m := by rw [List.length_take]; omega
  have e3 : bs.take (min n m) = bs.take m := by
    rcases Nat.le_total n m with h3 | h3
    · rw [Nat.min_eq_left h3, List.take_of_length_le (by omega), List.take_of_length_le (by omega)]
    · rw [Nat.min_eq_right h3]
  rw [e1, e2]
  rw [e3] at h2
  exact ⟨A', h1, h2⟩
theorem num30 (z : Int) : ∃ n : Nat, n < 30 ∧ (max 0 z).tmod 30 = (n : Int) := by
  have h0 : (0 : Int) ≤ max 0 z := by omega
  have h1 := Int.tmod_lt_of_pos (max 0 z) (show (0 : Int) < 30 by omega)
  have h2 := Int.tmod_nonneg 30 h0
  exact ⟨((max 0 z).tmod 30).toNat, by omega, by omega⟩

set_option maxRecDepth 100000 in
set_option maxHeartbeats 2000000 in
theorem cuts_true (z : Int) (A1 : Option Addr) (n1 c1 : Nat) (l : List Nat) (A2 : Option Addr) (n2 c2 : Nat) (m : List Nat) (w : World) (h1 : Rd w (.slice A1 n1 c1) (bv l)) (hl : ∀ d ∈ l, d < 256) (h2 : Rd w (.slice A2 n2 c2) (bv m)) (hm : ∀ d ∈ m, d < 256) :
    Calls Try.prog 6 #[.int .i64 z, .slice A1 n1 c1, .slice A2 n2 c2] w fun e w' => e = .returned (.bool true) ∧ Below w.heap.size w w' := by
  obtain ⟨k, hk, hkz⟩ := num30 z
  obtain ⟨n, hn1, hn2, hn3⟩ : ∃ n : Nat, 1 ≤ n ∧ n ≤ 30 ∧ (1 : Int) + (k : Int) = (n : Int) := ⟨1 + k, by omega, by omega, by omega⟩
  obtain ⟨A3, hrun3, hr3⟩ := run_min h1 200
  obtain ⟨A4, hrun4, hr4⟩ := run_min h2 200
  have e3 : (l.take 200).length ≤ 200 := by rw [List.length_take]; omega
  have e4 : (m.take 200).length ≤ 200 := by rw [List.length_take]; omega
  have b3 : ∀ d ∈ l.take 200, d < 256 := fun d hd => hl d (List.mem_of_mem_take hd)
  have b4 : ∀ d ∈ m.take 200, d < 256 := fun d hd => hm d (List.mem_of_mem_take hd)
  generalize l.take 200 = l3 at *
  generalize m.take 200 = l4 at *
  have H3 := Lib.hid (And.intro hr3.old b3)
  have H4 := Lib.hid (And.intro hr4.old b4)
  have hl1 := h1.le
  have hl2 := h2.le
  rw [show (((200 : Nat)) : Int) = 200 from rfl] at hrun3 hrun4
  clear hl hm h1 h2 b3 b4 hr3 hr4
  go_enter Try.func6, Try.ntmps6
  go_wp2_with fail
  refine (new_has n (by omega) (by omega) (Below.refl _ w)).mono ?_
  rintro e w1 ⟨b, rfl, hw⟩
  have X1 := Lib.hid hw
  clear hw
  go_wp2_with fail
  refine (new_two n (by omega) (by omega) X1.out (win_framed _ _ _ _ _)).mono ?_
  rintro e w2 ⟨d, rfl, hw⟩
  have X2 := Lib.hid hw
  clear hw X1
  have fS : Framed (Star (WinT b n n [] 0) (WinT d n n [] 0)) := Star.framed (win_framed _ _ _ _ _) (win_framed _ _ _ _ _)
  go_wp2_with fail
  refine (alive_true _).mono ?_
  rintro e w3 ⟨rfl, hb⟩
  have X3 := Lib.hid (X2.out.keep fS hb)
  clear hb X2 fS
  go_wp2_with fail
  go_quiet (fail)
  have fS : Framed (Star (WinT b n n [] 0) (WinT d n n [] 0)) := Star.framed (win_framed _ _ _ _ _) (win_framed _ _ _ _ _)
  have X4 := Lib.hid (X3.out.drewN fS nq)
  generalize World.drewN w3 _ = w4 at *
  clear X3 fS hrun3 hrun4
  have P4 := Lib.hid (put_l X4.out (win_framed _ _ _ _ _) (old_out H3.out.1 X4.out.below) H3.out.2 (by omega) (by omega))
  go_wp2_with fail
  refine P4.out.mono ?_
  rintro e w5 ⟨rfl, hw, -⟩
  have X5 := Lib.hid hw
  clear hw X4 P4
  have P5 := Lib.hid (X5.out.callL (win_framed _ _ _ _ _) fun F hw _ => Cut_is hw)
  go_wp2_with fail
  refine P5.out.mono ?_
  rintro e w6 ⟨rfl, hw, -⟩
  have X6 := Lib.hid hw
  clear hw X5 P5
  have P6 := Lib.hid (put_l X6.out (win_framed _ _ _ _ _) (old_out H4.out.1 X6.out.below) H4.out.2 (by omega) (by omega))
  go_wp2_with fail
  refine P6.out.mono ?_
  rintro e w7 ⟨rfl, hw, -⟩
  have X7 := Lib.hid hw
  clear hw X6 P6
  have P7 := Lib.hid (put_r X7.out (win_framed _ _ _ _ _) (old_out H4.out.1 X7.out.below) H4.out.2 (by omega) (by omega))
  go_wp2_with fail
  refine P7.out.mono ?_
  rintro e w8 ⟨rfl, hw, -⟩
  simp only [List.nil_append, Nat.zero_add] at hw
  have X8 := Lib.hid hw
  clear hw X7 P7
  generalize lastS n l4 = L at *
  generalize l4.length = T at *
  go_wp2_with fail
  have fS : Framed (Star (WinT b n n L T) (WinT d n n L T)) := Star.framed (win_framed _ _ _ _ _) (win_framed _ _ _ _ _)
  have HF := Lib.hid fS
  have X8d := Lib.hid (X8.out.drew fS)
  clear fS
  go_region_held (fun _ => Hid True) (exact Lib.hid trivial) (first
    | (go_at_call 19; (with_reducible refine (bytes_l X8d.out).mono ?_); rintro e wa ⟨Aa, ca, ga, rfl, ra, -, ba⟩; have sa := run_str ra.rd; have Ha := Lib.hid (And.intro (X8d.out.keep HF.out ba) ra.rd); clear ra ba)
    | (go_at_call 19; (with_reducible refine (bytes_r Ha.out.1).mono ?_); rintro e wb ⟨Ab, cb, gb, rfl, rb, -, bb⟩; have sb := run_str rb.rd; have tb := run_str (Ha.out.2.kept bb); have Hb := Lib.hid (Ha.out.1.keep HF.out bb); clear rb bb)
    | (go_at_call 20; (with_reducible refine (total_l Hb.out).mono ?_); rintro e wc ⟨rfl, dc⟩; have Hc := Lib.hid (Hb.out.drewL HF.out dc); clear dc)
    | (go_at_call 20; (with_reducible refine (total_r Hc.out).mono ?_); rintro e wd ⟨rfl, dd⟩; have Hd := Lib.hid (Hc.out.drewL HF.out dd); clear dd))
  all_goals
    go_wp2_with fail
    go_ret
    exact ⟨rfl, Hd.out.below⟩
end Go.Proofs.Ytkfpameaopjjnaa
