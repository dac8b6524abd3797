/-
  The law TailJoins: texts stand in a stream one behind the other just if the first ones do, and the others behind where these end.
  Conditions: no text has more than 1048576 bytes.
-/
import Derived.Test.YtialecghpekcnaaTLAlive
namespace Go.Proofs.Ytialecghpekcnaa
open Go.RowKit

set_option maxRecDepth 100000 in
set_option maxHeartbeats 4000000 in
theorem joins_true (A : Option Addr) (n c : Nat) (t : List Nat) (B : Option Addr) (m d : Nat) (la : List (List Nat)) (C : Option Addr) (k f : Nat) (lb : List (List Nat)) (w : World) (ht : Rd w (.slice A n c) (bv t)) (ha : Lists w (.slice B m d) la) (hb : Lists w (.slice C k f) lb)
    (hbt : ∀ b ∈ t, b < 256) (hba : ∀ p ∈ la, ∀ b ∈ p, b < 256) (hpa : ∀ p ∈ la, p.length ≤ 1048576) (hbb : ∀ p ∈ lb, ∀ b ∈ p, b < 256) (hpb : ∀ p ∈ lb, p.length ≤ 1048576) :
    Calls Try.prog 8 #[.slice A n c, .slice B m d, .slice C k f] w fun e w' => e = .returned (.bool true) ∧ Below w.heap.size w w' := by
  obtain ⟨i0, hi0, hz0, hz1, hz2⟩ := info_parts list_info
  obtain ⟨n1, hn1, hn2, hn3⟩ : ∃ k : Nat, k ≤ n ∧ k ≤ 150 ∧ min (n : Int) 150 = (k : Int) := ⟨min n 150, Nat.min_le_left _ _, Nat.min_le_right _ _, by omega⟩
  obtain ⟨m1, hm1, hm2, hm3⟩ : ∃ k : Nat, k ≤ m ∧ k ≤ 8 ∧ min (m : Int) 8 = (k : Int) := ⟨min m 8, Nat.min_le_left _ _, Nat.min_le_right _ _, by omega⟩
  obtain ⟨k1, hk1, hk2, hk3⟩ : ∃ i : Nat, i ≤ k ∧ i ≤ 8 ∧ min (k : Int) 8 = (i : Int) := ⟨min k 8, Nat.min_le_left _ _, Nat.min_le_right _ _, by omega⟩
  obtain ⟨A1, hs1, hr1⟩ := run_upto ht hn1
  obtain ⟨B1, hs2, hr2⟩ := run_upto_L ha hm1
  obtain ⟨C1, hs3, hr3⟩ := run_upto_L hb hk1
  have HX : Hid ((∀ b ∈ t.take n1, b < 256) ∧ ((∀ p ∈ la.take m1, ∀ b ∈ p, b < 256) ∧ ∀ p ∈ la.take m1, p.length ≤ 1048576) ∧ ((∀ p ∈ lb.take k1, ∀ b ∈ p, b < 256) ∧ ∀ p ∈ lb.take k1, p.length ≤ 1048576)) :=
    Lib.hid ⟨fun b h => hbt b (List.mem_of_mem_take h), ⟨fun p h => hba p (List.mem_of_mem_take h), fun p h => hpa p (List.mem_of_mem_take h)⟩, ⟨fun p h => hbb p (List.mem_of_mem_take h), fun p h => hpb p (List.mem_of_mem_take h)⟩⟩
  have HNL := Lib.hid (And.intro hr1.bytes (And.intro hr2.n hr3.n))
  generalize t.take n1 = ts at *
  generalize la.take m1 = ls at *
  generalize lb.take k1 = ms at *
  have HR := Lib.hid (And.intro hr1 (And.intro hr2 hr3))
  clear ht ha hb hr1 hr2 hr3 hbt hba hpa hbb hpb
  go_enter Try.func8, Try.ntmps8
  go_wp2_with fail
  go_quiet (fail)
  clear hs1 hs2 hs3 hn3 hm3 hk3
  generalize hv : World.drewN w _ = v
  have HV : Hid (Below w.heap.size w v) := by subst hv; exact ⟨rfl, rfl, rfl, Nat.le_refl _, fun _ _ => rfl⟩
  clear hv
  have HC1 := Lib.hid (Factors_is A1 B1 n1 c m1 d ts ls (by omega) (by omega) v (HR.out.1.kept HV.out) (HR.out.2.1.kept HV.out) HX.out.1 HX.out.2.1.1 HX.out.2.1.2)
  have FA : Hid (factors ts (ls ++ ms) 0 = (factors ts ls 0).bind (factors ts ms)) := Lib.hid (factors_append ts ls ms 0)
  have FL : Hid (∀ e, factors ts ls 0 = some e → e ≤ n1 ∧ factors ts ms e = (factors (ts.drop e) ms 0).map (e + ·)) := Lib.hid fun e he => by
    have h1 := factors_le ts ls 0 e (Nat.zero_le _) he
    exact ⟨by have := HNL.out.1; omega, by have := factors_drop h1 ms 0; rwa [Nat.add_zero] at this⟩
  generalize hF : factors ts ls 0 = F at *
  clear hF
  go_wp2_with fail
  refine HC1.out.mono ?_
  rintro e w1 ⟨rfl, hb1⟩
  have X1 := Lib.hid (HV.out.trans (hb1.mono HV.out.size))
  obtain ⟨vs, hvr, hve⟩ := HR.out.2.1.kept X1.out
  obtain ⟨us, hur, hue⟩ := HR.out.2.2.kept X1.out
  have hvl : vs.length = m1 := by rw [hve.len]; exact HNL.out.2.1.symm
  have hul : us.length = k1 := by rw [hue.len]; exact HNL.out.2.2.symm
  have RV := Lib.hid (And.intro hvr (And.intro hur (And.intro hve (And.intro hue (And.intro hvl hul)))))
  clear hb1 HC1 HV hvr hve hur hue hvl hul
  cases F with
  | none =>
    simp only [facVal, Option.bind_none] at FA ⊢
    go_wp2_with (first
      | (at_builtin; refine wpList_append_row _ rfl (.tmp 36) (.tmp 37) _ rfl 22 i0 _ 24 Try.underlying23 hi0 hz0 hz1 hz2 rfl none (.slice (some ⟨w1.heap.size, 0, none⟩) 0 0) [] rfl (Row.empty _ _ _) (.slice B1 m1 d) vs rfl (RV.out.1.alloc _) (by have := RV.out.2.2.2.2; simp only [maxLen, List.length_nil]; omega) (by have := RV.out.2.2.2.2; simp only [List.length_nil]; omega) ?_; intro D1 g1 w2 gg1 hrow hgr hgn; have Y1 := Lib.hid (ListsI.more (w0 := w1) (ll := []) (vs := []) (us := vs) (go := none) (fun b e => by cases e) ((Below.refl _ w1).alloc (Nat.le_refl _) _) trivial RV.out.2.2.1 hrow hgr hgn); rw [List.nil_append] at Y1; simp only [List.length_nil, Nat.zero_add, RV.out.2.2.2.2.1] at Y1 ⊢; clear hrow hgr hgn; obtain ⟨go, vs2, hrow, hg, hb, he⟩ := Y1.out; have hvl2 := he.len; have Y1 := Lib.hid (And.intro hrow (And.intro hg (And.intro hb (And.intro he hvl2)))); clear hrow hg hb he hvl2)
      | (at_builtin; refine wpList_append_row _ rfl (.tmp 38) (.tmp 39) _ rfl 22 i0 _ 24 Try.underlying23 hi0 hz0 hz1 hz2 rfl go (.slice D1 m1 g1) vs2 rfl Y1.out.1 (.slice C1 k1 f) us rfl (RV.out.2.1.kept Y1.out.2.2.1) (by have := RV.out.2.2.2.2; have := Y1.out.2.2.2.2; have := HNL.out; simp only [maxLen]; omega) (by have := RV.out.2.2.2.2; have := Y1.out.2.2.2.2; have := HNL.out; omega) ?_; intro D2 g2 w3 gg2 hrow hgr hgn; have Y2 := Lib.hid (ListsI.more (w0 := w1) (ll := ls) (vs := vs2) (us := us) (mm := ms) Y1.out.2.1 Y1.out.2.2.1 Y1.out.2.2.2.1 RV.out.2.2.2.1 hrow hgr hgn); rw [show vs2.length = m1 by rw [Y1.out.2.2.2.2]; exact HNL.out.2.1.symm, RV.out.2.2.2.2.2] at Y2 ⊢; clear hrow hgr hgn Y1))
    have X3 := Lib.hid (X1.out.trans (Y2.out.bel.mono X1.out.size))
    have HC2 := Lib.hid (Factors_is A1 D2 n1 c (m1 + k1) g2 ts (ls ++ ms) (by omega) (by omega) w3 (HR.out.1.kept X3.out) Y2.out.lists HX.out.1 (fun p h => (List.mem_append.1 h).elim (HX.out.2.1.1 p) (HX.out.2.2.1 p)) (fun p h => (List.mem_append.1 h).elim (HX.out.2.1.2 p) (HX.out.2.2.2 p)))
    rw [FA.out] at HC2
    clear Y2
    refine HC2.out.mono ?_
    rintro e w4 ⟨rfl, hb4⟩
    have X4 := Lib.hid (X3.out.trans (hb4.mono X3.out.size))
    simp only [facVal]
    clear hb4 HC2 X3 X1
    go_wp2_with (go_at_call 12; refine (alive_true w4).mono ?_; rintro e w6 ⟨rfl, hb6⟩; have X6 := Lib.hid (X4.out.trans (hb6.mono X4.out.size)); clear hb6)
    go_ret
    exact ⟨rfl, X6.out⟩
  | some e1 =>
    obtain ⟨he1, hd⟩ := FL.out e1 rfl
    simp only [facVal, Option.bind_some] at FA ⊢
    rw [hd] at FA
    obtain ⟨E1, f1, N1, hs4, hr4, hN4⟩ := run_from HR.out.1 he1
    have HR4 := Lib.hid hr4
    have HC3 : Hid (∀ W, Below w.heap.size w W → Calls Try.prog 14 #[.slice E1 N1 f1, .slice C1 k1 f] W fun e w' => e = .returned (facVal (factors (ts.drop e1) ms 0)) ∧ Below W.heap.size W w') := Lib.hid fun W hb =>
      Factors_is E1 C1 N1 f1 k1 f (ts.drop e1) ms (by omega) (by omega) W (HR4.out.kept hb) (HR.out.2.2.kept hb) (fun b h => HX.out.1 b (List.mem_of_mem_drop h)) HX.out.2.2.1 HX.out.2.2.2
    have q1 : decide ((e1 : Int) < 0) = false := by simp
    have q2 : decide (n1 < e1) = false := by simp; omega
    have HG2 : Hid (∀ e, factors (ts.drop e1) ms 0 = some e → e ≤ n1) := Lib.hid fun e he => by
      have := factors_le _ _ _ _ (Nat.zero_le _) he
      rw [List.length_drop] at this
      have := HNL.out.1
      omega
    clear hd hr4 FL
    generalize factors (ts.drop e1) ms 0 = G at *
    cases G with
    | none =>
      simp only [Option.map_none] at FA
      go_wp2_with (first
        | (at_builtin; refine wpList_append_row _ rfl (.tmp 36) (.tmp 37) _ rfl 22 i0 _ 24 Try.underlying23 hi0 hz0 hz1 hz2 rfl none (.slice (some ⟨w1.heap.size, 0, none⟩) 0 0) [] rfl (Row.empty _ _ _) (.slice B1 m1 d) vs rfl (RV.out.1.alloc _) (by have := RV.out.2.2.2.2; simp only [maxLen, List.length_nil]; omega) (by have := RV.out.2.2.2.2; simp only [List.length_nil]; omega) ?_; intro D1 g1 w2 gg1 hrow hgr hgn; have Y1 := Lib.hid (ListsI.more (w0 := w1) (ll := []) (vs := []) (us := vs) (go := none) (fun b e => by cases e) ((Below.refl _ w1).alloc (Nat.le_refl _) _) trivial RV.out.2.2.1 hrow hgr hgn); rw [List.nil_append] at Y1; simp only [List.length_nil, Nat.zero_add, RV.out.2.2.2.2.1] at Y1 ⊢; clear hrow hgr hgn; obtain ⟨go, vs2, hrow, hg, hb, he⟩ := Y1.out; have hvl2 := he.len; have Y1 := Lib.hid (And.intro hrow (And.intro hg (And.intro hb (And.intro he hvl2)))); clear hrow hg hb he hvl2)
        | (at_builtin; refine wpList_append_row _ rfl (.tmp 38) (.tmp 39) _ rfl 22 i0 _ 24 Try.underlying23 hi0 hz0 hz1 hz2 rfl go (.slice D1 m1 g1) vs2 rfl Y1.out.1 (.slice C1 k1 f) us rfl (RV.out.2.1.kept Y1.out.2.2.1) (by have := RV.out.2.2.2.2; have := Y1.out.2.2.2.2; have := HNL.out; simp only [maxLen]; omega) (by have := RV.out.2.2.2.2; have := Y1.out.2.2.2.2; have := HNL.out; omega) ?_; intro D2 g2 w3 gg2 hrow hgr hgn; have Y2 := Lib.hid (ListsI.more (w0 := w1) (ll := ls) (vs := vs2) (us := us) (mm := ms) Y1.out.2.1 Y1.out.2.2.1 Y1.out.2.2.2.1 RV.out.2.2.2.1 hrow hgr hgn); rw [show vs2.length = m1 by rw [Y1.out.2.2.2.2]; exact HNL.out.2.1.symm, RV.out.2.2.2.2.2] at Y2 ⊢; clear hrow hgr hgn Y1))
      have X3 := Lib.hid (X1.out.trans (Y2.out.bel.mono X1.out.size))
      have HC2 := Lib.hid (Factors_is A1 D2 n1 c (m1 + k1) g2 ts (ls ++ ms) (by omega) (by omega) w3 (HR.out.1.kept X3.out) Y2.out.lists HX.out.1 (fun p h => (List.mem_append.1 h).elim (HX.out.2.1.1 p) (HX.out.2.2.1 p)) (fun p h => (List.mem_append.1 h).elim (HX.out.2.1.2 p) (HX.out.2.2.2 p)))
      rw [FA.out] at HC2
      clear Y2
      refine HC2.out.mono ?_
      rintro e w4 ⟨rfl, hb4⟩
      have X4 := Lib.hid (X3.out.trans (hb4.mono X3.out.size))
      simp only [facVal]
      clear hb4 HC2 X3 X1
      have HC4 := Lib.hid (HC3.out w4 X4.out)
      clear HC3
      go_wp2_with fail
      refine HC4.out.mono ?_
      rintro e w5 ⟨rfl, hb5⟩
      have X5 := Lib.hid (X4.out.trans (hb5.mono X4.out.size))
      simp only [facVal]
      clear hb5 HC4 X4
      go_wp2_with (go_at_call 12; refine (alive_true w5).mono ?_; rintro e w6 ⟨rfl, hb6⟩; have X6 := Lib.hid (X5.out.trans (hb6.mono X5.out.size)); clear hb6)
      go_ret
      exact ⟨rfl, X6.out⟩
    | some e2 =>
      have he2 := HG2.out e2 rfl
      simp only [Option.map_some] at FA
      go_wp2_with (first
        | (at_builtin; refine wpList_append_row _ rfl (.tmp 36) (.tmp 37) _ rfl 22 i0 _ 24 Try.underlying23 hi0 hz0 hz1 hz2 rfl none (.slice (some ⟨w1.heap.size, 0, none⟩) 0 0) [] rfl (Row.empty _ _ _) (.slice B1 m1 d) vs rfl (RV.out.1.alloc _) (by have := RV.out.2.2.2.2; simp only [maxLen, List.length_nil]; omega) (by have := RV.out.2.2.2.2; simp only [List.length_nil]; omega) ?_; intro D1 g1 w2 gg1 hrow hgr hgn; have Y1 := Lib.hid (ListsI.more (w0 := w1) (ll := []) (vs := []) (us := vs) (go := none) (fun b e => by cases e) ((Below.refl _ w1).alloc (Nat.le_refl _) _) trivial RV.out.2.2.1 hrow hgr hgn); rw [List.nil_append] at Y1; simp only [List.length_nil, Nat.zero_add, RV.out.2.2.2.2.1] at Y1 ⊢; clear hrow hgr hgn; obtain ⟨go, vs2, hrow, hg, hb, he⟩ := Y1.out; have hvl2 := he.len; have Y1 := Lib.hid (And.intro hrow (And.intro hg (And.intro hb (And.intro he hvl2)))); clear hrow hg hb he hvl2)
        | (at_builtin; refine wpList_append_row _ rfl (.tmp 38) (.tmp 39) _ rfl 22 i0 _ 24 Try.underlying23 hi0 hz0 hz1 hz2 rfl go (.slice D1 m1 g1) vs2 rfl Y1.out.1 (.slice C1 k1 f) us rfl (RV.out.2.1.kept Y1.out.2.2.1) (by have := RV.out.2.2.2.2; have := Y1.out.2.2.2.2; have := HNL.out; simp only [maxLen]; omega) (by have := RV.out.2.2.2.2; have := Y1.out.2.2.2.2; have := HNL.out; omega) ?_; intro D2 g2 w3 gg2 hrow hgr hgn; have Y2 := Lib.hid (ListsI.more (w0 := w1) (ll := ls) (vs := vs2) (us := us) (mm := ms) Y1.out.2.1 Y1.out.2.2.1 Y1.out.2.2.2.1 RV.out.2.2.2.1 hrow hgr hgn); rw [show vs2.length = m1 by rw [Y1.out.2.2.2.2]; exact HNL.out.2.1.symm, RV.out.2.2.2.2.2] at Y2 ⊢; clear hrow hgr hgn Y1))
      have X3 := Lib.hid (X1.out.trans (Y2.out.bel.mono X1.out.size))
      have HC2 := Lib.hid (Factors_is A1 D2 n1 c (m1 + k1) g2 ts (ls ++ ms) (by omega) (by omega) w3 (HR.out.1.kept X3.out) Y2.out.lists HX.out.1 (fun p h => (List.mem_append.1 h).elim (HX.out.2.1.1 p) (HX.out.2.2.1 p)) (fun p h => (List.mem_append.1 h).elim (HX.out.2.1.2 p) (HX.out.2.2.2 p)))
      rw [FA.out] at HC2
      clear Y2
      refine HC2.out.mono ?_
      rintro e w4 ⟨rfl, hb4⟩
      have X4 := Lib.hid (X3.out.trans (hb4.mono X3.out.size))
      simp only [facVal]
      clear hb4 HC2 X3 X1
      have HC4 := Lib.hid (HC3.out w4 X4.out)
      clear HC3
      go_wp2_with fail
      refine HC4.out.mono ?_
      rintro e w5 ⟨rfl, hb5⟩
      have X5 := Lib.hid (X4.out.trans (hb5.mono X4.out.size))
      simp only [facVal]
      clear hb5 HC4 X4
      have q3 : (((e1 + e2 : Nat) : Int) == (e1 : Int) + (e2 : Int)) = true := by simp
      go_wp2_with (go_at_call 12; refine (alive_true w5).mono ?_; rintro e w6 ⟨rfl, hb6⟩; have X6 := Lib.hid (X5.out.trans (hb6.mono X5.out.size)); clear hb6)
      go_ret
      exact ⟨rfl, X6.out⟩
end Go.Proofs.Ytialecghpekcnaa
