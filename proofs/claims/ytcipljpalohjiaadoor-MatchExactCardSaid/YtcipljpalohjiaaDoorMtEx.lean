/-
  The law MatchExact.
  Conditions: none.
-/
import Derived.Test.YtcipljpalohjiaaDoorMtFi
import Derived.Test.YtcipljpalohjiaaDoorMtC
import Derived.Test.YtcipljpalohjiaaDoorMtJ
import Derived.Test.YtcipljpalohjiaaDoorCut
import Derived.Deep.QuietTactic
import Derived.BigQuiet
import Derived.OwnWalk
import Derived.Laws.StructEq
import Derived.Deep.RegionHeld
namespace Go.Proofs.YtcipljpalohjiaaDoor
open Go.RowKit

theorem firstG_agg (k : Option (Nat × Nat × Nat)) : ∃ a b c : Int, firstG k = .agg #[.int .i64 a, .int .i64 b, .int .i64 c] := by
  rcases k with _ | ⟨i, f, e⟩
  · exact ⟨0, 0, 0, rfl⟩
  · exact ⟨_, _, _, rfl⟩
theorem check_one {n : Nat} (h1 : 1 ≤ n) (h2 : n ≤ 70) (q : List Nat) : checkS (n : Nat) [⟨0, q⟩] = 0 := by
  rw [checkS, if_neg (by omega), if_neg (by simp)]
  simp [wrongsB, wrongB]
theorem ni_step {t : List Nat} {i x : Nat} (h : t[i]? = some x) : ni (t.take (i + 1)) = ni (t.take i) ++ [(x : Int)] := by rw [List.take_add_one, h]; exact ni_snoc _ _

set_option maxRecDepth 100000 in
set_option maxHeartbeats 8000000 in
theorem exact_true (z : Int) (A : Option Addr) (n c : Nat) (b : List Nat) (B : Option Addr) (k d : Nat) (p : List Nat) (w : World) [tz : TzW w] (hr : Rd w (.slice A n c) (bv b)) (hp : Rd w (.slice B k d) (bv p)) (hbb : ∀ x ∈ b, x < 256) (hpb : ∀ x ∈ p, x < 256) (hz : z ≤ 9223372036854775807) :
    Calls Tryd.prog 5 #[.int .i64 z, .slice A n c, .slice B k d] w fun e w' => e = .returned (.bool true) ∧ Below w.heap.size w w' := by
  obtain ⟨i0, hi0, hz0, hz1, hz2⟩ := info_parts int_info
  obtain rfl := hr.bytes
  obtain rfl := hp.bytes
  obtain ⟨r, hr0⟩ : ∃ r : Nat, r = z.toNat % 70 := ⟨_, rfl⟩
  have m0 : max 0 z % 70 = (r : Int) := by omega
  obtain ⟨m, hm⟩ : ∃ m : Nat, m = r + 1 := ⟨_, rfl⟩
  have m1 : IntKind.i64.wrap (1 + (r : Int)) = (m : Int) := by rw [IntWalk.i64_in _ (by omega)]; omega
  have hm1 : 1 ≤ m ∧ m ≤ 70 := by omega
  obtain ⟨tn, htn⟩ : ∃ tn, tn = min b.length 200 := ⟨_, rfl⟩
  obtain ⟨qn, hqn⟩ : ∃ qn, qn = min p.length 60 := ⟨_, rfl⟩
  have e1 : min (b.length : Int) 200 = (tn : Int) := by omega
  have e2 : min (p.length : Int) 60 = (qn : Int) := by omega
  obtain ⟨A1, hs1, hr1⟩ := run_upto hr (k := tn) (by omega)
  obtain ⟨B1, hs2, hr2⟩ := run_upto hp (k := qn) (by omega)
  obtain ⟨t, ht⟩ : ∃ t, t = b.take tn := ⟨_, rfl⟩
  obtain ⟨q, hq⟩ : ∃ q, q = p.take qn := ⟨_, rfl⟩
  have htl : tn = t.length := by rw [ht, List.length_take]; omega
  have hql : qn = q.length := by rw [hq, List.length_take]; omega
  have hl2 : t.length ≤ 200 ∧ q.length ≤ 60 := by omega
  rw [← ht] at hr1
  rw [← hq] at hr2
  have HTB : Hid (∀ x ∈ t, x < 256) := Lib.hid fun x hx => hbb x (by rw [ht] at hx; exact List.mem_of_mem_take hx)
  have HQB : Hid (∀ x ∈ q, x < 256) := Lib.hid fun x hx => hpb x (by rw [hq] at hx; exact List.mem_of_mem_take hx)
  rw [htl] at e1 hs1 hr1
  rw [hql] at e2 hs2 hr2
  have HR := Lib.hid (And.intro hr1 hr2)
  clear hr hp hbb hpb hm hr0 htn hqn ht hq htl hql
  have hlb : Hid (t.length ≤ b.length) := Lib.hid (by omega)
  have HFI : Hid (∀ W, Below w.heap.size w W → Calls Tryd.prog 18 #[.int .i64 (m : Nat), .slice A1 t.length c, .slice (some ⟨W.heap.size, 0, none⟩) 1 1] (W.alloc (.cells #[.int .i64 0, .string (str q)] 45)) fun e w' => e = .returned (firstE (firstHit (m : Nat) t [⟨0, q⟩]) 0) ∧ Below W.heap.size W w') := Lib.hid (fun W hW => by
    have hb := brs_new W [⟨0, q⟩] #[.int .i64 0, .string (str q)] 1 rfl (by omega) rfl
    have hal : Below W.heap.size W (W.alloc (.cells #[.int .i64 0, .string (str q)] 45)) := (Below.refl _ W).alloc (Nat.le_refl _) _
    have h2 := First_is (m : Int) A1 c t _ [⟨0, q⟩] (W.alloc (.cells #[.int .i64 0, .string (str q)] 45)) ((tz.out.below hW).below hal) ((HR.out.1.kept hW).alloc _) HTB.out (by omega) hb (fun x hx => by rw [List.mem_singleton] at hx; subst hx; exact ⟨HQB.out, by show q.length ≤ _; omega, by show _ ≤ (0 : Int); omega, by show (0 : Int) ≤ _; omega⟩)
    rw [check_one hm1.1 hm1.2, if_pos rfl] at h2
    refine h2.mono ?_
    rintro e w' ⟨he, hb2⟩
    exact ⟨he, hal.trans (hb2.mono hal.size)⟩)
  have hstr := fun W (hW : Below w.heap.size w W) => run_str (HR.out.2.kept hW)
  have HST := Lib.hid hstr
  clear hstr
  go_enter Tryd.func5, Tryd.ntmps5
  go_wp2_with fail
  go_quiet (fail)
  have X0 : Hid (Below w.heap.size w (w.drewN nq)) := Lib.hid ⟨rfl, rfl, rfl, Nat.le_refl _, fun _ _ => rfl⟩
  generalize World.drewN w nq = w0 at *
  have hst0 := HST.out w0 X0.out
  have HF0 := Lib.hid (HFI.out w0 X0.out)
  clear HST HFI
  have HXF := Lib.hid (exact_first m t q)
  obtain ⟨g0, g1, g2, hg⟩ := firstG_agg (firstHit (m : Nat) t [⟨0, q⟩])
  have hF1 := HF0.out
  rw [show firstE (firstHit (m : Nat) t [⟨0, q⟩]) 0 = .tuple #[firstG (firstHit (m : Nat) t [⟨0, q⟩]), .bool (firstHit (m : Nat) t [⟨0, q⟩]).isSome, .int .i64 0] from rfl, hg] at hF1
  have HF1 := Lib.hid hF1
  have HGG := Lib.hid hg
  clear HF0 hg hF1
  obtain ⟨ok, hok⟩ : ∃ ok, ok = (firstHit (m : Nat) t [⟨0, q⟩]).isSome := ⟨_, rfl⟩
  rw [← hok] at HF1
  have HOK := Lib.hid hok
  clear hok
  go_wp2_with fail
  refine HF1.out.mono ?_
  rintro e w1 ⟨rfl, hb⟩
  have X1 := Lib.hid (X0.out.trans (hb.mono X0.out.size))
  have X2 := Lib.hid (X1.out.alloc X1.out.size (.cells #[.int .i64 g0, .int .i64 g1, .int .i64 g2] 34))
  have B2 := Lib.hid (Blk.new w1 34 #[.int .i64 g0, .int .i64 g1, .int .i64 g2])
  clear hb HF1 X0 hst0
  go_upto_region 4 with (fail)
  generalize hP : w1.heap.size = P at *
  generalize World.alloc w1 _ = w2 at *
  clear hP X1
  have R2 := Lib.hid (HR.out.1.kept X2.out)
  go_wp2_with fail
  go_loopw [11, 47] (fun sv iv wr => ∃ i : Nat, i ≤ t.length ∧ iv = .int .i64 (i : Nat) ∧ Hid (IntsI w2 sv (ni (t.take i)) wr)) (fun _ iv _ => t.length - (intOf iv).toNat)
  case atStart => exact ⟨0, Nat.zero_le _, rfl, Lib.hid (IntsI.nil _)⟩
  case round =>
    obtain ⟨i, hi, rfl, HI⟩ := hrel
    obtain ⟨A3, c3, rfl⟩ := HI.out.form
    have hil : (ni (t.take i)).length = i := by rw [ni_len, List.length_take]; omega
    rw [hil] at HI ⊢
    by_cases hlt : i < t.length
    · obtain ⟨go, hro, hgo, hbo⟩ := HI.out
      obtain ⟨bb, oo, x, rfl, cx, hx⟩ := (R2.out.kept hbo).byteAt hlt
      have hx6 : x < 256 := HTB.out x (List.mem_of_getElem? hx)
      have wx : IntKind.i64.wrap (x : Int) = (x : Int) := IntWalk.i64_in _ (by omega)
      have X := Lib.hid (And.intro hro (And.intro hgo hbo))
      have HN := Lib.hid (ni_step hx)
      have HIL := Lib.hid hil
      clear hro hgo hbo hx HI hil
      go_wp2_with (at_builtin; refine wpList_append_row _ rfl (.tmp 51) (.tmp 54) _ rfl 3 i0 _ 8 Tryd.underlying46 hi0 hz0 hz1 hz2 rfl go _ (iv (ni (t.take i))) rfl (X.out.1.alloc _) _ [.int .i64 (x : Int)] rfl (Rd.lit wr 3 #[.int .i64 (x : Int)] 1 rfl (by omega) (by omega) (by simp [Value.oneCell'])) (by rw [iv_len, HIL.out]; simp only [maxLen]; simp; omega) (by rw [iv_len, HIL.out]; simp; omega) ?_; intro B' d' w7 gn hrow' hgr hgn; rw [iv_len, HIL.out] at hrow' ⊢; simp only [List.length_singleton] at hrow' ⊢; have Y := Lib.hid (And.intro hrow' (And.intro hgr hgn)); clear hrow' hgr hgn)
      go_roundw
      case rel =>
        refine ⟨i + 1, by omega, by go_num, Lib.hid ?_⟩
        rw [HN.out]
        exact IntsI.grown (xs := ni (t.take i)) (ys := [(x : Int)]) X.out.2.1 (X.out.2.2.alloc X.out.2.2.size _) Y.out.1 Y.out.2.1 Y.out.2.2
      case measure => simp [intOf]; omega
    · obtain rfl : i = t.length := by omega
      rw [List.take_length] at HI
      clear hil
      obtain ⟨go, hro, hgo, hbo⟩ := HI.out
      have RT := Lib.hid hro.rd
      have X3 := Lib.hid (X2.out.trans (hbo.mono X2.out.size))
      have B3 := Lib.hid (B2.out.below hbo B2.out.lt)
      have Q3 := Lib.hid (HR.out.2.kept X3.out)
      clear hro hgo hbo HI B2 X2 R2
      obtain ⟨w3, rfl⟩ : ∃ w3, w3 = wr := ⟨_, rfl⟩
      go_wp2_with fail
      go_loopw [12, 59] (fun sv iv wr => ∃ i : Nat, i ≤ q.length ∧ iv = .int .i64 (i : Nat) ∧ Hid (IntsI w3 sv (ni (q.take i)) wr)) (fun _ iv _ => q.length - (intOf iv).toNat)
      case atStart => exact ⟨0, Nat.zero_le _, rfl, Lib.hid (IntsI.nil _)⟩
      case round =>
        obtain ⟨i, hi, rfl, HI⟩ := hrel
        obtain ⟨A4, c4, rfl⟩ := HI.out.form
        have hil : (ni (q.take i)).length = i := by rw [ni_len, List.length_take]; omega
        rw [hil] at HI ⊢
        by_cases hlt : i < q.length
        · obtain ⟨go, hro, hgo, hbo⟩ := HI.out
          obtain ⟨bb, oo, x, rfl, cx, hx⟩ := (Q3.out.kept hbo).byteAt hlt
          have hx6 : x < 256 := HQB.out x (List.mem_of_getElem? hx)
          have wx : IntKind.i64.wrap (x : Int) = (x : Int) := IntWalk.i64_in _ (by omega)
          have X := Lib.hid (And.intro hro (And.intro hgo hbo))
          have HN := Lib.hid (ni_step hx)
          have HIL := Lib.hid hil
          clear hro hgo hbo hx HI hil
          go_wp2_with (at_builtin; refine wpList_append_row _ rfl (.tmp 63) (.tmp 66) _ rfl 3 i0 _ 8 Tryd.underlying46 hi0 hz0 hz1 hz2 rfl go _ (iv (ni (q.take i))) rfl (X.out.1.alloc _) _ [.int .i64 (x : Int)] rfl (Rd.lit wr 3 #[.int .i64 (x : Int)] 1 rfl (by omega) (by omega) (by simp [Value.oneCell'])) (by rw [iv_len, HIL.out]; simp only [maxLen]; simp; omega) (by rw [iv_len, HIL.out]; simp; omega) ?_; intro B' d' w7 gn hrow' hgr hgn; rw [iv_len, HIL.out] at hrow' ⊢; simp only [List.length_singleton] at hrow' ⊢; have Y := Lib.hid (And.intro hrow' (And.intro hgr hgn)); clear hrow' hgr hgn)
          go_roundw
          case rel =>
            refine ⟨i + 1, by omega, by go_num, Lib.hid ?_⟩
            rw [HN.out]
            exact IntsI.grown (xs := ni (q.take i)) (ys := [(x : Int)]) X.out.2.1 (X.out.2.2.alloc X.out.2.2.size _) Y.out.1 Y.out.2.1 Y.out.2.2
          case measure => simp [intOf]; omega
        · obtain rfl : i = q.length := by omega
          rw [List.take_length] at HI
          clear hil
          obtain ⟨go, hro, hgo, hbo⟩ := HI.out
          have HA := Lib.hid (RAll_i A3 A4 t.length c3 q.length c4 (ni t) (ni q) (by rw [ni_len]; omega) (by rw [ni_len]; omega) wr (RT.out.kept hbo) hro.rd)
          have X4 := Lib.hid (X3.out.trans (hbo.mono X3.out.size))
          have B4 := Lib.hid (B3.out.below hbo B3.out.lt)
          clear hro hgo hbo HI B3 X3 RT Q3
          rw [show places (ni t) (ni q) = places t q from places_int t q] at HA
          go_wp2_with fail
          refine HA.out.mono ?_
          rintro e w5 ⟨A5, c5, g5, rfl, hr5, hg5, hb5⟩
          have X5 := Lib.hid (X4.out.trans (hb5.mono X4.out.size))
          have B5 := Lib.hid (B4.out.below hb5 B4.out.lt)
          have R5 := Lib.hid hr5.rd
          clear hr5 hg5 hb5 B4 X4 HA
          by_cases hqm : m < q.length
          · have q1 : decide ((m : Int) < (q.length : Int)) = true := decide_eq_true (by omega)
            have ek : ok = false := by rw [HOK.out, HXF.out, if_pos hqm]; rfl
            subst ek
            have q2 : ((q.length : Int) > (m : Int)) := by omega
            clear HGG
            go_wp2_with fail
            refine (alive_true (X5.out)).mono ?_
            rintro e w6 ⟨rfl, hb⟩
            have X6 := Lib.hid (X5.out.trans (hb.mono X5.out.size))
            clear hb
            go_wp2_with fail
            go_ret
            exact ⟨rfl, X6.out⟩
          · have q1 : decide ((m : Int) < (q.length : Int)) = false := decide_eq_false (by omega)
            have q0 : q.length ≤ m := by omega
            cases hpl : places t q with
            | nil =>
              rw [show (ni ([] : List Nat)).length = 0 from rfl]
              have ek : ok = false := by rw [HOK.out, HXF.out, if_neg hqm, hpl]; rfl
              subst ek
              clear hpl
              clear HGG
              go_wp2_with fail
              refine (alive_true (X5.out)).mono ?_
              rintro e w6 ⟨rfl, hb⟩
              have X6 := Lib.hid (X5.out.trans (hb.mono X5.out.size))
              clear hb
              go_wp2_with fail
              go_ret
              exact ⟨rfl, X6.out⟩
            | cons a rest =>
              have hh := places_head hpl
              have hat : a ≤ 200 := by have := hh.1.1; omega
              have hg := HGG.out
              rw [HXF.out, if_neg hqm, hpl] at hg
              have hg2 : firstG (some (0, a, a + q.length)) = .agg #[.int .i64 g0, .int .i64 g1, .int .i64 g2] := hg
              simp only [firstG, Value.agg.injEq, Array.mk.injEq, List.cons.injEq, Value.int.injEq, true_and, and_true] at hg2
              obtain ⟨k0, k1, k2⟩ := hg2
              subst k0 k1 k2
              have ek : ok = true := by rw [HOK.out, HXF.out, if_neg hqm, hpl]; rfl
              subst ek
              have hrd := R5.out
              rw [hpl] at hrd
              obtain ⟨-, -, hc⟩ := hrd.ints
              obtain ⟨b5, o5, rfl, hc5⟩ := hc (by simp [ni])
              have hc0 := hc5 0 (by simp [ni])
              rw [show (ni (a :: rest))[0]?.getD 0 = (a : Int) from rfl, Nat.add_zero] at hc0
              obtain ⟨N5, hN5⟩ : ∃ N5, N5 = (ni (a :: rest)).length := ⟨_, rfl⟩
              have hN0 : (0 : Int) < (N5 : Int) := by rw [hN5]; simp [ni]
              have q3 : ((N5 : Int) == 0) = false := by simp; omega
              rw [← hN5]
              have x0 : ∀ V, Below w5.heap.size w5 V → V.cell? ⟨P, 0, none⟩ = some (.int .i64 0) := fun V hV => (B5.out.below hV B5.out.lt).cell 0
              have x1 : ∀ V, Below w5.heap.size w5 V → V.cell? ⟨P, 1, none⟩ = some (.int .i64 (a : Nat)) := fun V hV => (B5.out.below hV B5.out.lt).cell 1
              have x2 : ∀ V, Below w5.heap.size w5 V → V.cell? ⟨P, 2, none⟩ = some (.int .i64 ((a + q.length : Nat) : Int)) := fun V hV => (B5.out.below hV B5.out.lt).cell 2
              have y0 : ∀ V, Below w5.heap.size w5 V → V.cell? ⟨b5, o5, none⟩ = some (.int .i64 (a : Nat)) := fun V hV => (hV.cell (p := ⟨b5, o5, none⟩) (World.block_lt_of_cell? w5 _ hc0)).trans hc0
              have w2 : IntKind.i64.wrap ((a : Int) + (q.length : Int)) = ((a + q.length : Nat) : Int) := by rw [IntWalk.i64_in _ (by omega)]; omega
              have hD : Below w5.heap.size w5 w5.drew := ⟨rfl, rfl, rfl, Nat.le_refl _, fun _ _ => rfl⟩
              clear hh hat hg hrd hc hc5 hc0 hN5 hpl hqm R5 B5 HGG
              generalize a + q.length = e5 at *
              go_wp2_with fail
              go_region_held (fun V => Below w5.heap.size w5 V) (first | exact hD | exact hA' | assumption) (first
                | (go_at_call 9; refine (alive_true (X5.out.trans (Below.mono (by first | exact hD | assumption) X5.out.size))).mono ?_; rintro e wA ⟨rfl, hA⟩; have hA' : Below w5.heap.size w5 wA := ⟨hA.os, hA.tape, hA.output, hA.size, hA.block⟩; clear hA))
              all_goals go_wp2
              all_goals go_ret
              all_goals exact ⟨rfl, X5.out.trans (hA'.mono X5.out.size)⟩
end Go.Proofs.YtcipljpalohjiaaDoor
