/-
  cuecardlaw05.TransSpoils answers true for all events, every place and every bit.
  Conditions: times within an int64.
-/
import Derived.Test.YtbaibabnfbjdeaaTBack
import Derived.Test.YtbaibabnfbjdeaaRowSet
import Derived.Laws.BitsAllLaws
import Derived.Laws.ShiftsVarLaws
namespace Go.Proofs.Ytbaibabnfbjdeaa
open Go.RowKit

/-- A bit that is turned makes another byte. -/
theorem turned_all : ∀ (d : Fin 256) (b : Fin 8), (d.val ^^^ (1 <<< b.val)) ≠ d.val ∧ (d.val ^^^ (1 <<< b.val)) < 256 := by decide +kernel

/-- Bytes of which one is another are other bytes: no transcript is both's. -/
theorem spoilt {l : List PE} {k x y : Nat} (hk : (trEnc l true)[k]? = some x) (hne : y ≠ x) (hb : ∀ b ∈ (trEnc l true).set k y, b < 256) :
    (dec ((trEnc l true).set k y)).err ≠ 0 ∨ ((dec ((trEnc l true).set k y)).fin == true && decide ((dec ((trEnc l true).set k y)).l = l)) = false := by
  by_cases he : (dec ((trEnc l true).set k y)).err = 0
  · right
    obtain ⟨d1, _, _, _⟩ := dec_ok hb he
    rw [Bool.eq_false_iff]
    intro hs
    simp only [Bool.and_eq_true, beq_iff_eq, decide_eq_true_eq] at hs
    rw [hs.1, hs.2] at d1
    have h1 := congrArg (fun z => z[k]?) d1
    have hlt := (List.getElem?_eq_some_iff.1 hk).1
    simp only [List.getElem?_set_self hlt] at h1
    rw [hk] at h1
    injection h1 with h1
    exact hne h1
  · exact .inl he
theorem turned (x bit : Nat) (hx : x < 256) : ∃ y : Nat, bits .xor .u8 (x : Int) (2 ^ (bit % 8) % 256) = (y : Int) ∧ y ≠ x ∧ y < 256 := by
  have hj : bit % 8 < 8 := Nat.mod_lt _ (by omega)
  have h := turned_all ⟨x, hx⟩ ⟨bit % 8, hj⟩
  simp only [Nat.one_shiftLeft] at h
  have h2 : 2 ^ (bit % 8) ≤ 2 ^ 7 := Nat.pow_le_pow_right (by omega) (by omega)
  simp only [show (2 : Nat) ^ 7 = 128 from rfl] at h2
  have e : ((2 : Int) ^ (bit % 8) % 256) = ((2 ^ (bit % 8) : Nat) : Int) := by
    have e0 : (2 : Int) ^ (bit % 8) = ((2 ^ (bit % 8) : Nat) : Int) := by simp
    rw [e0]
    generalize 2 ^ (bit % 8) = z at h2
    omega
  refine ⟨x ^^^ 2 ^ (bit % 8), ?_, h.1, h.2⟩
  rw [e]
  exact u8_xor_nat x _ hx (by omega)

set_option maxRecDepth 100000 in
set_option maxHeartbeats 2000000 in
theorem spoils_true (v : Value) (l : List Ev) (at_ : Int) (bit : Nat) (w : World) (h : Evs w v l) (ht : ∀ a ∈ l, In64 a.time) (hbit : bit < 256) :
    Calls Try.prog 8 #[v, .int .i64 at_, .int .u8 bit] w fun e w' => e = .returned (.bool true) ∧ Below w.heap.size w w' := by
  have HE := Lib.hid h
  obtain ⟨A, c, rfl, -⟩ := h.form
  by_cases hc : chkAll (pes l) = 0
  · have hr := chkAll_right hc (pes_time ht)
    have HR := Lib.hid hr
    have HC := Lib.hid hc
    have hL := trEnc_le true hr
    have HX := Lib.hid (trEnc_lt true (evs_byte h))
    have hp : 0 < (trEnc (pes l) true).length := by simp [trEnc, hd]
    obtain ⟨X, hX⟩ : ∃ X, X = trEnc (pes l) true := ⟨_, rfl⟩
    rw [← hX] at hL HX hp
    have HXX := Lib.hid hX
    clear h ht hc hr hX
    go_enter Try.func8, Try.ntmps8
    go_wp2_with fail
    refine (RCheck_any _ l _ HE.out).mono ?_
    rw [HC.out]
    rintro e W4 ⟨rfl, rfl⟩
    go_wp2_with fail
    refine (REncode_any (.slice A l.length c) l true _ (HE.out.alloc _) HR.out).mono ?_
    rw [← HXX.out]
    rintro e W1 ⟨A1, c1, g1, rfl, hr1, hf1, hb1⟩
    obtain ⟨k, hk, hkl⟩ : ∃ k : Nat, (IntKind.u64.wrap at_).tmod (X.length : Int) = (k : Int) ∧ k < X.length := by
      have h0 : 0 ≤ (IntKind.u64.wrap at_).tmod (X.length : Int) := Int.tmod_nonneg _ (by rw [IntKind.wrap_u64]; omega)
      have h1 : (IntKind.u64.wrap at_).tmod (X.length : Int) < X.length := Int.tmod_lt_of_pos _ (by omega)
      exact ⟨((IntKind.u64.wrap at_).tmod (X.length : Int)).toNat, by omega, by omega⟩
    obtain ⟨b, o, x, rfl, hcx, hx⟩ := hr1.rd.byteAt hkl
    have hx256 : x < 256 := HX.out x (List.mem_of_getElem? hx)
    have bt := (Blk.new w 24 #[.slice A l.length c, .bool true]).below hb1 (by simp)
    have HB1 := Lib.hid (below2 ((Below.refl _ w).alloc (Nat.le_refl _) _) hb1)
    have HR1 := Lib.hid (And.intro hr1 (And.intro hf1 bt))
    have hfz := (hr1.set_ (k := k) (by rw [bv_len]; exact hkl) (u := .int .u8 0) rfl).2.2
    have HXk := Lib.hid hx
    clear hr1 hf1 hb1 bt hx
    obtain ⟨y, hy, hyx, hy256⟩ := turned x bit hx256
    have HSP := Lib.hid (spoilt (l := pes l) (k := k) (x := x) (y := y) (by rw [← HXX.out]; exact HXk.out) hyx)
    rw [← HXX.out] at HSP
    have HBY : Hid (∀ z ∈ X.set k y, z < 256) := fun z hz => by
      rcases List.mem_or_eq_of_mem_set hz with hz | rfl
      · exact HX.out z hz
      · exact hy256
    have HYY := Lib.hid (HSP.out HBY.out)
    go_wp2_with fail
    generalize hW2 : World.setCell W1 _ _ = W2
    have hr2 : Rd W2 (.slice (some ⟨b, o, none⟩) X.length c1) (bv (X.set k y)) := by
      rw [← hW2]
      have h1 := (HR1.out.1.set_ (k := k) (by rw [bv_len]; exact hkl) (u := .int .u8 (y : Int)) rfl).1.rd
      rw [show (bv X).set k (.int .u8 (y : Int)) = bv (X.set k y) by simp [bv, List.map_set]] at h1
      exact h1
    have hg2 : W1.grownBy W2 g1 := by rw [← hW2]; exact (HR1.out.1.set_ (k := k) (by rw [bv_len]; exact hkl) (u := .int .u8 (y : Int)) rfl).2.1
    have hB2 : Below w.heap.size w W2 := HB1.out.grown hg2 HB1.out.size (fun b e => by have := HR1.out.2.1 b e; simp at this; omega)
    have bt2 : Blk W2 w.heap.size 24 #[.slice A l.length c, .bool true] := HR1.out.2.2.keep (hg2.block _ HR1.out.2.2.lt fun e => HR1.out.1.ne_ HR1.out.2.2 (by decide) e.symm)
    have HB2 := Lib.hid hB2
    have HT2 := Lib.hid bt2
    have HR2 := Lib.hid hr2
    clear hW2 hr2 hg2 hB2 bt2 HR1 HB1 hcx hfz HSP
    refine (Decode_any _ _ _ (X.set k y) _ HR2.out HBY.out (by omega)).mono ?_
    obtain ⟨⟨L, en, pl, er⟩, hD⟩ : ∃ D, dec (X.set k y) = D := ⟨_, rfl⟩
    rw [hD] at HYY ⊢
    simp only at HYY
    rintro e W3 ⟨A3, c3, l3, rfl, hp3, hE3, hb3⟩
    simp only at hp3
    have HP3 := Lib.hid hp3
    have HE3 := Lib.hid hE3
    have HB3 := Lib.hid (below2 HB2.out hb3)
    have HT3 := Lib.hid (HT2.out.below hb3 HT2.out.lt)
    clear hp3 hE3 hb3 HB2 HT2 hD
    go_wp2_with fail
    refine (alive_true _).mono ?_
    rintro e W4 ⟨rfl, hb4⟩
    have hb34 := below2 ((Below.refl _ W3).alloc (Nat.le_refl _) _) hb4
    have bt := HT3.out.below hb34 HT3.out.lt
    have bu := (Blk.new W3 24 #[.slice A3 l3.length c3, .bool en]).below hb4 (by simp)
    have x0 : W4.cell? ⟨w.heap.size, 0, none⟩ = some (.slice A l.length c) := bt.cell 0
    have x1 : W4.cell? ⟨w.heap.size, 1, none⟩ = some (.bool true) := bt.cell 1
    have y0 : W4.cell? ⟨W3.heap.size, 0, none⟩ = some (.slice A3 l3.length c3) := bu.cell 0
    have y1 : W4.cell? ⟨W3.heap.size, 1, none⟩ = some (.bool en) := bu.cell 1
    have HB4 := Lib.hid (below2 HB3.out hb34)
    have HE4 := Lib.hid (HE3.out.below hb34)
    clear hb4 hb34 bt bu HT3 HE3 HB3
    by_cases her : er = 0
    · subst her
      have HF : Hid ((true == en && decide (pes l = pes l3)) = false) := by
        rcases HYY.out with h1 | h1
        · exact absurd rfl h1
        · show _ = _
          rw [HP3.out, ← h1]
          congr 1
          · cases en <;> rfl
          · exact decide_eq_decide.2 ⟨Eq.symm, Eq.symm⟩
      go_wp2_with fail
      refine (tsame_any _ _ l l3 true en _ (HE.out.below HB4.out) HE4.out).mono ?_
      rw [HF.out]
      rintro e W5 ⟨rfl, hb5⟩
      have HB5 := Lib.hid (below2 HB4.out hb5)
      clear hb5
      go_wp2_with fail
      go_ret
      exact ⟨rfl, HB5.out⟩
    · have hne : ((er : Int) != 0) = true := by simp; exact her
      clear her
      go_wp2_with fail
      go_ret
      exact ⟨rfl, HB4.out⟩
  · have hne : (chkAll (pes l) != 0) = true := by simpa using hc
    clear h ht hc
    go_enter Try.func8, Try.ntmps8
    go_wp2_with fail
    refine (RCheck_any _ l _ HE.out).mono ?_
    rintro e W4 ⟨rfl, rfl⟩
    go_wp2_with fail
    refine (alive_true _).mono ?_
    rintro e W3 ⟨rfl, hb3⟩
    have HB3 := Lib.hid hb3
    clear hb3
    go_wp2_with fail
    go_ret
    exact ⟨rfl, HB3.out⟩
end Go.Proofs.Ytbaibabnfbjdeaa
