/-
  env's Set.
  Conditions: names and values of at most 9223372036854775807 bytes.
-/
import Derived.Test.YteapcahpkapbbaaEnT
import Derived.Test.YteapcahpkapbbaaEnIs
import Derived.Test.YteapcahpkapbbaaUptoLast
import Derived.Maps.OwnSet
namespace Go.Proofs.Yteapcahpkapbbaa
open Go.RowKit

theorem EnvV.keep {b m : Nat} {l : Vrs} {F : Nat → Prop} {w w' : World} (h : EnvV b m l F w) (hb : Below w.heap.size w w') : EnvV b m l F w' :=
  ⟨h.blk.below hb h.blk.lt, h.map.below hb, h.own, h.ok, h.nd⟩
theorem EnvV.turned {b m : Nat} {l : Vrs} {F : Nat → Prop} {w w' : World} (h : EnvV b m l F w) (hb : Below w.heap.size w w') : Turned (EnvT b l) F w w' :=
  (Turned.refl ⟨m, h⟩).keep (env_framed b l) hb

set_option maxRecDepth 100000 in
set_option maxHeartbeats 4000000 in
theorem Set_is {b : Nat} {l : Vrs} {F : Nat → Prop} {w : World} (h : EnvT b l F w) (n v : List Nat) (hn : ∀ c ∈ n, c < 256) (hv : ∀ c ∈ v, c < 256) (hnl : n.length ≤ 9223372036854775807) (hvl : v.length ≤ 9223372036854775807) :
    Calls Try.prog 13 #[.pointer (some ⟨b, 0, none⟩), .string (str n), .string (str v)] w fun e w' => e = .returned (.int .i64 ((setV l n v).1 : Nat)) ∧ Turned (EnvT b (setV l n v).2) F w w' := by
  obtain ⟨m, h⟩ := h
  have HI := Lib.hid (isName_is n hn hnl w)
  have HW := Lib.hid h
  have HNV := Lib.hid (And.intro hn (And.intro hv (And.intro hnl hvl)))
  have hzv := str_len v
  clear h hn hv
  cases hr : rightN n with
  | false =>
    have HS : Hid (setV l n v = (2, l)) := Lib.hid (by unfold setV; rw [if_pos hr])
    rw [hr] at HI
    rw [HS.out]
    clear hr
    go_enter Try.func13, Try.ntmps13
    go_wp2_with fail
    refine HI.out.mono ?_
    rintro e w1 ⟨rfl, hb1⟩
    have HB := Lib.hid hb1
    clear hb1
    go_wp2_with fail
    go_ret
    exact ⟨rfl, HW.out.turned HB.out⟩
  | true =>
  rw [hr] at HI
  by_cases hbig : 16777216 < v.length
  · have HS : Hid (setV l n v = (6, l)) := Lib.hid (by unfold setV; rw [if_neg (by rw [hr]; simp), if_pos hbig])
    rw [HS.out]
    have d1 : decide ((16777216 : Int) < (v.length : Int)) = true := decide_eq_true (by omega)
    clear hr hbig
    go_enter Try.func13, Try.ntmps13
    go_wp2_with fail
    refine HI.out.mono ?_
    rintro e w1 ⟨rfl, hb1⟩
    have HB := Lib.hid hb1
    clear hb1
    go_wp2_with fail
    go_ret
    exact ⟨rfl, HW.out.turned HB.out⟩
  have d1 : decide ((16777216 : Int) < (v.length : Int)) = false := decide_eq_false (by omega)
  have HR : Hid (rightN n = true ∧ ¬ 16777216 < v.length) := Lib.hid ⟨hr, hbig⟩
  have hl256 := HW.out.ok.1
  clear hr hbig
  go_enter Try.func13, Try.ntmps13
  go_wp2_with fail
  refine HI.out.mono ?_
  rintro e w1 ⟨rfl, hb1⟩
  have HB := Lib.hid hb1
  have HE := Lib.hid (HW.out.keep hb1)
  have c0 : w1.cell? ⟨b, 0, none⟩ = some (.map (some m)) := HE.out.blk.cell 0
  have hlook := HE.out.map.look HNV.out.1 HNV.out.2.2.1
  have hlen := fun ty => HE.out.map.len ty
  have CN : Hid (∀ W, Calls Try.prog 24 #[.string (str n)] W fun e w' => e = .returned (.string (str n)) ∧ Below W.heap.size W w') := Lib.hid fun W => strClone_is n HNV.out.1 (by
    have h1 := HR.out.1
    unfold rightN at h1
    simp only [Bool.and_eq_true, decide_eq_true_eq] at h1
    omega) W
  have CV : Hid (∀ W, Calls Try.prog 24 #[.string (str v)] W fun e w' => e = .returned (.string (str v)) ∧ Below W.heap.size W w') := Lib.hid fun W => strClone_is v HNV.out.2.1 (by have := HR.out.2; omega) W
  have HLL : Hid (l.length < 9223372036854775807) := Lib.hid (by omega)
  clear hb1 HI
  have fin : Hid (∀ (_ : World), getV l n = none ∧ 256 ≤ l.length → False) → ∀ w3 w4, Below w1.heap.size w1 w3 → MapV w4 m (l.length + 1) (putV l n v) → w3.grownBy w4 (some m) → w4.heap.size = w3.heap.size → setV l n v = (0, putV l n v) ∧ Turned (EnvT b (putV l n v)) F w w4 := by
    intro hno w3 w4 h3 hm hg hs
    have e : setV l n v = (0, putV l n v) := by
      unfold setV
      rw [if_neg (by rw [HR.out.1]; simp), if_neg HR.out.2, if_neg (hno.out w)]
    have hE3 := HE.out.keep h3
    have hne : b ≠ m := hE3.map.ne_blk hE3.blk
    have hO : Only (fun x => x = m) w3 w4 := ⟨hg.os, hg.tape, hg.output, hg.size, fun i hi hi2 => hg.block i hi (fun e => hi2 (by injection e))⟩
    have hw3 : Below w.heap.size w w3 := HB.out.trans (h3.mono HB.out.size)
    refine ⟨e, F, ⟨m, hE3.blk.keep (hg.block b hE3.blk.lt (fun e => hne (by injection e))), hm.tight, hE3.own, ?_, ?_⟩, ?_, fun _ hx => .inl hx⟩
    · have := ok_set hE3.ok n HNV.out.2.1
      rw [e] at this; exact this
    · exact put_nodup hE3.nd n v
    · have h1 : Only F w w3 := Only.of_below hw3 (Nat.le_refl _) _
      exact h1.trans (hO.mono fun i _ hi => by rw [hi]; exact (hE3.own m).2 (.inr rfl)) (fun i hi hx => hx)
  cases hg : getV l n with
  | some x =>
    rw [hg] at hlook
    have HF := Lib.hid (fin (Lib.hid fun _ h => by rw [hg] at h; cases h.1))
    clear hg fin
    go_wp2_with fail
    have y0 : ∀ V, Below w1.heap.size w1 V → V.cell? ⟨b, 0, none⟩ = some (.map (some m)) := fun V hV => (HE.out.keep hV).blk.cell 0
    refine wp_region_upto (fun V => Below w1.heap.size w1 V) 8 (by kernel_rfl) ?_ (fun hHeld => ?_)
    · exact ⟨rfl, rfl, rfl, Nat.le_refl _, fun _ _ => rfl⟩
    refine wpUpto.take 0 (by kernel_rfl) (by kernel_rfl) (by kernel_rfl) (by kernel_rfl) (by assumption) ?_
    intro o ho
    simp only [List.getElem?_toArray, List.getElem?_cons_zero, Option.some.injEq] at ho
    subst ho
    refine ⟨?_, fun _ _ _ h => h, Or.inl ⟨by rfl, ?_⟩, ?_⟩
    rotate_left
    · intro w hSw
      go_simp
      try with_reducible rfl
    simp only [Act.put, List.setIfInBounds_toArray, List.set_cons_zero, List.set_cons_succ]
    refine wpUpto.take 1 (by kernel_rfl) (by kernel_rfl) (by kernel_rfl) (by kernel_rfl) (by assumption) ?_
    intro o ho
    simp only [List.getElem?_toArray, List.getElem?_cons_succ, List.getElem?_cons_zero, Option.some.injEq] at ho
    subst ho
    refine ⟨?_, fun _ _ _ h => h, Or.inl ⟨by rfl, ?_⟩, ?_⟩
    rotate_left
    · intro w hSw
      go_simp
      try with_reducible rfl
    simp only [Act.put, List.setIfInBounds_toArray, List.set_cons_zero, List.set_cons_succ]
    refine wpUpto.take 2 (by kernel_rfl) (by kernel_rfl) (by kernel_rfl) (by kernel_rfl) (by assumption) ?_
    intro o ho
    simp only [List.getElem?_toArray, List.getElem?_cons_succ, List.getElem?_cons_zero, Option.some.injEq] at ho
    subst ho
    refine ⟨?_, fun _ _ _ h => h, Or.inl ⟨by rfl, ?_⟩, ?_⟩
    rotate_left
    · intro w hSw
      go_simp
      try with_reducible rfl
    simp only [Act.put, List.setIfInBounds_toArray, List.set_cons_zero, List.set_cons_succ]
    refine wpUpto.take 3 (by kernel_rfl) (by kernel_rfl) (by kernel_rfl) (by kernel_rfl) (by assumption) ?_
    intro o ho
    simp only [List.getElem?_toArray, List.getElem?_cons_succ, List.getElem?_cons_zero, Option.some.injEq] at ho
    subst ho
    refine ⟨?_, fun _ _ _ h => h, Or.inl ⟨by rfl, ?_⟩, ?_⟩
    rotate_left
    · intro w hSw
      go_simp
      try with_reducible rfl
    simp only [Act.put, List.setIfInBounds_toArray, List.set_cons_zero, List.set_cons_succ]
    refine wpUpto.take 4 (by kernel_rfl) (by kernel_rfl) (by kernel_rfl) (by kernel_rfl) (by assumption) ?_
    intro o ho
    simp only [List.getElem?_toArray, List.getElem?_cons_succ, List.getElem?_cons_zero, Option.some.injEq] at ho
    subst ho
    refine ⟨?_, fun _ _ _ h => h, Or.inl ⟨by rfl, ?_⟩, ?_⟩
    rotate_left
    · intro w hSw
      go_simp
      try with_reducible rfl
    simp only [Act.put, List.setIfInBounds_toArray, List.set_cons_zero, List.set_cons_succ]
    refine wpUpto.take 6 (by kernel_rfl) (by kernel_rfl) (by kernel_rfl) (by kernel_rfl) (by assumption) ?_
    intro o ho
    simp only [List.getElem?_toArray, List.getElem?_cons_succ, List.getElem?_cons_zero, Option.some.injEq] at ho
    subst ho
    refine ⟨?_, fun _ _ _ h => h, Or.inl ⟨by rfl, ?_⟩, ?_⟩
    rotate_left
    · intro w hSw
      go_simp
      try with_reducible rfl
    simp only [Act.put, List.setIfInBounds_toArray, List.set_cons_zero, List.set_cons_succ]
    refine wpUpto.one 5 (by kernel_rfl) ?_
    intro o ho K hK
    simp only [List.getElem?_toArray, List.getElem?_cons_succ, List.getElem?_cons_zero, Option.some.injEq] at ho
    subst ho
    go_simp
    go_at_call 24
    refine (CN.out _).mono ?_
    rintro e wa ⟨rfl, hb5⟩
    refine hK.out _ _ ?_ (fun hHeld => ?_)
    · exact hHeld.trans (hb5.mono hHeld.size)
    clear hK K
    try simp only [Act.put, List.setIfInBounds_toArray, List.set_cons_zero, List.set_cons_succ]
    refine wpUpto.one 7 (by kernel_rfl) ?_
    intro o ho K hK
    simp only [List.getElem?_toArray, List.getElem?_cons_succ, List.getElem?_cons_zero, Option.some.injEq] at ho
    subst ho
    go_simp
    go_at_call 24
    refine (CV.out _).mono ?_
    rintro e wb ⟨rfl, hb7⟩
    refine hK.out _ _ ?_ (fun hHeld => ?_)
    · exact hHeld.trans (hb7.mono hHeld.size)
    clear hK K
    try simp only [Act.put, List.setIfInBounds_toArray, List.set_cons_zero, List.set_cons_succ]
    have HV3 := Lib.hid (HE.out.keep hHeld)
    obtain ⟨w4, hrun, hm4, hg4, hs4⟩ := HV3.out.map.put HLL.out HNV.out.1 HNV.out.2.2.1 HNV.out.2.2.2
    refine wpUpto.last (by kernel_rfl) ?_
    intro o ho K hK
    simp only [List.getElem?_toArray, List.getElem?_cons_succ, List.getElem?_cons_zero, Option.some.injEq] at ho
    subst ho
    go_simp
    refine hK.out _ _ ?_
    clear hK K
    refine wpUpto.done (by kernel_rfl) ?_ _
    try simp only [Act.put, List.setIfInBounds_toArray, List.set_cons_zero, List.set_cons_succ]
    go_wp2_with fail
    go_ret
    obtain ⟨e, ht⟩ := HF.out wb w4 hHeld hm4 hg4 hs4
    rw [e]
    exact ⟨rfl, ht⟩
  | none =>
    rw [hg] at hlook
    by_cases h256 : l.length = 256
    · have HS : Hid (setV l n v = (10, l)) := Lib.hid (by unfold setV; rw [if_neg (by rw [HR.out.1]; simp), if_neg HR.out.2, if_pos ⟨hg, by omega⟩])
      have d2 : ((l.length : Int) == 256) = true := beq_iff_eq.2 (by omega)
      clear hg fin h256
      go_wp2_with fail
      go_ret
      rw [HS.out]
      exact ⟨rfl, HW.out.turned HB.out⟩
    · have d2 : ((l.length : Int) == 256) = false := beq_eq_false_iff_ne.2 (by omega)
      have HF := Lib.hid (fin (Lib.hid fun _ h => by omega))
      clear hg fin h256
      go_wp2_with fail
      have y0 : ∀ V, Below w1.heap.size w1 V → V.cell? ⟨b, 0, none⟩ = some (.map (some m)) := fun V hV => (HE.out.keep hV).blk.cell 0
      refine wp_region_upto (fun V => Below w1.heap.size w1 V) 8 (by kernel_rfl) ?_ (fun hHeld => ?_)
      · exact ⟨rfl, rfl, rfl, Nat.le_refl _, fun _ _ => rfl⟩
      refine wpUpto.take 0 (by kernel_rfl) (by kernel_rfl) (by kernel_rfl) (by kernel_rfl) (by assumption) ?_
      intro o ho
      simp only [List.getElem?_toArray, List.getElem?_cons_zero, Option.some.injEq] at ho
      subst ho
      refine ⟨?_, fun _ _ _ h => h, Or.inl ⟨by rfl, ?_⟩, ?_⟩
      rotate_left
      · intro w hSw
        go_simp
        try with_reducible rfl
      simp only [Act.put, List.setIfInBounds_toArray, List.set_cons_zero, List.set_cons_succ]
      refine wpUpto.take 1 (by kernel_rfl) (by kernel_rfl) (by kernel_rfl) (by kernel_rfl) (by assumption) ?_
      intro o ho
      simp only [List.getElem?_toArray, List.getElem?_cons_succ, List.getElem?_cons_zero, Option.some.injEq] at ho
      subst ho
      refine ⟨?_, fun _ _ _ h => h, Or.inl ⟨by rfl, ?_⟩, ?_⟩
      rotate_left
      · intro w hSw
        go_simp
        try with_reducible rfl
      simp only [Act.put, List.setIfInBounds_toArray, List.set_cons_zero, List.set_cons_succ]
      refine wpUpto.take 2 (by kernel_rfl) (by kernel_rfl) (by kernel_rfl) (by kernel_rfl) (by assumption) ?_
      intro o ho
      simp only [List.getElem?_toArray, List.getElem?_cons_succ, List.getElem?_cons_zero, Option.some.injEq] at ho
      subst ho
      refine ⟨?_, fun _ _ _ h => h, Or.inl ⟨by rfl, ?_⟩, ?_⟩
      rotate_left
      · intro w hSw
        go_simp
        try with_reducible rfl
      simp only [Act.put, List.setIfInBounds_toArray, List.set_cons_zero, List.set_cons_succ]
      refine wpUpto.take 3 (by kernel_rfl) (by kernel_rfl) (by kernel_rfl) (by kernel_rfl) (by assumption) ?_
      intro o ho
      simp only [List.getElem?_toArray, List.getElem?_cons_succ, List.getElem?_cons_zero, Option.some.injEq] at ho
      subst ho
      refine ⟨?_, fun _ _ _ h => h, Or.inl ⟨by rfl, ?_⟩, ?_⟩
      rotate_left
      · intro w hSw
        go_simp
        try with_reducible rfl
      simp only [Act.put, List.setIfInBounds_toArray, List.set_cons_zero, List.set_cons_succ]
      refine wpUpto.take 4 (by kernel_rfl) (by kernel_rfl) (by kernel_rfl) (by kernel_rfl) (by assumption) ?_
      intro o ho
      simp only [List.getElem?_toArray, List.getElem?_cons_succ, List.getElem?_cons_zero, Option.some.injEq] at ho
      subst ho
      refine ⟨?_, fun _ _ _ h => h, Or.inl ⟨by rfl, ?_⟩, ?_⟩
      rotate_left
      · intro w hSw
        go_simp
        try with_reducible rfl
      simp only [Act.put, List.setIfInBounds_toArray, List.set_cons_zero, List.set_cons_succ]
      refine wpUpto.take 6 (by kernel_rfl) (by kernel_rfl) (by kernel_rfl) (by kernel_rfl) (by assumption) ?_
      intro o ho
      simp only [List.getElem?_toArray, List.getElem?_cons_succ, List.getElem?_cons_zero, Option.some.injEq] at ho
      subst ho
      refine ⟨?_, fun _ _ _ h => h, Or.inl ⟨by rfl, ?_⟩, ?_⟩
      rotate_left
      · intro w hSw
        go_simp
        try with_reducible rfl
      simp only [Act.put, List.setIfInBounds_toArray, List.set_cons_zero, List.set_cons_succ]
      refine wpUpto.one 5 (by kernel_rfl) ?_
      intro o ho K hK
      simp only [List.getElem?_toArray, List.getElem?_cons_succ, List.getElem?_cons_zero, Option.some.injEq] at ho
      subst ho
      go_simp
      go_at_call 24
      refine (CN.out _).mono ?_
      rintro e wa ⟨rfl, hb5⟩
      refine hK.out _ _ ?_ (fun hHeld => ?_)
      · exact hHeld.trans (hb5.mono hHeld.size)
      clear hK K
      try simp only [Act.put, List.setIfInBounds_toArray, List.set_cons_zero, List.set_cons_succ]
      refine wpUpto.one 7 (by kernel_rfl) ?_
      intro o ho K hK
      simp only [List.getElem?_toArray, List.getElem?_cons_succ, List.getElem?_cons_zero, Option.some.injEq] at ho
      subst ho
      go_simp
      go_at_call 24
      refine (CV.out _).mono ?_
      rintro e wb ⟨rfl, hb7⟩
      refine hK.out _ _ ?_ (fun hHeld => ?_)
      · exact hHeld.trans (hb7.mono hHeld.size)
      clear hK K
      try simp only [Act.put, List.setIfInBounds_toArray, List.set_cons_zero, List.set_cons_succ]
      have HV3 := Lib.hid (HE.out.keep hHeld)
      obtain ⟨w4, hrun, hm4, hg4, hs4⟩ := HV3.out.map.put HLL.out HNV.out.1 HNV.out.2.2.1 HNV.out.2.2.2
      refine wpUpto.last (by kernel_rfl) ?_
      intro o ho K hK
      simp only [List.getElem?_toArray, List.getElem?_cons_succ, List.getElem?_cons_zero, Option.some.injEq] at ho
      subst ho
      go_simp
      refine hK.out _ _ ?_
      clear hK K
      refine wpUpto.done (by kernel_rfl) ?_ _
      try simp only [Act.put, List.setIfInBounds_toArray, List.set_cons_zero, List.set_cons_succ]
      go_wp2_with fail
      go_ret
      obtain ⟨e, ht⟩ := HF.out wb w4 hHeld hm4 hg4 hs4
      rw [e]
      exact ⟨rfl, ht⟩
end Go.Proofs.Yteapcahpkapbbaa
