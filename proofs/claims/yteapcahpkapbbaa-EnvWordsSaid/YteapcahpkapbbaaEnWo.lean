/-
  env's told, Word.
  Conditions: at most 1000 parts of at most 281474976710656 bytes each.
-/
import Derived.Test.YteapcahpkapbbaaEnT
import Derived.Test.YteapcahpkapbbaaEnRefW
import Derived.Test.YteapcahpkapbbaaBldN
namespace Go.Proofs.Yteapcahpkapbbaa
open Go.RowKit

set_option maxRecDepth 100000 in
set_option maxHeartbeats 1000000 in
theorem told_is {b : Nat} {l : Vrs} {F : Nat → Prop} {w : World} (h : EnvT b l F w) (p : Prt) (hp : ∀ c ∈ p.s, c < 256) (hpl : p.s.length ≤ 9223372036854775807) :
    Calls Try.prog 28 #[.pointer (some ⟨b, 0, none⟩), .agg #[.bool p.var, .string (str p.s)]] w fun e w' => e = .returned (getE (partV l p)) ∧ Below w.heap.size w w' := by
  have hb1 : Below w.heap.size w (w.alloc (.cells #[.bool p.var, .string (str p.s)] 57)) := (Below.refl _ w).alloc (Nat.le_refl _) _
  have HE := Lib.hid (Get_is ((env_framed b l).only h (Only.of_below hb1 (Nat.le_refl _) (fun _ => False)) fun _ _ e => e) p.s hp hpl)
  have HB := Lib.hid hb1
  have hb := Blk.new w 57 #[.bool p.var, .string (str p.s)]
  have x0 := hb.cell 0
  have x1 := hb.cell 1
  simp only [List.getElem?_toArray, List.getElem?_cons_zero, List.getElem?_cons_succ] at x0 x1
  clear h hb1 hb hp hpl
  cases hv : p.var with
  | false =>
    have HN : Hid (partV l p = some p.s) := Lib.hid (by rw [partV, hv]; rfl)
    rw [hv] at HE HB x0 x1
    rw [HN.out, show getE (some p.s) = .tuple #[.string (str p.s), .bool true] from rfl]
    clear hv
    generalize str p.s = t at *
    go_enter Try.func28, Try.ntmps28
    go_wp2_with fail
    go_ret2
    exact ⟨rfl, HB.out⟩
  | true =>
    have HN : Hid (partV l p = getV l p.s) := Lib.hid (by rw [partV, hv]; rfl)
    rw [hv] at HE HB x0 x1
    rw [HN.out]
    clear hv HN
    generalize getV l p.s = o at *
    generalize str p.s = t at *
    cases o with
    | none =>
      rw [show getE none = .tuple #[.string ⟨#[]⟩, .bool false] from rfl] at *
      go_enter Try.func28, Try.ntmps28
      go_wp2_with fail
      refine HE.out.mono ?_
      rintro e w1 ⟨rfl, hb⟩
      have HB2 := Lib.hid (HB.out.trans (hb.mono HB.out.size))
      clear hb
      go_wp2_with fail
      go_ret2
      exact ⟨rfl, HB2.out⟩
    | some x =>
      rw [show getE (some x) = .tuple #[.string (str x), .bool true] from rfl] at *
      go_enter Try.func28, Try.ntmps28
      go_wp2_with fail
      refine HE.out.mono ?_
      rintro e w1 ⟨rfl, hb⟩
      have HB2 := Lib.hid (HB.out.trans (hb.mono HB.out.size))
      clear hb
      go_wp2_with fail
      go_ret2
      exact ⟨rfl, HB2.out⟩

theorem cat_none {l : Vrs} {ps : List Prt} {j : Nat} {p : Prt} (hp : ps[j]? = some p) (hn : partV l p = none) : catV l ps = none := by
  have e : ps = ps.take (j + 1) ++ ps.drop (j + 1) := (List.take_append_drop _ _).symm
  have t : ps.take (j + 1) = ps.take j ++ [p] := by rw [List.take_add_one, hp]; rfl
  rw [e, cat_append, t, cat_snoc, hn]
  cases catV l (ps.take j) <;> rfl
theorem cat_step {l : Vrs} {ps : List Prt} {j : Nat} {p : Prt} {s t : List Nat} (hp : ps[j]? = some p) (hs : catV l (ps.take j) = some s) (ht : partV l p = some t) : catV l (ps.take (j + 1)) = some (s ++ t) := by
  have e : ps.take (j + 1) = ps.take j ++ [p] := by rw [List.take_add_one, hp]; rfl
  rw [e, cat_snoc, hs, ht]; rfl
theorem part_ok {l : Vrs} (hv : VarsOk l) {p : Prt} (hp : (∀ c ∈ p.s, c < 256) ∧ p.s.length ≤ 281474976710656) {t : List Nat} (ht : partV l p = some t) : (∀ c ∈ t, c < 256) ∧ t.length ≤ 281474976710656 := by
  unfold partV at ht
  split at ht
  · have := ok_get hv ht; exact ⟨this.1, by omega⟩
  · injection ht with ht; subst ht; exact hp
/-- Where the loop is: what was put together so far, or that it is too long. -/
def WSt (l : Vrs) (ps : List Prt) (w1 wr : World) (q j : Nat) (lg : Bool) : Prop :=
  (lg = false ∧ ∃ acc, catV l (ps.take j) = some acc ∧ acc.length ≤ 16777216 ∧ (∀ c ∈ acc, c < 256) ∧ BldS w1 wr q acc) ∨ (lg = true ∧ (∃ s, catV l (ps.take j) = some s ∧ 16777216 < s.length) ∧ ∃ acc, BldS w1 wr q acc)
theorem WSt.bel {l : Vrs} {ps : List Prt} {w1 wr : World} {q j : Nat} {lg : Bool} (h : WSt l ps w1 wr q j lg) : Below w1.heap.size w1 wr := by
  rcases h with ⟨_, acc, _, _, _, h⟩ | ⟨_, _, acc, h⟩ <;> exact h.bel

set_option maxRecDepth 100000 in
set_option maxHeartbeats 4000000 in
theorem Word_is {S : Nat → Prop} {b : Nat} {l : Vrs} {F : Nat → Prop} {w : World} (h : EnvT b l F w) (a k : Int) (P : Value) (ps : List Prt) (hp : Prts S w P ps) (hok : PsOk ps) :
    Calls Try.prog 17 #[.pointer (some ⟨b, 0, none⟩), .agg #[.int .i64 a, .int .i64 k, P]] w fun e w' => e = .returned (wordE (wordV l ps)) ∧ Below w.heap.size w w' := by
  obtain ⟨A, c, rfl, hle⟩ := hp.form
  have hb1 : Below w.heap.size w (w.alloc (.cells #[.int .i64 a, .int .i64 k, .slice A ps.length c] 33)) := (Below.refl _ w).alloc (Nat.le_refl _) _
  have HE := Lib.hid ((env_framed b l).only h (Only.of_below hb1 (Nat.le_refl _) (fun _ => False)) fun _ _ e => e)
  have HV := Lib.hid (env_ok h).1
  have HP := Lib.hid (SlI.below prt_ok hp hb1)
  have HB := Lib.hid hb1
  have hb := Blk.new w 33 #[.int .i64 a, .int .i64 k, .slice A ps.length c]
  have hpl := hok.1
  have HO := Lib.hid hok.2
  have hsz : (w.alloc (.cells #[.int .i64 a, .int .i64 k, .slice A ps.length c] 33)).heap.size = w.heap.size + 1 := by simp
  have HN := Lib.hid (BldS.new (w.alloc (.cells #[.int .i64 a, .int .i64 k, .slice A ps.length c] 33)))
  have x2 := (hb.alloc (.cells #[.pointer none, .slice none 0 0] 72)).cell 2
  simp only [List.getElem?_toArray, List.getElem?_cons_zero, List.getElem?_cons_succ] at x2
  clear h hp hok hb1 hb
  go_enter Try.func17, Try.ntmps17
  go_wp2_with fail
  clear x2
  rw [← hsz]
  generalize World.alloc w _ = W at *
  generalize hZ : w.heap.size = z at *
  have HZ := Lib.hid hZ
  have HZW : Hid (z ≤ W.heap.size) := Lib.hid (hZ ▸ HB.out.size)
  clear hsz hZ
  have HEF := Lib.hid (fun V (hV : Below W.heap.size W V) => (env_framed b l).only HE.out (Only.of_below hV (Nat.le_refl _) (fun _ => False)) fun _ _ e => e)
  have HS : Hid (WSt l ps W (W.alloc (.cells #[.pointer none, .slice none 0 0] 72)) W.heap.size 0 false) := Lib.hid (.inl ⟨rfl, [], rfl, by simp, by simp, HN.out⟩)
  generalize W.alloc _ = W2 at *
  generalize hQ : W.heap.size = q at *
  have HQ := Lib.hid hQ
  have HZQ : Hid (z ≤ W.heap.size) := Lib.hid (by rw [hQ]; exact HZW.out)
  clear HN HE hQ HZW
  go_loopw [7, 17] (fun lg i wr => ∃ (j : Nat) (lb : Bool), j ≤ ps.length ∧ i = .int .i64 (j : Nat) ∧ lg = .bool lb ∧ Hid (WSt l ps W wr q j lb)) (fun _ i _ => ps.length - (intOf i).toNat)
  case atStart => exact ⟨0, false, by omega, rfl, rfl, HS⟩
  case round =>
    obtain ⟨j, lb, hj, rfl, rfl, HW⟩ := hrel
    have hbw := HW.out.bel
    have HBW := Lib.hid hbw
    by_cases hlt : j < ps.length
    · obtain ⟨p, hp⟩ : ∃ p, ps[j]? = some p := ⟨_, List.getElem?_eq_getElem hlt⟩
      obtain ⟨bb, o, rfl, -, y0, y1⟩ := (SlI.below prt_ok HP.out hbw).at_ hp
      have hpo := HO.out p (List.mem_of_getElem? hp)
      have r1 : decide ((j : Int) < (ps.length : Int)) = true := decide_eq_true (by omega)
      have HPJ := Lib.hid hp
      have HT := Lib.hid (fun V hV => told_is (HEF.out V hV) p hpo.1 (by omega))
      have HPO := Lib.hid hpo
      have hba : Below q W (wr.alloc (.cells #[.bool p.var, .string (str p.s)] 57)) := by
        rw [← HQ.out]
        exact hbw.alloc hbw.size _
      have HBA := Lib.hid hba
      have hbx : Below wr.heap.size wr (wr.alloc (.cells #[.bool p.var, .string (str p.s)] 57)) := (Below.refl _ wr).alloc (Nat.le_refl _) _
      have HBX := Lib.hid hbx
      clear hp hpo hbw hba hbx
      cases ho : partV l p with
      | none =>
        rw [ho, show getE none = .tuple #[.string ⟨#[]⟩, .bool false] from rfl] at HT
        have HN : Hid (wordV l ps = (8, [])) := Lib.hid (by rw [wordV, cat_none HPJ.out ho])
        clear ho
        go_wp2_with fail
        refine (HT.out _ HBA.out).mono ?_
        rintro e w3 ⟨rfl, hb3⟩
        have HB3 := Lib.hid (HB.out.trans (((HQ.out ▸ HBA.out : Below W.heap.size W _).trans (hb3.mono (HBW.out.alloc HBW.out.size _).size)).mono HZQ.out))
        clear hb3
        go_wp2_with fail
        go_ret2
        exact ⟨by rw [HN.out]; rfl, by rw [HZ.out]; exact HB3.out⟩
      | some t =>
        rw [ho, show getE (some t) = .tuple #[.string (str t), .bool true] from rfl] at HT
        have hto := part_ok HV.out HPO.out ho
        have HTO := Lib.hid hto
        have htl := hto.2
        have HPT := Lib.hid ho
        have hzt := str_len t
        clear ho hto
        have hst := HW.out
        rcases hst with ⟨rfl, acc, hc, hal, hab, hbs⟩ | ⟨rfl, ⟨s, hc, hsl⟩, acc, hbs⟩
        · have HC := Lib.hid hc
          have HAB := Lib.hid hab
          have HBS := Lib.hid (hbs.below HBX.out)
          clear hc hab hbs
          have k1 : IntKind.i64.wrap (16777216 - (acc.length : Int)) = 16777216 - (acc.length : Int) := IntWalk.i64_in _ (by omega)
          by_cases hbig : 16777216 - (acc.length : Int) < (t.length : Int)
          · have d1 : decide (16777216 - (acc.length : Int) < (t.length : Int)) = true := decide_eq_true hbig
            have hlen : 16777216 < (acc ++ t).length := by rw [List.length_append]; omega
            have HLen := Lib.hid hlen
            clear hlen hbig
            go_wp2_with fail
            refine (HT.out _ HBA.out).mono ?_
            rintro e w3 ⟨rfl, hb3⟩
            have HB3 := Lib.hid (HBS.out.below hb3)
            have HL3 := Lib.hid (sLen_is HB3.out)
            clear hb3
            go_wp2_with fail
            refine HL3.out.mono ?_
            rintro e w4 ⟨rfl, rfl⟩
            clear HL3
            go_wp2_with fail
            go_roundw
            case rel => exact ⟨j + 1, true, by omega, by go_num, rfl, Lib.hid (.inr ⟨rfl, ⟨_, cat_step HPJ.out HC.out HPT.out, HLen.out⟩, acc, HB3.out⟩)⟩
            case measure => simp [intOf]; omega
          · have d1 : decide (16777216 - (acc.length : Int) < (t.length : Int)) = false := decide_eq_false hbig
            have hlen : acc.length + t.length ≤ 16777216 := by omega
            have HLen := Lib.hid hlen
            clear hlen hbig
            go_wp2_with fail
            refine (HT.out _ HBA.out).mono ?_
            rintro e w3 ⟨rfl, hb3⟩
            have HB3 := Lib.hid (HBS.out.below hb3)
            have HL3 := Lib.hid (sLen_is HB3.out)
            have HW3 := Lib.hid (sWriteString_is HB3.out t HTO.out.1 (by have := HLen.out; omega))
            clear hb3
            go_wp2_with fail
            refine HL3.out.mono ?_
            rintro e w4 ⟨rfl, rfl⟩
            clear HL3
            go_wp2_with fail
            refine HW3.out.mono ?_
            rintro e w5 ⟨rfl, hb5⟩
            have HB5 := Lib.hid hb5
            clear hb5 HW3
            go_wp2_with fail
            go_roundw
            case rel => exact ⟨j + 1, false, by omega, by go_num, rfl, Lib.hid (.inl ⟨rfl, _, cat_step HPJ.out HC.out HPT.out, by rw [List.length_append]; exact HLen.out, fun c hc => (List.mem_append.1 hc).elim (HAB.out c) (HTO.out.1 c), HB5.out⟩)⟩
            case measure => simp [intOf]; omega
        · have HC := Lib.hid (And.intro hc hsl)
          have HBS := Lib.hid (hbs.below HBX.out)
          clear hc hsl hbs
          go_wp2_with fail
          refine (HT.out _ HBA.out).mono ?_
          rintro e w3 ⟨rfl, hb3⟩
          have HB3 := Lib.hid (HBS.out.below hb3)
          clear hb3
          go_wp2_with fail
          go_roundw
          case rel => exact ⟨j + 1, true, by omega, by go_num, rfl, Lib.hid (.inr ⟨rfl, ⟨_, cat_step HPJ.out HC.out.1 HPT.out, by rw [List.length_append]; have := HC.out.2; omega⟩, acc, HB3.out⟩)⟩
          case measure => simp [intOf]; omega
    · have hjl : j = ps.length := by omega
      have HJ : Hid (ps.take j = ps) := Lib.hid (List.take_of_length_le (by omega))
      clear hjl
      have hst := HW.out
      rcases hst with ⟨rfl, acc, hc, hal, hab, hbs⟩ | ⟨rfl, ⟨s, hc, hsl⟩, acc, hbs⟩
      · have HN : Hid (wordV l ps = (0, acc)) := Lib.hid (by rw [HJ.out] at hc; rw [wordV, hc]; dsimp only; rw [if_neg (by omega)])
        have HS3 := Lib.hid (sString_is hbs hab (by omega))
        clear hc hab hbs
        go_wp2_with fail
        refine HS3.out.mono ?_
        rintro e w5 ⟨rfl, hb5⟩
        have HB5 := Lib.hid (HB.out.trans (hb5.mono HZQ.out))
        clear hb5
        go_wp2_with fail
        go_ret2
        exact ⟨by rw [HN.out]; rfl, by rw [HZ.out]; exact HB5.out⟩
      · have HN : Hid (wordV l ps = (6, [])) := Lib.hid (by rw [HJ.out] at hc; rw [wordV, hc]; dsimp only; rw [if_pos hsl])
        have HB5 := Lib.hid (HB.out.trans (HBW.out.mono HZQ.out))
        clear hc hsl hbs
        go_wp2_with fail
        go_ret2
        exact ⟨by rw [HN.out]; rfl, by rw [HZ.out]; exact HB5.out⟩
end Go.Proofs.Yteapcahpkapbbaa
