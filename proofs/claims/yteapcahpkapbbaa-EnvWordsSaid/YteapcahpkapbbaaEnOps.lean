/-
  What all of stage 16's laws lean on: variables since world w0 (Has), alive, great.
  Conditions: those of each theorem.
-/
import Derived.Test.YteapcahpkapbbaaEnCon
import Derived.Test.YteapcahpkapbbaaEnArg
import Derived.Test.YteapcahpkapbbaaPrtApp
import Derived.OwnWalk
namespace Go.Proofs.Yteapcahpkapbbaa
open Go.RowKit

section
variable {P P' : Thing} {N : Nat → Prop} {w0 w : World} {f : FuncId} {args : Array Value} {φ : Ending → Prop}
theorem Has.callE (h : Has P N w0 w) (k : ∀ F, P F w → Calls Try.prog f args w fun e w' => φ e ∧ Turned P' F w w') : Calls Try.prog f args w fun e w' => φ e ∧ Has P' N w0 w' ∧ Stay N w w' := by
  obtain ⟨F, h⟩ := h
  refine (k F h.it).mono ?_
  rintro e w' ⟨he, ht⟩
  exact ⟨he, h.turn ht⟩
theorem Has.keepE (fP : Framed P) (h : Has P N w0 w) (k : ∀ F, P F w → Calls Try.prog f args w fun e w' => φ e ∧ Below w.heap.size w w') : Calls Try.prog f args w fun e w' => φ e ∧ Has P N w0 w' ∧ Below w.heap.size w w' := by
  have h2 := h
  obtain ⟨F, h⟩ := h
  refine (k F h.it).mono ?_
  rintro e w' ⟨he, hb⟩
  exact ⟨he, h2.keep fP hb, hb⟩
end
section
variable {b : Nat} {l : Vrs} {N : Nat → Prop} {w0 w : World}
theorem new_1 (hw : Below w0.heap.size w0 w) : Calls Try.prog 10 #[] w fun e w' => ∃ b, e = .returned (.pointer (some ⟨b, 0, none⟩)) ∧ Has (EnvT b []) (fun _ => False) w0 w' := by
  refine (New_is w).mono ?_
  rintro e w' ⟨b, F, he, hm, hF, hb⟩
  exact ⟨b, he, Has.made hw hm hF hb⟩
theorem set_1 (h : Has (EnvT b l) N w0 w) (n v : List Nat) (hn : ∀ c ∈ n, c < 256) (hv : ∀ c ∈ v, c < 256) (hnl : n.length ≤ 9223372036854775807) (hvl : v.length ≤ 9223372036854775807) :
    Calls Try.prog 13 #[.pointer (some ⟨b, 0, none⟩), .string (str n), .string (str v)] w fun e w' => e = .returned (.int .i64 ((setV l n v).1 : Nat)) ∧ Has (EnvT b (setV l n v).2) N w0 w' ∧ Stay N w w' :=
  h.callE fun _ h => Set_is h n v hn hv hnl hvl
theorem get_1 (h : Has (EnvT b l) N w0 w) (n : List Nat) (hn : ∀ c ∈ n, c < 256) (hnl : n.length ≤ 9223372036854775807) :
    Calls Try.prog 15 #[.pointer (some ⟨b, 0, none⟩), .string (str n)] w fun e w' => e = .returned (getE (getV l n)) ∧ Has (EnvT b l) N w0 w' ∧ Below w.heap.size w w' :=
  h.keepE (env_framed b l) fun _ h => Get_is h n hn hnl
theorem word_1 {S : Nat → Prop} (h : Has (EnvT b l) N w0 w) (a k : Int) (P : Value) (ps : List Prt) (hp : Prts S w P ps) (hok : PsOk ps) :
    Calls Try.prog 17 #[.pointer (some ⟨b, 0, none⟩), .agg #[.int .i64 a, .int .i64 k, P]] w fun e w' => e = .returned (wordE (wordV l ps)) ∧ Has (EnvT b l) N w0 w' ∧ Below w.heap.size w w' :=
  h.keepE (env_framed b l) fun _ h => Word_is h a k P ps hp hok
theorem names_1 (h : Has (EnvT b l) N w0 w) :
    Calls Try.prog 19 #[.pointer (some ⟨b, 0, none⟩)] w fun e w' => StrsTo w (namesV l) e w' ∧ Has (EnvT b l) N w0 w' := by
  have h2 := h
  obtain ⟨F, h⟩ := h
  refine (names_is h.it).mono ?_
  intro e w' hs
  obtain ⟨A, c, he, go, hr, hg, hb⟩ := hs
  exact ⟨⟨A, c, he, go, hr, hg, hb⟩, h2.keep (env_framed b l) hb⟩
/-- The names, in a row that is none of the variables'. -/
theorem names_2 (h : Has (EnvT b l) N w0 w) :
    Calls Try.prog 19 #[.pointer (some ⟨b, 0, none⟩)] w fun e w' => ∃ A c go, e = .returned (.slice A (namesV l).length c) ∧ Row w' 9 go (.slice A (namesV l).length c) (sv (namesV l)) ∧ (∀ x, go = some x → w.heap.size ≤ x) ∧ Has (EnvT b l) (fun x => N x ∨ go = some x) w0 w' ∧ Below w.heap.size w w' := by
  obtain ⟨F, h⟩ := h
  refine (names_is h.it).mono ?_
  intro e w' hs
  obtain ⟨A, c, he, go, hr, hg, hb⟩ := hs
  have ho : Only (fun _ => False) w w' := Only.of_below hb (Nat.le_refl _) _
  refine ⟨A, c, go, he, hr, hg, ⟨F, (env_framed b l).only h.it ho (fun _ _ e => e), h.new, ?_, h.below.trans (hb.mono h.below.size)⟩, hb⟩
  rintro x (hx | hx)
  · exact ⟨(h.np x hx).1, Nat.lt_of_lt_of_le (h.np x hx).2 hb.size⟩
  · exact ⟨fun hF => by have := (env_framed b l).lt h.it x hF; have := hg x hx; omega, hr.lt hx⟩
theorem has_ok (h : Has (EnvT b l) N w0 w) : VarsOk l ∧ (l.map (·.1)).Nodup := by obtain ⟨F, h⟩ := h; exact env_ok h.it
end

theorem eg_set : setV [] [120] [53] = (0, [([120], [53])]) := by simp [setV, rightN, nameB, getV, putV]
theorem eg_word : wordV [([120], [53])] [⟨false, [97]⟩, ⟨true, [120]⟩, ⟨false, [45]⟩, ⟨true, [120]⟩] = (0, [97, 53, 45, 53]) := by simp [wordV, catV, partV, getV]
theorem eg_num1 : numS [45, 55] (-9) 9 = (0, -7) := by simp [numS, digitB, valD]
theorem eg_num2 : numS [48, 55] (-9) 9 = (4, 0) := by simp [numS]

set_option maxRecDepth 100000 in
set_option maxHeartbeats 2000000 in
theorem alive_true (w : World) : Calls Try.prog 11 #[] w fun e w' => e = .returned (.bool true) ∧ Below w.heap.size w w' := by
  have N1 := Lib.hid (fun W => Number_is [45, 55] (by simp) (by simp) (-9) 9 W)
  have N2 := Lib.hid (fun W => Number_is [48, 55] (by simp) (by simp) (-9) 9 W)
  unfold NumTo at N1 N2
  rw [eg_num1] at N1
  rw [eg_num2] at N2
  rw [show str [45, 55] = (⟨#[45, 55]⟩ : ByteArray) from rfl] at N1
  rw [show str [48, 55] = (⟨#[48, 55]⟩ : ByteArray) from rfl] at N2
  go_enter Try.func11, Try.ntmps11
  go_wp2_with fail
  refine (new_1 (Below.refl _ w)).mono ?_
  rintro e w1 ⟨b, rfl, hm⟩
  have HS := set_1 hm [120] [53] (by simp) (by simp) (by simp) (by simp)
  rw [eg_set, show str [120] = (⟨#[120]⟩ : ByteArray) from rfl, show str [53] = (⟨#[53]⟩ : ByteArray) from rfl] at HS
  have HS1 := Lib.hid HS
  clear hm HS
  go_wp2_with fail
  refine HS1.out.mono ?_
  rintro e w2 ⟨rfl, hm, -⟩
  have X2 := Lib.hid hm
  clear hm HS1
  have hal := (Below.refl w2.heap.size w2).alloc (Nat.le_refl _) (.cells #[.bool false, .string ⟨#[97]⟩, .bool true, .string ⟨#[120]⟩, .bool false, .string ⟨#[45]⟩, .bool true, .string ⟨#[120]⟩] 57)
  have HW := word_1 (X2.out.keep (env_framed _ _) hal) 0 0 _ _ (prts_new w2 [⟨false, [97]⟩, ⟨true, [120]⟩, ⟨false, [45]⟩, ⟨true, [120]⟩] #[.bool false, .string ⟨#[97]⟩, .bool true, .string ⟨#[120]⟩, .bool false, .string ⟨#[45]⟩, .bool true, .string ⟨#[120]⟩] 4 rfl rfl) ⟨by simp, by simp⟩
  rw [eg_word, show wordE (0, [97, 53, 45, 53]) = .tuple #[.string ⟨#[97, 53, 45, 53]⟩, .int .i64 0] from rfl] at HW
  have HW1 := Lib.hid HW
  clear HW hal
  go_wp2_with fail
  refine HW1.out.mono ?_
  rintro e w3 ⟨rfl, hm, -⟩
  have X3 := Lib.hid hm.below
  clear hm HW1 X2
  go_wp2_with fail
  refine (N1.out w3).mono ?_
  rintro e w4 ⟨rfl, hb⟩
  have X4 := Lib.hid (X3.out.trans (hb.mono X3.out.size))
  clear hb
  go_wp2_with fail
  refine (N2.out w4).mono ?_
  rintro e w5 ⟨rfl, hb⟩
  have X5 := Lib.hid (X4.out.trans (hb.mono X4.out.size))
  clear hb
  go_wp2_with fail
  go_ret
  exact ⟨rfl, X5.out⟩

/-- Are they more than are looked at? -/
def wideE (x : EAct) : Bool := decide (200 < x.value.length) || decide (200 < x.name.length) || decide (50 < x.w.parts.length)
def bigE (l : List EAct) : Bool := decide (300 < l.length) || l.any wideE
theorem bigE_small {l : List EAct} (h : bigE l = false) : l.length ≤ 300 ∧ ∀ x ∈ l, x.value.length ≤ 200 ∧ x.name.length ≤ 200 ∧ x.w.parts.length ≤ 50 := by
  unfold bigE at h
  rw [Bool.or_eq_false_iff, decide_eq_false_iff_not] at h
  refine ⟨by omega, fun x hx => ?_⟩
  have h2 := List.any_eq_false.1 h.2 x hx
  unfold wideE at h2
  simp only [Bool.or_eq_true, decide_eq_true_eq, not_or] at h2
  omega
set_option maxRecDepth 100000 in
set_option maxHeartbeats 2000000 in
theorem great_is {S : Nat → Prop} (v : Value) (l : List EAct) (w : World) (h : EActs S w v l) (hl : l.length ≤ 9223372036854775807) (hi : ∀ x ∈ l, EActIn x) :
    Calls Try.prog 12 #[v] w fun e w' => e = .returned (.bool (bigE l)) ∧ Below w.heap.size w w' := by
  obtain ⟨A, c, rfl, -⟩ := h.form
  have HB := Lib.hid h
  have HI := Lib.hid hi
  clear h hi
  by_cases h1 : 300 < l.length
  · have HR : Hid (bigE l = true) := Lib.hid (by unfold bigE; rw [decide_eq_true h1]; rfl)
    have d0 : decide ((300 : Int) < (l.length : Int)) = true := decide_eq_true (by omega)
    go_enter Try.func12, Try.ntmps12
    go_wp2_with fail
    go_ret
    exact ⟨ret_bool HR.out.symm, Below.refl _ w⟩
  have d0 : decide ((300 : Int) < (l.length : Int)) = false := decide_eq_false (by omega)
  have HR : Hid (bigE l = l.any wideE) := Lib.hid (by unfold bigE; rw [decide_eq_false h1]; rfl)
  have hl3 : l.length ≤ 300 := by omega
  go_enter Try.func12, Try.ntmps12
  go_wp2_with fail
  go_loopw [10] (fun iv wr => ∃ i : Nat, i ≤ l.length ∧ iv = .int .i64 (i : Nat) ∧ Hid (Below w.heap.size w wr) ∧ Hid (∀ x ∈ l.take i, wideE x = false)) (fun iv _ => l.length - (intOf iv).toNat)
  case atStart => exact ⟨0, by omega, rfl, Lib.hid (Below.refl _ w), Lib.hid (by simp)⟩
  case round =>
    obtain ⟨i, hi, rfl, HW, HA⟩ := hrel
    by_cases hlt : i < l.length
    · obtain ⟨x, hx⟩ : ∃ x, l[i]? = some x := ⟨_, List.getElem?_eq_getElem hlt⟩
      obtain ⟨bb, o, rfl, -, c0, c1, c2, c3, c4, v5, c5, hps⟩ := (SlI.below eact_ok HB.out HW.out).at_ hx
      obtain ⟨D, dd, rfl, -⟩ := hps.form
      have hxi := HI.out x (List.mem_of_getElem? hx)
      have hs1 := str_len x.name
      have hs2 := str_len x.value
      have HT : Hid (l.take (i + 1) = l.take i ++ [x]) := Lib.hid (by rw [List.take_add_one, hx]; rfl)
      have HM := Lib.hid (List.mem_of_getElem? hx)
      have X2 := Lib.hid (HW.out.alloc HW.out.size (.cells #[.int .i64 x.kind, .string (str x.name), .string (str x.value), .int .i64 x.w.at_, .int .i64 x.w.kind, .slice D x.w.parts.length dd] 35))
      clear hx hps hxi
      by_cases k1 : 200 < x.value.length
      · have d1 : decide ((200 : Int) < (x.value.length : Int)) = true := decide_eq_true (by omega)
        have HY : Hid (bigE l = true) := Lib.hid (by rw [HR.out]; exact List.any_eq_true.2 ⟨x, HM.out, by unfold wideE; rw [decide_eq_true k1]; rfl⟩)
        go_wp2_with fail
        go_ret
        exact ⟨ret_bool HY.out.symm, X2.out⟩
      have d1 : decide ((200 : Int) < (x.value.length : Int)) = false := decide_eq_false (by omega)
      by_cases k2 : 200 < x.name.length
      · have d2 : decide ((200 : Int) < (x.name.length : Int)) = true := decide_eq_true (by omega)
        have HY : Hid (bigE l = true) := Lib.hid (by rw [HR.out]; exact List.any_eq_true.2 ⟨x, HM.out, by unfold wideE; rw [decide_eq_true k2, Bool.or_true]; rfl⟩)
        go_wp2_with fail
        go_ret
        exact ⟨ret_bool HY.out.symm, X2.out⟩
      have d2 : decide ((200 : Int) < (x.name.length : Int)) = false := decide_eq_false (by omega)
      by_cases k3 : 50 < x.w.parts.length
      · have d3 : decide ((50 : Int) < (x.w.parts.length : Int)) = true := decide_eq_true (by omega)
        have HY : Hid (bigE l = true) := Lib.hid (by rw [HR.out]; exact List.any_eq_true.2 ⟨x, HM.out, by unfold wideE; rw [decide_eq_true k3, Bool.or_true]⟩)
        go_wp2_with fail
        go_ret
        exact ⟨ret_bool HY.out.symm, X2.out⟩
      have d3 : decide ((50 : Int) < (x.w.parts.length : Int)) = false := decide_eq_false (by omega)
      have HN : Hid (wideE x = false) := Lib.hid (by unfold wideE; rw [decide_eq_false k1, decide_eq_false k2, decide_eq_false k3]; rfl)
      clear k1 k2 k3
      go_wp2_with fail
      go_roundw
      case rel => exact ⟨i + 1, by omega, by go_num, X2, Lib.hid (fun y hy => by rw [HT.out] at hy; rcases List.mem_append.1 hy with hy | hy; exact HA.out y hy; rw [List.mem_singleton.1 hy]; exact HN.out)⟩
      case measure => simp [intOf]; omega
    · obtain rfl : i = l.length := by omega
      rw [List.take_length] at HA
      have HY : Hid (bigE l = false) := Lib.hid (by rw [HR.out]; exact List.any_eq_false.2 fun x hx => by rw [HA.out x hx]; simp)
      go_wp2_with fail
      go_ret
      exact ⟨ret_bool HY.out.symm, HW.out⟩
end Go.Proofs.Yteapcahpkapbbaa
