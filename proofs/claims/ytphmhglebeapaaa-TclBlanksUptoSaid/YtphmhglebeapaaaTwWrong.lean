/-
  What tcl's Print holds commands against: wrongInBraces, wrongParts, wrongWord, wrongCommand: their contracts.
  Conditions: bytes; at most 1048576000 of anything.
-/
import Derived.Test.YtphmhglebeapaaaTwHN
import Derived.Test.YtphmhglebeapaaaTRPrint
import Derived.Test.YtphmhglebeapaaaUptoAll
import Derived.Test.YtphmhglebeapaaaTclLs
namespace Go.Proofs.Ytphmhglebeapaaa
open Go.RowKit

/-- A text that in braces is just that word. -/
def braceOk (s : List Nat) : Prop := s ≠ [] ∧ braceS 0 (123 :: (s ++ [125])) 0 0 = .ok (s.length + 2)
set_option maxRecDepth 100000 in
set_option maxHeartbeats 4000000 in
theorem wrongInBraces_is (p : Prt) (hb : ∀ c ∈ p.s, c < 256) (hn : p.s.length ≤ 1048576000) (w : World) :
    Calls Try.prog 57 #[.agg #[.bool p.var, .string (str p.s)]] w (Asks w (¬ (p.var = false ∧ braceOk p.s))) := by
  obtain ⟨v, s⟩ := p
  dsimp only at *
  have HW1 := Lib.hid ((Below.refl _ w).alloc (Nat.le_refl _) (.cells #[.bool v, .string (str s)] 47))
  cases v with
  | true =>
    clear hb hn
    go_enter Try.func57, Try.ntmps57
    go_wp2_with fail
    go_ret
    exact ⟨⟨true, rfl, ⟨fun _ h => (by cases h.1), fun _ => rfl⟩⟩, HW1.out⟩
  | false =>
    by_cases h0 : s = []
    · subst h0
      rw [str_nil] at *
      clear hb hn
      go_enter Try.func57, Try.ntmps57
      go_wp2_with fail
      go_ret
      exact ⟨⟨true, rfl, ⟨fun _ h => h.2.1 rfl, fun _ => rfl⟩⟩, HW1.out⟩
    · have hse : (str s).toList.isEmpty = false := str_some h0
      have hsq : ((str s).toList == (⟨#[]⟩ : ByteArray).toList) = false := by
        have := str_beq (m := []) hb (by simp)
        rw [str_nil] at this
        rw [this, decide_eq_false h0]
      have hbw : ∀ c ∈ 123 :: (s ++ [125]), c < 256 := by
        intro c hc
        rcases List.mem_cons.1 hc with h | h
        · omega
        · rcases List.mem_append.1 h with h | h
          · exact hb c h
          · rw [List.mem_singleton.1 h]; omega
      have hwl : (123 :: (s ++ [125])).length = s.length + 2 := by simp
      have HC := Lib.hid fun W => closing_is (123 :: (s ++ [125])) hbw (by rw [hwl]; omega) 0 rfl W
      have hcat1 : (⟨#[123]⟩ : ByteArray) ++ str s = str (123 :: s) := str_app [123] s
      have hcat2 : str (123 :: s) ++ (⟨#[125]⟩ : ByteArray) = str (123 :: (s ++ [125])) := str_app (123 :: s) [125]
      have hz1 : (⟨#[123]⟩ : ByteArray).size + (str s).size ≤ 9223372036854775807 := by rw [str_len]; show 1 + s.length ≤ _; omega
      have hz2 : (str (123 :: s)).size + (⟨#[125]⟩ : ByteArray).size ≤ 9223372036854775807 := by rw [str_len]; show s.length + 1 + 1 ≤ _; omega
      have hsz : (str (123 :: (s ++ [125]))).size = s.length + 2 := by rw [str_len, hwl]
      have hBO : braceOk s ↔ braceS 0 (123 :: (s ++ [125])) 0 0 = .ok (s.length + 2) := ⟨fun h => h.2, fun h => ⟨h0, h⟩⟩
      have hle := braceS_le _ 0 (123 :: (s ++ [125])) (Nat.le_refl _) 0 0
      rw [List.drop_zero] at HC
      have HBO := Lib.hid hBO
      have HLE := Lib.hid hle
      have HER := Lib.hid fun q h => brace_err _ 0 (123 :: (s ++ [125])) (Nat.le_refl _) 0 0 q (by omega) h
      generalize braceS 0 (123 :: (s ++ [125])) 0 0 = res at *
      generalize str (123 :: (s ++ [125])) = ws at *
      generalize str (123 :: s) = w1 at *
      clear hb hbw hBO hle h0 hwl
      cases res with
      | error e =>
        obtain ⟨p, c⟩ := e
        dsimp only [closeV] at HC
        have he := HER.out _ rfl
        have hc4 : 4 ≤ c := he.2.1
        have q1 : ((c : Int) != 0) = true := by simp; omega
        clear he
        go_enter Try.func57, Try.ntmps57
        go_wp2_with fail
        refine (HC.out _).mono ?_
        rintro e w2 ⟨rfl, rfl⟩
        go_wp2_with fail
        go_ret
        exact ⟨⟨true, rfl, ⟨fun _ h => (by have := HBO.out.1 h.2; cases this), fun _ => rfl⟩⟩, HW1.out⟩
      | ok j =>
        dsimp only [closeV] at HC
        have hj := (HLE.out j rfl).1
        obtain ⟨m, rfl⟩ : ∃ m, j = m + 1 := ⟨j - 1, by omega⟩
        rw [Nat.add_sub_cancel] at HC
        obtain ⟨r, hr⟩ : ∃ r, r = ((m : Int) != (s.length : Int) + 1) := ⟨_, rfl⟩
        have HR : Hid (r = true ↔ ¬ ((false : Bool) = false ∧ braceOk s)) := Lib.hid (by
          rw [hr, HBO.out]
          simp
          omega)
        have q1 : ((m : Int) != (s.length : Int) + 1) = r := hr.symm
        have q2 : ((m : Int) != (s.length : Int) + 2 - 1) = r := by rw [hr]; congr 1; omega
        clear hr
        go_enter Try.func57, Try.ntmps57
        go_wp2_with fail
        refine (HC.out _).mono ?_
        rintro e w2 ⟨rfl, rfl⟩
        go_wp2_with fail
        go_ret
        exact ⟨⟨r, rfl, HR.out⟩, HW1.out⟩

theorem nameOk_iff (s : List Nat) : nameOk s ↔ nameRun s = s ∧ 1 ≤ s.length ∧ s.length ≤ 64 := by
  unfold nameOk
  refine and_congr_left fun _ => ⟨fun h => ?_, fun h c hc => ?_⟩
  · have := nameRun_take (l := s) (i := s.length) (by rwa [List.take_length]) (by rw [List.drop_length]; rfl)
    rwa [List.take_length] at this
  · rw [← h] at hc
    exact List.all_eq_true.1 (List.all_takeWhile (p := nameB) (l := s)) c hc
/-- What stands ahead of place i is a text. -/
def textAhead (ps : List Prt) (i : Nat) : Prop := 0 < i ∧ ∃ q, ps[i - 1]? = some q ∧ q.var = false
theorem okAt_text {ps : List Prt} {i : Nat} (hi : i < ps.length) (h0 : 0 < i) : (∃ q, ps[i - 1]? = some q ∧ q.var = true) ↔ ¬ textAhead ps i := by
  obtain ⟨q, hq⟩ : ∃ q, ps[i - 1]? = some q := ⟨_, List.getElem?_eq_getElem (by omega)⟩
  unfold textAhead
  constructor
  · rintro ⟨q', h1, h2⟩ ⟨_, q2, h3, h4⟩
    rw [h1] at h3; cases h3; rw [h2] at h4; cases h4
  · intro h
    refine ⟨q, hq, ?_⟩
    cases hv : q.var with
    | true => rfl
    | false => exact absurd ⟨h0, q, hq, hv⟩ h
set_option maxRecDepth 100000 in
set_option maxHeartbeats 8000000 in
theorem wrongParts_is {S : Nat → Prop} {w : World} (ps : List Prt) {v : Value} (hx : Prts S w v ps) (hb : ∀ p ∈ ps, ∀ c ∈ p.s, c < 256) (hn : ps.length ≤ 1048576000) (hs : ∀ p ∈ ps, p.s.length ≤ 1048576000) :
    Calls Try.prog 56 #[v] w (Asks w (¬ partsOk false ps)) := by
  obtain ⟨A, ca, rfl, hca⟩ := hx.form
  have HX := Lib.hid hx
  have HB := Lib.hid hb
  have HS := Lib.hid hs
  have HOK := Lib.hid (partsOk_at ps)
  clear hx hb hs
  go_enter Try.func56, Try.ntmps56
  go_wp2_with fail
  go_loopw [3, 8] (fun tv iv wr => ∃ (i : Nat) (tb : Bool), i ≤ ps.length ∧ iv = .int .i64 (i : Nat) ∧ tv = .bool tb ∧ Hid (Below w.heap.size w wr) ∧ Hid ((tb = true ↔ textAhead ps i) ∧ ∀ j p, j < i → ps[j]? = some p → okAt ps j p)) (fun _ iv _ => ps.length - (intOf iv).toNat)
  case atStart => exact ⟨0, false, by omega, rfl, rfl, Lib.hid (Below.refl _ w), Lib.hid ⟨⟨fun h => (by cases h), fun h => absurd h.1 (by omega)⟩, fun j p h => by omega⟩⟩
  case round =>
    obtain ⟨i, tb, hi, rfl, rfl, HW, HE⟩ := hrel
    by_cases hlt : i < ps.length
    · have r1 : decide ((i : Int) < (ps.length : Int)) = true := decide_eq_true (by omega)
      have HXI := Lib.hid (List.getElem?_eq_getElem hlt)
      have hsb := HB.out _ (List.getElem_mem hlt)
      have hsl := HS.out _ (List.getElem_mem hlt)
      obtain ⟨b1, o1, rfl, p0, p1⟩ := parts_at (SlI.below prt_ok HX.out HW.out) hlt
      have i1 : (i : Int) < (ps.length : Int) := by omega
      generalize ps[i] = p at *
      obtain ⟨pv, s⟩ := p
      dsimp only at *
      have HWA := Lib.hid (HW.out.alloc HW.out.size (.cells #[.bool pv, .string (str s)] 47))
      have hsz := str_len s
      by_cases h0 : s = []
      · subst h0
        rw [str_nil] at *
        have HNO : Hid (¬ partsOk false ps) := Lib.hid fun h => by
          have h2 := HOK.out.1 h i ⟨pv, []⟩ HXI.out
          unfold okAt at h2
          cases pv with
          | true => simp [nameOk] at h2
          | false => simp at h2
        clear hsb hsl
        go_wp2_with fail
        go_ret
        exact ⟨⟨true, rfl, ⟨fun _ => HNO.out, fun _ => rfl⟩⟩, HWA.out⟩
      · have hse : (str s).toList.isEmpty = false := str_some h0
        have hsq : ((str s).toList == (⟨#[]⟩ : ByteArray).toList) = false := by
          have := str_beq (m := []) hsb (by simp)
          rw [str_nil] at this
          rw [this, decide_eq_false h0]
        have H0 := Lib.hid h0
        have h1s : 1 ≤ s.length := List.length_pos_iff.2 h0
        have HSB := Lib.hid hsb
        have HTN : ∀ b, Hid ((b = true ↔ textAhead ps (i + 1)) ↔ (b = true ↔ pv = false)) := fun b => Lib.hid (by
          have : textAhead ps (i + 1) ↔ pv = false := by
            unfold textAhead
            rw [Nat.add_sub_cancel]
            constructor
            · rintro ⟨_, q, h1, h2⟩
              rw [HXI.out] at h1; cases h1; exact h2
            · intro h; exact ⟨by omega, ⟨pv, s⟩, HXI.out, h⟩
          rw [this])
        clear h0 hsb
        cases pv with
        | true =>
          have HNO : Hid (partsOk false ps → nameOk s) := Lib.hid fun h => by
            have h2 := HOK.out.1 h i ⟨true, s⟩ HXI.out
            unfold okAt at h2
            simpa using h2
          have HNI := Lib.hid (nameOk_iff s)
          by_cases h64 : 64 < s.length
          · have r2 : decide ((64 : Int) < (s.length : Int)) = true := decide_eq_true (by omega)
            have HBD : Hid (¬ partsOk false ps) := Lib.hid fun h => by have := (HNO.out h).2.2; omega
            clear h64
            go_wp2_with fail
            go_quiet (fail)
            have HW9 := Lib.hid (HWA.out.trans ((drewN_b _ nq).mono HWA.out.size))
            generalize World.drewN _ nq = w9 at *
            go_wp2_with fail
            go_ret
            exact ⟨⟨true, rfl, ⟨fun _ => HBD.out, fun _ => rfl⟩⟩, HW9.out⟩
          · have r2 : decide ((64 : Int) < (s.length : Int)) = false := decide_eq_false (by omega)
            have HNM := Lib.hid fun W => name_is s HSB.out (by omega) W
            obtain ⟨r, hr⟩ : ∃ r, r = decide (nameRun s = s) := ⟨_, rfl⟩
            have hne : ((str (nameRun s)).toList == (str s).toList) = r := by rw [hr]; exact str_beq (fun c hc => HSB.out c ((List.takeWhile_prefix _).subset hc)) HSB.out
            have HR := Lib.hid hr
            generalize str (nameRun s) = sn at *
            have H64 := Lib.hid (Nat.le_of_not_lt h64)
            clear hr h64 HSB
            have hB5 := Blk.new wr 47 #[.bool true, .string (str s)]
            go_wp2_with fail
            generalize World.alloc wr _ = w5 at *
            generalize wr.heap.size = q at *
            have k0 : w5.cell? ⟨q, 0, none⟩ = some (.bool true) := by rw [hB5.cell]; rfl
            have k1 : w5.cell? ⟨q, 1, none⟩ = some (.string (str s)) := by rw [hB5.cell]; rfl
            have HB5 := Lib.hid hB5
            have HKS : Hid (∀ W, Below w5.drew.heap.size w5.drew W → W.cell? ⟨q, 0, none⟩ = some (.bool true) ∧ W.cell? ⟨q, 1, none⟩ = some (.string (str s))) := Lib.hid fun W hb => by
              have hB : Blk W q 47 #[.bool true, .string (str s)] := Blk.below (w := w5.drew) HB5.out hb HB5.out.lt
              exact ⟨by rw [hB.cell]; rfl, by rw [hB.cell]; rfl⟩
            clear hB5
            refine wp_region_noPanic ?_
            refine wp_region_upto (fun W => W.cell? ⟨q, 0, none⟩ = some (.bool true) ∧ W.cell? ⟨q, 1, none⟩ = some (.string (str s))) 17 (by kernel_rfl) ?_ (fun hHeld => ?_)
            · exact ⟨k0, k1⟩
            refine wpUpto.takeAll 0 (by kernel_rfl) (by kernel_rfl) (by kernel_rfl) (by kernel_rfl) (by assumption) ?_
            intro o ho
            simp only [List.getElem?_toArray, List.getElem?_cons_zero, Option.some.injEq] at ho
            subst ho
            refine ⟨?_, fun _ _ _ h => h, Or.inl ⟨by rfl, ?_⟩, ?_⟩
            rotate_left
            · intro w hSw
              go_simp
              try with_reducible rfl
            simp only [Act.put, List.setIfInBounds_toArray, List.set_cons_zero, List.set_cons_succ]
            refine wpUpto.takeAll 1 (by kernel_rfl) (by kernel_rfl) (by kernel_rfl) (by kernel_rfl) (by assumption) ?_
            intro o ho
            simp only [List.getElem?_toArray, List.getElem?_cons_succ, List.getElem?_cons_zero, Option.some.injEq] at ho
            subst ho
            refine ⟨?_, fun _ _ _ h => h, Or.inl ⟨by rfl, ?_⟩, ?_⟩
            rotate_left
            · intro w hSw
              go_simp
              try with_reducible rfl
            simp only [Act.put, List.setIfInBounds_toArray, List.set_cons_zero, List.set_cons_succ]
            refine wpUpto.takeAll 2 (by kernel_rfl) (by kernel_rfl) (by kernel_rfl) (by kernel_rfl) (by assumption) ?_
            intro o ho
            simp only [List.getElem?_toArray, List.getElem?_cons_succ, List.getElem?_cons_zero, Option.some.injEq] at ho
            subst ho
            refine ⟨?_, fun _ _ _ h => h, Or.inl ⟨by rfl, ?_⟩, ?_⟩
            rotate_left
            · intro w hSw
              go_simp
              try with_reducible rfl
            simp only [Act.put, List.setIfInBounds_toArray, List.set_cons_zero, List.set_cons_succ]
            refine wpUpto.takeAll 3 (by kernel_rfl) (by kernel_rfl) (by kernel_rfl) (by kernel_rfl) (by assumption) ?_
            intro o ho
            simp only [List.getElem?_toArray, List.getElem?_cons_succ, List.getElem?_cons_zero, Option.some.injEq] at ho
            subst ho
            refine ⟨?_, fun _ _ _ h => h, Or.inl ⟨by rfl, ?_⟩, ?_⟩
            rotate_left
            · intro w hSw
              go_simp
              try with_reducible rfl
            simp only [Act.put, List.setIfInBounds_toArray, List.set_cons_zero, List.set_cons_succ]
            refine wpUpto.takeAll 4 (by kernel_rfl) (by kernel_rfl) (by kernel_rfl) (by kernel_rfl) (by assumption) ?_
            intro o ho
            simp only [List.getElem?_toArray, List.getElem?_cons_succ, List.getElem?_cons_zero, Option.some.injEq] at ho
            subst ho
            refine ⟨?_, fun _ _ _ h => h, Or.inl ⟨by rfl, ?_⟩, ?_⟩
            rotate_left
            · intro w hSw
              go_simp
              try with_reducible rfl
            simp only [Act.put, List.setIfInBounds_toArray, List.set_cons_zero, List.set_cons_succ]
            refine wpUpto.takeAll 5 (by kernel_rfl) (by kernel_rfl) (by kernel_rfl) (by kernel_rfl) (by assumption) ?_
            intro o ho
            simp only [List.getElem?_toArray, List.getElem?_cons_succ, List.getElem?_cons_zero, Option.some.injEq] at ho
            subst ho
            refine ⟨?_, fun _ _ _ h => h, Or.inl ⟨by rfl, ?_⟩, ?_⟩
            rotate_left
            · intro w hSw
              go_simp
              try with_reducible rfl
            simp only [Act.put, List.setIfInBounds_toArray, List.set_cons_zero, List.set_cons_succ]
            refine wpUpto.takeAll 6 (by kernel_rfl) (by kernel_rfl) (by kernel_rfl) (by kernel_rfl) (by assumption) ?_
            intro o ho
            simp only [List.getElem?_toArray, List.getElem?_cons_succ, List.getElem?_cons_zero, Option.some.injEq] at ho
            subst ho
            refine ⟨?_, fun _ _ _ h => h, Or.inl ⟨by rfl, ?_⟩, ?_⟩
            rotate_left
            · intro w hSw
              go_simp
              try with_reducible rfl
            simp only [Act.put, List.setIfInBounds_toArray, List.set_cons_zero, List.set_cons_succ]
            refine wpUpto.takeAll 7 (by kernel_rfl) (by kernel_rfl) (by kernel_rfl) (by kernel_rfl) (by assumption) ?_
            intro o ho
            simp only [List.getElem?_toArray, List.getElem?_cons_succ, List.getElem?_cons_zero, Option.some.injEq] at ho
            subst ho
            refine ⟨?_, fun _ _ _ h => h, Or.inl ⟨by rfl, ?_⟩, ?_⟩
            rotate_left
            · intro w hSw
              go_simp
              try with_reducible rfl
            simp only [Act.put, List.setIfInBounds_toArray, List.set_cons_zero, List.set_cons_succ]
            refine wpUpto.takeAll 8 (by kernel_rfl) (by kernel_rfl) (by kernel_rfl) (by kernel_rfl) (by assumption) ?_
            intro o ho
            simp only [List.getElem?_toArray, List.getElem?_cons_succ, List.getElem?_cons_zero, Option.some.injEq] at ho
            subst ho
            refine ⟨?_, fun _ _ _ h => h, Or.inl ⟨by rfl, ?_⟩, ?_⟩
            rotate_left
            · intro w hSw
              go_simp
              try with_reducible rfl
            simp only [Act.put, List.setIfInBounds_toArray, List.set_cons_zero, List.set_cons_succ]
            refine wpUpto.takeAll 9 (by kernel_rfl) (by kernel_rfl) (by kernel_rfl) (by kernel_rfl) (by assumption) ?_
            intro o ho
            simp only [List.getElem?_toArray, List.getElem?_cons_succ, List.getElem?_cons_zero, Option.some.injEq] at ho
            subst ho
            refine ⟨?_, fun _ _ _ h => h, Or.inl ⟨by rfl, ?_⟩, ?_⟩
            rotate_left
            · intro w hSw
              go_simp
              try with_reducible rfl
            simp only [Act.put, List.setIfInBounds_toArray, List.set_cons_zero, List.set_cons_succ]
            refine wpUpto.takeAll 11 (by kernel_rfl) (by kernel_rfl) (by kernel_rfl) (by kernel_rfl) (by assumption) ?_
            intro o ho
            simp only [List.getElem?_toArray, List.getElem?_cons_succ, List.getElem?_cons_zero, Option.some.injEq] at ho
            subst ho
            refine ⟨?_, fun _ _ _ h => h, Or.inl ⟨by rfl, ?_⟩, ?_⟩
            rotate_left
            · intro w hSw
              go_simp
              try with_reducible rfl
            simp only [Act.put, List.setIfInBounds_toArray, List.set_cons_zero, List.set_cons_succ]
            refine wpUpto.takeAll 12 (by kernel_rfl) (by kernel_rfl) (by kernel_rfl) (by kernel_rfl) (by assumption) ?_
            intro o ho
            simp only [List.getElem?_toArray, List.getElem?_cons_succ, List.getElem?_cons_zero, Option.some.injEq] at ho
            subst ho
            refine ⟨?_, fun _ _ _ h => h, Or.inl ⟨by rfl, ?_⟩, ?_⟩
            rotate_left
            · intro w hSw
              go_simp
              try with_reducible rfl
            simp only [Act.put, List.setIfInBounds_toArray, List.set_cons_zero, List.set_cons_succ]
            refine wpUpto.one 10 (by kernel_rfl) ?_
            intro o ho K hK
            simp only [List.getElem?_toArray, List.getElem?_cons_succ, List.getElem?_cons_zero, Option.some.injEq] at ho
            subst ho
            go_simp
            go_at_call 69
            refine (HNM.out _).mono ?_
            rintro e w9 ⟨rfl, hb9⟩
            have Y9 := Lib.hid hb9
            clear hb9
            refine hK.out _ _ ?_ (fun hHeld => ?_)
            · exact HKS.out _ Y9.out
            clear hK K
            try simp only [Act.put, List.setIfInBounds_toArray, List.set_cons_zero, List.set_cons_succ]
            refine wpUpto.takeAll 13 (by kernel_rfl) (by kernel_rfl) (by kernel_rfl) (by kernel_rfl) (by assumption) ?_
            intro o ho
            simp only [List.getElem?_toArray, List.getElem?_cons_succ, List.getElem?_cons_zero, Option.some.injEq] at ho
            subst ho
            refine ⟨?_, fun _ _ _ h => h, Or.inl ⟨by rfl, ?_⟩, ?_⟩
            rotate_left
            · intro w hSw
              go_simp
              try with_reducible rfl
            simp only [Act.put, List.setIfInBounds_toArray, List.set_cons_zero, List.set_cons_succ]
            refine wpUpto.takeAll 14 (by kernel_rfl) (by kernel_rfl) (by kernel_rfl) (by kernel_rfl) (by assumption) ?_
            intro o ho
            simp only [List.getElem?_toArray, List.getElem?_cons_succ, List.getElem?_cons_zero, Option.some.injEq] at ho
            subst ho
            refine ⟨?_, fun _ _ _ h => h, Or.inl ⟨by rfl, ?_⟩, ?_⟩
            rotate_left
            · intro w hSw
              go_simp
              try with_reducible rfl
            simp only [Act.put, List.setIfInBounds_toArray, List.set_cons_zero, List.set_cons_succ]
            refine wpUpto.takeAll 15 (by kernel_rfl) (by kernel_rfl) (by kernel_rfl) (by kernel_rfl) (by assumption) ?_
            intro o ho
            simp only [List.getElem?_toArray, List.getElem?_cons_succ, List.getElem?_cons_zero, Option.some.injEq] at ho
            subst ho
            refine ⟨?_, fun _ _ _ h => h, Or.inl ⟨by rfl, ?_⟩, ?_⟩
            rotate_left
            · intro w hSw
              go_simp
              try with_reducible rfl
            simp only [Act.put, List.setIfInBounds_toArray, List.set_cons_zero, List.set_cons_succ]
            refine wpUpto.takeAll 16 (by kernel_rfl) (by kernel_rfl) (by kernel_rfl) (by kernel_rfl) (by assumption) ?_
            intro o ho
            simp only [List.getElem?_toArray, List.getElem?_cons_succ, List.getElem?_cons_zero, Option.some.injEq] at ho
            subst ho
            refine ⟨?_, fun _ _ _ h => h, Or.inl ⟨by rfl, ?_⟩, ?_⟩
            rotate_left
            · intro w hSw
              go_simp
              try with_reducible rfl
            simp only [Act.put, List.setIfInBounds_toArray, List.set_cons_zero, List.set_cons_succ]
            refine wpUpto.done (by kernel_rfl) ?_ _
            refine NoPanic.normal ?_
            try simp only [Act.put, List.setIfInBounds_toArray, List.set_cons_zero, List.set_cons_succ]
            have HW9 := Lib.hid (HWA.out.trans (show Below w.heap.size w5 w9 from (drewN_b w5 1 |>.mono HWA.out.size).trans (Below.mono Y9.out HWA.out.size)))
            have m0 := (HKS.out _ Y9.out).1
            clear k0 k1 p0 p1
            cases r with
            | false =>
              have HBD : Hid (¬ partsOk false ps) := Lib.hid fun h => by
                have := (HNI.out.1 (HNO.out h)).1
                rw [decide_eq_true this] at HR
                exact absurd HR.out (by simp)
              go_wp2_with fail
              go_ret
              exact ⟨⟨true, rfl, ⟨fun _ => HBD.out, fun _ => rfl⟩⟩, HW9.out⟩
            | true =>
              have HNK : Hid (nameOk s) := Lib.hid (HNI.out.2 ⟨of_decide_eq_true HR.out.symm, h1s, H64.out⟩)
              go_wp2_with fail
              go_roundw
              case rel =>
                refine ⟨i + 1, false, by omega, by go_num, rfl, HW9, Lib.hid ⟨(HTN false).out.2 ⟨fun h => (by cases h), fun h => (by cases h)⟩, fun j p hj hp => ?_⟩⟩
                rcases Nat.lt_or_ge j i with h | h
                · exact HE.out.2 j p h hp
                · have e : j = i := by omega
                  subst e
                  rw [HXI.out] at hp; cases hp
                  unfold okAt; simpa using HNK.out
              case measure => simp [intOf]; omega
        | false =>
          cases tb with
          | true =>
            have HBD : Hid (¬ partsOk false ps) := Lib.hid fun h => by
              have h2 := HOK.out.1 h i ⟨false, s⟩ HXI.out
              unfold okAt at h2
              have h3 := (HE.out.1.1 rfl)
              exact (okAt_text hlt h3.1).1 (h2.2 h3.1) h3
            go_wp2_with fail
            go_quiet (fail)
            have HW9 := Lib.hid (HWA.out.trans ((drewN_b _ nq).mono HWA.out.size))
            have hB9 := (Blk.new wr 47 #[.bool false, .string (str s)]).below (drewN_b _ nq) (Blk.new wr 47 #[.bool false, .string (str s)]).lt
            generalize World.drewN _ nq = w9 at *
            have m0 := hB9.cell 0
            simp at m0
            go_wp2_with fail
            go_ret
            exact ⟨⟨true, rfl, ⟨fun _ => HBD.out, fun _ => rfl⟩⟩, HW9.out⟩
          | false =>
            have HOI : Hid (okAt ps i ⟨false, s⟩) := Lib.hid (by
              unfold okAt
              rw [if_neg (by simp)]
              refine ⟨H0.out, fun h => (okAt_text hlt h).2 fun h3 => ?_⟩
              have := HE.out.1.2 h3
              cases this)
            go_wp2_with fail
            go_quiet (fail)
            have HW9 := Lib.hid (HWA.out.trans ((drewN_b _ nq).mono HWA.out.size))
            have hB9 := (Blk.new wr 47 #[.bool false, .string (str s)]).below (drewN_b _ nq) (Blk.new wr 47 #[.bool false, .string (str s)]).lt
            generalize World.drewN _ nq = w9 at *
            have m0 := hB9.cell 0
            simp at m0
            go_wp2_with fail
            go_roundw
            case rel =>
              refine ⟨i + 1, true, by omega, by go_num, rfl, HW9, Lib.hid ⟨(HTN true).out.2 (by simp), fun j p hj hp => ?_⟩⟩
              rcases Nat.lt_or_ge j i with h | h
              · exact HE.out.2 j p h hp
              · have e : j = i := by omega
                subst e
                rw [HXI.out] at hp; cases hp
                exact HOI.out
            case measure => simp [intOf]; omega
    · have r1 : decide ((i : Int) < (ps.length : Int)) = false := decide_eq_false (by omega)
      have r1n : decide (i < ps.length) = false := decide_eq_false hlt
      have HPO : Hid (partsOk false ps) := Lib.hid (HOK.out.2 fun j p hp => HE.out.2 j p (by have := (List.getElem?_eq_some_iff.1 hp).1; omega) hp)
      clear hlt
      go_wp2_with fail
      go_ret
      exact ⟨⟨false, rfl, ⟨fun h => (by cases h), fun h => absurd HPO.out h⟩⟩, HW.out⟩

/-- What asks where something holds: a place, or -1. -/
def AsksI (w : World) (p : Prop) (e : Ending) (w' : World) : Prop := (∃ z : Int, e = .returned (.int .i64 z) ∧ (0 ≤ z ↔ p)) ∧ Below w.heap.size w w'
theorem wordOk_kind {x : Wrd} (h : wordOk x) : x.kind = 0 ∨ x.kind = 1 ∨ x.kind = 2 := by
  rcases h with h | h | h
  · exact .inl h.1
  · exact .inr (.inl h.1)
  · exact .inr (.inr h.1)
theorem wordOk0 {x : Wrd} (h : x.kind = 0) : wordOk x ↔ x.parts ≠ [] ∧ partsOk false x.parts := by
  unfold wordOk; simp [h]
theorem wordOk1 {x : Wrd} (h : x.kind = 1) : wordOk x ↔ partsOk false x.parts := by
  unfold wordOk; simp [h]
theorem wordOk2 {x : Wrd} (h : x.kind = 2) : wordOk x ↔ x.parts = [] ∨ ∃ p, x.parts = [p] ∧ p.var = false ∧ braceOk p.s := by
  unfold wordOk braceOk
  simp only [h]
  constructor
  · rintro (h1 | h1 | ⟨_, h1 | ⟨s, h1, h2⟩, h3⟩)
    · exact absurd h1.1 (by omega)
    · exact absurd h1.1 (by omega)
    · exact .inl h1
    · rw [h1] at h3 ⊢
      exact .inr ⟨_, rfl, rfl, h2, by simpa using h3⟩
  · rintro (h1 | ⟨p, h1, h2, h3, h4⟩)
    · refine .inr (.inr ⟨trivial, .inl h1, ?_⟩)
      rw [h1]; simp [braceS]
    · obtain ⟨v, s⟩ := p
      dsimp only at h2 h3 h4
      subst h2
      refine .inr (.inr ⟨trivial, .inr ⟨s, h1, h3⟩, ?_⟩)
      rw [h1]; simpa using h4
set_option maxRecDepth 100000 in
set_option maxHeartbeats 8000000 in
theorem wrongWord_is {S : Nat → Prop} {w : World} (x : Wrd) {v : Value} (hx : Prts S w v x.parts) (hb : bytesW x) (hn : x.parts.length ≤ 1048576000) (hs : ∀ p ∈ x.parts, p.s.length ≤ 1048576000) :
    Calls Try.prog 43 #[.agg #[.int .i64 x.at_, .int .i64 x.kind, v]] w (Asks w (¬ wordOk x)) := by
  obtain ⟨A, ca, rfl, hca⟩ := hx.form
  have hb1 : Below w.heap.size w (w.alloc (.cells #[.int .i64 x.at_, .int .i64 x.kind, .slice A x.parts.length ca] 44)) := (Below.refl _ w).alloc (Nat.le_refl _) _
  have HP := Lib.hid (wrongParts_is x.parts (SlI.below prt_ok hx hb1) hb hn hs)
  have HB1 := Lib.hid hb1
  have HX := Lib.hid hx
  clear hb1 hx
  by_cases h0 : x.kind = 0
  · have q0 : (x.kind == 0) = true := by simp [h0]
    have HW := Lib.hid (wordOk0 h0)
    clear h0
    by_cases hp : x.parts.length = 0
    · have q1 : ((x.parts.length : Int) == 0) = true := beq_iff_eq.2 (by omega)
      have HE := Lib.hid (List.length_eq_zero_iff.1 hp)
      clear hp hb hs
      go_enter Try.func43, Try.ntmps43
      go_wp2_with fail
      go_ret
      exact ⟨⟨true, rfl, ⟨fun _ h => (HW.out.1 h).1 HE.out, fun _ => rfl⟩⟩, HB1.out⟩
    · have q1 : ((x.parts.length : Int) == 0) = false := beq_eq_false_iff_ne.2 (by omega)
      have q1n : (x.parts.length = 0) = False := eq_false hp
      have HE := Lib.hid (fun h : x.parts = [] => hp (by rw [h]; rfl))
      clear hp hb hs
      go_enter Try.func43, Try.ntmps43
      go_wp2_with fail
      refine HP.out.mono ?_
      rintro e w2 ⟨⟨r, rfl, hr⟩, hb2⟩
      have HR := Lib.hid hr
      have HB2 := Lib.hid (HB1.out.trans (hb2.mono HB1.out.size))
      clear hr hb2
      go_wp2_with fail
      go_ret
      exact ⟨⟨r, rfl, HR.out.trans (not_congr ⟨fun h => HW.out.2 ⟨HE.out, h⟩, fun h => (HW.out.1 h).2⟩)⟩, HB2.out⟩
  · have q0 : (x.kind == 0) = false := by simp [h0]
    by_cases h1 : x.kind = 1
    · have q2 : (x.kind == 1) = true := by simp [h1]
      have HW := Lib.hid (wordOk1 h1)
      clear h0 h1 hb hs
      go_enter Try.func43, Try.ntmps43
      go_wp2_with fail
      refine HP.out.mono ?_
      rintro e w2 ⟨⟨r, rfl, hr⟩, hb2⟩
      have HR := Lib.hid hr
      have HB2 := Lib.hid (HB1.out.trans (hb2.mono HB1.out.size))
      clear hr hb2
      go_wp2_with fail
      go_ret
      exact ⟨⟨r, rfl, HR.out.trans (not_congr HW.out.symm)⟩, HB2.out⟩
    · have q2 : (x.kind == 1) = false := by simp [h1]
      by_cases h2 : x.kind = 2
      · have q3 : (x.kind == 2) = true := by simp [h2]
        have HW := Lib.hid (wordOk2 h2)
        clear h0 h1 h2
        by_cases hp : 1 < x.parts.length
        · have q4 : decide ((1 : Int) < (x.parts.length : Int)) = true := decide_eq_true (by omega)
          have q4n : decide (1 < x.parts.length) = true := decide_eq_true hp
          have HNO : Hid (¬ wordOk x) := Lib.hid fun h => by
            rcases HW.out.1 h with h | ⟨p, h, _⟩
            · rw [h] at hp; simp at hp
            · rw [h] at hp; simp at hp
          clear hp hb hs
          go_enter Try.func43, Try.ntmps43
          go_wp2_with fail
          go_ret
          exact ⟨⟨true, rfl, ⟨fun _ => HNO.out, fun _ => rfl⟩⟩, HB1.out⟩
        · have q4 : decide ((1 : Int) < (x.parts.length : Int)) = false := decide_eq_false (by omega)
          have q4n : decide (1 < x.parts.length) = false := decide_eq_false hp
          by_cases hp1 : x.parts.length = 1
          · have q5 : ((x.parts.length : Int) == 1) = true := beq_iff_eq.2 (by omega)
            have q5n : (x.parts.length = 1) = True := eq_true hp1
            have hlt : 0 < x.parts.length := by omega
            have i1 : (0 : Int) < (x.parts.length : Int) := by omega
            obtain ⟨b1, o1, rfl, p0, p1⟩ := parts_at (SlI.below prt_ok HX.out HB1.out) hlt
            have HXI := Lib.hid (List.getElem?_eq_getElem hlt)
            have hpb := hb _ (List.getElem_mem hlt)
            have hpl := hs _ (List.getElem_mem hlt)
            generalize x.parts[0] = p at *
            rw [Nat.zero_mul, Nat.add_zero] at p0 p1
            have HWR := Lib.hid fun W => wrongInBraces_is p hpb hpl W
            have HEQ : Hid (x.parts = [p]) := Lib.hid (by
              have h3 := HXI.out
              cases hxp : x.parts with
              | nil => rw [hxp] at hp1; simp at hp1
              | cons a t =>
                rw [hxp] at hp1 h3
                simp at hp1 h3
                rw [hp1, h3])
            clear hp hp1 hb hs hpb hpl
            go_enter Try.func43, Try.ntmps43
            go_wp2_with fail
            refine (HWR.out _).mono ?_
            rintro e w2 ⟨⟨r, rfl, hr⟩, hb2⟩
            have HR := Lib.hid hr
            have HB2 := Lib.hid (HB1.out.trans (hb2.mono HB1.out.size))
            clear hr hb2
            go_wp2_with fail
            go_ret
            exact ⟨⟨r, rfl, HR.out.trans (not_congr ⟨fun h => HW.out.2 (.inr ⟨p, HEQ.out, h.1, h.2⟩), fun h => by
              rcases HW.out.1 h with h | ⟨p', h, h1, h2⟩
              · rw [HEQ.out] at h; cases h
              · rw [HEQ.out] at h; cases h; exact ⟨h1, h2⟩⟩)⟩, HB2.out⟩
          · have q5 : ((x.parts.length : Int) == 1) = false := beq_eq_false_iff_ne.2 (by omega)
            have q5n : (x.parts.length = 1) = False := eq_false hp1
            have HOK : Hid (wordOk x) := Lib.hid (HW.out.2 (.inl (List.length_eq_zero_iff.1 (by omega))))
            clear hp hp1 hb hs
            go_enter Try.func43, Try.ntmps43
            go_wp2_with fail
            go_ret
            exact ⟨⟨false, rfl, ⟨fun h => (by cases h), fun h => absurd HOK.out h⟩⟩, HB1.out⟩
      · have q3 : (x.kind == 2) = false := by simp [h2]
        have HNO : Hid (¬ wordOk x) := Lib.hid fun h => by
          rcases wordOk_kind h with h | h | h
          · exact h0 h
          · exact h1 h
          · exact h2 h
        clear h0 h1 h2 hb hs
        go_enter Try.func43, Try.ntmps43
        go_wp2_with fail
        go_ret
        exact ⟨⟨true, rfl, ⟨fun _ => HNO.out, fun _ => rfl⟩⟩, HB1.out⟩

set_option maxRecDepth 100000 in
set_option maxHeartbeats 4000000 in
theorem ContainsW_is {S : Nat → Prop} {w : World} (x : List Wrd) {va : Value} (hx : Wrds S w va x) (hn : x.length ≤ 1048576000) (fx : ∀ p ∈ x, bytesW p ∧ p.parts.length ≤ 1048576000 ∧ ∀ z ∈ p.parts, z.s.length ≤ 1048576000) :
    Calls Try.prog 42 #[va, .func (.func 43) #[] #[]] w (Asks w (∃ p ∈ x, ¬ wordOk p)) := by
  obtain ⟨A, ca, rfl, hca⟩ := hx.form
  have HX := Lib.hid hx
  have HFX := Lib.hid fx
  clear hx fx
  have HIX : Hid (Calls Try.prog 55 #[.slice A x.length ca, .func (.func 43) #[] #[]] w (AsksI w (∃ p ∈ x, ¬ wordOk p))) := Lib.hid (by
    go_enter Try.func55, Try.ntmps55
    go_wp2_with fail
    go_loopw [8] (fun iv wr => ∃ i : Nat, i ≤ x.length ∧ iv = .int .i64 (i : Nat) ∧ Hid (Below w.heap.size w wr) ∧ Hid (∀ j p, j < i → x[j]? = some p → ¬ ¬ wordOk p)) (fun iv _ => x.length - (intOf iv).toNat)
    case atStart => exact ⟨0, by omega, rfl, Lib.hid (Below.refl _ w), Lib.hid fun j p h => by omega⟩
    case round =>
      obtain ⟨i, hi, rfl, HW, HE⟩ := hrel
      by_cases hlt : i < x.length
      · have r1 : decide ((i : Int) < (x.length : Int)) = true := decide_eq_true (by omega)
        have HXI := Lib.hid (List.getElem?_eq_getElem hlt)
        have hfp := HFX.out _ (List.getElem_mem hlt)
        obtain ⟨b1, o1, v1, rfl, p0, p1, p2, X1⟩ := words_at (SlI.below wrd_ok HX.out HW.out) hlt
        obtain ⟨A1, k1, rfl, _⟩ := X1.form
        have i1 : (i : Int) < (x.length : Int) := by omega
        generalize x[i] = p at *
        have HS := Lib.hid (wrongWord_is p X1 hfp.1 hfp.2.1 hfp.2.2)
        clear X1 hfp
        go_wp2_with fail
        refine HS.out.mono ?_
        rintro e w5 ⟨⟨rb, rfl, hrb⟩, hb5⟩
        have HRB := Lib.hid hrb
        have HW5 := Lib.hid (HW.out.trans (hb5.mono HW.out.size))
        clear hrb hb5 HS
        cases rb with
        | true =>
          have HY : Hid (∃ p ∈ x, ¬ wordOk p) := Lib.hid ⟨p, List.mem_of_getElem? HXI.out, HRB.out.1 rfl⟩
          go_wp2_with fail
          go_ret
          exact ⟨⟨(i : Int), rfl, ⟨fun _ => HY.out, fun _ => by omega⟩⟩, HW5.out⟩
        | false =>
          go_wp2_with fail
          go_roundw
          case rel =>
            refine ⟨i + 1, by omega, by go_num, HW5, Lib.hid fun j p' hj hp => ?_⟩
            rcases Nat.lt_or_ge j i with h | h
            · exact HE.out j p' h hp
            · have e : j = i := by omega
              subst e
              rw [HXI.out] at hp; cases hp
              intro hbad
              have := HRB.out.2 hbad
              cases this
          case measure => simp [intOf]; omega
      · have r1 : decide ((i : Int) < (x.length : Int)) = false := decide_eq_false (by omega)
        have r1n : decide (i < x.length) = false := decide_eq_false hlt
        have HNO : Hid (¬ ∃ p ∈ x, ¬ wordOk p) := Lib.hid (by
          rintro ⟨p, hp, hbad⟩
          obtain ⟨j, hj⟩ := List.getElem?_of_mem hp
          exact HE.out j p (by have := (List.getElem?_eq_some_iff.1 hj).1; omega) hj hbad)
        clear hlt
        go_wp2_with fail
        go_ret
        exact ⟨⟨-1, rfl, ⟨fun h => absurd h (by omega), fun h => absurd h HNO.out⟩⟩, HW.out⟩)
  clear HX HFX
  go_enter Try.func42, Try.ntmps42
  go_wp2_with fail
  refine HIX.out.mono ?_
  rintro e w2 ⟨⟨z, rfl, hz⟩, hb2⟩
  have HZ := Lib.hid hz
  have HB2 := Lib.hid hb2
  clear hz hb2
  go_wp2_with fail
  go_ret
  exact ⟨⟨decide (0 ≤ z), rfl, by rw [decide_eq_true_eq]; exact HZ.out⟩, HB2.out⟩

set_option maxRecDepth 100000 in
set_option maxHeartbeats 4000000 in
theorem wrongCommand_is {S : Nat → Prop} {w : World} (x : Cmd) {v : Value} (hx : Wrds S w v x.words) (hn : x.words.length ≤ 1048576000) (fx : ∀ p ∈ x.words, bytesW p ∧ p.parts.length ≤ 1048576000 ∧ ∀ z ∈ p.parts, z.s.length ≤ 1048576000) :
    Calls Try.prog 28 #[.agg #[.int .i64 x.at_, v]] w (Asks w (¬ cmdOk x)) := by
  obtain ⟨A, ca, rfl, hca⟩ := hx.form
  have hb1 : Below w.heap.size w (w.alloc (.cells #[.int .i64 x.at_, .slice A x.words.length ca] 39)) := (Below.refl _ w).alloc (Nat.le_refl _) _
  have HP := Lib.hid (ContainsW_is x.words (SlI.below wrd_ok hx hb1) hn fx)
  have HB1 := Lib.hid hb1
  clear hb1 hx fx
  by_cases hp : x.words.length = 0
  · have q1 : ((x.words.length : Int) == 0) = true := beq_iff_eq.2 (by omega)
    have q1n : (x.words.length = 0) = True := eq_true hp
    have HE := Lib.hid (List.length_eq_zero_iff.1 hp)
    clear hp
    go_enter Try.func28, Try.ntmps28
    go_wp2_with fail
    go_ret
    exact ⟨⟨true, rfl, ⟨fun _ h => h.1 HE.out, fun _ => rfl⟩⟩, HB1.out⟩
  · have q1 : ((x.words.length : Int) == 0) = false := beq_eq_false_iff_ne.2 (by omega)
    have q1n : (x.words.length = 0) = False := eq_false hp
    have HE := Lib.hid (fun h : x.words = [] => hp (by rw [h]; rfl))
    clear hp
    go_enter Try.func28, Try.ntmps28
    go_wp2_with fail
    refine HP.out.mono ?_
    rintro e w2 ⟨⟨r, rfl, hr⟩, hb2⟩
    have HR := Lib.hid hr
    have HB2 := Lib.hid (HB1.out.trans (hb2.mono HB1.out.size))
    clear hr hb2
    go_wp2_with fail
    go_ret
    exact ⟨⟨r, rfl, HR.out.trans ⟨fun ⟨p, h1, h2⟩ h => h2 (h.2 p h1), fun h => by
      refine Classical.byContradiction fun hno => h ⟨HE.out, fun p hp => Classical.byContradiction fun hb => hno ⟨p, hp, hb⟩⟩⟩⟩, HB2.out⟩

set_option maxRecDepth 100000 in
set_option maxHeartbeats 4000000 in
theorem ContainsC_is {S : Nat → Prop} {w : World} (x : List Cmd) {va : Value} (hx : Cmds S w va x) (hn : x.length ≤ 1048576000) (fx : ∀ p ∈ x, p.words.length ≤ 1048576000 ∧ ∀ q ∈ p.words, bytesW q ∧ q.parts.length ≤ 1048576000 ∧ ∀ z ∈ q.parts, z.s.length ≤ 1048576000) :
    Calls Try.prog 27 #[va, .func (.func 28) #[] #[]] w (Asks w (∃ p ∈ x, ¬ cmdOk p)) := by
  obtain ⟨A, ca, rfl, hca⟩ := hx.form
  have HX := Lib.hid hx
  have HFX := Lib.hid fx
  clear hx fx
  have HIX : Hid (Calls Try.prog 41 #[.slice A x.length ca, .func (.func 28) #[] #[]] w (AsksI w (∃ p ∈ x, ¬ cmdOk p))) := Lib.hid (by
    go_enter Try.func41, Try.ntmps41
    go_wp2_with fail
    go_loopw [8] (fun iv wr => ∃ i : Nat, i ≤ x.length ∧ iv = .int .i64 (i : Nat) ∧ Hid (Below w.heap.size w wr) ∧ Hid (∀ j p, j < i → x[j]? = some p → ¬ ¬ cmdOk p)) (fun iv _ => x.length - (intOf iv).toNat)
    case atStart => exact ⟨0, by omega, rfl, Lib.hid (Below.refl _ w), Lib.hid fun j p h => by omega⟩
    case round =>
      obtain ⟨i, hi, rfl, HW, HE⟩ := hrel
      by_cases hlt : i < x.length
      · have r1 : decide ((i : Int) < (x.length : Int)) = true := decide_eq_true (by omega)
        have HXI := Lib.hid (List.getElem?_eq_getElem hlt)
        have hfp := HFX.out _ (List.getElem_mem hlt)
        obtain ⟨b1, o1, v1, rfl, p0, p1, X1⟩ := cmds_at (SlI.below cmd_ok HX.out HW.out) hlt
        obtain ⟨A1, k1, rfl, _⟩ := X1.form
        have i1 : (i : Int) < (x.length : Int) := by omega
        generalize x[i] = p at *
        have HS := Lib.hid (wrongCommand_is p X1 hfp.1 hfp.2)
        clear X1 hfp
        go_wp2_with fail
        refine HS.out.mono ?_
        rintro e w5 ⟨⟨rb, rfl, hrb⟩, hb5⟩
        have HRB := Lib.hid hrb
        have HW5 := Lib.hid (HW.out.trans (hb5.mono HW.out.size))
        clear hrb hb5 HS
        cases rb with
        | true =>
          have HY : Hid (∃ p ∈ x, ¬ cmdOk p) := Lib.hid ⟨p, List.mem_of_getElem? HXI.out, HRB.out.1 rfl⟩
          go_wp2_with fail
          go_ret
          exact ⟨⟨(i : Int), rfl, ⟨fun _ => HY.out, fun _ => by omega⟩⟩, HW5.out⟩
        | false =>
          go_wp2_with fail
          go_roundw
          case rel =>
            refine ⟨i + 1, by omega, by go_num, HW5, Lib.hid fun j p' hj hp => ?_⟩
            rcases Nat.lt_or_ge j i with h | h
            · exact HE.out j p' h hp
            · have e : j = i := by omega
              subst e
              rw [HXI.out] at hp; cases hp
              intro hbad
              have := HRB.out.2 hbad
              cases this
          case measure => simp [intOf]; omega
      · have r1 : decide ((i : Int) < (x.length : Int)) = false := decide_eq_false (by omega)
        have r1n : decide (i < x.length) = false := decide_eq_false hlt
        have HNO : Hid (¬ ∃ p ∈ x, ¬ cmdOk p) := Lib.hid (by
          rintro ⟨p, hp, hbad⟩
          obtain ⟨j, hj⟩ := List.getElem?_of_mem hp
          exact HE.out j p (by have := (List.getElem?_eq_some_iff.1 hj).1; omega) hj hbad)
        clear hlt
        go_wp2_with fail
        go_ret
        exact ⟨⟨-1, rfl, ⟨fun h => absurd h (by omega), fun h => absurd h HNO.out⟩⟩, HW.out⟩)
  clear HX HFX
  go_enter Try.func27, Try.ntmps27
  go_wp2_with fail
  refine HIX.out.mono ?_
  rintro e w2 ⟨⟨z, rfl, hz⟩, hb2⟩
  have HZ := Lib.hid hz
  have HB2 := Lib.hid hb2
  clear hz hb2
  go_wp2_with fail
  go_ret
  exact ⟨⟨decide (0 ≤ z), rfl, by rw [decide_eq_true_eq]; exact HZ.out⟩, HB2.out⟩
end Go.Proofs.Ytphmhglebeapaaa
