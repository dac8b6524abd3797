/-
  The law TclJoins.
  Conditions: two texts of at most 4611686018427387904 bytes.
-/
import Derived.Test.YtphmhglebeapaaaTclLaw
import Derived.Test.YtphmhglebeapaaaUptoAll
namespace Go.Proofs.Ytphmhglebeapaaa
open Go.RowKit

/-- Where a text's commands begin. -/
theorem parse_ats : ∀ (n : Nat) (l : List Nat), l.length ≤ n → ∀ (i : Nat) (cs cs' : List Cmd), parseL l i cs = .ok cs' → (∀ c ∈ cs, 0 ≤ c.at_ ∧ c.at_ ≤ (i : Int)) → ∀ c ∈ cs', 0 ≤ c.at_ ∧ c.at_ ≤ ((i + l.length : Nat) : Int) := by
  intro n
  induction n with
  | zero =>
    intro l hl i cs cs' h hc
    obtain rfl : l = [] := List.length_eq_zero_iff.1 (by omega)
    rw [parseL_nil] at h; injection h with h; rw [← h]; simpa using hc
  | succ n ih =>
    intro l hl i cs cs' h hc
    cases l with
    | nil => rw [parseL_nil] at h; injection h with h; rw [← h]; simpa using hc
    | cons c r =>
      simp only [List.length_cons] at hl ⊢
      have up : ∀ j : Nat, i ≤ j → ∀ c ∈ cs, 0 ≤ c.at_ ∧ c.at_ ≤ (j : Int) := fun j hj c hc' => by have := hc c hc'; omega
      by_cases hs : (blankB c || endB c) = true
      · rw [parseL_stop hs] at h
        intro x hx
        have := ih r (by omega) _ _ _ h (up _ (by omega)) x hx
        omega
      · by_cases h35 : c = 35
        · subst h35
          rw [parseL_hash] at h
          intro x hx
          have hl2 := run_hash r
          have hl3 : ((35 :: r).takeWhile (· != 10)).length + ((35 :: r).dropWhile (· != 10)).length = r.length + 1 := by
            rw [← List.length_append, List.takeWhile_append_dropWhile, List.length_cons]
          have := ih _ (by omega) _ _ _ h (up _ (by omega)) x hx
          omega
        · have hs' : stops (c :: r) = false := by simpa [stops] using hs
          cases hw : wordsL (c :: r) i [] with
          | error e => rw [parseL_bad hs' h35 hw] at h; cases h
          | ok q =>
            obtain ⟨ws, j⟩ := q
            rw [parseL_cmd hs' h35 hw] at h
            have h1 := wordsL_le _ _ (Nat.le_refl _) _ _ _ _ hw
            have h1' := h1.2.2 hs'
            simp only [List.length_cons] at h1
            intro x hx
            have := ih ((c :: r).drop (j - i)) (by rw [List.length_drop, List.length_cons]; omega) _ _ _ h (fun y hy => by
              rcases List.mem_append.1 hy with hy | hy
              · exact up _ (by omega) y hy
              · rw [List.mem_singleton.1 hy]; dsimp only; omega) x hx
            rw [List.length_drop, List.length_cons] at this
            omega
theorem parse_known {m : List Nat} (hm : ∀ c ∈ m, c < 256) (hn : m.length ≤ 1048576) {cs : List Cmd} {p e : Nat} (h : parseR m = (cs, p, e)) (W : World) : Calls Try.prog 11 #[.string (str m)] W fun r w' => ∃ v, r = .returned (.tuple #[v, .int .i64 (p : Nat), .int .i64 (e : Nat)]) ∧ Cmds all w' v cs ∧ Below W.heap.size W w' := by
  refine (Parse_is (w := W) m hm hn).mono ?_
  rintro r w' ⟨v, hr, hc, hb⟩
  rw [h] at hr hc
  exact ⟨v, hr, hc, hb⟩
/-- l[:k], l[k:] of commands. -/
theorem run_upto_C {S : Nat → Prop} {w : World} {A : Option Addr} {n c k : Nat} {l : List Cmd} (h : Cmds S w (.slice A n c) l) (hk : k ≤ l.length) :
    ∃ A', (∀ W, (Instr.slice 22 (.slice A n c) none (some (.int .i64 (k : Int))) none).run Try.prog W = .ok (.slice A' k c) W) ∧ Cmds S w (.slice A' k c) (l.take k) := by
  have hn := h.n
  obtain ⟨A', c', e, hle, hr⟩ := h
  injection e with e1 e2 e3
  subst e1 e3
  have hl : (l.take k).length = k := by rw [List.length_take]; omega
  refine ⟨if c = 0 then A else A.map (·.add 0), fun W => ?_, ?_⟩
  · obtain ⟨i0, hi0, hz0, hz1, hz2⟩ := info_parts cmd_info
    have hs : (sizeOf (Try.prog.elem 22)).run Try.prog W = .ok 2 W := by
      rw [show Try.prog.elem 22 = 39 by kernel_rfl]
      simp [sizeOf, typeInfo, hi0, hz1]
    rw [run_slice_h W 22 A n c (by kernel_rfl) .i64 (k : Int) (by omega) (by omega), hs]
    simp only [Result.andThen, Int.toNat_natCast, sliced, Nat.zero_mul, Nat.sub_zero]
  · refine ⟨_, c, by rw [hl], by omega, fun hp => ?_⟩
    obtain ⟨b, o, rfl, hb, hx⟩ := hr (by omega)
    refine ⟨b, o, ?_, hb, fun j x hj => ?_⟩
    · split
      · rfl
      · simp [add_eq]
    · rw [List.getElem?_take] at hj
      split at hj
      · exact hx j x hj
      · cases hj
theorem run_from_C {S : Nat → Prop} {w : World} {A : Option Addr} {n c k : Nat} {l : List Cmd} (h : Cmds S w (.slice A n c) l) (hk : k ≤ l.length) :
    ∃ A' c', (∀ W, (Instr.slice 22 (.slice A n c) (some (.int .i64 (k : Int))) none none).run Try.prog W = .ok (.slice A' (n - k) c') W) ∧ Cmds S w (.slice A' (n - k) c') (l.drop k) := by
  have hn := h.n
  obtain ⟨A', c', e, hle, hr⟩ := h
  injection e with e1 e2 e3
  subst e1 e3
  have hl : (l.drop k).length = n - k := by rw [List.length_drop]; omega
  refine ⟨if c = k then A else A.map (·.add (k * 2)), c - k, fun W => ?_, ?_⟩
  · obtain ⟨i0, hi0, hz0, hz1, hz2⟩ := info_parts cmd_info
    have hs : (sizeOf (Try.prog.elem 22)).run Try.prog W = .ok 2 W := by
      rw [show Try.prog.elem 22 = 39 by kernel_rfl]
      simp [sizeOf, typeInfo, hi0, hz1]
    rw [run_slice_l W 22 A n c (by kernel_rfl) .i64 (k : Int) (by omega) (by omega), hs]
    simp only [Result.andThen, Int.toNat_natCast, sliced]
  · refine ⟨_, _, by rw [hl], by omega, fun hp => ?_⟩
    obtain ⟨b, o, rfl, hb, hx⟩ := hr (by omega)
    refine ⟨b, o + k * 2, ?_, hb, fun j x hj => ?_⟩
    · rw [if_neg (by omega)]
      simp [add_eq]
    · rw [List.getElem?_drop] at hj
      have := hx (k + j) x hj
      rwa [Nat.add_mul, ← Nat.add_assoc] at this
theorem samesC_map (d : Nat) (b : List Cmd) : samesC (b.map (shC d)) b := by
  rw [samesC_iff]
  refine ⟨by simp, fun j x y hx hy => ?_⟩
  rw [List.getElem?_map, hy] at hx
  simp at hx; subst hx
  show samesW _ _
  rw [samesW_iff]
  refine ⟨by simp [shC], fun k p q hp hq => ?_⟩
  simp only [shC, List.getElem?_map, hq] at hp
  simp at hp; subst hp
  exact ⟨rfl, rfl⟩
theorem fitC_map {d : Nat} {b : List Cmd} (h : fitC b) : fitC (b.map (shC d)) := by
  refine ⟨by simpa using h.1, fun c hc => ?_⟩
  obtain ⟨x, hx, rfl⟩ := List.mem_map.1 hc
  have h1 := h.2 x hx
  refine ⟨by simpa [shC] using h1.1, fun y hy => ?_⟩
  simp only [shC] at hy
  obtain ⟨z, hz, rfl⟩ := List.mem_map.1 hy
  exact h1.2 z hz
theorem fitC_app {a b : List Cmd} (h : fitC a) (k : fitC b) (hn : a.length + b.length ≤ 1048576000) : fitC (a ++ b) := by
  refine ⟨by rw [List.length_append]; exact hn, fun c hc => ?_⟩
  rcases List.mem_append.1 hc with hc | hc
  · exact h.2 c hc
  · exact k.2 c hc

set_option maxRecDepth 100000 in
set_option maxHeartbeats 4000000 in
theorem joins_true (l t : List Nat) (w : World) (hl : ∀ d ∈ l, d < 256) (ht : ∀ d ∈ t, d < 256) (hn : l.length ≤ 4611686018427387904) (hm : t.length ≤ 4611686018427387904) :
    Calls Try.prog 6 #[.string (str l), .string (str t)] w fun e w' => e = .returned (.bool true) ∧ Below w.heap.size w w' := by
  obtain ⟨k, hk1, hk2, hk3⟩ : ∃ k : Nat, k ≤ l.length ∧ k ≤ 2000 ∧ min (l.length : Int) 2000 = (k : Int) := ⟨min l.length 2000, Nat.min_le_left _ _, Nat.min_le_right _ _, by omega⟩
  obtain ⟨k', hk4, hk5, hk6⟩ : ∃ k : Nat, k ≤ t.length ∧ k ≤ 2000 ∧ min (t.length : Int) 2000 = (k : Int) := ⟨min t.length 2000, Nat.min_le_left _ _, Nat.min_le_right _ _, by omega⟩
  have hrun := run_upto_str l k hk1
  have hrun2 := run_upto_str t k' hk4
  have hsz := str_len l
  have hsz2 := str_len t
  have hb1 : ∀ d ∈ l.take k, d < 256 := fun d hd => hl d (List.mem_of_mem_take hd)
  have hb2 : ∀ d ∈ t.take k', d < 256 := fun d hd => ht d (List.mem_of_mem_take hd)
  have hl1 : (l.take k).length ≤ 2000 := by rw [List.length_take]; omega
  have hl2 : (t.take k').length ≤ 2000 := by rw [List.length_take]; omega
  generalize l.take k = m at *
  generalize t.take k' = m' at *
  have HM := Lib.hid hb1
  have HM2 := Lib.hid hb2
  have HL1 := Lib.hid hl1
  have HL2 := Lib.hid hl2
  clear hl ht hb1 hb2
  rcases parseR_cases m with ⟨a, hpa, hla⟩ | ⟨p1, e1, hpa, _, he4, he7⟩
  · have HP1 := Lib.hid (fun W => parse_known HM.out (by omega) hpa W)
    rcases parseR_cases m' with ⟨b, hpb, hlb⟩ | ⟨p2, e2, hpb, _, he4, he7⟩
    · have HP2 := Lib.hid (fun W => parse_known HM2.out (by omega) hpb W)
      have hj := parse_join hla hlb
      have hjl : (m ++ 10 :: m').length ≤ 4001 := by rw [List.length_append, List.length_cons]; omega
      have hjb : ∀ d ∈ m ++ 10 :: m', d < 256 := by
        intro d hd
        rcases List.mem_append.1 hd with hd | hd
        · exact HM.out d hd
        · rcases List.mem_cons.1 hd with hd | hd
          · omega
          · exact HM2.out d hd
      have HP3 := Lib.hid (fun W => parse_known hjb (by omega) (parseR_ok (by omega) hj) W)
      have hsa := parseR_small m HM.out (by omega)
      have hsb := parseR_small m' HM2.out (by omega)
      rw [hpa] at hsa
      rw [hpb] at hsb
      have hfa := fit_of (l := a) (by have := hsa.1; dsimp only at this; omega) hsa.2.1
      have hfb := fit_of (l := b) (by have := hsb.1; dsimp only at this; omega) hsb.2.1
      have hna : a.length ≤ 12000 := by have := (weightC_has a).1; have := hsa.1; dsimp only at this; omega
      have hnb : b.length ≤ 12000 := by have := (weightC_has b).1; have := hsb.1; dsimp only at this; omega
      have HAT := Lib.hid (parse_ats _ m' (Nat.le_refl _) 0 [] b hlb (fun c hc => by cases hc))
      have hcat1 : str m ++ (⟨#[10]⟩ : ByteArray) = str (m ++ [10]) := str_app m [10]
      have hcat2 : str (m ++ [10]) ++ str m' = str (m ++ 10 :: m') := by rw [str_app, List.append_assoc]; rfl
      have hz1 : (str m).size + (⟨#[10]⟩ : ByteArray).size ≤ 9223372036854775807 := by rw [str_len]; show m.length + 1 ≤ _; omega
      have hz2 : (str (m ++ [10])).size + (str m').size ≤ 9223372036854775807 := by rw [str_len, str_len]; simp; omega
      have hsm := str_len m
      obtain ⟨d, hd⟩ : ∃ d, d = m.length + 1 := ⟨_, rfl⟩
      rw [← hd] at HP3
      have HD := Lib.hid hd
      have hml : m.length ≤ 2000 := hl1
      have HFA := Lib.hid hfa
      have HFB := Lib.hid hfb
      have hmb : (b.map (shC d)).length = b.length := List.length_map _
      have HMB := Lib.hid hmb
      generalize str (m ++ 10 :: m') = sj at *
      generalize str (m ++ [10]) = s1 at *
      generalize str m = sm at *
      generalize str m' = sm' at *
      generalize str l = s at *
      generalize str t = s' at *
      generalize m.length = L at *
      clear hpa hpb hla hlb hj hjl hjb hsa hsb hfa hfb hd hmb
      go_enter Try.func6, Try.ntmps6
      go_wp2_with fail
      refine wp_region_noPanic ?_
      refine wp_region_upto (fun _ => True) 12 (by kernel_rfl) ?_ (fun hHeld => ?_)
      · trivial
      refine wpUpto.takeAll 0 (by kernel_rfl) (by kernel_rfl) (by kernel_rfl) (by kernel_rfl) (by assumption) ?_
      intro o ho
      simp only [List.getElem?_toArray, List.getElem?_cons_zero, Option.some.injEq] at ho
      subst ho
      refine ⟨?_, fun _ _ _ h => h, Or.inl ⟨by rfl, ?_⟩, ?_⟩
      rotate_left
      · intro w hSw
        go_simp
        try with_reducible rfl
      simp only [Act.put, List.setIfInBounds_toArray, List.set_cons_zero, List.set_cons_succ]
      refine wpUpto.takeAll 1 (by kernel_rfl) (by kernel_rfl) (by kernel_rfl) (by kernel_rfl) (by assumption) ?_
      intro o ho
      simp only [List.getElem?_toArray, List.getElem?_cons_succ, List.getElem?_cons_zero, Option.some.injEq] at ho
      subst ho
      refine ⟨?_, fun _ _ _ h => h, Or.inl ⟨by rfl, ?_⟩, ?_⟩
      rotate_left
      · intro w hSw
        go_simp
        try with_reducible rfl
      simp only [Act.put, List.setIfInBounds_toArray, List.set_cons_zero, List.set_cons_succ]
      refine wpUpto.takeAll 2 (by kernel_rfl) (by kernel_rfl) (by kernel_rfl) (by kernel_rfl) (by assumption) ?_
      intro o ho
      simp only [List.getElem?_toArray, List.getElem?_cons_succ, List.getElem?_cons_zero, Option.some.injEq] at ho
      subst ho
      refine ⟨?_, fun _ _ _ h => h, Or.inl ⟨by rfl, ?_⟩, ?_⟩
      rotate_left
      · intro w hSw
        go_simp
        try with_reducible rfl
      simp only [Act.put, List.setIfInBounds_toArray, List.set_cons_zero, List.set_cons_succ]
      refine wpUpto.takeAll 3 (by kernel_rfl) (by kernel_rfl) (by kernel_rfl) (by kernel_rfl) (by assumption) ?_
      intro o ho
      simp only [List.getElem?_toArray, List.getElem?_cons_succ, List.getElem?_cons_zero, Option.some.injEq] at ho
      subst ho
      refine ⟨?_, fun _ _ _ h => h, Or.inl ⟨by rfl, ?_⟩, ?_⟩
      rotate_left
      · intro w hSw
        go_simp
        try with_reducible rfl
      simp only [Act.put, List.setIfInBounds_toArray, List.set_cons_zero, List.set_cons_succ]
      refine wpUpto.takeAll 4 (by kernel_rfl) (by kernel_rfl) (by kernel_rfl) (by kernel_rfl) (by assumption) ?_
      intro o ho
      simp only [List.getElem?_toArray, List.getElem?_cons_succ, List.getElem?_cons_zero, Option.some.injEq] at ho
      subst ho
      refine ⟨?_, fun _ _ _ h => h, Or.inl ⟨by rfl, ?_⟩, ?_⟩
      rotate_left
      · intro w hSw
        go_simp
        try with_reducible rfl
      simp only [Act.put, List.setIfInBounds_toArray, List.set_cons_zero, List.set_cons_succ]
      refine wpUpto.takeAll 5 (by kernel_rfl) (by kernel_rfl) (by kernel_rfl) (by kernel_rfl) (by assumption) ?_
      intro o ho
      simp only [List.getElem?_toArray, List.getElem?_cons_succ, List.getElem?_cons_zero, Option.some.injEq] at ho
      subst ho
      refine ⟨?_, fun _ _ _ h => h, Or.inl ⟨by rfl, ?_⟩, ?_⟩
      rotate_left
      · intro w hSw
        go_simp
        try with_reducible rfl
      simp only [Act.put, List.setIfInBounds_toArray, List.set_cons_zero, List.set_cons_succ]
      refine wpUpto.takeAll 6 (by kernel_rfl) (by kernel_rfl) (by kernel_rfl) (by kernel_rfl) (by assumption) ?_
      intro o ho
      simp only [List.getElem?_toArray, List.getElem?_cons_succ, List.getElem?_cons_zero, Option.some.injEq] at ho
      subst ho
      refine ⟨?_, fun _ _ _ h => h, Or.inl ⟨by rfl, ?_⟩, ?_⟩
      rotate_left
      · intro w hSw
        go_simp
        try with_reducible rfl
      simp only [Act.put, List.setIfInBounds_toArray, List.set_cons_zero, List.set_cons_succ]
      refine wpUpto.takeAll 7 (by kernel_rfl) (by kernel_rfl) (by kernel_rfl) (by kernel_rfl) (by assumption) ?_
      intro o ho
      simp only [List.getElem?_toArray, List.getElem?_cons_succ, List.getElem?_cons_zero, Option.some.injEq] at ho
      subst ho
      refine ⟨?_, fun _ _ _ h => h, Or.inl ⟨by rfl, ?_⟩, ?_⟩
      rotate_left
      · intro w hSw
        go_simp
        try with_reducible rfl
      simp only [Act.put, List.setIfInBounds_toArray, List.set_cons_zero, List.set_cons_succ]
      refine wpUpto.takeAll 8 (by kernel_rfl) (by kernel_rfl) (by kernel_rfl) (by kernel_rfl) (by assumption) ?_
      intro o ho
      simp only [List.getElem?_toArray, List.getElem?_cons_succ, List.getElem?_cons_zero, Option.some.injEq] at ho
      subst ho
      refine ⟨?_, fun _ _ _ h => h, Or.inl ⟨by rfl, ?_⟩, ?_⟩
      rotate_left
      · intro w hSw
        go_simp
        try with_reducible rfl
      simp only [Act.put, List.setIfInBounds_toArray, List.set_cons_zero, List.set_cons_succ]
      refine wpUpto.takeAll 9 (by kernel_rfl) (by kernel_rfl) (by kernel_rfl) (by kernel_rfl) (by assumption) ?_
      intro o ho
      simp only [List.getElem?_toArray, List.getElem?_cons_succ, List.getElem?_cons_zero, Option.some.injEq] at ho
      subst ho
      refine ⟨?_, fun _ _ _ h => h, Or.inl ⟨by rfl, ?_⟩, ?_⟩
      rotate_left
      · intro w hSw
        go_simp
        try with_reducible rfl
      simp only [Act.put, List.setIfInBounds_toArray, List.set_cons_zero, List.set_cons_succ]
      refine wpUpto.takeAll 10 (by kernel_rfl) (by kernel_rfl) (by kernel_rfl) (by kernel_rfl) (by assumption) ?_
      intro o ho
      simp only [List.getElem?_toArray, List.getElem?_cons_succ, List.getElem?_cons_zero, Option.some.injEq] at ho
      subst ho
      refine ⟨?_, fun _ _ _ h => h, Or.inl ⟨by rfl, ?_⟩, ?_⟩
      rotate_left
      · intro w hSw
        go_simp
        try with_reducible rfl
      simp only [Act.put, List.setIfInBounds_toArray, List.set_cons_zero]
      refine wpUpto.takeAll 11 (by kernel_rfl) (by kernel_rfl) (by kernel_rfl) (by kernel_rfl) (by assumption) ?_
      intro o ho
      simp only [List.getElem?_toArray, List.getElem?_cons_succ, List.getElem?_cons_zero, Option.some.injEq] at ho
      subst ho
      refine ⟨?_, fun _ _ _ h => h, Or.inl ⟨by rfl, ?_⟩, ?_⟩
      rotate_left
      · intro w hSw
        go_simp
        try with_reducible rfl
      simp only [Act.put, List.setIfInBounds_toArray, List.set_cons_zero, List.set_cons_succ]
      refine wpUpto.done (by kernel_rfl) ?_ _
      refine NoPanic.normal ?_
      try simp only [Act.put, List.setIfInBounds_toArray, List.set_cons_zero, List.set_cons_succ]
      have XD := Lib.hid (show Below w.heap.size w w.drew from (Below.refl _ w).drew)
      generalize w.drew = w0 at *
      go_wp2_with fail
      refine (HP1.out w0).mono ?_
      rintro e w1 ⟨v1, rfl, hc1, hb1⟩
      have X1 := Lib.hid (And.intro hc1 (XD.out.trans (hb1.mono XD.out.size)))
      clear hc1 hb1
      go_wp2_with fail
      refine (HP2.out w1).mono ?_
      rintro e w2 ⟨v2, rfl, hc2, hb2⟩
      have X2 := Lib.hid (And.intro (SlI.below cmd_ok X1.out.1 hb2) (And.intro hc2 (X1.out.2.trans (hb2.mono X1.out.2.size))))
      clear hc2 hb2
      obtain ⟨A1, c1, hv1, _⟩ := X2.out.1.form
      obtain ⟨A2, c2, hv2, _⟩ := X2.out.2.1.form
      subst hv1 hv2
      go_wp2_with fail
      refine (HP3.out w2).mono ?_
      rintro e w3 ⟨v3, rfl, hc3, hb3⟩
      obtain ⟨A3, c3, hv3, _⟩ := hc3.form
      have hn3 : (a ++ b.map (shC d)).length = a.length + b.length := by rw [List.length_append, HMB.out]
      rw [hn3] at hv3
      subst hv3
      obtain ⟨A4, hr4, hc4⟩ := run_upto_C hc3 (k := a.length) (by omega)
      obtain ⟨A5, c5, hr5, hc5⟩ := run_from_C hc3 (k := a.length) (by omega)
      rw [List.take_left] at hc4
      rw [List.drop_left] at hc5
      rw [Nat.add_sub_cancel_left] at hr5 hc5
      have X3 := Lib.hid (And.intro (SlI.below cmd_ok X2.out.1 hb3) (And.intro (SlI.below cmd_ok X2.out.2.1 hb3) (And.intro hc4 (And.intro hc5 (X2.out.2.2.trans (hb3.mono X2.out.2.2.size))))))
      have qn : ((a.length : Int) + (b.length : Int) != (a.length : Int) + (b.length : Int)) = false := by simp
      clear hc3 hb3 hc4 hc5 hn3 X1 X2 XD
      go_wp2_with fail
      refine (RSame_is a a X3.out.2.2.1 X3.out.1 HFA.out HFA.out).mono ?_
      intro e w4 h4
      obtain ⟨rfl, hb4⟩ := h4.yes (samesC_refl a)
      have X4 := Lib.hid (And.intro (SlI.below cmd_ok X3.out.1 hb4) (And.intro (SlI.below cmd_ok X3.out.2.1 hb4) (And.intro (SlI.below cmd_ok X3.out.2.2.1 hb4) (And.intro (SlI.below cmd_ok X3.out.2.2.2.1 hb4) (X3.out.2.2.2.2.trans (hb4.mono X3.out.2.2.2.2.size))))))
      clear h4 hb4 X3
      go_wp2_with fail
      refine (places_is a a X4.out.2.2.1 X4.out.1 HFA.out HFA.out).mono ?_
      intro e w5 h5
      obtain ⟨rfl, hb5⟩ := h5.yes (placesC_refl a)
      have X5 := Lib.hid (And.intro (SlI.below cmd_ok X4.out.2.1 hb5) (And.intro (SlI.below cmd_ok X4.out.2.2.2.1 hb5) (X4.out.2.2.2.2.trans (hb5.mono X4.out.2.2.2.2.size))))
      clear h5 hb5 X4
      go_wp2_with fail
      refine (RSame_is (b.map (shC d)) b X5.out.2.1 X5.out.1 (fitC_map HFB.out) HFB.out).mono ?_
      intro e w6 h6
      obtain ⟨rfl, hb6⟩ := h6.yes (samesC_map d b)
      have X6 := Lib.hid (And.intro (SlI.below cmd_ok X5.out.1 hb6) (And.intro (SlI.below cmd_ok X5.out.2.1 hb6) (X5.out.2.2.trans (hb6.mono X5.out.2.2.size))))
      clear h6 hb6 X5
      go_wp2_with fail
      go_loopw [98] (fun iv wr => ∃ i : Nat, i ≤ b.length ∧ iv = .int .i64 (i : Nat) ∧ Hid (Below w6.heap.size w6 wr)) (fun iv _ => b.length - (intOf iv).toNat)
      case atStart => exact ⟨0, by omega, rfl, Lib.hid (Below.refl _ w6)⟩
      case round =>
        obtain ⟨i, hi, rfl, HW⟩ := hrel
        by_cases hlt : i < b.length
        · have r1 : decide ((i : Int) < (b.length : Int)) = true := decide_eq_true (by omega)
          have r1n : decide (i < b.length) = true := decide_eq_true hlt
          have i1 : (i : Int) < (b.length : Int) := by omega
          have hlt2 : i < (b.map (shC d)).length := by rw [HMB.out]; exact hlt
          have hat := HAT.out _ (List.getElem_mem hlt)
          obtain ⟨b1, o1, v1, rfl, x0, x1, Y1⟩ := cmds_at (SlI.below cmd_ok X6.out.2.1 HW.out) hlt2
          obtain ⟨b2, o2, v2, rfl, y0, y1, Y2⟩ := cmds_at (SlI.below cmd_ok X6.out.1 HW.out) hlt
          obtain ⟨Ax, kx, rfl, -⟩ := Y1.form
          rw [List.getElem_map] at x0 x1
          generalize b[i] = p at *
          have hsh : (shC d p).at_ = p.at_ + (L : Int) + 1 := by
            show p.at_ + (d : Int) = _
            rw [HD.out]; omega
          rw [hsh] at x0
          obtain ⟨pa, pw⟩ := p
          dsimp only at x0 y0 hat
          have hmlen := HL2.out
          obtain ⟨n1, hn1⟩ : ∃ n, n = (shC d ⟨pa, pw⟩).words.length := ⟨_, rfl⟩
          rw [← hn1] at x1
          have qx : (pa + (L : Int) + 1 != pa + (L : Int) + 1) = false := by simp
          have h1 : 0 ≤ pa := hat.1
          have h2 : pa ≤ 2000 := by omega
          have hb7 : Below wr.heap.size wr (wr.alloc (.cells #[.int .i64 (pa + (L : Int) + 1), .slice Ax n1 kx] 39)) := (Below.refl _ wr).alloc (Nat.le_refl _) _
          have z0 := (hb7.cell (p := ⟨b2, o2 + i * 2, none⟩) (World.block_lt_of_cell? _ _ y0)).trans y0
          have HB7 := Lib.hid (HW.out.trans (hb7.mono HW.out.size))
          clear hat hlt hlt2 Y1 Y2 hsh hn1 hb7 y1
          go_wp2_with fail
          go_quiet (fail)
          have HB8 := Lib.hid (HB7.out.trans ((drewN_b _ nq).mono HB7.out.size))
          generalize World.drewN _ nq = w8 at *
          go_wp2_with fail
          go_roundw
          case rel => exact ⟨i + 1, by omega, by go_num, HB8⟩
          case measure => simp [intOf]; omega
        · have r1 : decide ((i : Int) < (b.length : Int)) = false := decide_eq_false (by omega)
          have r1n : decide (i < b.length) = false := decide_eq_false hlt
          clear hlt
          go_wp2_with fail
          refine (alive_true wr).mono ?_
          rintro e w9 ⟨rfl, hb9⟩
          have X9 := Lib.hid (X6.out.2.2.trans ((HW.out.mono X6.out.2.2.size).trans (hb9.mono (Nat.le_trans X6.out.2.2.size HW.out.size))))
          clear hb9
          go_wp2_with fail
          go_ret
          exact ⟨rfl, X9.out⟩
    · have HP2 := Lib.hid (fun W => parse_known HM2.out (by omega) hpb W)
      have q1 : ((e2 : Int) != 0) = true := by simp; omega
      generalize str m = sm at *
      generalize str m' = sm' at *
      generalize str l = s at *
      generalize str t = s' at *
      clear hpa hpb hla he4 he7
      go_enter Try.func6, Try.ntmps6
      go_wp2_with fail
      refine wp_region_noPanic ?_
      refine wp_region_upto (fun _ => True) 12 (by kernel_rfl) ?_ (fun hHeld => ?_)
      · trivial
      refine wpUpto.takeAll 0 (by kernel_rfl) (by kernel_rfl) (by kernel_rfl) (by kernel_rfl) (by assumption) ?_
      intro o ho
      simp only [List.getElem?_toArray, List.getElem?_cons_zero, Option.some.injEq] at ho
      subst ho
      refine ⟨?_, fun _ _ _ h => h, Or.inl ⟨by rfl, ?_⟩, ?_⟩
      rotate_left
      · intro w hSw
        go_simp
        try with_reducible rfl
      simp only [Act.put, List.setIfInBounds_toArray, List.set_cons_zero, List.set_cons_succ]
      refine wpUpto.takeAll 1 (by kernel_rfl) (by kernel_rfl) (by kernel_rfl) (by kernel_rfl) (by assumption) ?_
      intro o ho
      simp only [List.getElem?_toArray, List.getElem?_cons_succ, List.getElem?_cons_zero, Option.some.injEq] at ho
      subst ho
      refine ⟨?_, fun _ _ _ h => h, Or.inl ⟨by rfl, ?_⟩, ?_⟩
      rotate_left
      · intro w hSw
        go_simp
        try with_reducible rfl
      simp only [Act.put, List.setIfInBounds_toArray, List.set_cons_zero, List.set_cons_succ]
      refine wpUpto.takeAll 2 (by kernel_rfl) (by kernel_rfl) (by kernel_rfl) (by kernel_rfl) (by assumption) ?_
      intro o ho
      simp only [List.getElem?_toArray, List.getElem?_cons_succ, List.getElem?_cons_zero, Option.some.injEq] at ho
      subst ho
      refine ⟨?_, fun _ _ _ h => h, Or.inl ⟨by rfl, ?_⟩, ?_⟩
      rotate_left
      · intro w hSw
        go_simp
        try with_reducible rfl
      simp only [Act.put, List.setIfInBounds_toArray, List.set_cons_zero, List.set_cons_succ]
      refine wpUpto.takeAll 3 (by kernel_rfl) (by kernel_rfl) (by kernel_rfl) (by kernel_rfl) (by assumption) ?_
      intro o ho
      simp only [List.getElem?_toArray, List.getElem?_cons_succ, List.getElem?_cons_zero, Option.some.injEq] at ho
      subst ho
      refine ⟨?_, fun _ _ _ h => h, Or.inl ⟨by rfl, ?_⟩, ?_⟩
      rotate_left
      · intro w hSw
        go_simp
        try with_reducible rfl
      simp only [Act.put, List.setIfInBounds_toArray, List.set_cons_zero, List.set_cons_succ]
      refine wpUpto.takeAll 4 (by kernel_rfl) (by kernel_rfl) (by kernel_rfl) (by kernel_rfl) (by assumption) ?_
      intro o ho
      simp only [List.getElem?_toArray, List.getElem?_cons_succ, List.getElem?_cons_zero, Option.some.injEq] at ho
      subst ho
      refine ⟨?_, fun _ _ _ h => h, Or.inl ⟨by rfl, ?_⟩, ?_⟩
      rotate_left
      · intro w hSw
        go_simp
        try with_reducible rfl
      simp only [Act.put, List.setIfInBounds_toArray, List.set_cons_zero, List.set_cons_succ]
      refine wpUpto.takeAll 5 (by kernel_rfl) (by kernel_rfl) (by kernel_rfl) (by kernel_rfl) (by assumption) ?_
      intro o ho
      simp only [List.getElem?_toArray, List.getElem?_cons_succ, List.getElem?_cons_zero, Option.some.injEq] at ho
      subst ho
      refine ⟨?_, fun _ _ _ h => h, Or.inl ⟨by rfl, ?_⟩, ?_⟩
      rotate_left
      · intro w hSw
        go_simp
        try with_reducible rfl
      simp only [Act.put, List.setIfInBounds_toArray, List.set_cons_zero, List.set_cons_succ]
      refine wpUpto.takeAll 6 (by kernel_rfl) (by kernel_rfl) (by kernel_rfl) (by kernel_rfl) (by assumption) ?_
      intro o ho
      simp only [List.getElem?_toArray, List.getElem?_cons_succ, List.getElem?_cons_zero, Option.some.injEq] at ho
      subst ho
      refine ⟨?_, fun _ _ _ h => h, Or.inl ⟨by rfl, ?_⟩, ?_⟩
      rotate_left
      · intro w hSw
        go_simp
        try with_reducible rfl
      simp only [Act.put, List.setIfInBounds_toArray, List.set_cons_zero, List.set_cons_succ]
      refine wpUpto.takeAll 7 (by kernel_rfl) (by kernel_rfl) (by kernel_rfl) (by kernel_rfl) (by assumption) ?_
      intro o ho
      simp only [List.getElem?_toArray, List.getElem?_cons_succ, List.getElem?_cons_zero, Option.some.injEq] at ho
      subst ho
      refine ⟨?_, fun _ _ _ h => h, Or.inl ⟨by rfl, ?_⟩, ?_⟩
      rotate_left
      · intro w hSw
        go_simp
        try with_reducible rfl
      simp only [Act.put, List.setIfInBounds_toArray, List.set_cons_zero, List.set_cons_succ]
      refine wpUpto.takeAll 8 (by kernel_rfl) (by kernel_rfl) (by kernel_rfl) (by kernel_rfl) (by assumption) ?_
      intro o ho
      simp only [List.getElem?_toArray, List.getElem?_cons_succ, List.getElem?_cons_zero, Option.some.injEq] at ho
      subst ho
      refine ⟨?_, fun _ _ _ h => h, Or.inl ⟨by rfl, ?_⟩, ?_⟩
      rotate_left
      · intro w hSw
        go_simp
        try with_reducible rfl
      simp only [Act.put, List.setIfInBounds_toArray, List.set_cons_zero, List.set_cons_succ]
      refine wpUpto.takeAll 9 (by kernel_rfl) (by kernel_rfl) (by kernel_rfl) (by kernel_rfl) (by assumption) ?_
      intro o ho
      simp only [List.getElem?_toArray, List.getElem?_cons_succ, List.getElem?_cons_zero, Option.some.injEq] at ho
      subst ho
      refine ⟨?_, fun _ _ _ h => h, Or.inl ⟨by rfl, ?_⟩, ?_⟩
      rotate_left
      · intro w hSw
        go_simp
        try with_reducible rfl
      simp only [Act.put, List.setIfInBounds_toArray, List.set_cons_zero, List.set_cons_succ]
      refine wpUpto.takeAll 10 (by kernel_rfl) (by kernel_rfl) (by kernel_rfl) (by kernel_rfl) (by assumption) ?_
      intro o ho
      simp only [List.getElem?_toArray, List.getElem?_cons_succ, List.getElem?_cons_zero, Option.some.injEq] at ho
      subst ho
      refine ⟨?_, fun _ _ _ h => h, Or.inl ⟨by rfl, ?_⟩, ?_⟩
      rotate_left
      · intro w hSw
        go_simp
        try with_reducible rfl
      simp only [Act.put, List.setIfInBounds_toArray, List.set_cons_zero]
      refine wpUpto.takeAll 11 (by kernel_rfl) (by kernel_rfl) (by kernel_rfl) (by kernel_rfl) (by assumption) ?_
      intro o ho
      simp only [List.getElem?_toArray, List.getElem?_cons_succ, List.getElem?_cons_zero, Option.some.injEq] at ho
      subst ho
      refine ⟨?_, fun _ _ _ h => h, Or.inl ⟨by rfl, ?_⟩, ?_⟩
      rotate_left
      · intro w hSw
        go_simp
        try with_reducible rfl
      simp only [Act.put, List.setIfInBounds_toArray, List.set_cons_zero, List.set_cons_succ]
      refine wpUpto.done (by kernel_rfl) ?_ _
      refine NoPanic.normal ?_
      try simp only [Act.put, List.setIfInBounds_toArray, List.set_cons_zero, List.set_cons_succ]
      have XD := Lib.hid (show Below w.heap.size w w.drew from (Below.refl _ w).drew)
      generalize w.drew = w0 at *
      go_wp2_with fail
      refine (HP1.out w0).mono ?_
      rintro e w1 ⟨v1, rfl, hc1, hb1⟩
      have X1 := Lib.hid (And.intro hc1 (XD.out.trans (hb1.mono XD.out.size)))
      clear hc1 hb1
      go_wp2_with fail
      refine (HP2.out w1).mono ?_
      rintro e w2 ⟨v2, rfl, hc2, hb2⟩
      have X2 := Lib.hid (And.intro (SlI.below cmd_ok X1.out.1 hb2) (And.intro hc2 (X1.out.2.trans (hb2.mono X1.out.2.size))))
      clear hc2 hb2
      go_wp2_with fail
      refine (alive_true w2).mono ?_
      rintro e w3 ⟨rfl, hb3⟩
      have X3 := Lib.hid (X2.out.2.2.trans (hb3.mono X2.out.2.2.size))
      clear hb3
      go_wp2_with fail
      go_ret
      exact ⟨rfl, X3.out⟩
  · have HP1 := Lib.hid (fun W => parse_known HM.out (by omega) hpa W)
    have q1 : ((e1 : Int) != 0) = true := by simp; omega
    obtain ⟨cs2, p2, e2, hpb⟩ : ∃ cs p e, parseR m' = (cs, p, e) := ⟨_, _, _, rfl⟩
    have HP2 := Lib.hid (fun W => parse_known HM2.out (by omega) hpb W)
    generalize str m = sm at *
    generalize str m' = sm' at *
    generalize str l = s at *
    generalize str t = s' at *
    clear hpa hpb he4 he7
    go_enter Try.func6, Try.ntmps6
    go_wp2_with fail
    refine wp_region_noPanic ?_
    refine wp_region_upto (fun _ => True) 12 (by kernel_rfl) ?_ (fun hHeld => ?_)
    · trivial
    refine wpUpto.takeAll 0 (by kernel_rfl) (by kernel_rfl) (by kernel_rfl) (by kernel_rfl) (by assumption) ?_
    intro o ho
    simp only [List.getElem?_toArray, List.getElem?_cons_zero, Option.some.injEq] at ho
    subst ho
    refine ⟨?_, fun _ _ _ h => h, Or.inl ⟨by rfl, ?_⟩, ?_⟩
    rotate_left
    · intro w hSw
      go_simp
      try with_reducible rfl
    simp only [Act.put, List.setIfInBounds_toArray, List.set_cons_zero, List.set_cons_succ]
    refine wpUpto.takeAll 1 (by kernel_rfl) (by kernel_rfl) (by kernel_rfl) (by kernel_rfl) (by assumption) ?_
    intro o ho
    simp only [List.getElem?_toArray, List.getElem?_cons_succ, List.getElem?_cons_zero, Option.some.injEq] at ho
    subst ho
    refine ⟨?_, fun _ _ _ h => h, Or.inl ⟨by rfl, ?_⟩, ?_⟩
    rotate_left
    · intro w hSw
      go_simp
      try with_reducible rfl
    simp only [Act.put, List.setIfInBounds_toArray, List.set_cons_zero, List.set_cons_succ]
    refine wpUpto.takeAll 2 (by kernel_rfl) (by kernel_rfl) (by kernel_rfl) (by kernel_rfl) (by assumption) ?_
    intro o ho
    simp only [List.getElem?_toArray, List.getElem?_cons_succ, List.getElem?_cons_zero, Option.some.injEq] at ho
    subst ho
    refine ⟨?_, fun _ _ _ h => h, Or.inl ⟨by rfl, ?_⟩, ?_⟩
    rotate_left
    · intro w hSw
      go_simp
      try with_reducible rfl
    simp only [Act.put, List.setIfInBounds_toArray, List.set_cons_zero, List.set_cons_succ]
    refine wpUpto.takeAll 3 (by kernel_rfl) (by kernel_rfl) (by kernel_rfl) (by kernel_rfl) (by assumption) ?_
    intro o ho
    simp only [List.getElem?_toArray, List.getElem?_cons_succ, List.getElem?_cons_zero, Option.some.injEq] at ho
    subst ho
    refine ⟨?_, fun _ _ _ h => h, Or.inl ⟨by rfl, ?_⟩, ?_⟩
    rotate_left
    · intro w hSw
      go_simp
      try with_reducible rfl
    simp only [Act.put, List.setIfInBounds_toArray, List.set_cons_zero, List.set_cons_succ]
    refine wpUpto.takeAll 4 (by kernel_rfl) (by kernel_rfl) (by kernel_rfl) (by kernel_rfl) (by assumption) ?_
    intro o ho
    simp only [List.getElem?_toArray, List.getElem?_cons_succ, List.getElem?_cons_zero, Option.some.injEq] at ho
    subst ho
    refine ⟨?_, fun _ _ _ h => h, Or.inl ⟨by rfl, ?_⟩, ?_⟩
    rotate_left
    · intro w hSw
      go_simp
      try with_reducible rfl
    simp only [Act.put, List.setIfInBounds_toArray, List.set_cons_zero, List.set_cons_succ]
    refine wpUpto.takeAll 5 (by kernel_rfl) (by kernel_rfl) (by kernel_rfl) (by kernel_rfl) (by assumption) ?_
    intro o ho
    simp only [List.getElem?_toArray, List.getElem?_cons_succ, List.getElem?_cons_zero, Option.some.injEq] at ho
    subst ho
    refine ⟨?_, fun _ _ _ h => h, Or.inl ⟨by rfl, ?_⟩, ?_⟩
    rotate_left
    · intro w hSw
      go_simp
      try with_reducible rfl
    simp only [Act.put, List.setIfInBounds_toArray, List.set_cons_zero, List.set_cons_succ]
    refine wpUpto.takeAll 6 (by kernel_rfl) (by kernel_rfl) (by kernel_rfl) (by kernel_rfl) (by assumption) ?_
    intro o ho
    simp only [List.getElem?_toArray, List.getElem?_cons_succ, List.getElem?_cons_zero, Option.some.injEq] at ho
    subst ho
    refine ⟨?_, fun _ _ _ h => h, Or.inl ⟨by rfl, ?_⟩, ?_⟩
    rotate_left
    · intro w hSw
      go_simp
      try with_reducible rfl
    simp only [Act.put, List.setIfInBounds_toArray, List.set_cons_zero, List.set_cons_succ]
    refine wpUpto.takeAll 7 (by kernel_rfl) (by kernel_rfl) (by kernel_rfl) (by kernel_rfl) (by assumption) ?_
    intro o ho
    simp only [List.getElem?_toArray, List.getElem?_cons_succ, List.getElem?_cons_zero, Option.some.injEq] at ho
    subst ho
    refine ⟨?_, fun _ _ _ h => h, Or.inl ⟨by rfl, ?_⟩, ?_⟩
    rotate_left
    · intro w hSw
      go_simp
      try with_reducible rfl
    simp only [Act.put, List.setIfInBounds_toArray, List.set_cons_zero, List.set_cons_succ]
    refine wpUpto.takeAll 8 (by kernel_rfl) (by kernel_rfl) (by kernel_rfl) (by kernel_rfl) (by assumption) ?_
    intro o ho
    simp only [List.getElem?_toArray, List.getElem?_cons_succ, List.getElem?_cons_zero, Option.some.injEq] at ho
    subst ho
    refine ⟨?_, fun _ _ _ h => h, Or.inl ⟨by rfl, ?_⟩, ?_⟩
    rotate_left
    · intro w hSw
      go_simp
      try with_reducible rfl
    simp only [Act.put, List.setIfInBounds_toArray, List.set_cons_zero, List.set_cons_succ]
    refine wpUpto.takeAll 9 (by kernel_rfl) (by kernel_rfl) (by kernel_rfl) (by kernel_rfl) (by assumption) ?_
    intro o ho
    simp only [List.getElem?_toArray, List.getElem?_cons_succ, List.getElem?_cons_zero, Option.some.injEq] at ho
    subst ho
    refine ⟨?_, fun _ _ _ h => h, Or.inl ⟨by rfl, ?_⟩, ?_⟩
    rotate_left
    · intro w hSw
      go_simp
      try with_reducible rfl
    simp only [Act.put, List.setIfInBounds_toArray, List.set_cons_zero, List.set_cons_succ]
    refine wpUpto.takeAll 10 (by kernel_rfl) (by kernel_rfl) (by kernel_rfl) (by kernel_rfl) (by assumption) ?_
    intro o ho
    simp only [List.getElem?_toArray, List.getElem?_cons_succ, List.getElem?_cons_zero, Option.some.injEq] at ho
    subst ho
    refine ⟨?_, fun _ _ _ h => h, Or.inl ⟨by rfl, ?_⟩, ?_⟩
    rotate_left
    · intro w hSw
      go_simp
      try with_reducible rfl
    simp only [Act.put, List.setIfInBounds_toArray, List.set_cons_zero]
    refine wpUpto.takeAll 11 (by kernel_rfl) (by kernel_rfl) (by kernel_rfl) (by kernel_rfl) (by assumption) ?_
    intro o ho
    simp only [List.getElem?_toArray, List.getElem?_cons_succ, List.getElem?_cons_zero, Option.some.injEq] at ho
    subst ho
    refine ⟨?_, fun _ _ _ h => h, Or.inl ⟨by rfl, ?_⟩, ?_⟩
    rotate_left
    · intro w hSw
      go_simp
      try with_reducible rfl
    simp only [Act.put, List.setIfInBounds_toArray, List.set_cons_zero, List.set_cons_succ]
    refine wpUpto.done (by kernel_rfl) ?_ _
    refine NoPanic.normal ?_
    try simp only [Act.put, List.setIfInBounds_toArray, List.set_cons_zero, List.set_cons_succ]
    have XD := Lib.hid (show Below w.heap.size w w.drew from (Below.refl _ w).drew)
    generalize w.drew = w0 at *
    go_wp2_with fail
    refine (HP1.out w0).mono ?_
    rintro e w1 ⟨v1, rfl, hc1, hb1⟩
    have X1 := Lib.hid (And.intro hc1 (XD.out.trans (hb1.mono XD.out.size)))
    clear hc1 hb1
    go_wp2_with fail
    refine (HP2.out w1).mono ?_
    rintro e w2 ⟨v2, rfl, hc2, hb2⟩
    have X2 := Lib.hid (And.intro (SlI.below cmd_ok X1.out.1 hb2) (And.intro hc2 (X1.out.2.trans (hb2.mono X1.out.2.size))))
    clear hc2 hb2
    go_wp2_with fail
    refine (alive_true w2).mono ?_
    rintro e w3 ⟨rfl, hb3⟩
    have X3 := Lib.hid (X2.out.2.2.trans (hb3.mono X2.out.2.2.size))
    clear hb3
    go_wp2_with fail
    go_ret
    exact ⟨rfl, X3.out⟩
end Go.Proofs.Ytphmhglebeapaaa
