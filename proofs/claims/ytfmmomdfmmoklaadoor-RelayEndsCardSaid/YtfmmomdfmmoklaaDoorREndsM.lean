/-
  What a round of cuecardlaw07.RelayEnds makes of the laws' world, over no memory: each end's bytes of a round go through within it.
  Conditions: room for eight, at most eight bytes a write, fewer than 3000 events.
-/
import Derived.Test.YtfmmomdfmmoklaaDoorRInv
namespace Go.Proofs.YtfmmomdfmmoklaaDoor

/-- The world's parts: of the way in (the user's bytes) whether the user hung up, what is on the user's line, whether the end was seen (the child's line is closed with it), what is on the child's line, what waits; of the way out the same; what was read; a bound on the events. -/
structure Sh (y : Wld) (hu : Bool) (P1 : List Nat) (o1 : Bool) (Q1 W1 : List Nat) (hc : Bool) (P0 : List Nat) (o0 : Bool) (Q0 W0 R1 R0 : List Nat) (n : Nat) : Prop where
  ok : y.x.Ok
  rm : y.x.rm = 8
  f10 : y.x.f 1 0 = ⟨hu, P1⟩
  f00 : y.x.f 0 0 = ⟨o1, Q1⟩
  f01 : y.x.f 0 1 = ⟨hc, P0⟩
  f11 : y.x.f 1 1 = ⟨o0, Q0⟩
  w1 : y.x.ws 1 = W1
  w0 : y.x.ws 0 = W0
  v1 : y.x.ov 1 = o1
  v0 : y.x.ov 0 = o0
  r1 : y.rd 1 = R1
  r0 : y.rd 0 = R0
  wr : ∀ e, y.wr e = []
  ev : y.x.ev.length ≤ n
  all : whole y.x.ev ≤ 8 * n

section
variable {y : Wld} {hu o1 hc o0 : Bool} {P1 Q1 W1 P0 Q0 W0 R1 R0 : List Nat} {n : Nat}
theorem Sh.start : Sh (Wld.start 8) false [] false [] [] false [] false [] [] [] [] 0 :=
  ⟨Sys.start_ok (by omega), rfl, rfl, rfl, rfl, rfl, rfl, rfl, rfl, rfl, rfl, rfl, fun _ => rfl, Nat.le_refl _, Nat.le_refl _⟩
theorem Sh.short (h : Sh y hu P1 o1 Q1 W1 hc P0 o0 Q0 W0 R1 R0 n) (h1 : R1.length ≤ 1000000) (h0 : R0.length ≤ 1000000) : y.Short := by
  intro e he
  rw [h.wr e]
  refine ⟨Nat.zero_le _, ?_⟩
  rcases (show e = 0 ∨ e = 1 by omega) with rfl | rfl
  · rw [h.r0]; exact h0
  · rw [h.r1]; exact h1

/-- The user writes. -/
def Wld.put (y : Wld) (k s : Nat) (zs : List Nat) : Wld := y.line k s ⟨(y.x.f k s).en, (y.x.f k s).xs ++ zs.take (putN y.x.rm (y.x.f k s).en (y.x.f k s).xs.length zs.length)⟩
theorem line_ok (h : y.x.Ok) {k s : Nat} (hk : k < 2) (hs : s < 2) (z : Way) (h1 : z.xs.length ≤ y.x.rm) (h2 : ∀ b ∈ z.xs, b < 256) : (y.line k s z).x.Ok := h.line hk hs h1 h2
theorem Sh.put1 (h : Sh y hu [] o1 Q1 W1 hc P0 o0 Q0 W0 R1 R0 n) {zs : List Nat} (hz : hu = true → zs = []) (hb : ∀ b ∈ zs, b < 256) : Sh (y.put 1 0 zs) hu (zs.take 8) o1 Q1 W1 hc P0 o0 Q0 W0 R1 R0 n := by
  have e : (⟨(y.x.f 1 0).en, (y.x.f 1 0).xs ++ zs.take (putN y.x.rm (y.x.f 1 0).en (y.x.f 1 0).xs.length zs.length)⟩ : Way) = ⟨hu, zs.take 8⟩ := by
    rw [h.f10, h.rm]
    cases hu with
    | true => rw [hz rfl]; rfl
    | false =>
      simp only [List.nil_append, putN, List.length_nil, Way.mk.injEq, true_and]
      rcases Nat.le_total zs.length 8 with k | k
      · rw [List.take_of_length_le k]; exact List.take_of_length_le (by simp; omega)
      · rw [show min zs.length (if false = true then 0 else 8 - 0) = 8 by simp; omega]
  unfold Wld.put
  rw [e]
  exact ⟨line_ok h.ok (by omega) (by omega) _ (by rw [h.rm]; exact List.length_take_le _ _) (fun b hm => hb b (List.mem_of_mem_take hm)), h.rm, by show (y.x.line 1 0 _).f 1 0 = _; rw [Sys.line_f]; rfl,
    (Sys.line_f ..).trans h.f00, (Sys.line_f ..).trans h.f01, (Sys.line_f ..).trans h.f11, h.w1, h.w0, h.v1, h.v0, h.r1, h.r0, h.wr, h.ev, h.all⟩
theorem Sh.put0 (h : Sh y hu P1 o1 Q1 W1 hc [] o0 Q0 W0 R1 R0 n) {zs : List Nat} (hz : hc = true → zs = []) (hb : ∀ b ∈ zs, b < 256) : Sh (y.put 0 1 zs) hu P1 o1 Q1 W1 hc (zs.take 8) o0 Q0 W0 R1 R0 n := by
  have e : (⟨(y.x.f 0 1).en, (y.x.f 0 1).xs ++ zs.take (putN y.x.rm (y.x.f 0 1).en (y.x.f 0 1).xs.length zs.length)⟩ : Way) = ⟨hc, zs.take 8⟩ := by
    rw [h.f01, h.rm]
    cases hc with
    | true => rw [hz rfl]; rfl
    | false =>
      simp only [List.nil_append, putN, List.length_nil, Way.mk.injEq, true_and]
      rcases Nat.le_total zs.length 8 with k | k
      · rw [List.take_of_length_le k]; exact List.take_of_length_le (by simp; omega)
      · rw [show min zs.length (if false = true then 0 else 8 - 0) = 8 by simp; omega]
  unfold Wld.put
  rw [e]
  exact ⟨line_ok h.ok (by omega) (by omega) _ (by rw [h.rm]; exact List.length_take_le _ _) (fun b hm => hb b (List.mem_of_mem_take hm)), h.rm, (Sys.line_f ..).trans h.f10,
    (Sys.line_f ..).trans h.f00, by show (y.x.line 0 1 _).f 0 1 = _; rw [Sys.line_f]; rfl, (Sys.line_f ..).trans h.f11, h.w1, h.w0, h.v1, h.v0, h.r1, h.r0, h.wr, h.ev, h.all⟩
/-- An end hangs up. -/
theorem Sh.hang0 (h : Sh y hu P1 o1 Q1 W1 hc P0 o0 Q0 W0 R1 R0 n) : Sh (y.hangs 0) true P1 o1 Q1 W1 hc P0 o0 Q0 W0 R1 R0 n := by
  have hx := h.ok.le 1 (by omega) 0 (by omega)
  have hb := h.ok.byte 1 (by omega) 0 (by omega)
  exact ⟨line_ok h.ok (by omega) (by omega) _ hx hb, h.rm, by show (y.x.line 1 0 _).f 1 0 = _; rw [Sys.line_f, if_pos ⟨rfl, rfl⟩, h.f10],
    (Sys.line_f ..).trans h.f00, (Sys.line_f ..).trans h.f01, (Sys.line_f ..).trans h.f11, h.w1, h.w0, h.v1, h.v0, h.r1, h.r0, h.wr, h.ev, h.all⟩
theorem Sh.hang1 (h : Sh y hu P1 o1 Q1 W1 hc P0 o0 Q0 W0 R1 R0 n) : Sh (y.hangs 1) hu P1 o1 Q1 W1 true P0 o0 Q0 W0 R1 R0 n := by
  have hx := h.ok.le 0 (by omega) 1 (by omega)
  have hb := h.ok.byte 0 (by omega) 1 (by omega)
  exact ⟨line_ok h.ok (by omega) (by omega) _ hx hb, h.rm, (Sys.line_f ..).trans h.f10,
    (Sys.line_f ..).trans h.f00, by show (y.x.line 0 1 _).f 0 1 = _; rw [Sys.line_f, if_pos ⟨rfl, rfl⟩, h.f01], (Sys.line_f ..).trans h.f11, h.w1, h.w0, h.v1, h.v0, h.r1, h.r0, h.wr, h.ev, h.all⟩

theorem Sys.ended_far (x : Sys) (d : Nat) {j t : Nat} (h : ¬(j = 1 - d ∧ t = 1 - d)) : (x.ended d).f j t = x.f j t := by
  show (x.line (1 - d) (1 - d) _).f j t = _
  rw [Sys.line_f, if_neg h]
theorem Sys.took_far (x : Sys) (d : Nat) (n u : Int) {j t : Nat} (h : ¬(j = d ∧ t = 1 - d)) : (x.took d n u).f j t = x.f j t := by
  show (x.line d (1 - d) _).f j t = _
  rw [Sys.line_f, if_neg h]
theorem Sys.sent_far (x : Sys) (d : Nat) (n : Int) {j t : Nat} (h : ¬(j = 1 - d ∧ t = 1 - d)) : (x.sent d n).f j t = x.f j t := by
  show (x.line (1 - d) (1 - d) _).f j t = _
  rw [Sys.line_f, if_neg h]

/-- A step. -/
def Wld.go (y : Wld) (kind n t : Int) : Wld := { y with x := (y.x.step kind n t).2 }
theorem room_big {x : Sys} {k : Int} (h1 : 1 ≤ k) (h9 : k ≤ 9) {n : Nat} (ha : whole x.ev ≤ 8 * n) (hn : n ≤ 3000) : (x.room k).toNat = k.toNat := by unfold Sys.room; omega
theorem Sh.step0 (h : Sh y hu P1 o1 Q1 [] hc P0 o0 Q0 W0 R1 R0 n) {k t : Int} (h1 : 1 ≤ k) (h9 : k ≤ 9) (hn : n ≤ 3000) (hp : P1.length ≤ k) (hp8 : P1.length ≤ 8) (ho : o1 = true → P1 = []) (hoo : o0 = true → o1 = true) (hh : P1 = [] → hu = true) :
    Sh (y.go 0 k t) hu [] (o1 || P1.isEmpty) Q1 P1 hc P0 o0 Q0 W0 R1 R0 (n + 1) := by
  have hok : (y.go 0 k t).x.Ok := h.ok.step ..
  have hrm : (y.go 0 k t).x.rm = 8 := (Sys.step_rm ..).trans h.rm
  have hroom := room_big h1 h9 h.all hn
  have hgot : y.x.got 1 k = P1 := by
    unfold Sys.got Sys.inc
    rw [show (1 : Nat) - 1 = 0 from rfl, h.f10, hroom]
    exact List.take_of_length_le (by show P1.length ≤ _; omega)
  cases o1 with
  | true =>
    obtain rfl := ho rfl
    have e : (y.x.step 0 k t).2 = y.x := by
      unfold Sys.step
      rw [if_pos rfl]
      split
      · rfl
      · unfold Sys.read
        rw [if_pos (by unfold Sys.shut; rw [h.v1]; simp)]
    have e2 : y.go 0 k t = y := by unfold Wld.go; rw [e]
    rw [e2]
    exact ⟨h.ok, h.rm, h.f10, h.f00, h.f01, h.f11, h.w1, h.w0, h.v1, h.v0, h.r1, h.r0, h.wr, by have := h.ev; omega, by have := h.all; omega⟩
  | false =>
    have hv0 : y.x.ov 0 = false := by
      rw [h.v0]
      cases o0
      · rfl
      · exact absurd (hoo rfl) (by simp)
    have hshut : y.x.shut 1 k = false := by
      have := h.ev
      unfold Sys.shut
      rw [h.w1, h.v1]
      simp; omega
    have e : (y.x.step 0 k t).2 = (y.x.read 1 k t).2 := by
      unfold Sys.step
      rw [if_pos rfl, if_neg (by rw [hv0]; simp)]
    by_cases hP : P1 = []
    · subst hP
      have e3 : (y.x.read 1 k t).2 = y.x.ended 1 := by
        unfold Sys.read
        rw [if_neg (by rw [hshut]; simp), if_neg (by rw [hgot]; simp), if_pos (by unfold Sys.inc; rw [show (1 : Nat) - 1 = 0 from rfl, h.f10, hh rfl]; rfl)]
      have e2 : y.go 0 k t = { y with x := y.x.ended 1 } := by unfold Wld.go; rw [e, e3]
      rw [e2] at hok hrm ⊢
      exact ⟨hok, hrm, (Sys.ended_far y.x 1 (by decide)).trans h.f10, by show (y.x.line 0 0 ⟨true, (y.x.f 0 0).xs⟩).f 0 0 = _; rw [Sys.line_f, if_pos ⟨rfl, rfl⟩, h.f00]; rfl, (Sys.ended_far y.x 1 (by decide)).trans h.f01, (Sys.ended_far y.x 1 (by decide)).trans h.f11, h.w1, h.w0,
        by show upn y.x.ov 1 true 1 = _; rw [upn_at]; rfl, by show upn y.x.ov 1 true 0 = _; rw [upn_far _ _ (by omega)]; exact h.v0, h.r1, h.r0, h.wr, by have := h.ev; show y.x.ev.length ≤ _; omega, by have := h.all; show whole y.x.ev ≤ _; omega⟩
    · have e3 : (y.x.read 1 k t).2 = y.x.took 1 k t := by
        unfold Sys.read
        rw [if_neg (by rw [hshut]; simp), if_pos (by rw [hgot]; exact hP)]
      have e2 : y.go 0 k t = { y with x := y.x.took 1 k t } := by unfold Wld.go; rw [e, e3]
      have hPe : P1.isEmpty = false := by cases P1 with
        | nil => exact absurd rfl hP
        | cons => rfl
      rw [e2] at hok hrm ⊢
      rw [hPe]
      exact ⟨hok, hrm, by show (y.x.line 1 0 ⟨(y.x.f 1 0).en, (y.x.f 1 0).xs.drop _⟩).f 1 0 = _; rw [Sys.line_f, if_pos ⟨rfl, rfl⟩, h.f10, hroom]; show Way.mk hu (P1.drop _) = _; rw [List.drop_of_length_le (by omega)],
        (Sys.took_far y.x 1 k t (by decide)).trans h.f00, (Sys.took_far y.x 1 k t (by decide)).trans h.f01, (Sys.took_far y.x 1 k t (by decide)).trans h.f11, by show upn y.x.ws 1 (y.x.got 1 k) 1 = _; rw [upn_at]; exact hgot, by show upn y.x.ws 1 (y.x.got 1 k) 0 = _; rw [upn_far _ _ (by omega)]; exact h.w0,
        h.v1, h.v0, h.r1, h.r0, h.wr, by have := h.ev; show (y.x.ev ++ [_]).length ≤ _; simp; omega, by have := h.all; show whole (y.x.ev ++ [_]) ≤ _; rw [whole_append, whole_cons, hgot]; simp only [show whole [] = 0 from rfl]; omega⟩
theorem Sh.step1 (h : Sh y hu P1 o1 Q1 W1 hc P0 o0 Q0 [] R1 R0 n) {k t : Int} (h1 : 1 ≤ k) (h9 : k ≤ 9) (hn : n ≤ 3000) (hp : P0.length ≤ k) (hp8 : P0.length ≤ 8) (ho : o0 = true → P0 = [] ) :
    Sh (y.go 1 k t) hu P1 o1 Q1 W1 hc [] (o0 || (P0.isEmpty && hc)) Q0 P0 R1 R0 (n + 1) := by
  have hok : (y.go 1 k t).x.Ok := h.ok.step ..
  have hrm : (y.go 1 k t).x.rm = 8 := (Sys.step_rm ..).trans h.rm
  have hroom := room_big h1 h9 h.all hn
  have hgot : y.x.got 0 k = P0 := by
    unfold Sys.got Sys.inc
    rw [show (1 : Nat) - 0 = 1 from rfl, h.f01, hroom]
    exact List.take_of_length_le (by show P0.length ≤ _; omega)
  have e : (y.x.step 1 k t).2 = (y.x.read 0 k t).2 := by
    unfold Sys.step
    rw [if_neg (by omega), if_pos rfl]
  cases o0 with
  | true =>
    obtain rfl := ho rfl
    have e3 : (y.x.read 0 k t).2 = y.x := by
      unfold Sys.read
      rw [if_pos (by unfold Sys.shut; rw [h.v0]; simp)]
    have e2 : y.go 1 k t = y := by unfold Wld.go; rw [e, e3]
    rw [e2]
    exact ⟨h.ok, h.rm, h.f10, h.f00, h.f01, h.f11, h.w1, h.w0, h.v1, h.v0, h.r1, h.r0, h.wr, by have := h.ev; omega, by have := h.all; omega⟩
  | false =>
    have hshut : y.x.shut 0 k = false := by
      have := h.ev
      unfold Sys.shut
      rw [h.w0, h.v0]
      simp; omega
    by_cases hP : P0 = []
    · subst hP
      cases hc with
      | true =>
        have e3 : (y.x.read 0 k t).2 = y.x.ended 0 := by
          unfold Sys.read
          rw [if_neg (by rw [hshut]; simp), if_neg (by rw [hgot]; simp), if_pos (by unfold Sys.inc; rw [show (1 : Nat) - 0 = 1 from rfl, h.f01]; rfl)]
        have e2 : y.go 1 k t = { y with x := y.x.ended 0 } := by unfold Wld.go; rw [e, e3]
        rw [e2] at hok hrm ⊢
        exact ⟨hok, hrm, (Sys.ended_far y.x 0 (by decide)).trans h.f10, (Sys.ended_far y.x 0 (by decide)).trans h.f00, (Sys.ended_far y.x 0 (by decide)).trans h.f01, by show (y.x.line 1 1 ⟨true, (y.x.f 1 1).xs⟩).f 1 1 = _; rw [Sys.line_f, if_pos ⟨rfl, rfl⟩, h.f11]; rfl, h.w1, h.w0,
          by show upn y.x.ov 0 true 1 = _; rw [upn_far _ _ (by omega)]; exact h.v1, by show upn y.x.ov 0 true 0 = _; rw [upn_at]; rfl, h.r1, h.r0, h.wr, by have := h.ev; show y.x.ev.length ≤ _; omega, by have := h.all; show whole y.x.ev ≤ _; omega⟩
      | false =>
        have e3 : (y.x.read 0 k t).2 = y.x := by
          unfold Sys.read
          rw [if_neg (by rw [hshut]; simp), if_neg (by rw [hgot]; simp), if_neg (by unfold Sys.inc; rw [show (1 : Nat) - 0 = 1 from rfl, h.f01]; simp)]
        have e2 : y.go 1 k t = y := by unfold Wld.go; rw [e, e3]
        rw [e2]
        exact ⟨h.ok, h.rm, h.f10, h.f00, h.f01, h.f11, h.w1, h.w0, h.v1, h.v0, h.r1, h.r0, h.wr, by have := h.ev; omega, by have := h.all; omega⟩
    · have e3 : (y.x.read 0 k t).2 = y.x.took 0 k t := by
        unfold Sys.read
        rw [if_neg (by rw [hshut]; simp), if_pos (by rw [hgot]; exact hP)]
      have e2 : y.go 1 k t = { y with x := y.x.took 0 k t } := by unfold Wld.go; rw [e, e3]
      have hPe : P0.isEmpty = false := by cases P0 with
        | nil => exact absurd rfl hP
        | cons => rfl
      rw [e2] at hok hrm ⊢
      rw [hPe]
      exact ⟨hok, hrm, (Sys.took_far y.x 0 k t (by decide)).trans h.f10, (Sys.took_far y.x 0 k t (by decide)).trans h.f00, by show (y.x.line 0 1 ⟨(y.x.f 0 1).en, (y.x.f 0 1).xs.drop _⟩).f 0 1 = _; rw [Sys.line_f, if_pos ⟨rfl, rfl⟩, h.f01, hroom]; show Way.mk hc (P0.drop _) = _; rw [List.drop_of_length_le (by omega)],
        (Sys.took_far y.x 0 k t (by decide)).trans h.f11, by show upn y.x.ws 0 (y.x.got 0 k) 1 = _; rw [upn_far _ _ (by omega)]; exact h.w1, by show upn y.x.ws 0 (y.x.got 0 k) 0 = _; rw [upn_at]; exact hgot,
        h.v1, h.v0, h.r1, h.r0, h.wr, by have := h.ev; show (y.x.ev ++ [_]).length ≤ _; simp; omega, by have := h.all; show whole (y.x.ev ++ [_]) ≤ _; rw [whole_append, whole_cons, hgot]; simp only [show whole [] = 0 from rfl]; omega⟩
theorem putN_all {en : Bool} {m : Nat} {k : Int} (h8 : m ≤ 8) (hk : m ≤ k) (he : en = true → m = 0) : putN 8 en 0 (min k m).toNat = m := by
  unfold putN
  cases en with
  | true => have := he rfl; subst this; simp
  | false => simp; omega
theorem Sh.step2 (h : Sh y hu P1 o1 [] W1 hc P0 o0 Q0 W0 R1 R0 n) {k t : Int} (hp : W1.length ≤ k) (hp8 : W1.length ≤ 8) (ho : o1 = true → W1 = []) :
    Sh (y.go 2 k t) hu P1 o1 W1 [] hc P0 o0 Q0 W0 R1 R0 n := by
  have hok : (y.go 2 k t).x.Ok := h.ok.step ..
  have hrm : (y.go 2 k t).x.rm = 8 := (Sys.step_rm ..).trans h.rm
  have hm : y.x.many 1 k = W1.length := by
    unfold Sys.many Sys.out
    rw [show (1 : Nat) - 1 = 0 from rfl, h.f00, h.rm, h.w1]
    exact putN_all hp8 hp (fun e => by rw [ho e]; rfl)
  have e2 : y.go 2 k t = { y with x := y.x.sent 1 k } := by
    unfold Wld.go Sys.step
    rw [if_neg (by omega), if_neg (by omega), if_pos rfl]
    rfl
  rw [e2] at hok hrm ⊢
  exact ⟨hok, hrm, (Sys.sent_far y.x 1 k (by decide)).trans h.f10, by show (y.x.line 0 0 ⟨(y.x.f 0 0).en, (y.x.f 0 0).xs ++ (y.x.ws 1).take (y.x.many 1 k)⟩).f 0 0 = _; rw [Sys.line_f, if_pos ⟨rfl, rfl⟩, h.f00, hm, h.w1, List.take_length]; rfl,
    (Sys.sent_far y.x 1 k (by decide)).trans h.f01, (Sys.sent_far y.x 1 k (by decide)).trans h.f11, by show upn y.x.ws 1 ((y.x.ws 1).drop (y.x.many 1 k)) 1 = _; rw [upn_at, hm, h.w1, List.drop_length], by show upn y.x.ws 1 ((y.x.ws 1).drop (y.x.many 1 k)) 0 = _; rw [upn_far _ _ (by omega)]; exact h.w0,
    h.v1, h.v0, h.r1, h.r0, h.wr, h.ev, h.all⟩
theorem Sh.step3 (h : Sh y hu P1 o1 Q1 W1 hc P0 o0 [] W0 R1 R0 n) {k t : Int} (hp : W0.length ≤ k) (hp8 : W0.length ≤ 8) (ho : o0 = true → W0 = []) :
    Sh (y.go 3 k t) hu P1 o1 Q1 W1 hc P0 o0 W0 [] R1 R0 n := by
  have hok : (y.go 3 k t).x.Ok := h.ok.step ..
  have hrm : (y.go 3 k t).x.rm = 8 := (Sys.step_rm ..).trans h.rm
  have hm : y.x.many 0 k = W0.length := by
    unfold Sys.many Sys.out
    rw [show (1 : Nat) - 0 = 1 from rfl, h.f11, h.rm, h.w0]
    exact putN_all hp8 hp (fun e => by rw [ho e]; rfl)
  have e2 : y.go 3 k t = { y with x := y.x.sent 0 k } := by
    unfold Wld.go Sys.step
    rw [if_neg (by omega), if_neg (by omega), if_neg (by omega), if_pos rfl]
    rfl
  rw [e2] at hok hrm ⊢
  exact ⟨hok, hrm, (Sys.sent_far y.x 0 k (by decide)).trans h.f10, (Sys.sent_far y.x 0 k (by decide)).trans h.f00, (Sys.sent_far y.x 0 k (by decide)).trans h.f01,
    by show (y.x.line 1 1 ⟨(y.x.f 1 1).en, (y.x.f 1 1).xs ++ (y.x.ws 0).take (y.x.many 0 k)⟩).f 1 1 = _; rw [Sys.line_f, if_pos ⟨rfl, rfl⟩, h.f11, hm, h.w0, List.take_length]; rfl,
    by show upn y.x.ws 0 ((y.x.ws 0).drop (y.x.many 0 k)) 1 = _; rw [upn_far _ _ (by omega)]; exact h.w1, by show upn y.x.ws 0 ((y.x.ws 0).drop (y.x.many 0 k)) 0 = _; rw [upn_at, hm, h.w0, List.drop_length],
    h.v1, h.v0, h.r1, h.r0, h.wr, h.ev, h.all⟩
/-- An end reads. -/
theorem Sh.hear0 (h : Sh y hu P1 o1 Q1 W1 hc P0 o0 Q0 W0 R1 R0 n) {k : Int} (hp : Q0.length ≤ k) : Sh (y.hears 0 k) hu P1 o1 Q1 W1 hc P0 o0 [] W0 R1 (R0 ++ Q0) n := by
  have hx : ((y.x.f 1 1).xs.drop k.toNat) = [] := by rw [h.f11]; exact List.drop_of_length_le (by show Q0.length ≤ _; omega)
  have ht : ((y.x.f 1 1).xs.take k.toNat) = Q0 := by rw [h.f11]; exact List.take_of_length_le (by show Q0.length ≤ _; omega)
  have hok : (y.line 1 1 ⟨(y.x.f 1 1).en, (y.x.f 1 1).xs.drop k.toNat⟩).x.Ok := line_ok h.ok (by omega) (by omega) _ (by rw [hx]; exact Nat.zero_le _) (by rw [hx]; simp)
  exact ⟨hok, h.rm, (Sys.line_f ..).trans h.f10, (Sys.line_f ..).trans h.f00, (Sys.line_f ..).trans h.f01,
    by show (y.x.line 1 1 ⟨(y.x.f 1 1).en, (y.x.f 1 1).xs.drop k.toNat⟩).f 1 1 = _; rw [Sys.line_f, if_pos ⟨rfl, rfl⟩, hx, h.f11],
    h.w1, h.w0, h.v1, h.v0, by show upn y.rd 0 (y.rd 0 ++ (y.x.f 1 1).xs.take k.toNat) 1 = _; rw [upn_far _ _ (by omega)]; exact h.r1, by show upn y.rd 0 (y.rd 0 ++ (y.x.f 1 1).xs.take k.toNat) 0 = _; rw [upn_at, h.r0, ht], h.wr, h.ev, h.all⟩
theorem Sh.hear1 (h : Sh y hu P1 o1 Q1 W1 hc P0 o0 Q0 W0 R1 R0 n) {k : Int} (hp : Q1.length ≤ k) : Sh (y.hears 1 k) hu P1 o1 [] W1 hc P0 o0 Q0 W0 (R1 ++ Q1) R0 n := by
  have hx : ((y.x.f 0 0).xs.drop k.toNat) = [] := by rw [h.f00]; exact List.drop_of_length_le (by show Q1.length ≤ _; omega)
  have ht : ((y.x.f 0 0).xs.take k.toNat) = Q1 := by rw [h.f00]; exact List.take_of_length_le (by show Q1.length ≤ _; omega)
  have hok : (y.line 0 0 ⟨(y.x.f 0 0).en, (y.x.f 0 0).xs.drop k.toNat⟩).x.Ok := line_ok h.ok (by omega) (by omega) _ (by rw [hx]; exact Nat.zero_le _) (by rw [hx]; simp)
  exact ⟨hok, h.rm, (Sys.line_f ..).trans h.f10, by show (y.x.line 0 0 ⟨(y.x.f 0 0).en, (y.x.f 0 0).xs.drop k.toNat⟩).f 0 0 = _; rw [Sys.line_f, if_pos ⟨rfl, rfl⟩, hx, h.f00],
    (Sys.line_f ..).trans h.f01, (Sys.line_f ..).trans h.f11,
    h.w1, h.w0, h.v1, h.v0, by show upn y.rd 1 (y.rd 1 ++ (y.x.f 0 0).xs.take k.toNat) 1 = _; rw [upn_at, h.r1, ht], by show upn y.rd 1 (y.rd 1 ++ (y.x.f 0 0).xs.take k.toNat) 0 = _; rw [upn_far _ _ (by omega)]; exact h.r0, h.wr, h.ev, h.all⟩
end
end Go.Proofs.YtfmmomdfmmoklaaDoor
