/-
  The law TclBytes.
  Conditions: none.
-/
import Derived.Test.YtphmhglebeapaaaTclLaw
namespace Go.Proofs.Ytphmhglebeapaaa
open Go.RowKit

/-- What prints commands that may be printed. -/
theorem print_known {S : Nat → Prop} {W : World} {l : List Cmd} {va : Value} (hx : Cmds S W va l) (hf : weightC l ≤ 1048576 ∧ ∀ c ∈ l, bytesC c) (hok : printOk l) : Calls Try.prog 17 #[va] W fun e w' => e = .returned (.tuple #[.string (str (printT l)), .int .i64 0]) ∧ Below W.heap.size W w' := by
  refine (Print_is l hx hf).mono ?_
  rintro e w' ⟨T, R, rfl, h1, _, hb⟩
  obtain ⟨rfl, rfl⟩ := h1 hok
  exact ⟨rfl, hb⟩
/-- The word that the law makes, and its commands. -/
def byW (k : Int) (m : List Nat) : Wrd := ⟨0, k, if m = [] then [] else [⟨false, m⟩]⟩
def byL (k : Int) (m : List Nat) : List Cmd := [⟨0, [byW k m, ⟨0, 0, [⟨true, [120]⟩, ⟨false, 49 :: m⟩]⟩, byW k m]⟩, ⟨0, [byW k m]⟩]
theorem byW_ok {k : Int} {m : List Nat} (h : k = 1 ∨ (k = 0 ∧ m ≠ [])) : wordOk (byW k m) := by
  have hp : partsOk false (byW k m).parts := by
    show partsOk false (if m = [] then [] else [⟨false, m⟩])
    split
    · trivial
    · rename_i hm
      exact ⟨hm, rfl, trivial⟩
  rcases h with h | ⟨h, hm⟩
  · exact .inr (.inl ⟨h, hp⟩)
  · refine .inl ⟨h, ?_, hp⟩
    show (if m = [] then [] else [(⟨false, m⟩ : Prt)]) ≠ []
    rw [if_neg hm]; simp
theorem byL_ok {k : Int} {m : List Nat} (h : k = 1 ∨ (k = 0 ∧ m ≠ [])) : printOk (byL k m) := by
  have hw := byW_ok h
  have h2 : wordOk ⟨0, 0, [⟨true, [120]⟩, ⟨false, 49 :: m⟩]⟩ := .inl ⟨rfl, by simp, ⟨by intro c hc; rw [List.mem_singleton.1 hc]; decide, by simp, by simp⟩, by simp, rfl, trivial⟩
  intro c hc
  rcases List.mem_cons.1 hc with rfl | hc
  · refine ⟨by simp, fun x hx => ?_⟩
    simp only [List.mem_cons, List.not_mem_nil, or_false] at hx
    rcases hx with rfl | rfl | rfl
    · exact hw
    · exact h2
    · exact hw
  · rw [List.mem_singleton.1 hc]
    refine ⟨by simp, fun x hx => ?_⟩
    rw [List.mem_singleton.1 hx]; exact hw
theorem byL_bytes (k : Int) {m : List Nat} (hm : ∀ c ∈ m, c < 256) : ∀ c ∈ byL k m, bytesC c := by
  have hw : bytesW (byW k m) := by
    intro p hp
    simp only [byW] at hp
    split at hp
    · cases hp
    · rw [List.mem_singleton.1 hp]; exact hm
  have h2 : bytesW ⟨0, 0, [⟨true, [120]⟩, ⟨false, 49 :: m⟩]⟩ := by
    intro p hp
    simp only [List.mem_cons, List.not_mem_nil, or_false] at hp
    rcases hp with rfl | rfl
    · intro c hc; rw [List.mem_singleton.1 hc]; omega
    · intro c hc
      rcases List.mem_cons.1 hc with rfl | hc
      · omega
      · exact hm c hc
  intro c hc x hx
  rcases List.mem_cons.1 hc with rfl | hc
  · simp only [List.mem_cons, List.not_mem_nil, or_false] at hx
    rcases hx with rfl | rfl | rfl
    · exact hw
    · exact h2
    · exact hw
  · rw [List.mem_singleton.1 hc] at hx
    rw [List.mem_singleton.1 hx]; exact hw
theorem byL_weight (k : Int) (m : List Nat) : weightC (byL k m) ≤ 100 + 4 * m.length := by
  have h1 : weight (byW k m).parts ≤ 1 + m.length := by
    simp only [byW]; split <;> simp [weight]
  simp only [byL, weightC, weightW, List.map_cons, List.map_nil, List.sum_cons, List.sum_nil]
  have h2 : weight [(⟨true, [120]⟩ : Prt), ⟨false, 49 :: m⟩] = 4 + m.length := by simp [weight]; omega
  rw [h2]; omega
/-- The list that the law lays, read. -/
theorem byL_read {W : World} {k : Int} {m : List Nat} {A : Option Addr} {np cp p2 w3 w1 : Nat} (c2 : Nat) (hP : Prts all W (.slice A np cp) (byW k m).parts)
    (h2 : Blk W p2 47 #[.bool true, .string (str [120]), .bool false, .string (str (49 :: m))])
    (h3 : Blk W w3 44 #[.int .i64 0, .int .i64 k, .slice A np cp, .int .i64 0, .int .i64 0, .slice (some ⟨p2, 0, none⟩) 2 2, .int .i64 0, .int .i64 k, .slice A np cp])
    (h1 : Blk W w1 44 #[.int .i64 0, .int .i64 k, .slice A np cp])
    (hc : Blk W c2 39 #[.int .i64 0, .slice (some ⟨w3, 0, none⟩) 3 3, .int .i64 0, .slice (some ⟨w1, 0, none⟩) 1 1]) :
    Cmds all W (.slice (some ⟨c2, 0, none⟩) 2 2) (byL k m) := by
  have hpp : Prts all W (.slice (some ⟨p2, 0, none⟩) 2 2) [⟨true, [120]⟩, ⟨false, 49 :: m⟩] := by
    refine ⟨_, 2, rfl, by simp, fun _ => ⟨p2, 0, rfl, trivial, fun j x hj => ?_⟩⟩
    match j with
    | 0 => simp at hj; subst hj; exact ⟨h2.cell 0, h2.cell 1⟩
    | 1 => simp at hj; subst hj; exact ⟨h2.cell 2, h2.cell 3⟩
    | j + 2 => simp at hj
  have hw1 : Wrds all W (.slice (some ⟨w1, 0, none⟩) 1 1) [byW k m] := by
    refine ⟨_, 1, rfl, by simp, fun _ => ⟨w1, 0, rfl, trivial, fun j x hj => ?_⟩⟩
    match j with
    | 0 => simp at hj; subst hj; exact ⟨h1.cell 0, h1.cell 1, _, h1.cell 2, hP⟩
    | j + 1 => simp at hj
  have hw3 : Wrds all W (.slice (some ⟨w3, 0, none⟩) 3 3) [byW k m, ⟨0, 0, [⟨true, [120]⟩, ⟨false, 49 :: m⟩]⟩, byW k m] := by
    refine ⟨_, 3, rfl, by simp, fun _ => ⟨w3, 0, rfl, trivial, fun j x hj => ?_⟩⟩
    match j with
    | 0 => simp at hj; subst hj; exact ⟨h3.cell 0, h3.cell 1, _, h3.cell 2, hP⟩
    | 1 => simp at hj; subst hj; exact ⟨h3.cell 3, h3.cell 4, _, h3.cell 5, hpp⟩
    | 2 => simp at hj; subst hj; exact ⟨h3.cell 6, h3.cell 7, _, h3.cell 8, hP⟩
    | j + 3 => simp at hj
  refine ⟨_, 2, rfl, by simp [byL], fun _ => ⟨c2, 0, rfl, trivial, fun j x hj => ?_⟩⟩
  match j with
  | 0 => simp [byL] at hj; subst hj; exact ⟨hc.cell 0, _, hc.cell 1, hw3⟩
  | 1 => simp [byL] at hj; subst hj; exact ⟨hc.cell 2, _, hc.cell 3, hw1⟩
  | j + 2 => simp [byL] at hj
theorem four_blocks (w : World) (C1 C2 C3 C4 : Array Value) (t1 t2 t3 t4 : TypeId) :
    let W := (((w.alloc (.cells C1 t1)).alloc (.cells C2 t2)).alloc (.cells C3 t3)).alloc (.cells C4 t4)
    Below w.heap.size w W ∧ Blk W w.heap.size t1 C1 ∧ Blk W (w.heap.size + 1) t2 C2 ∧ Blk W (w.heap.size + 2) t3 C3 ∧ Blk W (w.heap.size + 3) t4 C4 := by
  have h1 := Blk.new w t1 C1
  have h2 := Blk.new (w.alloc (.cells C1 t1)) t2 C2
  have h3 := Blk.new ((w.alloc (.cells C1 t1)).alloc (.cells C2 t2)) t3 C3
  have h4 := Blk.new (((w.alloc (.cells C1 t1)).alloc (.cells C2 t2)).alloc (.cells C3 t3)) t4 C4
  simp only [World.size_alloc] at h2 h3 h4
  exact ⟨((((Below.refl _ w).alloc (Nat.le_refl _) _).alloc (by simp) _).alloc (by simp; omega) _).alloc (by simp; omega) _, ((h1.alloc _).alloc _).alloc _, (h2.alloc _).alloc _, h3.alloc _, h4⟩
set_option maxRecDepth 100000 in
set_option maxHeartbeats 2000000 in
theorem bytes_true (A : Option Addr) (n c : Nat) (l : List Nat) (kd : Bool) (w : World) (h : Rd w (.slice A n c) (bv l)) (hl : ∀ d ∈ l, d < 256) :
    Calls Try.prog 8 #[.slice A n c, .bool kd] w fun e w' => e = .returned (.bool true) ∧ Below w.heap.size w w' := by
  obtain rfl := h.bytes
  obtain ⟨k, hk1, hk2, hk3⟩ : ∃ k : Nat, k ≤ l.length ∧ k ≤ 300 ∧ min (l.length : Int) 300 = (k : Int) := ⟨min l.length 300, Nat.min_le_left _ _, Nat.min_le_right _ _, by omega⟩
  obtain ⟨A1, hrun, hR⟩ := run_upto h hk1
  have hm : ∀ d ∈ l.take k, d < 256 := fun d hd => hl d (List.mem_of_mem_take hd)
  have hml : (l.take k).length = k := by rw [List.length_take]; omega
  generalize l.take k = m at *
  have HM := Lib.hid hm
  have HC1 := Lib.hid (fun (W : World) (hb : Below w.heap.size w W) => show (convert 41 9 (.slice A1 k c)).run Try.prog W = .ok (.string (str m)) W from run_str (hR.kept hb))
  have hm300 : m.length ≤ 300 := by omega
  have HLY := Lib.hid (byL_bytes (k := 0) (m := m) hm)
  by_cases h0 : k = 0
  · have q1 : decide ((0 : Int) < (k : Int)) = false := decide_eq_false (by omega)
    have q1n : decide (0 < k) = false := decide_eq_false (by omega)
    have hm0 : m = [] := List.length_eq_zero_iff.1 (by omega)
    clear hm hml hk1 hk2 h hl h0 hR
    cases kd with
    | true =>
      go_enter Try.func8, Try.ntmps8
      go_upto_region 7 with (fail)
      have hBq := Blk.new w 44 #[.int .i64 0, .int .i64 1, .slice none 0 0]
      have HBX := Lib.hid (show Below w.heap.size w (w.alloc (.cells #[.int .i64 0, .int .i64 1, .slice none 0 0] 44)) from (Below.refl _ w).alloc (Nat.le_refl _) _)
      generalize w.alloc _ = W6 at *
      have m0 := hBq.cell 0
      have m1 := hBq.cell 1
      have m2 := hBq.cell 2
      simp at m0 m1 m2
      have ka : ∀ o, (W6.alloc o).cell? ⟨w.heap.size, 0, none⟩ = some (.int .i64 0) ∧ (W6.alloc o).cell? ⟨w.heap.size, 1, none⟩ = some (.int .i64 1) ∧ (W6.alloc o).cell? ⟨w.heap.size, 2, none⟩ = some (.slice none 0 0) := fun o => ⟨(hBq.alloc o).cell 0, (hBq.alloc o).cell 1, (hBq.alloc o).cell 2⟩
      have kb : ∀ o o', ((W6.alloc o).alloc o').cell? ⟨w.heap.size, 0, none⟩ = some (.int .i64 0) ∧ ((W6.alloc o).alloc o').cell? ⟨w.heap.size, 1, none⟩ = some (.int .i64 1) ∧ ((W6.alloc o).alloc o').cell? ⟨w.heap.size, 2, none⟩ = some (.slice none 0 0) := fun o o' => ⟨((hBq.alloc o).alloc o').cell 0, ((hBq.alloc o).alloc o').cell 1, ((hBq.alloc o).alloc o').cell 2⟩
      have ka0 := fun o => (ka o).1
      have ka1 := fun o => (ka o).2.1
      have ka2 := fun o => (ka o).2.2
      have kb0 := fun o o' => (kb o o').1
      have kb1 := fun o o' => (kb o o').2.1
      have kb2 := fun o o' => (kb o o').2.2
      clear ka kb
      have hcv := HC1.out W6 HBX.out
      have HPW : Hid (Prts all W6 (.slice none 0 0) (byW 1 m).parts) := Lib.hid (by rw [hm0]; exact SlI.nil none 0)
      clear hBq
      obtain ⟨l', ha1, ha2, ha3⟩ := back_of (byL_ok (k := 1) (m := m) (.inl rfl)) (byL_bytes 1 HM.out) (by have := byL_weight 1 m; omega)
      have HFL := Lib.hid (fit_of (l := byL 1 m) (by have := byL_weight 1 m; omega) (byL_bytes 1 HM.out))
      have HFL2 := Lib.hid ha3
      have HSA := Lib.hid ha2
      have hpl : (printT (byL 1 m)).length ≤ 1048576 := by have := printT_len (byL 1 m); have := byL_weight 1 m; omega
      have HPT : Hid (∀ W, Calls Try.prog 11 #[.string (str (printT (byL 1 m)))] W fun r w' => ∃ v, r = .returned (.tuple #[v, .int .i64 0, .int .i64 0]) ∧ Cmds all w' v l' ∧ Below W.heap.size W w') := Lib.hid (fun W => by
        refine (Parse_is (w := W) _ (printT_bytes (byL_bytes 1 HM.out)) hpl).mono ?_
        rintro r w' ⟨v, hr, hc, hb⟩
        rw [ha1] at hr hc
        exact ⟨v, hr, hc, hb⟩)
      have hcat : (⟨#[49]⟩ : ByteArray) ++ str m = str (49 :: m) := str_app [49] m
      have hz : (⟨#[49]⟩ : ByteArray).size + (str m).size ≤ 9223372036854775807 := by rw [str_len]; show 1 + m.length ≤ _; omega
      obtain ⟨hB4, hb1, hb2, hb3, hb4⟩ := four_blocks W6 #[.bool true, .string (str [120]), .bool false, .string (str (49 :: m))] #[.int .i64 0, .int .i64 1, .slice none 0 0, .int .i64 0, .int .i64 0, .slice (some ⟨W6.heap.size, 0, none⟩) 2 2, .int .i64 0, .int .i64 1, .slice none 0 0] #[.int .i64 0, .int .i64 1, .slice none 0 0] #[.int .i64 0, .slice (some ⟨W6.heap.size + 1, 0, none⟩) 3 3, .int .i64 0, .slice (some ⟨W6.heap.size + 2, 0, none⟩) 1 1] 47 44 44 39
      have HCM := Lib.hid (byL_read (W6.heap.size + 3) (SlI.below prt_ok HPW.out hB4) hb1 hb2 hb3 hb4)
      have HPR := Lib.hid (print_known HCM.out ⟨by have := byL_weight 1 m; omega, byL_bytes 1 HM.out⟩ (byL_ok (.inl rfl)))
      have HB4 := Lib.hid (HBX.out.trans (hB4.mono HBX.out.size))
      clear ha1 ha2 ha3 hpl hB4 hb1 hb2 hb3 hb4
      have s120 : str [120] = ⟨#[120]⟩ := rfl
      rw [s120] at HCM HPR HB4
      clear s120
      generalize str (49 :: m) = sq at *
      generalize str (printT (byL 1 m)) = sp at *
      generalize str m = sm at *
      go_wp2_with fail
      generalize World.alloc (World.alloc (World.alloc (World.alloc W6 _) _) _) _ = W7 at *
      refine HPR.out.mono ?_
      rintro e w8 ⟨rfl, hb8⟩
      have X8 := Lib.hid (And.intro (SlI.below cmd_ok HCM.out hb8) (HB4.out.trans (hb8.mono HB4.out.size)))
      clear hb8
      go_wp2_with fail
      refine (HPT.out w8).mono ?_
      rintro e w9 ⟨v9, rfl, hc9, hb9⟩
      have X9 := Lib.hid (And.intro (SlI.below cmd_ok X8.out.1 hb9) (And.intro hc9 (X8.out.2.trans (hb9.mono X8.out.2.size))))
      clear hc9 hb9
      go_wp2_with fail
      refine (alive_true w9).mono ?_
      rintro e wa ⟨rfl, hba⟩
      have XA := Lib.hid (And.intro (SlI.below cmd_ok X9.out.1 hba) (And.intro (SlI.below cmd_ok X9.out.2.1 hba) (X9.out.2.2.trans (hba.mono X9.out.2.2.size))))
      clear hba
      go_wp2_with fail
      refine (RSame_is (byL 1 m) l' XA.out.1 XA.out.2.1 HFL.out HFL2.out).mono ?_
      intro e wb hbb
      obtain ⟨rfl, hbc⟩ := hbb.yes HSA.out
      have XB := Lib.hid (XA.out.2.2.trans (hbc.mono XA.out.2.2.size))
      clear hbb hbc
      go_wp2_with fail
      go_ret
      exact ⟨rfl, XB.out⟩
    | false =>
      go_enter Try.func8, Try.ntmps8
      go_upto_region 7 with (fail)
      have hBq := Blk.new w 44 #[.int .i64 0, .int .i64 1, .slice none 0 0]
      have HBX := Lib.hid (show Below w.heap.size w (w.alloc (.cells #[.int .i64 0, .int .i64 1, .slice none 0 0] 44)) from (Below.refl _ w).alloc (Nat.le_refl _) _)
      generalize w.alloc _ = W6 at *
      have m0 := hBq.cell 0
      have m1 := hBq.cell 1
      have m2 := hBq.cell 2
      simp at m0 m1 m2
      have ka : ∀ o, (W6.alloc o).cell? ⟨w.heap.size, 0, none⟩ = some (.int .i64 0) ∧ (W6.alloc o).cell? ⟨w.heap.size, 1, none⟩ = some (.int .i64 1) ∧ (W6.alloc o).cell? ⟨w.heap.size, 2, none⟩ = some (.slice none 0 0) := fun o => ⟨(hBq.alloc o).cell 0, (hBq.alloc o).cell 1, (hBq.alloc o).cell 2⟩
      have kb : ∀ o o', ((W6.alloc o).alloc o').cell? ⟨w.heap.size, 0, none⟩ = some (.int .i64 0) ∧ ((W6.alloc o).alloc o').cell? ⟨w.heap.size, 1, none⟩ = some (.int .i64 1) ∧ ((W6.alloc o).alloc o').cell? ⟨w.heap.size, 2, none⟩ = some (.slice none 0 0) := fun o o' => ⟨((hBq.alloc o).alloc o').cell 0, ((hBq.alloc o).alloc o').cell 1, ((hBq.alloc o).alloc o').cell 2⟩
      have ka0 := fun o => (ka o).1
      have ka1 := fun o => (ka o).2.1
      have ka2 := fun o => (ka o).2.2
      have kb0 := fun o o' => (kb o o').1
      have kb1 := fun o o' => (kb o o').2.1
      have kb2 := fun o o' => (kb o o').2.2
      clear ka kb
      have hcv := HC1.out W6 HBX.out
      have HPW : Hid (Prts all W6 (.slice none 0 0) (byW 1 m).parts) := Lib.hid (by rw [hm0]; exact SlI.nil none 0)
      clear hBq
      obtain ⟨l', ha1, ha2, ha3⟩ := back_of (byL_ok (k := 1) (m := m) (.inl rfl)) (byL_bytes 1 HM.out) (by have := byL_weight 1 m; omega)
      have HFL := Lib.hid (fit_of (l := byL 1 m) (by have := byL_weight 1 m; omega) (byL_bytes 1 HM.out))
      have HFL2 := Lib.hid ha3
      have HSA := Lib.hid ha2
      have hpl : (printT (byL 1 m)).length ≤ 1048576 := by have := printT_len (byL 1 m); have := byL_weight 1 m; omega
      have HPT : Hid (∀ W, Calls Try.prog 11 #[.string (str (printT (byL 1 m)))] W fun r w' => ∃ v, r = .returned (.tuple #[v, .int .i64 0, .int .i64 0]) ∧ Cmds all w' v l' ∧ Below W.heap.size W w') := Lib.hid (fun W => by
        refine (Parse_is (w := W) _ (printT_bytes (byL_bytes 1 HM.out)) hpl).mono ?_
        rintro r w' ⟨v, hr, hc, hb⟩
        rw [ha1] at hr hc
        exact ⟨v, hr, hc, hb⟩)
      have hcat : (⟨#[49]⟩ : ByteArray) ++ str m = str (49 :: m) := str_app [49] m
      have hz : (⟨#[49]⟩ : ByteArray).size + (str m).size ≤ 9223372036854775807 := by rw [str_len]; show 1 + m.length ≤ _; omega
      obtain ⟨hB4, hb1, hb2, hb3, hb4⟩ := four_blocks W6 #[.bool true, .string (str [120]), .bool false, .string (str (49 :: m))] #[.int .i64 0, .int .i64 1, .slice none 0 0, .int .i64 0, .int .i64 0, .slice (some ⟨W6.heap.size, 0, none⟩) 2 2, .int .i64 0, .int .i64 1, .slice none 0 0] #[.int .i64 0, .int .i64 1, .slice none 0 0] #[.int .i64 0, .slice (some ⟨W6.heap.size + 1, 0, none⟩) 3 3, .int .i64 0, .slice (some ⟨W6.heap.size + 2, 0, none⟩) 1 1] 47 44 44 39
      have HCM := Lib.hid (byL_read (W6.heap.size + 3) (SlI.below prt_ok HPW.out hB4) hb1 hb2 hb3 hb4)
      have HPR := Lib.hid (print_known HCM.out ⟨by have := byL_weight 1 m; omega, byL_bytes 1 HM.out⟩ (byL_ok (.inl rfl)))
      have HB4 := Lib.hid (HBX.out.trans (hB4.mono HBX.out.size))
      clear ha1 ha2 ha3 hpl hB4 hb1 hb2 hb3 hb4
      have s120 : str [120] = ⟨#[120]⟩ := rfl
      rw [s120] at HCM HPR HB4
      clear s120
      generalize str (49 :: m) = sq at *
      generalize str (printT (byL 1 m)) = sp at *
      generalize str m = sm at *
      go_wp2_with fail
      generalize World.alloc (World.alloc (World.alloc (World.alloc W6 _) _) _) _ = W7 at *
      refine HPR.out.mono ?_
      rintro e w8 ⟨rfl, hb8⟩
      have X8 := Lib.hid (And.intro (SlI.below cmd_ok HCM.out hb8) (HB4.out.trans (hb8.mono HB4.out.size)))
      clear hb8
      go_wp2_with fail
      refine (HPT.out w8).mono ?_
      rintro e w9 ⟨v9, rfl, hc9, hb9⟩
      have X9 := Lib.hid (And.intro (SlI.below cmd_ok X8.out.1 hb9) (And.intro hc9 (X8.out.2.trans (hb9.mono X8.out.2.size))))
      clear hc9 hb9
      go_wp2_with fail
      refine (alive_true w9).mono ?_
      rintro e wa ⟨rfl, hba⟩
      have XA := Lib.hid (And.intro (SlI.below cmd_ok X9.out.1 hba) (And.intro (SlI.below cmd_ok X9.out.2.1 hba) (X9.out.2.2.trans (hba.mono X9.out.2.2.size))))
      clear hba
      go_wp2_with fail
      refine (RSame_is (byL 1 m) l' XA.out.1 XA.out.2.1 HFL.out HFL2.out).mono ?_
      intro e wb hbb
      obtain ⟨rfl, hbc⟩ := hbb.yes HSA.out
      have XB := Lib.hid (XA.out.2.2.trans (hbc.mono XA.out.2.2.size))
      clear hbb hbc
      go_wp2_with fail
      go_ret
      exact ⟨rfl, XB.out⟩
  · have q1 : decide ((0 : Int) < (k : Int)) = true := decide_eq_true (by omega)
    have q1n : decide (0 < k) = true := decide_eq_true (by omega)
    have HNE := Lib.hid (show m ≠ [] from fun e => h0 (by rw [e] at hml; simpa using hml.symm))
    clear hm hml hk1 hk2 h hl h0 hR
    cases kd with
    | true =>
      go_enter Try.func8, Try.ntmps8
      go_upto_region 6 with (fail)
      have hBq := Blk.new w 44 #[.int .i64 0, .int .i64 0, .slice none 0 0]
      have HBW := Lib.hid (show Below w.heap.size w (w.alloc (.cells #[.int .i64 0, .int .i64 0, .slice none 0 0] 44)) from (Below.refl _ w).alloc (Nat.le_refl _) _)
      generalize w.alloc _ = w1 at *
      have m2 := hBq.cell 2
      have f2 := hBq.frozen 2
      simp at m2
      have hcv := HC1.out w1 HBW.out
      have hlt := hBq.lt
      have hszq : (w1.setCell ⟨w.heap.size, 2, none⟩ (.slice (some ⟨w1.heap.size, 0, none⟩) 1 1)).heap.size = w1.heap.size := by simp [World.setCell]
      have hBp := Blk.new (w1.setCell ⟨w.heap.size, 2, none⟩ (.slice (some ⟨w1.heap.size, 0, none⟩) 1 1)) 47 #[.bool false, .string (str m)]
      rw [hszq] at hBp
      have HPP := Lib.hid hBp
      have HPQ := Lib.hid ((hBq.set_ 2 (.slice (some ⟨w1.heap.size, 0, none⟩) 1 1)).alloc (.cells #[.bool false, .string (str m)] 47))
      have HBX := Lib.hid ((HBW.out.setCell (p := ⟨w.heap.size, 2, none⟩) (Nat.le_refl _) (.slice (some ⟨w1.heap.size, 0, none⟩) 1 1)).alloc (by rw [hszq]; exact HBW.out.size) (.cells #[.bool false, .string (str m)] 47))
      have ka : ∀ o, (w1.alloc o).cell? ⟨w.heap.size, 2, none⟩ = some (.slice none 0 0) ∧ (w1.alloc o).frozen? ⟨w.heap.size, 2, none⟩ = false := fun o => ⟨(hBq.alloc o).cell 2, (hBq.alloc o).frozen 2⟩
      have ka1 := fun o => (ka o).1
      have ka2 := fun o => (ka o).2
      clear hszq hBp hBq ka m2 f2
      go_upto_region 7 with (fail)
      clear ka1 ka2
      generalize World.alloc (World.setCell w1 _ _) _ = W6 at *
      generalize hp1 : w1.heap.size = p1 at *
      have m0 := HPQ.out.cell 0
      have m1 := HPQ.out.cell 1
      have m2 := HPQ.out.cell 2
      simp at m0 m1 m2
      have ka : ∀ o, (W6.alloc o).cell? ⟨w.heap.size, 0, none⟩ = some (.int .i64 0) ∧ (W6.alloc o).cell? ⟨w.heap.size, 1, none⟩ = some (.int .i64 0) ∧ (W6.alloc o).cell? ⟨w.heap.size, 2, none⟩ = some (.slice (some ⟨p1, 0, none⟩) 1 1) := fun o => ⟨(HPQ.out.alloc o).cell 0, (HPQ.out.alloc o).cell 1, (HPQ.out.alloc o).cell 2⟩
      have kb : ∀ o o', ((W6.alloc o).alloc o').cell? ⟨w.heap.size, 0, none⟩ = some (.int .i64 0) ∧ ((W6.alloc o).alloc o').cell? ⟨w.heap.size, 1, none⟩ = some (.int .i64 0) ∧ ((W6.alloc o).alloc o').cell? ⟨w.heap.size, 2, none⟩ = some (.slice (some ⟨p1, 0, none⟩) 1 1) := fun o o' => ⟨((HPQ.out.alloc o).alloc o').cell 0, ((HPQ.out.alloc o).alloc o').cell 1, ((HPQ.out.alloc o).alloc o').cell 2⟩
      have ka0 := fun o => (ka o).1
      have ka1 := fun o => (ka o).2.1
      have ka2 := fun o => (ka o).2.2
      have kb0 := fun o o' => (kb o o').1
      have kb1 := fun o o' => (kb o o').2.1
      have kb2 := fun o o' => (kb o o').2.2
      clear ka kb
      have hcv2 := HC1.out W6 HBX.out
      have HPW : Hid (Prts all W6 (.slice (some ⟨p1, 0, none⟩) 1 1) (byW 0 m).parts) := Lib.hid (by
        show Prts all W6 _ (if m = [] then [] else [⟨false, m⟩])
        rw [if_neg HNE.out]
        refine ⟨_, 1, rfl, by simp, fun _ => ⟨p1, 0, rfl, trivial, fun j x hj => ?_⟩⟩
        cases j with
        | succ j => simp at hj
        | zero =>
          simp at hj
          subst hj
          exact ⟨HPP.out.cell 0, HPP.out.cell 1⟩)
      clear hcv
      obtain ⟨l', ha1, ha2, ha3⟩ := back_of (byL_ok (k := 0) (m := m) (.inr ⟨rfl, HNE.out⟩)) (byL_bytes 0 HM.out) (by have := byL_weight 0 m; omega)
      have HFL := Lib.hid (fit_of (l := byL 0 m) (by have := byL_weight 0 m; omega) (byL_bytes 0 HM.out))
      have HFL2 := Lib.hid ha3
      have HSA := Lib.hid ha2
      have hpl : (printT (byL 0 m)).length ≤ 1048576 := by have := printT_len (byL 0 m); have := byL_weight 0 m; omega
      have HPT : Hid (∀ W, Calls Try.prog 11 #[.string (str (printT (byL 0 m)))] W fun r w' => ∃ v, r = .returned (.tuple #[v, .int .i64 0, .int .i64 0]) ∧ Cmds all w' v l' ∧ Below W.heap.size W w') := Lib.hid (fun W => by
        refine (Parse_is (w := W) _ (printT_bytes (byL_bytes 0 HM.out)) hpl).mono ?_
        rintro r w' ⟨v, hr, hc, hb⟩
        rw [ha1] at hr hc
        exact ⟨v, hr, hc, hb⟩)
      have hcat : (⟨#[49]⟩ : ByteArray) ++ str m = str (49 :: m) := str_app [49] m
      have hz : (⟨#[49]⟩ : ByteArray).size + (str m).size ≤ 9223372036854775807 := by rw [str_len]; show 1 + m.length ≤ _; omega
      obtain ⟨hB4, hb1, hb2, hb3, hb4⟩ := four_blocks W6 #[.bool true, .string (str [120]), .bool false, .string (str (49 :: m))] #[.int .i64 0, .int .i64 0, .slice (some ⟨p1, 0, none⟩) 1 1, .int .i64 0, .int .i64 0, .slice (some ⟨W6.heap.size, 0, none⟩) 2 2, .int .i64 0, .int .i64 0, .slice (some ⟨p1, 0, none⟩) 1 1] #[.int .i64 0, .int .i64 0, .slice (some ⟨p1, 0, none⟩) 1 1] #[.int .i64 0, .slice (some ⟨W6.heap.size + 1, 0, none⟩) 3 3, .int .i64 0, .slice (some ⟨W6.heap.size + 2, 0, none⟩) 1 1] 47 44 44 39
      have HCM := Lib.hid (byL_read (W6.heap.size + 3) (SlI.below prt_ok HPW.out hB4) hb1 hb2 hb3 hb4)
      have HPR := Lib.hid (print_known HCM.out ⟨by have := byL_weight 0 m; omega, byL_bytes 0 HM.out⟩ (byL_ok (.inr ⟨rfl, HNE.out⟩)))
      have HB4 := Lib.hid (HBX.out.trans (hB4.mono HBX.out.size))
      clear ha1 ha2 ha3 hpl hB4 hb1 hb2 hb3 hb4
      have s120 : str [120] = ⟨#[120]⟩ := rfl
      rw [s120] at HCM HPR HB4
      clear s120
      generalize str (49 :: m) = sq at *
      generalize str (printT (byL 0 m)) = sp at *
      generalize str m = sm at *
      go_wp2_with fail
      generalize World.alloc (World.alloc (World.alloc (World.alloc W6 _) _) _) _ = W7 at *
      refine HPR.out.mono ?_
      rintro e w8 ⟨rfl, hb8⟩
      have X8 := Lib.hid (And.intro (SlI.below cmd_ok HCM.out hb8) (HB4.out.trans (hb8.mono HB4.out.size)))
      clear hb8
      go_wp2_with fail
      refine (HPT.out w8).mono ?_
      rintro e w9 ⟨v9, rfl, hc9, hb9⟩
      have X9 := Lib.hid (And.intro (SlI.below cmd_ok X8.out.1 hb9) (And.intro hc9 (X8.out.2.trans (hb9.mono X8.out.2.size))))
      clear hc9 hb9
      go_wp2_with fail
      refine (alive_true w9).mono ?_
      rintro e wa ⟨rfl, hba⟩
      have XA := Lib.hid (And.intro (SlI.below cmd_ok X9.out.1 hba) (And.intro (SlI.below cmd_ok X9.out.2.1 hba) (X9.out.2.2.trans (hba.mono X9.out.2.2.size))))
      clear hba
      go_wp2_with fail
      refine (RSame_is (byL 0 m) l' XA.out.1 XA.out.2.1 HFL.out HFL2.out).mono ?_
      intro e wb hbb
      obtain ⟨rfl, hbc⟩ := hbb.yes HSA.out
      have XB := Lib.hid (XA.out.2.2.trans (hbc.mono XA.out.2.2.size))
      clear hbb hbc
      go_wp2_with fail
      go_ret
      exact ⟨rfl, XB.out⟩
    | false =>
      go_enter Try.func8, Try.ntmps8
      go_upto_region 6 with (fail)
      have hBq := Blk.new w 44 #[.int .i64 0, .int .i64 1, .slice none 0 0]
      have HBW := Lib.hid (show Below w.heap.size w (w.alloc (.cells #[.int .i64 0, .int .i64 1, .slice none 0 0] 44)) from (Below.refl _ w).alloc (Nat.le_refl _) _)
      generalize w.alloc _ = w1 at *
      have m2 := hBq.cell 2
      have f2 := hBq.frozen 2
      simp at m2
      have hcv := HC1.out w1 HBW.out
      have hlt := hBq.lt
      have hszq : (w1.setCell ⟨w.heap.size, 2, none⟩ (.slice (some ⟨w1.heap.size, 0, none⟩) 1 1)).heap.size = w1.heap.size := by simp [World.setCell]
      have hBp := Blk.new (w1.setCell ⟨w.heap.size, 2, none⟩ (.slice (some ⟨w1.heap.size, 0, none⟩) 1 1)) 47 #[.bool false, .string (str m)]
      rw [hszq] at hBp
      have HPP := Lib.hid hBp
      have HPQ := Lib.hid ((hBq.set_ 2 (.slice (some ⟨w1.heap.size, 0, none⟩) 1 1)).alloc (.cells #[.bool false, .string (str m)] 47))
      have HBX := Lib.hid ((HBW.out.setCell (p := ⟨w.heap.size, 2, none⟩) (Nat.le_refl _) (.slice (some ⟨w1.heap.size, 0, none⟩) 1 1)).alloc (by rw [hszq]; exact HBW.out.size) (.cells #[.bool false, .string (str m)] 47))
      have ka : ∀ o, (w1.alloc o).cell? ⟨w.heap.size, 2, none⟩ = some (.slice none 0 0) ∧ (w1.alloc o).frozen? ⟨w.heap.size, 2, none⟩ = false := fun o => ⟨(hBq.alloc o).cell 2, (hBq.alloc o).frozen 2⟩
      have ka1 := fun o => (ka o).1
      have ka2 := fun o => (ka o).2
      clear hszq hBp hBq ka m2 f2
      go_upto_region 7 with (fail)
      clear ka1 ka2
      generalize World.alloc (World.setCell w1 _ _) _ = W6 at *
      generalize hp1 : w1.heap.size = p1 at *
      have m0 := HPQ.out.cell 0
      have m1 := HPQ.out.cell 1
      have m2 := HPQ.out.cell 2
      simp at m0 m1 m2
      have ka : ∀ o, (W6.alloc o).cell? ⟨w.heap.size, 0, none⟩ = some (.int .i64 0) ∧ (W6.alloc o).cell? ⟨w.heap.size, 1, none⟩ = some (.int .i64 1) ∧ (W6.alloc o).cell? ⟨w.heap.size, 2, none⟩ = some (.slice (some ⟨p1, 0, none⟩) 1 1) := fun o => ⟨(HPQ.out.alloc o).cell 0, (HPQ.out.alloc o).cell 1, (HPQ.out.alloc o).cell 2⟩
      have kb : ∀ o o', ((W6.alloc o).alloc o').cell? ⟨w.heap.size, 0, none⟩ = some (.int .i64 0) ∧ ((W6.alloc o).alloc o').cell? ⟨w.heap.size, 1, none⟩ = some (.int .i64 1) ∧ ((W6.alloc o).alloc o').cell? ⟨w.heap.size, 2, none⟩ = some (.slice (some ⟨p1, 0, none⟩) 1 1) := fun o o' => ⟨((HPQ.out.alloc o).alloc o').cell 0, ((HPQ.out.alloc o).alloc o').cell 1, ((HPQ.out.alloc o).alloc o').cell 2⟩
      have ka0 := fun o => (ka o).1
      have ka1 := fun o => (ka o).2.1
      have ka2 := fun o => (ka o).2.2
      have kb0 := fun o o' => (kb o o').1
      have kb1 := fun o o' => (kb o o').2.1
      have kb2 := fun o o' => (kb o o').2.2
      clear ka kb
      have hcv2 := HC1.out W6 HBX.out
      have HPW : Hid (Prts all W6 (.slice (some ⟨p1, 0, none⟩) 1 1) (byW 1 m).parts) := Lib.hid (by
        show Prts all W6 _ (if m = [] then [] else [⟨false, m⟩])
        rw [if_neg HNE.out]
        refine ⟨_, 1, rfl, by simp, fun _ => ⟨p1, 0, rfl, trivial, fun j x hj => ?_⟩⟩
        cases j with
        | succ j => simp at hj
        | zero =>
          simp at hj
          subst hj
          exact ⟨HPP.out.cell 0, HPP.out.cell 1⟩)
      clear hcv
      obtain ⟨l', ha1, ha2, ha3⟩ := back_of (byL_ok (k := 1) (m := m) (.inl rfl)) (byL_bytes 1 HM.out) (by have := byL_weight 1 m; omega)
      have HFL := Lib.hid (fit_of (l := byL 1 m) (by have := byL_weight 1 m; omega) (byL_bytes 1 HM.out))
      have HFL2 := Lib.hid ha3
      have HSA := Lib.hid ha2
      have hpl : (printT (byL 1 m)).length ≤ 1048576 := by have := printT_len (byL 1 m); have := byL_weight 1 m; omega
      have HPT : Hid (∀ W, Calls Try.prog 11 #[.string (str (printT (byL 1 m)))] W fun r w' => ∃ v, r = .returned (.tuple #[v, .int .i64 0, .int .i64 0]) ∧ Cmds all w' v l' ∧ Below W.heap.size W w') := Lib.hid (fun W => by
        refine (Parse_is (w := W) _ (printT_bytes (byL_bytes 1 HM.out)) hpl).mono ?_
        rintro r w' ⟨v, hr, hc, hb⟩
        rw [ha1] at hr hc
        exact ⟨v, hr, hc, hb⟩)
      have hcat : (⟨#[49]⟩ : ByteArray) ++ str m = str (49 :: m) := str_app [49] m
      have hz : (⟨#[49]⟩ : ByteArray).size + (str m).size ≤ 9223372036854775807 := by rw [str_len]; show 1 + m.length ≤ _; omega
      obtain ⟨hB4, hb1, hb2, hb3, hb4⟩ := four_blocks W6 #[.bool true, .string (str [120]), .bool false, .string (str (49 :: m))] #[.int .i64 0, .int .i64 1, .slice (some ⟨p1, 0, none⟩) 1 1, .int .i64 0, .int .i64 0, .slice (some ⟨W6.heap.size, 0, none⟩) 2 2, .int .i64 0, .int .i64 1, .slice (some ⟨p1, 0, none⟩) 1 1] #[.int .i64 0, .int .i64 1, .slice (some ⟨p1, 0, none⟩) 1 1] #[.int .i64 0, .slice (some ⟨W6.heap.size + 1, 0, none⟩) 3 3, .int .i64 0, .slice (some ⟨W6.heap.size + 2, 0, none⟩) 1 1] 47 44 44 39
      have HCM := Lib.hid (byL_read (W6.heap.size + 3) (SlI.below prt_ok HPW.out hB4) hb1 hb2 hb3 hb4)
      have HPR := Lib.hid (print_known HCM.out ⟨by have := byL_weight 1 m; omega, byL_bytes 1 HM.out⟩ (byL_ok (.inl rfl)))
      have HB4 := Lib.hid (HBX.out.trans (hB4.mono HBX.out.size))
      clear ha1 ha2 ha3 hpl hB4 hb1 hb2 hb3 hb4
      have s120 : str [120] = ⟨#[120]⟩ := rfl
      rw [s120] at HCM HPR HB4
      clear s120
      generalize str (49 :: m) = sq at *
      generalize str (printT (byL 1 m)) = sp at *
      generalize str m = sm at *
      go_wp2_with fail
      generalize World.alloc (World.alloc (World.alloc (World.alloc W6 _) _) _) _ = W7 at *
      refine HPR.out.mono ?_
      rintro e w8 ⟨rfl, hb8⟩
      have X8 := Lib.hid (And.intro (SlI.below cmd_ok HCM.out hb8) (HB4.out.trans (hb8.mono HB4.out.size)))
      clear hb8
      go_wp2_with fail
      refine (HPT.out w8).mono ?_
      rintro e w9 ⟨v9, rfl, hc9, hb9⟩
      have X9 := Lib.hid (And.intro (SlI.below cmd_ok X8.out.1 hb9) (And.intro hc9 (X8.out.2.trans (hb9.mono X8.out.2.size))))
      clear hc9 hb9
      go_wp2_with fail
      refine (alive_true w9).mono ?_
      rintro e wa ⟨rfl, hba⟩
      have XA := Lib.hid (And.intro (SlI.below cmd_ok X9.out.1 hba) (And.intro (SlI.below cmd_ok X9.out.2.1 hba) (X9.out.2.2.trans (hba.mono X9.out.2.2.size))))
      clear hba
      go_wp2_with fail
      refine (RSame_is (byL 1 m) l' XA.out.1 XA.out.2.1 HFL.out HFL2.out).mono ?_
      intro e wb hbb
      obtain ⟨rfl, hbc⟩ := hbb.yes HSA.out
      have XB := Lib.hid (XA.out.2.2.trans (hbc.mono XA.out.2.2.size))
      clear hbb hbc
      go_wp2_with fail
      go_ret
      exact ⟨rfl, XB.out⟩
end Go.Proofs.Ytphmhglebeapaaa
