/-
  tcl's printer (bytes, parts, word, command) and Print: their contracts.
  Conditions: bytes; what weighs at most 1048576.
-/
import Derived.Test.YtphmhglebeapaaaTwPrn
import Derived.Test.YtphmhglebeapaaaTwWrong
import Derived.Test.YtphmhglebeapaaaTcByt
namespace Go.Proofs.Ytphmhglebeapaaa
open Go.RowKit

/-! ### What is printed, by its beginnings -/
theorem take_mono {α β : Type} (f : List α → List β) (step : ∀ (l : List α) (k : Nat) (x : α), l[k]? = some x → ∃ t, f (l.take (k + 1)) = f (l.take k) ++ t) (l : List α) : ∀ (n k : Nat), l.length - k = n → (f (l.take k)).length ≤ (f l).length
  | 0, k, h => by rw [List.take_of_length_le (by omega)]; exact Nat.le_refl _
  | n + 1, k, h => by
    have hk : k < l.length := by omega
    obtain ⟨t, ht⟩ := step l k _ (List.getElem?_eq_getElem hk)
    have := take_mono f step l n (k + 1) (by omega)
    rw [ht, List.length_append] at this
    omega
theorem partsT_upto (kind : Int) (ps : List Prt) (k : Nat) : (partsT kind false (ps.take k)).length ≤ (partsT kind false ps).length := take_mono _ (fun _ _ _ h => ⟨_, partsT_take kind h⟩) ps _ k rfl
theorem wordsT_upto (ws : List Wrd) (k : Nat) : (wordsT (ws.take k)).length ≤ (wordsT ws).length := take_mono _ (fun _ _ _ h => ⟨_, by rw [wordsT_take h, List.append_assoc]⟩) ws _ k rfl
theorem printT_upto (l : List Cmd) (k : Nat) : (printT (l.take k)).length ≤ (printT l).length := take_mono _ (fun _ _ _ h => ⟨_, by rw [printT_take h, List.append_assoc]⟩) l _ k rfl
/-- A byte as itself, if it is plain and of no kind, else as its Octal. -/
def bT (K : Nat → Bool) (c : Nat) : List Nat := if plain c && !K c then [c] else octs c
theorem bT_tb (kind : Int) (behind : Bool) (c : Nat) : bT (fun c => (decide (kind = 0) && blankB c) || (behind && nameB c)) c = tb kind behind c := by
  unfold bT tb
  simp only [Bool.not_or, Bool.and_assoc]
theorem bT_tb0 (kind : Int) (c : Nat) : bT (fun c => decide (kind = 0) && blankB c) c = tb kind false c := by
  unfold bT tb
  simp
theorem bT_len (K : Nat → Bool) (c : Nat) : (bT K c).length ≤ 4 := by
  unfold bT; split <;> simp [octs]
theorem flatB_len (K : Nat → Bool) : ∀ m : List Nat, (m.flatMap (bT K)).length ≤ 4 * m.length
  | [] => by simp
  | c :: m => by rw [List.flatMap_cons, List.length_append, List.length_cons]; have := bT_len K c; have := flatB_len K m; omega
theorem flatB_take (K : Nat → Bool) {m : List Nat} {i c : Nat} (h : m[i]? = some c) : (m.take (i + 1)).flatMap (bT K) = (m.take i).flatMap (bT K) ++ bT K c := by
  have hi := (List.getElem?_eq_some_iff.1 h).1
  rw [List.take_succ_eq_append_getElem hi, (List.getElem?_eq_some_iff.1 h).2, List.flatMap_append]
  simp
theorem octs_bytes {c : Nat} (h : c < 256) : ∀ d ∈ octs c, d < 256 := by
  intro d hd
  simp only [octs, List.mem_cons, List.not_mem_nil, or_false] at hd
  omega

/-! ### Memory -/
theorem Prn.long {w0 w : World} {b : Nat} {g : Option Nat} {l : List Nat} (h : Prn w0 w b g l) : w.cell? ⟨b, 2, none⟩ = some (.bool false) := by
  obtain ⟨p, A, c, h1, _⟩ := h
  rw [h1.cell]; rfl
theorem Prn.old {w0 w : World} {b : Nat} {g : Option Nat} {l : List Nat} (h : Prn w0 w b g l) : w0.heap.size ≤ b ∧ b < w.heap.size := by
  obtain ⟨p, A, c, h1, _, h3, _⟩ := h
  exact ⟨h3, h1.lt⟩
theorem WroteP.step {w0 w w1 : World} {b : Nat} {g : Option Nat} {l : List Nat} (h : WroteP w0 w b g l w1) : ∃ g1, Prn w0 w1 b g1 l ∧ ∀ m w2, WroteP w0 w1 b g1 m w2 → WroteP w0 w b g m w2 := by
  obtain ⟨g1, h1, h2, h3⟩ := h
  refine ⟨g1, h1, fun m w2 ⟨g2, k1, k2, k3⟩ => ⟨g2, k1, h2.trans k2 fun i hi e => ?_, ?_⟩⟩
  · rcases e with e | e
    · exact .inl e
    · rcases h3 with h3 | h3
      · exact .inr (h3 ▸ e)
      · have := h3 i e; omega
  · rcases k3 with k3 | k3
    · rw [k3]; exact h3
    · refine .inr fun k e => ?_
      have := k3 k e
      have := h2.size
      omega
theorem WroteP.from {w0 w w1 w2 : World} {b : Nat} {g : Option Nat} {m : List Nat} (hb : Below w.heap.size w w1) (h : WroteP w0 w1 b g m w2) : WroteP w0 w b g m w2 := by
  obtain ⟨g2, k1, k2, k3⟩ := h
  refine ⟨g2, k1, (Only.of_below hb (Nat.le_refl _) (fun i => i = b ∨ g = some i)).trans k2 fun _ _ h => h, ?_⟩
  rcases k3 with k3 | k3
  · exact .inl k3
  · exact .inr fun k e => Nat.le_trans hb.size (k3 k e)
theorem WroteP.blk {w0 w1 w2 : World} {b q : Nat} {g : Option Nat} {l m : List Nat} {T : TypeId} {cs : Array Value} (hP : Prn w0 w1 b g l) (h : WroteP w0 w1 b g m w2) (hB : Blk w1 q T cs) (hq : q ≠ b) (hT : 5 ≠ T) : Blk w2 q T cs := by
  obtain ⟨_, _, k2, _⟩ := h
  obtain ⟨_, _, _, _, _, _, h4⟩ := hP
  exact hB.only k2 fun e => e.elim hq (h4.1.ne_ hB hT)
set_option maxRecDepth 100000 in
set_option maxHeartbeats 4000000 in
theorem pbytes_is {w0 w : World} {b : Nat} {g : Option Nat} {l : List Nat} (h : Prn w0 w b g l) (m : List Nat) (hm : ∀ d ∈ m, d < 256) (s : ByteArray) (K : Nat → Bool) (hK : HasK s K) (hl : l.length + (m.flatMap (bT K)).length ≤ 16777216) :
    Calls Try.prog 75 #[.pointer (some ⟨b, 0, none⟩), .string (str m), .string s] w fun e w' => e = .returned (.tuple #[]) ∧ WroteP w0 w b g (l ++ m.flatMap (bT K)) w' := by
  have hsz := str_len m
  have HM := Lib.hid hm
  have HK := Lib.hid hK
  have HH := Lib.hid h
  have hml : m.length ≤ (m.flatMap (bT K)).length := by
    clear hm hl hsz HM
    induction m with
    | nil => simp
    | cons c m ih => rw [List.flatMap_cons, List.length_append, List.length_cons]; have : 1 ≤ (bT K c).length := by { unfold bT; split <;> simp [octs] }; omega
  have HML := Lib.hid hl
  have hmb : m.length ≤ 16777216 := by omega
  have HTK := Lib.hid fun k => take_mono (fun t : List Nat => t.flatMap (bT K)) (fun _ _ _ h => ⟨_, flatB_take K h⟩) m _ k rfl
  clear h hm hK hl hml
  go_enter Try.func75, Try.ntmps75
  go_wp2_with fail
  go_loopw [6] (fun iv wr => ∃ i : Nat, i ≤ m.length ∧ iv = .int .i64 (i : Nat) ∧ Hid (WroteP w0 w b g (l ++ (m.take i).flatMap (bT K)) wr)) (fun iv _ => m.length - (intOf iv).toNat)
  case atStart => exact ⟨0, by omega, rfl, Lib.hid (by simpa using WroteP.refl HH.out)⟩
  case round =>
    obtain ⟨i, hi, rfl, HW⟩ := hrel
    obtain ⟨g1, hP, hS⟩ := HW.out.step
    have HP := Lib.hid hP
    have HS := Lib.hid hS
    have kl := hP.long
    clear hP hS
    by_cases hlt : i < m.length
    · have r1 : decide ((i : Int) < (m.length : Int)) = true := decide_eq_true (by omega)
      obtain ⟨c, hc⟩ : ∃ c, m[i]? = some c := ⟨_, List.getElem?_eq_getElem hlt⟩
      obtain ⟨hks, hx⟩ := str_at HM.out hc
      have HC := Lib.hid hc
      have hc256 : c < 256 := HM.out c (List.mem_of_getElem? hc)
      have HPL := Lib.hid fun W => Plain_eq c hc256 W
      have HHK : Hid (∀ W, Calls Try.prog 34 #[.string s, .int .u8 (c : Nat)] W fun e w' => e = .returned (.bool (K c)) ∧ W = w') := Lib.hid fun W => HK.out c hc256 W
      have HST := Lib.hid (flatB_take K hc)
      have HFIT : Hid ((l ++ (m.take i).flatMap (bT K)).length + (bT K c).length ≤ 16777216) := Lib.hid (by
        have h1 := HTK.out (i + 1)
        have h2 := HML.out
        rw [HST.out, List.length_append] at h1
        rw [List.length_append]; omega)
      have HOC := Lib.hid fun W => Octal_is c hc256 W
      have hrun := fun W => run_mid_str m (a := i) (b := i + 1) (by omega) (by omega) W
      have e1 : ((i + 1 : Nat) : Int) = (i : Int) + 1 := by omega
      have hone : (m.take (i + 1)).drop i = [c] := by
        rw [List.take_succ_eq_append_getElem hlt, List.drop_left' (by rw [List.length_take]; omega), (List.getElem?_eq_some_iff.1 hc).2]
      rw [e1, hone] at hrun
      clear hc e1 hone
      cases hpl : plain c with
      | false =>
        rw [hpl] at HPL
        have hbt : bT K c = octs c := by unfold bT; simp [hpl]
        have HBT := Lib.hid hbt
        clear hpl hbt
        go_wp2_with fail
        refine (HPL.out _).mono ?_
        rintro e w1 ⟨rfl, rfl⟩
        go_wp2_with fail
        refine (HOC.out _).mono ?_
        rintro e w1 ⟨rfl, hb1⟩
        have HB1 := Lib.hid hb1
        have HPUT := Lib.hid (put_is (HP.out.below hb1) (octs c) (octs_bytes hc256) (by have := HFIT.out; rw [HBT.out] at this; exact this))
        clear hb1
        go_wp2_with fail
        refine HPUT.out.mono ?_
        rintro e w2 ⟨rfl, hw2⟩
        have HW2 := Lib.hid (HS.out _ _ (WroteP.from HB1.out hw2))
        clear hw2
        go_wp2_with fail
        go_roundw
        case rel => exact ⟨i + 1, by omega, by go_num, Lib.hid (by rw [HST.out, HBT.out, ← List.append_assoc]; exact HW2.out)⟩
        case measure => simp [intOf]; omega
      | true =>
        rw [hpl] at HPL
        cases hkc : K c with
        | true =>
          rw [hkc] at HHK
          have hbt : bT K c = octs c := by unfold bT; simp [hkc]
          have HBT := Lib.hid hbt
          clear hpl hbt hkc
          go_wp2_with fail
          refine (HPL.out _).mono ?_
          rintro e w1 ⟨rfl, rfl⟩
          go_wp2_with fail
          refine (HHK.out _).mono ?_
          rintro e w1 ⟨rfl, rfl⟩
          go_wp2_with fail
          refine (HOC.out _).mono ?_
          rintro e w1 ⟨rfl, hb1⟩
          have HB1 := Lib.hid hb1
          have HPUT := Lib.hid (put_is (HP.out.below hb1) (octs c) (octs_bytes hc256) (by have := HFIT.out; rw [HBT.out] at this; exact this))
          clear hb1
          go_wp2_with fail
          refine HPUT.out.mono ?_
          rintro e w2 ⟨rfl, hw2⟩
          have HW2 := Lib.hid (HS.out _ _ (WroteP.from HB1.out hw2))
          clear hw2
          go_wp2_with fail
          go_roundw
          case rel => exact ⟨i + 1, by omega, by go_num, Lib.hid (by rw [HST.out, HBT.out, ← List.append_assoc]; exact HW2.out)⟩
          case measure => simp [intOf]; omega
        | false =>
          rw [hkc] at HHK
          have hbt : bT K c = [c] := by unfold bT; simp [hpl, hkc]
          have HBT := Lib.hid hbt
          have HPUT := Lib.hid (put_is HP.out [c] (by intro d hd; rw [List.mem_singleton.1 hd]; exact hc256) (by have := HFIT.out; rw [hbt] at this; exact this))
          clear hpl hbt hkc
          go_wp2_with fail
          refine (HPL.out _).mono ?_
          rintro e w1 ⟨rfl, rfl⟩
          go_wp2_with fail
          refine (HHK.out _).mono ?_
          rintro e w1 ⟨rfl, rfl⟩
          go_wp2_with fail
          refine HPUT.out.mono ?_
          rintro e w2 ⟨rfl, hw2⟩
          have HW2 := Lib.hid (HS.out _ _ hw2)
          clear hw2
          go_wp2_with fail
          go_roundw
          case rel => exact ⟨i + 1, by omega, by go_num, Lib.hid (by rw [HST.out, HBT.out, ← List.append_assoc]; exact HW2.out)⟩
          case measure => simp [intOf]; omega
    · have r1 : decide ((i : Int) < (m.length : Int)) = false := decide_eq_false (by omega)
      have r1n : decide (i < m.length) = false := decide_eq_false hlt
      have HE : Hid (m.take i = m) := Lib.hid (List.take_of_length_le (by omega))
      clear hlt
      go_wp2_with fail
      go_end0
      exact ⟨rfl, by have := HW.out; rwa [HE.out] at this⟩

theorem named_has : ∀ {kl : List Nat}, (∀ d ∈ kl, d < 256) → HasK (str kl ++ ⟨#[65, 66, 67, 68, 69, 70, 71, 72, 73, 74, 75, 76, 77, 78, 79, 80, 81, 82, 83, 84, 85, 86, 87, 88, 89, 90, 97, 98, 99, 100, 101, 102, 103, 104, 105, 106, 107, 108, 109, 110, 111, 112, 113, 114, 115, 116, 117, 118, 119, 120, 121, 122, 48, 49, 50, 51, 52, 53, 54, 55, 56, 57, 95]⟩) (fun c => decide (c ∈ kl) || nameB c) := fun {kl} hk => by
  rw [named_data, str_app]
  refine HasK.congr (has_is _ fun d hd => ?_) fun c => ?_
  · rcases List.mem_append.1 hd with h | h
    · exact hk d h
    · have := named_lt d h; omega
  · rw [← named_mem c, Bool.eq_iff_iff]
    simp only [List.mem_append, decide_eq_true_eq, Bool.or_eq_true]
/-- What kinds of bytes a word's kind goes by. -/
structure KindS (kind : Int) (s : ByteArray) : Prop where
  one : HasK s fun c => decide (kind = 0) && blankB c
  two : HasK (s ++ ⟨#[65, 66, 67, 68, 69, 70, 71, 72, 73, 74, 75, 76, 77, 78, 79, 80, 81, 82, 83, 84, 85, 86, 87, 88, 89, 90, 97, 98, 99, 100, 101, 102, 103, 104, 105, 106, 107, 108, 109, 110, 111, 112, 113, 114, 115, 116, 117, 118, 119, 120, 121, 122, 48, 49, 50, 51, 52, 53, 54, 55, 56, 57, 95]⟩) fun c => (decide (kind = 0) && blankB c) || (true && nameB c)
  len : s.size ≤ 2
theorem kind0 : KindS 0 ⟨#[9, 32]⟩ := ⟨HasK.congr has_blanks fun c => by simp, HasK.congr (named_has (kl := [9, 32]) (by simp)) fun c => by rw [Bool.eq_iff_iff]; simp [blankB], by decide⟩
theorem kind1 : KindS 1 ⟨#[]⟩ := ⟨HasK.congr (has_is [] (by simp)) fun c => by simp, HasK.congr (named_has (kl := []) (by simp)) fun c => by simp, by decide⟩
set_option maxRecDepth 100000 in
set_option maxHeartbeats 2000000 in
theorem pparts_is {S : Nat → Prop} {w0 w : World} {b : Nat} {g : Option Nat} {l : List Nat} (h : Prn w0 w b g l) (ps : List Prt) {v : Value} (hx : Prts S w0 v ps) (hb : ∀ p ∈ ps, ∀ c ∈ p.s, c < 256) (hne : ∀ p ∈ ps, p.s ≠ []) (hn : ps.length ≤ 1048576000) (kind : Int) (s : ByteArray) (hK : KindS kind s) (hl : l.length + (partsT kind false ps).length ≤ 16777216) :
    Calls Try.prog 60 #[.pointer (some ⟨b, 0, none⟩), v, .string s] w fun e w' => e = .returned (.tuple #[]) ∧ WroteP w0 w b g (l ++ partsT kind false ps) w' := by
  obtain ⟨A, ca, rfl, hca⟩ := hx.form
  have HX := Lib.hid hx
  have HB := Lib.hid hb
  have HNE := Lib.hid hne
  have HK := Lib.hid hK
  have HH := Lib.hid h
  have HML := Lib.hid hl
  have HTK := Lib.hid fun k => partsT_upto kind ps k
  have hbo := h.old
  clear h hx hb hne hK hl
  go_enter Try.func60, Try.ntmps60
  go_wp2_with fail
  go_loopw [11] (fun iv wr => ∃ i : Nat, i ≤ ps.length ∧ iv = .int .i64 (i : Nat) ∧ Hid (WroteP w0 w b g (l ++ partsT kind false (ps.take i)) wr)) (fun iv _ => ps.length - (intOf iv).toNat)
  case atStart => exact ⟨0, by omega, rfl, Lib.hid (by simpa [partsT] using WroteP.refl HH.out)⟩
  case round =>
    obtain ⟨i, hi, rfl, HW⟩ := hrel
    obtain ⟨g1, hP, hS⟩ := HW.out.step
    have HP := Lib.hid hP
    have HS := Lib.hid hS
    clear hP hS
    by_cases hlt : i < ps.length
    · have r1 : decide ((i : Int) < (ps.length : Int)) = true := decide_eq_true (by omega)
      have i1 : (i : Int) < (ps.length : Int) := by omega
      have HXI := Lib.hid (List.getElem?_eq_getElem hlt)
      have hpb := HB.out _ (List.getElem_mem hlt)
      have hpn := HNE.out _ (List.getElem_mem hlt)
      obtain ⟨b1, o1, rfl, p0, p1⟩ := parts_at (SlI.below prt_ok HX.out HP.out.bel) hlt
      have HST := Lib.hid (partsT_take kind (List.getElem?_eq_getElem hlt))
      generalize ps[i] = p at *
      obtain ⟨pv, t⟩ := p
      dsimp only at *
      have HFIT : Hid ((l ++ partsT kind false (ps.take i)).length + (partT kind (decide (0 < i)) ⟨pv, t⟩).length ≤ 16777216) := Lib.hid (by
        have h1 := HTK.out (i + 1)
        have h2 := HML.out
        rw [HST.out, List.length_append] at h1
        rw [List.length_append]; omega)
      obtain ⟨q, hq⟩ : ∃ q, q = wr.heap.size := ⟨_, rfl⟩
      have hbq : b < q := by have := HP.out.old.2; omega
      have hB0 := Blk.new wr 47 #[.bool pv, .string (str t)]
      have hb0 : Below wr.heap.size wr (wr.alloc (.cells #[.bool pv, .string (str t)] 47)) := (Below.refl _ wr).alloc (Nat.le_refl _) _
      rw [← hq] at hB0
      have HB0 := Lib.hid hB0
      have HBW := Lib.hid hb0
      have HP0 := Lib.hid (HP.out.below hb0)
      have HQ := Lib.hid hq
      have HTB := Lib.hid hpb
      clear hB0 hb0 hq hpb
      cases pv with
      | true =>
        have HPT : Hid (partT kind (decide (0 < i)) ⟨true, t⟩ = 36 :: t) := Lib.hid rfl
        have hfit := HFIT.out
        rw [HPT.out, List.length_cons] at hfit
        have HPU1 := Lib.hid (put_is HP0.out [36] (by simp) (by simp; simp at hfit; omega))
        clear hfit hpn
        go_wp2_with fail
        generalize World.alloc wr _ = w1 at *
        rw [← HQ.out]
        refine HPU1.out.mono ?_
        rintro e w2 ⟨rfl, hw2⟩
        have hB2 := WroteP.blk HP0.out hw2 HB0.out (by omega) (by decide)
        obtain ⟨g2, hP2, hS2⟩ := hw2.step
        have HS2 := Lib.hid hS2
        have HPU2 := Lib.hid (put_is hP2 t HTB.out (by have := HFIT.out; rw [HPT.out, List.length_cons] at this; rw [List.length_append, List.length_singleton]; omega))
        have k1 : w2.cell? ⟨q, 1, none⟩ = some (.string (str t)) := by rw [hB2.cell]; rfl
        clear hw2 hB2 hP2 hS2
        go_wp2_with fail
        refine HPU2.out.mono ?_
        rintro e w3 ⟨rfl, hw3⟩
        have HW3 := Lib.hid (HS.out _ _ (WroteP.from HBW.out (HS2.out _ _ hw3)))
        clear hw3
        go_wp2_with fail
        go_roundw
        case rel => exact ⟨i + 1, by omega, by go_num, Lib.hid (by
          have := HW3.out
          rw [HST.out, HPT.out]
          simpa using this)⟩
        case measure => simp [intOf]; omega
      | false =>
        obtain ⟨c, t', rfl⟩ : ∃ c t', t = c :: t' := by
          cases t with
          | nil => exact absurd rfl hpn
          | cons c t' => exact ⟨c, t', rfl⟩
        have HPT : Hid (partT kind (decide (0 < i)) ⟨false, c :: t'⟩ = tb kind (decide (0 < i)) c ++ t'.flatMap (tb kind false)) := Lib.hid rfl
        have hc256 : c < 256 := HTB.out c (by simp)
        have HT' : Hid (∀ d ∈ t', d < 256) := Lib.hid fun d hd => HTB.out d (List.mem_cons_of_mem _ hd)
        have hr1 : ∀ W, (Instr.slice 9 (.string (str (c :: t'))) none (some (.int .i64 1)) none).run Try.prog W = .ok (.string (str [c])) W := fun W => run_till_str (c :: t') 1 (by simp) W
        have hr2 : ∀ W, (Instr.slice 9 (.string (str (c :: t'))) (some (.int .i64 1)) none none).run Try.prog W = .ok (.string (str t')) W := fun W => run_from_str (c :: t') 1 (by simp) W
        have hsz1 : s.size + (⟨#[65, 66, 67, 68, 69, 70, 71, 72, 73, 74, 75, 76, 77, 78, 79, 80, 81, 82, 83, 84, 85, 86, 87, 88, 89, 90, 97, 98, 99, 100, 101, 102, 103, 104, 105, 106, 107, 108, 109, 110, 111, 112, 113, 114, 115, 116, 117, 118, 119, 120, 121, 122, 48, 49, 50, 51, 52, 53, 54, 55, 56, 57, 95]⟩ : ByteArray).size ≤ 9223372036854775807 := by have := HK.out.len; show s.size + 63 ≤ _; omega
        have hsz2 : s.size + 63 ≤ 9223372036854775807 := by have := HK.out.len; omega
        have hsz3 : (9223372036854775807 < s.size + 63) = False := eq_false (by omega)
        have HF1 : ∀ (K : Nat → Bool), bT K c = tb kind (decide (0 < i)) c → Hid ((l ++ partsT kind false (ps.take i)).length + ([c].flatMap (bT K)).length ≤ 16777216) := fun K hK => Lib.hid (by
          have := HFIT.out
          rw [HPT.out] at this
          simp only [List.length_append] at this
          simp only [List.flatMap_cons, List.flatMap_nil, List.append_nil, hK, List.length_append]; omega)
        have HFL : Hid (t'.flatMap (bT fun c => decide (kind = 0) && blankB c) = t'.flatMap (tb kind false)) := Lib.hid (by
          have : (bT fun c => decide (kind = 0) && blankB c) = tb kind false := funext fun c => bT_tb0 kind c
          rw [this])
        generalize hs2 : s ++ (⟨#[65, 66, 67, 68, 69, 70, 71, 72, 73, 74, 75, 76, 77, 78, 79, 80, 81, 82, 83, 84, 85, 86, 87, 88, 89, 90, 97, 98, 99, 100, 101, 102, 103, 104, 105, 106, 107, 108, 109, 110, 111, 112, 113, 114, 115, 116, 117, 118, 119, 120, 121, 122, 48, 49, 50, 51, 52, 53, 54, 55, 56, 57, 95]⟩ : ByteArray) = s2 at *
        clear hpn
        by_cases h0 : 0 < i
        · have q1 : decide ((0 : Int) < (i : Int)) = true := decide_eq_true (by omega)
          have q1n : decide (0 < i) = true := decide_eq_true h0
          have hbt : bT (fun c => (decide (kind = 0) && blankB c) || (true && nameB c)) c = tb kind (decide (0 < i)) c := by rw [q1n]; exact bT_tb kind true c
          have hk2 := HK.out.two
          rw [hs2] at hk2
          have HPU1 := Lib.hid (pbytes_is HP0.out [c] (by intro d hd; rw [List.mem_singleton.1 hd]; exact hc256) s2 _ hk2 (HF1 _ hbt).out)
          have HE1 : Hid ([c].flatMap (bT (fun c => (decide (kind = 0) && blankB c) || (true && nameB c))) = tb kind (decide (0 < i)) c) := Lib.hid (by simp only [List.flatMap_cons, List.flatMap_nil, List.append_nil, hbt])
          clear hbt hk2 HF1
          go_wp2_with fail
          generalize World.alloc wr _ = w1 at *
          rw [← HQ.out]
          refine HPU1.out.mono ?_
          rintro e w2 ⟨rfl, hw2⟩
          have hB2 := WroteP.blk HP0.out hw2 HB0.out (by omega) (by decide)
          obtain ⟨g2, hP2, hS2⟩ := hw2.step
          have HS2 := Lib.hid hS2
          rw [HE1.out] at hP2
          have HPU2 := Lib.hid (pbytes_is hP2 t' HT'.out s _ HK.out.one (by have := HFIT.out; rw [HPT.out] at this; simp only [List.length_append] at this; rw [HFL.out]; simp only [List.length_append]; omega))
          have k1 : w2.cell? ⟨q, 1, none⟩ = some (.string (str (c :: t'))) := by rw [hB2.cell]; rfl
          clear hw2 hB2 hP2 hS2
          go_wp2_with fail
          refine HPU2.out.mono ?_
          rintro e w3 ⟨rfl, hw3⟩
          rw [HFL.out] at hw3
          have HW3 := Lib.hid (HS.out _ _ (WroteP.from HBW.out (HS2.out _ _ hw3)))
          clear hw3
          go_wp2_with fail
          go_roundw
          case rel => exact ⟨i + 1, by omega, by go_num, Lib.hid (by
            have := HW3.out
            rw [HST.out, HPT.out]
            simpa using this)⟩
          case measure => simp [intOf]; omega
        · have q1 : decide ((0 : Int) < (i : Int)) = false := decide_eq_false (by omega)
          have q1n : decide (0 < i) = false := decide_eq_false h0
          have hbt : bT (fun c => decide (kind = 0) && blankB c) c = tb kind (decide (0 < i)) c := by rw [decide_eq_false h0]; exact bT_tb0 kind c
          have HPU1 := Lib.hid (pbytes_is HP0.out [c] (by intro d hd; rw [List.mem_singleton.1 hd]; exact hc256) s _ HK.out.one (HF1 _ hbt).out)
          have HE1 : Hid ([c].flatMap (bT (fun c => decide (kind = 0) && blankB c)) = tb kind (decide (0 < i)) c) := Lib.hid (by simp only [List.flatMap_cons, List.flatMap_nil, List.append_nil, hbt])
          clear hbt HF1
          go_wp2_with fail
          generalize World.alloc wr _ = w1 at *
          rw [← HQ.out]
          refine HPU1.out.mono ?_
          rintro e w2 ⟨rfl, hw2⟩
          have hB2 := WroteP.blk HP0.out hw2 HB0.out (by omega) (by decide)
          obtain ⟨g2, hP2, hS2⟩ := hw2.step
          have HS2 := Lib.hid hS2
          rw [HE1.out] at hP2
          have HPU2 := Lib.hid (pbytes_is hP2 t' HT'.out s _ HK.out.one (by have := HFIT.out; rw [HPT.out] at this; simp only [List.length_append] at this; rw [HFL.out]; simp only [List.length_append]; omega))
          have k1 : w2.cell? ⟨q, 1, none⟩ = some (.string (str (c :: t'))) := by rw [hB2.cell]; rfl
          clear hw2 hB2 hP2 hS2
          go_wp2_with fail
          refine HPU2.out.mono ?_
          rintro e w3 ⟨rfl, hw3⟩
          rw [HFL.out] at hw3
          have HW3 := Lib.hid (HS.out _ _ (WroteP.from HBW.out (HS2.out _ _ hw3)))
          clear hw3
          go_wp2_with fail
          go_roundw
          case rel => exact ⟨i + 1, by omega, by go_num, Lib.hid (by
            have := HW3.out
            rw [HST.out, HPT.out]
            simpa using this)⟩
          case measure => simp [intOf]; omega
    · have r1 : decide ((i : Int) < (ps.length : Int)) = false := decide_eq_false (by omega)
      have r1n : decide (i < ps.length) = false := decide_eq_false hlt
      have HE : Hid (ps.take i = ps) := Lib.hid (List.take_of_length_le (by omega))
      clear hlt
      go_wp2_with fail
      go_end0
      exact ⟨rfl, by have := HW.out; rwa [HE.out] at this⟩

theorem partsOk_ne : ∀ (ps : List Prt) (a : Bool), partsOk a ps → ∀ p ∈ ps, p.s ≠ []
  | [], _, _, p, h => by cases h
  | x :: ps, a, h, p, hp => by
    unfold partsOk at h
    split at h
    · rcases List.mem_cons.1 hp with rfl | hp
      · intro e
        have h1 := h.1.2.1
        rw [e] at h1; simp at h1
      · exact partsOk_ne ps _ h.2 p hp
    · rcases List.mem_cons.1 hp with rfl | hp
      · exact h.1
      · exact partsOk_ne ps _ h.2.2 p hp
theorem flatS_take {ps : List Prt} {i : Nat} {p : Prt} (h : ps[i]? = some p) : (ps.take (i + 1)).flatMap (·.s) = (ps.take i).flatMap (·.s) ++ p.s := by
  have hi := (List.getElem?_eq_some_iff.1 h).1
  rw [List.take_succ_eq_append_getElem hi, (List.getElem?_eq_some_iff.1 h).2, List.flatMap_append]
  simp
theorem flatS_upto (ps : List Prt) (k : Nat) : ((ps.take k).flatMap (·.s)).length ≤ (ps.flatMap (·.s)).length := take_mono (fun l : List Prt => l.flatMap (·.s)) (fun _ _ _ h => ⟨_, flatS_take h⟩) ps _ k rfl
set_option maxRecDepth 100000 in
set_option maxHeartbeats 4000000 in
theorem pword_is {S : Nat → Prop} {w0 w : World} {b : Nat} {g : Option Nat} {l : List Nat} (h : Prn w0 w b g l) (x : Wrd) {v : Value} (hx : Prts S w0 v x.parts) (hb : bytesW x) (hok : wordOk x) (hn : x.parts.length ≤ 1048576000) (hl : l.length + (wordT x).length ≤ 16777216) :
    Calls Try.prog 45 #[.pointer (some ⟨b, 0, none⟩), .agg #[.int .i64 x.at_, .int .i64 x.kind, v]] w fun e w' => e = .returned (.tuple #[]) ∧ WroteP w0 w b g (l ++ wordT x) w' := by
  obtain ⟨A, ca, rfl, hca⟩ := hx.form
  have HX := Lib.hid hx
  have HBY := Lib.hid hb
  have HH := Lib.hid h
  have hbo := h.old
  have hb0 : Below w.heap.size w (w.alloc (.cells #[.int .i64 x.at_, .int .i64 x.kind, .slice A x.parts.length ca] 44)) := (Below.refl _ w).alloc (Nat.le_refl _) _
  have hB0 := Blk.new w 44 #[.int .i64 x.at_, .int .i64 x.kind, .slice A x.parts.length ca]
  obtain ⟨q, hq⟩ : ∃ q, q = w.heap.size := ⟨_, rfl⟩
  rw [← hq] at hB0
  have HB0 := Lib.hid hB0
  have HBW := Lib.hid hb0
  have HP0 := Lib.hid (h.below hb0)
  have HQ := Lib.hid hq
  have hbq : b < q := by omega
  clear h hx hb hb0 hB0 hq
  rcases hok with ⟨hk, hne, hpo⟩ | ⟨hk, hpo⟩ | ⟨hk, hp1, hbr⟩
  · have q0 : (x.kind == 0) = true := by simp [hk]
    have HWT : Hid (wordT x = partsT 0 false x.parts) := Lib.hid (by unfold wordT; rw [if_neg (by omega), if_pos hk])
    have HPU := Lib.hid (pparts_is HP0.out x.parts HX.out HBY.out (partsOk_ne _ _ hpo) hn 0 ⟨#[9, 32]⟩ kind0 (by rw [← HWT.out]; exact hl))
    clear hk hne hpo hl
    go_enter Try.func45, Try.ntmps45
    go_wp2_with fail
    refine HPU.out.mono ?_
    rintro e w2 ⟨rfl, hw2⟩
    have HW2 := Lib.hid (WroteP.from HBW.out hw2)
    clear hw2
    go_wp2_with fail
    go_end0
    exact ⟨rfl, by rw [HWT.out]; exact HW2.out⟩
  · have q0 : (x.kind == 0) = false := by simp [hk]
    have q1 : (x.kind == 1) = true := by simp [hk]
    have HWT : Hid (wordT x = [34] ++ partsT 1 false x.parts ++ [34]) := Lib.hid (by unfold wordT; rw [if_pos hk])
    have hfit := hl
    rw [HWT.out] at hfit
    simp only [List.length_append, List.length_singleton] at hfit
    have HPU1 := Lib.hid (put_is HP0.out [34] (by simp) (by simp only [List.length_singleton]; omega))
    have HNE := Lib.hid (partsOk_ne _ _ hpo)
    clear hk hpo hl
    go_enter Try.func45, Try.ntmps45
    go_wp2_with fail
    generalize World.alloc w _ = w1 at *
    rw [← HQ.out]
    refine HPU1.out.mono ?_
    rintro e w2 ⟨rfl, hw2⟩
    have hB2 := WroteP.blk HP0.out hw2 HB0.out (by omega) (by decide)
    obtain ⟨g2, hP2, hS2⟩ := hw2.step
    have HS2 := Lib.hid hS2
    have HPU2 := Lib.hid (pparts_is hP2 x.parts HX.out HBY.out HNE.out hn 1 ⟨#[]⟩ kind1 (by simp only [List.length_append, List.length_singleton]; omega))
    have k2 := hB2.cell 2
    simp at k2
    clear hw2 hB2 hP2 hS2
    go_wp2_with fail
    refine HPU2.out.mono ?_
    rintro e w3 ⟨rfl, hw3⟩
    obtain ⟨g3, hP3, hS3⟩ := hw3.step
    have HS3 := Lib.hid hS3
    have HPU3 := Lib.hid (put_is hP3 [34] (by simp) (by simp only [List.length_append, List.length_singleton]; omega))
    clear hw3 hP3 hS3
    go_wp2_with fail
    refine HPU3.out.mono ?_
    rintro e w4 ⟨rfl, hw4⟩
    have HW4 := Lib.hid (WroteP.from HBW.out (HS2.out _ _ (HS3.out _ _ hw4)))
    clear hw4
    go_wp2_with fail
    go_end0
    exact ⟨rfl, by rw [HWT.out]; simpa using HW4.out⟩
  · have q0 : (x.kind == 0) = false := by simp [hk]
    have q1 : (x.kind == 1) = false := by simp [hk]
    have q2 : (x.kind == 2) = true := by simp [hk]
    have HWT : Hid (wordT x = [123] ++ x.parts.flatMap (·.s) ++ [125]) := Lib.hid (by unfold wordT; rw [if_neg (by omega), if_neg (by omega)])
    have hfit := hl
    rw [HWT.out] at hfit
    simp only [List.length_append, List.length_singleton] at hfit
    have HPU1 := Lib.hid (put_is HP0.out [123] (by simp) (by simp only [List.length_singleton]; omega))
    have HTK := Lib.hid (flatS_upto x.parts)
    clear hk hp1 hbr hl
    go_enter Try.func45, Try.ntmps45
    go_wp2_with fail
    generalize World.alloc w _ = w1 at *
    rw [← HQ.out]
    refine HPU1.out.mono ?_
    rintro e w2 ⟨rfl, hw2⟩
    have hB2 := WroteP.blk HP0.out hw2 HB0.out (by omega) (by decide)
    have HW2 := Lib.hid (WroteP.from HBW.out hw2)
    have k2 := hB2.cell 2
    simp at k2
    clear hw2 hB2
    go_wp2_with fail
    go_loopw [31] (fun iv wr => ∃ i : Nat, i ≤ x.parts.length ∧ iv = .int .i64 (i : Nat) ∧ Hid (WroteP w0 w b g (l ++ [123] ++ (x.parts.take i).flatMap (·.s)) wr)) (fun iv _ => x.parts.length - (intOf iv).toNat)
    case atStart => exact ⟨0, by omega, rfl, Lib.hid (by simpa using HW2.out)⟩
    case round =>
      obtain ⟨i, hi, rfl, HW⟩ := hrel
      obtain ⟨g1, hP, hS⟩ := HW.out.step
      have HP := Lib.hid hP
      have HS := Lib.hid hS
      clear hP hS
      by_cases hlt : i < x.parts.length
      · have r1 : decide ((i : Int) < (x.parts.length : Int)) = true := decide_eq_true (by omega)
        have i1 : (i : Int) < (x.parts.length : Int) := by omega
        have hpb := HBY.out _ (List.getElem_mem hlt)
        obtain ⟨b1, o1, rfl, p0, p1⟩ := parts_at (SlI.below prt_ok HX.out HP.out.bel) hlt
        have HST := Lib.hid (flatS_take (List.getElem?_eq_getElem hlt))
        generalize x.parts[i] = p at *
        obtain ⟨pv, t⟩ := p
        dsimp only at *
        have hb3 : Below wr.heap.size wr (wr.alloc (.cells #[.bool pv, .string (str t)] 47)) := (Below.refl _ wr).alloc (Nat.le_refl _) _
        have HPU := Lib.hid (put_is (HP.out.below hb3) t hpb (by
          have h1 := HTK.out (i + 1)
          rw [HST.out, List.length_append] at h1
          simp only [List.length_append, List.length_singleton]; omega))
        have HB3 := Lib.hid hb3
        clear hb3 hpb
        go_wp2_with fail
        refine HPU.out.mono ?_
        rintro e w4 ⟨rfl, hw4⟩
        have HW4 := Lib.hid (HS.out _ _ (WroteP.from HB3.out hw4))
        clear hw4
        go_wp2_with fail
        go_roundw
        case rel => exact ⟨i + 1, by omega, by go_num, Lib.hid (by rw [HST.out, ← List.append_assoc]; exact HW4.out)⟩
        case measure => simp [intOf]; omega
      · have r1 : decide ((i : Int) < (x.parts.length : Int)) = false := decide_eq_false (by omega)
        have r1n : decide (i < x.parts.length) = false := decide_eq_false hlt
        have HE : Hid (x.parts.take i = x.parts) := Lib.hid (List.take_of_length_le (by omega))
        have HPU := Lib.hid (put_is HP.out [125] (by simp) (by rw [HE.out]; simp only [List.length_append, List.length_singleton]; omega))
        clear hlt
        go_wp2_with fail
        refine HPU.out.mono ?_
        rintro e w4 ⟨rfl, hw4⟩
        have HW4 := Lib.hid (HS.out _ _ hw4)
        clear hw4
        go_wp2_with fail
        go_end0
        exact ⟨rfl, by
          have := HW4.out
          rw [HE.out] at this
          rw [HWT.out]; simpa using this⟩

set_option maxRecDepth 100000 in
set_option maxHeartbeats 4000000 in
theorem pcommand_is {S : Nat → Prop} {w0 w : World} {b : Nat} {g : Option Nat} {l : List Nat} (h : Prn w0 w b g l) (x : Cmd) {v : Value} (hx : Wrds S w0 v x.words) (hok : cmdOk x) (fx : ∀ p ∈ x.words, bytesW p ∧ p.parts.length ≤ 1048576000) (hn : x.words.length ≤ 1048576000) (hl : l.length + (wordsT x.words).length + 1 ≤ 16777216) :
    Calls Try.prog 29 #[.pointer (some ⟨b, 0, none⟩), .agg #[.int .i64 x.at_, v]] w fun e w' => e = .returned (.tuple #[]) ∧ WroteP w0 w b g (l ++ wordsT x.words ++ [10]) w' := by
  obtain ⟨A, ca, rfl, hca⟩ := hx.form
  have HX := Lib.hid hx
  have HFX := Lib.hid fx
  have HOK := Lib.hid hok.2
  have hb0 : Below w.heap.size w (w.alloc (.cells #[.int .i64 x.at_, .slice A x.words.length ca] 39)) := (Below.refl _ w).alloc (Nat.le_refl _) _
  have HW0 := Lib.hid (WroteP.from hb0 (WroteP.refl (h.below hb0)))
  have HTK := Lib.hid (wordsT_upto x.words)
  have hbo := h.old
  clear h hx hok fx hb0
  go_enter Try.func29, Try.ntmps29
  go_wp2_with fail
  go_loopw [9] (fun iv wr => ∃ i : Nat, i ≤ x.words.length ∧ iv = .int .i64 (i : Nat) ∧ Hid (WroteP w0 w b g (l ++ wordsT (x.words.take i)) wr)) (fun iv _ => x.words.length - (intOf iv).toNat)
  case atStart => exact ⟨0, by omega, rfl, Lib.hid (by simpa [wordsT] using HW0.out)⟩
  case round =>
    obtain ⟨i, hi, rfl, HW⟩ := hrel
    obtain ⟨g1, hP, hS⟩ := HW.out.step
    have HP := Lib.hid hP
    have HS := Lib.hid hS
    clear hP hS
    by_cases hlt : i < x.words.length
    · have r1 : decide ((i : Int) < (x.words.length : Int)) = true := decide_eq_true (by omega)
      have i1 : (i : Int) < (x.words.length : Int) := by omega
      have hfp := HFX.out _ (List.getElem_mem hlt)
      have hop := HOK.out _ (List.getElem_mem hlt)
      obtain ⟨b1, o1, v1, rfl, z0, z1, z2, X1⟩ := words_at HX.out hlt
      obtain ⟨A1, k1, rfl, _⟩ := X1.form
      have HST := Lib.hid (wordsT_take (List.getElem?_eq_getElem hlt))
      generalize x.words[i] = p at *
      have p0 := (HP.out.bel.cell (p := ⟨b1, o1 + i * 3, none⟩) (World.block_lt_of_cell? _ _ z0)).trans z0
      have p1 := (HP.out.bel.cell (p := ⟨b1, o1 + i * 3 + 1, none⟩) (World.block_lt_of_cell? _ _ z1)).trans z1
      have p2 := (HP.out.bel.cell (p := ⟨b1, o1 + i * 3 + 2, none⟩) (World.block_lt_of_cell? _ _ z2)).trans z2
      have HX1 := Lib.hid X1
      have HFP := Lib.hid hfp
      have HOP := Lib.hid hop
      have hfn := hfp.2
      obtain ⟨q, hq⟩ : ∃ q, q = wr.heap.size := ⟨_, rfl⟩
      have hbq : b < q := by have := HP.out.old.2; omega
      have hB0 := Blk.new wr 44 #[.int .i64 p.at_, .int .i64 p.kind, .slice A1 p.parts.length k1]
      have hb1 : Below wr.heap.size wr (wr.alloc (.cells #[.int .i64 p.at_, .int .i64 p.kind, .slice A1 p.parts.length k1] 44)) := (Below.refl _ wr).alloc (Nat.le_refl _) _
      rw [← hq] at hB0
      have HB0 := Lib.hid hB0
      have HBW := Lib.hid hb1
      have HP0 := Lib.hid (HP.out.below hb1)
      have HQ := Lib.hid hq
      have HFIT : Hid ((l ++ wordsT (x.words.take i)).length + ((if 0 < i then [32] else []) ++ wordT p : List Nat).length ≤ 16777216) := Lib.hid (by
        have h1 := HTK.out (i + 1)
        rw [HST.out] at h1
        simp only [List.length_append] at h1 ⊢
        omega)
      clear hB0 hb1 hq X1 hfp hop z0 z1 z2
      by_cases h0 : 0 < i
      · have q1 : decide ((0 : Int) < (i : Int)) = true := decide_eq_true (by omega)
        have q1n : decide (0 < i) = true := decide_eq_true h0
        have hfit := HFIT.out
        have HST2 := Lib.hid HST.out
        rw [if_pos h0] at hfit HST2
        simp only [List.length_append, List.length_singleton] at hfit
        have HPU1 := Lib.hid (put_is HP0.out [32] (by simp) (by simp only [List.length_append, List.length_singleton]; omega))
        clear h0
        go_wp2_with fail
        generalize World.alloc wr _ = w1 at *
        rw [← HQ.out]
        refine HPU1.out.mono ?_
        rintro e w2 ⟨rfl, hw2⟩
        have hB2 := WroteP.blk HP0.out hw2 HB0.out (by omega) (by decide)
        obtain ⟨g2, hP2, hS2⟩ := hw2.step
        have HS2 := Lib.hid hS2
        have HPU2 := Lib.hid (pword_is hP2 p HX1.out HFP.out.1 HOP.out hfn (by simp only [List.length_append, List.length_singleton]; omega))
        have m0 := hB2.cell 0
        have m1 := hB2.cell 1
        have m2 := hB2.cell 2
        simp at m0 m1 m2
        clear hw2 hB2 hP2 hS2
        go_wp2_with fail
        refine HPU2.out.mono ?_
        rintro e w3 ⟨rfl, hw3⟩
        have HW3 := Lib.hid (HS.out _ _ (WroteP.from HBW.out (HS2.out _ _ hw3)))
        clear hw3
        go_wp2_with fail
        go_roundw
        case rel => exact ⟨i + 1, by omega, by go_num, Lib.hid (by rw [HST2.out]; simpa using HW3.out)⟩
        case measure => simp [intOf]; omega
      · have q1 : decide ((0 : Int) < (i : Int)) = false := decide_eq_false (by omega)
        have q1n : decide (0 < i) = false := decide_eq_false h0
        have hfit := HFIT.out
        have HST2 := Lib.hid HST.out
        rw [if_neg h0] at hfit HST2
        simp only [List.length_append, List.length_nil] at hfit
        have HPU2 := Lib.hid (pword_is HP0.out p HX1.out HFP.out.1 HOP.out hfn (by simp only [List.length_append]; omega))
        have m0 := HB0.out.cell 0
        have m1 := HB0.out.cell 1
        have m2 := HB0.out.cell 2
        simp at m0 m1 m2
        clear h0
        go_wp2_with fail
        refine HPU2.out.mono ?_
        rintro e w3 ⟨rfl, hw3⟩
        have HW3 := Lib.hid (HS.out _ _ (WroteP.from HBW.out hw3))
        clear hw3
        go_wp2_with fail
        go_roundw
        case rel => exact ⟨i + 1, by omega, by go_num, Lib.hid (by rw [HST2.out]; simpa using HW3.out)⟩
        case measure => simp [intOf]; omega
    · have r1 : decide ((i : Int) < (x.words.length : Int)) = false := decide_eq_false (by omega)
      have r1n : decide (i < x.words.length) = false := decide_eq_false hlt
      have HE : Hid (x.words.take i = x.words) := Lib.hid (List.take_of_length_le (by omega))
      have HPU := Lib.hid (put_is HP.out [10] (by simp) (by rw [HE.out]; simp only [List.length_append, List.length_singleton]; omega))
      clear hlt
      go_wp2_with fail
      refine HPU.out.mono ?_
      rintro e w4 ⟨rfl, hw4⟩
      have HW4 := Lib.hid (HS.out _ _ hw4)
      clear hw4
      go_wp2_with fail
      go_end0
      exact ⟨rfl, by have := HW4.out; rwa [HE.out] at this⟩

set_option maxRecDepth 100000 in
set_option maxHeartbeats 4000000 in
theorem Print_is {S : Nat → Prop} {w : World} (l : List Cmd) {va : Value} (hx : Cmds S w va l) (hf : weightC l ≤ 1048576 ∧ ∀ c ∈ l, bytesC c) : Calls Try.prog 17 #[va] w (PrintTo w l) := by
  have hw1 := weightC_has l
  have hfit : ∀ c ∈ l, c.words.length ≤ 1048576000 ∧ ∀ q ∈ c.words, bytesW q ∧ q.parts.length ≤ 1048576000 ∧ ∀ z ∈ q.parts, z.s.length ≤ 1048576000 := fun c hc => by
    have h1 := hw1.2 c hc
    have h2 := weightW_has c.words
    refine ⟨by omega, fun q hq => ?_⟩
    have h3 := h2.2 q hq
    have h4 := weight_has q.parts
    refine ⟨hf.2 c hc q hq, by omega, fun z hz => ?_⟩
    have := h4.2 z hz
    omega
  have HC := Lib.hid (ContainsC_is l hx (by omega) hfit)
  have hlen := printT_len l
  have HBY := Lib.hid (printT_bytes hf.2)
  have HTK := Lib.hid (printT_upto l)
  obtain ⟨A, ca, rfl, hca⟩ := hx.form
  have HX := Lib.hid hx
  have HFIT := Lib.hid hfit
  have hll : l.length ≤ 1048576 := by omega
  have hpl : (printT l).length ≤ 4194304 := by omega
  clear hx hf hfit hw1 hlen
  go_enter Try.func17, Try.ntmps17
  go_wp2_with fail
  refine HC.out.mono ?_
  rintro e w1 ⟨⟨r, rfl, hr⟩, hb1⟩
  have HB1 := Lib.hid hb1
  have HX1 := Lib.hid (SlI.below cmd_ok HX.out hb1)
  cases r with
  | true =>
    have HNO : Hid (¬ printOk l) := Lib.hid fun h => by
      obtain ⟨p, h1, h2⟩ := hr.1 rfl
      exact h2 (h p h1)
    clear hr hb1
    go_wp2_with fail
    go_ret2
    exact PrintTo.no HNO.out HB1.out
  | false =>
    have HPO : Hid (printOk l) := Lib.hid fun p hp => Classical.byContradiction fun hno => by
      have := hr.2 ⟨p, hp, hno⟩
      cases this
    have HN0 := Lib.hid (Prn.new w1)
    have HK0 := Lib.hid (Blk.new w1 66 #[.pointer none, .slice none 0 0, .bool false])
    clear hr hb1 HC
    go_wp2_with fail
    obtain ⟨q, hq⟩ : ∃ q, q = w1.heap.size := ⟨_, rfl⟩
    generalize hw2 : w1.alloc (.cells #[.pointer none, .slice none 0 0, .bool false] 66) = w2 at *
    rw [← hq] at HN0 HK0 ⊢
    have HQ := Lib.hid hq
    clear hq hw2
    go_loopw [11] (fun iv wr => ∃ i : Nat, i ≤ l.length ∧ iv = .int .i64 (i : Nat) ∧ Hid (∃ g, Prn w1 wr q g (printT (l.take i)) ∧ (i = 0 → Blk wr q 66 #[.pointer none, .slice none 0 0, .bool false]))) (fun iv _ => l.length - (intOf iv).toNat)
    case atStart => exact ⟨0, by omega, rfl, Lib.hid ⟨none, HN0.out, fun _ => HK0.out⟩⟩
    case round =>
      obtain ⟨i, hi, rfl, HW⟩ := hrel
      obtain ⟨g, hP, hK⟩ := HW.out
      have HP := Lib.hid hP
      have HK := Lib.hid hK
      clear hP hK
      by_cases hlt : i < l.length
      · have r1 : decide ((i : Int) < (l.length : Int)) = true := decide_eq_true (by omega)
        have i1 : (i : Int) < (l.length : Int) := by omega
        have hfp := HFIT.out _ (List.getElem_mem hlt)
        have hop := HPO.out _ (List.getElem_mem hlt)
        obtain ⟨b1, o1, v1, rfl, z0, z1, X1⟩ := cmds_at HX1.out hlt
        obtain ⟨A1, k1, rfl, _⟩ := X1.form
        have HST := Lib.hid (printT_take (List.getElem?_eq_getElem hlt))
        generalize l[i] = p at *
        have p0 := (HP.out.bel.cell (p := ⟨b1, o1 + i * 2, none⟩) (World.block_lt_of_cell? _ _ z0)).trans z0
        have p1 := (HP.out.bel.cell (p := ⟨b1, o1 + i * 2 + 1, none⟩) (World.block_lt_of_cell? _ _ z1)).trans z1
        have hb3 : Below wr.heap.size wr (wr.alloc (.cells #[.int .i64 p.at_, .slice A1 p.words.length k1] 39)) := (Below.refl _ wr).alloc (Nat.le_refl _) _
        have HPU := Lib.hid (pcommand_is (HP.out.below hb3) p X1 hop (fun z hz => ⟨(hfp.2 z hz).1, (hfp.2 z hz).2.1⟩) hfp.1 (by
          have h1 := HTK.out (i + 1)
          rw [HST.out] at h1
          simp only [List.length_append, List.length_singleton] at h1
          omega))
        clear hb3 X1 hfp hop z0 z1
        go_wp2_with fail
        refine HPU.out.mono ?_
        rintro e w4 ⟨rfl, hw4⟩
        obtain ⟨g4, hP4, -⟩ := hw4.step
        have HP4 := Lib.hid hP4
        have kl := hP4.long
        clear hw4 hP4
        go_wp2_with fail
        go_roundw
        case rel => exact ⟨i + 1, by omega, by go_num, Lib.hid ⟨g4, by rw [HST.out]; exact HP4.out, fun h => by omega⟩⟩
        case measure => simp [intOf]; omega
      · have r1 : decide ((i : Int) < (l.length : Int)) = false := decide_eq_false (by omega)
        have r1n : decide (i < l.length) = false := decide_eq_false hlt
        have HE : Hid (l.take i = l) := Lib.hid (List.take_of_length_le (by omega))
        have HPB := Lib.hid (HB1.out.trans (HP.out.bel.mono HB1.out.size))
        have hil : i = l.length := by omega
        by_cases h0 : i = 0
        · have HST := Lib.hid (pStringNil_is (HK.out h0))
          have HL0 : Hid (printT l = []) := Lib.hid (by
            have : l = [] := List.length_eq_zero_iff.1 (by omega)
            rw [this]; rfl)
          clear hlt hil h0
          go_wp2_with fail
          refine HST.out.mono ?_
          rintro e w5 ⟨rfl, hb5⟩
          have HB5 := Lib.hid (HPB.out.trans (hb5.mono HPB.out.size))
          clear hb5
          go_wp2_with fail
          go_ret2
          exact ⟨[], 0, rfl, fun _ => ⟨rfl, HL0.out.symm⟩, fun h => absurd HPO.out h, HB5.out⟩
        · have hpr := HP.out
          rw [HE.out] at hpr
          have hne : printT l ≠ [] := by
            cases l with
            | nil => simp at hil; omega
            | cons c t => simp [printT, cmdT]
          have HST := Lib.hid (pString_is hpr HBY.out hne (by omega))
          clear hlt hil h0 hpr hne
          go_wp2_with fail
          refine HST.out.mono ?_
          rintro e w5 ⟨rfl, hb5⟩
          have HB5 := Lib.hid (HB1.out.trans (hb5.mono HB1.out.size))
          clear hb5
          go_wp2_with fail
          go_ret2
          exact ⟨printT l, 0, rfl, fun _ => ⟨rfl, rfl⟩, fun h => absurd HPO.out h, HB5.out⟩
end Go.Proofs.Ytphmhglebeapaaa
