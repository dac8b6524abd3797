/-
  cuecardlaw07.RelayEnds answers true for all bytes of both ends and every number.
  Conditions: the package's table holds what its initialiser lays (Oth).
-/
import Derived.Test.YtfmmomdfmmoklaaDoorREndsM
import Derived.Test.YtfmmomdfmmoklaaDoorUptoAll
import Derived.Test.YtfmmomdfmmoklaaDoorCut
import Derived.Deep.DeepCutAuto
import Derived.Deep.CutBlock
import Derived.Deep.QuietTactic
import Derived.BigQuiet
namespace Go.Proofs.YtfmmomdfmmoklaaDoor
open Go.RowKit

/-- What holds ahead of round j: what is left, and what was read, of both ends. -/
structure Fit (us cs al bl R1 R0 : List Nat) (hu o1 hc o0 : Bool) (j : Nat) : Prop where
  u : us = R1 ++ al
  c : cs = R0 ++ bl
  la : al.length ≤ 200 - j
  lb : bl.length ≤ 200 - j
  hu_ : hu = true → al = []
  o1_ : o1 = true → al = []
  hc_ : hc = true → bl = [] ∧ o1 = true
  o0_ : o0 = true → bl = [] ∧ o1 = true
  fin : 201 ≤ j → o0 = true
theorem Fit.next {us cs R1 R0 a1 a2 b1 b2 : List Nat} {hu o1 hc o0 : Bool} {j : Nat} (h : Fit us cs (a1 ++ a2) (b1 ++ b2) R1 R0 hu o1 hc o0 j) (ha : a1 = [] → a2 = []) (hb : b1 = [] → b2 = []) :
    Fit us cs a2 b2 (R1 ++ a1) (R0 ++ b1) (hu || a2.isEmpty) (o1 || a1.isEmpty) (hc || (b2.isEmpty && (o1 || a1.isEmpty))) (o0 || (b1.isEmpty && (hc || (b2.isEmpty && (o1 || a1.isEmpty))))) (j + 1) := by
  have la := h.la
  have lb := h.lb
  rw [List.length_append] at la lb
  have ka : a1 = [] ∨ 1 ≤ a1.length := by cases a1 <;> simp
  have kb : b1 = [] ∨ 1 ≤ b1.length := by cases b1 <;> simp
  have e1 : (o1 || a1.isEmpty) = true → a2 = [] := fun e => by
    rcases (by simpa using e : o1 = true ∨ a1 = []) with e | e
    · exact (List.append_eq_nil_iff.1 (h.o1_ e)).2
    · exact ha e
  have e2 : (hc || (b2.isEmpty && (o1 || a1.isEmpty))) = true → b2 = [] ∧ (o1 || a1.isEmpty) = true := fun e => by
    rcases (by simpa using e : hc = true ∨ b2 = [] ∧ (o1 = true ∨ a1 = [])) with e | e
    · exact ⟨(List.append_eq_nil_iff.1 (h.hc_ e).1).2, by rw [(h.hc_ e).2]; rfl⟩
    · exact ⟨e.1, by simpa using e.2⟩
  refine ⟨by rw [h.u, List.append_assoc], by rw [h.c, List.append_assoc], ?_, ?_, fun e => ?_, e1, e2, fun e => ?_, fun hj => ?_⟩
  · rcases ka with k | k
    · rw [ha k]; simp
    · omega
  · rcases kb with k | k
    · rw [hb k]; simp
    · omega
  · rcases (by simpa using e : hu = true ∨ a2 = []) with e | e
    · exact (List.append_eq_nil_iff.1 (h.hu_ e)).2
    · exact e
  · rw [Bool.or_eq_true, Bool.and_eq_true] at e
    rcases e with e | e
    · exact ⟨(List.append_eq_nil_iff.1 (h.o0_ e).1).2, by rw [(h.o0_ e).2]; rfl⟩
    · exact e2 e.2
  · have a1e : a1 = [] := by
      rcases ka with k | k
      · exact k
      · omega
    have b1e : b1 = [] := by
      rcases kb with k | k
      · exact k
      · omega
    rw [a1e, b1e, hb b1e]
    simp
theorem nil_rd (w : World) : Rd w (.slice none 0 0) (bv []) := ⟨none, 0, rfl, Nat.le_refl _, by simp [bv], fun h => by simp [bv] at h⟩
theorem Wld.act5 (y : Wld) (k : Int) : y.act 5 k 0 [] = (false, y.hears 0 k) := by unfold Wld.act; rw [if_neg (by decide), if_pos rfl]
theorem Wld.act8 (y : Wld) (k : Int) : y.act 8 k 0 [] = (false, y.hears 1 k) := by unfold Wld.act; rw [if_neg (by decide), if_neg (by decide), if_neg (by decide), if_neg (by decide), if_pos rfl]

/-- What holds within a round, ahead of step q. -/
def Mid (y : Wld) (hu : Bool) (a1 : List Nat) (o1 hc : Bool) (b1 : List Nat) (o0 e2 : Bool) (R1 R0 : List Nat) (n : Nat) : Nat → Prop
  | 0 => Sh y hu a1 o1 [] [] hc b1 o0 [] [] R1 R0 n
  | 1 => Sh y hu [] (o1 || a1.isEmpty) [] a1 hc b1 o0 [] [] R1 R0 (n + 1)
  | 2 => Sh y hu [] (o1 || a1.isEmpty) [] a1 (hc || (e2 && (o1 || a1.isEmpty))) [] (o0 || (b1.isEmpty && (hc || (e2 && (o1 || a1.isEmpty))))) [] b1 R1 R0 (n + 2)
  | 3 => Sh y hu [] (o1 || a1.isEmpty) a1 [] (hc || (e2 && (o1 || a1.isEmpty))) [] (o0 || (b1.isEmpty && (hc || (e2 && (o1 || a1.isEmpty))))) [] b1 R1 R0 (n + 2)
  | _ => Sh y hu [] (o1 || a1.isEmpty) a1 [] (hc || (e2 && (o1 || a1.isEmpty))) [] (o0 || (b1.isEmpty && (hc || (e2 && (o1 || a1.isEmpty))))) b1 [] R1 R0 (n + 2)

/-- What is cut off ahead, by ma bytes of which the line takes ja. -/
theorem cut_ahead (al : List Nat) {ma ja : Nat} (h : min ma 8 = ja) : (al.take ma).take 8 = al.take ja := by rw [List.take_take, Nat.min_comm, h]
theorem put_len (hu : Bool) {ma ja : Nat} (h : min ma 8 = ja) (hz : hu = true → ma = 0) : putN 8 hu 0 ma = ja := by
  unfold putN
  cases hu with
  | true => have := hz rfl; subst this; simp at h ⊢; omega
  | false => simp; omega

set_option maxHeartbeats 4000000 in
set_option maxRecDepth 100000 in
theorem ends_true (A : Option Addr) (n c : Nat) (l : List Nat) (A' : Option Addr) (n' c2 : Nat) (l' : List Nat) (x : Int) (w : World) (hr : Rd w (.slice A n c) (bv l)) (hn : n ≤ 9223372036854775807) (hq : ∀ b ∈ l, b < 256)
    (hr' : Rd w (.slice A' n' c2) (bv l')) (hn' : n' ≤ 9223372036854775807) (hq' : ∀ b ∈ l', b < 256) (hx : x ≤ 9223372036854775807) (ho : Oth w) :
    Calls Tryd.prog 7 #[.slice A n c, .slice A' n' c2, .int .i64 x] w fun e w' => e = .returned (.bool true) ∧ Below w.heap.size w w' := by
  obtain ⟨m, hm1, hm2, hmin⟩ : ∃ m : Nat, m ≤ n ∧ m ≤ 200 ∧ min (n : Int) 200 = (m : Int) := ⟨min n 200, Nat.min_le_left _ _, Nat.min_le_right _ _, by omega⟩
  obtain ⟨A1, hsl, hr1⟩ := run_upto hr hm1
  have hl1 : (l.take m).length = m := by have := hr1.bytes; omega
  have hb1 : ∀ b ∈ l.take m, b < 256 := fun b hb => hq b (List.mem_of_mem_take hb)
  generalize l.take m = us at *
  obtain ⟨m', hm1', hm2', hmin'⟩ : ∃ m : Nat, m ≤ n' ∧ m ≤ 200 ∧ min (n' : Int) 200 = (m : Int) := ⟨min n' 200, Nat.min_le_left _ _, Nat.min_le_right _ _, by omega⟩
  obtain ⟨A1', hsl', hr1'⟩ := run_upto hr' hm1'
  have hl1' : (l'.take m').length = m' := by have := hr1'.bytes; omega
  have hb1' : ∀ b ∈ l'.take m', b < 256 := fun b hb => hq' b (List.mem_of_mem_take hb)
  generalize l'.take m' = cs at *
  obtain ⟨z, hz1, hmax⟩ : ∃ z : Nat, z ≤ 9223372036854775807 ∧ max 0 x = (z : Int) := ⟨x.toNat, by omega, by omega⟩
  obtain ⟨k, hk1, hk9, hk3⟩ : ∃ k : Nat, 1 ≤ k ∧ k ≤ 9 ∧ 1 + (z : Int) % 9 = (k : Int) := ⟨1 + z % 9, by omega, by omega, by omega⟩
  have HA := Lib.hid (And.intro hr1 hr1')
  have HL := Lib.hid (And.intro hl1 hl1')
  have HB := Lib.hid (And.intro hb1 hb1')
  have HO := Lib.hid ho
  clear hr hr' hr1 hr1' hl1 hl1' hb1 hb1' hq hq' ho hx
  go_enter Tryd.func7, Tryd.ntmps7
  go_wp2_with fail
  go_quiet (fail)
  clear hsl hsl' hmin hmin' hm1 hm1' hn hn'
  generalize hv : World.drewN w _ = v
  have HV : Hid (Below w.heap.size w v) := by subst hv; exact ⟨rfl, rfl, rfl, Nat.le_refl _, fun _ _ => rfl⟩
  clear hv
  go_wp2_with fail
  refine (WNew 7 (by omega) v 8 (by decide)).mono ?_
  intro e w3 hnew
  obtain ⟨b, u, c', r, rfl, h3⟩ := WAt.of_new HV.out hnew
  have H3 := Lib.hid h3
  clear hnew h3 HV
  go_wp2_with fail
  refine (alive_true w3 (HO.out.below H3.out.below)).mono ?_
  rintro e w4 ⟨rfl, hb4⟩
  have H4 : Hid (WAt (fun _ => False) w w4 b u c' r (Wld.start 8)) := H3.out.keep hb4
  clear hb4 H3
  go_wp2_with fail
  clear hmax hk3
  go_loopw [9, 10, 35] (fun v9 v10 i wr => ∃ (j Na Nb ca cb : Nat) (Aa Ab : Option Addr), j ≤ 1500 ∧ i = .int .i64 j ∧ v9 = .slice Aa Na ca ∧ v10 = .slice Ab Nb cb ∧ Na ≤ 200 ∧ Nb ≤ 200 ∧ Hid (∃ (y : Wld) (al bl R1 R0 : List Nat) (hu o1 hc o0 : Bool), WAt (fun _ => False) w wr b u c' r y ∧ Sh y hu [] o1 [] [] hc [] o0 [] [] R1 R0 (2 * j) ∧ Rd w (.slice Aa Na ca) (bv al) ∧ Rd w (.slice Ab Nb cb) (bv bl) ∧ Fit us cs al bl R1 R0 hu o1 hc o0 j)) (fun _ _ i _ => 1500 - (intOf i).toNat)
  case atStart => exact ⟨0, m, m', c, c2, A1, A1', by omega, rfl, rfl, rfl, hm2, hm2', _, us, cs, [], [], false, false, false, false, H4.out, Sh.start, HA.out.1, HA.out.2, ⟨rfl, rfl, by rw [HL.out.1]; exact hm2, by rw [HL.out.2]; exact hm2', by simp, by simp, by simp, by simp, by omega⟩⟩
  case round =>
    obtain ⟨j, Na, Nb, ca, cb, Aa, Ab, hj, rfl, rfl, rfl, hNa, hNb, HS⟩ := hrel
    obtain ⟨y, al, bl, R1, R0, hu, o1, hc, o0, hat, hsh, hra, hrb, hfit⟩ := HS.out
    by_cases hlt : j < 1500
    · have hla : al.length = Na := by have := hra.bytes; omega
      have hlb : bl.length = Nb := by have := hrb.bytes; omega
      have haB : ∀ z ∈ al, z < 256 := fun z hz => HB.out.1 z (by rw [hfit.u]; exact List.mem_append_right _ hz)
      have hbB : ∀ z ∈ bl, z < 256 := fun z hz => HB.out.2 z (by rw [hfit.c]; exact List.mem_append_right _ hz)
      obtain ⟨ma, hma1, hma2, hmin1⟩ : ∃ a : Nat, a ≤ Na ∧ Hid (a = min Na k) ∧ min (Na : Int) (k : Int) = (a : Int) := ⟨min Na k, Nat.min_le_left _ _, rfl, by omega⟩
      obtain ⟨mb, hmb1, hmb2, hmin2⟩ : ∃ a : Nat, a ≤ Nb ∧ Hid (a = min Nb k) ∧ min (Nb : Int) (k : Int) = (a : Int) := ⟨min Nb k, Nat.min_le_left _ _, rfl, by omega⟩
      obtain ⟨A2, hsl2, hr2⟩ := run_upto hra hma1
      obtain ⟨A3, hsl3, hr3⟩ := run_upto hrb hmb1
      obtain ⟨ja, hja⟩ : ∃ ja, min ma 8 = ja := ⟨_, rfl⟩
      obtain ⟨jb, hjb⟩ : ∃ jb, min mb 8 = jb := ⟨_, rfl⟩
      have hjaN : ja ≤ Na := by omega
      have hjbN : jb ≤ Nb := by omega
      obtain ⟨A4, c4, N4, hsl4, hr4, hN4⟩ := run_from hra hjaN
      obtain ⟨A5, c5, N5, hsl5, hr5, hN5⟩ := run_from hrb hjbN
      have hza : hu = true → al.take ma = [] := fun e => by rw [hfit.hu_ e, List.take_nil]
      have hzb : hc = true → bl.take mb = [] := fun e => by rw [(hfit.hc_ e).1, List.take_nil]
      have hz1 : hu = true → ma = 0 := fun e => by have := hfit.hu_ e; subst this; simp at hla; omega
      have hz2 : hc = true → mb = 0 := fun e => by have := (hfit.hc_ e).1; subst this; simp at hlb; omega
      have P1 : Hid (∀ W, WAt (fun _ => False) w W b u c' r y → Calls Tryd.prog 30 #[.pointer (some ⟨u, 0, none⟩), .int .i64 0, .slice A2 ma ca] W fun e w' => e = .returned (.int .i64 ja) ∧ WAt (fun _ => False) w w' b u c' r (y.put 1 0 (al.take ma))) := by
        intro W hW
        have hlt1 : (al.take ma).length = ma := by rw [List.length_take]; omega
        refine (WWrite hW (k := 1) (s := 0) (p := u) (z := 0) (by omega) (by omega) rfl rfl (hr2.kept hW.below) (by omega)).mono ?_
        rintro e w' ⟨he, h1, -⟩
        rw [hsh.f10, hsh.rm] at he
        have := put_len hu hja hz1
        exact ⟨by rw [he]; show Ending.returned (.int .i64 (putN 8 hu 0 ma : Nat)) = _; rw [this], by unfold Wld.put; rw [hlt1]; exact h1⟩
      have s1 := hsh.put1 hza (fun z hz => haB z (List.mem_of_mem_take hz))
      have P2 : Hid (∀ W, WAt (fun _ => False) w W b u c' r (y.put 1 0 (al.take ma)) → Calls Tryd.prog 30 #[.pointer (some ⟨c', 0, none⟩), .int .i64 1, .slice A3 mb cb] W fun e w' => e = .returned (.int .i64 jb) ∧ WAt (fun _ => False) w w' b u c' r ((y.put 1 0 (al.take ma)).put 0 1 (bl.take mb))) := by
        intro W hW
        have hlt1 : (bl.take mb).length = mb := by rw [List.length_take]; omega
        refine (WWrite hW (k := 0) (s := 1) (p := c') (z := 1) (by omega) (by omega) rfl rfl (hr3.kept hW.below) (by omega)).mono ?_
        rintro e w' ⟨he, h1, -⟩
        rw [s1.f01, s1.rm] at he
        have := put_len hc hjb hz2
        exact ⟨by rw [he]; show Ending.returned (.int .i64 (putN 8 hc 0 mb : Nat)) = _; rw [this], by show WAt _ _ _ _ _ _ _ (Wld.line ..); rw [hlt1]; exact h1⟩
      have s2 := s1.put0 hzb (fun z hz => hbB z (List.mem_of_mem_take hz))
      rw [cut_ahead al hja, cut_ahead bl hjb] at s2
      generalize (y.put 1 0 (al.take ma)).put 0 1 (bl.take mb) = y2 at *
      generalize y.put 1 0 (al.take ma) = y1 at *
      have hfn := hfit
      rw [← List.take_append_drop ja al, ← List.take_append_drop jb bl] at hfn
      have la1 : (al.take ja).length = ja := by rw [List.length_take]; omega
      have lb1 : (bl.take jb).length = jb := by rw [List.length_take]; omega
      have la2 : (al.drop ja).length = N4 := by rw [List.length_drop]; omega
      have lb2 : (bl.drop jb).length = N5 := by rw [List.length_drop]; omega
      have hja8 : ja ≤ 8 ∧ ja ≤ k := by have := hma2.out; omega
      have hjb8 : jb ≤ 8 ∧ jb ≤ k := by have := hmb2.out; omega
      have hea : al.take ja = [] → al.drop ja = [] := fun e => by
        have := hma2.out; rw [e] at la1; simp at la1
        exact List.eq_nil_of_length_eq_zero (by omega)
      have heb : bl.take jb = [] → bl.drop jb = [] := fun e => by
        have := hmb2.out; rw [e] at lb1; simp at lb1
        exact List.eq_nil_of_length_eq_zero (by omega)
      generalize al.take ja = a1 at *
      generalize al.drop ja = a2 at *
      generalize bl.take jb = b1 at *
      generalize bl.drop jb = b2 at *
      have cx : wr.cell? ⟨b, 0, none⟩ = some (.pointer (some ⟨u, 0, none⟩)) := hat.blk.cell 0
      have HW : Hid (WAt (fun _ => False) w wr.drew b u c' r y) := Lib.hid hat.drew
      have i1 : min (ja : Int) (Na : Int) = (ja : Int) := by omega
      have i2 : max 0 (ja : Int) = (ja : Int) := by omega
      have i3 : min (jb : Int) (Nb : Int) = (jb : Int) := by omega
      have i4 : max 0 (jb : Int) = (jb : Int) := by omega
      have X1 := Lib.hid (And.intro s2 (And.intro hfn (And.intro hea heb)))
      have X2 := Lib.hid (And.intro la1 (And.intro lb1 (And.intro la2 (And.intro lb2 (And.intro hja8 hjb8)))))
      have X3 := Lib.hid (And.intro hr4 hr5)
      have X4 := Lib.hid (And.intro hN4 hN5)
      clear hat hsh hra hrb hfit hla hlb haB hbB hr2 hr3 hza hzb hz1 hz2 s1 s2 hfn la1 lb1 la2 lb2 hja8 hjb8 hea heb hja hjb hr4 hr5 hN4 hN5 HS
      go_upto_region 9 with (fail)
      refine wp_region_noPanic ?_
      refine wp_region_upto (fun V => V.cell? ⟨b, 0, none⟩ = some (.pointer (some ⟨u, 0, none⟩))) 18 (by kernel_rfl) ?_ (fun hHeld => ?_)
      · exact cx
      refine wpUpto.takeAll 0 (by kernel_rfl) (by kernel_rfl) (by kernel_rfl) (by kernel_rfl) (by assumption) ?_
      intro o ho
      simp only [List.getElem?_toArray, List.getElem?_cons_zero, Option.some.injEq] at ho
      subst ho
      refine ⟨?_, fun _ _ _ h => h, Or.inl ⟨by rfl, ?_⟩, ?_⟩
      rotate_left
      · intro w hSw
        go_simp
        try with_reducible rfl
      simp only [Act.put, List.setIfInBounds_toArray, List.set_cons_zero, List.set_cons_succ]
      refine wpUpto.takeAll 1 (by kernel_rfl) (by kernel_rfl) (by kernel_rfl) (by kernel_rfl) (by assumption) ?_
      intro o ho
      simp only [List.getElem?_toArray, List.getElem?_cons_succ, List.getElem?_cons_zero, Option.some.injEq] at ho
      subst ho
      refine ⟨?_, fun _ _ _ h => h, Or.inl ⟨by rfl, ?_⟩, ?_⟩
      rotate_left
      · intro w hSw
        go_simp
        try with_reducible rfl
      simp only [Act.put, List.setIfInBounds_toArray, List.set_cons_zero, List.set_cons_succ]
      refine wpUpto.takeAll 2 (by kernel_rfl) (by kernel_rfl) (by kernel_rfl) (by kernel_rfl) (by assumption) ?_
      intro o ho
      simp only [List.getElem?_toArray, List.getElem?_cons_succ, List.getElem?_cons_zero, Option.some.injEq] at ho
      subst ho
      refine ⟨?_, fun _ _ _ h => h, Or.inl ⟨by rfl, ?_⟩, ?_⟩
      rotate_left
      · intro w hSw
        go_simp
        try with_reducible rfl
      simp only [Act.put, List.setIfInBounds_toArray, List.set_cons_zero, List.set_cons_succ]
      refine wpUpto.takeAll 3 (by kernel_rfl) (by kernel_rfl) (by kernel_rfl) (by kernel_rfl) (by assumption) ?_
      intro o ho
      simp only [List.getElem?_toArray, List.getElem?_cons_succ, List.getElem?_cons_zero, Option.some.injEq] at ho
      subst ho
      refine ⟨?_, fun _ _ _ h => h, Or.inl ⟨by rfl, ?_⟩, ?_⟩
      rotate_left
      · intro w hSw
        go_simp
        try with_reducible rfl
      simp only [Act.put, List.setIfInBounds_toArray, List.set_cons_zero, List.set_cons_succ]
      refine wpUpto.takeAll 4 (by kernel_rfl) (by kernel_rfl) (by kernel_rfl) (by kernel_rfl) (by assumption) ?_
      intro o ho
      simp only [List.getElem?_toArray, List.getElem?_cons_succ, List.getElem?_cons_zero, Option.some.injEq] at ho
      subst ho
      refine ⟨?_, fun _ _ _ h => h, Or.inl ⟨by rfl, ?_⟩, ?_⟩
      rotate_left
      · intro w hSw
        go_simp
        try with_reducible rfl
      simp only [Act.put, List.setIfInBounds_toArray, List.set_cons_zero, List.set_cons_succ]
      refine wpUpto.takeAll 5 (by kernel_rfl) (by kernel_rfl) (by kernel_rfl) (by kernel_rfl) (by assumption) ?_
      intro o ho
      simp only [List.getElem?_toArray, List.getElem?_cons_succ, List.getElem?_cons_zero, Option.some.injEq] at ho
      subst ho
      refine ⟨?_, fun _ _ _ h => h, Or.inl ⟨by rfl, ?_⟩, ?_⟩
      rotate_left
      · intro w hSw
        go_simp
        try with_reducible rfl
      simp only [Act.put, List.setIfInBounds_toArray, List.set_cons_zero, List.set_cons_succ]
      refine wpUpto.takeAll 6 (by kernel_rfl) (by kernel_rfl) (by kernel_rfl) (by kernel_rfl) (by assumption) ?_
      intro o ho
      simp only [List.getElem?_toArray, List.getElem?_cons_succ, List.getElem?_cons_zero, Option.some.injEq] at ho
      subst ho
      refine ⟨?_, fun _ _ _ h => h, Or.inl ⟨by rfl, ?_⟩, ?_⟩
      rotate_left
      · intro w hSw
        go_simp
        try with_reducible rfl
      simp only [Act.put, List.setIfInBounds_toArray, List.set_cons_zero, List.set_cons_succ]
      refine wpUpto.takeAll 7 (by kernel_rfl) (by kernel_rfl) (by kernel_rfl) (by kernel_rfl) (by assumption) ?_
      intro o ho
      simp only [List.getElem?_toArray, List.getElem?_cons_succ, List.getElem?_cons_zero, Option.some.injEq] at ho
      subst ho
      refine ⟨?_, fun _ _ _ h => h, Or.inl ⟨by rfl, ?_⟩, ?_⟩
      rotate_left
      · intro w hSw
        go_simp
        try with_reducible rfl
      simp only [Act.put, List.setIfInBounds_toArray, List.set_cons_zero, List.set_cons_succ]
      refine wpUpto.takeAll 8 (by kernel_rfl) (by kernel_rfl) (by kernel_rfl) (by kernel_rfl) (by assumption) ?_
      intro o ho
      simp only [List.getElem?_toArray, List.getElem?_cons_succ, List.getElem?_cons_zero, Option.some.injEq] at ho
      subst ho
      refine ⟨?_, fun _ _ _ h => h, Or.inl ⟨by rfl, ?_⟩, ?_⟩
      rotate_left
      · intro w hSw
        go_simp
        try with_reducible rfl
      simp only [Act.put, List.setIfInBounds_toArray, List.set_cons_zero, List.set_cons_succ]
      refine wpUpto.takeAll 9 (by kernel_rfl) (by kernel_rfl) (by kernel_rfl) (by kernel_rfl) (by assumption) ?_
      intro o ho
      simp only [List.getElem?_toArray, List.getElem?_cons_succ, List.getElem?_cons_zero, Option.some.injEq] at ho
      subst ho
      refine ⟨?_, fun _ _ _ h => h, Or.inl ⟨by rfl, ?_⟩, ?_⟩
      rotate_left
      · intro w hSw
        go_simp
        try with_reducible rfl
      simp only [Act.put, List.setIfInBounds_toArray, List.set_cons_zero, List.set_cons_succ]
      refine wpUpto.takeAll 10 (by kernel_rfl) (by kernel_rfl) (by kernel_rfl) (by kernel_rfl) (by assumption) ?_
      intro o ho
      simp only [List.getElem?_toArray, List.getElem?_cons_succ, List.getElem?_cons_zero, Option.some.injEq] at ho
      subst ho
      refine ⟨?_, fun _ _ _ h => h, Or.inl ⟨by rfl, ?_⟩, ?_⟩
      rotate_left
      · intro w hSw
        go_simp
        try with_reducible rfl
      simp only [Act.put, List.setIfInBounds_toArray, List.set_cons_zero, List.set_cons_succ]
      refine wpUpto.takeAll 12 (by kernel_rfl) (by kernel_rfl) (by kernel_rfl) (by kernel_rfl) (by assumption) ?_
      intro o ho
      simp only [List.getElem?_toArray, List.getElem?_cons_succ, List.getElem?_cons_zero, Option.some.injEq] at ho
      subst ho
      refine ⟨?_, fun _ _ _ h => h, Or.inl ⟨by rfl, ?_⟩, ?_⟩
      rotate_left
      · intro w hSw
        go_simp
        try with_reducible rfl
      simp only [Act.put, List.setIfInBounds_toArray, List.set_cons_zero, List.set_cons_succ]
      refine wpUpto.takeAll 13 (by kernel_rfl) (by kernel_rfl) (by kernel_rfl) (by kernel_rfl) (by assumption) ?_
      intro o ho
      simp only [List.getElem?_toArray, List.getElem?_cons_succ, List.getElem?_cons_zero, Option.some.injEq] at ho
      subst ho
      refine ⟨?_, fun _ _ _ h => h, Or.inl ⟨by rfl, ?_⟩, ?_⟩
      rotate_left
      · intro w hSw
        go_simp
        try with_reducible rfl
      simp only [Act.put, List.setIfInBounds_toArray, List.set_cons_zero, List.set_cons_succ]
      refine wpUpto.one 11 (by kernel_rfl) ?_
      intro o ho K hK
      simp only [List.getElem?_toArray, List.getElem?_cons_succ, List.getElem?_cons_zero, Option.some.injEq] at ho
      subst ho
      go_simp
      go_at_call 30
      refine (P1.out _ HW.out).mono ?_
      rintro e w5 ⟨rfl, h5⟩
      have H5 := Lib.hid h5
      have cx5 : w5.cell? ⟨b, 0, none⟩ = some (.pointer (some ⟨u, 0, none⟩)) := h5.blk.cell 0
      clear h5
      refine hK.out _ _ ?_ (fun hHeld => ?_)
      · exact cx5
      clear hK K
      try simp only [Act.put, List.setIfInBounds_toArray, List.set_cons_zero, List.set_cons_succ]
      refine wpUpto.takeAll 14 (by kernel_rfl) (by kernel_rfl) (by kernel_rfl) (by kernel_rfl) (by assumption) ?_
      intro o ho
      simp only [List.getElem?_toArray, List.getElem?_cons_succ, List.getElem?_cons_zero, Option.some.injEq] at ho
      subst ho
      refine ⟨?_, fun _ _ _ h => h, Or.inl ⟨by rfl, ?_⟩, ?_⟩
      rotate_left
      · intro w hSw
        go_simp
        try with_reducible rfl
      simp only [Act.put, List.setIfInBounds_toArray, List.set_cons_zero, List.set_cons_succ]
      refine wpUpto.takeAll 15 (by kernel_rfl) (by kernel_rfl) (by kernel_rfl) (by kernel_rfl) (by assumption) ?_
      intro o ho
      simp only [List.getElem?_toArray, List.getElem?_cons_succ, List.getElem?_cons_zero, Option.some.injEq] at ho
      subst ho
      refine ⟨?_, fun _ _ _ h => h, Or.inl ⟨by rfl, ?_⟩, ?_⟩
      rotate_left
      · intro w hSw
        go_simp
        try with_reducible rfl
      simp only [Act.put, List.setIfInBounds_toArray, List.set_cons_zero, List.set_cons_succ]
      refine wpUpto.takeAll 16 (by kernel_rfl) (by kernel_rfl) (by kernel_rfl) (by kernel_rfl) (by assumption) ?_
      intro o ho
      simp only [List.getElem?_toArray, List.getElem?_cons_succ, List.getElem?_cons_zero, Option.some.injEq] at ho
      subst ho
      refine ⟨?_, fun _ _ _ h => h, Or.inl ⟨by rfl, ?_⟩, ?_⟩
      rotate_left
      · intro w hSw
        go_simp
        try with_reducible rfl
      simp only [Act.put, List.setIfInBounds_toArray, List.set_cons_zero, List.set_cons_succ]
      refine wpUpto.one 17 (by kernel_rfl) ?_
      intro o ho K hK
      simp only [List.getElem?_toArray, List.getElem?_cons_succ, List.getElem?_cons_zero, Option.some.injEq] at ho
      subst ho
      go_simp
      refine hK.out _ _ ?_ (fun hHeld => ?_)
      · exact cx5
      clear hK K
      try simp only [Act.put, List.setIfInBounds_toArray, List.set_cons_zero, List.set_cons_succ]
      refine wpUpto.done (by kernel_rfl) ?_ _
      refine NoPanic.normal ?_
      try simp only [Act.put, List.setIfInBounds_toArray, List.set_cons_zero, List.set_cons_succ]
      clear P1 cx HW
      have HW5 : Hid (WAt (fun _ => False) w w5.drew b u c' r y1) := H5.out.drew
      have cy : w5.cell? ⟨b, 1, none⟩ = some (.pointer (some ⟨c', 0, none⟩)) := H5.out.blk.cell 1
      go_upto_region 10 with (fail)
      refine wp_region_noPanic ?_
      refine wp_region_upto (fun V => V.cell? ⟨b, 1, none⟩ = some (.pointer (some ⟨c', 0, none⟩))) 18 (by kernel_rfl) ?_ (fun hHeld => ?_)
      · exact cy
      refine wpUpto.takeAll 0 (by kernel_rfl) (by kernel_rfl) (by kernel_rfl) (by kernel_rfl) (by assumption) ?_
      intro o ho
      simp only [List.getElem?_toArray, List.getElem?_cons_zero, Option.some.injEq] at ho
      subst ho
      refine ⟨?_, fun _ _ _ h => h, Or.inl ⟨by rfl, ?_⟩, ?_⟩
      rotate_left
      · intro w hSw
        go_simp
        try with_reducible rfl
      simp only [Act.put, List.setIfInBounds_toArray, List.set_cons_zero, List.set_cons_succ]
      refine wpUpto.takeAll 1 (by kernel_rfl) (by kernel_rfl) (by kernel_rfl) (by kernel_rfl) (by assumption) ?_
      intro o ho
      simp only [List.getElem?_toArray, List.getElem?_cons_succ, List.getElem?_cons_zero, Option.some.injEq] at ho
      subst ho
      refine ⟨?_, fun _ _ _ h => h, Or.inl ⟨by rfl, ?_⟩, ?_⟩
      rotate_left
      · intro w hSw
        go_simp
        try with_reducible rfl
      simp only [Act.put, List.setIfInBounds_toArray, List.set_cons_zero, List.set_cons_succ]
      refine wpUpto.takeAll 2 (by kernel_rfl) (by kernel_rfl) (by kernel_rfl) (by kernel_rfl) (by assumption) ?_
      intro o ho
      simp only [List.getElem?_toArray, List.getElem?_cons_succ, List.getElem?_cons_zero, Option.some.injEq] at ho
      subst ho
      refine ⟨?_, fun _ _ _ h => h, Or.inl ⟨by rfl, ?_⟩, ?_⟩
      rotate_left
      · intro w hSw
        go_simp
        try with_reducible rfl
      simp only [Act.put, List.setIfInBounds_toArray, List.set_cons_zero, List.set_cons_succ]
      refine wpUpto.takeAll 3 (by kernel_rfl) (by kernel_rfl) (by kernel_rfl) (by kernel_rfl) (by assumption) ?_
      intro o ho
      simp only [List.getElem?_toArray, List.getElem?_cons_succ, List.getElem?_cons_zero, Option.some.injEq] at ho
      subst ho
      refine ⟨?_, fun _ _ _ h => h, Or.inl ⟨by rfl, ?_⟩, ?_⟩
      rotate_left
      · intro w hSw
        go_simp
        try with_reducible rfl
      simp only [Act.put, List.setIfInBounds_toArray, List.set_cons_zero, List.set_cons_succ]
      refine wpUpto.takeAll 4 (by kernel_rfl) (by kernel_rfl) (by kernel_rfl) (by kernel_rfl) (by assumption) ?_
      intro o ho
      simp only [List.getElem?_toArray, List.getElem?_cons_succ, List.getElem?_cons_zero, Option.some.injEq] at ho
      subst ho
      refine ⟨?_, fun _ _ _ h => h, Or.inl ⟨by rfl, ?_⟩, ?_⟩
      rotate_left
      · intro w hSw
        go_simp
        try with_reducible rfl
      simp only [Act.put, List.setIfInBounds_toArray, List.set_cons_zero, List.set_cons_succ]
      refine wpUpto.takeAll 5 (by kernel_rfl) (by kernel_rfl) (by kernel_rfl) (by kernel_rfl) (by assumption) ?_
      intro o ho
      simp only [List.getElem?_toArray, List.getElem?_cons_succ, List.getElem?_cons_zero, Option.some.injEq] at ho
      subst ho
      refine ⟨?_, fun _ _ _ h => h, Or.inl ⟨by rfl, ?_⟩, ?_⟩
      rotate_left
      · intro w hSw
        go_simp
        try with_reducible rfl
      simp only [Act.put, List.setIfInBounds_toArray, List.set_cons_zero, List.set_cons_succ]
      refine wpUpto.takeAll 6 (by kernel_rfl) (by kernel_rfl) (by kernel_rfl) (by kernel_rfl) (by assumption) ?_
      intro o ho
      simp only [List.getElem?_toArray, List.getElem?_cons_succ, List.getElem?_cons_zero, Option.some.injEq] at ho
      subst ho
      refine ⟨?_, fun _ _ _ h => h, Or.inl ⟨by rfl, ?_⟩, ?_⟩
      rotate_left
      · intro w hSw
        go_simp
        try with_reducible rfl
      simp only [Act.put, List.setIfInBounds_toArray, List.set_cons_zero, List.set_cons_succ]
      refine wpUpto.takeAll 7 (by kernel_rfl) (by kernel_rfl) (by kernel_rfl) (by kernel_rfl) (by assumption) ?_
      intro o ho
      simp only [List.getElem?_toArray, List.getElem?_cons_succ, List.getElem?_cons_zero, Option.some.injEq] at ho
      subst ho
      refine ⟨?_, fun _ _ _ h => h, Or.inl ⟨by rfl, ?_⟩, ?_⟩
      rotate_left
      · intro w hSw
        go_simp
        try with_reducible rfl
      simp only [Act.put, List.setIfInBounds_toArray, List.set_cons_zero, List.set_cons_succ]
      refine wpUpto.takeAll 8 (by kernel_rfl) (by kernel_rfl) (by kernel_rfl) (by kernel_rfl) (by assumption) ?_
      intro o ho
      simp only [List.getElem?_toArray, List.getElem?_cons_succ, List.getElem?_cons_zero, Option.some.injEq] at ho
      subst ho
      refine ⟨?_, fun _ _ _ h => h, Or.inl ⟨by rfl, ?_⟩, ?_⟩
      rotate_left
      · intro w hSw
        go_simp
        try with_reducible rfl
      simp only [Act.put, List.setIfInBounds_toArray, List.set_cons_zero, List.set_cons_succ]
      refine wpUpto.takeAll 9 (by kernel_rfl) (by kernel_rfl) (by kernel_rfl) (by kernel_rfl) (by assumption) ?_
      intro o ho
      simp only [List.getElem?_toArray, List.getElem?_cons_succ, List.getElem?_cons_zero, Option.some.injEq] at ho
      subst ho
      refine ⟨?_, fun _ _ _ h => h, Or.inl ⟨by rfl, ?_⟩, ?_⟩
      rotate_left
      · intro w hSw
        go_simp
        try with_reducible rfl
      simp only [Act.put, List.setIfInBounds_toArray, List.set_cons_zero, List.set_cons_succ]
      refine wpUpto.takeAll 10 (by kernel_rfl) (by kernel_rfl) (by kernel_rfl) (by kernel_rfl) (by assumption) ?_
      intro o ho
      simp only [List.getElem?_toArray, List.getElem?_cons_succ, List.getElem?_cons_zero, Option.some.injEq] at ho
      subst ho
      refine ⟨?_, fun _ _ _ h => h, Or.inl ⟨by rfl, ?_⟩, ?_⟩
      rotate_left
      · intro w hSw
        go_simp
        try with_reducible rfl
      simp only [Act.put, List.setIfInBounds_toArray, List.set_cons_zero, List.set_cons_succ]
      refine wpUpto.takeAll 12 (by kernel_rfl) (by kernel_rfl) (by kernel_rfl) (by kernel_rfl) (by assumption) ?_
      intro o ho
      simp only [List.getElem?_toArray, List.getElem?_cons_succ, List.getElem?_cons_zero, Option.some.injEq] at ho
      subst ho
      refine ⟨?_, fun _ _ _ h => h, Or.inl ⟨by rfl, ?_⟩, ?_⟩
      rotate_left
      · intro w hSw
        go_simp
        try with_reducible rfl
      simp only [Act.put, List.setIfInBounds_toArray, List.set_cons_zero, List.set_cons_succ]
      refine wpUpto.takeAll 13 (by kernel_rfl) (by kernel_rfl) (by kernel_rfl) (by kernel_rfl) (by assumption) ?_
      intro o ho
      simp only [List.getElem?_toArray, List.getElem?_cons_succ, List.getElem?_cons_zero, Option.some.injEq] at ho
      subst ho
      refine ⟨?_, fun _ _ _ h => h, Or.inl ⟨by rfl, ?_⟩, ?_⟩
      rotate_left
      · intro w hSw
        go_simp
        try with_reducible rfl
      simp only [Act.put, List.setIfInBounds_toArray, List.set_cons_zero, List.set_cons_succ]
      refine wpUpto.one 11 (by kernel_rfl) ?_
      intro o ho K hK
      simp only [List.getElem?_toArray, List.getElem?_cons_succ, List.getElem?_cons_zero, Option.some.injEq] at ho
      subst ho
      go_simp
      go_at_call 30
      refine (P2.out _ HW5.out).mono ?_
      rintro e w6 ⟨rfl, h6⟩
      have H6 := Lib.hid h6
      have cy6 : w6.cell? ⟨b, 1, none⟩ = some (.pointer (some ⟨c', 0, none⟩)) := h6.blk.cell 1
      clear h6
      refine hK.out _ _ ?_ (fun hHeld => ?_)
      · exact cy6
      clear hK K
      try simp only [Act.put, List.setIfInBounds_toArray, List.set_cons_zero, List.set_cons_succ]
      refine wpUpto.takeAll 14 (by kernel_rfl) (by kernel_rfl) (by kernel_rfl) (by kernel_rfl) (by assumption) ?_
      intro o ho
      simp only [List.getElem?_toArray, List.getElem?_cons_succ, List.getElem?_cons_zero, Option.some.injEq] at ho
      subst ho
      refine ⟨?_, fun _ _ _ h => h, Or.inl ⟨by rfl, ?_⟩, ?_⟩
      rotate_left
      · intro w hSw
        go_simp
        try with_reducible rfl
      simp only [Act.put, List.setIfInBounds_toArray, List.set_cons_zero, List.set_cons_succ]
      refine wpUpto.takeAll 15 (by kernel_rfl) (by kernel_rfl) (by kernel_rfl) (by kernel_rfl) (by assumption) ?_
      intro o ho
      simp only [List.getElem?_toArray, List.getElem?_cons_succ, List.getElem?_cons_zero, Option.some.injEq] at ho
      subst ho
      refine ⟨?_, fun _ _ _ h => h, Or.inl ⟨by rfl, ?_⟩, ?_⟩
      rotate_left
      · intro w hSw
        go_simp
        try with_reducible rfl
      simp only [Act.put, List.setIfInBounds_toArray, List.set_cons_zero, List.set_cons_succ]
      refine wpUpto.takeAll 16 (by kernel_rfl) (by kernel_rfl) (by kernel_rfl) (by kernel_rfl) (by assumption) ?_
      intro o ho
      simp only [List.getElem?_toArray, List.getElem?_cons_succ, List.getElem?_cons_zero, Option.some.injEq] at ho
      subst ho
      refine ⟨?_, fun _ _ _ h => h, Or.inl ⟨by rfl, ?_⟩, ?_⟩
      rotate_left
      · intro w hSw
        go_simp
        try with_reducible rfl
      simp only [Act.put, List.setIfInBounds_toArray, List.set_cons_zero, List.set_cons_succ]
      refine wpUpto.one 17 (by kernel_rfl) ?_
      intro o ho K hK
      simp only [List.getElem?_toArray, List.getElem?_cons_succ, List.getElem?_cons_zero, Option.some.injEq] at ho
      subst ho
      go_simp
      refine hK.out _ _ ?_ (fun hHeld => ?_)
      · exact cy6
      clear hK K
      try simp only [Act.put, List.setIfInBounds_toArray, List.set_cons_zero, List.set_cons_succ]
      refine wpUpto.done (by kernel_rfl) ?_ _
      refine NoPanic.normal ?_
      try simp only [Act.put, List.setIfInBounds_toArray, List.set_cons_zero, List.set_cons_succ]
      clear P2 cy HW5 H5 hsl2 hsl3 hmin1 hmin2 cx5 cy6
      go_upto_if 73 with (fail)
      go_cut [78] (fun _ wc => Hid (∃ y3, WAt (fun _ => False) w wc b u c' r y3 ∧ Sh y3 (hu || a2.isEmpty) a1 o1 [] [] hc b1 o0 [] [] R1 R0 (2 * j)))
      case first =>
        as_aux_lemma =>
        have cx6 : w6.cell? ⟨b, 0, none⟩ = some (.pointer (some ⟨u, 0, none⟩)) := H6.out.blk.cell 0
        by_cases h0 : N4 = 0
        · have ha2 : a2 = [] := List.eq_nil_of_length_eq_zero (by have := X2.out.2.2.1; omega)
          subst h0
          have HH := Lib.hid (WHang H6.out (k := 1) (s := 0) (p := u) (z := 0) (by omega) (by omega) rfl rfl)
          go_wp2_with fail
          refine HH.out.mono ?_
          rintro e w7 ⟨rfl, h7, -⟩
          have H7 := Lib.hid h7
          clear h7
          go_wp2_with fail
          go_meet
          case rel => exact ⟨_, H7.out, by rw [ha2, List.isEmpty_nil, Bool.or_true]; exact X1.out.1.hang0⟩
        · have hne : a2.isEmpty = false := by
            have := X2.out.2.2.1
            cases a2 with
            | nil => simp at this; omega
            | cons => rfl
          go_wp2_with fail
          go_meet
          case rel => exact ⟨_, H6.out, by rw [hne, Bool.or_false]; exact X1.out.1⟩
      case rest =>
        as_aux_lemma =>
        have HC := hcut
        clear hcut H6
        have hp1 : a1 = [] → (hu || a2.isEmpty) = true := fun e => by rw [X1.out.2.2.1 e]; simp
        have ho1 : o1 = true → a1 = [] := fun e => (List.append_eq_nil_iff.1 (X1.out.2.1.o1_ e)).1
        have ho0 : o0 = true → b1 = [] ∧ o1 = true := fun e => ⟨(List.append_eq_nil_iff.1 (X1.out.2.1.o0_ e).1).1, (X1.out.2.1.o0_ e).2⟩
        have ho1' : (o1 || a1.isEmpty) = true → a1 = [] := fun e => by
          rcases (by simpa using e : o1 = true ∨ a1 = []) with e | e
          · exact ho1 e
          · exact e
        have ho0' : ∀ q : Bool, (o0 || (b1.isEmpty && q)) = true → b1 = [] := fun q e => by
          rcases (by simpa using e : o0 = true ∨ b1 = [] ∧ q = true) with e | e
          · exact (ho0 e).1
          · exact e.1
        have X5 := Lib.hid (And.intro hp1 (And.intro ho1 (And.intro ho0 (And.intro ho1' ho0'))))
        clear hp1 ho1 ho0 ho1' ho0'
        go_wp2_with fail
        go_loopw [79] (fun i wi => ∃ q : Int, (q = 0 ∨ q = 1 ∨ q = 2 ∨ q = 3 ∨ q = 4) ∧ i = .int .i64 q ∧ Hid (∃ y3, WAt (fun _ => False) w wi b u c' r y3 ∧ Mid y3 (hu || a2.isEmpty) a1 o1 hc b1 o0 b2.isEmpty R1 R0 (2 * j) q.toNat)) (fun i _ => 4 - (intOf i).toNat)
        case atStart => obtain ⟨y3, h1, h2⟩ := HC.out; exact ⟨0, .inl rfl, rfl, y3, h1, h2⟩
        case round =>
          obtain ⟨q, hq, rfl, HI⟩ := hrel
          obtain ⟨y3, hat, hmid⟩ := HI.out
          have p1 : wr.cell? ⟨b, 1, none⟩ = some (.pointer (some ⟨c', 0, none⟩)) := hat.blk.cell 1
          have p2 : wr.cell? ⟨b, 2, none⟩ = some (.pointer (some ⟨r, 0, none⟩)) := hat.blk.cell 2
          rcases hq with rfl | rfl | rfl | rfl | rfl
          · as_aux_lemma =>
            have hs : Sh y3 (hu || a2.isEmpty) a1 o1 [] [] hc b1 o0 [] [] R1 R0 (2 * j) := hmid
            have HP := Lib.hid (WStep hat HO.out hs.ok 0 k 0)
            have HS := Lib.hid hs
            clear hat hs hmid
            go_wp2_with fail
            refine HP.out.mono ?_
            rintro e w7 ⟨rfl, h7, -⟩
            have H7 := Lib.hid h7
            clear h7
            go_wp2_with fail
            go_roundw
            case rel => exact ⟨1, .inr (.inl rfl), rfl, y3.go 0 k 0, H7.out, HS.out.step0 (by omega) (by omega) (by omega) (by rw [X2.out.1]; have := X2.out.2.2.2.2.1; omega) (by rw [X2.out.1]; exact X2.out.2.2.2.2.1.1) X5.out.2.1 (fun e => (X5.out.2.2.1 e).2) X5.out.1⟩
            case measure => simp [intOf]
          · as_aux_lemma =>
            have hs : Sh y3 (hu || a2.isEmpty) [] (o1 || a1.isEmpty) [] a1 hc b1 o0 [] [] R1 R0 (2 * j + 1) := hmid
            have HFIN : Hid (∀ (y4 : Wld) (w7 : World), Sh y4 (hu || a2.isEmpty) [] (o1 || a1.isEmpty) [] a1 (hc || (b2.isEmpty && (o1 || a1.isEmpty))) b1 o0 [] [] R1 R0 (2 * j + 1) → WAt (fun _ => False) w w7 b u c' r (y4.go 1 k 1) → ∃ q : Int, (q = 0 ∨ q = 1 ∨ q = 2 ∨ q = 3 ∨ q = 4) ∧ Value.int .i64 2 = .int .i64 q ∧ Hid (∃ y3, WAt (fun _ => False) w w7 b u c' r y3 ∧ Mid y3 (hu || a2.isEmpty) a1 o1 hc b1 o0 b2.isEmpty R1 R0 (2 * j) q.toNat)) := fun y4 w7 h4 hat4 =>
              ⟨2, .inr (.inr (.inl rfl)), rfl, y4.go 1 k 1, hat4, h4.step1 (by omega) (by omega) (by omega) (by rw [X2.out.2.1]; have := X2.out.2.2.2.2.2; omega) (by rw [X2.out.2.1]; exact X2.out.2.2.2.2.2.1) (fun e => (X5.out.2.2.1 e).1)⟩
            have HS := Lib.hid (And.intro hs hat)
            clear hat hs hmid
            by_cases h0 : N5 = 0
            · have hb2 : b2 = [] := List.eq_nil_of_length_eq_zero (by have := X2.out.2.2.2.1; omega)
              have PO : Hid (Calls Tryd.prog 22 #[.pointer (some ⟨c', 0, none⟩), .int .i64 1] wr fun e w' => e = .returned (.bool (o1 || a1.isEmpty)) ∧ wr = w') := by
                have := WOver HS.out.2 HO.out (k := 0) (s := 1) (p := c') (z := 1) (by omega) (by omega) rfl rfl
                rw [show (1 : Nat) - 1 = 0 from rfl, HS.out.1.f00, show ((⟨(o1 || a1.isEmpty), []⟩ : Way).en && (⟨(o1 || a1.isEmpty), []⟩ : Way).xs.isEmpty) = (o1 || a1.isEmpty) from Bool.and_true _] at this
                exact this
              subst h0
              cases hov : (o1 || a1.isEmpty) with
              | true =>
                rw [hov] at PO
                have HH := Lib.hid (WHang HS.out.2 (k := 0) (s := 1) (p := c') (z := 1) (by omega) (by omega) rfl rfl)
                have s4 := HS.out.1.hang1
                have HV := Lib.hid (And.intro hov s4)
                clear hov s4
                go_wp2_with fail
                refine PO.out.mono ?_
                rintro e w' ⟨rfl, rfl⟩
                go_wp2_with fail
                refine HH.out.mono ?_
                rintro e w7 ⟨rfl, h7, -⟩
                have p2' : w7.cell? ⟨b, 2, none⟩ = some (.pointer (some ⟨r, 0, none⟩)) := h7.blk.cell 2
                have HP := Lib.hid (WStep h7 HO.out HV.out.2.ok 1 k 1)
                clear h7 HH p1 p2
                go_wp2_with fail
                refine HP.out.mono ?_
                rintro e w8 ⟨rfl, h8, -⟩
                have H8 := Lib.hid h8
                clear h8
                go_wp2_with fail
                go_roundw
                case rel =>
                  refine HFIN.out (y3.hangs 1) _ ?_ H8.out
                  have := HV.out.2
                  rw [hb2, HV.out.1]
                  rw [HV.out.1] at this
                  simpa using this
                case measure => simp [intOf]
              | false =>
                rw [hov] at PO
                have HP := Lib.hid (WStep HS.out.2 HO.out HS.out.1.ok 1 k 1)
                have HV := Lib.hid hov
                clear hov
                go_wp2_with fail
                refine PO.out.mono ?_
                rintro e w' ⟨rfl, rfl⟩
                go_wp2_with fail
                refine HP.out.mono ?_
                rintro e w8 ⟨rfl, h8, -⟩
                have H8 := Lib.hid h8
                clear h8
                go_wp2_with fail
                go_roundw
                case rel =>
                  refine HFIN.out y3 _ ?_ H8.out
                  have := HS.out.1
                  rw [HV.out] at this ⊢
                  simpa using this
                case measure => simp [intOf]
            · have hne : b2.isEmpty = false := by
                have := X2.out.2.2.2.1
                cases b2 with
                | nil => simp at this; omega
                | cons => rfl
              have HP := Lib.hid (WStep HS.out.2 HO.out HS.out.1.ok 1 k 1)
              have HN := Lib.hid hne
              clear hne
              go_wp2_with fail
              refine HP.out.mono ?_
              rintro e w8 ⟨rfl, h8, -⟩
              have H8 := Lib.hid h8
              clear h8
              go_wp2_with fail
              go_roundw
              case rel =>
                refine HFIN.out y3 _ ?_ H8.out
                have := HS.out.1
                rw [HN.out]
                simpa using this
              case measure => simp [intOf]
          · as_aux_lemma =>
            have hs : Sh y3 (hu || a2.isEmpty) [] (o1 || a1.isEmpty) [] a1 (hc || (b2.isEmpty && (o1 || a1.isEmpty))) [] (o0 || (b1.isEmpty && (hc || (b2.isEmpty && (o1 || a1.isEmpty))))) [] b1 R1 R0 (2 * j + 2) := hmid
            have HP := Lib.hid (WStep hat HO.out hs.ok 2 k 2)
            have HS := Lib.hid hs
            clear hat hs hmid
            go_wp2_with fail
            refine HP.out.mono ?_
            rintro e w7 ⟨rfl, h7, -⟩
            have H7 := Lib.hid h7
            clear h7
            go_wp2_with fail
            go_roundw
            case rel => exact ⟨3, .inr (.inr (.inr (.inl rfl))), rfl, y3.go 2 k 2, H7.out, HS.out.step2 (by rw [X2.out.1]; have := X2.out.2.2.2.2.1; omega) (by rw [X2.out.1]; exact X2.out.2.2.2.2.1.1) X5.out.2.2.2.1⟩
            case measure => simp [intOf]
          · as_aux_lemma =>
            have hs : Sh y3 (hu || a2.isEmpty) [] (o1 || a1.isEmpty) a1 [] (hc || (b2.isEmpty && (o1 || a1.isEmpty))) [] (o0 || (b1.isEmpty && (hc || (b2.isEmpty && (o1 || a1.isEmpty))))) [] b1 R1 R0 (2 * j + 2) := hmid
            have HP := Lib.hid (WStep hat HO.out hs.ok 3 k 3)
            have HS := Lib.hid hs
            clear hat hs hmid
            go_wp2_with fail
            refine HP.out.mono ?_
            rintro e w7 ⟨rfl, h7, -⟩
            have H7 := Lib.hid h7
            clear h7
            go_wp2_with fail
            go_roundw
            case rel => exact ⟨4, .inr (.inr (.inr (.inr rfl))), rfl, y3.go 3 k 3, H7.out, HS.out.step3 (by rw [X2.out.2.1]; have := X2.out.2.2.2.2.2; omega) (by rw [X2.out.2.1]; exact X2.out.2.2.2.2.2.1) (X5.out.2.2.2.2 _)⟩
            case measure => simp [intOf]
          · as_aux_lemma =>
            have hs : Sh y3 (hu || a2.isEmpty) [] (o1 || a1.isEmpty) a1 [] (hc || (b2.isEmpty && (o1 || a1.isEmpty))) [] (o0 || (b1.isEmpty && (hc || (b2.isEmpty && (o1 || a1.isEmpty))))) b1 [] R1 R0 (2 * j + 2) := hmid
            have hfn := X1.out.2.1.next X1.out.2.2.1 X1.out.2.2.2
            have hus := HL.out.1
            have hcs := HL.out.2
            have hRR : R1.length ≤ 200 ∧ R0.length ≤ 200 ∧ (R0 ++ b1).length ≤ 200 := by
              have e1 := congrArg List.length X1.out.2.1.u
              have e2 := congrArg List.length X1.out.2.1.c
              rw [hus] at e1
              rw [hcs] at e2
              simp only [List.length_append] at e1 e2 ⊢
              omega
            have s6 := hs.hear0 (k := k) (by rw [X2.out.2.1]; have := X2.out.2.2.2.2.2; omega)
            have s7 := s6.hear1 (k := k) (by rw [X2.out.1]; have := X2.out.2.2.2.2.1; omega)
            have HP : Hid (Calls Tryd.prog 15 #[.pointer (some ⟨b, 0, none⟩), .agg #[.int .i64 5, .int .i64 k, .int .i64 0, .slice none 0 0]] wr fun e w' => e = .returned (.bool false) ∧ WAt (fun _ => False) w w' b u c' r (y3.hears 0 k)) := by
              have := Do_at hat HO.out hs.ok (hs.short (by omega) (by omega)) 5 k 0 (A := none) (k := 0) (zs := []) (nil_rd w) (by simp)
              rw [Wld.act5] at this
              exact this.mono fun e w' h => ⟨h.1, h.2.1⟩
            have HP2 : Hid (∀ W, WAt (fun _ => False) w W b u c' r (y3.hears 0 k) → Calls Tryd.prog 15 #[.pointer (some ⟨b, 0, none⟩), .agg #[.int .i64 8, .int .i64 k, .int .i64 0, .slice none 0 0]] W fun e w' => e = .returned (.bool false) ∧ WAt (fun _ => False) w w' b u c' r ((y3.hears 0 k).hears 1 k)) := fun W hW => by
              have := Do_at hW HO.out s6.ok (s6.short (by omega) (by omega)) 8 k 0 (A := none) (k := 0) (zs := []) (nil_rd w) (by simp)
              rw [Wld.act8] at this
              exact this.mono fun e w' h => ⟨h.1, h.2.1⟩
            have HF := Lib.hid (And.intro s7 hfn)
            clear hat hs hmid s6 s7 hfn hus hcs hRR p1 p2
            go_wp2_with fail
            refine HP.out.mono ?_
            rintro e w7 ⟨rfl, h7⟩
            have H7 := Lib.hid h7
            clear h7 HP
            go_wp2_with fail
            refine (HP2.out _ H7.out).mono ?_
            rintro e w8 ⟨rfl, h8⟩
            have H8 := Lib.hid h8
            clear h8 HP2
            go_wp2_with fail
            go_roundw
            case rel => exact ⟨j + 1, N4, N5, c4, c5, A4, A5, by omega, by go_num, rfl, rfl, by have := X4.out; omega, by have := X4.out; omega, _, a2, b2, _, _, _, _, _, _, H8.out, by rw [show 2 * (j + 1) = 2 * j + 2 by omega]; exact HF.out.1, X3.out.1, X3.out.2, HF.out.2⟩
            case measure => simp [intOf]; omega
    · as_aux_lemma =>
      obtain rfl : j = 1500 := by omega
      obtain rfl : o0 = true := hfit.fin (by omega)
      obtain ⟨hbs, ho1⟩ := hfit.o0_ rfl
      have has := hfit.o1_ ho1
      have hus := hfit.u
      have hcs := hfit.c
      rw [has, List.append_nil] at hus
      rw [hbs, List.append_nil] at hcs
      subst hus hcs
      have hat2 : WAt (fun _ => False) w wr.drew b u c' r y := hat.drew
      have hdone : y.x.done = true := by unfold Sys.done; rw [hsh.v0, hsh.w0]; rfl
      have cSU : ∀ V, WAt (fun _ => False) w V b u c' r y → (convert 31 9 (.slice A1 m c)).run Tryd.prog V = .ok (.string (str us)) V := fun V hV => run_str (HA.out.1.kept hV.below)
      have cSC : ∀ V, WAt (fun _ => False) w V b u c' r y → (convert 31 9 (.slice A1' m' c2)).run Tryd.prog V = .ok (.string (str cs)) V := fun V hV => run_str (HA.out.2.kept hV.below)
      have cel : ∀ V, WAt (fun _ => False) w V b u c' r y → V.cell? ⟨b, 0, none⟩ = some (.pointer (some ⟨u, 0, none⟩)) ∧ V.cell? ⟨b, 2, none⟩ = some (.pointer (some ⟨r, 0, none⟩)) ∧ V.cell? ⟨b, 5, none⟩ = some (.string (str cs)) ∧ V.cell? ⟨b, 6, none⟩ = some (.string (str us)) := fun V hV => by
        exact ⟨hV.blk.cell 0, hV.blk.cell 2, by rw [← hsh.r0]; exact hV.blk.cell 5, by rw [← hsh.r1]; exact hV.blk.cell 6⟩
      generalize str us = SU at *
      generalize str cs = SC at *
      have ALL : Hid (∀ V, WAt (fun _ => False) w V b u c' r y → (fun V => V.cell? ⟨b, 0, none⟩ = some (.pointer (some ⟨u, 0, none⟩)) ∧ V.cell? ⟨b, 2, none⟩ = some (.pointer (some ⟨r, 0, none⟩)) ∧ V.cell? ⟨b, 5, none⟩ = some (.string SC) ∧ V.cell? ⟨b, 6, none⟩ = some (.string SU) ∧ (convert 31 9 (.slice A1 m c)).run Tryd.prog V = .ok (.string SU) V ∧ (convert 31 9 (.slice A1' m' c2)).run Tryd.prog V = .ok (.string SC) V) V) := fun V hV => ⟨(cel V hV).1, (cel V hV).2.1, (cel V hV).2.2.1, (cel V hV).2.2.2, cSU V hV, cSC V hV⟩
      have HSS : Hid ((fun V => V.cell? ⟨b, 0, none⟩ = some (.pointer (some ⟨u, 0, none⟩)) ∧ V.cell? ⟨b, 2, none⟩ = some (.pointer (some ⟨r, 0, none⟩)) ∧ V.cell? ⟨b, 5, none⟩ = some (.string SC) ∧ V.cell? ⟨b, 6, none⟩ = some (.string SU) ∧ (convert 31 9 (.slice A1 m c)).run Tryd.prog V = .ok (.string SU) V ∧ (convert 31 9 (.slice A1' m' c2)).run Tryd.prog V = .ok (.string SC) V) wr.drew) := ALL.out _ hat2
      have PD : Hid (Calls Tryd.prog 18 #[.pointer (some ⟨r, 0, none⟩)] wr.drew fun e w' => e = .returned (.bool true) ∧ wr.drew = w') := by
        have := WDone hat2
        rwa [hdone] at this
      have PT : Hid (Calls Tryd.prog 19 #[.pointer (some ⟨r, 0, none⟩)] wr.drew fun e w' => ∃ (A7 : Option Addr) (n7 c7 : Nat), e = .returned (.agg #[.slice A7 n7 c7, .bool true]) ∧ WAt (fun _ => False) w w' b u c' r y ∧ (fun V => V.cell? ⟨b, 0, none⟩ = some (.pointer (some ⟨u, 0, none⟩)) ∧ V.cell? ⟨b, 2, none⟩ = some (.pointer (some ⟨r, 0, none⟩)) ∧ V.cell? ⟨b, 5, none⟩ = some (.string SC) ∧ V.cell? ⟨b, 6, none⟩ = some (.string SU) ∧ (convert 31 9 (.slice A1 m c)).run Tryd.prog V = .ok (.string SU) V ∧ (convert 31 9 (.slice A1' m' c2)).run Tryd.prog V = .ok (.string SC) V) w') := by
        refine (WTell hat2 hsh.ok).mono ?_
        intro e w7 h7
        obtain ⟨A7, c7, ls, rfl, -, -, hb7⟩ := h7.evs hsh.ok
        have h8 := hat2.keep hb7
        exact ⟨A7, ls.length, c7, by rw [hsh.v0], h8, ALL.out _ h8⟩
      have PO : Hid (∀ W, WAt (fun _ => False) w W b u c' r y → Calls Tryd.prog 22 #[.pointer (some ⟨u, 0, none⟩), .int .i64 0] W fun e w' => e = .returned (.bool true) ∧ W = w') := fun W hW => by
        have := WOver hW HO.out (k := 1) (s := 0) (p := u) (z := 0) (by omega) (by omega) rfl rfl
        rw [show (1 : Nat) - 0 = 1 from rfl, hsh.f11] at this
        exact this
      clear hat hat2 hsh hra hrb hfit hbs ho1 has hdone cSU cSC cel HS
      go_upto_region 23 with (fail)
      refine wp_region_noPanic ?_
      refine wp_region_upto (fun V => V.cell? ⟨b, 0, none⟩ = some (.pointer (some ⟨u, 0, none⟩)) ∧ V.cell? ⟨b, 2, none⟩ = some (.pointer (some ⟨r, 0, none⟩)) ∧ V.cell? ⟨b, 5, none⟩ = some (.string SC) ∧ V.cell? ⟨b, 6, none⟩ = some (.string SU) ∧ (convert 31 9 (.slice A1 m c)).run Tryd.prog V = .ok (.string SU) V ∧ (convert 31 9 (.slice A1' m' c2)).run Tryd.prog V = .ok (.string SC) V) 41 (by kernel_rfl) ?_ (fun hS0 => ?_)
      · exact HSS.out
      refine wpUpto.takeAll 0 (by kernel_rfl) (by kernel_rfl) (by kernel_rfl) (by kernel_rfl) (by assumption) ?_
      intro o ho
      simp only [List.getElem?_toArray, List.getElem?_cons_zero, Option.some.injEq] at ho
      subst ho
      refine ⟨?_, fun _ _ _ h => h, Or.inl ⟨by rfl, ?_⟩, ?_⟩
      rotate_left
      · intro w hSw
        go_simp
        try with_reducible rfl
      simp only [Act.put, List.setIfInBounds_toArray, List.set_cons_zero, List.set_cons_succ]
      refine wpUpto.takeAll 1 (by kernel_rfl) (by kernel_rfl) (by kernel_rfl) (by kernel_rfl) (by assumption) ?_
      intro o ho
      simp only [List.getElem?_toArray, List.getElem?_cons_succ, List.getElem?_cons_zero, Option.some.injEq] at ho
      subst ho
      refine ⟨?_, fun _ _ _ h => h, Or.inl ⟨by rfl, ?_⟩, ?_⟩
      rotate_left
      · intro w hSw
        go_simp
        try with_reducible rfl
      simp only [Act.put, List.setIfInBounds_toArray, List.set_cons_zero, List.set_cons_succ]
      refine wpUpto.takeAll 2 (by kernel_rfl) (by kernel_rfl) (by kernel_rfl) (by kernel_rfl) (by assumption) ?_
      intro o ho
      simp only [List.getElem?_toArray, List.getElem?_cons_succ, List.getElem?_cons_zero, Option.some.injEq] at ho
      subst ho
      refine ⟨?_, fun _ _ _ h => h, Or.inl ⟨by rfl, ?_⟩, ?_⟩
      rotate_left
      · intro w hSw
        go_simp
        try with_reducible rfl
      simp only [Act.put, List.setIfInBounds_toArray, List.set_cons_zero, List.set_cons_succ]
      refine wpUpto.takeAll 3 (by kernel_rfl) (by kernel_rfl) (by kernel_rfl) (by kernel_rfl) (by assumption) ?_
      intro o ho
      simp only [List.getElem?_toArray, List.getElem?_cons_succ, List.getElem?_cons_zero, Option.some.injEq] at ho
      subst ho
      refine ⟨?_, fun _ _ _ h => h, Or.inl ⟨by rfl, ?_⟩, ?_⟩
      rotate_left
      · intro w hSw
        go_simp
        try with_reducible rfl
      simp only [Act.put, List.setIfInBounds_toArray, List.set_cons_zero, List.set_cons_succ]
      refine wpUpto.one 4 (by kernel_rfl) ?_
      intro o ho K hK
      simp only [List.getElem?_toArray, List.getElem?_cons_succ, List.getElem?_cons_zero, Option.some.injEq] at ho
      subst ho
      go_simp
      go_at_call 18
      refine (PD.out).mono ?_
      rintro e w' ⟨rfl, rfl⟩
      refine hK.out _ _ ?_ (fun hHeld => ?_)
      · exact hS0
      clear hK K
      try simp only [Act.put, List.setIfInBounds_toArray, List.set_cons_zero, List.set_cons_succ]
      refine wpUpto.takeAll 5 (by kernel_rfl) (by kernel_rfl) (by kernel_rfl) (by kernel_rfl) (by assumption) ?_
      intro o ho
      simp only [List.getElem?_toArray, List.getElem?_cons_succ, List.getElem?_cons_zero, Option.some.injEq] at ho
      subst ho
      refine ⟨?_, fun _ _ _ h => h, Or.inl ⟨by rfl, ?_⟩, ?_⟩
      rotate_left
      · intro w hSw
        go_simp
        try with_reducible rfl
      simp only [Act.put, List.setIfInBounds_toArray, List.set_cons_zero, List.set_cons_succ]
      refine wpUpto.takeAll 6 (by kernel_rfl) (by kernel_rfl) (by kernel_rfl) (by kernel_rfl) (by assumption) ?_
      intro o ho
      simp only [List.getElem?_toArray, List.getElem?_cons_succ, List.getElem?_cons_zero, Option.some.injEq] at ho
      subst ho
      refine ⟨?_, fun _ _ _ h => h, Or.inl ⟨by rfl, ?_⟩, ?_⟩
      rotate_left
      · intro w hSw
        go_simp
        try with_reducible rfl
      simp only [Act.put, List.setIfInBounds_toArray, List.set_cons_zero, List.set_cons_succ]
      refine wpUpto.takeAll 7 (by kernel_rfl) (by kernel_rfl) (by kernel_rfl) (by kernel_rfl) (by assumption) ?_
      intro o ho
      simp only [List.getElem?_toArray, List.getElem?_cons_succ, List.getElem?_cons_zero, Option.some.injEq] at ho
      subst ho
      refine ⟨?_, fun _ _ _ h => h, Or.inl ⟨by rfl, ?_⟩, ?_⟩
      rotate_left
      · intro w hSw
        go_simp
        try with_reducible rfl
      simp only [Act.put, List.setIfInBounds_toArray, List.set_cons_zero, List.set_cons_succ]
      refine wpUpto.takeAll 8 (by kernel_rfl) (by kernel_rfl) (by kernel_rfl) (by kernel_rfl) (by assumption) ?_
      intro o ho
      simp only [List.getElem?_toArray, List.getElem?_cons_succ, List.getElem?_cons_zero, Option.some.injEq] at ho
      subst ho
      refine ⟨?_, fun _ _ _ h => h, Or.inl ⟨by rfl, ?_⟩, ?_⟩
      rotate_left
      · intro w hSw
        go_simp
        try with_reducible rfl
      simp only [Act.put, List.setIfInBounds_toArray, List.set_cons_zero, List.set_cons_succ]
      refine wpUpto.takeAll 9 (by kernel_rfl) (by kernel_rfl) (by kernel_rfl) (by kernel_rfl) (by assumption) ?_
      intro o ho
      simp only [List.getElem?_toArray, List.getElem?_cons_succ, List.getElem?_cons_zero, Option.some.injEq] at ho
      subst ho
      refine ⟨?_, fun _ _ _ h => h, Or.inl ⟨by rfl, ?_⟩, ?_⟩
      rotate_left
      · intro w hSw
        go_simp
        try with_reducible rfl
      simp only [Act.put, List.setIfInBounds_toArray, List.set_cons_zero, List.set_cons_succ]
      refine wpUpto.takeAll 10 (by kernel_rfl) (by kernel_rfl) (by kernel_rfl) (by kernel_rfl) (by assumption) ?_
      intro o ho
      simp only [List.getElem?_toArray, List.getElem?_cons_succ, List.getElem?_cons_zero, Option.some.injEq] at ho
      subst ho
      refine ⟨?_, fun _ _ _ h => h, Or.inl ⟨by rfl, ?_⟩, ?_⟩
      rotate_left
      · intro w hSw
        go_simp
        try with_reducible rfl
      simp only [Act.put, List.setIfInBounds_toArray, List.set_cons_zero, List.set_cons_succ]
      refine wpUpto.takeAll 11 (by kernel_rfl) (by kernel_rfl) (by kernel_rfl) (by kernel_rfl) (by assumption) ?_
      intro o ho
      simp only [List.getElem?_toArray, List.getElem?_cons_succ, List.getElem?_cons_zero, Option.some.injEq] at ho
      subst ho
      refine ⟨?_, fun _ _ _ h => h, Or.inl ⟨by rfl, ?_⟩, ?_⟩
      rotate_left
      · intro w hSw
        go_simp
        try with_reducible rfl
      simp only [Act.put, List.setIfInBounds_toArray, List.set_cons_zero, List.set_cons_succ]
      refine wpUpto.takeAll 12 (by kernel_rfl) (by kernel_rfl) (by kernel_rfl) (by kernel_rfl) (by assumption) ?_
      intro o ho
      simp only [List.getElem?_toArray, List.getElem?_cons_succ, List.getElem?_cons_zero, Option.some.injEq] at ho
      subst ho
      refine ⟨?_, fun _ _ _ h => h, Or.inl ⟨by rfl, ?_⟩, ?_⟩
      rotate_left
      · intro w hSw
        go_simp
        try with_reducible rfl
      simp only [Act.put, List.setIfInBounds_toArray, List.set_cons_zero, List.set_cons_succ]
      refine wpUpto.takeAll 13 (by kernel_rfl) (by kernel_rfl) (by kernel_rfl) (by kernel_rfl) (by assumption) ?_
      intro o ho
      simp only [List.getElem?_toArray, List.getElem?_cons_succ, List.getElem?_cons_zero, Option.some.injEq] at ho
      subst ho
      refine ⟨?_, fun _ _ _ h => h, Or.inl ⟨by rfl, ?_⟩, ?_⟩
      rotate_left
      · intro w hSw
        go_simp
        try with_reducible rfl
      simp only [Act.put, List.setIfInBounds_toArray, List.set_cons_zero, List.set_cons_succ]
      refine wpUpto.takeAll 14 (by kernel_rfl) (by kernel_rfl) (by kernel_rfl) (by kernel_rfl) (by assumption) ?_
      intro o ho
      simp only [List.getElem?_toArray, List.getElem?_cons_succ, List.getElem?_cons_zero, Option.some.injEq] at ho
      subst ho
      refine ⟨?_, fun _ _ _ h => h, Or.inl ⟨by rfl, ?_⟩, ?_⟩
      rotate_left
      · intro w hSw
        go_simp
        try with_reducible rfl
      simp only [Act.put, List.setIfInBounds_toArray, List.set_cons_zero, List.set_cons_succ]
      refine wpUpto.takeAll 15 (by kernel_rfl) (by kernel_rfl) (by kernel_rfl) (by kernel_rfl) (by assumption) ?_
      intro o ho
      simp only [List.getElem?_toArray, List.getElem?_cons_succ, List.getElem?_cons_zero, Option.some.injEq] at ho
      subst ho
      refine ⟨?_, fun _ _ _ h => h, Or.inl ⟨by rfl, ?_⟩, ?_⟩
      rotate_left
      · intro w hSw
        go_simp
        try with_reducible rfl
      simp only [Act.put, List.setIfInBounds_toArray, List.set_cons_zero, List.set_cons_succ]
      refine wpUpto.takeAll 16 (by kernel_rfl) (by kernel_rfl) (by kernel_rfl) (by kernel_rfl) (by assumption) ?_
      intro o ho
      simp only [List.getElem?_toArray, List.getElem?_cons_succ, List.getElem?_cons_zero, Option.some.injEq] at ho
      subst ho
      refine ⟨?_, fun _ _ _ h => h, Or.inl ⟨by rfl, ?_⟩, ?_⟩
      rotate_left
      · intro w hSw
        go_simp
        try with_reducible rfl
      simp only [Act.put, List.setIfInBounds_toArray, List.set_cons_zero, List.set_cons_succ]
      refine wpUpto.takeAll 17 (by kernel_rfl) (by kernel_rfl) (by kernel_rfl) (by kernel_rfl) (by assumption) ?_
      intro o ho
      simp only [List.getElem?_toArray, List.getElem?_cons_succ, List.getElem?_cons_zero, Option.some.injEq] at ho
      subst ho
      refine ⟨?_, fun _ _ _ h => h, Or.inl ⟨by rfl, ?_⟩, ?_⟩
      rotate_left
      · intro w hSw
        go_simp
        try with_reducible rfl
      simp only [Act.put, List.setIfInBounds_toArray, List.set_cons_zero, List.set_cons_succ]
      refine wpUpto.takeAll 18 (by kernel_rfl) (by kernel_rfl) (by kernel_rfl) (by kernel_rfl) (by assumption) ?_
      intro o ho
      simp only [List.getElem?_toArray, List.getElem?_cons_succ, List.getElem?_cons_zero, Option.some.injEq] at ho
      subst ho
      refine ⟨?_, fun _ _ _ h => h, Or.inl ⟨by rfl, ?_⟩, ?_⟩
      rotate_left
      · intro w hSw
        go_simp
        try with_reducible rfl
      simp only [Act.put, List.setIfInBounds_toArray, List.set_cons_zero, List.set_cons_succ]
      refine wpUpto.takeAll 19 (by kernel_rfl) (by kernel_rfl) (by kernel_rfl) (by kernel_rfl) (by assumption) ?_
      intro o ho
      simp only [List.getElem?_toArray, List.getElem?_cons_succ, List.getElem?_cons_zero, Option.some.injEq] at ho
      subst ho
      refine ⟨?_, fun _ _ _ h => h, Or.inl ⟨by rfl, ?_⟩, ?_⟩
      rotate_left
      · intro w hSw
        go_simp
        try with_reducible rfl
      simp only [Act.put, List.setIfInBounds_toArray, List.set_cons_zero, List.set_cons_succ]
      refine wpUpto.takeAll 20 (by kernel_rfl) (by kernel_rfl) (by kernel_rfl) (by kernel_rfl) (by assumption) ?_
      intro o ho
      simp only [List.getElem?_toArray, List.getElem?_cons_succ, List.getElem?_cons_zero, Option.some.injEq] at ho
      subst ho
      refine ⟨?_, fun _ _ _ h => h, Or.inl ⟨by rfl, ?_⟩, ?_⟩
      rotate_left
      · intro w hSw
        go_simp
        try with_reducible rfl
      simp only [Act.put, List.setIfInBounds_toArray, List.set_cons_zero, List.set_cons_succ]
      refine wpUpto.takeAll 21 (by kernel_rfl) (by kernel_rfl) (by kernel_rfl) (by kernel_rfl) (by assumption) ?_
      intro o ho
      simp only [List.getElem?_toArray, List.getElem?_cons_succ, List.getElem?_cons_zero, Option.some.injEq] at ho
      subst ho
      refine ⟨?_, fun _ _ _ h => h, Or.inl ⟨by rfl, ?_⟩, ?_⟩
      rotate_left
      · intro w hSw
        go_simp
        try with_reducible rfl
      simp only [Act.put, List.setIfInBounds_toArray, List.set_cons_zero, List.set_cons_succ]
      refine wpUpto.takeAll 22 (by kernel_rfl) (by kernel_rfl) (by kernel_rfl) (by kernel_rfl) (by assumption) ?_
      intro o ho
      simp only [List.getElem?_toArray, List.getElem?_cons_succ, List.getElem?_cons_zero, Option.some.injEq] at ho
      subst ho
      refine ⟨?_, fun _ _ _ h => h, Or.inl ⟨by rfl, ?_⟩, ?_⟩
      rotate_left
      · intro w hSw
        go_simp
        try with_reducible rfl
      simp only [Act.put, List.setIfInBounds_toArray, List.set_cons_zero, List.set_cons_succ]
      refine wpUpto.takeAll 23 (by kernel_rfl) (by kernel_rfl) (by kernel_rfl) (by kernel_rfl) (by assumption) ?_
      intro o ho
      simp only [List.getElem?_toArray, List.getElem?_cons_succ, List.getElem?_cons_zero, Option.some.injEq] at ho
      subst ho
      refine ⟨?_, fun _ _ _ h => h, Or.inl ⟨by rfl, ?_⟩, ?_⟩
      rotate_left
      · intro w hSw
        go_simp
        try with_reducible rfl
      simp only [Act.put, List.setIfInBounds_toArray, List.set_cons_zero, List.set_cons_succ]
      refine wpUpto.takeAll 24 (by kernel_rfl) (by kernel_rfl) (by kernel_rfl) (by kernel_rfl) (by assumption) ?_
      intro o ho
      simp only [List.getElem?_toArray, List.getElem?_cons_succ, List.getElem?_cons_zero, Option.some.injEq] at ho
      subst ho
      refine ⟨?_, fun _ _ _ h => h, Or.inl ⟨by rfl, ?_⟩, ?_⟩
      rotate_left
      · intro w hSw
        go_simp
        try with_reducible rfl
      simp only [Act.put, List.setIfInBounds_toArray, List.set_cons_zero, List.set_cons_succ]
      refine wpUpto.takeAll 25 (by kernel_rfl) (by kernel_rfl) (by kernel_rfl) (by kernel_rfl) (by assumption) ?_
      intro o ho
      simp only [List.getElem?_toArray, List.getElem?_cons_succ, List.getElem?_cons_zero, Option.some.injEq] at ho
      subst ho
      refine ⟨?_, fun _ _ _ h => h, Or.inl ⟨by rfl, ?_⟩, ?_⟩
      rotate_left
      · intro w hSw
        go_simp
        try with_reducible rfl
      simp only [Act.put, List.setIfInBounds_toArray, List.set_cons_zero, List.set_cons_succ]
      refine wpUpto.takeAll 26 (by kernel_rfl) (by kernel_rfl) (by kernel_rfl) (by kernel_rfl) (by assumption) ?_
      intro o ho
      simp only [List.getElem?_toArray, List.getElem?_cons_succ, List.getElem?_cons_zero, Option.some.injEq] at ho
      subst ho
      refine ⟨?_, fun _ _ _ h => h, Or.inl ⟨by rfl, ?_⟩, ?_⟩
      rotate_left
      · intro w hSw
        go_simp
        try with_reducible rfl
      simp only [Act.put, List.setIfInBounds_toArray, List.set_cons_zero, List.set_cons_succ]
      refine wpUpto.takeAll 27 (by kernel_rfl) (by kernel_rfl) (by kernel_rfl) (by kernel_rfl) (by assumption) ?_
      intro o ho
      simp only [List.getElem?_toArray, List.getElem?_cons_succ, List.getElem?_cons_zero, Option.some.injEq] at ho
      subst ho
      refine ⟨?_, fun _ _ _ h => h, Or.inl ⟨by rfl, ?_⟩, ?_⟩
      rotate_left
      · intro w hSw
        go_simp
        try with_reducible rfl
      simp only [Act.put, List.setIfInBounds_toArray, List.set_cons_zero, List.set_cons_succ]
      refine wpUpto.takeAll 28 (by kernel_rfl) (by kernel_rfl) (by kernel_rfl) (by kernel_rfl) (by assumption) ?_
      intro o ho
      simp only [List.getElem?_toArray, List.getElem?_cons_succ, List.getElem?_cons_zero, Option.some.injEq] at ho
      subst ho
      refine ⟨?_, fun _ _ _ h => h, Or.inl ⟨by rfl, ?_⟩, ?_⟩
      rotate_left
      · intro w hSw
        go_simp
        try with_reducible rfl
      simp only [Act.put, List.setIfInBounds_toArray, List.set_cons_zero, List.set_cons_succ]
      refine wpUpto.takeAll 29 (by kernel_rfl) (by kernel_rfl) (by kernel_rfl) (by kernel_rfl) (by assumption) ?_
      intro o ho
      simp only [List.getElem?_toArray, List.getElem?_cons_succ, List.getElem?_cons_zero, Option.some.injEq] at ho
      subst ho
      refine ⟨?_, fun _ _ _ h => h, Or.inl ⟨by rfl, ?_⟩, ?_⟩
      rotate_left
      · intro w hSw
        go_simp
        try with_reducible rfl
      simp only [Act.put, List.setIfInBounds_toArray, List.set_cons_zero, List.set_cons_succ]
      refine wpUpto.one 30 (by kernel_rfl) ?_
      intro o ho K hK
      simp only [List.getElem?_toArray, List.getElem?_cons_succ, List.getElem?_cons_zero, Option.some.injEq] at ho
      subst ho
      go_simp
      go_at_call 19
      refine (PT.out).mono ?_
      rintro e w7 ⟨A7, n7, c7, rfl, h7, hS7⟩
      have H7 := Lib.hid h7
      have hend := fun W : World => run_end A7 n7 c7 true W
      clear h7
      refine hK.out _ _ ?_ (fun hHeld => ?_)
      · exact hS7
      clear hK K
      try simp only [Act.put, List.setIfInBounds_toArray, List.set_cons_zero, List.set_cons_succ]
      refine wpUpto.takeAll 31 (by kernel_rfl) (by kernel_rfl) (by kernel_rfl) (by kernel_rfl) (by assumption) ?_
      intro o ho
      simp only [List.getElem?_toArray, List.getElem?_cons_succ, List.getElem?_cons_zero, Option.some.injEq] at ho
      subst ho
      refine ⟨?_, fun _ _ _ h => h, Or.inl ⟨by rfl, ?_⟩, ?_⟩
      rotate_left
      · intro w hSw
        go_simp
        try with_reducible rfl
      simp only [Act.put, List.setIfInBounds_toArray, List.set_cons_zero, List.set_cons_succ]
      refine wpUpto.takeAll 32 (by kernel_rfl) (by kernel_rfl) (by kernel_rfl) (by kernel_rfl) (by assumption) ?_
      intro o ho
      simp only [List.getElem?_toArray, List.getElem?_cons_succ, List.getElem?_cons_zero, Option.some.injEq] at ho
      subst ho
      refine ⟨?_, fun _ _ _ h => h, Or.inl ⟨by rfl, ?_⟩, ?_⟩
      rotate_left
      · intro w hSw
        go_simp
        try with_reducible rfl
      simp only [Act.put, List.setIfInBounds_toArray, List.set_cons_zero, List.set_cons_succ]
      refine wpUpto.takeAll 33 (by kernel_rfl) (by kernel_rfl) (by kernel_rfl) (by kernel_rfl) (by assumption) ?_
      intro o ho
      simp only [List.getElem?_toArray, List.getElem?_cons_succ, List.getElem?_cons_zero, Option.some.injEq] at ho
      subst ho
      refine ⟨?_, fun _ _ _ h => h, Or.inl ⟨by rfl, ?_⟩, ?_⟩
      rotate_left
      · intro w hSw
        go_simp
        try with_reducible rfl
      simp only [Act.put, List.setIfInBounds_toArray, List.set_cons_zero, List.set_cons_succ]
      refine wpUpto.takeAll 34 (by kernel_rfl) (by kernel_rfl) (by kernel_rfl) (by kernel_rfl) (by assumption) ?_
      intro o ho
      simp only [List.getElem?_toArray, List.getElem?_cons_succ, List.getElem?_cons_zero, Option.some.injEq] at ho
      subst ho
      refine ⟨?_, fun _ _ _ h => h, Or.inl ⟨by rfl, ?_⟩, ?_⟩
      rotate_left
      · intro w hSw
        go_simp
        try with_reducible rfl
      simp only [Act.put, List.setIfInBounds_toArray, List.set_cons_zero, List.set_cons_succ]
      refine wpUpto.takeAll 35 (by kernel_rfl) (by kernel_rfl) (by kernel_rfl) (by kernel_rfl) (by assumption) ?_
      intro o ho
      simp only [List.getElem?_toArray, List.getElem?_cons_succ, List.getElem?_cons_zero, Option.some.injEq] at ho
      subst ho
      refine ⟨?_, fun _ _ _ h => h, Or.inl ⟨by rfl, ?_⟩, ?_⟩
      rotate_left
      · intro w hSw
        go_simp
        try with_reducible rfl
      simp only [Act.put, List.setIfInBounds_toArray, List.set_cons_zero, List.set_cons_succ]
      refine wpUpto.takeAll 36 (by kernel_rfl) (by kernel_rfl) (by kernel_rfl) (by kernel_rfl) (by assumption) ?_
      intro o ho
      simp only [List.getElem?_toArray, List.getElem?_cons_succ, List.getElem?_cons_zero, Option.some.injEq] at ho
      subst ho
      refine ⟨?_, fun _ _ _ h => h, Or.inl ⟨by rfl, ?_⟩, ?_⟩
      rotate_left
      · intro w hSw
        go_simp
        try with_reducible rfl
      simp only [Act.put, List.setIfInBounds_toArray, List.set_cons_zero, List.set_cons_succ]
      refine wpUpto.takeAll 37 (by kernel_rfl) (by kernel_rfl) (by kernel_rfl) (by kernel_rfl) (by assumption) ?_
      intro o ho
      simp only [List.getElem?_toArray, List.getElem?_cons_succ, List.getElem?_cons_zero, Option.some.injEq] at ho
      subst ho
      refine ⟨?_, fun _ _ _ h => h, Or.inl ⟨by rfl, ?_⟩, ?_⟩
      rotate_left
      · intro w hSw
        go_simp
        try with_reducible rfl
      simp only [Act.put, List.setIfInBounds_toArray, List.set_cons_zero, List.set_cons_succ]
      refine wpUpto.one 38 (by kernel_rfl) ?_
      intro o ho K hK
      simp only [List.getElem?_toArray, List.getElem?_cons_succ, List.getElem?_cons_zero, Option.some.injEq] at ho
      subst ho
      go_simp
      go_at_call 22
      refine (PO.out _ H7.out).mono ?_
      rintro e w' ⟨rfl, rfl⟩
      refine hK.out _ _ ?_ (fun hHeld => ?_)
      · exact hS7
      clear hK K
      try simp only [Act.put, List.setIfInBounds_toArray, List.set_cons_zero, List.set_cons_succ]
      refine wpUpto.takeAll 39 (by kernel_rfl) (by kernel_rfl) (by kernel_rfl) (by kernel_rfl) (by assumption) ?_
      intro o ho
      simp only [List.getElem?_toArray, List.getElem?_cons_succ, List.getElem?_cons_zero, Option.some.injEq] at ho
      subst ho
      refine ⟨?_, fun _ _ _ h => h, Or.inl ⟨by rfl, ?_⟩, ?_⟩
      rotate_left
      · intro w hSw
        go_simp
        try with_reducible rfl
      simp only [Act.put, List.setIfInBounds_toArray, List.set_cons_zero, List.set_cons_succ]
      refine wpUpto.one 40 (by kernel_rfl) ?_
      intro o ho K hK
      simp only [List.getElem?_toArray, List.getElem?_cons_succ, List.getElem?_cons_zero, Option.some.injEq] at ho
      subst ho
      go_simp
      refine hK.out _ _ ?_ (fun hHeld => ?_)
      · exact hS7
      clear hK K
      try simp only [Act.put, List.setIfInBounds_toArray, List.set_cons_zero, List.set_cons_succ]
      refine wpUpto.done (by kernel_rfl) ?_ _
      refine NoPanic.normal ?_
      try simp only [Act.put, List.setIfInBounds_toArray, List.set_cons_zero, List.set_cons_succ]
      go_wp2_with fail
      go_ret
      exact ⟨rfl, H7.out.below⟩
end Go.Proofs.YtfmmomdfmmoklaaDoor
