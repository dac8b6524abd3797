/-
  cuecardlaw05.TransJoins answers true for all events and one more: the walk.
  Conditions: times within an int64; the events take at most 2^47 - 4096 bytes.
-/
import Derived.Test.YtbaibabnfbjdeaaTJoins
import Derived.Deep.DeepCutAuto
import Derived.Deep.CutBlock
import Derived.Laws.Concat
namespace Go.Proofs.Ytbaibabnfbjdeaa
open Go.RowKit

/-- string(b) and a byte 3 behind it. -/
theorem str_snoc (l : List Nat) : str l ++ (⟨#[3]⟩ : ByteArray) = str (l ++ [3]) := by
  have h : ∀ a b : ByteArray, a.data.toList = b.data.toList → a = b := by
    intro a b h
    cases a
    cases b
    simp only [ByteArray.mk.injEq]
    exact Array.toList_inj.1 h
  apply h
  rw [ByteArray.data_append, Array.toList_append]
  unfold str
  rw [strOfNums_data, strOfNums_data]
  simp
theorem str_size (l : List Nat) : (str l).size = l.length := by
  show (str l).data.size = _
  rw [← Array.length_toList]
  unfold str
  rw [strOfNums_data]
  simp
theorem str_three {l : List Nat} (h : l.length ≤ 8388608) : ∀ W t, (binOp .add t (.string (str l)) (.string ⟨#[3]⟩)).run Try.prog W = .ok (.string (str (l ++ [3]))) W := by
  intro W t
  have hs : (str l).size = l.length := by
    show (str l).data.size = _
    rw [← Array.length_toList]
    unfold str
    rw [strOfNums_data]
    simp
  have := run_string_add_sum (P := Try.prog) (w := W) (str l) ⟨#[3]⟩ (by rw [hs]; show l.length + 1 ≤ _; omega)
  rw [str_snoc] at this
  simp only [binOp]
  exact this

theorem drew_alloc (w : World) (o : Obj) : w.drew.alloc o = (w.alloc o).drew := rfl

/-- Encode, whatever the events are: its error, and its bytes where there is none. -/
def EncAny (w : World) (l : List PE) (en : Bool) (e : Ending) (w' : World) : Prop :=
  ∃ A n c, e = .returned (.tuple #[.slice A n c, .int .i64 (chkAll l)]) ∧ Below w.heap.size w w' ∧ (chkAll l = 0 → n = (trEnc l en).length ∧ Rd w' (.slice A n c) (bv (trEnc l en)))
theorem Encode_any (v : Value) (l : List Ev) (en : Bool) (w : World) (h : Evs w v l) (ht : ∀ a ∈ pes l, In64 a.time) : Calls Try.prog 10 #[.agg #[v, .bool en]] w (EncAny w (pes l) en) := by
  by_cases hc : chkAll (pes l) = 0
  · refine (Encode_good v l en w h (chkAll_right hc ht)).mono ?_
    rintro e w' ⟨A, c, rfl, hr, hb⟩
    exact ⟨A, _, c, by rw [hc], hb, fun _ => ⟨rfl, hr⟩⟩
  · refine (Encode_bad v l en w h hc).mono ?_
    rintro e w' ⟨rfl, hb⟩
    exact ⟨none, 0, 0, rfl, hb, fun h => absurd h hc⟩

set_option maxRecDepth 100000 in
set_option maxHeartbeats 4000000 in
theorem joins_true (v : Value) (l : List Ev) (d t : Int) (Aa : Option Addr) (ca : Nat) (bs : List Nat) (w : World) (h : Evs w v l) (he : EvOk (fun _ => True) w ⟨d, t, Aa, ca, bs⟩) (ht : ∀ a ∈ l, In64 a.time) (hte : In64 t) (hn : (l.length + 1) * 40 ≤ 140737488355328) :
    Calls Try.prog 9 #[v, .agg #[.int .i64 d, .int .i64 t, .slice Aa bs.length ca]] w fun e w' => e = .returned (.bool true) ∧ Below w.heap.size w w' := by
  have HE := Lib.hid h
  have HV := Lib.hid he
  obtain ⟨A, c, rfl, -⟩ := h.form
  have HN := Lib.hid hn
  have HT := Lib.hid (pes_time ht)
  have HT2 : Hid (∀ a ∈ pes (l ++ [⟨d, t, Aa, ca, bs⟩]), In64 a.time) := by
    intro a ha
    rw [pes_snoc] at ha
    rcases List.mem_append.1 ha with ha | ha
    · exact pes_time ht a ha
    · rw [List.mem_singleton.1 ha]; exact hte
  clear h he ht hte hn
  go_enter Try.func9, Try.ntmps9
  go_wp2_with fail
  refine (Encode_any _ l false _ (HE.out.alloc _) HT.out).mono ?_
  rintro e W1 ⟨A1, n1, c1, rfl, hb1, hr1⟩
  have bx := (Blk.new w 43 #[.int .i64 d, .int .i64 t, .slice Aa bs.length ca]).below hb1 (by simp)
  have hbw := below2 ((Below.refl _ w).alloc (Nat.le_refl _) _) hb1
  have hev := HV.out.keep (W' := W1) fun b _ hlt => hbw.block b hlt
  obtain ⟨A5, c5, w5, A7, c7, w7, hrun5, hrun7, hb5, hb7, hE7⟩ := joined (HE.out.below hbw) hev HN.out
  have hB1 : Below W1.heap.size W1 ((W1.drew.alloc (.cells #[] 43)).alloc (.cells #[.int .i64 d, .int .i64 t, .slice Aa bs.length ca] 43)) := ((Below.refl W1.heap.size W1).drew.alloc (Nat.le_refl _) _).alloc (by simp) _
  have hB2 : Blk ((W1.drew.alloc (.cells #[] 43)).alloc (.cells #[.int .i64 d, .int .i64 t, .slice Aa bs.length ca] 43)) (W1.heap.size + 1) 43 #[.int .i64 d, .int .i64 t, .slice Aa bs.length ca] := by
    have := Blk.new (W1.drew.alloc (.cells #[] 43)) 43 #[.int .i64 d, .int .i64 t, .slice Aa bs.length ca]
    rw [World.size_alloc] at this
    exact this
  obtain ⟨A5B, c5B, w5B, A7B, c7B, w7B, hrun5B, hrun7B, hb5B, hb7B, hE7B⟩ := joined_at (A0 := some ⟨W1.heap.size, 0, none⟩) (HE.out.below hbw) hev HN.out hB1 hB2
  have hC1 : Below W1.heap.size W1 ((W1.drew.alloc (.cells #[.int .i64 d, .int .i64 t, .slice Aa bs.length ca] 43)).alloc (.cells #[] 43)) := ((Below.refl W1.heap.size W1).drew.alloc (Nat.le_refl _) _).alloc (by simp) _
  have hC2 : Blk ((W1.drew.alloc (.cells #[.int .i64 d, .int .i64 t, .slice Aa bs.length ca] 43)).alloc (.cells #[] 43)) W1.heap.size 43 #[.int .i64 d, .int .i64 t, .slice Aa bs.length ca] := (Blk.new W1.drew 43 #[.int .i64 d, .int .i64 t, .slice Aa bs.length ca]).alloc _
  obtain ⟨A5C, c5C, w5C, A7C, c7C, w7C, hrun5C, hrun7C, hb5C, hb7C, hE7C⟩ := joined_at (A0 := some ⟨W1.heap.size + 1, 0, none⟩) (HE.out.below hbw) hev HN.out hC1 hC2
  have HBX := Lib.hid bx
  have kS : ∀ V, Below W1.heap.size W1 V → V.cell? ⟨w.heap.size, 0, none⟩ = some (.int .i64 d) ∧ V.cell? ⟨w.heap.size, 1, none⟩ = some (.int .i64 t) ∧ V.cell? ⟨w.heap.size, 2, none⟩ = some (.slice Aa bs.length ca) := fun V hV => ⟨(HBX.out.below hV HBX.out.lt).cell 0, (HBX.out.below hV HBX.out.lt).cell 1, (HBX.out.below hV HBX.out.lt).cell 2⟩
  have HK := Lib.hid kS
  have o0 := hb5
  have o1 := hb7
  have o2 := hb5B
  have o3 := hb7B
  have o4 := hb5C
  have o5 := hb7C
  have p0 : ∀ cs, Below W1.heap.size W1 (w5.alloc cs) := fun cs => hb5.alloc hb5.size cs
  have p1 : ∀ cs, Below W1.heap.size W1 (W1.drew.alloc cs) := fun cs => (Below.refl W1.heap.size W1).drew.alloc (Nat.le_refl _) cs
  have p2 : ∀ cs cs', Below W1.heap.size W1 ((W1.drew.alloc cs).alloc cs') := fun cs cs' => ((Below.refl W1.heap.size W1).drew.alloc (Nat.le_refl _) _).alloc (by simp) _
  have p3 : Below W1.heap.size W1 W1.drew := (Below.refl W1.heap.size W1).drew
  simp only [drew_alloc] at p1 p2 hrun5 hrun7 hrun5B hrun7B hrun5C hrun7C
  have HO := Lib.hid (And.intro o0 (And.intro o1 (And.intro o2 (And.intro o3 (And.intro o4 o5)))))
  have HP := Lib.hid (And.intro p0 (And.intro p1 (And.intro p2 p3)))
  have H1 := Lib.hid (And.intro hbw hr1)
  have HE7 := Lib.hid (And.intro hE7 (And.intro hE7B hE7C))
  clear hb1 hr1 hbw bx hev hB1 hB2 hC1 hC2 hb5 hb7 hb5B hb7B hb5C hb7C hE7 hE7B hE7C kS o0 o1 o2 o3 o4 o5 p0 p1 p2 p3
  go_upto_region 2 with (fail)
  go_cut [7, 8] (fun s7 s8 wc => ∃ A2 n2 c2, s7 = .slice A2 n2 c2 ∧ s8 = .int .i64 (chkAll (pes (l ++ [⟨d, t, Aa, ca, bs⟩]))) ∧ Hid (Below W1.heap.size W1 wc ∧ (chkAll (pes (l ++ [⟨d, t, Aa, ca, bs⟩])) = 0 → n2 = (trEnc (pes (l ++ [⟨d, t, Aa, ca, bs⟩])) false).length ∧ Rd wc (.slice A2 n2 c2) (bv (trEnc (pes (l ++ [⟨d, t, Aa, ca, bs⟩])) false)))))
  case first =>
    go_region_held3 (fun w' => w'.cell? ⟨w.heap.size, 0, none⟩ = some (.int .i64 d) ∧ w'.cell? ⟨w.heap.size, 1, none⟩ = some (.int .i64 t) ∧ w'.cell? ⟨w.heap.size, 2, none⟩ = some (.slice Aa bs.length ca)) (first | with_reducible exact HK.out _ HP.out.2.2.2 | with_reducible exact HK.out _ (HP.out.2.1 _) | with_reducible exact HK.out _ (HP.out.2.2.1 _ _) | with_reducible exact HK.out _ (HP.out.1 _) | with_reducible exact HK.out _ HO.out.1 | with_reducible exact HK.out _ HO.out.2.1 | with_reducible exact HK.out _ HO.out.2.2.1 | with_reducible exact HK.out _ HO.out.2.2.2.1 | with_reducible exact HK.out _ HO.out.2.2.2.2.1 | with_reducible exact HK.out _ HO.out.2.2.2.2.2 | assumption | (refine ⟨?_, ?_, ?_⟩ <;> assumption)) (first
      | (go_at_call 10; refine (Encode_any _ (l ++ [⟨d, t, Aa, ca, bs⟩]) false _ (by first | exact HE7.out.1 | exact HE7.out.2.1 | exact HE7.out.2.2) HT2.out).mono ?_; rintro e W2 ⟨A2, n2, c2, rfl, hb2, hr2⟩; have hb12 : Below W1.heap.size W1 W2 := (by first | exact below2 HO.out.2.1 hb2 | exact below2 HO.out.2.2.2.1 hb2 | exact below2 HO.out.2.2.2.2.2 hb2); have HR2 := Lib.hid (And.intro hb12 hr2); have hkk := HK.out _ HR2.out.1; clear hb2 hr2 hb12)
      | (refine step_append_run rfl (.tmp 18) (.tmp 19) 22 rfl (.slice (some ⟨W1.heap.size, 0, none⟩) 0 0) (.slice A l.length c) (.slice A5 l.length c5) w5 rfl rfl ?hh ?_; (case hh => with_reducible exact hrun5))
      | (refine step_append_run rfl (.tmp 20) (.tmp 22) 22 rfl (.slice A5 l.length c5) (.slice (some ⟨w5.heap.size, 0, none⟩) 1 1) (.slice A7 (l.length + 1) c7) w7 rfl rfl ?hh ?_; (case hh => with_reducible exact hrun7))
      | (refine step_append_run rfl (.tmp 18) (.tmp 19) 22 rfl (.slice (some ⟨W1.heap.size, 0, none⟩) 0 0) (.slice A l.length c) (.slice A5B l.length c5B) w5B rfl rfl ?hh ?_; (case hh => with_reducible exact hrun5B))
      | (refine step_append_run rfl (.tmp 20) (.tmp 22) 22 rfl (.slice A5B l.length c5B) (.slice (some ⟨W1.heap.size + 1, 0, none⟩) 1 1) (.slice A7B (l.length + 1) c7B) w7B rfl rfl ?hh ?_; (case hh => with_reducible exact hrun7B))
      | (refine step_append_run rfl (.tmp 18) (.tmp 19) 22 rfl (.slice (some ⟨W1.heap.size + 1, 0, none⟩) 0 0) (.slice A l.length c) (.slice A5C l.length c5C) w5C rfl rfl ?hh ?_; (case hh => with_reducible exact hrun5C))
      | (refine step_append_run rfl (.tmp 20) (.tmp 22) 22 rfl (.slice A5C l.length c5C) (.slice (some ⟨W1.heap.size, 0, none⟩) 1 1) (.slice A7C (l.length + 1) c7C) w7C rfl rfl ?hh ?_; (case hh => with_reducible exact hrun7C)))
    all_goals
      go_wp2_with fail
      go_meet
      case rel => exact ⟨A2, n2, c2, rfl, rfl, HR2.out⟩
  case rest =>
    obtain ⟨A2, n2, c2, rfl, rfl, H2⟩ := hcut
    have HBc := Lib.hid (below2 H1.out.1 H2.out.1)
    clear hrun5 hrun7 hrun5B hrun7B hrun5C hrun7C
    by_cases hf : chkAll (pes l) = 0
    · by_cases hg : chkAll (pes (l ++ [⟨d, t, Aa, ca, bs⟩])) = 0
      · obtain ⟨hn1, hra⟩ := H1.out.2 hf
        obtain ⟨hn2, hrb⟩ := H2.out.2 hg
        have hR := chkAll_right hf HT.out
        have HRI := Lib.hid hR
        have hlt : n1 < n2 := by rw [hn1, hn2, pes_snoc]; exact joins_more.2
        have hgt : decide ((n2 : Int) > (n1 : Int)) = true := by simp; omega
        have hgt' : (n1 : Int) < (n2 : Int) := by omega
        have HX := Lib.hid (And.intro hra (And.intro hrb hn1))
        have HL := Lib.hid (trEnc_le false hR)
        rw [hf, hg]
        clear hf hg hn1 hn2 hra hrb hR
        go_wp2_with fail
        refine (Encode_good _ l true _ (HE.out.below HBc.out) HRI.out).mono ?_
        rintro e W3 ⟨A3, c3, rfl, hr3, hb3⟩
        obtain ⟨A4, hsl, hr4⟩ := run_upto (k := n1) (HX.out.2.1.kept hb3) (by omega)
        rw [show (trEnc (pes (l ++ [⟨d, t, Aa, ca, bs⟩])) false).take n1 = trEnc (pes l) false by rw [HX.out.2.2, pes_snoc]; exact joins_more.1] at hr4
        have hra3 := (HX.out.1.kept H2.out.1).kept hb3
        have k1 := str_keeps hra3
        have k2 := str_keeps hr3
        have k3 := str_keeps hr4
        have hcat := str_three (l := trEnc (pes l) false) (by have := HL.out; omega)
        rw [← joins_end] at hcat
        have hsz : (str (trEnc (pes l) false)).size + 1 ≤ 9223372036854775807 := by rw [str_size]; have := HL.out; omega
        have hcs : str (trEnc (pes l) false) ++ (⟨#[3]⟩ : ByteArray) = str (trEnc (pes l) true) := by rw [str_snoc, joins_end]
        have hD : Below W3.heap.size W3 W3.drew := ⟨rfl, rfl, rfl, Nat.le_refl _, fun _ _ => rfl⟩
        have HB3 := Lib.hid (below2 HBc.out hb3)
        clear hr3 hb3 hr4 hra3
        go_wp2_with fail
        go_region_held (fun V => Below W3.heap.size W3 V) (first | exact hD | exact hA' | assumption) (first
          | (go_at_call 12; refine (alive_true _).mono ?_; rintro e wA ⟨rfl, hA⟩; have hA' := Below.undrew hA; clear hA))
        all_goals go_wp2
        all_goals go_ret
        all_goals exact ⟨rfl, below2 HB3.out hA'⟩
      · have hne : (chkAll (pes (l ++ [⟨d, t, Aa, ca, bs⟩])) != 0) = true := by simpa using hg
        have HF := Lib.hid hf
        rw [hf]
        clear hf hg
        go_wp2_with fail
        refine (alive_true _).mono ?_
        rintro e W3 ⟨rfl, hb3⟩
        have HB3 := Lib.hid (below2 HBc.out hb3)
        clear hb3
        go_wp2_with fail
        refine (RCheck_any _ l _ (HE.out.below HB3.out)).mono ?_
        rw [HF.out]
        rintro e W4 ⟨rfl, rfl⟩
        go_wp2_with fail
        go_ret
        exact ⟨rfl, HB3.out⟩
    · have hne : (chkAll (pes l) != 0) = true := by simpa using hf
      clear hf
      go_wp2_with fail
      refine (alive_true _).mono ?_
      rintro e W3 ⟨rfl, hb3⟩
      have HB3 := Lib.hid (below2 HBc.out hb3)
      clear hb3
      go_wp2_with fail
      refine (RCheck_any _ l _ (HE.out.below HB3.out)).mono ?_
      rintro e W4 ⟨rfl, rfl⟩
      go_wp2_with fail
      go_ret
      exact ⟨rfl, HB3.out⟩
end Go.Proofs.Ytbaibabnfbjdeaa
