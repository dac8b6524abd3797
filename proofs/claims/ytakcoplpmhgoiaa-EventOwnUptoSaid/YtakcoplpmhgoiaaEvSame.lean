/-
  Contracts of event.alike, event.Same (by slices.EqualFunc), and of the document's Same.
  Conditions: none.
-/
import Derived.Test.YtakcoplpmhgoiaaEvSee
import Derived.WalkKit
import Derived.Deep.Cut
namespace Go.Proofs.Ytakcoplpmhgoiaa
open Go.RowKit

/-- An event by value. -/
def Ev.val (a : Ev) : Value := .agg #[.int .i64 a.dir, .int .i64 a.time, .slice a.A a.data.length a.c]

theorem EvOk.alloc {S : Nat → Prop} {W : World} {a : Ev} (h : EvOk S W a) (o : Obj) : EvOk S (W.alloc o) a := h.keep fun b _ hlt => Below.heap_alloc W o b hlt
theorem EvOk.below {W W' : World} {S : Nat → Prop} {a : Ev} (h : EvOk S W a) (hb : Below W.heap.size W W') : EvOk S W' a := h.keep fun b _ hlt => hb.block b hlt

theorem alike_any (d1 t1 : Int) (A1 : Option Addr) (c1 : Nat) (bs1 : List Nat) (d2 t2 : Int) (A2 : Option Addr) (c2 : Nat) (bs2 : List Nat) (w : World) (ha : EvOk (fun _ => True) w ⟨d1, t1, A1, c1, bs1⟩) (hb : EvOk (fun _ => True) w ⟨d2, t2, A2, c2, bs2⟩) :
    Calls Try.prog 23 #[.agg #[.int .i64 d1, .int .i64 t1, .slice A1 bs1.length c1], .agg #[.int .i64 d2, .int .i64 t2, .slice A2 bs2.length c2]] w fun e w' => e = .returned (.bool (decide ((⟨d1, t1, bs1⟩ : PE) = ⟨d2, t2, bs2⟩))) ∧ Below w.heap.size w w' := by
  have HA := Lib.hid ha
  have HB := Lib.hid hb
  have bel : ∀ o o', Below w.heap.size w ((w.alloc o).alloc o') := fun o o' => ((Below.refl _ w).alloc (Nat.le_refl _) o).alloc (by simp) o'
  have BEL := Lib.hid bel
  clear ha hb bel
  by_cases hd : d1 = d2
  · subst hd
    by_cases ht : t1 = t2
    · subst ht
      go_enter Try.func23, Try.ntmps23
      go_wp2_with fail
      refine (Equal_any _ _ _ _ _ _ bs1 bs2 _ ((HA.out.rd.alloc _).alloc _) ((HB.out.rd.alloc _).alloc _) HA.out.byte HB.out.byte).mono ?_
      rintro e w' ⟨rfl, rfl⟩
      go_wp2_with fail
      go_ret
      exact ⟨ret_bool (by simp), BEL.out _ _⟩
    · have e1 : (t1 == t2) = false := by simpa using ht
      go_enter Try.func23, Try.ntmps23
      go_wp2_with fail
      go_ret
      exact ⟨ret_bool (by simp [ht]), BEL.out _ _⟩
  · have e1 : (d1 == d2) = false := by simpa using hd
    go_enter Try.func23, Try.ntmps23
    go_wp2_with fail
    go_ret
    exact ⟨ret_bool (by simp [hd]), BEL.out _ _⟩

theorem same_no {l m : List Ev} (h : l.length ≠ m.length) : decide (pes l = pes m) = false := decide_eq_false fun e => h (by rw [← pes_len l, ← pes_len m, e])
theorem same_other {l m : List Ev} {k : Nat} {a b : Ev} (ha : l[k]? = some a) (hb : m[k]? = some b) (h : a.pe ≠ b.pe) : decide (pes l = pes m) = false :=
  decide_eq_false fun e => h (by have h1 := pes_at ha; rw [e, pes_at hb] at h1; injection h1 with h1; exact h1.symm)
theorem same_yes {l m : List Ev} (hl : l.length = m.length) (h : (pes l).take l.length = (pes m).take l.length) : decide (pes l = pes m) = true := by
  rw [pes_all, hl, pes_all] at h
  exact decide_eq_true h
theorem same_next {l m : List Ev} {k : Nat} {a b : Ev} (ha : l[k]? = some a) (hb : m[k]? = some b) (h : a.pe = b.pe) (hk : (pes l).take k = (pes m).take k) : (pes l).take (k + 1) = (pes m).take (k + 1) := by
  rw [pes_take ha, pes_take hb, h, hk]

set_option maxRecDepth 100000 in
theorem EqualFunc_any (v u : Value) (l m : List Ev) (w : World) (h : Evs w v l) (h' : Evs w u m) :
    Calls Try.prog 22 #[v, u, .func (.func 23) #[] #[]] w fun e w' => e = .returned (.bool (decide (pes l = pes m))) ∧ Below w.heap.size w w' := by
  have hm := h.max
  have hm' := h'.max
  obtain ⟨A, c, rfl, hle⟩ := h.form
  obtain ⟨A', c', rfl, hle'⟩ := h'.form
  have HE := Lib.hid h
  have HE' := Lib.hid h'
  clear h hle h' hle'
  by_cases hl : l.length = m.length
  · have HL := Lib.hid hl
    rw [← hl]
    rw [← hl] at HE' hm'
    clear hl
    go_enter Try.func22, Try.ntmps22
    go_wp2_with fail
    go_loopw [17] (fun i wr => ∃ (k : Nat), k ≤ l.length ∧ i = .int .i64 k ∧ Hid ((pes l).take k = (pes m).take k ∧ Below w.heap.size w wr)) (fun i _ => l.length - (intOf i).toNat)
    case atStart => exact ⟨0, by omega, rfl, rfl, Below.refl _ _⟩
    case round =>
      obtain ⟨k, hk, rfl, HW⟩ := hrel
      by_cases hlt : k < l.length
      · obtain ⟨b, o, d, t, Aa, ca, bs, rfl, ha, c0, c1, c2, hbm, hok⟩ := HE.out.seeAt HW.out.2 hlt
        obtain ⟨b', o', d', t', Aa', ca', bs', rfl, ha', x0, x1, x2, hbm', hok'⟩ := HE'.out.seeAt HW.out.2 hlt
        have HA := Lib.hid ha
        have HA' := Lib.hid ha'
        have HK := Lib.hid hok
        have HK' := Lib.hid hok'
        have lb := World.block_lt_of_cell? wr _ c0
        have lb' := World.block_lt_of_cell? wr _ x0
        have bel : ∀ o o', Below w.heap.size w ((wr.alloc o).alloc o') := fun o o' => (HW.out.2.alloc HW.out.2.size o).alloc (by have := HW.out.2.size; simp; omega) o'
        have BEL := Lib.hid bel
        clear ha ha' hok hok' bel
        go_wp2_with fail
        refine (alike_any _ _ _ _ _ _ _ _ _ _ _ ((HK.out.alloc _).alloc _) ((HK'.out.alloc _).alloc _)).mono ?_
        rintro e w' ⟨rfl, hbw⟩
        have HB : Hid (Below w.heap.size w w') := (BEL.out _ _).trans (hbw.mono (by have := (BEL.out (.cells #[] 0) (.cells #[] 0)).size; simpa using this))
        clear hbw BEL
        by_cases hpe : (⟨d, t, bs⟩ : PE) = ⟨d', t', bs'⟩
        · rw [decide_eq_true hpe]
          go_wp2_with fail
          go_roundw
          case rel => exact ⟨k + 1, by omega, by go_num, same_next HA.out HA'.out hpe HW.out.1, HB.out⟩
          case measure => simp [intOf]; omega
        · rw [decide_eq_false hpe]
          go_wp2_with fail
          go_ret
          exact ⟨ret_bool (same_other HA.out HA'.out hpe).symm, HB.out⟩
      · obtain rfl : k = l.length := by omega
        go_wp2_with fail
        go_ret
        exact ⟨ret_bool (same_yes HL.out HW.out.1).symm, HW.out.2⟩
  · have hne : ((l.length : Int) != (m.length : Int)) = true := by simp; omega
    have HB := Lib.hid (same_no hl)
    go_enter Try.func22, Try.ntmps22
    go_wp2_with fail
    go_ret
    exact ⟨ret_bool HB.out.symm, Below.refl _ _⟩

theorem Same_any (v u : Value) (l m : List Ev) (w : World) (h : Evs w v l) (h' : Evs w u m) :
    Calls Try.prog 12 #[v, u] w fun e w' => e = .returned (.bool (decide (pes l = pes m))) ∧ Below w.heap.size w w' := by
  obtain ⟨A, c, rfl, -⟩ := h.form
  obtain ⟨A', c', rfl, -⟩ := h'.form
  have HE := Lib.hid h
  have HE' := Lib.hid h'
  clear h h'
  go_enter Try.func12, Try.ntmps12
  go_wp2_with fail
  refine (EqualFunc_any _ _ _ _ _ HE.out HE'.out).mono ?_
  rintro e w' ⟨rfl, hbw⟩
  have HB := Lib.hid hbw
  clear hbw
  go_wp2_with fail
  go_ret
  exact ⟨rfl, HB.out⟩

set_option maxRecDepth 100000 in
set_option maxHeartbeats 1000000 in
theorem RSame_any (v u : Value) (l m : List Ev) (w : World) (h : Evs w v l) (h' : Evs w u m) :
    Calls Try.prog 13 #[v, u] w fun e w' => e = .returned (.bool (decide (pes l = pes m))) ∧ Below w.heap.size w w' := by
  have hm := h.max
  have hm' := h'.max
  obtain ⟨A, c, rfl, hle⟩ := h.form
  obtain ⟨A', c', rfl, hle'⟩ := h'.form
  have HE := Lib.hid h
  have HE' := Lib.hid h'
  clear h hle h' hle'
  by_cases hl : l.length = m.length
  · have HL := Lib.hid hl
    rw [← hl]
    rw [← hl] at HE' hm'
    clear hl
    go_enter Try.func13, Try.ntmps13
    go_wp2_with fail
    go_loopw [5] (fun i wr => ∃ (k : Nat), k ≤ l.length ∧ i = .int .i64 k ∧ Hid ((pes l).take k = (pes m).take k ∧ Below w.heap.size w wr)) (fun i _ => l.length - (intOf i).toNat)
    case atStart => exact ⟨0, by omega, rfl, rfl, Below.refl _ _⟩
    case round =>
      obtain ⟨k, hk, rfl, HW⟩ := hrel
      by_cases hlt : k < l.length
      · obtain ⟨b, o, d, t, Aa, ca, bs, rfl, ha, c0, c1, c2, hbm, hok⟩ := HE.out.seeAt HW.out.2 hlt
        obtain ⟨b', o', d', t', Aa', ca', bs', rfl, ha', x0, x1, x2, hbm', hok'⟩ := HE'.out.seeAt HW.out.2 hlt
        have HA := Lib.hid ha
        have HA' := Lib.hid ha'
        have s1 : ∀ n, (convert 23 9 (.slice Aa bs.length ca)).run Try.prog (wr.drewN n) = .ok (.string (str bs)) (wr.drewN n) := fun n => run_str (w := wr.drewN n) hok.rd
        have s2 : ∀ n, (convert 23 9 (.slice Aa' bs'.length ca')).run Try.prog (wr.drewN n) = .ok (.string (str bs')) (wr.drewN n) := fun n => run_str (w := wr.drewN n) hok'.rd
        have i1 : (k : Int) < l.length := by omega
        have sb := str_beq hok.byte hok'.byte
        clear ha ha' hok hok'
        by_cases hd : d = d'
        · subst hd
          by_cases ht : t = t'
          · subst ht
            by_cases hbs : bs = bs'
            · subst hbs
              clear sb
              go_wp2_with fail
              go_quiet (fail)
              go_wp2_with fail
              go_roundw
              case rel => exact ⟨k + 1, by omega, by go_num, same_next HA.out HA'.out rfl HW.out.1, belowN HW.out.2 _⟩
              case measure => simp [intOf]; omega
            · have hsb : ((str bs).toList == (str bs').toList) = false := by rw [sb]; simp [hbs]
              clear sb
              go_wp2_with fail
              go_quiet (fail)
              go_wp2_with fail
              go_ret
              exact ⟨ret_bool (same_other HA.out HA'.out (by simp [Ev.pe, hbs])).symm, belowN HW.out.2 _⟩
          · have hsb : (t != t') = true := by simpa using ht
            clear sb s1 s2
            go_wp2_with fail
            go_quiet (fail)
            go_wp2_with fail
            go_ret
            exact ⟨ret_bool (same_other HA.out HA'.out (by simp [Ev.pe, ht])).symm, belowN HW.out.2 _⟩
        · have hsb : (d != d') = true := by simpa using hd
          clear sb s1 s2
          go_wp2_with fail
          go_quiet (fail)
          go_wp2_with fail
          go_ret
          exact ⟨ret_bool (same_other HA.out HA'.out (by simp [Ev.pe, hd])).symm, belowN HW.out.2 _⟩
      · obtain rfl : k = l.length := by omega
        go_wp2_with fail
        go_ret
        exact ⟨ret_bool (same_yes HL.out HW.out.1).symm, HW.out.2⟩
  · have hne : ((l.length : Int) != (m.length : Int)) = true := by simp; omega
    have HB := Lib.hid (same_no hl)
    go_enter Try.func13, Try.ntmps13
    go_wp2_with fail
    go_ret
    exact ⟨ret_bool HB.out.symm, Below.refl _ _⟩
end Go.Proofs.Ytakcoplpmhgoiaa
