/-
  Contracts of event.alike, event.Same (by slices.EqualFunc), and of the document's Same.
  Conditions: none.
-/
import Derived.Test.YtchfiiiippnigaaEvSee
import Derived.WalkKit
import Derived.Deep.Cut
namespace Go.Proofs.Ytchfiiiippnigaa
open Go.RowKit

/-- An event by value. -/
def Ev.val (a : Ev) : Value := .agg #[.int .i64 a.dir, .int .i64 a.time, .slice a.A a.data.length a.c]

theorem EvOk.alloc {S : Nat → Prop} {W : World} {a : Ev} (h : EvOk S W a) (o : Obj) : EvOk S (W.alloc o) a := h.keep fun b _ hlt => Below.heap_alloc W o b hlt
theorem EvOk.below {W W' : World} {S : Nat → Prop} {a : Ev} (h : EvOk S W a) (hb : Below W.heap.size W W') : EvOk S W' a := h.keep fun b _ hlt => hb.block b hlt

theorem same_no {l m : List Ev} (h : l.length ≠ m.length) : decide (pes l = pes m) = false := decide_eq_false fun e => h (by rw [← pes_len l, ← pes_len m, e])
theorem same_other {l m : List Ev} {k : Nat} {a b : Ev} (ha : l[k]? = some a) (hb : m[k]? = some b) (h : a.pe ≠ b.pe) : decide (pes l = pes m) = false :=
  decide_eq_false fun e => h (by have h1 := pes_at ha; rw [e, pes_at hb] at h1; injection h1 with h1; exact h1.symm)
theorem same_yes {l m : List Ev} (hl : l.length = m.length) (h : (pes l).take l.length = (pes m).take l.length) : decide (pes l = pes m) = true := by
  rw [pes_all, hl, pes_all] at h
  exact decide_eq_true h
theorem same_next {l m : List Ev} {k : Nat} {a b : Ev} (ha : l[k]? = some a) (hb : m[k]? = some b) (h : a.pe = b.pe) (hk : (pes l).take k = (pes m).take k) : (pes l).take (k + 1) = (pes m).take (k + 1) := by
  rw [pes_take ha, pes_take hb, h, hk]

set_option maxRecDepth 100000 in
set_option maxHeartbeats 1000000 in
theorem RSame_any (v u : Value) (l m : List Ev) (w : World) (h : Evs w v l) (h' : Evs w u m) :
    Calls Try.prog 14 #[v, u] w fun e w' => e = .returned (.bool (decide (pes l = pes m))) ∧ Below w.heap.size w w' := by
  have hm := h.max
  have hm' := h'.max
  obtain ⟨A, c, rfl, hle⟩ := h.form
  obtain ⟨A', c', rfl, hle'⟩ := h'.form
  have HE := Lib.hid h
  have HE' := Lib.hid h'
  clear h hle h' hle'
  by_cases hl : l.length = m.length
  · have HL := Lib.hid hl
    rw [← hl]
    rw [← hl] at HE' hm'
    clear hl
    go_enter Try.func14, Try.ntmps14
    go_wp2_with fail
    go_loopw [5] (fun i wr => ∃ (k : Nat), k ≤ l.length ∧ i = .int .i64 k ∧ Hid ((pes l).take k = (pes m).take k ∧ Below w.heap.size w wr)) (fun i _ => l.length - (intOf i).toNat)
    case atStart => exact ⟨0, by omega, rfl, rfl, Below.refl _ _⟩
    case round =>
      obtain ⟨k, hk, rfl, HW⟩ := hrel
      by_cases hlt : k < l.length
      · obtain ⟨b, o, d, t, Aa, ca, bs, rfl, ha, c0, c1, c2, hbm, hok⟩ := HE.out.seeAt HW.out.2 hlt
        obtain ⟨b', o', d', t', Aa', ca', bs', rfl, ha', x0, x1, x2, hbm', hok'⟩ := HE'.out.seeAt HW.out.2 hlt
        have HA := Lib.hid ha
        have HA' := Lib.hid ha'
        have s1 : ∀ n, (convert 31 9 (.slice Aa bs.length ca)).run Try.prog (wr.drewN n) = .ok (.string (str bs)) (wr.drewN n) := fun n => run_str (w := wr.drewN n) hok.rd
        have s2 : ∀ n, (convert 31 9 (.slice Aa' bs'.length ca')).run Try.prog (wr.drewN n) = .ok (.string (str bs')) (wr.drewN n) := fun n => run_str (w := wr.drewN n) hok'.rd
        have i1 : (k : Int) < l.length := by omega
        have sb := str_beq hok.byte hok'.byte
        clear ha ha' hok hok'
        by_cases hd : d = d'
        · subst hd
          by_cases ht : t = t'
          · subst ht
            by_cases hbs : bs = bs'
            · subst hbs
              clear sb
              go_wp2_with fail
              go_quiet (fail)
              go_wp2_with fail
              go_roundw
              case rel => exact ⟨k + 1, by omega, by go_num, same_next HA.out HA'.out rfl HW.out.1, belowN HW.out.2 _⟩
              case measure => simp [intOf]; omega
            · have hsb : ((str bs).toList == (str bs').toList) = false := by rw [sb]; simp [hbs]
              clear sb
              go_wp2_with fail
              go_quiet (fail)
              go_wp2_with fail
              go_ret
              exact ⟨ret_bool (same_other HA.out HA'.out (by simp [Ev.pe, hbs])).symm, belowN HW.out.2 _⟩
          · have hsb : (t != t') = true := by simpa using ht
            clear sb s1 s2
            go_wp2_with fail
            go_quiet (fail)
            go_wp2_with fail
            go_ret
            exact ⟨ret_bool (same_other HA.out HA'.out (by simp [Ev.pe, ht])).symm, belowN HW.out.2 _⟩
        · have hsb : (d != d') = true := by simpa using hd
          clear sb s1 s2
          go_wp2_with fail
          go_quiet (fail)
          go_wp2_with fail
          go_ret
          exact ⟨ret_bool (same_other HA.out HA'.out (by simp [Ev.pe, hd])).symm, belowN HW.out.2 _⟩
      · obtain rfl : k = l.length := by omega
        go_wp2_with fail
        go_ret
        exact ⟨ret_bool (same_yes HL.out HW.out.1).symm, HW.out.2⟩
  · have hne : ((l.length : Int) != (m.length : Int)) = true := by simp; omega
    have HB := Lib.hid (same_no hl)
    go_enter Try.func14, Try.ntmps14
    go_wp2_with fail
    go_ret
    exact ⟨ret_bool HB.out.symm, Below.refl _ _⟩
end Go.Proofs.Ytchfiiiippnigaa
