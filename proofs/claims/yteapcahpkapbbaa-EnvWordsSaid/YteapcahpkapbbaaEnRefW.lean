/-
  The document's Word.
  Conditions: at most 1000 parts of at most 281474976710656 bytes each.
-/
import Derived.Test.YteapcahpkapbbaaEnRefE
namespace Go.Proofs.Yteapcahpkapbbaa
open Go.RowKit

def wordE (r : Nat × List Nat) : Value := .tuple #[.string (str r.2), .int .i64 (r.1 : Nat)]
def PsOk (ps : List Prt) : Prop := ps.length ≤ 1000 ∧ ∀ p ∈ ps, (∀ c ∈ p.s, c < 256) ∧ p.s.length ≤ 281474976710656

set_option maxRecDepth 100000 in
set_option maxHeartbeats 2000000 in
theorem RWord_is {S : Nat → Prop} {q : Nat} {l : Vrs} {F : Nat → Prop} {w : World} (h : RefE q l F w) (a k : Int) (P : Value) (ps : List Prt) (hp : Prts S w P ps) (hok : PsOk ps) :
    Calls Try.prog 18 #[.pointer (some ⟨q, 0, none⟩), .agg #[.int .i64 a, .int .i64 k, P]] w fun e w' => e = .returned (wordE (wordV l ps)) ∧ Below w.heap.size w w' := by
  obtain ⟨A, c, rfl, hle⟩ := hp.form
  have hb1 : Below w.heap.size w (w.alloc (.cells #[.int .i64 a, .int .i64 k, .slice A ps.length c] 33)) := (Below.refl _ w).alloc (Nat.le_refl _) _
  have HE := Lib.hid ((refe_framed q l).only h (Only.of_below hb1 (Nat.le_refl _) (fun _ => False)) fun _ _ e => e)
  have HV := Lib.hid (refe_ok h)
  have HP := Lib.hid (SlI.below prt_ok hp hb1)
  have HB := Lib.hid hb1
  have hb := Blk.new w 33 #[.int .i64 a, .int .i64 k, .slice A ps.length c]
  have x2 := hb.cell 2
  have hpl := hok.1
  have HO := Lib.hid hok.2
  simp only [List.getElem?_toArray, List.getElem?_cons_zero, List.getElem?_cons_succ] at x2
  clear h hp hok hb1 hb
  go_enter Try.func18, Try.ntmps18
  go_wp2_with fail
  generalize hW : World.alloc w _ = W at *
  generalize hz : w.heap.size = z at *
  have HZ := Lib.hid hz
  clear hW hz
  go_loop [6, 7] (fun s i => ∃ (j : Nat) (acc : List Nat), j ≤ ps.length ∧ i = .int .i64 (j : Nat) ∧ s = .string (str acc) ∧ acc.length ≤ j * 281474976710656 ∧ Hid (catV l (ps.take j) = some acc)) (fun _ i => ps.length - (intOf i).toNat)
  case atStart => exact ⟨0, [], by omega, rfl, rfl, by simp, Lib.hid rfl⟩
  case round =>
    obtain ⟨j, acc, hj, rfl, rfl, hal, HC⟩ := hrel
    by_cases hlt : j < ps.length
    · obtain ⟨p, hp⟩ : ∃ p, ps[j]? = some p := ⟨_, List.getElem?_eq_getElem hlt⟩
      obtain ⟨bb, o, rfl, -, y0, y1⟩ := HP.out.at_ hp
      have hpo := HO.out p (List.mem_of_getElem? hp)
      have HT : Hid (ps.take (j + 1) = ps.take j ++ [p]) := Lib.hid (by rw [List.take_add_one, hp]; rfl)
      have HG := Lib.hid (RGet_is HE.out p.s hpo.1)
      have hzp := str_len p.s
      have hza := str_len acc
      have HPO := Lib.hid hpo
      have hpn := hpo.2
      clear hp hpo
      have r1 : decide ((j : Int) < (ps.length : Int)) = true := decide_eq_true (by omega)
      cases hv : p.var with
      | false =>
        rw [hv] at y0
        have l2 : (9223372036854775807 < (str acc).size + (str p.s).size) = False := eq_false (by omega)
        have HN : Hid (catV l (ps.take (j + 1)) = some (acc ++ p.s)) := Lib.hid (by rw [HT.out, cat_snoc, HC.out, partV, hv]; rfl)
        clear hv
        go_wp2_with fail
        go_round
        case rel => exact ⟨j + 1, acc ++ p.s, by omega, by go_num, by rw [str_app], by rw [List.length_append]; omega, HN⟩
        case measure => simp [intOf]; omega
      | true =>
        rw [hv] at y0
        cases hg : getV l p.s with
        | none =>
          rw [hg] at HG
          have HN : Hid (wordV l ps = (8, [])) := Lib.hid (by
            have e : ps = ps.take (j + 1) ++ ps.drop (j + 1) := (List.take_append_drop _ _).symm
            rw [wordV, e, cat_append, HT.out, cat_snoc, HC.out, partV, hv, if_pos rfl, hg]; rfl)
          clear hv hg
          go_wp2_with fail
          refine HG.out.mono ?_
          rintro e w1 ⟨rfl, rfl⟩
          rw [show getE none = .tuple #[.string ⟨#[]⟩, .bool false] from rfl]
          go_wp2_with fail
          go_ret2
          exact ⟨by rw [HN.out]; rfl, by rw [HZ.out]; exact HB.out⟩
        | some x =>
          rw [hg] at HG
          have hx := ok_get HV.out hg
          have hzx := str_len x
          have hxl := hx.2
          have l2 : (9223372036854775807 < (str acc).size + (str x).size) = False := eq_false (by omega)
          have HN : Hid (catV l (ps.take (j + 1)) = some (acc ++ x)) := Lib.hid (by rw [HT.out, cat_snoc, HC.out, partV, hv, if_pos rfl, hg]; rfl)
          clear hv hg hx
          go_wp2_with fail
          refine HG.out.mono ?_
          rintro e w1 ⟨rfl, rfl⟩
          rw [show getE (some x) = .tuple #[.string (str x), .bool true] from rfl]
          go_wp2_with fail
          go_round
          case rel => exact ⟨j + 1, acc ++ x, by omega, by go_num, by rw [str_app], by rw [List.length_append]; omega, HN⟩
          case measure => simp [intOf]; omega
    · obtain rfl : j = ps.length := by omega
      rw [List.take_length] at HC
      have hza := str_len acc
      by_cases hbig : 16777216 < acc.length
      · have d1 : decide ((16777216 : Int) < (acc.length : Int)) = true := decide_eq_true (by omega)
        have HN : Hid (wordV l ps = (6, [])) := Lib.hid (by rw [wordV, HC.out]; dsimp only; rw [if_pos hbig])
        go_wp2_with fail
        go_ret2
        exact ⟨by rw [HN.out]; rfl, by rw [HZ.out]; exact HB.out⟩
      · have d1 : decide ((16777216 : Int) < (acc.length : Int)) = false := decide_eq_false (by omega)
        have HN : Hid (wordV l ps = (0, acc)) := Lib.hid (by rw [wordV, HC.out]; dsimp only; rw [if_neg hbig])
        go_wp2_with fail
        go_ret2
        exact ⟨by rw [HN.out]; rfl, by rw [HZ.out]; exact HB.out⟩
end Go.Proofs.Yteapcahpkapbbaa
