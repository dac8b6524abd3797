/-
  The document's variables in memory: Right, at, Set, Get, Word.
  Conditions: names and texts of at most 9223372036854775807 bytes, at most 256 variables.
-/
import Derived.Test.YteapcahpkapbbaaEnMath
import Derived.Test.YteapcahpkapbbaaPrtMem
import Derived.Test.YteapcahpkapbbaaQEsc
import Derived.Test.YteapcahpkapbbaaSep
import Derived.Test.YteapcahpkapbbaaRowS
import Derived.Test.YteapcahpkapbbaaRet
import Derived.OwnWalk
namespace Go.Proofs.Yteapcahpkapbbaa
open Go.RowKit

/-- Variables, as cells. -/
def vcs (l : Vrs) : List Value := l.flatMap fun p => [.string (str p.1), .string (str p.2)]
theorem vcs_len (l : Vrs) : (vcs l).length = l.length * 2 := by
  unfold vcs
  induction l with
  | nil => rfl
  | cons p l ih => rw [List.flatMap_cons, List.length_append, ih, List.length_cons]; show 2 + l.length * 2 = (l.length + 1) * 2; omega
theorem vcs_at : ∀ {l : Vrs} {i : Nat} {n v : List Nat}, l[i]? = some (n, v) → (vcs l)[i * 2]? = some (.string (str n)) ∧ (vcs l)[i * 2 + 1]? = some (.string (str v))
  | [], _, _, _, h => by simp at h
  | p :: l, 0, n, v, h => by simp at h; subst h; exact ⟨rfl, rfl⟩
  | p :: l, i + 1, n, v, h => by
    have := vcs_at (l := l) (i := i) (by simpa using h)
    have e : vcs (p :: l) = .string (str p.1) :: .string (str p.2) :: vcs l := rfl
    rw [e, show (i + 1) * 2 = i * 2 + 1 + 1 by omega]
    exact this
theorem vcs_set : ∀ {l : Vrs} {i : Nat} {n x : List Nat} (v : List Nat), l[i]? = some (n, x) → (vcs l).set (i * 2 + 1) (.string (str v)) = vcs (l.set i (n, v))
  | [], _, _, _, _, h => by simp at h
  | p :: l, 0, n, x, v, h => by simp at h; subst h; rfl
  | p :: l, i + 1, n, x, v, h => by
    have := vcs_set (l := l) (i := i) v (by simpa using h)
    have e : vcs (p :: l) = .string (str p.1) :: .string (str p.2) :: vcs l := rfl
    rw [e, show (i + 1) * 2 + 1 = (i * 2 + 1) + 1 + 1 by omega, List.set_cons_succ, List.set_cons_succ, this]
    rfl
theorem vcs_snoc (l : Vrs) (p : List Nat × List Nat) : vcs (l ++ [p]) = vcs l ++ [.string (str p.1), .string (str p.2)] := by simp [vcs]
/-- Where a variable stands. -/
theorem get_at : ∀ {l : Vrs} {i : Nat} {n v : List Nat}, l[i]? = some (n, v) → (∀ j, j < i → ∀ p, l[j]? = some p → p.1 ≠ n) → getV l n = some v ∧ ∀ x, putV l n x = l.set i (n, x)
  | [], _, _, _, h, _ => by simp at h
  | p :: l, 0, n, v, h, _ => by
    simp at h; subst h
    exact ⟨by rw [getV, if_pos rfl], fun x => by rw [putV, if_pos rfl]; rfl⟩
  | (a, y) :: l, i + 1, n, v, h, hj => by
    have ha : a ≠ n := hj 0 (by omega) (a, y) rfl
    have := get_at (l := l) (i := i) (by simpa using h) (fun j hjl p hp => hj (j + 1) (by omega) p (by simpa using hp))
    exact ⟨by rw [getV, if_neg ha]; exact this.1, fun x => by rw [putV, if_neg ha, this.2 x]; rfl⟩
theorem get_no {l : Vrs} {n : List Nat} (h : ∀ j, j < l.length → ∀ p, l[j]? = some p → p.1 ≠ n) : getV l n = none ∧ ∀ x, putV l n x = l ++ [(n, x)] := by
  induction l with
  | nil => exact ⟨rfl, fun _ => rfl⟩
  | cons p l ih =>
    obtain ⟨a, y⟩ := p
    have ha : a ≠ n := h 0 (by simp) (a, y) rfl
    have := ih fun j hj p hp => h (j + 1) (by simpa using hj) p (by simpa using hp)
    exact ⟨by rw [getV, if_neg ha]; exact this.1, fun x => by rw [putV, if_neg ha, this.2 x]; rfl⟩
/-- What holds of variables that are kept. -/
def VarsOk (l : Vrs) : Prop := l.length ≤ 256 ∧ ∀ p ∈ l, (∀ c ∈ p.1, c < 256) ∧ (∀ c ∈ p.2, c < 256) ∧ p.2.length ≤ 16777216 ∧ p.1.length ≤ 64
theorem ok_nil : VarsOk [] := ⟨by simp, by simp⟩
theorem ok_set {l : Vrs} (h : VarsOk l) (n : List Nat) {v : List Nat} (hv : ∀ c ∈ v, c < 256) : VarsOk (setV l n v).2 := by
  refine ⟨set_len h.1 n v, fun p hp => ?_⟩
  unfold setV at hp
  split at hp
  · exact h.2 p hp
  · rename_i hr
    split at hp
    · exact h.2 p hp
    · rename_i hl
      split at hp
      · exact h.2 p hp
      · rcases put_mem hp with rfl | hp
        · have hr' : rightN n = true := by simpa using hr
          refine ⟨right_bytes hr', hv, Nat.le_of_not_lt hl, ?_⟩
          unfold rightN at hr'
          simp only [Bool.and_eq_true, decide_eq_true_eq] at hr'
          exact hr'.1.2
        · exact h.2 p hp
theorem ok_get {l : Vrs} (h : VarsOk l) {n v : List Nat} (hg : getV l n = some v) : (∀ c ∈ v, c < 256) ∧ v.length ≤ 16777216 := ⟨(h.2 _ (get_mem hg)).2.1, (h.2 _ (get_mem hg)).2.2.1⟩

/-- The document's variables in block q. -/
structure RefV (q : Nat) (l : Vrs) (g : Option Nat) (v : Value) (F : Nat → Prop) (W : World) : Prop where
  blk : Blk W q 30 #[v]
  row : RowS W 68 2 g v l.length (vcs l)
  own : ∀ x, F x ↔ x = q ∨ g = some x
  ok : VarsOk l
def RefE (q : Nat) (l : Vrs) : Thing := fun F W => ∃ g v, RefV q l g v F W
theorem RefV.ne_ {q : Nat} {l : Vrs} {g : Option Nat} {v : Value} {F : Nat → Prop} {W : World} (h : RefV q l g v F W) : g ≠ some q := h.row.ne_ h.blk (by decide)
theorem refe_framed (q : Nat) (l : Vrs) : Framed (RefE q l) := by
  constructor
  · rintro F S w w' ⟨g, v, h⟩ ho hd
    exact ⟨g, v, h.blk.only ho (hd q ((h.own q).2 (.inl rfl))), h.row.keep fun b e => ho.block b (h.row.lt e) (hd b ((h.own b).2 (.inr e))), h.own, h.ok⟩
  · rintro F w ⟨g, v, h⟩ x hx
    rcases (h.own x).1 hx with rfl | e
    · exact h.blk.lt
    · exact h.row.lt e
theorem refe_ok {q : Nat} {l : Vrs} {F : Nat → Prop} {W : World} (h : RefE q l F W) : VarsOk l := by obtain ⟨_, _, h⟩ := h; exact h.ok

set_option maxRecDepth 100000 in
set_option maxHeartbeats 1000000 in
theorem RRight_is (n : List Nat) (hn : ∀ c ∈ n, c < 256) (hl : n.length ≤ 9223372036854775807) (w : World) :
    Calls Try.prog 25 #[.string (str n)] w fun e w' => e = .returned (.bool (rightN n)) ∧ w = w' := by
  have hsz := str_len n
  have HN := Lib.hid hn
  clear hn
  go_enter Try.func25, Try.ntmps25
  go_wp2_with fail
  go_loop [3, 4] (fun i v => ∃ k : Nat, k ≤ n.length ∧ i = .int .i64 (k : Nat) ∧ Hid (∀ c ∈ n.take k, nameB c = true)) (fun i _ => n.length - (intOf i).toNat)
  case atStart => exact ⟨0, by omega, rfl, Lib.hid (by simp)⟩
  case round =>
    obtain ⟨k, hk, rfl, HA⟩ := hrel
    by_cases hlt : k < n.length
    · obtain ⟨x, hx⟩ : ∃ x, n[k]? = some x := ⟨_, List.getElem?_eq_getElem hlt⟩
      obtain ⟨hkx, hxx⟩ := str_at HN.out hx
      have HC := Lib.hid (RName_is x (HN.out x (List.mem_of_getElem? hx)) w)
      have HT : Hid (n.take (k + 1) = n.take k ++ [x]) := Lib.hid (by rw [List.take_add_one, hx]; rfl)
      have HM := Lib.hid (List.mem_of_getElem? hx)
      clear hx
      go_wp2_with fail
      refine HC.out.mono ?_
      rintro e w1 ⟨rfl, rfl⟩
      by_cases hb : nameB x = true
      · have HB := Lib.hid hb
        rw [hb]
        clear hb
        go_wp2_with fail
        go_round
        case rel => exact ⟨k + 1, by omega, by go_num, Lib.hid (fun c hc => by rw [HT.out] at hc; rcases List.mem_append.1 hc with hc | hc; exact HA.out c hc; rw [List.mem_singleton.1 hc]; exact HB.out)⟩
        case measure => simp [intOf]; omega
      · have hb' : nameB x = false := by simpa using hb
        have HR : Hid (rightN n = false) := Lib.hid (by unfold rightN; rw [List.all_eq_false.2 ⟨x, HM.out, hb⟩, Bool.and_false])
        rw [hb']
        clear hb hb'
        go_wp2_with fail
        go_ret
        exact ⟨ret_bool HR.out.symm, rfl⟩
    · obtain rfl : k = n.length := by omega
      rw [List.take_length] at HA
      have HR : Hid (rightN n = decide (1 ≤ n.length ∧ n.length ≤ 64)) := Lib.hid (by unfold rightN; rw [List.all_eq_true.2 HA.out, Bool.and_true])
      by_cases h1 : 1 ≤ n.length
      · by_cases h2 : n.length ≤ 64
        · have d2 : decide ((n.length : Int) ≤ 64) = true := decide_eq_true (by omega)
          have HR2 := HR.out
          rw [decide_eq_true ⟨h1, h2⟩] at HR2
          have HRR := Lib.hid HR2
          clear HR2
          go_wp2_with fail
          go_ret
          exact ⟨ret_bool HRR.out.symm, rfl⟩
        · have d2 : decide ((n.length : Int) ≤ 64) = false := decide_eq_false (by omega)
          have HR2 := HR.out
          rw [decide_eq_false fun h => h2 h.2] at HR2
          have HRR := Lib.hid HR2
          clear HR2
          go_wp2_with fail
          go_ret
          exact ⟨ret_bool HRR.out.symm, rfl⟩
      · have HR2 := HR.out
        rw [decide_eq_false fun h => h1 h.1] at HR2
        have HRR := Lib.hid HR2
        clear HR2
        go_wp2_with fail
        go_ret
        exact ⟨ret_bool HRR.out.symm, rfl⟩
end Go.Proofs.Yteapcahpkapbbaa
