/-
  What the document asks of a transcript's bytes, over plain lists: the bytes of events (encs, trEnc), what bytes tell (dec), and that one undoes the other.
  Conditions: none.
-/
import Derived.Test.YtbaibabnfbjdeaaEvMath
import Derived.Test.YtbaibabnfbjdeaaGet
import Derived.Test.YtbaibabnfbjdeaaGap
namespace Go.Proofs.Ytbaibabnfbjdeaa

/-- A number that Zig made, as a natural one. -/
def zn (ahead t : Int) : Nat := (zig (delta ahead t)).toNat
theorem zn_cast (ahead t : Int) : ((zn ahead t : Nat) : Int) = zig (delta ahead t) := Int.toNat_of_nonneg (zig_lo _ (delta_in _ _).1)
theorem zn_lt (ahead t : Int) : zn ahead t < 18446744073709551616 := by
  have h1 := zn_cast ahead t
  have h2 := zig_hi (delta ahead t) (delta_in _ _).1 (delta_in _ _).2
  omega
theorem zn_back {ahead t : Int} (h : In64 t) : plus ahead (zag (zn ahead t)) = t := by
  rw [zn_cast, zag_zig]; exact plus_delta h

/-- The first byte of an event. -/
def mark (d : Int) : Nat := if d = 1 then 2 else 1
/-- The bytes of an event behind one of the time ahead. -/
def enc1 (ahead : Int) (a : PE) : List Nat := mark a.dir :: (Var.enc (zn ahead a.time) ++ (Var.enc a.data.length ++ a.data))
/-- The bytes of events. -/
def encs : Int → List PE → List Nat
  | _, [] => []
  | ahead, a :: l => enc1 ahead a ++ encs a.time l
/-- The time ahead of what stands behind events. -/
def lastT : Int → List PE → Int
  | t, [] => t
  | _, a :: l => lastT a.time l
def hd : List Nat := [67, 85, 69, 49]
def fin (e : Bool) : List Nat := if e then [3] else []
def trEnc (l : List PE) (e : Bool) : List Nat := hd ++ (encs 0 l ++ fin e)

theorem encs_append (t : Int) (l m : List PE) : encs t (l ++ m) = encs t l ++ encs (lastT t l) m := by
  induction l generalizing t with
  | nil => rfl
  | cons a l ih => simp [encs, lastT, ih]
theorem lastT_snoc (t : Int) (l : List PE) (a : PE) : lastT t (l ++ [a]) = a.time := by
  induction l generalizing t with
  | nil => rfl
  | cons b l ih => simp [lastT, ih]
theorem encs_snoc (t : Int) (l : List PE) (a : PE) : encs t (l ++ [a]) = encs t l ++ enc1 (lastT t l) a := by
  rw [encs_append]; simp [encs]
theorem mark_lt (d : Int) : mark d < 256 := by unfold mark; split <;> omega
theorem enc1_lt {t : Int} {a : PE} (h : ∀ x ∈ a.data, x < 256) : ∀ x ∈ enc1 t a, x < 256 := by
  intro x hx
  simp only [enc1, List.mem_cons, List.mem_append] at hx
  rcases hx with rfl | hx | hx | hx
  · exact mark_lt _
  · exact Var.enc_lt _ x hx
  · exact Var.enc_lt _ x hx
  · exact h x hx
theorem encs_lt {l : List PE} (t : Int) (h : ∀ a ∈ l, ∀ x ∈ a.data, x < 256) : ∀ x ∈ encs t l, x < 256 := by
  induction l generalizing t with
  | nil => intro x hx; cases hx
  | cons a l ih =>
    intro x hx
    rcases List.mem_append.1 hx with hx | hx
    · exact enc1_lt (h a (by simp)) x hx
    · exact ih a.time (fun b hb => h b (by simp [hb])) x hx
theorem trEnc_lt {l : List PE} (e : Bool) (h : ∀ a ∈ l, ∀ x ∈ a.data, x < 256) : ∀ x ∈ trEnc l e, x < 256 := by
  intro x hx
  simp only [trEnc, List.mem_append] at hx
  rcases hx with hx | hx | hx
  · simp [hd] at hx; omega
  · exact encs_lt 0 h x hx
  · cases e <;> simp [fin] at hx; omega
theorem enc1_len (t : Int) (a : PE) : (enc1 t a).length = 1 + ((Var.enc (zn t a.time)).length + ((Var.enc a.data.length).length + a.data.length)) := by
  simp [enc1]; omega
/-- No more bytes than so many. -/
theorem encs_len {l : List PE} (t : Int) (h : whole l < 18446744073709551616) : (encs t l).length ≤ 21 * l.length + whole l := by
  induction l generalizing t with
  | nil => simp [encs]
  | cons a l ih =>
    rw [whole_cons] at h ⊢
    have h1 := ih a.time (by omega)
    have h2 := Var.enc_len10 (zn_lt t a.time)
    have h3 := Var.enc_len10 (x := a.data.length) (by omega)
    have h4 := enc1_len t a
    simp only [encs, List.length_append, List.length_cons]
    omega

/-! ### What bytes tell -/

/-- What an event's bytes tell. -/
inductive Step where
  | err (place e : Nat)
  | fin
  | ev (a : PE) (next : Nat)

/-- The bytes from the place on, behind these events. -/
def step (bs : List Nat) (at_ : Nat) (last : Int) (acc : List PE) : Step :=
  match bs[at_]? with
  | none => .err 0 0
  | some tag =>
    if tag = 3 then (if at_ + 1 = bs.length then .fin else .err (at_ + 1) 4)
    else if tag ≠ 1 ∧ tag ≠ 2 then .err at_ 4
    else if 4096 ≤ acc.length then .err at_ 10
    else if (getIn bs (at_ + 1)).2.2 ≠ 0 then .err (at_ + 1) (getIn bs (at_ + 1)).2.2
    else if (getIn bs (getIn bs (at_ + 1)).2.1).2.2 ≠ 0 then .err (getIn bs (at_ + 1)).2.1 (getIn bs (getIn bs (at_ + 1)).2.1).2.2
    else if 65536 < (getIn bs (getIn bs (at_ + 1)).2.1).1 ∨ 262144 < whole acc + (getIn bs (getIn bs (at_ + 1)).2.1).1 then .err (getIn bs (at_ + 1)).2.1 6
    else if bs.length < (getIn bs (getIn bs (at_ + 1)).2.1).2.1 + (getIn bs (getIn bs (at_ + 1)).2.1).1 then .err bs.length 5
    else .ev ⟨(tag : Int) - 1, plus last (zag (getIn bs (at_ + 1)).1), (bs.drop (getIn bs (getIn bs (at_ + 1)).2.1).2.1).take (getIn bs (getIn bs (at_ + 1)).2.1).1⟩ ((getIn bs (getIn bs (at_ + 1)).2.1).2.1 + (getIn bs (getIn bs (at_ + 1)).2.1).1)

/-- Events, whether the end was seen, the place, the error. -/
structure DR where
  l : List PE
  fin : Bool
  place : Nat
  err : Nat

/-- What the bytes from a place on tell, behind these events. -/
def walk (bs : List Nat) (at_ : Nat) (last : Int) (acc : List PE) : DR :=
  if bs.length ≤ at_ then ⟨acc, false, 0, 0⟩ else
  match step bs at_ last acc with
  | .err p e => ⟨[], false, p, e⟩
  | .fin => ⟨acc, true, 0, 0⟩
  | .ev a next => if at_ < next then walk bs next a.time (acc ++ [a]) else ⟨[], false, 0, 0⟩
termination_by bs.length - at_
decreasing_by omega

/-- The head's first wrong byte, from the k-th on. -/
def headW (bs : List Nat) : Nat → List Nat → Option (Nat × Nat)
  | _, [] => none
  | k, h :: r => match bs[k]? with
    | none => some (k, 5)
    | some c => if c = h then headW bs (k + 1) r else some (k, 4)

def dec (bs : List Nat) : DR :=
  match headW bs 0 hd with
  | some (p, e) => ⟨[], false, p, e⟩
  | none => walk bs 4 0 []

/-! ### What is encoded is decoded -/

theorem mark_three (d : Int) : mark d ≠ 3 := by unfold mark; split <;> omega
theorem mark_some (d : Int) : ¬ (mark d ≠ 1 ∧ mark d ≠ 2) := by unfold mark; split <;> omega
theorem mark_dir {d : Int} (h : d = 0 ∨ d = 1) : ((mark d : Nat) : Int) - 1 = d := by unfold mark; rcases h with rfl | rfl <;> simp
theorem whole_snoc (l : List PE) (a : PE) : whole (l ++ [a]) = whole l + a.data.length := by rw [whole_append, whole_cons]; simp [whole]

/-- The first number of an event. -/
theorem got1 {bs pre rest : List Nat} {m x : Nat} (hbs : bs = (pre ++ [m]) ++ (Var.enc x ++ rest)) (hx : x < 18446744073709551616) : getIn bs (pre.length + 1) = (x, pre.length + 1 + (Var.enc x).length, 0) := by
  refine getIn_ok ?_
  rw [hbs, List.drop_left' (by simp)]
  exact Var.getv_enc hx _
/-- The second one. -/
theorem got2 {bs pre rest : List Nat} {m x y : Nat} (hbs : bs = (pre ++ [m]) ++ (Var.enc x ++ (Var.enc y ++ rest))) (hy : y < 18446744073709551616) : getIn bs (pre.length + 1 + (Var.enc x).length) = (y, pre.length + 1 + (Var.enc x).length + (Var.enc y).length, 0) := by
  refine getIn_ok ?_
  rw [hbs, ← List.append_assoc (pre ++ [m]), List.drop_left' (by simp; omega)]
  exact Var.getv_enc hy _

theorem step_enc {bs pre rest : List Nat} {last : Int} {acc : List PE} {a : PE} (hbs : bs = pre ++ (enc1 last a ++ rest)) (hd : a.dir = 0 ∨ a.dir = 1) (ht : In64 a.time) (hn : acc.length < 4096) (hl : a.data.length ≤ 65536) (hw : whole acc + a.data.length ≤ 262144) :
    step bs pre.length last acc = .ev a (pre.length + (enc1 last a).length) := by
  have e1 : bs = (pre ++ [mark a.dir]) ++ (Var.enc (zn last a.time) ++ (Var.enc a.data.length ++ (a.data ++ rest))) := by rw [hbs, enc1]; simp
  have h0 : bs[pre.length]? = some (mark a.dir) := by rw [hbs, enc1]; simp
  have g1 := got1 e1 (zn_lt last a.time)
  have g2 := got2 e1 (show a.data.length < 18446744073709551616 by omega)
  have hlen : bs.length = pre.length + 1 + (Var.enc (zn last a.time)).length + (Var.enc a.data.length).length + a.data.length + rest.length := by rw [e1]; simp; omega
  have hdr : bs.drop (pre.length + 1 + (Var.enc (zn last a.time)).length + (Var.enc a.data.length).length) = a.data ++ rest := by
    rw [e1, show (pre ++ [mark a.dir]) ++ (Var.enc (zn last a.time) ++ (Var.enc a.data.length ++ (a.data ++ rest))) = ((pre ++ [mark a.dir]) ++ Var.enc (zn last a.time) ++ Var.enc a.data.length) ++ (a.data ++ rest) by simp, List.drop_left' (by simp; omega)]
  unfold step
  rw [h0]
  simp only [g1, g2, hdr]
  rw [if_neg (mark_three _), if_neg (mark_some _), if_neg (by omega), if_neg (by omega), if_neg (by omega), if_neg (by omega), if_neg (by omega)]
  rw [mark_dir hd, zn_back ht, List.take_left' rfl, enc1_len]
  congr 1
  omega

theorem walk_end {bs : List Nat} {at_ : Nat} {last : Int} {acc : List PE} (h : bs.length ≤ at_) : walk bs at_ last acc = ⟨acc, false, 0, 0⟩ := by rw [walk, if_pos h]
theorem walk_ev {bs : List Nat} {at_ next : Nat} {last : Int} {acc : List PE} {a : PE} (hlt : at_ < bs.length) (h : step bs at_ last acc = .ev a next) (hn : at_ < next) : walk bs at_ last acc = walk bs next a.time (acc ++ [a]) := by
  rw [walk, if_neg (by omega), h]; simp only; rw [if_pos hn]
theorem walk_err {bs : List Nat} {at_ p e : Nat} {last : Int} {acc : List PE} (hlt : at_ < bs.length) (h : step bs at_ last acc = .err p e) : walk bs at_ last acc = ⟨[], false, p, e⟩ := by
  rw [walk, if_neg (by omega), h]
theorem walk_fin {bs : List Nat} {at_ : Nat} {last : Int} {acc : List PE} (hlt : at_ < bs.length) (h : step bs at_ last acc = .fin) : walk bs at_ last acc = ⟨acc, true, 0, 0⟩ := by
  rw [walk, if_neg (by omega), h]

/-- Events that may be, behind n others of so many bytes. -/
def Right : Nat → Nat → List PE → Prop
  | _, _, [] => True
  | n, all, a :: l => n < 4096 ∧ (a.dir = 0 ∨ a.dir = 1) ∧ In64 a.time ∧ a.data.length ≤ 65536 ∧ all + a.data.length ≤ 262144 ∧ Right (n + 1) (all + a.data.length) l

theorem walk_back {l : List PE} : ∀ {bs pre : List Nat} {last : Int} {acc : List PE} {e : Bool}, bs = pre ++ (encs last l ++ fin e) → Right acc.length (whole acc) l → walk bs pre.length last acc = ⟨acc ++ l, e, 0, 0⟩ := by
  induction l with
  | nil =>
    intro bs pre last acc e hbs _
    cases e with
    | false => rw [walk_end (by rw [hbs]; simp [encs, fin]), List.append_nil]
    | true =>
      have h0 : bs[pre.length]? = some 3 := by rw [hbs]; simp [encs, fin]
      have hl : bs.length = pre.length + 1 := by rw [hbs]; simp [encs, fin]
      rw [walk_fin (by omega) (by unfold step; rw [h0]; simp [hl]), List.append_nil]
  | cons a l ih =>
    intro bs pre last acc e hbs hr
    obtain ⟨h1, h2, h3, h4, h5, h6⟩ := hr
    have hbs' : bs = pre ++ (enc1 last a ++ (encs a.time l ++ fin e)) := by rw [hbs, encs]; simp
    have hp : 0 < (enc1 last a).length := by rw [enc1_len]; omega
    rw [walk_ev (by rw [hbs']; simp; omega) (step_enc hbs' h2 h3 h1 h4 h5) (by omega)]
    have := ih (bs := bs) (pre := pre ++ enc1 last a) (last := a.time) (acc := acc ++ [a]) (e := e) (by rw [hbs']; simp) (by rw [whole_snoc, List.length_append]; exact h6)
    rw [List.length_append] at this
    rw [this, List.append_assoc, List.singleton_append]

theorem right_of {l : List PE} : ∀ {n all : Nat}, n + l.length ≤ 4096 → chk all l = 0 → (∀ a ∈ l, In64 a.time) → Right n all l := by
  induction l with
  | nil => intros; trivial
  | cons a l ih =>
    intro n all hn hc ht
    simp only [chk] at hc
    split at hc
    · omega
    · split at hc
      · omega
      · rw [List.length_cons] at hn
        exact ⟨by omega, by omega, ht a (by simp), by omega, by omega, ih (by omega) hc (fun b hb => ht b (by simp [hb]))⟩
theorem of_right {l : List PE} : ∀ {n all : Nat}, n ≤ 4096 → Right n all l → n + l.length ≤ 4096 ∧ chk all l = 0 ∧ (∀ a ∈ l, In64 a.time) := by
  induction l with
  | nil => intro n all hn _; exact ⟨by simpa using hn, rfl, by simp⟩
  | cons a l ih =>
    rintro n all hn ⟨h1, h2, h3, h4, h5, h6⟩
    obtain ⟨i1, i2, i3⟩ := ih (by omega) h6
    refine ⟨by rw [List.length_cons]; omega, ?_, fun b hb => ?_⟩
    · rw [chk, if_neg (by omega), if_neg (by omega)]; exact i2
    · rcases List.mem_cons.1 hb with rfl | hb
      · exact h3
      · exact i3 b hb
theorem chkAll_right {l : List PE} (h : chkAll l = 0) (ht : ∀ a ∈ l, In64 a.time) : Right 0 0 l := by
  unfold chkAll at h
  split at h
  · omega
  · exact right_of (by omega) h ht
theorem right_chkAll {l : List PE} (h : Right 0 0 l) : chkAll l = 0 ∧ ∀ a ∈ l, In64 a.time := by
  obtain ⟨h1, h2, h3⟩ := of_right (by omega) h
  exact ⟨by unfold chkAll; rw [if_neg (by omega)]; exact h2, h3⟩
theorem right_len {l : List PE} : ∀ {n all : Nat}, n ≤ 4096 → all ≤ 262144 → Right n all l → n + l.length ≤ 4096 ∧ all + whole l ≤ 262144 := by
  induction l with
  | nil => intro n all h1 h2 _; simp [whole]; omega
  | cons a l ih =>
    rintro n all hn ha ⟨h1, h2, h3, h4, h5, h6⟩
    have := ih (by omega) h5 h6
    rw [whole_cons, List.length_cons]
    omega
theorem right_take {l : List PE} : ∀ {n all : Nat} (i : Nat), Right n all l → Right n all (l.take i) := by
  induction l with
  | nil => intro n all i _; simp [Right]
  | cons a l ih =>
    rintro n all i ⟨h1, h2, h3, h4, h5, h6⟩
    cases i with
    | zero => trivial
    | succ i => exact ⟨h1, h2, h3, h4, h5, ih i h6⟩

theorem headW_ok {r : List Nat} : headW (hd ++ r) 0 hd = none := by simp [headW, hd]
/-- P5.3: what is encoded is decoded as it was. -/
theorem dec_enc {l : List PE} (e : Bool) (h : Right 0 0 l) : dec (trEnc l e) = ⟨l, e, 0, 0⟩ := by
  unfold dec trEnc
  rw [headW_ok]
  exact walk_back (pre := hd) (acc := []) rfl h

/-! ### What is decoded is encoded as those bytes -/

theorem delta_plus {a d : Int} (h : In64 d) : delta a (plus a d) = d := by unfold plus delta In64 at *; omega
theorem zn_plus {last : Int} {u : Nat} (h : u < 18446744073709551616) : zn last (plus last (zag u)) = u := by
  have h1 : In64 (zag (u : Int)) := ⟨zag_lo _ (by omega) (by omega), zag_hi _ (by omega) (by omega)⟩
  unfold zn
  rw [delta_plus h1, zig_zag _ (by omega)]
  omega

theorem getIn_parts {bs : List Nat} {a : Nat} (hb : ∀ b ∈ bs, b < 256) (he : (getIn bs a).2.2 = 0) : ∃ u n, getIn bs a = (u, a + n, 0) ∧ 0 < n ∧ a + n ≤ bs.length ∧ u < 18446744073709551616 ∧ (bs.drop a).take n = Var.enc u := by
  have he' : (Var.getv (bs.drop a)).2.2 = 0 := he
  obtain ⟨⟨u, n, e⟩, hg⟩ : ∃ r, Var.getv (bs.drop a) = r := ⟨_, rfl⟩
  rw [hg] at he'
  simp only at he'
  subst he'
  obtain ⟨k1, k2, k3, k4, k5⟩ := Var.getv_one (fun b hb' => hb b (List.mem_of_mem_drop hb')) hg
  rw [List.length_drop] at k2
  exact ⟨u, n, getIn_ok hg, k1, by omega, k4, k5.symm⟩

theorem split_drop (bs : List Nat) (a n : Nat) : bs.drop a = (bs.drop a).take n ++ bs.drop (a + n) := by
  conv => lhs; rw [← List.take_append_drop n (bs.drop a), List.drop_drop]

theorem step_ev {bs : List Nat} {at_ next : Nat} {last : Int} {acc : List PE} {a : PE} (hb : ∀ b ∈ bs, b < 256) (h : step bs at_ last acc = .ev a next) :
    at_ < next ∧ next ≤ bs.length ∧ acc.length < 4096 ∧ (a.dir = 0 ∨ a.dir = 1) ∧ In64 a.time ∧ a.data.length ≤ 65536 ∧ whole acc + a.data.length ≤ 262144 ∧ bs.drop at_ = enc1 last a ++ bs.drop next ∧ ∀ x ∈ a.data, x < 256 := by
  unfold step at h
  split at h
  · cases h
  · rename_i tag htag
    split at h
    · split at h <;> cases h
    · split at h
      · cases h
      · split at h
        · cases h
        · split at h
          · cases h
          · split at h
            · cases h
            · split at h
              · cases h
              · split at h
                · cases h
                · rename_i t3 t12 hn e1 e2 hlong hshort
                  obtain ⟨u, n1, g1, p1, l1, u64, k1⟩ := getIn_parts (a := at_ + 1) hb (by omega)
                  rw [g1] at e2 hlong hshort h
                  simp only at e2 hlong hshort h
                  obtain ⟨d, n2, g2, p2, l2, d64, k2⟩ := getIn_parts (a := at_ + 1 + n1) hb (by omega)
                  rw [g2] at hlong hshort h
                  simp only at hlong hshort h
                  injection h with ha hnx
                  have hdl : ((bs.drop (at_ + 1 + n1 + n2)).take d).length = d := by rw [List.length_take, List.length_drop]; omega
                  have hat : at_ < bs.length := (List.getElem?_eq_some_iff.1 htag).1
                  have hmark : mark ((tag : Int) - 1) = tag := by unfold mark; split <;> omega
                  subst hnx ha
                  refine ⟨by omega, by omega, by omega, by dsimp only; omega, plus_in _ _, by dsimp only; omega, by dsimp only; omega, ?_, ?_⟩
                  · have e0 : bs.drop at_ = tag :: bs.drop (at_ + 1) := by
                      rw [List.drop_eq_getElem_cons hat, (List.getElem?_eq_some_iff.1 htag).2]
                    have e1 : bs.drop (at_ + 1) = Var.enc u ++ bs.drop (at_ + 1 + n1) := by rw [← k1]; exact split_drop _ _ _
                    have e2 : bs.drop (at_ + 1 + n1) = Var.enc d ++ bs.drop (at_ + 1 + n1 + n2) := by rw [← k2]; exact split_drop _ _ _
                    rw [e0, e1, e2]
                    refine (congrArg (fun z => tag :: (Var.enc u ++ (Var.enc d ++ z))) (split_drop bs (at_ + 1 + n1 + n2) d)).trans ?_
                    unfold enc1
                    simp only [hmark, zn_plus u64, hdl]
                    simp
                  · intro x hx
                    exact hb x (List.mem_of_mem_drop (List.mem_of_mem_take hx))

theorem step_fin {bs : List Nat} {at_ : Nat} {last : Int} {acc : List PE} (h : step bs at_ last acc = .fin) : bs.drop at_ = [3] := by
  unfold step at h
  split at h
  · cases h
  · rename_i tag htag
    have hat : at_ < bs.length := (List.getElem?_eq_some_iff.1 htag).1
    split at h
    · rename_i h3
      split at h
      · rename_i hl
        rw [List.drop_eq_getElem_cons hat, (List.getElem?_eq_some_iff.1 htag).2, h3, List.drop_of_length_le (by omega)]
      · cases h
    · split at h
      · cases h
      · split at h
        · cases h
        · split at h
          · cases h
          · split at h
            · cases h
            · split at h
              · cases h
              · split at h <;> cases h

theorem getIn_bounds (bs : List Nat) (a : Nat) (ha : a ≤ bs.length) : (getIn bs a).2.1 ≤ bs.length ∧ (getIn bs a).1 < 18446744073709551616 := by
  have h := Var.getv_bounds (bs.drop a)
  rw [List.length_drop] at h
  unfold getIn
  simp only
  refine ⟨?_, h.1⟩
  split <;> omega

theorem step_err {bs : List Nat} {at_ p e : Nat} {last : Int} {acc : List PE} (hlt : at_ < bs.length) (h : step bs at_ last acc = .err p e) : e ≠ 0 ∧ p ≤ bs.length := by
  unfold step at h
  split at h
  · rename_i hno
    rw [List.getElem?_eq_none_iff] at hno
    omega
  · rename_i tag htag
    have b1 := getIn_bounds bs (at_ + 1) (by omega)
    split at h
    · split at h
      · cases h
      · injection h with h1 h2; omega
    · split at h
      · injection h with h1 h2; omega
      · split at h
        · injection h with h1 h2; omega
        · split at h
          · injection h with h1 h2; omega
          · split at h
            · injection h with h1 h2; omega
            · split at h
              · injection h with h1 h2; omega
              · split at h
                · injection h with h1 h2; omega
                · cases h

/-- What a walk tells without an error. -/
theorem walk_ok (bs : List Nat) (hb : ∀ b ∈ bs, b < 256) : ∀ (n at_ : Nat) (last : Int) (acc : List PE), bs.length - at_ ≤ n → at_ ≤ bs.length → (walk bs at_ last acc).err = 0 →
    ∃ l, (walk bs at_ last acc).l = acc ++ l ∧ (walk bs at_ last acc).place = 0 ∧ bs.drop at_ = encs last l ++ fin (walk bs at_ last acc).fin ∧ Right acc.length (whole acc) l ∧ ∀ a ∈ l, ∀ x ∈ a.data, x < 256 := by
  intro n
  induction n with
  | zero =>
    intro at_ last acc hn hat _
    rw [walk_end (by omega)]
    exact ⟨[], by simp, rfl, by simp [encs, fin, List.drop_of_length_le (show bs.length ≤ at_ by omega)], trivial, by simp⟩
  | succ n ih =>
    intro at_ last acc hn hat he
    rcases Nat.lt_or_ge at_ bs.length with hlt | hge
    · cases hs : step bs at_ last acc with
      | err p e =>
        rw [walk_err hlt hs] at he
        exact absurd he (step_err hlt hs).1
      | fin =>
        rw [walk_fin hlt hs]
        exact ⟨[], by simp, rfl, by simp [encs, fin, step_fin hs], trivial, by simp⟩
      | ev a next =>
        obtain ⟨s1, s2, s3, s4, s5, s6, s7, s8, s9⟩ := step_ev hb hs
        rw [walk_ev hlt hs s1] at he ⊢
        obtain ⟨l, i1, i2, i3, i4, i5⟩ := ih next a.time (acc ++ [a]) (by omega) s2 he
        refine ⟨a :: l, by rw [i1]; simp, i2, by rw [s8, i3, encs]; simp, ⟨s3, s4, s5, s6, s7, ?_⟩, ?_⟩
        · rw [whole_snoc, List.length_append] at i4; exact i4
        · intro b hb'
          rcases List.mem_cons.1 hb' with rfl | hb'
          · exact s9
          · exact i5 b hb'
    · rw [walk_end hge]
      exact ⟨[], by simp, rfl, by simp [encs, fin, List.drop_of_length_le hge], trivial, by simp⟩

/-- What a walk tells with an error. -/
theorem walk_bad (bs : List Nat) (hb : ∀ b ∈ bs, b < 256) : ∀ (n at_ : Nat) (last : Int) (acc : List PE), bs.length - at_ ≤ n → (walk bs at_ last acc).err ≠ 0 →
    (walk bs at_ last acc).l = [] ∧ (walk bs at_ last acc).fin = false ∧ (walk bs at_ last acc).place ≤ bs.length := by
  intro n
  induction n with
  | zero =>
    intro at_ last acc hn he
    rw [walk_end (by omega)] at he
    exact absurd rfl he
  | succ n ih =>
    intro at_ last acc hn he
    rcases Nat.lt_or_ge at_ bs.length with hlt | hge
    · cases hs : step bs at_ last acc with
      | err p e =>
        rw [walk_err hlt hs]
        exact ⟨rfl, rfl, (step_err hlt hs).2⟩
      | fin =>
        rw [walk_fin hlt hs] at he
        exact absurd rfl he
      | ev a next =>
        have s1 := (step_ev hb hs).1
        rw [walk_ev hlt hs s1] at he ⊢
        exact ih next a.time (acc ++ [a]) (by omega) he
    · rw [walk_end hge] at he
      exact absurd rfl he

theorem headW_step {bs r : List Nat} {k h : Nat} (e : headW bs k (h :: r) = none) : bs[k]? = some h ∧ headW bs (k + 1) r = none := by
  unfold headW at e
  split at e
  · cases e
  · rename_i c hc
    split at e
    · rename_i hh
      exact ⟨by rw [hc, hh], e⟩
    · cases e
theorem headW_none {bs : List Nat} (h : headW bs 0 hd = none) : bs = hd ++ bs.drop 4 := by
  obtain ⟨h0, h⟩ := headW_step h
  obtain ⟨h1, h⟩ := headW_step h
  obtain ⟨h2, h⟩ := headW_step h
  obtain ⟨h3, _⟩ := headW_step h
  rcases bs with _ | ⟨a, _ | ⟨b, _ | ⟨c, _ | ⟨d, r⟩⟩⟩⟩ <;> simp at h0 h1 h2 h3
  subst h0 h1 h2 h3
  rfl
theorem headW_some : ∀ {bs r : List Nat} {k p e : Nat}, headW bs k r = some (p, e) → e ≠ 0 ∧ p ≤ bs.length + k ∧ (k ≤ bs.length → p ≤ bs.length)
  | bs, [], k, p, e, h => by simp [headW] at h
  | bs, x :: r, k, p, e, h => by
    unfold headW at h
    split at h
    · rename_i hno
      rw [List.getElem?_eq_none_iff] at hno
      simp at h
      omega
    · rename_i c hc
      have hk := (List.getElem?_eq_some_iff.1 hc).1
      split at h
      · have := headW_some h
        omega
      · simp at h
        omega

/-- P5.3: what is decoded is encoded as those bytes. -/
theorem dec_ok {bs : List Nat} (hb : ∀ b ∈ bs, b < 256) (he : (dec bs).err = 0) : bs = trEnc (dec bs).l (dec bs).fin ∧ (dec bs).place = 0 ∧ Right 0 0 (dec bs).l ∧ ∀ a ∈ (dec bs).l, ∀ x ∈ a.data, x < 256 := by
  unfold dec at he ⊢
  split at he
  · rename_i p e hh
    exact absurd he (headW_some hh).1
  · rename_i hh
    have e4 := headW_none hh
    have h4 : 4 ≤ bs.length := by rw [e4]; simp [hd]
    obtain ⟨l, i1, i2, i3, i4, i5⟩ := walk_ok bs hb _ 4 0 [] (Nat.le_refl _) h4 he
    simp only [List.nil_append] at i1
    rw [i1]
    refine ⟨?_, i2, i4, i5⟩
    conv => lhs; rw [e4, i3]
    rfl
theorem dec_bad {bs : List Nat} (hb : ∀ b ∈ bs, b < 256) (he : (dec bs).err ≠ 0) : (dec bs).l = [] ∧ (dec bs).fin = false ∧ (dec bs).place ≤ bs.length := by
  unfold dec at he ⊢
  split at he
  · rename_i p e hh
    exact ⟨rfl, rfl, (headW_some hh).2.2 (by omega)⟩
  · rename_i hh
    exact walk_bad bs hb _ 4 0 [] (Nat.le_refl _) he

/-! ### Bytes that are cut off -/

theorem getIn_cut {bs pre : List Nat} {x i : Nat} (hbs : bs = pre ++ (Var.enc x).take i) (hx : x < 18446744073709551616) (hi : i < (Var.enc x).length) : getIn bs pre.length = (0, 0, 5) := by
  refine getIn_err ?_ (by omega)
  rw [hbs, List.drop_left' rfl]
  exact Var.getv_cut hx hi

theorem step_cut {bs pre : List Nat} {last : Int} {acc : List PE} {a : PE} {j : Nat} (hbs : bs = pre ++ (enc1 last a).take j) (hj0 : 0 < j) (hj : j < (enc1 last a).length) (hn : acc.length < 4096) (hl : a.data.length ≤ 65536) (hw : whole acc + a.data.length ≤ 262144) :
    ∃ p, step bs pre.length last acc = .err p 5 ∧ p ≤ bs.length := by
  obtain ⟨i, rfl⟩ : ∃ i, j = i + 1 := ⟨j - 1, by omega⟩
  have e0 : bs = (pre ++ [mark a.dir]) ++ (Var.enc (zn last a.time) ++ (Var.enc a.data.length ++ a.data)).take i := by rw [hbs, enc1]; simp
  have h0 : bs[pre.length]? = some (mark a.dir) := by rw [e0]; simp
  have hb1 : bs.length = pre.length + 1 + i := by
    rw [hbs, List.length_append, List.length_take]; omega
  rw [enc1_len] at hj
  by_cases c1 : i < (Var.enc (zn last a.time)).length
  · have e1 : bs = (pre ++ [mark a.dir]) ++ (Var.enc (zn last a.time)).take i := by rw [e0, List.take_append_of_le_length (by omega)]
    have g1 := getIn_cut e1 (zn_lt _ _) c1
    rw [List.length_append] at g1
    refine ⟨pre.length + 1, ?_, by omega⟩
    unfold step
    rw [h0]
    simp only [List.length_cons, List.length_nil, Nat.zero_add] at g1
    simp only [g1]
    rw [if_neg (mark_three _), if_neg (mark_some _), if_neg (by omega), if_pos (by omega)]
  · obtain ⟨i2, rfl⟩ : ∃ i2, i = (Var.enc (zn last a.time)).length + i2 := ⟨i - (Var.enc (zn last a.time)).length, by omega⟩
    have e1 : bs = (pre ++ [mark a.dir]) ++ (Var.enc (zn last a.time) ++ (Var.enc a.data.length ++ a.data).take i2) := by rw [e0, List.take_length_add_append]
    have g1 := got1 e1 (zn_lt last a.time)
    by_cases c2 : i2 < (Var.enc a.data.length).length
    · have e2 : bs = ((pre ++ [mark a.dir]) ++ Var.enc (zn last a.time)) ++ (Var.enc a.data.length).take i2 := by rw [e1, List.take_append_of_le_length (by omega)]; simp
      have g2 := getIn_cut e2 (by omega) c2
      rw [List.length_append, List.length_append] at g2
      refine ⟨pre.length + 1 + (Var.enc (zn last a.time)).length, ?_, by omega⟩
      unfold step
      rw [h0]
      simp only [List.length_cons, List.length_nil, Nat.zero_add] at g2
      simp only [g1, g2]
      rw [if_neg (mark_three _), if_neg (mark_some _), if_neg (by omega), if_neg (by omega), if_pos (by omega)]
    · obtain ⟨i3, rfl⟩ : ∃ i3, i2 = (Var.enc a.data.length).length + i3 := ⟨i2 - (Var.enc a.data.length).length, by omega⟩
      have e2 : bs = (pre ++ [mark a.dir]) ++ (Var.enc (zn last a.time) ++ (Var.enc a.data.length ++ a.data.take i3)) := by rw [e1, List.take_length_add_append]
      have g2 := got2 e2 (show a.data.length < 18446744073709551616 by omega)
      refine ⟨bs.length, ?_, by omega⟩
      unfold step
      rw [h0]
      simp only [g1, g2]
      rw [if_neg (mark_three _), if_neg (mark_some _), if_neg (by omega), if_neg (by omega), if_neg (by omega), if_neg (by omega), if_pos (by omega)]

/-- Cut off, events' bytes end where an event does, or too early. -/
theorem walk_cut {l : List PE} : ∀ {bs pre : List Nat} {last : Int} {acc : List PE} {j : Nat}, bs = pre ++ (encs last l).take j → j ≤ (encs last l).length → Right acc.length (whole acc) l →
    (∃ i, i ≤ l.length ∧ j = (encs last (l.take i)).length) ∨ ∃ p, walk bs pre.length last acc = ⟨[], false, p, 5⟩ ∧ p ≤ bs.length := by
  induction l with
  | nil =>
    intro bs pre last acc j hbs hj _
    exact .inl ⟨0, by simp, by simpa [encs] using hj⟩
  | cons a l ih =>
    intro bs pre last acc j hbs hj hr
    obtain ⟨h1, h2, h3, h4, h5, h6⟩ := hr
    rcases Nat.eq_zero_or_pos j with h0 | h0
    · exact .inl ⟨0, by simp, by simp [h0, encs]⟩
    · by_cases hc : j < (enc1 last a).length
      · right
        have hbs' : bs = pre ++ (enc1 last a).take j := by rw [hbs, encs, List.take_append_of_le_length (by omega)]
        obtain ⟨p, hs, hp⟩ := step_cut hbs' h0 hc h1 h4 h5
        exact ⟨p, walk_err (by rw [hbs', List.length_append, List.length_take]; omega) hs, hp⟩
      · obtain ⟨j2, rfl⟩ : ∃ j2, j = (enc1 last a).length + j2 := ⟨j - (enc1 last a).length, by omega⟩
        have hbs' : bs = pre ++ (enc1 last a ++ (encs a.time l).take j2) := by rw [hbs, encs, List.take_length_add_append]
        have hp : 0 < (enc1 last a).length := by rw [enc1_len]; omega
        rw [encs, List.length_append] at hj
        have hw := walk_ev (by rw [hbs']; simp; omega) (step_enc hbs' h2 h3 h1 h4 h5) (by omega)
        rcases ih (bs := bs) (pre := pre ++ enc1 last a) (last := a.time) (acc := acc ++ [a]) (j := j2) (by rw [hbs']; simp) (by omega) (by rw [whole_snoc, List.length_append]; exact h6) with ⟨i, hi, hji⟩ | ⟨p, hp1, hp2⟩
        · exact .inl ⟨i + 1, by rw [List.length_cons]; omega, by rw [List.take_succ_cons, encs, List.length_append, hji]⟩
        · right
          rw [List.length_append] at hp1
          exact ⟨p, by rw [hw, hp1], hp2⟩

theorem encs_take (t : Int) (l : List PE) (i : Nat) : (encs t l).take (encs t (l.take i)).length = encs t (l.take i) := by
  conv => lhs; rw [← List.take_append_drop i l, encs_append]
  rw [List.take_append_drop, List.take_left' rfl]
theorem trEnc_len (l : List PE) : (trEnc l false).length = 4 + (encs 0 l).length := by simp [trEnc, fin, hd]; omega

/-- Bytes of a transcript, cut off. -/
theorem dec_cut {l : List PE} (h : Right 0 0 l) {k : Nat} (hk : k ≤ (trEnc l false).length) :
    (∃ i, i ≤ l.length ∧ k = (trEnc (l.take i) false).length ∧ dec ((trEnc l false).take k) = ⟨l.take i, false, 0, 0⟩) ∨
    ((∀ i, i ≤ l.length → k ≠ (trEnc (l.take i) false).length) ∧ ∃ p, dec ((trEnc l false).take k) = ⟨[], false, p, 5⟩ ∧ p ≤ k) := by
  rw [trEnc_len] at hk
  have e0 : trEnc l false = hd ++ encs 0 l := by simp [trEnc, fin]
  have uniq : ∀ i, i ≤ l.length → k = (trEnc (l.take i) false).length → dec ((trEnc l false).take k) = ⟨l.take i, false, 0, 0⟩ := by
    intro i hi e
    have e1 : (trEnc l false).take k = trEnc (l.take i) false := by
      rw [e, trEnc_len, e0, show 4 = hd.length from rfl, List.take_length_add_append, encs_take]
      simp [trEnc, fin]
    rw [e1]
    exact dec_enc false (right_take i h)
  by_cases hx : ∃ i, i ≤ l.length ∧ k = (trEnc (l.take i) false).length
  · obtain ⟨i, hi, e⟩ := hx
    exact .inl ⟨i, hi, e, uniq i hi e⟩
  · right
    refine ⟨fun i hi e => hx ⟨i, hi, e⟩, ?_⟩
    by_cases h4 : k < 4
    · rw [e0, List.take_append_of_le_length (show k ≤ hd.length by simp [hd]; omega)]
      have : k = 0 ∨ k = 1 ∨ k = 2 ∨ k = 3 := by omega
      rcases this with rfl | rfl | rfl | rfl
      · exact ⟨0, by rfl, by omega⟩
      · exact ⟨1, by rfl, by omega⟩
      · exact ⟨2, by rfl, by omega⟩
      · exact ⟨3, by rfl, by omega⟩
    · obtain ⟨j, rfl⟩ : ∃ j, k = 4 + j := ⟨k - 4, by omega⟩
      have e1 : (trEnc l false).take (4 + j) = hd ++ (encs 0 l).take j := by
        rw [e0, show 4 = hd.length from rfl, List.take_length_add_append]
      rw [e1]
      rcases walk_cut (bs := hd ++ (encs 0 l).take j) (pre := hd) (last := 0) (acc := []) (j := j) rfl (by omega) h with ⟨i, hi, hj⟩ | ⟨p, hp1, hp2⟩
      · exact absurd ⟨i, hi, by rw [trEnc_len, hj]⟩ hx
      · refine ⟨p, ?_, ?_⟩
        · unfold dec
          rw [headW_ok]
          exact hp1
        · rw [List.length_append, List.length_take] at hp2
          simp [hd] at hp2
          omega

/-! ### The steps, one by one -/
section
variable {bs : List Nat} {at_ d u p er v q erq : Nat} {last : Int} {acc : List PE}
theorem step_three_end (h : bs[at_]? = some 3) (e : at_ + 1 = bs.length) : step bs at_ last acc = .fin := by
  unfold step; rw [h]; simp [e]
theorem step_three_more (h : bs[at_]? = some 3) (e : at_ + 1 ≠ bs.length) : step bs at_ last acc = .err (at_ + 1) 4 := by
  unfold step; rw [h]; simp [e]
theorem step_other (h : bs[at_]? = some d) (h3 : d ≠ 3) (h1 : d ≠ 1) (h2 : d ≠ 2) : step bs at_ last acc = .err at_ 4 := by
  unfold step; rw [h]; simp only; rw [if_neg h3, if_pos ⟨h1, h2⟩]
theorem step_many (h : bs[at_]? = some d) (h12 : d = 1 ∨ d = 2) (hm : 4096 ≤ acc.length) : step bs at_ last acc = .err at_ 10 := by
  unfold step; rw [h]; simp only; rw [if_neg (by omega), if_neg (by omega), if_pos hm]
theorem step_time (h : bs[at_]? = some d) (h12 : d = 1 ∨ d = 2) (hm : acc.length < 4096) (g1 : getIn bs (at_ + 1) = (u, p, er)) (he : er ≠ 0) : step bs at_ last acc = .err (at_ + 1) er := by
  unfold step; rw [h]; simp only [g1]; rw [if_neg (by omega), if_neg (by omega), if_neg (by omega), if_pos he]
theorem step_data (h : bs[at_]? = some d) (h12 : d = 1 ∨ d = 2) (hm : acc.length < 4096) (g1 : getIn bs (at_ + 1) = (u, p, 0)) (g2 : getIn bs p = (v, q, er)) (he : er ≠ 0) : step bs at_ last acc = .err p er := by
  unfold step; rw [h]; simp only [g1, g2]; rw [if_neg (by omega), if_neg (by omega), if_neg (by omega), if_neg (by omega), if_pos he]
theorem step_long (h : bs[at_]? = some d) (h12 : d = 1 ∨ d = 2) (hm : acc.length < 4096) (g1 : getIn bs (at_ + 1) = (u, p, 0)) (g2 : getIn bs p = (v, q, 0)) (hl : 65536 < v ∨ 262144 < whole acc + v) : step bs at_ last acc = .err p 6 := by
  unfold step; rw [h]; simp only [g1, g2]; rw [if_neg (by omega), if_neg (by omega), if_neg (by omega), if_neg (by omega), if_neg (by omega), if_pos hl]
theorem step_short (h : bs[at_]? = some d) (h12 : d = 1 ∨ d = 2) (hm : acc.length < 4096) (g1 : getIn bs (at_ + 1) = (u, p, 0)) (g2 : getIn bs p = (v, q, 0)) (hl : ¬ (65536 < v ∨ 262144 < whole acc + v)) (hs : bs.length < q + v) : step bs at_ last acc = .err bs.length 5 := by
  unfold step; rw [h]; simp only [g1, g2]; rw [if_neg (by omega), if_neg (by omega), if_neg (by omega), if_neg (by omega), if_neg (by omega), if_neg hl, if_pos hs]
theorem step_good (h : bs[at_]? = some d) (h12 : d = 1 ∨ d = 2) (hm : acc.length < 4096) (g1 : getIn bs (at_ + 1) = (u, p, 0)) (g2 : getIn bs p = (v, q, 0)) (hl : ¬ (65536 < v ∨ 262144 < whole acc + v)) (hs : q + v ≤ bs.length) :
    step bs at_ last acc = .ev ⟨(d : Int) - 1, plus last (zag u), (bs.drop q).take v⟩ (q + v) := by
  unfold step; rw [h]; simp only [g1, g2]; rw [if_neg (by omega), if_neg (by omega), if_neg (by omega), if_neg (by omega), if_neg (by omega), if_neg hl, if_neg (by omega)]
end
end Go.Proofs.Ytbaibabnfbjdeaa
