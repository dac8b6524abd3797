/-
  What was written, noted, handed on and read hangs together, whatever happens (Inv); over no memory.
  Conditions: none.
-/
import Derived.Test.YtfmmomdfmmoklaaDoorWRun
namespace Go.Proofs.YtfmmomdfmmoklaaDoor

theorem Sys.line_f (x : Sys) (k s : Nat) (z : Way) (j t : Nat) : (x.line k s z).f j t = if j = k ∧ t = s then z else x.f j t := by
  unfold Sys.line
  simp only
  by_cases hj : j = k
  · subst hj
    rw [upn_at]
    by_cases ht : t = s
    · subst ht; rw [upd_at, if_pos ⟨rfl, rfl⟩]
    · rw [upd_far _ _ ht, if_neg (by simp [ht])]
  · rw [upn_far _ _ hj, if_neg (by simp [hj])]

/-- Of direction d (0 to the user, 1 to the child): what was noted is what was read, what is on the line and what waits; what was written is what was noted, and what is on the line ahead of it. -/
structure Wld.Inv (y : Wld) : Prop where
  noted : ∀ d, d < 2 → byts (d : Nat) y.x.ev = y.rd d ++ (y.x.f (1 - d) (1 - d)).xs ++ y.x.ws d
  wrote : ∀ d, d < 2 → y.wr (1 - d) = byts (d : Nat) y.x.ev ++ (y.x.f d (1 - d)).xs
theorem Wld.Inv.start (rm : Nat) : (Wld.start rm).Inv := ⟨fun _ _ => rfl, fun _ _ => rfl⟩

theorem byts_snoc (d : Nat) (l : List PE) (a : PE) : byts (d : Int) (l ++ [a]) = byts (d : Int) l ++ if a.dir = d then a.data else [] := by
  rw [byts_append]; simp [byts]

section
variable {y : Wld}
theorem Wld.Inv.says (h : y.Inv) {e : Nat} (he : e < 2) (zs : List Nat) : (y.says e zs).Inv := by
  constructor
  · intro d hd
    show byts (d : Nat) y.x.ev = y.rd d ++ ((y.x.line (1 - e) e _).f (1 - d) (1 - d)).xs ++ y.x.ws d
    rw [Sys.line_f, if_neg (by omega)]
    exact h.noted d hd
  · intro d hd
    show upn y.wr e (y.wr e ++ _) (1 - d) = byts (d : Nat) y.x.ev ++ ((y.x.line (1 - e) e _).f d (1 - d)).xs
    rw [Sys.line_f]
    by_cases hde : 1 - d = e
    · subst hde
      rw [upn_at, if_pos (by omega), h.wrote d hd, show 1 - (1 - d) = d by omega, List.append_assoc]
    · rw [upn_far _ _ hde, if_neg (by omega)]
      exact h.wrote d hd
theorem Wld.Inv.hears (h : y.Inv) {e : Nat} (he : e < 2) (n : Int) : (y.hears e n).Inv := by
  constructor
  · intro d hd
    show byts (d : Nat) y.x.ev = upn y.rd e (y.rd e ++ _) d ++ ((y.x.line (1 - e) (1 - e) _).f (1 - d) (1 - d)).xs ++ y.x.ws d
    rw [Sys.line_f]
    by_cases hde : d = e
    · subst hde
      rw [upn_at, if_pos (by omega), h.noted d hd]
      simp only [List.append_assoc]
      conv => lhs; rw [← List.take_append_drop n.toNat (y.x.f (1 - d) (1 - d)).xs]
      simp only [List.append_assoc]
    · rw [upn_far _ _ hde, if_neg (by omega)]
      exact h.noted d hd
  · intro d hd
    show y.wr (1 - d) = byts (d : Nat) y.x.ev ++ ((y.x.line (1 - e) (1 - e) _).f d (1 - d)).xs
    rw [Sys.line_f, if_neg (by omega)]
    exact h.wrote d hd
theorem Wld.Inv.hangs (h : y.Inv) (e : Nat) : (y.hangs e).Inv := by
  constructor
  · intro d hd
    show byts (d : Nat) y.x.ev = y.rd d ++ ((y.x.line (1 - e) e _).f (1 - d) (1 - d)).xs ++ y.x.ws d
    rw [Sys.line_f, if_neg (by omega)]
    exact h.noted d hd
  · intro d hd
    show y.wr (1 - d) = byts (d : Nat) y.x.ev ++ ((y.x.line (1 - e) e _).f d (1 - d)).xs
    rw [Sys.line_f, h.wrote d hd]
    split
    · next k => rw [k.2, k.1]
    · rfl
theorem Wld.Inv.read (h : y.Inv) {e : Nat} (he : e < 2) (n t : Int) : ({ y with x := (y.x.read e n t).2 } : Wld).Inv := by
  unfold Sys.read
  split
  · exact h
  · next hs =>
    have hw : y.x.ws e = [] := by
      simp only [Sys.shut, Bool.or_eq_true, decide_eq_true_eq] at hs
      refine List.eq_nil_of_length_eq_zero ?_
      rcases Nat.eq_zero_or_pos (y.x.ws e).length with h0 | h0
      · exact h0
      · exact absurd (.inl (.inl (.inl h0))) hs
    split
    · constructor
      · intro d hd
        show byts (d : Nat) (y.x.ev ++ [_]) = y.rd d ++ ((y.x.line e (1 - e) _).f (1 - d) (1 - d)).xs ++ upn y.x.ws e (y.x.got e n) d
        rw [Sys.line_f, if_neg (by omega), byts_snoc, h.noted d hd]
        simp only
        by_cases hde : d = e
        · subst hde
          rw [upn_at, if_pos rfl, hw, List.append_nil]
        · rw [upn_far _ _ hde, if_neg (by omega), List.append_nil]
      · intro d hd
        show y.wr (1 - d) = byts (d : Nat) (y.x.ev ++ [_]) ++ ((y.x.line e (1 - e) _).f d (1 - d)).xs
        rw [Sys.line_f, byts_snoc, h.wrote d hd]
        simp only
        by_cases hde : d = e
        · subst hde
          rw [if_pos rfl, if_pos ⟨rfl, rfl⟩, List.append_assoc]
          congr 1
          exact (List.take_append_drop (y.x.room n).toNat (y.x.f d (1 - d)).xs).symm
        · rw [if_neg (by omega), if_neg (by omega), List.append_nil]
    · split
      · constructor
        · intro d hd
          show byts (d : Nat) y.x.ev = y.rd d ++ ((y.x.line (1 - e) (1 - e) _).f (1 - d) (1 - d)).xs ++ y.x.ws d
          rw [Sys.line_f, h.noted d hd]
          split
          · next k => rw [k.1]; rfl
          · rfl
        · intro d hd
          show y.wr (1 - d) = byts (d : Nat) y.x.ev ++ ((y.x.line (1 - e) (1 - e) _).f d (1 - d)).xs
          rw [Sys.line_f, h.wrote d hd, if_neg (by omega)]
      · exact h
theorem Wld.Inv.sent (h : y.Inv) {e : Nat} (he : e < 2) (n : Int) : ({ y with x := y.x.sent e n } : Wld).Inv := by
  constructor
  · intro d hd
    show byts (d : Nat) y.x.ev = y.rd d ++ ((y.x.line (1 - e) (1 - e) _).f (1 - d) (1 - d)).xs ++ upn y.x.ws e _ d
    rw [Sys.line_f, h.noted d hd]
    by_cases hde : d = e
    · subst hde
      rw [upn_at, if_pos ⟨rfl, rfl⟩]
      simp only [List.append_assoc]
      congr 1
      show (y.x.f (1 - d) (1 - d)).xs ++ y.x.ws d = (y.x.out d).xs ++ ((y.x.ws d).take (y.x.many d n) ++ (y.x.ws d).drop (y.x.many d n))
      rw [List.take_append_drop]
      rfl
    · rw [upn_far _ _ hde, if_neg (by omega)]
  · intro d hd
    show y.wr (1 - d) = byts (d : Nat) y.x.ev ++ ((y.x.line (1 - e) (1 - e) _).f d (1 - d)).xs
    rw [Sys.line_f, h.wrote d hd, if_neg (by omega)]
theorem Wld.Inv.step (h : y.Inv) (kind n t : Int) : ({ y with x := (y.x.step kind n t).2 } : Wld).Inv := by
  unfold Sys.step
  split
  · split
    · exact h
    · exact h.read (by omega) n t
  · split
    · exact h.read (by omega) n t
    · split
      · exact h.sent (by omega) n
      · split
        · exact h.sent (by omega) n
        · exact h
theorem Wld.Inv.act (h : y.Inv) (kind n t : Int) (zs : List Nat) : (y.act kind n t zs).2.Inv := by
  unfold Wld.act
  split
  · exact h.says (by omega) zs
  · split
    · exact h.hears (by omega) n
    · split
      · exact h.hangs 0
      · split
        · exact h.says (by omega) zs
        · split
          · exact h.hears (by omega) n
          · split
            · exact h.hangs 1
            · exact h.step kind n t
end
end Go.Proofs.YtfmmomdfmmoklaaDoor
