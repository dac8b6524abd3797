/-
  cuecardlaw05.same, and that cuecardlaw05.alive answers true.
  Conditions: none.
-/
import Derived.Test.YtbaibabnfbjdeaaTrEnc
import Derived.Test.YtbaibabnfbjdeaaTrDec
import Derived.Test.YtbaibabnfbjdeaaEvSame
namespace Go.Proofs.Ytbaibabnfbjdeaa
open Go.RowKit

theorem tsame_any (v u : Value) (l m : List Ev) (ea eb : Bool) (w : World) (h : Evs w v l) (h' : Evs w u m) :
    Calls Try.prog 16 #[.agg #[v, .bool ea], .agg #[u, .bool eb]] w fun e w' => e = .returned (.bool (ea == eb && decide (pes l = pes m))) ∧ Below w.heap.size w w' := by
  have HE := Lib.hid h
  have HE' := Lib.hid h'
  have bel : ∀ o o', Below w.heap.size w ((w.alloc o).alloc o') := fun o o' => ((Below.refl _ w).alloc (Nat.le_refl _) o).alloc (by simp) o'
  have BEL := Lib.hid bel
  clear h h' bel
  by_cases hab : ea = eb
  · subst hab
    have hb : (ea == ea) = true := by simp
    go_enter Try.func16, Try.ntmps16
    go_wp2_with fail
    refine (RSame_any _ _ l m _ ((HE.out.alloc _).alloc _) ((HE'.out.alloc _).alloc _)).mono ?_
    rintro e w' ⟨rfl, hbw⟩
    have HB : Hid (Below w.heap.size w w') := below2 (BEL.out _ _) hbw
    clear hbw
    go_wp2_with fail
    go_ret
    exact ⟨ret_bool (by simp), HB.out⟩
  · have hb : (ea == eb) = false := by simpa using hab
    have HB := Lib.hid hb
    go_enter Try.func16, Try.ntmps16
    go_wp2_with fail
    go_ret
    exact ⟨ret_bool (by rw [HB.out]; rfl), BEL.out _ _⟩

/-- The document's example. -/
theorem eg_enc : trEnc [⟨0, 5, [97, 98]⟩] true = [67, 85, 69, 49, 1, 10, 2, 97, 98, 3] := by
  have h1 : zn 0 5 = 10 := by decide
  simp [trEnc, encs, enc1, hd, fin, mark, h1, Var.enc_small]
theorem eg_nil : dec [] = ⟨[], false, 0, 5⟩ := by simp [dec, headW, hd]
theorem eg_three : dec [67, 85, 70] = ⟨[], false, 2, 4⟩ := by simp [dec, headW, hd]
theorem eg_right (N : Nat) : Right 0 0 (pes [(⟨0, 5, some ⟨N, 0, none⟩, 2, [97, 98]⟩ : Ev)]) := by
  show Right 0 0 [⟨0, 5, [97, 98]⟩]
  exact ⟨by omega, .inl rfl, ⟨by decide, by decide⟩, by decide, by decide, trivial⟩

theorem bytes_lit {W : World} {b : Nat} {C : Array Value} {z : Nat × Nat} {n : Nat} (l : List Nat) (hC : C.toList = bv l) (hb : b = W.heap.size) (hn : n = l.length) : Rd (W.alloc (.cells C 5 z)) (.slice (some ⟨b, 0, none⟩) n n) (bv l) := by
  subst hn
  exact Rd.ofBlk (al_at hb) l hC

set_option maxRecDepth 100000 in
set_option maxHeartbeats 1000000 in
theorem alive_true (w : World) : Calls Try.prog 12 #[] w fun e w' => e = .returned (.bool true) ∧ Below w.heap.size w w' := by
  have kc := run_const
  go_enter Try.func12, Try.ntmps12
  go_wp2_with fail
  have hE : Evs ((w.alloc (.cells #[.int .u8 97, .int .u8 98] 5 (2, 3))).alloc (.cells #[.int .i64 0, .int .i64 5, .slice (some ⟨w.heap.size, 0, none⟩) 2 2] 43)) (.slice (some ⟨w.heap.size + 1, 0, none⟩) 1 1) [(⟨0, 5, some ⟨w.heap.size, 0, none⟩, 2, [97, 98]⟩ : Ev)] := by
    refine Evs.ofBlk (al_at (by simp)) _ rfl ?_ (by simp)
    intro a ha
    rw [List.mem_singleton.1 ha]
    exact EvOk.ofBlk (al_old (al_at rfl)) 0 5 [97, 98] rfl (by simp) (by simp)
  have HB0 : Hid (∀ w', Below ((w.alloc (.cells #[.int .u8 97, .int .u8 98] 5 (2, 3))).alloc (.cells #[.int .i64 0, .int .i64 5, .slice (some ⟨w.heap.size, 0, none⟩) 2 2] 43)).heap.size ((w.alloc (.cells #[.int .u8 97, .int .u8 98] 5 (2, 3))).alloc (.cells #[.int .i64 0, .int .i64 5, .slice (some ⟨w.heap.size, 0, none⟩) 2 2] 43)) w' → Below w.heap.size w w') := fun w' h => below2 (((Below.refl _ w).alloc (Nat.le_refl _) _).alloc (by simp) _) h
  refine (Encode_good _ _ true _ hE (eg_right _)).mono ?_
  rw [show pes [(⟨0, 5, some ⟨w.heap.size, 0, none⟩, 2, [97, 98]⟩ : Ev)] = [⟨0, 5, [97, 98]⟩] from rfl, eg_enc]
  rintro e W1 ⟨A1, c1, rfl, hr1, hb1⟩
  have HB1 := Lib.hid (HB0.out _ hb1)
  have HR1 := Lib.hid hr1
  simp only [List.length_cons, List.length_nil, Nat.zero_add, Nat.reduceAdd] at HR1 ⊢
  clear hE hb1 hr1 HB0 kc
  go_wp2_with fail
  refine (Decode_any none 0 0 [] _ (Row.nil _ 5).rd (by simp) (by omega)).mono ?_
  rw [eg_nil]
  rintro e W2 ⟨A2, c2, l2, rfl, -, -, hb2⟩
  have HB2 := Lib.hid (below2 HB1.out hb2)
  have HR2 := Lib.hid (HR1.out.kept hb2)
  clear hb2 HB1 HR1
  go_wp2_with fail
  refine (Decode_any _ 3 3 [67, 85, 70] _ (bytes_lit [67, 85, 70] rfl (by simp) rfl) (by simp) (by omega)).mono ?_
  rw [eg_three]
  rintro e W3 ⟨A3, c3, l3, rfl, -, -, hb3⟩
  have hb23 := below2 (((Below.refl _ W2).alloc (Nat.le_refl _) _).alloc (by simp) _) hb3
  have HB3 := Lib.hid (below2 HB2.out hb23)
  have HR3 := Lib.hid (HR2.out.kept hb23)
  clear hb3 hb23 HB2 HR2
  have s1 : ∀ o, (convert 25 9 (.slice A1 10 c1)).run Try.prog (W3.alloc o) = .ok (.string (str [67, 85, 69, 49, 1, 10, 2, 97, 98, 3])) (W3.alloc o) := fun o => run_str (HR3.out.alloc o)
  have s2 : ∀ o, (convert 25 9 (.slice (some ⟨W3.heap.size + 1, 0, none⟩) 10 10)).run Try.prog ((W3.alloc o).alloc (.cells #[.int .u8 67, .int .u8 85, .int .u8 69, .int .u8 49, .int .u8 1, .int .u8 10, .int .u8 2, .int .u8 97, .int .u8 98, .int .u8 3] 5)) = .ok (.string (str [67, 85, 69, 49, 1, 10, 2, 97, 98, 3])) ((W3.alloc o).alloc (.cells #[.int .u8 67, .int .u8 85, .int .u8 69, .int .u8 49, .int .u8 1, .int .u8 10, .int .u8 2, .int .u8 97, .int .u8 98, .int .u8 3] 5)) := fun o => run_str (bytes_lit [67, 85, 69, 49, 1, 10, 2, 97, 98, 3] rfl (by simp) rfl)
  go_wp2_with fail
  go_ret
  exact ⟨rfl, (HB3.out.alloc HB3.out.size _).alloc (by have := HB3.out.size; simp; omega) _⟩
end Go.Proofs.Ytbaibabnfbjdeaa
