/-
  cuecardlaw02.VaryRow answers true for every list of numbers.
  Conditions: none.
-/
import Derived.Test.YtmgmklhajapebaaRGet
import Derived.Test.YtmgmklhajapebaaVAlive
namespace Go.Proofs.Ytmgmklhajapebaa
open Go.RowKit

/-- The bytes of numbers, one behind the other. -/
def cat (xs : List Nat) : List Nat := xs.flatMap Var.enc
theorem cat_snoc {xs : List Nat} {k x : Nat} (h : xs[k]? = some x) : cat (xs.take (k + 1)) = cat (xs.take k) ++ Var.enc x := by
  have hk := (List.getElem?_eq_some_iff.1 h).1
  rw [List.take_succ_eq_append_getElem hk, (List.getElem?_eq_some_iff.1 h).2]
  simp [cat]
theorem cat_split {xs : List Nat} {k x : Nat} (h : xs[k]? = some x) : cat xs = cat (xs.take k) ++ (Var.enc x ++ cat (xs.drop (k + 1))) := by
  have hk := (List.getElem?_eq_some_iff.1 h).1
  conv => lhs; rw [← List.take_append_drop k xs, List.drop_eq_getElem_cons hk, (List.getElem?_eq_some_iff.1 h).2]
  simp [cat]
theorem cat_len : ∀ {xs : List Nat}, (∀ x ∈ xs, x < 18446744073709551616) → (cat xs).length ≤ 10 * xs.length
  | [], _ => by simp [cat]
  | x :: xs, h => by
    have h1 := cat_len (xs := xs) (fun y hy => h y (List.mem_cons_of_mem _ hy))
    have h2 := Var.enc_len10 (h x (by simp))
    have e : cat (x :: xs) = Var.enc x ++ cat xs := by simp [cat]
    rw [e, List.length_append, List.length_cons]
    omega
theorem cat_lt (xs : List Nat) : ∀ b ∈ cat xs, b < 256 := by
  intro b hb
  obtain ⟨x, _, hx⟩ := List.mem_flatMap.1 hb
  exact Var.enc_lt x b hx
theorem cat_get {xs : List Nat} {k x : Nat} (h : xs[k]? = some x) (hx : x < 18446744073709551616) : getIn (cat xs) (cat (xs.take k)).length = (x, (cat (xs.take (k + 1))).length, 0) := by
  have e : (cat xs).drop (cat (xs.take k)).length = Var.enc x ++ cat (xs.drop (k + 1)) := by rw [cat_split h]; simp
  rw [getIn_ok (y := x) (n := (Var.enc x).length) (by rw [e]; exact Var.getv_enc hx _), cat_snoc h, List.length_append]
theorem cat_end (xs : List Nat) : getIn (cat xs) (cat xs).length = (0, 0, 5) := getIn_err (by rw [List.drop_length]; exact Var.getv_nil) (by decide)

/-- Numbers as the model has them. -/
def nv (l : List Nat) : List Value := l.map fun c : Nat => .int .u64 (c : Int)
theorem nv_len (l : List Nat) : (nv l).length = l.length := by simp [nv]
theorem nv_at (l : List Nat) (j : Nat) : (nv l)[j]? = (l[j]?).map fun c : Nat => .int .u64 (c : Int) := by simp [nv]
theorem Rd.nums {w : World} {A : Option Addr} {n c : Nat} {l : List Nat} (h : Rd w (.slice A n c) (nv l)) : n = l.length := by
  obtain ⟨_, _, e, _⟩ := h
  injection e with _ e2 _
  rw [e2, nv_len]
theorem Rd.numAt {w : World} {A : Option Addr} {n c : Nat} {l : List Nat} (h : Rd w (.slice A n c) (nv l)) {k : Nat} (hk : k < n) : ∃ b o d, A = some ⟨b, o, none⟩ ∧ w.cell? ⟨b, o + k, none⟩ = some (.int .u64 (d : Nat)) ∧ l[k]? = some d := by
  have hn := h.nums
  obtain ⟨A', c', e, _, _, hr⟩ := h
  injection e with e1 e2 e3
  subst e1 e3
  obtain ⟨b, o, rfl, hx⟩ := hr (by rw [nv_len]; omega)
  obtain ⟨d, hd⟩ : ∃ d, l[k]? = some d := ⟨_, List.getElem?_eq_getElem (by omega)⟩
  exact ⟨b, o, d, rfl, hx k _ (by rw [nv_at, hd]; rfl), hd⟩

theorem u64_info : (Try.prog.info? 22).map (fun i => (i.zero, i.size, i.bytes)) = some (some (.int .u64 0), 1, 8) := by kernel_rfl
/-- l[:k], under one name. -/
theorem run_first {w : World} {A : Option Addr} {n c k : Nat} {l : List Nat} (h : Rd w (.slice A n c) (nv l)) (hk : k ≤ n) :
    ∃ A', (∀ W, (Instr.slice 37 (.slice A n c) none (some (.int .i64 (k : Int))) none).run Try.prog W = .ok (.slice A' k c) W) ∧ Rd w (.slice A' k c) (nv (l.take k)) := by
  refine ⟨if c = 0 then A else A.map (·.add 0), fun W => ?_, ?_⟩
  · have hle := h.le
    obtain ⟨i0, hi0, hz0, hz1, hz2⟩ := info_parts u64_info
    have hs : (sizeOf (Try.prog.elem 37)).run Try.prog W = .ok 1 W := by
      rw [show Try.prog.elem 37 = 22 by kernel_rfl]
      simp [sizeOf, typeInfo, hi0, hz1]
    rw [run_slice_h W 37 A n c (by kernel_rfl) .i64 (k : Int) (by omega) (by omega), hs]
    simp only [Result.andThen, Int.toNat_natCast, sliced, Nat.mul_one, Nat.sub_zero]
  · have h1 := h.take hk
    rw [show (nv l).take k = nv (l.take k) by simp [nv]] at h1
    obtain ⟨A', c', hv, hle, h2, hr⟩ := h1
    injection hv with e1 e2 e3
    subst e1 e3
    refine ⟨_, _, by rw [← e2], hle, h2, fun hp => ?_⟩
    obtain ⟨b, o, rfl, hx⟩ := hr hp
    refine ⟨b, o, ?_, hx⟩
    split
    · rfl
    · simp [add_eq]

/-- The row of bytes behind k numbers. -/
def RowAt (w0 w : World) (A : Option Addr) (c : Nat) (g : Option Nat) (l : List Nat) : Prop :=
  Row w 5 g (.slice A l.length c) (bv l) ∧ (∀ b, g = some b → w0.heap.size ≤ b) ∧ Below w0.heap.size w0 w
theorem RowAt.more {w0 w w1 w' : World} {A A' : Option Addr} {c c' : Nat} {g g' : Option Nat} {l m : List Nat} (h : RowAt w0 w A c g l) (hb : Below w.heap.size w w1)
    (hr : Row w' 5 g' (.slice A' (l.length + m.length) c') (bv l ++ bv m)) (hg : w1.grownBy w' g) (hg' : g' = g ∨ g' = some w1.heap.size) :
    RowAt w0 w' A' c' g' (l ++ m) := by
  obtain ⟨h1, h3, h4⟩ := h
  have h5 : Below w0.heap.size w0 w1 := h4.trans (hb.mono h4.size)
  refine ⟨?_, ?_, ?_⟩
  · rw [List.length_append]
    simpa [bv] using hr
  · rcases hg' with rfl | rfl
    · exact h3
    · intro b e; cases e; exact h5.size
  · exact ((Only.of_below h5 (Nat.le_refl _) (fun b => some b = g)).grown hg (fun k e => .inl e.symm)).below (Nat.le_refl _) (fun i hi e => by have := h3 i e.symm; omega)

set_option maxHeartbeats 2000000 in
set_option maxRecDepth 100000 in
theorem row_true (A : Option Addr) (n c : Nat) (l : List Nat) (w : World) (hr : Rd w (.slice A n c) (nv l)) (hb : ∀ b ∈ l, b < 18446744073709551616) (hn : n ≤ 9223372036854775807) :
    Calls Try.prog 7 #[.slice A n c] w fun e w' => e = .returned (.bool true) ∧ Below w.heap.size w w' := by
  obtain ⟨i0, hi0, hz0, hz1, hz2⟩ := info_parts byte_info
  obtain ⟨m, hm1, hm2, hm3⟩ : ∃ m : Nat, m ≤ n ∧ m ≤ 200 ∧ min (n : Int) 200 = (m : Int) := ⟨min n 200, Nat.min_le_left _ _, Nat.min_le_right _ _, by omega⟩
  obtain ⟨A', hsl, hr'⟩ := run_first hr hm1
  have hb' : ∀ b ∈ l.take m, b < 18446744073709551616 := fun b h => hb b (List.mem_of_mem_take h)
  have hc := cat_len hb'
  have hlm := hr'.nums
  generalize l.take m = xs at *
  have hc' : (cat xs).length ≤ 2000 := by omega
  have HR := Lib.hid hr'
  have HL := Lib.hid hlm
  have HB := Lib.hid hb'
  clear hr hr' hb hb' hlm hc
  go_enter Try.func7, Try.ntmps7
  go_wp2_with fail
  clear hsl hm3
  go_loopw [3, 22] (fun v i wr => ∃ (k : Nat) (B : Option Addr) (d : Nat) (g : Option Nat), k ≤ m ∧ i = .int .i64 k ∧ v = .slice B (cat (xs.take k)).length d ∧ Hid (RowAt w wr B d g (cat (xs.take k)))) (fun _ i _ => m - (intOf i).toNat)
  case atStart => exact ⟨0, none, 0, none, by omega, rfl, rfl, Row.nil _ _, by simp, Below.refl _ _⟩
  case round =>
    obtain ⟨k, B, d, g, hk, rfl, rfl, HW⟩ := hrel
    by_cases hlt : k < m
    · obtain ⟨b, o, x, rfl, hcx, hx⟩ := (HR.out.kept HW.out.2.2).numAt hlt
      have hx64 := HB.out x (List.mem_of_getElem? hx)
      have HX := Lib.hid hx
      have hcl : Hid ((cat (xs.take (k + 1))).length ≤ 2000) := by
        show _ ≤ _
        have h1 := cat_len (xs := xs.take (k + 1)) (fun y hy => HB.out y (List.mem_of_mem_take hy))
        have h2 := List.length_take_le (k + 1) xs
        omega
      rw [cat_snoc hx, List.length_append] at hcl
      clear hx
      go_wp2_with fail
      refine (Put_any x wr hx64).mono ?_
      rintro e w1 ⟨AP, cP, gP, rfl, hrP, -, hP⟩
      have HP := Lib.hid (And.intro hrP.rd (And.intro hP (HW.out.1.below hP (fun _ e => HW.out.1.lt e))))
      clear hrP hP
      go_wp2_with (at_builtin; refine wpList_append_row _ rfl (.tmp 26) (.tmp 28) _ rfl 5 i0 _ 1 Try.underlying24 hi0 hz0 hz1 hz2 rfl g (.slice B (cat (xs.take k)).length d) (bv (cat (xs.take k))) rfl HP.out.2.2 _ (bv (Var.enc x)) rfl HP.out.1 (by have := hcl.out; rw [bv_len, bv_len]; simp only [maxLen]; omega) (by have := hcl.out; rw [bv_len, bv_len]; omega) ?_; intro B' d' w7 gn hrow' hgr hgn; simp only [bv_len] at hrow' ⊢; have Y := Lib.hid (And.intro hrow' (And.intro hgr hgn)); clear hrow' hgr hgn)
      go_round
      case rel => exact ⟨k + 1, B', d', gn, by omega, by go_num, by rw [cat_snoc HX.out, List.length_append], by rw [cat_snoc HX.out]; exact HW.out.more HP.out.2.1 Y.out.1 Y.out.2.1 Y.out.2.2⟩
      case measure => simp [intOf]; omega
    · obtain rfl : k = m := by omega
      rw [show xs.take k = xs by rw [HL.out, List.take_length]] at HW ⊢
      go_wp2_with fail
      go_loop [6, 33] (fun p i => ∃ j : Nat, j ≤ k ∧ i = .int .i64 j ∧ p = .int .i64 ((cat (xs.take j)).length : Nat)) (fun _ i => k - (intOf i).toNat)
      case atStart => exact ⟨0, by omega, rfl, rfl⟩
      case round =>
        obtain ⟨j, hj, rfl, rfl⟩ := hrel
        by_cases hjl : j < k
        · obtain ⟨b, o, x, rfl, hcx, hx⟩ := (HR.out.kept HW.out.2.2).numAt hjl
          have hx64 := HB.out x (List.mem_of_getElem? hx)
          have HG := Lib.hid (cat_get hx hx64)
          have hjle : Hid ((cat (xs.take j)).length ≤ (cat xs).length) := by
            show _ ≤ _
            have := congrArg List.length (cat_split hx)
            rw [List.length_append] at this
            omega
          have hlt2 : (cat (xs.take j)).length < (cat (xs.take (j + 1))).length := by
            rw [cat_snoc hx, List.length_append]
            have := Var.enc_pos x
            omega
          clear hx
          go_wp2_with fail
          refine (Get_in B _ d (cat (xs.take j)).length (cat xs) wr HW.out.1.rd (cat_lt xs) (by omega) hjle.out).mono ?_
          rw [HG.out]
          rintro e w1 ⟨rfl, rfl⟩
          go_wp2_with fail
          exact ⟨⟨j + 1, by omega, by go_num, rfl⟩, by simp [intOf]; omega⟩
        · obtain rfl : j = k := by omega
          rw [show xs.take j = xs by rw [HL.out, List.take_length]]
          go_wp2_with fail
          refine (Get_in B _ d (cat xs).length (cat xs) wr HW.out.1.rd (cat_lt xs) (by omega) (Nat.le_refl _)).mono ?_
          rw [cat_end]
          rintro e w1 ⟨rfl, rfl⟩
          go_wp2_with fail
          refine (alive_true _).mono ?_
          rintro e w2 ⟨rfl, hA⟩
          have H2 : Hid (Below w.heap.size w w2) := HW.out.2.2.trans (hA.mono HW.out.2.2.size)
          clear hA
          go_wp2_with fail
          go_ret
          exact ⟨rfl, H2.out⟩
end Go.Proofs.Ytmgmklhajapebaa
