/-
  kmp.places, of numbers: the function that it hands out tells the places at which the pattern stands, one by one.
  Conditions: text and pattern of at most 4294967296 things.
-/
import Derived.Test.YtigapfgfbdofoaaKSrch
import Derived.Test.YtigapfgfbdofoaaKmpSeek
import Derived.RangeFuncBound
import Derived.Shelf.Abstract
import Derived.OwnWalkIn
import Derived.TacticsInMore
import Derived.LoopNIn
import Derived.LoopIn
import Derived.Maps.AppendAt
namespace Go.Proofs.Ytigapfgfbdofoaa
open Go.RowKit Go.Shelf

attribute [local go_sem] Oper.semAt_some

/-- A slice that is read, out of a block of T. -/
def RdT (T : Nat → Prop) (w : World) (v : Value) (xs : List Value) : Prop := Rd w v xs ∧ ∀ b o n c, v = .slice (some ⟨b, o, none⟩) n c → 0 < xs.length → T b
theorem RdT.still {T : Nat → Prop} {w w' : World} {v : Value} {xs : List Value} (h : RdT T w v xs) (hs : Still T w w') : RdT T w' v xs := by
  obtain ⟨⟨A, c, rfl, hle, h1, hr⟩, ht⟩ := h
  refine ⟨⟨A, c, rfl, hle, h1, fun hp => ?_⟩, ht⟩
  obtain ⟨b, o, rfl, hx⟩ := hr hp
  exact ⟨b, o, rfl, fun j u hu => (World.cell?_of_block (hs.same b (ht b o _ c rfl hp) (World.block_lt_of_cell? w _ (hx j u hu)))).trans (hx j u hu)⟩
theorem RdT.mono {S T : Nat → Prop} {w : World} {v : Value} {xs : List Value} (h : RdT T w v xs) (hs : ∀ b, T b → S b) : RdT S w v xs := ⟨h.1, fun b o n c e hp => hs b (h.2 b o n c e hp)⟩
theorem RdT.below {T : Nat → Prop} {w w' : World} {v : Value} {xs : List Value} (h : RdT T w v xs) (hb : Below w.heap.size w w') : RdT T w' v xs := h.still ⟨hb.size, fun b _ hl => hb.block b hl⟩
theorem Rd.old {w : World} {v : Value} {xs : List Value} (h : Rd w v xs) : RdT (fun b => b < w.heap.size) w v xs := by
  refine ⟨h, fun b o n c e hp => ?_⟩
  obtain ⟨A, c', rfl, hle, h1, hr⟩ := h
  obtain ⟨b', o', rfl, hx⟩ := hr hp
  cases e
  exact World.block_lt_of_cell? w _ (hx 0 _ (List.getElem?_eq_getElem hp))

/-- What places' function keeps: its two variables, the two lists. -/
def Keeps (T : Nat → Prop) (w : World) (Bp Bt : Nat) (vp vt : Value) (text p : List Int) : Prop :=
  Blk w Bp 22 #[vp] ∧ Blk w Bt 22 #[vt] ∧ RdT T w vp (iv p) ∧ RdT T w vt (iv text) ∧ T Bp ∧ T Bt
section
variable {T S : Nat → Prop} {w w' : World} {Bp Bt : Nat} {vp vt : Value} {text p : List Int}
theorem Keeps.still (h : Keeps T w Bp Bt vp vt text p) (hs : Still T w w') : Keeps T w' Bp Bt vp vt text p :=
  ⟨h.1.keep (hs.same _ h.2.2.2.2.1 h.1.lt), h.2.1.keep (hs.same _ h.2.2.2.2.2 h.2.1.lt), h.2.2.1.still hs, h.2.2.2.1.still hs, h.2.2.2.2⟩
theorem Keeps.mono (h : Keeps T w Bp Bt vp vt text p) (hs : ∀ b, T b → S b) : Keeps S w Bp Bt vp vt text p :=
  ⟨h.1, h.2.1, h.2.2.1.mono hs, h.2.2.2.1.mono hs, hs _ h.2.2.2.2.1, hs _ h.2.2.2.2.2⟩
theorem Keeps.below (h : Keeps T w Bp Bt vp vt text p) (hb : Below w.heap.size w w') : Keeps T w' Bp Bt vp vt text p := h.still ⟨hb.size, fun b _ hl => hb.block b hl⟩
theorem RdT.bound {v : Value} {xs : List Value} (h : RdT T w v xs) : RdT (fun b => T b ∧ b < w.heap.size) w v xs :=
  ⟨h.1, fun b o n c e hp => ⟨h.2 b o n c e hp, h.1.old.2 b o n c e hp⟩⟩
theorem Keeps.bound (h : Keeps T w Bp Bt vp vt text p) : Keeps (fun b => T b ∧ b < w.heap.size) w Bp Bt vp vt text p :=
  ⟨h.1, h.2.1, h.2.2.1.bound, h.2.2.2.1.bound, ⟨h.2.2.2.2.1, h.1.lt⟩, ⟨h.2.2.2.2.2, h.2.1.lt⟩⟩
end
theorem SAt.bound {T : Nat → Prop} {w : World} {q k : Nat} {p : List Int} (h : SAt T w q p k) : SAt (fun b => T b ∧ b < w.heap.size) w q p k := by
  obtain ⟨A, c, gp, gb, h1, h2, h3, t1, t2, t3⟩ := h
  exact ⟨A, c, gp, gb, h1, h2, h3, ⟨t1, h1.lt⟩, ⟨t2, h3.lt⟩, fun b e => ⟨t3 b e, h2.lt e⟩⟩

/-- What the function keeps while it goes through the text: the lists lie below z, the search beyond. -/
def SeekI (T : Nat → Prop) (B z : Nat) (W : World) (Bp Bt : Nat) (vp vt : Value) (text p : List Int) (q k : Nat) : Prop :=
  Keeps (fun b => T b ∧ b < z) W Bp Bt vp vt text p ∧ SAt (fun b => T b ∧ z ≤ b) W q p (longest (text.take k) p) ∧ B ≤ z
theorem SeekI.still {T : Nat → Prop} {B z q k : Nat} {W W' : World} {Bp Bt : Nat} {vp vt : Value} {text p : List Int} (h : SeekI T B z W Bp Bt vp vt text p q k) (hs : Still T W W') : SeekI T B z W' Bp Bt vp vt text p q k :=
  ⟨h.1.still (hs.mono fun _ h => h.1), h.2.1.still (hs.mono fun _ h => h.1), h.2.2⟩
theorem SeekI.fed {T : Nat → Prop} {B z q k : Nat} {W W' : World} {Bp Bt : Nat} {vp vt : Value} {text p : List Int} {e : Ending} (h : SeekI T B z W Bp Bt vp vt text p q k)
    (hf : Fed (fun b => T b ∧ z ≤ b) W q p (longest (text.take (k + 1)) p) e W') : SeekI T B z W' Bp Bt vp vt text p q (k + 1) ∧ Only (fun b => T b ∧ B ≤ b) W W' := by
  have hq := h.2.1.own
  have hz := h.2.2
  refine ⟨⟨h.1.still (Still.of_only hf.2.2 fun b _ h1 h2 => absurd h1.2 (by have := hq.2; omega)), hf.2.1, h.2.2⟩, hf.2.2.mono fun b _ e => ?_⟩
  subst e
  exact ⟨hq.1, Nat.le_trans hz hq.2⟩
theorem take_snoc (l : List Int) {k : Nat} (hk : k < l.length) : l.take k ++ [l[k]] = l.take (k + 1) := (List.take_succ_eq_append_getElem hk).symm

set_option maxRecDepth 100000 in
set_option maxHeartbeats 4000000 in
/-- The function that places hands out: whatever the loop's body does that leaves T as it is. -/
theorem places1_in (n : Nat) (hn : 1 ≤ n) (l Bp Bt : Nat) (vp vt : Value) (text p : List Int) (hlt : text.length ≤ 4294967296) (hlp : p.length ≤ 4294967296) (J Jx : (Nat → Prop) → List Nat → World → Prop) (T : Nat → Prop) (B : Nat) (hJ : Spared B J)
    (hY : ∀ T pre x W, J T pre W → pre.length < text.length + 1 → YieldAt Fence.wide (n - 1) Try.prog l #[.int .i64 ((x : Nat) : Int)] W fun e W' =>
      (e = .returned (.bool true) ∧ J T (pre ++ [x]) W' ∧ Still T W W') ∨ (e = .returned (.bool false) ∧ Jx T (pre ++ [x]) W'))
    (W : World) (hB : B ≤ W.heap.size) (hK : Keeps T W Bp Bt vp vt text p) (h0 : J T [] W) :
    CallsIn Fence.wide n Try.prog 34 #[.func (.yield l) #[] #[], .pointer (some ⟨Bp, 0, none⟩), .pointer (some ⟨Bt, 0, none⟩)] W fun e W' => (∃ v, e = .returned v) ∧
      ((∃ T xs, xs = places text p ∧ J T xs W') ∨ (∃ T pre, pre <+: places text p ∧ Jx T pre W')) := by
  obtain ⟨Ap, np, cp, rfl⟩ : ∃ A n c, vp = .slice A n c := by obtain ⟨A, c, e, _⟩ := hK.2.2.1.1; exact ⟨_, _, _, e⟩
  obtain ⟨At', nt, ct, rfl⟩ : ∃ A n c, vt = .slice A n c := by obtain ⟨A, c, e, _⟩ := hK.2.2.2.1.1; exact ⟨_, _, _, e⟩
  obtain ⟨rfl, -⟩ := hK.2.2.1.1.ints
  obtain ⟨rfl, -⟩ := hK.2.2.2.1.1.ints
  have cp0 := hK.1.cell 0
  have ct0 := hK.2.1.cell 0
  simp only [List.getElem?_toArray, List.getElem?_cons_zero] at cp0 ct0
  have HJ := Lib.hid hJ
  have HK := Lib.hid hK
  clear hJ hK
  refine callsIn_of_wp Try.func34 rfl trivial ?_ rfl
  simp only [Try.ntmps34, List.size_toArray, List.length_cons, List.length_nil, Nat.reduceAdd, Nat.reduceSub, Array.replicate_succ, Array.replicate_zero, List.push_toArray, List.append_toArray, List.nil_append, List.cons_append]
  have hW3 : ∀ W3, J T (placesTo text p 0) W3 → Keeps T W3 Bp Bt (.slice Ap p.length cp) (.slice At' text.length ct) text p → B ≤ W3.heap.size → ∀ W4 q, SAt (fun b => W3.heap.size ≤ b) W4 q p 0 → Below W3.heap.size W3 W4 →
      ∃ T', J T' (placesTo text p 0) W4 ∧ SeekI T' B W3.heap.size W4 Bp Bt (.slice Ap p.length cp) (.slice At' text.length ct) text p q 0 := by
    intro W3 hj hk hb W4 q hs hbl
    refine ⟨fun b => T b ∨ (W3.heap.size ≤ b ∧ b < W4.heap.size), HJ.out _ _ _ _ _ hj (Only.of_below hbl (Nat.le_refl _) _) (fun b h => h), ?_, ?_, hb⟩
    · exact (hk.bound.below hbl).mono fun b h => ⟨.inl h.1, h.2⟩
    · rw [List.take_zero, longest_nil]
      exact hs.bound.mono fun b h => ⟨.inr h, h.1⟩
  have HW3 := Lib.hid hW3
  clear hW3
  by_cases hp : p.length = 0
  case' pos =>
    obtain ⟨fn, tmps, assign, body, hy, hR⟩ := hY T [] 0 W h0 (by simp)
    have z0 : ((p.length : Int) == 0) = true := beq_iff_eq.2 (by omega)
    have HP0 := Lib.hid (placesTo_zero text hp)
    have HSt := Lib.hid (places_zero text hp)
    simp only [Int.natCast_zero] at hy
    clear h0 hp
    gi_wp2
    refine hR.mono ?_
    rintro e W3 (⟨rfl, hJ3, hk3⟩ | ⟨rfl, hJx3⟩)
    rotate_left 1
    · gi_wp2
      refine bodyPost_ret (results_none rfl _ _ _) rfl ?_
      exact ⟨⟨_, rfl⟩, .inr ⟨_, _, HSt.out, hJx3⟩⟩
    have HS : Hid (J T (placesTo text p 0) W3 ∧ Keeps T W3 Bp Bt (.slice Ap p.length cp) (.slice At' text.length ct) text p ∧ B ≤ W3.heap.size) := Lib.hid ⟨by rw [HP0.out]; exact hJ3, HK.out.still hk3, Nat.le_trans hB hk3.size⟩
    clear hJ3 hk3 cp0 ct0 HP0 HSt hy hR HK hB
  case' neg =>
    obtain ⟨W3, rfl⟩ : ∃ W3, W3 = W := ⟨_, rfl⟩
    have HS := Lib.hid (And.intro (show J T (placesTo text p 0) W3 by rw [placesTo_none text hp]; exact h0) (And.intro HK.out hB))
    have z0 : ((p.length : Int) == 0) = false := beq_eq_false_iff_ne.2 (by omega)
    clear h0 hp HK hB
    gi_wp2_with fail
    refine ⟨fun _ h => (by cases h), ?_⟩
    clear cp0 ct0
  all_goals
    have cp1 := HS.out.2.1.1.cell 0
    simp only [List.getElem?_toArray, List.getElem?_cons_zero] at cp1
    have HN := Lib.hid ((callsIn_wide (n := n - 1)).2 (New_i Ap p.length cp p W3 HS.out.2.1.2.2.1.1 (by omega)))
    gi_wp2_with fail
    refine ⟨trivial, ?_⟩
    refine HN.out.mono ?_
    rintro e W4 ⟨q, rfl, hsat, hb4⟩
    obtain ⟨T', hJ4, hI4⟩ := HW3.out W3 HS.out.1 HS.out.2.1 HS.out.2.2 W4 q hsat hb4
    generalize W3.heap.size = z at hI4
    have ct1 := hI4.1.2.1.cell 0
    simp only [List.getElem?_toArray, List.getElem?_cons_zero] at ct1
    have HI := Lib.hid (And.intro hJ4 hI4)
    clear hsat hb4 hJ4 hI4 HS HN HW3
    gi_wp2
    gi_loopw [19] (fun i wr => ∃ k : Nat, k ≤ text.length ∧ i = .int .i64 k ∧ Hid (J T' (placesTo text p k) wr ∧ SeekI T' B z wr Bp Bt (.slice Ap p.length cp) (.slice At' text.length ct) text p q k))
      (fun i _ => text.length - (intOf i).toNat)
    case atStart => exact ⟨0, Nat.zero_le _, rfl, HI⟩
    case round =>
      obtain ⟨k, hk, rfl, HR⟩ := hrel
      by_cases hlt : k < text.length
      · obtain ⟨b, o, rfl, x1⟩ := HR.out.2.1.2.2.2.1.1.ints.2.2 (by omega)
        have y1 := x1 k hlt
        rw [List.getElem?_eq_getElem hlt, Option.getD_some] at y1
        have F := Feed_at (text.take k) text[k] HR.out.2.2.1 (by omega)
        rw [take_snoc text hlt] at F
        have HF := Lib.hid ((callsIn_wide (n := n - 1)).2 F)
        clear x1 F
        generalize text[k] = x at *
        gi_wp2_with fail
        refine ⟨trivial, ?_⟩
        refine HF.out.mono ?_
        rintro e w5 hf
        have HX := Lib.hid (HR.out.2.fed hf)
        obtain ⟨rfl, -⟩ := hf
        have HJ5 := Lib.hid (HJ.out.step HR.out.1 HX.out.2)
        by_cases hit : longest (text.take (k + 1)) p = p.length
        · obtain ⟨hmk, hnext⟩ := placesTo_hit hlt hit
          have cp5 := HX.out.1.1.1.cell 0
          simp only [List.getElem?_toArray, List.getElem?_cons_zero] at cp5
          rw [show decide (longest (text.take (k + 1)) p = p.length) = true by simpa using hit]
          have hY1 := hY T' (placesTo text p k) (k + 1 - p.length) w5 HJ5.out (by have := placesTo_len text p k; omega)
          rw [show ((k + 1 - p.length : Nat) : Int) = (k : Int) + 1 - (p.length : Int) by omega, ← hnext] at hY1
          obtain ⟨fn, tmps, assign, body, hy, hR⟩ := hY1
          clear hit hnext HF HJ5
          gi_wp2
          refine hR.mono ?_
          rintro e W6 (⟨rfl, hJ6, hk6⟩ | ⟨rfl, hJx6⟩)
          · have HE := Lib.hid (And.intro hJ6 (HX.out.1.still hk6))
            clear hJ6 hk6
            gi_wp2
            go_roundw
            case rel => exact ⟨k + 1, by omega, by simp, HE⟩
            case measure => simp [intOf]; omega
          · gi_wp2
            refine bodyPost_ret (results_none rfl _ _ _) rfl ?_
            exact ⟨⟨_, rfl⟩, .inr ⟨_, _, placesTo_le text p (by omega), hJx6⟩⟩
        · have hnext := Lib.hid (placesTo_miss hlt hit)
          rw [show decide (longest (text.take (k + 1)) p = p.length) = false by simpa using hit]
          clear hit HF
          gi_wp2
          refine ⟨fun _ h => (by cases h), ?_⟩
          gi_wp2
          go_roundw
          case rel => exact ⟨k + 1, by omega, by simp, Lib.hid ⟨by rw [hnext.out]; exact HJ5.out, HX.out.1⟩⟩
          case measure => simp [intOf]; omega
      · obtain rfl : k = text.length := by omega
        gi_wp2
        go_end0
        exact ⟨⟨_, rfl⟩, .inl ⟨_, _, placesTo_all text p, HR.out.1⟩⟩
end Go.Proofs.Ytigapfgfbdofoaa
