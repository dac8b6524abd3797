/-
  kmp.places and kmp.First, of bytes, each as that for numbers (written by gen_kb.py).
  Conditions: text and pattern of at most 4294967296 things.
-/
import Derived.Test.YtialecghpekcnaaKByte
import Derived.Test.YtialecghpekcnaaRdT
import Derived.Test.YtialecghpekcnaaKmpSeek
import Derived.RangeFuncBound
import Derived.RangeFuncLeaves
import Derived.Shelf.Abstract
import Derived.OwnWalkIn
import Derived.TacticsInMore
import Derived.LoopNIn
import Derived.LoopIn
import Derived.Maps.AppendAt
namespace Go.Proofs.Ytialecghpekcnaa
open Go.RowKit Go.Shelf

attribute [local go_sem] Oper.semAt_some



/-- What places' function keeps: its two variables, the two lists. -/
def Keeps (T : Nat → Prop) (w : World) (Bp Bt : Nat) (vp vt : Value) (text p : List Int) : Prop :=
  Blk w Bp 22 #[vp] ∧ Blk w Bt 22 #[vt] ∧ RdT T w vp (cv p) ∧ RdT T w vt (cv text) ∧ T Bp ∧ T Bt
section
variable {T S : Nat → Prop} {w w' : World} {Bp Bt : Nat} {vp vt : Value} {text p : List Int}
theorem Keeps.still (h : Keeps T w Bp Bt vp vt text p) (hs : Still T w w') : Keeps T w' Bp Bt vp vt text p :=
  ⟨h.1.keep (hs.same _ h.2.2.2.2.1 h.1.lt), h.2.1.keep (hs.same _ h.2.2.2.2.2 h.2.1.lt), h.2.2.1.still hs, h.2.2.2.1.still hs, h.2.2.2.2⟩
theorem Keeps.mono (h : Keeps T w Bp Bt vp vt text p) (hs : ∀ b, T b → S b) : Keeps S w Bp Bt vp vt text p :=
  ⟨h.1, h.2.1, h.2.2.1.mono hs, h.2.2.2.1.mono hs, hs _ h.2.2.2.2.1, hs _ h.2.2.2.2.2⟩
theorem Keeps.below (h : Keeps T w Bp Bt vp vt text p) (hb : Below w.heap.size w w') : Keeps T w' Bp Bt vp vt text p := h.still ⟨hb.size, fun b _ hl => hb.block b hl⟩
theorem Keeps.bound (h : Keeps T w Bp Bt vp vt text p) : Keeps (fun b => T b ∧ b < w.heap.size) w Bp Bt vp vt text p :=
  ⟨h.1, h.2.1, h.2.2.1.bound, h.2.2.2.1.bound, ⟨h.2.2.2.2.1, h.1.lt⟩, ⟨h.2.2.2.2.2, h.2.1.lt⟩⟩
end
theorem SAtB.bound {T : Nat → Prop} {w : World} {q k : Nat} {p : List Int} (h : SAtB T w q p k) : SAtB (fun b => T b ∧ b < w.heap.size) w q p k := by
  obtain ⟨A, c, gp, gb, h1, h2, h3, t1, t2, t3⟩ := h
  exact ⟨A, c, gp, gb, h1, h2, h3, ⟨t1, h1.lt⟩, ⟨t2, h3.lt⟩, fun b e => ⟨t3 b e, h2.lt e⟩⟩

/-- What the function keeps while it goes through the text: the lists lie below z, the search beyond. -/
def SeekI (T : Nat → Prop) (B z : Nat) (W : World) (Bp Bt : Nat) (vp vt : Value) (text p : List Int) (q k : Nat) : Prop :=
  Keeps (fun b => T b ∧ b < z) W Bp Bt vp vt text p ∧ SAtB (fun b => T b ∧ z ≤ b) W q p (longest (text.take k) p) ∧ B ≤ z
theorem SeekI.still {T : Nat → Prop} {B z q k : Nat} {W W' : World} {Bp Bt : Nat} {vp vt : Value} {text p : List Int} (h : SeekI T B z W Bp Bt vp vt text p q k) (hs : Still T W W') : SeekI T B z W' Bp Bt vp vt text p q k :=
  ⟨h.1.still (hs.mono fun _ h => h.1), h.2.1.still (hs.mono fun _ h => h.1), h.2.2⟩
theorem SeekI.fed {T : Nat → Prop} {B z q k : Nat} {W W' : World} {Bp Bt : Nat} {vp vt : Value} {text p : List Int} {e : Ending} (h : SeekI T B z W Bp Bt vp vt text p q k)
    (hf : FedB (fun b => T b ∧ z ≤ b) W q p (longest (text.take (k + 1)) p) e W') : SeekI T B z W' Bp Bt vp vt text p q (k + 1) ∧ Only (fun b => T b ∧ B ≤ b) W W' := by
  have hq := h.2.1.own
  have hz := h.2.2
  refine ⟨⟨h.1.still (Still.of_only hf.2.2 fun b _ h1 h2 => absurd h1.2 (by have := hq.2; omega)), hf.2.1, h.2.2⟩, hf.2.2.mono fun b _ e => ?_⟩
  subst e
  exact ⟨hq.1, Nat.le_trans hz hq.2⟩
theorem take_snoc (l : List Int) {k : Nat} (hk : k < l.length) : l.take k ++ [l[k]] = l.take (k + 1) := (List.take_succ_eq_append_getElem hk).symm

set_option maxRecDepth 100000 in
set_option maxHeartbeats 4000000 in
/-- The function that places hands out: whatever the loop's body does that leaves T as it is. -/
theorem places1_inb (n : Nat) (hn : 1 ≤ n) (l Bp Bt : Nat) (vp vt : Value) (text p : List Int) (hlt : text.length ≤ 4294967296) (hlp : p.length ≤ 4294967296) (J Jx : (Nat → Prop) → List Nat → World → Prop) (T : Nat → Prop) (B : Nat) (hJ : Spared B J)
    (hY : ∀ T pre x W, J T pre W → pre.length < text.length + 1 → YieldAt Fence.wide (n - 1) Try.prog l #[.int .i64 ((x : Nat) : Int)] W fun e W' =>
      (e = .returned (.bool true) ∧ J T (pre ++ [x]) W' ∧ Still T W W') ∨ (e = .returned (.bool false) ∧ Jx T (pre ++ [x]) W'))
    (W : World) (hB : B ≤ W.heap.size) (hK : Keeps T W Bp Bt vp vt text p) (h0 : J T [] W) :
    CallsIn Fence.wide n Try.prog 26 #[.func (.yield l) #[] #[], .pointer (some ⟨Bp, 0, none⟩), .pointer (some ⟨Bt, 0, none⟩)] W fun e W' => (∃ v, e = .returned v) ∧
      ((∃ T xs, xs = places text p ∧ J T xs W') ∨ (∃ T pre, pre <+: places text p ∧ Jx T pre W')) := by
  obtain ⟨Ap, np, cp, rfl⟩ : ∃ A n c, vp = .slice A n c := by obtain ⟨A, c, e, _⟩ := hK.2.2.1.1; exact ⟨_, _, _, e⟩
  obtain ⟨At', nt, ct, rfl⟩ : ∃ A n c, vt = .slice A n c := by obtain ⟨A, c, e, _⟩ := hK.2.2.2.1.1; exact ⟨_, _, _, e⟩
  obtain ⟨rfl, -⟩ := hK.2.2.1.1.chars
  obtain ⟨rfl, -⟩ := hK.2.2.2.1.1.chars
  have cp0 := hK.1.cell 0
  have ct0 := hK.2.1.cell 0
  simp only [List.getElem?_toArray, List.getElem?_cons_zero] at cp0 ct0
  have HJ := Lib.hid hJ
  have HK := Lib.hid hK
  clear hJ hK
  refine callsIn_of_wp Try.func26 rfl trivial ?_ rfl
  simp only [Try.ntmps26, List.size_toArray, List.length_cons, List.length_nil, Nat.reduceAdd, Nat.reduceSub, Array.replicate_succ, Array.replicate_zero, List.push_toArray, List.append_toArray, List.nil_append, List.cons_append]
  have hW3 : ∀ W3, J T (placesTo text p 0) W3 → Keeps T W3 Bp Bt (.slice Ap p.length cp) (.slice At' text.length ct) text p → B ≤ W3.heap.size → ∀ W4 q, SAtB (fun b => W3.heap.size ≤ b) W4 q p 0 → Below W3.heap.size W3 W4 →
      ∃ T', J T' (placesTo text p 0) W4 ∧ SeekI T' B W3.heap.size W4 Bp Bt (.slice Ap p.length cp) (.slice At' text.length ct) text p q 0 := by
    intro W3 hj hk hb W4 q hs hbl
    refine ⟨fun b => T b ∨ (W3.heap.size ≤ b ∧ b < W4.heap.size), HJ.out _ _ _ _ _ hj (Only.of_below hbl (Nat.le_refl _) _) (fun b h => h), ?_, ?_, hb⟩
    · exact (hk.bound.below hbl).mono fun b h => ⟨.inl h.1, h.2⟩
    · rw [List.take_zero, longest_nil]
      exact hs.bound.mono fun b h => ⟨.inr h, h.1⟩
  have HW3 := Lib.hid hW3
  clear hW3
  by_cases hp : p.length = 0
  case' pos =>
    obtain ⟨fn, tmps, assign, body, hy, hR⟩ := hY T [] 0 W h0 (by simp)
    have z0 : ((p.length : Int) == 0) = true := beq_iff_eq.2 (by omega)
    have HP0 := Lib.hid (placesTo_zero text hp)
    have HSt := Lib.hid (places_zero text hp)
    simp only [Int.natCast_zero] at hy
    clear h0 hp
    gi_wp2
    refine hR.mono ?_
    rintro e W3 (⟨rfl, hJ3, hk3⟩ | ⟨rfl, hJx3⟩)
    rotate_left 1
    · gi_wp2
      refine bodyPost_ret (results_none rfl _ _ _) rfl ?_
      exact ⟨⟨_, rfl⟩, .inr ⟨_, _, HSt.out, hJx3⟩⟩
    have HS : Hid (J T (placesTo text p 0) W3 ∧ Keeps T W3 Bp Bt (.slice Ap p.length cp) (.slice At' text.length ct) text p ∧ B ≤ W3.heap.size) := Lib.hid ⟨by rw [HP0.out]; exact hJ3, HK.out.still hk3, Nat.le_trans hB hk3.size⟩
    clear hJ3 hk3 cp0 ct0 HP0 HSt hy hR HK hB
  case' neg =>
    obtain ⟨W3, rfl⟩ : ∃ W3, W3 = W := ⟨_, rfl⟩
    have HS := Lib.hid (And.intro (show J T (placesTo text p 0) W3 by rw [placesTo_none text hp]; exact h0) (And.intro HK.out hB))
    have z0 : ((p.length : Int) == 0) = false := beq_eq_false_iff_ne.2 (by omega)
    clear h0 hp HK hB
    gi_wp2_with fail
    refine ⟨fun _ h => (by cases h), ?_⟩
    clear cp0 ct0
  all_goals
    have cp1 := HS.out.2.1.1.cell 0
    simp only [List.getElem?_toArray, List.getElem?_cons_zero] at cp1
    have HN := Lib.hid ((callsIn_wide (n := n - 1)).2 (New_b Ap p.length cp p W3 HS.out.2.1.2.2.1.1 (by omega)))
    gi_wp2_with fail
    refine ⟨trivial, ?_⟩
    refine HN.out.mono ?_
    rintro e W4 ⟨q, rfl, hsat, hb4⟩
    obtain ⟨T', hJ4, hI4⟩ := HW3.out W3 HS.out.1 HS.out.2.1 HS.out.2.2 W4 q hsat hb4
    generalize W3.heap.size = z at hI4
    have ct1 := hI4.1.2.1.cell 0
    simp only [List.getElem?_toArray, List.getElem?_cons_zero] at ct1
    have HI := Lib.hid (And.intro hJ4 hI4)
    clear hsat hb4 hJ4 hI4 HS HN HW3
    gi_wp2
    gi_loopw [19] (fun i wr => ∃ k : Nat, k ≤ text.length ∧ i = .int .i64 k ∧ Hid (J T' (placesTo text p k) wr ∧ SeekI T' B z wr Bp Bt (.slice Ap p.length cp) (.slice At' text.length ct) text p q k))
      (fun i _ => text.length - (intOf i).toNat)
    case atStart => exact ⟨0, Nat.zero_le _, rfl, HI⟩
    case round =>
      obtain ⟨k, hk, rfl, HR⟩ := hrel
      by_cases hlt : k < text.length
      · obtain ⟨b, o, rfl, x1⟩ := HR.out.2.1.2.2.2.1.1.chars.2.2 (by omega)
        have y1 := x1 k hlt
        rw [List.getElem?_eq_getElem hlt, Option.getD_some] at y1
        have F := Feed_atb (text.take k) text[k] HR.out.2.2.1 (by omega)
        rw [take_snoc text hlt] at F
        have HF := Lib.hid ((callsIn_wide (n := n - 1)).2 F)
        clear x1 F
        generalize text[k] = x at *
        gi_wp2_with fail
        refine ⟨trivial, ?_⟩
        refine HF.out.mono ?_
        rintro e w5 hf
        have HX := Lib.hid (HR.out.2.fed hf)
        obtain ⟨rfl, -⟩ := hf
        have HJ5 := Lib.hid (HJ.out.step HR.out.1 HX.out.2)
        by_cases hit : longest (text.take (k + 1)) p = p.length
        · obtain ⟨hmk, hnext⟩ := placesTo_hit hlt hit
          have cp5 := HX.out.1.1.1.cell 0
          simp only [List.getElem?_toArray, List.getElem?_cons_zero] at cp5
          rw [show decide (longest (text.take (k + 1)) p = p.length) = true by simpa using hit]
          have hY1 := hY T' (placesTo text p k) (k + 1 - p.length) w5 HJ5.out (by have := placesTo_len text p k; omega)
          rw [show ((k + 1 - p.length : Nat) : Int) = (k : Int) + 1 - (p.length : Int) by omega, ← hnext] at hY1
          obtain ⟨fn, tmps, assign, body, hy, hR⟩ := hY1
          clear hit hnext HF HJ5
          gi_wp2
          refine hR.mono ?_
          rintro e W6 (⟨rfl, hJ6, hk6⟩ | ⟨rfl, hJx6⟩)
          · have HE := Lib.hid (And.intro hJ6 (HX.out.1.still hk6))
            clear hJ6 hk6
            gi_wp2
            go_roundw
            case rel => exact ⟨k + 1, by omega, by simp, HE⟩
            case measure => simp [intOf]; omega
          · gi_wp2
            refine bodyPost_ret (results_none rfl _ _ _) rfl ?_
            exact ⟨⟨_, rfl⟩, .inr ⟨_, _, placesTo_le text p (by omega), hJx6⟩⟩
        · have hnext := Lib.hid (placesTo_miss hlt hit)
          rw [show decide (longest (text.take (k + 1)) p = p.length) = false by simpa using hit]
          clear hit HF
          gi_wp2
          refine ⟨fun _ h => (by cases h), ?_⟩
          gi_wp2
          go_roundw
          case rel => exact ⟨k + 1, by omega, by simp, Lib.hid ⟨by rw [hnext.out]; exact HJ5.out, HX.out.1⟩⟩
          case measure => simp [intOf]; omega
      · obtain rfl : k = text.length := by omega
        gi_wp2
        go_end0
        exact ⟨⟨_, rfl⟩, .inl ⟨_, _, placesTo_all text p, HR.out.1⟩⟩
/-- What places hands out. -/
def PlacesTo (w : World) (vt vp : Value) (e : Ending) (w' : World) : Prop :=
  ∃ Bp Bt, e = .returned (.func (.func 26) #[] #[.pointer (some ⟨Bp, 0, none⟩), .pointer (some ⟨Bt, 0, none⟩)]) ∧ Blk w' Bp 22 #[vp] ∧ Blk w' Bt 22 #[vt] ∧ w.heap.size ≤ Bp ∧ w.heap.size ≤ Bt ∧ Below w.heap.size w w'
theorem places_b (A B : Option Addr) (n c m d : Nat) (w : World) : Calls Try.prog 24 #[.slice A n c, .slice B m d] w (PlacesTo w (.slice A n c) (.slice B m d)) := by
  go_enter Try.func24, Try.ntmps24
  go_wp2
  go_ret
  refine ⟨w.heap.size + 1, w.heap.size, rfl, ?_, (Blk.new w _ _).alloc _, by omega, by omega, ((Below.refl _ w).alloc (Nat.le_refl _) _).alloc (by simp) _⟩
  have := Blk.new (w.alloc (.cells #[.slice A n c] 22)) 22 #[.slice B m d]
  rwa [World.size_alloc] at this
/-- What it keeps lies in the old memory. -/
theorem PlacesTo.keeps {w w' : World} {Bp Bt : Nat} {vp vt : Value} {text p : List Int} (ht : Rd w vt (cv text)) (hp : Rd w vp (cv p)) (h1 : Blk w' Bp 22 #[vp]) (h2 : Blk w' Bt 22 #[vt]) (hb : Below w.heap.size w w') :
    Keeps (fun b => b < w'.heap.size) w' Bp Bt vp vt text p :=
  ⟨h1, h2, (hp.kept hb).old, (ht.kept hb).old, h1.lt, h2.lt⟩

theorem places_Tb (n : Nat) (hn : 1 ≤ n) (Bp Bt : Nat) (vp vt : Value) (text p : List Int) (hlt : text.length ≤ 4294967296) (hlp : p.length ≤ 4294967296) (T0 : Nat → Prop) (w : World) (hK : Keeps T0 w Bp Bt vp vt text p) :
    SeqT Fence.wide n Try.prog 26 #[.pointer (some ⟨Bp, 0, none⟩), .pointer (some ⟨Bt, 0, none⟩)] (fun x : Nat => #[.int .i64 (x : Int)]) (fun _ _ => True) (fun xs => xs = places text p) (fun pre => pre <+: places text p) (text.length + 1) T0 w :=
  fun l J Jx T W hW hT hJ _ hY h0 => places1_inb n hn l Bp Bt vp vt text p hlt hlp J Jx T W.heap.size hJ (fun T pre x W h1 h2 => hY T pre x W h1 trivial h2) W (Nat.le_refl _) ((hK.below hW).mono hT) h0



/-- What First tells. -/
def FirstTo (w : World) (xs : List Nat) (e : Ending) (w' : World) : Prop := e = .returned (.tuple #[.int .i64 ((xs.headD 0 : Nat) : Int), .bool (!xs.isEmpty)]) ∧ Below w.heap.size w w'

/-- The two results' variables, before and behind the only round. -/
def Both (w : World) (T : Nat → Prop) (x : Int) (ok : Bool) (W : World) : Prop :=
  Blk W w.heap.size 3 #[.int .i64 x] ∧ Blk W (w.heap.size + 1) 4 #[.bool ok] ∧ ¬ T w.heap.size ∧ ¬ T (w.heap.size + 1) ∧ Below w.heap.size w W
theorem Both.only {w : World} {T T' : Nat → Prop} {B : Nat} {x : Int} {ok : Bool} {A C : World} (h : Both w T x ok A) (hB : w.heap.size ≤ B) (ho : Only (fun b => T b ∧ B ≤ b) A C) (ht : ∀ b, T' b → T b ∨ (A.heap.size ≤ b ∧ b < C.heap.size)) : Both w T' x ok C := by
  obtain ⟨h1, h2, t1, t2, hb⟩ := h
  have l2 := h2.lt
  refine ⟨h1.only ho (fun h => t1 h.1), h2.only ho (fun h => t2 h.1), fun h => (ht _ h).elim t1 (by omega), fun h => (ht _ h).elim t2 (by omega), hb.trans (ho.below hb.size fun i hi h => by omega)⟩

theorem Both.set {w W : World} {T : Nat → Prop} {x x' : Int} {ok ok' : Bool} (h : Both w T x ok W) :
    Both w T x' ok' ((W.setCell ⟨w.heap.size, 0, none⟩ (.int .i64 x')).setCell ⟨w.heap.size + 1, 0, none⟩ (.bool ok')) ∧
      Only (fun b => b = w.heap.size ∨ b = w.heap.size + 1) W ((W.setCell ⟨w.heap.size, 0, none⟩ (.int .i64 x')).setCell ⟨w.heap.size + 1, 0, none⟩ (.bool ok')) := by
  obtain ⟨h1, h2, t1, t2, hb⟩ := h
  have ho := ((Only.refl (fun b => b = w.heap.size ∨ b = w.heap.size + 1) W).setCell (p := ⟨w.heap.size, 0, none⟩) (.inl (.inl rfl)) (.int .i64 x')).setCell (p := ⟨w.heap.size + 1, 0, none⟩) (.inl (.inr rfl)) (.bool ok')
  refine ⟨⟨?_, ?_, t1, t2, hb.trans (ho.below hb.size fun i hi h => by omega)⟩, ho⟩
  · have := h1.set_ 0 (.int .i64 x')
    exact Blk.far (by simpa using this) (p := ⟨w.heap.size + 1, 0, none⟩) (by simp) _
  · have := (h2.far (p := ⟨w.heap.size, 0, none⟩) (by simp) (.int .i64 x')).set_ 0 (.bool ok')
    simpa using this
theorem Both.put {w W : World} {T : Nat → Prop} {x : Int} {ok : Bool} (h : Both w T x ok W) (D : Nat) (h0 : D ≠ w.heap.size) (h1 : D ≠ w.heap.size + 1) (o' : Obj) {z : Nat} (hz : w.heap.size ≤ z) (hD : z ≤ D) :
    Blk (W.putObj D o') w.heap.size 3 #[.int .i64 x] ∧ Blk (W.putObj D o') (w.heap.size + 1) 4 #[.bool ok] ∧ Below w.heap.size w (W.putObj D o') :=
  ⟨h.1.keep (World.putObj_heap_other (Ne.symm h0)), h.2.1.keep (World.putObj_heap_other (Ne.symm h1)), h.2.2.2.2.trans ((Only.putObj W D o').below h.2.2.2.2.size fun i hi h => by omega)⟩

set_option maxRecDepth 100000 in
set_option maxHeartbeats 2000000 in
theorem First_b (A B : Option Addr) (n c m d : Nat) (text p : List Int) (hlt : text.length ≤ 4294967296) (hlp : p.length ≤ 4294967296) (w : World) (ht : Rd w (.slice A n c) (cv text)) (hp : Rd w (.slice B m d) (cv p)) :
    Calls Try.prog 22 #[.slice A n c, .slice B m d] w (FirstTo w (places text p)) := by
  refine (callsIn_wide (n := 3)).1 ?_
  obtain ⟨w1, hw1⟩ : ∃ w1, w1 = (w.alloc (.cells #[.int .i64 0] 3)).alloc (.cells #[.bool false] 4) := ⟨_, rfl⟩
  have hb1 : Below w.heap.size w w1 := by rw [hw1]; exact ((Below.refl _ w).alloc (Nat.le_refl _) _).alloc (by simp) _
  have hz1 : w1.heap.size = w.heap.size + 2 := by rw [hw1]; simp
  have k1 : Blk w1 w.heap.size 3 #[.int .i64 0] := by rw [hw1]; exact (Blk.new w _ _).alloc _
  have k2 : Blk w1 (w.heap.size + 1) 4 #[.bool false] := by rw [hw1]; have := Blk.new (w.alloc (.cells #[.int .i64 0] 3)) 4 #[.bool false]; rwa [World.size_alloc] at this
  have HP := Lib.hid ((callsIn_wide (n := 2)).2 (places_b A B n c m d w1))
  have X1 := Lib.hid (And.intro hb1 (And.intro hz1 (And.intro k1 (And.intro k2 (And.intro ht hp)))))
  have HW := Lib.hid hw1
  clear hb1 hz1 k1 k2 ht hp hw1
  refine callsIn_of_wp_marks Try.func22 rfl trivial ?_ rfl
  simp only [Try.ntmps22, List.size_toArray, List.length_cons, List.length_nil, Nat.reduceAdd, Nat.reduceSub, Array.replicate_succ, Array.replicate_zero, List.push_toArray, List.append_toArray, List.nil_append, List.cons_append]
  gi_wp2_with fail
  rw [← HW.out]
  refine ⟨trivial, ?_⟩
  refine HP.out.mono ?_
  rintro e w2 ⟨Bp, Bt, rfl, h1, h2, hgp, hgt, hb2⟩
  have X2 : Hid (Keeps (fun b => b < w.heap.size ∨ (w.heap.size + 2 ≤ b ∧ b < w2.heap.size)) w2 Bp Bt (.slice B m d) (.slice A n c) text p ∧ Both w (fun b => b < w.heap.size ∨ (w.heap.size + 2 ≤ b ∧ b < w2.heap.size)) 0 false w2 ∧ w.heap.size ≤ w2.heap.size ∧ w.heap.size + 2 ≤ w2.heap.size) := by
    obtain ⟨hb1, hz1, k1, k2, ht, hp⟩ := X1.out
    have hb12 := hb1.trans (hb2.mono hb1.size)
    have hs2 := hb2.size
    refine Lib.hid ⟨⟨h1, h2, ((hp.old).below hb12).mono fun b h => .inl h, ((ht.old).below hb12).mono fun b h => .inl h, .inr ⟨by omega, h1.lt⟩, .inr ⟨by omega, h2.lt⟩⟩, ⟨k1.below hb2 (by omega), k2.below hb2 (by omega), by omega, by omega, hb12⟩, by omega, by omega⟩
  have HS := Lib.hid (places_Tb 2 (by omega) Bp Bt _ _ text p hlt hlp _ w2 X2.out.1)
  generalize places text p = xs at *
  clear h1 h2 hgp hgt hb2 HP X1 HW
  gi_wp2_with fail
  refine wpIn_rangeT rfl (by omega) (gf := 26) (lb := #[.pointer (some ⟨Bp, 0, none⟩), .pointer (some ⟨Bt, 0, none⟩)]) rfl trivial (enters_of Try.func26 (by kernel_rfl) rfl)
    (by rintro b (h | h) <;> have := X2.out.2.2 <;> omega) HS.out (Below.refl _ _) (fun _ => rfl)
    (fun T pre W => pre = [] ∧ Both w T 0 false W) (fun c T pre W => c = .ret ∧ ∃ x : Nat, pre = [x] ∧ Both w T x true W)
    (fun T T' s A C h ho ht => ⟨h.1, h.2.only X2.out.2.2.1 ho ht⟩) (fun c T T' s A C ⟨h1, x, h2, h3⟩ ho ht => ⟨h1, x, h2, h3.only X2.out.2.2.1 ho ht⟩) ⟨rfl, X2.out.2.1⟩
    (fun x _ a' _ => a' = { tmps := #[.slice A n c, .slice B m d, undef, undef, .pointer (some ⟨w.heap.size, 0, none⟩), .pointer (some ⟨w.heap.size + 1, 0, none⟩), .int .i64 ((x : Nat) : Int), .slice A n c, .slice B m d, .func (.func 26) #[] #[.pointer (some ⟨Bp, 0, none⟩), .pointer (some ⟨Bt, 0, none⟩)], .int .i64 (x : Int), undef], defers := [] })
    (fun x _ _ _ _ _ h _ _ => h) ?assign ?body ?done ?stop
  case assign =>
    intro l T pre x W K _ hI _ hK
    gi_wp2
    exact hK _ _ (Still.refl _ _) hI rfl
  case body =>
    rintro l T pre x _ W - - - hTl ⟨rfl, hI⟩ rfl hpl
    have c1 : W.cell? ⟨w.heap.size, 0, none⟩ = some (.int .i64 0) := hI.1.cell 0
    have c2 : W.cell? ⟨w.heap.size + 1, 0, none⟩ = some (.bool false) := hI.2.1.cell 0
    have f1 := hI.1.frozen 0
    have f2 := hI.2.1.frozen 0
    have Y := Lib.hid hI
    clear hI
    gi_wp2
    have hs := Both.set (x' := (x : Int)) (ok' := true) Y.out
    exact ⟨Still.of_only hs.2 (fun b _ hb h => by rcases h with rfl | rfl; exact Y.out.2.2.1 hb; exact Y.out.2.2.2.1 hb), rfl, x, rfl, hs.1⟩
  case done =>
    rintro D T ys W hD hTD rfl ⟨rfl, hI⟩ hK
    have c1 : W.cell? ⟨w.heap.size, 0, none⟩ = some (.int .i64 0) := hI.1.cell 0
    have c2 : W.cell? ⟨w.heap.size + 1, 0, none⟩ = some (.bool false) := hI.2.1.cell 0
    have f1 := hI.1.frozen 0
    have f2 := hI.2.1.frozen 0
    have Y := Lib.hid (And.intro hI hTD)
    clear hI hTD
    gi_wp2
    have hs := Both.set (x' := 0) (ok' := false) Y.out.1
    have hD0 : D ≠ w.heap.size := fun e => Y.out.1.2.2.1 (e ▸ Y.out.2)
    have hD1 : D ≠ w.heap.size + 1 := fun e => Y.out.1.2.2.2.1 (e ▸ Y.out.2)
    have hz := X2.out.2.2
    have hK2 : ((W.setCell ⟨w.heap.size, 0, none⟩ (.int .i64 0)).setCell ⟨w.heap.size + 1, 0, none⟩ (.bool false)).heap[D]? = some (.deferred (some [])) := (Below.heap_setCell _ _ _ D hD1).trans ((Below.heap_setCell W _ _ D hD0).trans hK)
    generalize (W.setCell ⟨w.heap.size, 0, none⟩ (.int .i64 0)).setCell ⟨w.heap.size + 1, 0, none⟩ (.bool false) = W2 at hs hK2 ⊢
    have hs2 := hs.1.put D hD0 hD1 (.deferred none) hz.1 hD
    refine ⟨by simp, .inl ⟨_, _, rfl, run_takeDeferred hK2, ?_⟩⟩
    generalize W2.putObj D (.deferred none) = W3 at hs2 ⊢
    have d1 : W3.cell? ⟨w.heap.size, 0, none⟩ = some (.int .i64 0) := hs2.1.cell 0
    have d2 : W3.cell? ⟨w.heap.size + 1, 0, none⟩ = some (.bool false) := hs2.2.1.cell 0
    exact ⟨.tuple #[.int .i64 0, .bool false], by simp [results, Try.results22, go_sem, d1, d2], rfl, hs2.2.2⟩
  case stop =>
    rintro D _ T _ W hD hTD hpre ⟨rfl, x, rfl, hI⟩ hK
    have c1 : W.cell? ⟨w.heap.size, 0, none⟩ = some (.int .i64 (x : Int)) := hI.1.cell 0
    have c2 : W.cell? ⟨w.heap.size + 1, 0, none⟩ = some (.bool true) := hI.2.1.cell 0
    have Y := Lib.hid (And.intro hI (And.intro hTD hpre))
    clear hI hTD hpre
    gi_wp2
    have hD0 : D ≠ w.heap.size := fun e => Y.out.1.2.2.1 (e ▸ Y.out.2.1)
    have hD1 : D ≠ w.heap.size + 1 := fun e => Y.out.1.2.2.2.1 (e ▸ Y.out.2.1)
    have hz := X2.out.2.2
    have hs2 := Y.out.1.put D hD0 hD1 (.deferred none) hz.1 hD
    obtain ⟨ys, rfl⟩ := Y.out.2.2
    refine ⟨by simp, .inl ⟨_, _, rfl, run_takeDeferred hK, ?_⟩⟩
    generalize W.putObj D (.deferred none) = W3 at hs2 ⊢
    have d1 : W3.cell? ⟨w.heap.size, 0, none⟩ = some (.int .i64 (x : Int)) := hs2.1.cell 0
    have d2 : W3.cell? ⟨w.heap.size + 1, 0, none⟩ = some (.bool true) := hs2.2.1.cell 0
    exact ⟨.tuple #[.int .i64 (x : Int), .bool true], by simp [results, Try.results22, go_sem, d1, d2], rfl, hs2.2.2⟩
end Go.Proofs.Ytialecghpekcnaa
