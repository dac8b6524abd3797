/-
  The law KmpKinds: a search for bytes does what one for numbers does that stand for them.
  Conditions: what is read of the slices are bytes.
-/
import Derived.Test.YtigapfgfbdofoaaKByte
namespace Go.Proofs.Ytigapfgfbdofoaa
open Go.RowKit

/-- The number that stands for a byte. -/
def flip (x : Int) : Int := 1000 - x
theorem flip_inj {x y : Int} (h : flip x = flip y) : x = y := by unfold flip at h; omega
theorem flips_inj : ∀ {a b : List Int}, a.map flip = b.map flip → a = b
  | [], [], _ => rfl
  | [], _ :: _, h => by simp at h
  | _ :: _, [], h => by simp at h
  | x :: a, y :: b, h => by
    rw [List.map_cons, List.map_cons] at h
    injection h with h1 h2
    rw [flip_inj h1, flips_inj h2]
theorem suf_flip (s p : List Int) (k : Nat) : Suf (s.map flip) (p.map flip) k ↔ Suf s p k := by
  unfold Suf
  rw [List.length_map, List.length_map, ← List.map_drop, ← List.map_take]
  exact ⟨fun h => ⟨h.1, h.2.1, flips_inj h.2.2⟩, fun h => ⟨h.1, h.2.1, by rw [h.2.2]⟩⟩
theorem longest_flip (s p : List Int) : longest (s.map flip) (p.map flip) = longest s p :=
  longest_is ((suf_flip s p _).2 (longest_suf s p)) fun _ h => le_longest ((suf_flip s p _).1 h)

theorem SAtB.bound {T : Nat → Prop} {w : World} {q k : Nat} {p : List Int} (h : SAtB T w q p k) : SAtB (fun b => T b ∧ b < w.heap.size) w q p k := by
  obtain ⟨A, c, gp, gb, h1, h2, h3, t1, t2, t3⟩ := h
  exact ⟨A, c, gp, gb, h1, h2, h3, ⟨t1, h1.lt⟩, ⟨t2, h3.lt⟩, fun b e => ⟨t3 b e, h2.lt e⟩⟩

/-- A search for bytes and one for numbers, each with blocks of its own; the first saw s, the second the numbers for it. -/
def Two (w : World) (z qa qb : Nat) (P s : List Int) (W : World) : Prop :=
  SAtB (fun b => w.heap.size ≤ b ∧ b < z) W qa P (longest s P) ∧ SAt (fun b => z ≤ b) W qb (P.map flip) (longest (s.map flip) (P.map flip)) ∧ Below w.heap.size w W
section
variable {w W W' : World} {z qa qb : Nat} {P s : List Int}
theorem Two.below (h : Two w z qa qb P s W) (hb : Below W.heap.size W W') : Two w z qa qb P s W' := ⟨h.1.below hb, h.2.1.below hb, h.2.2.trans (hb.mono h.2.2.size)⟩
theorem Two.drewN (h : Two w z qa qb P s W) (n : Nat) : Two w z qa qb P s (W.drewN n) := ⟨h.1.drewN n, h.2.1.drewN n, ⟨h.2.2.os, h.2.2.tape, h.2.2.output, h.2.2.size, h.2.2.block⟩⟩
/-- Between the two Feeds. -/
def Half (w : World) (z qa qb : Nat) (P s : List Int) (x : Int) (W : World) : Prop :=
  SAtB (fun b => w.heap.size ≤ b ∧ b < z) W qa P (longest (s ++ [x]) P) ∧ SAt (fun b => z ≤ b) W qb (P.map flip) (longest (s.map flip) (P.map flip)) ∧ Below w.heap.size w W
theorem Two.half {x : Int} {e : Ending} (h : Two w z qa qb P s W) (hf : FedB (fun b => w.heap.size ≤ b ∧ b < z) W qa P (longest (s ++ [x]) P) e W') : Half w z qa qb P s x W' := by
  have hq := h.1.own
  exact ⟨hf.2.1, h.2.1.only hf.2.2 (fun b hb e => by omega), h.2.2.trans (hf.2.2.below h.2.2.size fun i hi h => by omega)⟩
theorem Half.two {x : Int} {e : Ending} (h : Half w z qa qb P s x W) (hz : w.heap.size ≤ z) (hf : Fed (fun b => z ≤ b) W qb (P.map flip) (longest (s.map flip ++ [flip x]) (P.map flip)) e W') : Two w z qa qb P (s ++ [x]) W' := by
  have hq := h.2.1.own
  refine ⟨h.1.only hf.2.2 (fun b hb e => by omega), ?_, h.2.2.trans (hf.2.2.below h.2.2.size fun i hi h => by omega)⟩
  rw [List.map_append]
  exact hf.2.1
end

set_option maxRecDepth 100000 in
set_option maxHeartbeats 4000000 in
theorem kinds_true (A : Option Addr) (n c : Nat) (l : List Nat) (B : Option Addr) (m d : Nat) (p : List Nat) (w : World) (ht : Rd w (.slice A n c) (bv l)) (hp : Rd w (.slice B m d) (bv p)) (hlb : ∀ b ∈ l, b < 256) (hpb : ∀ b ∈ p, b < 256) :
    Calls Try.prog 5 #[.slice A n c, .slice B m d] w fun e w' => e = .returned (.bool true) ∧ Below w.heap.size w w' := by
  obtain ⟨i0, hi0, hz0, hz1, hz2⟩ := info_parts int_info
  obtain ⟨n1, hn1, hn2, hn3⟩ : ∃ k : Nat, k ≤ n ∧ k ≤ 200 ∧ min (n : Int) 200 = (k : Int) := ⟨min n 200, Nat.min_le_left _ _, Nat.min_le_right _ _, by omega⟩
  obtain ⟨m1, hm1, hm2, hm3⟩ : ∃ k : Nat, k ≤ m ∧ k ≤ 100 ∧ min (m : Int) 100 = (k : Int) := ⟨min m 100, Nat.min_le_left _ _, Nat.min_le_right _ _, by omega⟩
  obtain ⟨A1, hs1, hr1⟩ := run_upto ht hn1
  obtain ⟨B1, hs2, hr2⟩ := run_upto hp hm1
  have HX : Hid (∀ b ∈ l.take n1, b < 256) := Lib.hid fun b hb => hlb b (List.mem_of_mem_take hb)
  have HY : Hid (∀ b ∈ p.take m1, b < 256) := Lib.hid fun b hb => hpb b (List.mem_of_mem_take hb)
  have HNL := Lib.hid (And.intro hr1.bytes hr2.bytes)
  generalize l.take n1 = ts at *
  generalize p.take m1 = ps at *
  have HR := Lib.hid (And.intro hr1 hr2)
  clear ht hp hr1 hr2 hlb hpb
  go_enter Try.func5, Try.ntmps5
  go_wp2_with fail
  go_quiet (fail)
  clear hs1 hs2 hn3 hm3
  generalize hv : World.drewN w _ = v
  have HV : Hid (Below w.heap.size w v) := by subst hv; exact ⟨rfl, rfl, rfl, Nat.le_refl _, fun _ _ => rfl⟩
  clear hv
  go_wp2
  go_loopw [5, 24] (fun u i wr => ∃ j : Nat, j ≤ m1 ∧ i = .int .i64 j ∧ Hid (IntsI v u (((ni ps).take j).map flip) wr)) (fun _ i _ => m1 - (intOf i).toNat)
  case atStart => exact ⟨0, Nat.zero_le _, rfl, Lib.hid (IntsI.nil v)⟩
  case round =>
    obtain ⟨j, hj, rfl, HI⟩ := hrel
    have XV : Hid (Below w.heap.size w wr) := Lib.hid (HV.out.trans (HI.out.choose_spec.2.2.mono HV.out.size))
    obtain ⟨A5, c5, rfl⟩ := HI.out.form
    have hjl : (((ni ps).take j).map flip).length = j := by have := HNL.out.2; rw [List.length_map, List.length_take, ni_len]; omega
    rw [hjl] at HI ⊢
    by_cases hlt : j < m1
    · obtain ⟨b, o, x, rfl, y, hxj⟩ := (HR.out.2.kept XV.out).byteAt hlt
      have hx256 : x < 256 := HY.out x (List.mem_of_getElem? hxj)
      have HS : Hid (((ni ps).take (j + 1)).map flip = ((ni ps).take j).map flip ++ [flip (x : Int)]) := Lib.hid (by rw [List.take_add_one, List.map_append]; congr 1; simp [ni, hxj])
      obtain ⟨go, hr, hgo, hb⟩ := HI.out
      have X := Lib.hid (And.intro hr (And.intro hgo hb))
      clear hr hgo hb HI hxj
      go_wp2_with (at_builtin; refine wpList_append_row _ rfl (.tmp 28) (.tmp 32) _ rfl 3 i0 _ 8 Try.underlying22 hi0 hz0 hz1 hz2 rfl go _ (iv (((ni ps).take j).map flip)) rfl (X.out.1.alloc _) _ [.int .i64 (1000 - (x : Int))] rfl (Rd.lit wr 3 #[.int .i64 (1000 - (x : Int))] 1 rfl (by omega) (by omega) (by simp [Value.oneCell'])) (by rw [iv_len, hjl]; simp only [maxLen, List.length_singleton]; omega) (by rw [iv_len, hjl, List.length_singleton]; omega) ?_; intro B' d' w7 gn hrow' hgr hgn; simp only [iv_len, hjl] at hrow' ⊢; have Y := Lib.hid (And.intro hrow' (And.intro hgr hgn)); clear hrow' hgr hgn)
      go_roundw
      case rel =>
        refine ⟨j + 1, by omega, by go_num, Lib.hid ?_⟩
        have := IntsI.grown (w0 := v) (xs := ((ni ps).take j).map flip) (ys := [flip (x : Int)]) X.out.2.1 (X.out.2.2.alloc X.out.2.2.size _) Y.out.1 Y.out.2.1 Y.out.2.2
        rw [HS.out]
        simpa using this
      case measure => simp [intOf]; omega
    · obtain rfl : j = m1 := by omega
      have HT : Hid ((ni ps).take j = ni ps) := Lib.hid (by rw [List.take_of_length_le]; rw [ni_len]; have := HNL.out.2; omega)
      rw [HT.out] at HI
      have HQ := Lib.hid (IntsTo.rd HI.out.to)
      have HP : Hid (Rd wr (.slice B1 j d) (cv (ni ps))) := Lib.hid (by have := HR.out.2.kept XV.out; rwa [bv_cv] at this)
      have HC := Lib.hid (New_b B1 j d (ni ps) wr HP.out (by rw [ni_len]; have := HNL.out.2; omega))
      clear HI HT
      go_wp2_with fail
      refine HC.out.mono ?_
      rintro e w3 ⟨qa, rfl, hqa, hb3⟩
      have X3 := Lib.hid (And.intro hqa.bound hb3)
      have HC2 := Lib.hid (New_i A5 j c5 ((ni ps).map flip) w3 (HQ.out.2.1.kept hb3) (by rw [List.length_map, ni_len]; have := HNL.out.2; omega))
      clear hqa hb3 HC
      go_wp2_with fail
      refine HC2.out.mono ?_
      rintro e w4 ⟨qb, rfl, hqb, hb4⟩
      obtain ⟨z, hz⟩ : ∃ z, z = w3.heap.size := ⟨_, rfl⟩
      have X4 : Hid (Two w z qa qb (ni ps) [] w4 ∧ w.heap.size ≤ z) := Lib.hid (by
        have h1 := XV.out
        have h3 := X3.out.2
        subst hz
        refine ⟨⟨?_, ?_, ?_⟩, Nat.le_trans h1.size h3.size⟩
        · rw [longest_nil]; exact (X3.out.1.below hb4).mono fun b h => ⟨Nat.le_trans h1.size h.1, h.2⟩
        · rw [List.map_nil, longest_nil]; exact hqb
        · exact (h1.trans (h3.mono h1.size)).trans (hb4.mono (h1.trans (h3.mono h1.size)).size))
      clear hqb hb4 HC2 X3 hz
      go_wp2_with fail
      refine (alive_true w4).mono ?_
      rintro e w5 ⟨rfl, hb5⟩
      have X5 := Lib.hid (And.intro (X4.out.1.below hb5) X4.out.2)
      clear hb5 X4
      go_wp2
      go_loopw [51] (fun i wr => ∃ t : Nat, t ≤ n1 ∧ i = .int .i64 t ∧ Hid (Two w z qa qb (ni ps) ((ni ts).take t) wr)) (fun i _ => n1 - (intOf i).toNat)
      case atStart => exact ⟨0, Nat.zero_le _, rfl, Lib.hid X5.out.1⟩
      case round =>
        obtain ⟨t, ht, rfl, HT⟩ := hrel
        by_cases hlt2 : t < n1
        · obtain ⟨b, o, x, rfl, y, hxt⟩ := (HR.out.1.kept HT.out.2.2).byteAt hlt2
          have hx256 : x < 256 := HX.out x (List.mem_of_getElem? hxt)
          have HS : Hid ((ni ts).take (t + 1) = (ni ts).take t ++ [(x : Int)]) := Lib.hid (by rw [List.take_add_one]; congr 1; simp [ni, hxt])
          have HF := Lib.hid (Feed_atb ((ni ts).take t) (x : Int) HT.out.1 (by rw [ni_len]; have := HNL.out.2; omega))
          clear hxt
          go_wp2_with fail
          refine HF.out.mono ?_
          rintro e w6 hf
          have X6 := Lib.hid (HT.out.half hf)
          obtain ⟨rfl, -⟩ := hf
          have HF2 := Lib.hid (Feed_at (((ni ts).take t).map flip) (flip (x : Int)) X6.out.2.1 (by rw [List.length_map, ni_len]; have := HNL.out.2; omega))
          have EQ : Hid (longest (((ni ts).take t).map flip ++ [flip (x : Int)]) ((ni ps).map flip) = longest ((ni ts).take t ++ [(x : Int)]) (ni ps)) := Lib.hid (by rw [← longest_flip ((ni ts).take t ++ [(x : Int)]), List.map_append, List.map_cons, List.map_nil])
          clear HF
          go_wp2_with fail
          refine HF2.out.mono ?_
          rintro e w7 hf
          have X7 := Lib.hid (X6.out.two X5.out.2 hf)
          obtain ⟨rfl, -⟩ := hf
          rw [EQ.out, List.length_map]
          have HA1 := Lib.hid (At_atb X7.out.1)
          have HA2 := Lib.hid (At_at X7.out.2.1)
          rw [longest_flip] at HA2
          clear HF2 EQ X6
          generalize longest ((ni ts).take t ++ [(x : Int)]) (ni ps) = kk at *
          generalize decide (kk = (ni ps).length) = bb at *
          have HW : Hid (Two w z qa qb (ni ps) ((ni ts).take (t + 1)) w7) := Lib.hid (by rw [HS.out]; exact X7.out)
          cases bb <;>
          · go_wp2_with fail
            refine HA1.out.mono ?_
            rintro e w8 ⟨rfl, rfl⟩
            go_wp2_with fail
            refine HA2.out.mono ?_
            rintro e w8 ⟨rfl, rfl⟩
            go_wp2
            go_roundw
            case rel => exact ⟨t + 1, by omega, by go_num, HW⟩
            case measure => simp [intOf]; omega
        · obtain rfl : t = n1 := by omega
          go_wp2
          go_ret
          exact ⟨rfl, HT.out.2.2⟩
end Go.Proofs.Ytigapfgfbdofoaa
