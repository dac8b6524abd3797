/-
  The document's Like, walked.
  Conditions: a text of at most 140737488355328 bytes.
-/
import Derived.Test.YtcipljpalohjiaaDoorGlRLike
namespace Go.Proofs.YtcipljpalohjiaaDoor
open Go.RowKit

theorem drewG_below (W : World) (n : Nat) : Below W.heap.size W (W.drewN n) := ⟨rfl, rfl, rfl, Nat.le_refl _, fun _ _ => rfl⟩
/-- Is something before i so? -/
def someB (x : Thg) (l : List Thg) (t : List Nat) (i : Nat) : Bool := x.any && (List.range i).any fun j => likeS l (t.take j)
theorem some_snoc {x : Thg} (h : x.any = true) (l : List Thg) (t : List Nat) (i : Nat) : someB x l t (i + 1) = (someB x l t i || likeS l (t.take i)) := by
  simp [someB, h, List.range_succ]
theorem some_like {x : Thg} (h : x.any = true) (l : List Thg) {t : List Nat} {i : Nat} (hi : i ≤ t.length) : someB x l t (i + 1) = likeS (l ++ [x]) (t.take i) := by
  rw [Bool.eq_iff_iff, like_snoc_any h l t hi]
  simp only [someB, h, Bool.true_and, List.any_eq_true, List.mem_range]
  constructor
  · rintro ⟨j, hj, h2⟩; exact ⟨j, by omega, h2⟩
  · rintro ⟨j, hj, h2⟩; exact ⟨j, by omega, h2⟩
theorem some_none {x : Thg} (h : x.any = false) (l : List Thg) (t : List Nat) (i : Nat) : someB x l t i = false := by simp [someB, h]
/-- The next row so far. -/
def nextB (x : Thg) (l : List Thg) (t : List Nat) (i j : Nat) : Bool := decide (j < i) && likeS (l ++ [x]) (t.take j)
theorem next_set {x : Thg} {l : List Thg} {t : List Nat} {i : Nat} {b : Bool} (hb : b = likeS (l ++ [x]) (t.take i)) (j : Nat) : (if j = i then b else nextB x l t i j) = nextB x l t (i + 1) j := by
  subst hb
  unfold nextB
  by_cases h : j = i
  · subst h; simp
  · rw [if_neg h, show decide (j < i) = decide (j < i + 1) from decide_eq_decide.2 (by omega)]
theorem next_keep {x : Thg} {l : List Thg} {t : List Nat} {i : Nat} (hb : likeS (l ++ [x]) (t.take i) = false) (j : Nat) : nextB x l t i j = nextB x l t (i + 1) j := by
  rw [← next_set (b := false) hb.symm j]
  by_cases h : j = i
  · subst h; simp [nextB]
  · rw [if_neg h]

theorem Lk2.same {w W : World} {n q r : Nat} {f g g' : Nat → Bool} (h : Lk2 w W n q f r g) (hg : ∀ i, i ≤ n → g i = g' i) : Lk2 w W n q f r g' := ⟨h.ok, h.next.same hg, h.ne⟩
theorem Lk2.more {w W W' : World} {n q r : Nat} {f g : Nat → Bool} (h : Lk2 w W n q f r g) (hb : Below W.heap.size W W') : Lk2 w W' n q f r g := ⟨h.ok.more hb, h.next.more hb, h.ne⟩
theorem ThR.place {w : World} {A : Option Addr} {n c k : Nat} {l : List Thg} {x : Thg} (h : ThR w (.slice A n c) l) (hk : l[k]? = some x) : ∃ b o, A = some ⟨b, o, none⟩ := by
  obtain ⟨A', c', e, hr⟩ := h
  injection e with e1
  obtain ⟨b, o, e2, _⟩ := hr k x hk
  exact ⟨b, o, e1.trans e2⟩
theorem ThR.cells {w W : World} {b o n c k : Nat} {l : List Thg} {x : Thg} (h : ThR w (.slice (some ⟨b, o, none⟩) n c) l) (hb : Below w.heap.size w W) (hk : l[k]? = some x) :
    W.cell? ⟨b, o + k * 257, none⟩ = some (.bool x.any) ∧ ∀ j, j < 256 → W.cell? ⟨b, o + k * 257 + 1 + j, none⟩ = some (.bool (x.one j)) := by
  obtain ⟨A', c', e, hr⟩ := h.kept hb
  injection e with e1
  obtain ⟨b', o', e2, h1, h2⟩ := hr k x hk
  rw [← e1] at e2
  injection e2 with e2
  injection e2 with e3 e4
  subst e3 e4
  exact ⟨h1, h2⟩

set_option maxRecDepth 100000 in
set_option maxHeartbeats 8000000 in
theorem RLike_is (v : Value) (l : List Thg) (t : List Nat) (ht : ∀ c ∈ t, c < 256) (hn : t.length ≤ 140737488355328) (hl : l.length ≤ 1048576) (w : World) (h : ThR w v l) :
    Calls Tryd.prog 48 #[v, .string (str t)] w (fun r w' => r = .returned (.bool (likeS l t)) ∧ Below w.heap.size w w') := by
  have hsz := str_len t
  have HL := Lib.hid ht
  have HT := Lib.hid h
  obtain ⟨A, c, rfl, -⟩ := h
  clear ht
  have hmk := fun W => made_bools hn W
  have c0 : (w.alloc (.cells (bz (t.length + 1) (fun _ => false)) 4)).cell? ⟨w.heap.size, 0, none⟩ = some (.bool false) := ((Blk.new w 4 _).cell 0).trans (bz_at _ (by omega))
  have f0 : (w.alloc (.cells (bz (t.length + 1) (fun _ => false)) 4)).frozen? ⟨w.heap.size, 0, none⟩ = false := (Blk.new w 4 _).frozen 0
  go_enter Tryd.func48, Tryd.ntmps48
  go_wp2_with fail
  clear c0 f0
  go_loopw [5, 6] (fun u v wr => ∃ k q : Nat, k ≤ l.length ∧ u = .slice (some ⟨q, 0, none⟩) (t.length + 1) (t.length + 1) ∧ v = .int .i64 k ∧ Hid (LkSt w wr t.length q (fun i => likeS (l.take k) (t.take i)))) (fun _ v _ => l.length - (intOf v).toNat)
  case atStart => exact ⟨0, w.heap.size, by omega, rfl, rfl, Lib.hid ((LkSt.first w t.length).same (fun i hi => like_start t hi))⟩
  case round =>
    obtain ⟨k, q, hk, rfl, rfl, HS⟩ := hrel
    by_cases hkl : k < l.length
    · obtain ⟨x, hx⟩ : ∃ x, l[k]? = some x := ⟨_, List.getElem?_eq_getElem hkl⟩
      obtain ⟨b, o, rfl⟩ := HT.out.place hx
      have HX := Lib.hid hx
      clear hx
      go_wp2_with fail
      go_loopw [8, 9] (fun u v W => ∃ i : Nat, i ≤ t.length + 1 ∧ u = .bool (someB x (l.take k) t i) ∧ v = .int .i64 i ∧ Hid (Lk2 w W t.length q (fun i => likeS (l.take k) (t.take i)) wr.heap.size (nextB x (l.take k) t i))) (fun _ v _ => t.length + 1 - (intOf v).toNat)
      case atStart => exact ⟨0, by omega, by simp [someB], rfl, Lib.hid ((Lk2.made HS.out).same (fun i _ => by simp [nextB]))⟩
      case round =>
        obtain ⟨i, hi, rfl, rfl, H2⟩ := hrel
        clear HS
        by_cases hil : i ≤ t.length
        · obtain ⟨k0, k1⟩ := HT.out.cells H2.out.ok.below HX.out
          have HK := Lib.hid k1
          clear k1
          by_cases hany : x.any = true
          · rw [hany] at k0
            have c1 := H2.out.ok.cell hil
            have c2 := H2.out.next.cell hil
            have f2 := H2.out.next.fz i
            have HE := Lib.hid (some_snoc hany (l.take k) t i)
            have HG := Lib.hid (some_like hany (l.take k) hil)
            cases hs : someB x (l.take k) t i with
            | true =>
              rw [hs] at HE
              go_wp2_with fail
              go_roundw
              case rel => exact ⟨i + 1, by omega, by rw [HE.out]; rfl, by go_num, Lib.hid ((H2.out.put i true).same (fun j _ => next_set (by rw [← HG.out, HE.out]; rfl) j))⟩
              case measure => simp [intOf]; omega
            | false =>
              rw [hs] at HE
              go_wp2_with fail
              go_roundw
              case rel => exact ⟨i + 1, by omega, by rw [HE.out]; rfl, by go_num, Lib.hid ((H2.out.put i _).same (fun j _ => next_set (by rw [← HG.out, HE.out]; rfl) j))⟩
              case measure => simp [intOf]; omega
          · have hany : x.any = false := by simpa using hany
            rw [hany] at k0
            rw [some_none hany]
            have HG := Lib.hid (like_snoc_one hany (l.take k) t hil)
            cases i with
            | zero =>
              have HF : likeS (l.take k ++ [x]) (t.take 0) = false := by
                rw [← Bool.not_eq_true, HG.out]; simp
              have HF := Lib.hid HF
              go_wp2_with fail
              go_quiet (fail)
              have H3 := Lib.hid (H2.out.more (drewG_below wr nq))
              generalize wr.drewN nq = W2 at *
              clear H2 HK
              go_wp2_with fail
              go_roundw
              case rel => exact ⟨1, by omega, by rw [some_none hany], by go_num, Lib.hid (H3.out.same (fun j _ => next_keep HF.out j))⟩
              case measure => simp [intOf]
            | succ m =>
              have cm := H2.out.ok.cell (show m ≤ t.length by omega)
              obtain ⟨d, hd⟩ : ∃ d, t[m]? = some d := ⟨_, List.getElem?_eq_getElem (by omega)⟩
              have hd256 := HL.out d (List.mem_of_getElem? hd)
              obtain ⟨hkd, hxd⟩ := str_at HL.out hd
              have HD := Lib.hid hd
              clear hd
              have e1 : ((m + 1 : Nat) : Int) = (m : Int) + 1 := by omega
              have e2 : ((m : Int) + 1) - 1 = (m : Int) := by omega
              rw [e1]
              cases hm : likeS (l.take k) (t.take m) with
              | false =>
                rw [hm] at cm
                have HF : likeS (l.take k ++ [x]) (t.take (m + 1)) = false := by
                  rw [← Bool.not_eq_true, HG.out]; simp [hm]
                have HF := Lib.hid HF
                go_wp2_with fail
                go_quiet (fail)
                have H3 := Lib.hid (H2.out.more (drewG_below wr nq))
                generalize wr.drewN nq = W2 at *
                clear H2 HK
                go_wp2_with fail
                go_roundw
                case rel => exact ⟨m + 2, by omega, by rw [some_none hany], by go_num, Lib.hid (H3.out.same (fun j _ => next_keep HF.out j))⟩
                case measure => simp [intOf]; omega
              | true =>
                rw [hm] at cm
                have kd := HK.out d hd256
                cases ho : x.one d with
                | false =>
                  rw [ho] at kd
                  have HF : likeS (l.take k ++ [x]) (t.take (m + 1)) = false := by
                    rw [← Bool.not_eq_true, HG.out]; simp [hm, HD.out, ho]
                  have HF := Lib.hid HF
                  go_wp2_with fail
                  go_quiet (fail)
                  have H3 := Lib.hid (H2.out.more (drewG_below wr nq))
                  generalize wr.drewN nq = W2 at *
                  clear H2 HK
                  go_wp2_with fail
                  go_roundw
                  case rel => exact ⟨m + 2, by omega, by rw [some_none hany], by go_num, Lib.hid (H3.out.same (fun j _ => next_keep HF.out j))⟩
                  case measure => simp [intOf]; omega
                | true =>
                  rw [ho] at kd
                  have HF : likeS (l.take k ++ [x]) (t.take (m + 1)) = true := by
                    rw [HG.out]; simp [hm, HD.out, ho]
                  have HF := Lib.hid HF
                  go_wp2_with fail
                  go_quiet (fail)
                  have H3 := Lib.hid (H2.out.more (drewG_below wr nq))
                  generalize wr.drewN nq = W2 at *
                  have c2 := H3.out.next.cell hil
                  have f2 := H3.out.next.fz (m + 1)
                  clear H2 HK
                  go_wp2_with fail
                  go_roundw
                  case rel => exact ⟨m + 2, by omega, by rw [some_none hany], by go_num, Lib.hid ((H3.out.put (m + 1) true).same (fun j _ => next_set HF.out.symm j))⟩
                  case measure => simp [intOf]; omega
        · obtain rfl : i = t.length + 1 := by omega
          go_wp2_with fail
          go_roundw
          case rel => 
            refine ⟨k + 1, _, by omega, rfl, by go_num, Lib.hid (H2.out.next.same (fun i hi => ?_))⟩
            rw [List.take_succ_eq_append_getElem hkl, nextB, decide_eq_true (by omega : i < t.length + 1), Bool.true_and]
            rw [(List.getElem?_eq_some_iff.1 HX.out).2]
          case measure => simp [intOf]; omega
    · obtain rfl : k = l.length := by omega
      have c1 := HS.out.cell (Nat.le_refl _)
      go_wp2_with fail
      go_ret
      exact ⟨ret_bool (by simp), HS.out.below⟩
end Go.Proofs.YtcipljpalohjiaaDoor
