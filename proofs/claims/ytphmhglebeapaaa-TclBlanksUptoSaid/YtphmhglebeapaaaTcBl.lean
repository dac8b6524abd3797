/-
  The law TclBlanks.
  Conditions: at most 1048576 things in the list.
-/
import Derived.Test.YtphmhglebeapaaaTcPri
import Derived.Laws.BitsLemmas
namespace Go.Proofs.Ytphmhglebeapaaa
open Go.RowKit

/-- Each command's text with something around it, from the j-th on. -/
def blT (how : Nat) : Nat → List Cmd → List Nat
  | _, [] => []
  | j, c :: r => piece ((how + j) % 4) c.words ++ blT how (j + 1) r
theorem blT_snoc (how : Nat) (c : Cmd) : ∀ (l : List Cmd) (j : Nat), blT how j (l ++ [c]) = blT how j l ++ piece ((how + (j + l.length)) % 4) c.words
  | [], j => by simp [blT]
  | a :: l, j => by
    rw [List.cons_append, blT, blT, blT_snoc how c l (j + 1), List.length_cons, List.append_assoc, show j + 1 + l.length = j + (l.length + 1) by omega]
theorem blT_take (how : Nat) {l : List Cmd} {i : Nat} {c : Cmd} (h : l[i]? = some c) : blT how 0 (l.take (i + 1)) = blT how 0 (l.take i) ++ piece ((how + i) % 4) c.words := by
  have hi := (List.getElem?_eq_some_iff.1 h).1
  rw [List.take_succ_eq_append_getElem hi, (List.getElem?_eq_some_iff.1 h).2, blT_snoc, List.length_take, Nat.min_eq_left (by omega), Nat.zero_add]
theorem piece_len (how : Nat) (ws : List Wrd) : (piece how ws).length ≤ (wordsT ws).length + 12 := by
  unfold piece
  split
  · simp
  · split
    · simp
    · split <;> simp
theorem blT_len (how : Nat) : ∀ (l : List Cmd) (j : Nat), (blT how j l).length ≤ 4 * weightC l + 12 * l.length
  | [], j => by simp [blT]
  | c :: l, j => by
    rw [blT, List.length_append, weightC_cons, List.length_cons]
    have h1 := piece_len ((how + j) % 4) c.words
    have h2 := wordsT_len c.words
    have h3 := blT_len how l (j + 1)
    omega
theorem piece_bytes (how : Nat) {ws : List Wrd} (h : ∀ x ∈ ws, bytesW x) : ∀ d ∈ piece how ws, d < 256 := by
  have hw := wordsT_bytes h
  intro d hd
  unfold piece at hd
  split at hd
  · simp only [List.mem_append, List.mem_cons, List.not_mem_nil, or_false] at hd
    rcases hd with (hd | hd | hd) | hd
    · omega
    · exact hw d hd
    · omega
    · omega
  · split at hd
    · simp only [List.mem_append, List.mem_cons, List.not_mem_nil, or_false] at hd
      rcases hd with hd | hd | hd
      · omega
      · exact hw d hd
      · omega
    · split at hd
      · simp only [List.mem_append, List.mem_cons, List.not_mem_nil, or_false] at hd
        rcases hd with hd | hd
        · exact hw d hd
        · omega
      · simp only [List.mem_append, List.mem_cons, List.not_mem_nil, or_false] at hd
        rcases hd with (hd | hd | hd) | hd
        · omega
        · exact hw d hd
        · omega
        · omega
theorem blT_bytes (how : Nat) : ∀ {l : List Cmd} {j : Nat}, (∀ c ∈ l, bytesC c) → ∀ d ∈ blT how j l, d < 256
  | [], j, _, d, hd => by simp [blT] at hd
  | c :: l, j, h, d, hd => by
    rw [blT] at hd
    rcases List.mem_append.1 hd with hd | hd
    · exact piece_bytes _ (h c (by simp)) d hd
    · exact blT_bytes how (fun x hx => h x (List.mem_cons_of_mem _ hx)) d hd
theorem blT_parse (how : Nat) : ∀ (l : List Cmd) (j : Nat), (∀ c ∈ l, cmdOk c ∧ bytesC c) → ∀ (i : Nat) (cs : List Cmd), ∃ l', samesC l l' ∧ parseL (blT how j l) i cs = .ok (cs ++ l')
  | [], j, _, i, cs => ⟨[], trivial, by rw [blT, parseL_nil, List.append_nil]⟩
  | c :: l, j, h, i, cs => by
    obtain ⟨p, ws', h1, h2⟩ := piece_parse (ws := c.words) (fun w hw => ⟨(h c (by simp)).1.2 w hw, (h c (by simp)).2 w hw⟩) (h c (by simp)).1.1 ((how + j) % 4) (blT how (j + 1) l) i cs
    obtain ⟨l', h3, h4⟩ := blT_parse how l (j + 1) (fun x hx => h x (List.mem_cons_of_mem _ hx)) (i + (piece ((how + j) % 4) c.words).length) (cs ++ [⟨p, ws'⟩])
    exact ⟨⟨p, ws'⟩ :: l', ⟨h1, h3⟩, by rw [blT, h2, h4, List.append_assoc]; rfl⟩
theorem samesC_two {l a b : List Cmd} (h : samesC l a) (k : samesC l b) : samesC a b := by
  rw [samesC_iff] at *
  refine ⟨by omega, fun j x y hx hy => ?_⟩
  obtain ⟨z, hz⟩ : ∃ z, l[j]? = some z := ⟨_, List.getElem?_eq_getElem (by have := (List.getElem?_eq_some_iff.1 hx).1; omega)⟩
  have h1 : samesW z.words x.words := h.2 j z x hz hx
  have h2 : samesW z.words y.words := k.2 j z y hz hy
  show samesW x.words y.words
  rw [samesW_iff] at *
  refine ⟨by omega, fun i p q hp hq => ?_⟩
  obtain ⟨u, hu⟩ : ∃ u, z.words[i]? = some u := ⟨_, List.getElem?_eq_getElem (by have := (List.getElem?_eq_some_iff.1 hp).1; omega)⟩
  have e1 := h1.2 i u p hu hp
  have e2 := h2.2 i u q hu hq
  exact ⟨e1.1.symm.trans e2.1, e1.2.symm.trans e2.2⟩
/-- i & 3. -/
theorem and3 (x : Nat) (h : x < 9223372036854775808) : bits BinOp.and IntKind.i64 (x : Int) 3 = ((x % 4 : Nat) : Int) := by
  have two : (2 : Int) ^ 63 = 9223372036854775808 := by decide
  have h2 := bits_mask .i64 63 (by decide) (fun n h0 h1 => by rw [two] at h1; rw [IntKind.wrap_i64]; omega) 2 (by decide) (x : Int) (by omega) (by rw [two]; omega)
  have e : ((2 : Int) ^ 2 - 1) = 3 := by decide
  rw [e] at h2
  rw [h2]
  omega
/-- A piece by the command's text. -/
def pieceL (how : Nat) (t : List Nat) : List Nat :=
  if how = 0 then [32, 32, 9] ++ (t ++ [10]) ++ [10, 59, 59, 10]
  else if how = 1 then [35, 32, 115, 101, 110, 100, 32, 123, 34, 91, 10] ++ (t ++ [10])
  else if how = 2 then t ++ [9, 32, 59]
  else [59] ++ (t ++ [10]) ++ [32, 9, 10]
theorem piece_eq (how : Nat) (ws : List Wrd) : piece how ws = pieceL how (wordsT ws) := rfl
/-- One command in a block of its own. -/
theorem one_cmd {W : World} {q : Nat} {c : Cmd} {A : Option Addr} {ca : Nat} (hB : Blk W q 39 #[.int .i64 c.at_, .slice A c.words.length ca]) (hw : Wrds all W (.slice A c.words.length ca) c.words) : Cmds all W (.slice (some ⟨q, 0, none⟩) 1 1) [c] := by
  refine ⟨_, 1, rfl, by simp, fun _ => ⟨q, 0, rfl, trivial, fun j x hj => ?_⟩⟩
  cases j with
  | succ j => simp at hj
  | zero => simp at hj; subst hj; exact ⟨hB.cell 0, _, hB.cell 1, hw⟩

set_option maxRecDepth 100000 in
set_option maxHeartbeats 4000000 in
theorem blanks_true (l : List Cmd) (how : Nat) {va : Value} (w : World) (hx : Cmds all w va l) (il : ∀ c ∈ l, CmdIn c) (nl : countC l ≤ 1048576) (hh : how < 256) :
    Calls Try.prog 9 #[va, .int .u8 (how : Nat)] w fun e w' => e = .returned (.bool true) ∧ Below w.heap.size w w' := by
  have wl := weightC_count l
  have HX := Lib.hid hx
  have HB1 := Lib.hid (in_bytes il)
  have ll := countC_len l
  by_cases gl : 4000 < countC l
  · have HG : Hid (∀ W, Below w.heap.size w W → Calls Try.prog 16 #[va] W fun e w' => e = .returned (.bool true) ∧ Below W.heap.size W w') := Lib.hid fun W hb => (great_is l (SlI.below cmd_ok hx hb) (by omega)).mono (by rintro e w' ⟨rfl, hb2⟩; exact ⟨by rw [decide_eq_true gl], hb2⟩)
    clear hx nl wl gl il ll
    go_enter Try.func9, Try.ntmps9
    go_wp2_with fail
    refine (alive_true w).mono ?_
    rintro e w1 ⟨rfl, hb1⟩
    have X1 := Lib.hid hb1
    clear hb1
    go_wp2_with fail
    refine (HG.out w1 X1.out).mono ?_
    rintro e w2 ⟨rfl, hb2⟩
    have X2 := Lib.hid (X1.out.trans (hb2.mono X1.out.size))
    clear hb2
    go_wp2_with fail
    refine (alive_true w2).mono ?_
    rintro e w3 ⟨rfl, hb3⟩
    have X3 := Lib.hid (X2.out.trans (hb3.mono X2.out.size))
    clear hb3
    go_wp2_with fail
    go_ret
    exact ⟨rfl, X3.out⟩
  · have HG : Hid (∀ W, Below w.heap.size w W → Calls Try.prog 16 #[va] W fun e w' => e = .returned (.bool false) ∧ Below W.heap.size W w') := Lib.hid fun W hb => (great_is l (SlI.below cmd_ok hx hb) (by omega)).mono (by rintro e w' ⟨rfl, hb2⟩; exact ⟨by rw [decide_eq_false gl], hb2⟩)
    have hwl : weightC l ≤ 12000 := by omega
    have hll : l.length ≤ 4000 := by omega
    obtain ⟨A, ca, rfl, _⟩ := hx.form
    have HTK := Lib.hid (fun k => printT_len (l.take k))
    have HWK := Lib.hid (fun k => weightC_take l k)
    have HBL := Lib.hid (fun k => blT_len how (l.take k) 0)
    clear hx nl wl gl il ll
    go_enter Try.func9, Try.ntmps9
    go_wp2_with fail
    refine (alive_true w).mono ?_
    rintro e w1 ⟨rfl, hb1⟩
    have X1 := Lib.hid hb1
    clear hb1
    go_wp2_with fail
    refine (HG.out w1 X1.out).mono ?_
    rintro e w2 ⟨rfl, hb2⟩
    have X2 := Lib.hid (X1.out.trans (hb2.mono X1.out.size))
    clear hb2
    go_wp2_with fail
    go_loopw [5, 6, 26] (fun sv tv iv wr => ∃ i : Nat, i ≤ l.length ∧ iv = .int .i64 (i : Nat) ∧ sv = .string (str (printT (l.take i))) ∧ tv = .string (str (blT how 0 (l.take i))) ∧ Hid (Below w.heap.size w wr ∧ ∀ j c, j < i → l[j]? = some c → cmdOk c)) (fun _ _ iv _ => l.length - (intOf iv).toNat)
    case atStart => exact ⟨0, by omega, rfl, rfl, rfl, Lib.hid ⟨X2.out, fun j c h => by omega⟩⟩
    case round =>
      obtain ⟨i, hi, rfl, rfl, rfl, HW⟩ := hrel
      by_cases hlt : i < l.length
      · have r1 : decide ((i : Int) < (l.length : Int)) = true := decide_eq_true (by omega)
        have r1n : decide (i < l.length) = true := decide_eq_true hlt
        have i1 : (i : Int) < (l.length : Int) := by omega
        have HXI := Lib.hid (List.getElem?_eq_getElem hlt)
        have hcb := HB1.out _ (List.getElem_mem hlt)
        have hcw := (weightC_has l).2 _ (List.getElem_mem hlt)
        have HPT := Lib.hid (printT_take (List.getElem?_eq_getElem hlt))
        have HBT := Lib.hid (blT_take how (List.getElem?_eq_getElem hlt))
        rw [piece_eq] at HBT
        obtain ⟨b1, o1, v1, rfl, p0, p1, Y1⟩ := cmds_at (SlI.below cmd_ok HX.out HW.out.1) hlt
        obtain ⟨A1, k1, rfl, _⟩ := Y1.form
        generalize l[i] = c at *
        have hb3 : Below wr.heap.size wr ((wr.alloc (.cells #[.int .i64 c.at_, .slice A1 c.words.length k1] 39)).alloc (.cells #[.int .i64 c.at_, .slice A1 c.words.length k1] 39)) := ((Below.refl _ wr).alloc (Nat.le_refl _) _).alloc (by simp) _
        have hBc := Blk.new (wr.alloc (.cells #[.int .i64 c.at_, .slice A1 c.words.length k1] 39)) 39 #[.int .i64 c.at_, .slice A1 c.words.length k1]
        simp only [World.size_alloc] at hBc
        have HCM := Lib.hid (one_cmd hBc (SlI.fit wrd_ok (SlI.below wrd_ok Y1 hb3) (fun _ _ _ => trivial)))
        have hwc : weightC [c] ≤ 12001 := by rw [weightC_cons]; simp only [weightC, List.map_nil, List.sum_nil]; omega
        have HPR := Lib.hid (Print_is [c] HCM.out ⟨by omega, fun x hx => by rw [List.mem_singleton.1 hx]; exact hcb⟩)
        have HB3 := Lib.hid (HW.out.1.trans (hb3.mono HW.out.1.size))
        have HCB := Lib.hid hcb
        have hlen1 := HTK.out i
        have hlen2 := HTK.out (i + 1)
        have hlen3 := HBL.out i
        have hlen4 := HBL.out (i + 1)
        have hw3 := HWK.out i
        have hw4 := HWK.out (i + 1)
        rw [List.length_take] at hlen3 hlen4
        have hB1 : (printT (l.take i)).length ≤ 48000 := by omega
        have hB2 : (printT (l.take (i + 1))).length ≤ 48000 := by omega
        have hB3' : (blT how 0 (l.take i)).length ≤ 100000 := by omega
        have hB4 : (blT how 0 (l.take (i + 1))).length ≤ 100000 := by omega
        rw [HPT.out] at hB2
        rw [HBT.out] at hB4
        have HB2 := Lib.hid hB2
        have HB4 := Lib.hid hB4
        generalize hQ1 : printT (l.take i) = Q1 at *
        generalize hQ2 : blT how 0 (l.take i) = Q2 at *
        clear hb3 hBc Y1 hcb hcw hwc hlen1 hlen2 hlen3 hlen4 hw3 hw4 hQ1 hQ2 hB2 hB4
        by_cases hok : cmdOk c
        · have HOK := Lib.hid hok
          have HP2 : Hid (∀ e w', PrintTo ((wr.alloc (.cells #[.int .i64 c.at_, .slice A1 c.words.length k1] 39)).alloc (.cells #[.int .i64 c.at_, .slice A1 c.words.length k1] 39)) [c] e w' → e = .returned (.tuple #[.string (str (wordsT c.words ++ [10])), .int .i64 0]) ∧ Below ((wr.alloc (.cells #[.int .i64 c.at_, .slice A1 c.words.length k1] 39)).alloc (.cells #[.int .i64 c.at_, .slice A1 c.words.length k1] 39)).heap.size ((wr.alloc (.cells #[.int .i64 c.at_, .slice A1 c.words.length k1] 39)).alloc (.cells #[.int .i64 c.at_, .slice A1 c.words.length k1] 39)) w') := Lib.hid (by
            rintro e w' ⟨T, R, rfl, h1, _, hb⟩
            obtain ⟨rfl, rfl⟩ := h1 (fun x hx => by rw [List.mem_singleton.1 hx]; exact hok)
            refine ⟨?_, hb⟩
            rw [show printT [c] = wordsT c.words ++ [10] by simp [printT, cmdT]])
          have hws : (wordsT c.words ++ [10]).length ≤ 50000 := by have := HB2.out; simp only [List.length_append] at this ⊢; omega
          generalize wordsT c.words = ws at *
          clear hok
          have hc1 : str Q1 ++ str (ws ++ [10]) = str (Q1 ++ ws ++ [10]) := by rw [str_app, List.append_assoc]
          have hz1 : (str Q1).size + (str (ws ++ [10])).size ≤ 9223372036854775807 := by have := HB2.out; rw [str_len, str_len]; simp only [List.length_append] at this ⊢; omega
          have hsp := str_len (ws ++ [10])
          rw [List.length_append, List.length_singleton] at hsp hws
          have HS3 := Lib.hid (show str (printT (l.take (i + 1))) = str (Q1 ++ ws ++ [10]) by rw [HPT.out])
          have HT3 := Lib.hid (congrArg str HBT.out)
          obtain ⟨m4, hm44⟩ : ∃ m4, m4 = (how + i) % 4 := ⟨_, rfl⟩
          rw [← hm44] at HT3 HB4
          have hml : m4 < 4 := by omega
          have hand : bits BinOp.and IntKind.i64 ((how : Int) + (i : Int)) 3 = (m4 : Int) := by
            have := and3 (how + i) (by omega)
            rw [← hm44] at this
            rw [← this]; congr 1
          generalize str (Q1 ++ ws ++ [10]) = s3 at *
          clear HPT HBT
          rcases (show m4 = 0 ∨ m4 = 1 ∨ m4 = 2 ∨ m4 = 3 by omega) with hm4 | hm4 | hm4 | hm4
          · have z0 : ((m4 : Int) == 0) = true := beq_iff_eq.2 (by omega)
            have hfit := HB4.out
            rw [show pieceL m4 ws = [32, 32, 9] ++ (ws ++ [10]) ++ [10, 59, 59, 10] by unfold pieceL; rw [if_pos hm4]] at hfit HT3
            simp only [List.length_append, List.length_cons, List.length_nil] at hfit
            have hc2 : (⟨#[32, 32, 9]⟩ : ByteArray) ++ str (ws ++ [10]) = str ([32, 32, 9] ++ (ws ++ [10])) := str_app [32, 32, 9] (ws ++ [10])
            have hz2 : (⟨#[32, 32, 9]⟩ : ByteArray).size + (str (ws ++ [10])).size ≤ 9223372036854775807 := by rw [str_len, List.length_append, List.length_singleton]; show 3 + (ws.length + 1) ≤ _; omega
            have hc3 : str ([32, 32, 9] ++ (ws ++ [10])) ++ (⟨#[10, 59, 59, 10]⟩ : ByteArray) = str ([32, 32, 9] ++ (ws ++ [10]) ++ [10, 59, 59, 10]) := str_app _ [10, 59, 59, 10]
            have hz3 : (str ([32, 32, 9] ++ (ws ++ [10]))).size + (⟨#[10, 59, 59, 10]⟩ : ByteArray).size ≤ 9223372036854775807 := by rw [str_len]; simp only [List.length_append, List.length_cons, List.length_nil]; show _ + 4 ≤ _; omega
            have hc4 : str Q2 ++ str ([32, 32, 9] ++ (ws ++ [10]) ++ [10, 59, 59, 10]) = str (Q2 ++ ([32, 32, 9] ++ (ws ++ [10]) ++ [10, 59, 59, 10])) := str_app _ _
            have hz4 : (str Q2).size + (str ([32, 32, 9] ++ (ws ++ [10]) ++ [10, 59, 59, 10])).size ≤ 9223372036854775807 := by rw [str_len, str_len]; simp only [List.length_append, List.length_cons, List.length_nil]; omega
            generalize str (Q2 ++ ([32, 32, 9] ++ (ws ++ [10]) ++ [10, 59, 59, 10])) = t3 at *
            generalize str ([32, 32, 9] ++ (ws ++ [10]) ++ [10, 59, 59, 10]) = t2 at *
            generalize str ([32, 32, 9] ++ (ws ++ [10])) = t1 at *
            generalize str (ws ++ [10]) = sp at *
            generalize str Q1 = sq1 at *
            generalize str Q2 = sq2 at *
            clear hfit hm4 hm44
            go_wp2_with fail
            refine HPR.out.mono ?_
            intro e w3 h3
            obtain ⟨rfl, hb3⟩ := HP2.out e w3 h3
            have HW3 := Lib.hid (HB3.out.trans (hb3.mono HB3.out.size))
            clear h3 hb3
            go_wp2_with fail
            go_roundw
            case rel =>
              refine ⟨i + 1, by omega, by go_num, by rw [HS3.out], by rw [HT3.out], Lib.hid ⟨HW3.out, fun j x hj hx => ?_⟩⟩
              rcases Nat.lt_or_ge j i with h | h
              · exact HW.out.2 j x h hx
              · have e : j = i := by omega
                subst e
                rw [HXI.out] at hx; cases hx
                exact HOK.out
            case measure => simp [intOf]; omega
          · have z0 : ((m4 : Int) == 0) = false := beq_eq_false_iff_ne.2 (by omega)
            have z1 : ((m4 : Int) == 1) = true := beq_iff_eq.2 (by omega)
            have hfit := HB4.out
            rw [show pieceL m4 ws = [35, 32, 115, 101, 110, 100, 32, 123, 34, 91, 10] ++ (ws ++ [10]) by unfold pieceL; rw [if_neg (by omega), if_pos hm4]] at hfit HT3
            simp only [List.length_append, List.length_cons, List.length_nil] at hfit
            have hc2 : (⟨#[35, 32, 115, 101, 110, 100, 32, 123, 34, 91, 10]⟩ : ByteArray) ++ str (ws ++ [10]) = str ([35, 32, 115, 101, 110, 100, 32, 123, 34, 91, 10] ++ (ws ++ [10])) := str_app [35, 32, 115, 101, 110, 100, 32, 123, 34, 91, 10] (ws ++ [10])
            have hz2 : (⟨#[35, 32, 115, 101, 110, 100, 32, 123, 34, 91, 10]⟩ : ByteArray).size + (str (ws ++ [10])).size ≤ 9223372036854775807 := by rw [str_len, List.length_append, List.length_singleton]; show 11 + (ws.length + 1) ≤ _; omega
            have hc4 : str Q2 ++ str ([35, 32, 115, 101, 110, 100, 32, 123, 34, 91, 10] ++ (ws ++ [10])) = str (Q2 ++ ([35, 32, 115, 101, 110, 100, 32, 123, 34, 91, 10] ++ (ws ++ [10]))) := str_app _ _
            have hz4 : (str Q2).size + (str ([35, 32, 115, 101, 110, 100, 32, 123, 34, 91, 10] ++ (ws ++ [10]))).size ≤ 9223372036854775807 := by rw [str_len, str_len]; simp only [List.length_append, List.length_cons, List.length_nil]; omega
            generalize str (Q2 ++ ([35, 32, 115, 101, 110, 100, 32, 123, 34, 91, 10] ++ (ws ++ [10]))) = t3 at *
            generalize str ([35, 32, 115, 101, 110, 100, 32, 123, 34, 91, 10] ++ (ws ++ [10])) = t1 at *
            generalize str (ws ++ [10]) = sp at *
            generalize str Q1 = sq1 at *
            generalize str Q2 = sq2 at *
            clear hfit hm4 hm44
            go_wp2_with fail
            refine HPR.out.mono ?_
            intro e w3 h3
            obtain ⟨rfl, hb3⟩ := HP2.out e w3 h3
            have HW3 := Lib.hid (HB3.out.trans (hb3.mono HB3.out.size))
            clear h3 hb3
            go_wp2_with fail
            go_roundw
            case rel =>
              refine ⟨i + 1, by omega, by go_num, by rw [HS3.out], by rw [HT3.out], Lib.hid ⟨HW3.out, fun j x hj hx => ?_⟩⟩
              rcases Nat.lt_or_ge j i with h | h
              · exact HW.out.2 j x h hx
              · have e : j = i := by omega
                subst e
                rw [HXI.out] at hx; cases hx
                exact HOK.out
            case measure => simp [intOf]; omega
          · have z0 : ((m4 : Int) == 0) = false := beq_eq_false_iff_ne.2 (by omega)
            have z1 : ((m4 : Int) == 1) = false := beq_eq_false_iff_ne.2 (by omega)
            have z2 : ((m4 : Int) == 2) = true := beq_iff_eq.2 (by omega)
            have hfit := HB4.out
            rw [show pieceL m4 ws = ws ++ [9, 32, 59] by unfold pieceL; rw [if_neg (by omega), if_neg (by omega), if_pos hm4]] at hfit HT3
            simp only [List.length_append, List.length_cons, List.length_nil] at hfit
            have hrun := fun W => run_upto_str (ws ++ [10]) ws.length (by simp) W
            rw [List.take_left] at hrun
            have hc2 : str ws ++ (⟨#[9, 32, 59]⟩ : ByteArray) = str (ws ++ [9, 32, 59]) := str_app ws [9, 32, 59]
            have hz2 : (str ws).size + (⟨#[9, 32, 59]⟩ : ByteArray).size ≤ 9223372036854775807 := by rw [str_len]; show ws.length + 3 ≤ _; omega
            have hc4 : str Q2 ++ str (ws ++ [9, 32, 59]) = str (Q2 ++ (ws ++ [9, 32, 59])) := str_app _ _
            have hz4 : (str Q2).size + (str (ws ++ [9, 32, 59])).size ≤ 9223372036854775807 := by rw [str_len, str_len]; simp only [List.length_append, List.length_cons, List.length_nil]; omega
            generalize str (Q2 ++ (ws ++ [9, 32, 59])) = t3 at *
            generalize str (ws ++ [9, 32, 59]) = t2 at *
            generalize str (ws ++ [10]) = sp at *
            generalize str ws = sw at *
            generalize str Q1 = sq1 at *
            generalize str Q2 = sq2 at *
            clear hfit hm4 hm44
            go_wp2_with fail
            refine HPR.out.mono ?_
            intro e w3 h3
            obtain ⟨rfl, hb3⟩ := HP2.out e w3 h3
            have HW3 := Lib.hid (HB3.out.trans (hb3.mono HB3.out.size))
            clear h3 hb3
            go_wp2_with fail
            go_roundw
            case rel =>
              refine ⟨i + 1, by omega, by go_num, by rw [HS3.out], by rw [HT3.out], Lib.hid ⟨HW3.out, fun j x hj hx => ?_⟩⟩
              rcases Nat.lt_or_ge j i with h | h
              · exact HW.out.2 j x h hx
              · have e : j = i := by omega
                subst e
                rw [HXI.out] at hx; cases hx
                exact HOK.out
            case measure => simp [intOf]; omega
          · have z0 : ((m4 : Int) == 0) = false := beq_eq_false_iff_ne.2 (by omega)
            have z1 : ((m4 : Int) == 1) = false := beq_eq_false_iff_ne.2 (by omega)
            have z2 : ((m4 : Int) == 2) = false := beq_eq_false_iff_ne.2 (by omega)
            have hfit := HB4.out
            rw [show pieceL m4 ws = [59] ++ (ws ++ [10]) ++ [32, 9, 10] by unfold pieceL; rw [if_neg (by omega), if_neg (by omega), if_neg (by omega)]] at hfit HT3
            simp only [List.length_append, List.length_cons, List.length_nil] at hfit
            have hc2 : (⟨#[59]⟩ : ByteArray) ++ str (ws ++ [10]) = str ([59] ++ (ws ++ [10])) := str_app [59] (ws ++ [10])
            have hz2 : (⟨#[59]⟩ : ByteArray).size + (str (ws ++ [10])).size ≤ 9223372036854775807 := by rw [str_len, List.length_append, List.length_singleton]; show 1 + (ws.length + 1) ≤ _; omega
            have hc3 : str ([59] ++ (ws ++ [10])) ++ (⟨#[32, 9, 10]⟩ : ByteArray) = str ([59] ++ (ws ++ [10]) ++ [32, 9, 10]) := str_app _ [32, 9, 10]
            have hz3 : (str ([59] ++ (ws ++ [10]))).size + (⟨#[32, 9, 10]⟩ : ByteArray).size ≤ 9223372036854775807 := by rw [str_len]; simp only [List.length_append, List.length_cons, List.length_nil]; show _ + 3 ≤ _; omega
            have hc4 : str Q2 ++ str ([59] ++ (ws ++ [10]) ++ [32, 9, 10]) = str (Q2 ++ ([59] ++ (ws ++ [10]) ++ [32, 9, 10])) := str_app _ _
            have hz4 : (str Q2).size + (str ([59] ++ (ws ++ [10]) ++ [32, 9, 10])).size ≤ 9223372036854775807 := by rw [str_len, str_len]; simp only [List.length_append, List.length_cons, List.length_nil]; omega
            generalize str (Q2 ++ ([59] ++ (ws ++ [10]) ++ [32, 9, 10])) = t3 at *
            generalize str ([59] ++ (ws ++ [10]) ++ [32, 9, 10]) = t2 at *
            generalize str ([59] ++ (ws ++ [10])) = t1 at *
            generalize str (ws ++ [10]) = sp at *
            generalize str Q1 = sq1 at *
            generalize str Q2 = sq2 at *
            clear hfit hm4 hm44
            go_wp2_with fail
            refine HPR.out.mono ?_
            intro e w3 h3
            obtain ⟨rfl, hb3⟩ := HP2.out e w3 h3
            have HW3 := Lib.hid (HB3.out.trans (hb3.mono HB3.out.size))
            clear h3 hb3
            go_wp2_with fail
            go_roundw
            case rel =>
              refine ⟨i + 1, by omega, by go_num, by rw [HS3.out], by rw [HT3.out], Lib.hid ⟨HW3.out, fun j x hj hx => ?_⟩⟩
              rcases Nat.lt_or_ge j i with h | h
              · exact HW.out.2 j x h hx
              · have e : j = i := by omega
                subst e
                rw [HXI.out] at hx; cases hx
                exact HOK.out
            case measure => simp [intOf]; omega
        · have HNO := Lib.hid hok
          have HP2 : Hid (∀ e w', PrintTo ((wr.alloc (.cells #[.int .i64 c.at_, .slice A1 c.words.length k1] 39)).alloc (.cells #[.int .i64 c.at_, .slice A1 c.words.length k1] 39)) [c] e w' → e = .returned (.tuple #[.string ⟨#[]⟩, .int .i64 2]) ∧ Below ((wr.alloc (.cells #[.int .i64 c.at_, .slice A1 c.words.length k1] 39)).alloc (.cells #[.int .i64 c.at_, .slice A1 c.words.length k1] 39)).heap.size ((wr.alloc (.cells #[.int .i64 c.at_, .slice A1 c.words.length k1] 39)).alloc (.cells #[.int .i64 c.at_, .slice A1 c.words.length k1] 39)) w') := Lib.hid (by
            rintro e w' ⟨T, R, rfl, _, h1, hb⟩
            obtain ⟨rfl, rfl⟩ := h1 (fun h => HNO.out (h c (by simp)))
            exact ⟨by rw [str_nil], hb⟩)
          clear hok
          generalize str Q1 = sq1 at *
          generalize str Q2 = sq2 at *
          go_wp2_with fail
          refine HPR.out.mono ?_
          intro e w3 h3
          obtain ⟨rfl, hb3⟩ := HP2.out e w3 h3
          have HW3 := Lib.hid (HB3.out.trans (hb3.mono HB3.out.size))
          clear h3 hb3
          go_wp2_with fail
          go_ret
          exact ⟨rfl, HW3.out⟩
      · have r1 : decide ((i : Int) < (l.length : Int)) = false := decide_eq_false (by omega)
        have r1n : decide (i < l.length) = false := decide_eq_false hlt
        have hte : l.take i = l := List.take_of_length_le (by omega)
        rw [hte]
        have hok : ∀ c ∈ l, cmdOk c ∧ bytesC c := fun c hc => by
          obtain ⟨j, hj⟩ := List.getElem?_of_mem hc
          exact ⟨HW.out.2 j c (by have := (List.getElem?_eq_some_iff.1 hj).1; omega) hj, HB1.out c hc⟩
        obtain ⟨a, ha1, ha2, ha3⟩ := back_of (fun c hc => (hok c hc).1) HB1.out (by omega)
        obtain ⟨b, hb1, hb2⟩ := blT_parse how l 0 hok 0 []
        rw [List.nil_append] at hb2
        have hpl : (printT l).length ≤ 48000 := by have := printT_len l; omega
        have hbl : (blT how 0 l).length ≤ 100000 := by have := blT_len how l 0; omega
        have hbb : ∀ d ∈ blT how 0 l, d < 256 := blT_bytes how HB1.out
        have hb3 := parseR_ok (l := blT how 0 l) (by omega) hb2
        have hsm := parseR_small (blT how 0 l) hbb (by omega)
        rw [hb3] at hsm
        have HFA := Lib.hid ha3
        have HFB := Lib.hid (fit_of (l := b) (by have := hsm.1; dsimp only at this; omega) hsm.2.1)
        have HAB := Lib.hid (samesC_two ha2 hb1)
        have HAL := Lib.hid (show a.length = l.length from ((samesC_iff _ _).1 ha2).1.symm)
        have HPA : Hid (∀ W, Calls Try.prog 11 #[.string (str (printT l))] W fun r w' => ∃ v, r = .returned (.tuple #[v, .int .i64 0, .int .i64 0]) ∧ Cmds all w' v a ∧ Below W.heap.size W w') := Lib.hid (fun W => by
          refine (Parse_is (w := W) _ (printT_bytes HB1.out) (by omega)).mono ?_
          rintro r w' ⟨v, hr, hc, hb⟩
          rw [ha1] at hr hc
          exact ⟨v, hr, hc, hb⟩)
        have HPB : Hid (∀ W, Calls Try.prog 11 #[.string (str (blT how 0 l))] W fun r w' => ∃ v, r = .returned (.tuple #[v, .int .i64 0, .int .i64 0]) ∧ Cmds all w' v b ∧ Below W.heap.size W w') := Lib.hid (fun W => by
          refine (Parse_is (w := W) _ hbb (by omega)).mono ?_
          rintro r w' ⟨v, hr, hc, hb⟩
          rw [hb3] at hr hc
          exact ⟨v, hr, hc, hb⟩)
        clear hte hok ha1 ha2 ha3 hb1 hb2 hb3 hpl hbl hbb hsm hlt
        generalize str (printT l) = sq1 at *
        generalize str (blT how 0 l) = sq2 at *
        go_wp2_with fail
        refine (HPA.out wr).mono ?_
        rintro e w4 ⟨v4, rfl, hc4, hb4⟩
        have X4 := Lib.hid (And.intro hc4 (HW.out.1.trans (hb4.mono HW.out.1.size)))
        clear hc4 hb4
        go_wp2_with fail
        refine (HPB.out w4).mono ?_
        rintro e w5 ⟨v5, rfl, hc5, hb5⟩
        have X5 := Lib.hid (And.intro (SlI.below cmd_ok X4.out.1 hb5) (And.intro hc5 (X4.out.2.trans (hb5.mono X4.out.2.size))))
        clear hc5 hb5
        obtain ⟨A4, c4, hv4, _⟩ := X5.out.1.form
        subst hv4
        go_wp2_with fail
        refine (Same_is a b X5.out.1 X5.out.2.1 HFA.out HFB.out).mono ?_
        intro e w6 h6
        obtain ⟨rfl, hb6⟩ := h6.yes HAB.out
        have X6 := Lib.hid (X5.out.2.2.trans (hb6.mono X5.out.2.2.size))
        clear h6 hb6
        have qal : ((a.length : Int) == (l.length : Int)) = true := beq_iff_eq.2 (by have := HAL.out; omega)
        go_wp2_with fail
        go_ret
        exact ⟨rfl, X6.out⟩
end Go.Proofs.Ytphmhglebeapaaa
