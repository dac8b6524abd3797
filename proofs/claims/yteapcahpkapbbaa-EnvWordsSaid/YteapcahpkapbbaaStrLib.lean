/-
  strings.Clone and IndexRune over ASCII strings; a name's runes.
  Conditions: those of each theorem.
-/
import Derived.Test.YteapcahpkapbbaaBld
import Derived.Test.YteapcahpkapbbaaIdxB
import Derived.Test.YteapcahpkapbbaaStrMid
import Derived.Test.YteapcahpkapbbaaQMath
import Derived.Laws.Runes
import Derived.Lib.OthersKept
import Derived.Laws.MakeOwn
import Derived.Lib.BufferWrite
import Derived.WalkMore
import Derived.Deep.QuietTactic
import Derived.BigQuiet
namespace Go.Proofs.Yteapcahpkapbbaa
open Go.RowKit

theorem drewN_bel (W : World) (n : Nat) : Below W.heap.size W (W.drewN n) := ⟨rfl, rfl, rfl, Nat.le_refl _, fun _ _ => rfl⟩
theorem str_list (l : List Nat) : (str l).data.toList = l.map fun c => UInt8.ofNat c := by
  rw [← str_toList]
theorem any_mem {m : List Nat} (hm : ∀ d ∈ m, d < 256) {c : Nat} (hc : c < 256) : (m.map fun c => UInt8.ofNat c).any (· == UInt8.ofNat c) = decide (c ∈ m) := by
  induction m with
  | nil => rfl
  | cons a m ih =>
    rw [List.map_cons, List.any_cons, ih fun d hd => hm d (List.mem_cons_of_mem _ hd), u8_beq (hm a (by simp)) hc, Bool.eq_iff_iff]
    simp only [Bool.or_eq_true, decide_eq_true_eq, List.mem_cons]
    exact or_congr eq_comm Iff.rfl
theorem idx_mem {m : List Nat} (hm : ∀ d ∈ m, d < 256) {c : Nat} (hc : c < 256) : decide (0 ≤ Lib.indexByte (str m).data.toList (UInt8.ofNat c)) = decide (c ∈ m) := by
  rw [str_list, ← any_mem hm hc]
  have h := idx_neg (m.map fun c => UInt8.ofNat c) (UInt8.ofNat c)
  by_cases h0 : Lib.indexByte (m.map fun c => UInt8.ofNat c) (UInt8.ofNat c) < 0
  · rw [decide_eq_true h0] at h
    rw [decide_eq_false (by omega)]
    generalize (m.map fun c => UInt8.ofNat c).any (· == UInt8.ofNat c) = x at *
    revert h; cases x <;> simp
  · rw [decide_eq_false h0] at h
    rw [decide_eq_true (by omega)]
    generalize (m.map fun c => UInt8.ofNat c).any (· == UInt8.ofNat c) = x at *
    revert h; cases x <;> simp
/-! ### A copy -/
theorem byte_cells_str {l : List Nat} (hl : ∀ c ∈ l, c < 256) : Lib.byteCells (str l).data.toList = bv l := by
  rw [str_list]
  unfold Lib.byteCells bv
  rw [List.map_map]
  refine List.map_congr_left fun c hc => ?_
  have := hl c hc
  simp; omega
set_option maxRecDepth 100000 in
set_option maxHeartbeats 2000000 in
theorem slClone_is (l : List Nat) (hl : ∀ c ∈ l, c < 256) (hn : l.length ≤ 140737488351232) (w : World) :
    Calls Try.prog 35 #[.string (str l)] w fun e w' => e = .returned (.string (str l)) ∧ Below w.heap.size w w' := by
  have hsz := str_len l
  by_cases h0 : l.length = 0
  · obtain rfl := List.length_eq_zero_iff.1 h0
    rw [str_nil] at *
    clear h0
    go_enter Try.func35, Try.ntmps35
    go_wp2
    go_ret
    exact ⟨rfl, Below.refl _ _⟩
  · obtain ⟨i0, hi, hz0, hz1, hz2⟩ := info_parts byte_info
    have hinfo : (Try.prog.info? 5).map (·.size) = some 1 := by rw [hi]; simp [hz1]
    have hbc := byte_cells_str hl
    have hL := str_list l
    obtain ⟨n, hn'⟩ : ∃ n, n = l.length := ⟨_, rfl⟩
    rw [← hn'] at hsz h0 hn
    obtain ⟨M, hM⟩ : ∃ M, M = madeCells (Value.int .u8 0).cells (((n : Nat) : Int).toNat * i0.size) := ⟨_, rfl⟩
    have hMs : M.size = n := by rw [hM, size_madeCells, hz1]; simp
    have hmk : ∀ W : World, (Instr.makeSlice 59 (.int .i64 (n : Int)) (.int .i64 (n : Int))).run Try.prog W = .ok (.slice (some ⟨W.heap.size, 0, none⟩) n n) (W.alloc (.cells M 5)) := fun W => by
      have h := run_make (P := Try.prog) W 59 5 i0 (.int .u8 0) Try.underlying59 hi hz0 .i64 .i64 (n : Int) (n : Int) (by omega) (by omega) (by rw [hz2]; omega) (by omega)
      rw [← hM] at h
      simpa using h
    clear hM
    have hcp := Lib.run_copy_row_string (P := Try.prog) (w.alloc (.cells M 5)) 59 9 3 5 w.heap.size 0 n n (str l) M 5 Try.underlying59 hinfo (heap_alloc_new w _) (by omega) (by omega)
    rw [hbc, hsz, List.take_zero, List.nil_append, List.drop_of_length_le (by rw [Array.length_toList]; omega), List.append_nil] at hcp
    have hgY : ((w.alloc (.cells M 5)).setRow w.heap.size (bv l).toArray).heap[w.heap.size]? = some (.cells (bv l).toArray 5 (0, 0)) := setRow_heap _ _ M _ 5 (0, 0) (heap_alloc_new w _)
    have hUS : (Builtin.unsafeString_ #[87, 3] 9 #[.pointer (some ⟨w.heap.size, 0, none⟩), .int .i64 (n : Nat)]).run Try.prog ((w.alloc (.cells M 5)).setRow w.heap.size (bv l).toArray) = .ok (.string (str l)) (((w.alloc (.cells M 5)).setRow w.heap.size (bv l).toArray).freeze ⟨w.heap.size, 0, none⟩ n) := by
      have := run_uString (P := Try.prog) ((w.alloc (.cells M 5)).setRow w.heap.size (bv l).toArray) 87 3 9 5 Try.underlying87 byte_cells w.heap.size 0 (bv l).toArray.size (by unfold World.shape?; rw [hgY]) (l.map fun c => UInt8.ofNat c) (by intro e; simp at e; rw [e] at hn'; exact h0 hn') (by simp [bv]) (by rw [List.length_map]; omega) (fun j x hj => by
        rw [List.getElem?_map] at hj
        obtain ⟨d, hd, rfl⟩ := Option.map_eq_some_iff.1 hj
        rw [add_eq, cell_of_row _ w.heap.size (0 + j) _ _ (0, 0) hgY, Nat.zero_add, ← Array.getElem?_toList, List.toList_toArray, bv_at, hd]
        have := hl d (List.mem_of_getElem? hd)
        simp; omega)
      rw [List.length_map, str_toList, ← hn'] at this
      exact this
    have hb1 : Below w.heap.size w (w.alloc (.cells M 5)) := (Below.refl _ w).alloc (Nat.le_refl _) _
    have hb2 : Below w.heap.size (w.alloc (.cells M 5)) ((w.alloc (.cells M 5)).setRow w.heap.size (bv l).toArray) := ⟨rfl, rfl, rfl, by simp, fun k hk => setRow_other _ _ _ _ (by omega)⟩
    have HB := Lib.hid (Lib.below_freeze (hb1.trans hb2) (p := ⟨w.heap.size, 0, none⟩) (Nat.le_refl _) n)
    clear hbc hL hn' hl hb1 hb2 hgY hMs hz0 hz1 hz2 hi hinfo
    generalize World.setRow (w.alloc (.cells M 5)) w.heap.size (bv l).toArray = W2 at *
    generalize str l = s at *
    have h1 : ((n : Int) == 0) = false := beq_eq_false_iff_ne.2 (by omega)
    have h2 : (n = 0) = False := eq_false h0
    have h3 : 0 < n := by omega
    go_enter Try.func35, Try.ntmps35
    go_wp2
    go_ret
    exact ⟨rfl, HB.out⟩
set_option maxRecDepth 100000 in
set_option maxHeartbeats 2000000 in
theorem strClone_is (l : List Nat) (hl : ∀ c ∈ l, c < 256) (hn : l.length ≤ 140737488351232) (w : World) :
    Calls Try.prog 24 #[.string (str l)] w fun e w' => e = .returned (.string (str l)) ∧ Below w.heap.size w w' := by
  have HC := Lib.hid (slClone_is l hl hn w)
  generalize str l = s at *
  clear hl hn
  go_enter Try.func24, Try.ntmps24
  go_wp2_with fail
  refine HC.out.mono ?_
  rintro e w1 ⟨rfl, hb⟩
  have HB := Lib.hid hb
  clear hb
  go_wp2_with fail
  go_ret
  exact ⟨rfl, HB.out⟩

/-! ### Runes that are looked for among ASCII bytes -/
set_option maxRecDepth 100000 in
set_option maxHeartbeats 1000000 in
theorem ValidRune_is (r : Int) (h0 : 0 ≤ r) (w : World) : Calls Try.prog 50 #[.int .i32 r] w fun e w' => e = .returned (.bool (Utf8.valid r)) ∧ w = w' := by
  have HV := Lib.hid (validRune_eq r)
  have q0 : decide (0 ≤ r) = true := decide_eq_true h0
  by_cases h1 : r < 55296
  · have q1 : decide (r < 55296) = true := decide_eq_true h1
    have HT : Hid (Utf8.valid r = true) := Lib.hid (by rw [HV.out]; unfold validRune; simp; omega)
    clear h1
    go_enter Try.func50, Try.ntmps50
    go_wp2
    go_ret
    exact ⟨by rw [HT.out]; rfl, rfl⟩
  · have q1 : decide (r < 55296) = false := decide_eq_false h1
    by_cases h2 : 57343 < r
    · have q2 : decide (57343 < r) = true := decide_eq_true h2
      by_cases h3 : r ≤ 1114111
      · have q3 : decide (r ≤ 1114111) = true := decide_eq_true h3
        have HT : Hid (Utf8.valid r = true) := Lib.hid (by rw [HV.out]; unfold validRune; simp; omega)
        clear h1 h2 h3
        go_enter Try.func50, Try.ntmps50
        go_wp2
        go_ret
        exact ⟨by rw [HT.out]; rfl, rfl⟩
      · have q3 : decide (r ≤ 1114111) = false := decide_eq_false h3
        have HT : Hid (Utf8.valid r = false) := Lib.hid (by rw [HV.out]; unfold validRune; simp; omega)
        clear h1 h2 h3
        go_enter Try.func50, Try.ntmps50
        go_wp2
        go_ret
        exact ⟨by rw [HT.out]; rfl, rfl⟩
    · have q2 : decide (57343 < r) = false := decide_eq_false h2
      have HT : Hid (Utf8.valid r = false) := Lib.hid (by rw [HV.out]; unfold validRune; simp; omega)
      clear h1 h2
      go_enter Try.func50, Try.ntmps50
      go_wp2
      go_ret
      exact ⟨by rw [HT.out]; rfl, rfl⟩
/-- A string of ASCII bytes. -/
def Asc (s : ByteArray) : Prop := ∀ b ∈ s.data.toList, b.toNat < 128
theorem Asc.at_ {s : ByteArray} (h : Asc s) {k : Nat} (hk : k < s.size) : (s[k]'hk).toNat < 128 := h _ (Array.getElem_mem_toList (xs := s.data) hk)
theorem idx_asc {s : ByteArray} (h : Asc s) (k : Nat) {c : UInt8} (hc : 128 ≤ c.toNat) : Lib.indexByte (s.extract k s.size).data.toList c = -1 := by
  have hx : ∀ b ∈ (s.extract k s.size).data.toList, b.toNat < 128 := fun b hb => h b (mem_extract hb)
  generalize (s.extract k s.size).data.toList = m at *
  induction m with
  | nil => rfl
  | cons a m ih =>
    have ha := hx a (by simp)
    have hne : (a == c) = false := by
      rw [beq_eq_false_iff_ne]; rintro rfl; omega
    unfold Lib.indexByte
    rw [hne, ih fun b hb => hx b (List.mem_cons_of_mem _ hb)]
    rfl
/-- Where a rune stands. -/
def runeAt (s : ByteArray) (r : Int) : Int := if r < 128 then Lib.indexByte s.data.toList r.toNat.toUInt8 else -1
set_option maxRecDepth 100000 in
set_option maxHeartbeats 4000000 in
theorem IndexRune_is (s : ByteArray) (hs : Asc s) (h4 : 4 ≤ s.size) (hn : s.size ≤ 281474976710656) (r : Int) (h0 : 0 ≤ r) (w : World) :
    Calls Try.prog 42 #[.string s, .int .i32 r] w fun e w' => e = .returned (.int .i64 (runeAt s r)) ∧ Below w.heap.size w w' := by
  have q0 : decide (0 ≤ r) = true := decide_eq_true h0
  by_cases h1 : r < 128
  · have q1 : decide (r < 128) = true := decide_eq_true h1
    have hw : IntKind.u8.wrap r = r := by unfold IntKind.wrap; simp [IntKind.bits, IntKind.signed]; omega
    have hm : r % 256 = r := by omega
    have HI : Hid (Calls Try.prog 49 #[.string s, .int .u8 r] w fun e w' => e = .returned (.int .i64 (runeAt s r)) ∧ w = w') := Lib.hid (by unfold runeAt; rw [if_pos h1]; exact IndexByte_is s r w)
    clear h1 hs
    go_enter Try.func42, Try.ntmps42
    go_wp2_with fail
    refine HI.out.mono ?_
    rintro e w1 ⟨rfl, rfl⟩
    go_wp2_with fail
    go_ret
    exact ⟨rfl, Below.refl _ _⟩
  · have q1 : decide (r < 128) = false := decide_eq_false h1
    have HR : Hid (runeAt s r = -1) := Lib.hid (by unfold runeAt; rw [if_neg h1])
    have HA := Lib.hid hs
    by_cases h2 : r = 65533
    · have q2 : (r == 65533) = true := beq_iff_eq.2 h2
      clear h1 hs h2
      go_enter Try.func42, Try.ntmps42
      go_wp2_with fail
      go_loopw [] (fun wr => ∃ i : Nat, i ≤ s.size ∧ wr.heap[w.heap.size]? = some (.stringIter s i) ∧ Hid (Below w.heap.size w wr)) (fun wr => s.size - wr.iterPos w.heap.size)
      case atStart => exact ⟨0, by omega, World.iter_heap w s 0, Lib.hid ((Below.refl _ w).alloc (Nat.le_refl _) _)⟩
      case round =>
        obtain ⟨i, hi, hit, HB⟩ := hrel
        have hpos : wr.iterPos w.heap.size = i := by simp [World.iterPos, hit]
        by_cases hlt : i < s.size
        · have ha := HA.out.at_ hlt
          have hnx := fun ty => Lib.run_next_ascii_at (P := Try.prog) wr w.heap.size s i ty hit hlt ha
          obtain ⟨d, hd⟩ : ∃ d : Nat, d = (s[i]'hlt).toNat := ⟨_, rfl⟩
          rw [← hd] at hnx ha
          have q3 : ((d : Int) == 65533) = false := beq_eq_false_iff_ne.2 (by omega)
          have hit2 := Lib.iterAt_heap wr w.heap.size s i (i + 1) hit
          have HB2 := Lib.hid (Lib.below_iterAt HB.out (Nat.le_refl _) s (i + 1))
          have hpos2 : (wr.iterAt w.heap.size s (i + 1)).iterPos w.heap.size = i + 1 := by simp [World.iterPos, hit2]
          clear hd
          go_wp2_with fail
          go_roundw
          case rel => exact ⟨i + 1, by omega, hit2, HB2⟩
          case measure => rw [hpos, hpos2]; omega
        · have hnx := fun ty => Lib.run_next_end_at (P := Try.prog) wr w.heap.size s i ty hit hlt
          go_wp2_with fail
          go_ret
          exact ⟨by rw [HR.out]; rfl, HB.out⟩
    · have q2 : (r == 65533) = false := beq_eq_false_iff_ne.2 h2
      have HV := Lib.hid (ValidRune_is r h0 w)
      cases hv : Utf8.valid r with
      | false =>
        rw [hv] at HV
        clear h1 hs h2 hv
        go_enter Try.func42, Try.ntmps42
        go_wp2_with fail
        refine HV.out.mono ?_
        rintro e w1 ⟨rfl, rfl⟩
        go_wp2_with fail
        go_ret
        exact ⟨by rw [HR.out]; rfl, Below.refl _ _⟩
      | true =>
        rw [hv] at HV
        obtain ⟨e1, e2, e3⟩ := encode_facts r hv (by omega)
        have hconv : ∀ W, (convert 21 9 (.int .i32 r)).run Try.prog W = .ok (.string (Utf8.encode r)) W := fun W => run_convert_int_string (P := Try.prog) W 21 9 .i32 r (by rw [Try.underlying21]; rfl) Try.underlying9
        generalize Utf8.encode r = rs at *
        obtain ⟨m, hm⟩ : ∃ m, rs.size = m + 1 := ⟨rs.size - 1, by omega⟩
        have hml : m < rs.size := by omega
        have hms : m < s.size := by omega
        have hx : 128 ≤ (rs[m]'hml).toNat := by
          have := e3 (by omega)
          simpa [hm] using this
        have hy := hs.at_ hms
        have HI : Hid (∀ W, Calls Try.prog 49 #[.string (s.extract (m + 1) s.size), .int .u8 ((rs[m]'hml).toNat : Nat)] W fun e w' => e = .returned (.int .i64 (-1)) ∧ W = w') := Lib.hid fun W => by
          have := IndexByte_is (s.extract (m + 1) s.size) ((rs[m]'hml).toNat : Nat) W
          rw [show ((((rs[m]'hml).toNat : Nat) : Int).toNat.toUInt8) = rs[m]'hml by simp, idx_asc hs _ hx] at this
          exact this
        obtain ⟨dx, hdx⟩ : ∃ d : Nat, (rs[m]'hml).toNat = d := ⟨_, rfl⟩
        obtain ⟨dy, hdy⟩ : ∃ d : Nat, (s[m]'hms).toNat = d := ⟨_, rfl⟩
        rw [hdx] at HI hx
        rw [hdy] at hy
        have q3 : ((dy : Int) != (dx : Int)) = true := by simp; omega
        have hrun : ∀ W, (Instr.slice 9 (.string s) (some (.int .i64 ((m : Int) + 1))) none none).run Try.prog W = .ok (.string (s.extract (m + 1) s.size)) W := fun W => by
          have := run_slice_string_l (P := Try.prog) W 9 s Try.underlying9 .i64 ((m : Int) + 1) (by omega) (by omega)
          simpa using this
        generalize s.extract (m + 1) s.size = sx at *
        clear h1 hs h2 hv e3
        go_enter Try.func42, Try.ntmps42
        go_wp2_with fail
        refine HV.out.mono ?_
        rintro e w1 ⟨rfl, rfl⟩
        go_wp2_with fail
        go_step3
        go_wp2_with fail
        go_loop [9, 10] (fun i f => i = .int .i64 (m : Nat) ∧ f = .int .i64 0) (fun _ _ => 0)
        case atStart => exact ⟨by go_num, rfl⟩
        case round =>
          obtain ⟨rfl, rfl⟩ := hrel
          go_wp2_with fail
          go_step3
          go_wp2_with fail
          go_quiet (fail)
          have HB2 := Lib.hid (drewN_bel w nq)
          generalize hw2 : w.drewN nq = w2 at *
          have HI2 : Hid (∀ n, Calls Try.prog 49 #[.string sx, .int .u8 (dx : Nat)] (w2.drewN n) fun e w' => e = .returned (.int .i64 (-1)) ∧ ∃ m, w' = w2.drewN m) := Lib.hid fun n => (HI.out _).mono fun _ _ h => ⟨h.1, n, h.2.symm⟩
          go_wp2_with fail
          go_quiet ((go_at_call 49; exact HI2.out _))
          have HB3 := Lib.hid (HB2.out.trans ((drewN_bel w2 nq).mono HB2.out.size))
          generalize w2.drewN _ = w3 at *
          go_wp2_with fail
          rw [Exit.noGoto_ret]
          go_wp2_with fail
          try rw [Exit.noGoto_ret]
          go_ret
          exact ⟨by rw [HR.out]; rfl, HB3.out⟩

/-! ### A name's runes -/
theorem named_data : (⟨#[65, 66, 67, 68, 69, 70, 71, 72, 73, 74, 75, 76, 77, 78, 79, 80, 81, 82, 83, 84, 85, 86, 87, 88, 89, 90, 97, 98, 99, 100, 101, 102, 103, 104, 105, 106, 107, 108, 109, 110, 111, 112, 113, 114, 115, 116, 117, 118, 119, 120, 121, 122, 48, 49, 50, 51, 52, 53, 54, 55, 56, 57, 95]⟩ : ByteArray) = str ((List.range 26).map (65 + ·) ++ (List.range 26).map (97 + ·) ++ (List.range 10).map (48 + ·) ++ [95]) := rfl
theorem named_mem (c : Nat) : decide (c ∈ (List.range 26).map (65 + ·) ++ (List.range 26).map (97 + ·) ++ (List.range 10).map (48 + ·) ++ [95]) = nameB c := by
  rw [Bool.eq_iff_iff]
  simp only [nameB, List.mem_append, List.mem_map, List.mem_range, List.mem_singleton, decide_eq_true_eq]
  constructor
  · rintro (((⟨a, h, rfl⟩ | ⟨a, h, rfl⟩) | ⟨a, h, rfl⟩) | rfl) <;> omega
  · rintro (h | h | h | h)
    · exact .inl (.inl (.inl ⟨c - 65, by omega, by omega⟩))
    · exact .inl (.inl (.inr ⟨c - 97, by omega, by omega⟩))
    · exact .inl (.inr ⟨c - 48, by omega, by omega⟩)
    · exact .inr h
theorem named_lt : ∀ d ∈ (List.range 26).map (65 + ·) ++ (List.range 26).map (97 + ·) ++ (List.range 10).map (48 + ·) ++ [95], d < 128 := by
  intro d hd
  have : nameB d = true := by rw [← named_mem, decide_eq_true hd]
  simp only [nameB, decide_eq_true_eq] at this
  omega
theorem named_asc : Asc ⟨#[65, 66, 67, 68, 69, 70, 71, 72, 73, 74, 75, 76, 77, 78, 79, 80, 81, 82, 83, 84, 85, 86, 87, 88, 89, 90, 97, 98, 99, 100, 101, 102, 103, 104, 105, 106, 107, 108, 109, 110, 111, 112, 113, 114, 115, 116, 117, 118, 119, 120, 121, 122, 48, 49, 50, 51, 52, 53, 54, 55, 56, 57, 95]⟩ := by
  rw [named_data]
  intro b hb
  rw [str_list] at hb
  obtain ⟨d, hd, rfl⟩ := List.mem_map.1 hb
  have := named_lt d hd
  simp; omega
/-- A rune that may stand in a name. -/
def runeB (r : Int) : Bool := decide (r < 128) && nameB r.toNat
theorem named_at (r : Int) (h0 : 0 ≤ r) : decide (0 ≤ runeAt ⟨#[65, 66, 67, 68, 69, 70, 71, 72, 73, 74, 75, 76, 77, 78, 79, 80, 81, 82, 83, 84, 85, 86, 87, 88, 89, 90, 97, 98, 99, 100, 101, 102, 103, 104, 105, 106, 107, 108, 109, 110, 111, 112, 113, 114, 115, 116, 117, 118, 119, 120, 121, 122, 48, 49, 50, 51, 52, 53, 54, 55, 56, 57, 95]⟩ r) = runeB r := by
  unfold runeAt runeB
  by_cases h : r < 128
  · rw [if_pos h, named_data, decide_eq_true h, Bool.true_and, ← named_mem]
    exact idx_mem (fun d hd => by have := named_lt d hd; omega) (by omega)
  · rw [if_neg h, decide_eq_false h]; rfl
theorem run_till_str (l : List Nat) (k : Nat) (hk : k ≤ l.length) (W : World) : (Instr.slice 9 (.string (str l)) none (some (.int .i64 (k : Nat))) none).run Try.prog W = .ok (.string (str (l.take k))) W := by
  have hs := str_len l
  rw [run_slice_string_h (P := Try.prog) W 9 (str l) Try.underlying9 .i64 (k : Nat) (by omega) (by omega), Int.toNat_natCast]
  exact congrArg (fun s => Result.ok (Value.string s) W) (str_take l k)
set_option maxRecDepth 100000 in
set_option maxHeartbeats 1000000 in
/-- ContainsRune, of a name's runes. -/
theorem ContainsNamed_is (r : Int) (h0 : 0 ≤ r) (w : World) : Calls Try.prog 34 #[.string ⟨#[65, 66, 67, 68, 69, 70, 71, 72, 73, 74, 75, 76, 77, 78, 79, 80, 81, 82, 83, 84, 85, 86, 87, 88, 89, 90, 97, 98, 99, 100, 101, 102, 103, 104, 105, 106, 107, 108, 109, 110, 111, 112, 113, 114, 115, 116, 117, 118, 119, 120, 121, 122, 48, 49, 50, 51, 52, 53, 54, 55, 56, 57, 95]⟩, .int .i32 r] w fun e w' => e = .returned (.bool (runeB r)) ∧ Below w.heap.size w w' := by
  have HR := Lib.hid (named_at r h0)
  have HI := Lib.hid (IndexRune_is _ named_asc (show 4 ≤ 63 by omega) (show 63 ≤ 281474976710656 by omega) r h0 w)
  generalize runeAt _ r = z at *
  go_enter Try.func34, Try.ntmps34
  go_wp2_with fail
  refine HI.out.mono ?_
  rintro e w1 ⟨rfl, hb⟩
  have HB := Lib.hid hb
  clear hb
  go_wp2_with fail
  go_ret
  exact ⟨by rw [← HR.out]; rfl, HB.out⟩
end Go.Proofs.Yteapcahpkapbbaa
