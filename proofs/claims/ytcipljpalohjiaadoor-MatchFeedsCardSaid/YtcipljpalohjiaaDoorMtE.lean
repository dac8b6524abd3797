/-
  The matcher in memory: lookFor, tell, Reset, Start, Feed, New, First.
  Conditions: those of each theorem.
-/
import Derived.Test.YtcipljpalohjiaaDoorMtC
import Derived.Test.YtcipljpalohjiaaDoorMtD
import Derived.Laws.StructEq
import Derived.Test.YtcipljpalohjiaaDoorBy
namespace Go.Proofs.YtcipljpalohjiaaDoor
open Go.RowKit

/-- A hit, as it is told. -/
def hitG (k : Option (Nat × Nat)) (e : Nat) : Value := match k with | some (i, f) => .agg #[.int .i64 ((i : Nat) : Int), .int .i64 ((f : Nat) : Int), .int .i64 ((e : Nat) : Int)] | none => .agg #[.int .i64 0, .int .i64 0, .int .i64 0]
def hitE (k : Option (Nat × Nat)) (e : Nat) : Value := .tuple #[hitG k e, .bool k.isSome]
def hA (k : Option (Nat × Nat)) : Int := match k with | some (i, _) => ((i : Nat) : Int) | none => 0
def hB (k : Option (Nat × Nat)) : Int := match k with | some (_, f) => ((f : Nat) : Int) | none => 0
def hT (k : Option (Nat × Nat)) (e : Nat) : Int := match k with | some _ => ((e : Nat) : Int) | none => 0
def hitC (k : Option (Nat × Nat)) (e : Nat) : Array Value := #[.int .i64 (hA k), .int .i64 (hB k), .int .i64 (hT k e)]
theorem hit_agg (k : Option (Nat × Nat)) (e : Nat) : hitG k e = .agg (hitC k e) := by cases k <;> rfl

def orHit (k r : Option (Nat × Nat)) : Option (Nat × Nat) := match k with | some q => some q | none => r

/-- What a branch looks with. -/
def LookT (v : Value) (x : Brc) (n : Nat) (came : Option (List Nat)) : Thing := fun F W => NevT v x n F W ∨ ExT v x n came F W ∨ RowT v x n came F W ∨ GloT v x n came F W
theorem look_framed (v : Value) (x : Brc) (n : Nat) (came : Option (List Nat)) : Framed (LookT v x n came) := by
  constructor
  · rintro F S w w' (h | h | h | h) ho hd
    · exact .inl ((nev_framed _ _ _).only h ho hd)
    · exact .inr (.inl ((ex_framed _ _ _ _).only h ho hd))
    · exact .inr (.inr (.inl ((row_framed _ _ _ _).only h ho hd)))
    · exact .inr (.inr (.inr ((glo_framed _ _ _ _).only h ho hd)))
  · rintro F w (h | h | h | h)
    · exact (nev_framed _ _ _).lt h
    · exact (ex_framed _ _ _ _).lt h
    · exact (row_framed _ _ _ _).lt h
    · exact (glo_framed _ _ _ _).lt h
theorem LookT.val {F : Nat → Prop} {W : World} {v : Value} {x : Brc} {n : Nat} {came : Option (List Nat)} (h : LookT v x n came F W) : ∃ fn f c, v = .func fn f c := by
  rcases h with h | ⟨_, _, _, _, h⟩ | ⟨_, _, _, _, _, _, h⟩ | ⟨_, _, _, _, _, _, _, _, _, _, _, _, _, _, _, _, h⟩
  · exact ⟨_, _, _, h.2.1⟩
  · exact ⟨_, _, _, h.val⟩
  · exact ⟨_, _, _, h.val⟩
  · exact ⟨_, _, _, h.val⟩
theorem LookTo.mono {T T' : Thing} {n : Nat} {x : Brc} {b : List Nat} {F : Nat → Prop} {w w' : World} {e : Ending} (h : LookTo T n x b F w e w') (k : ∀ G, T G w' → T' G w') : LookTo T' n x b F w e w' := by
  obtain ⟨z, h1, h2, h3⟩ := h
  exact ⟨z, h1, h2, h3.imp k⟩

abbrev VB := Value × Brc
def lks (K : List VB) (n : Nat) (came : Option (List Nat)) : List Thing := K.map fun p => LookT p.1 p.2 n came
theorem lks_framed (K : List VB) (n : Nat) (came : Option (List Nat)) : ∀ Q ∈ lks K n came, Framed Q := by
  intro Q hQ
  obtain ⟨p, _, rfl⟩ := List.mem_map.1 hQ
  exact look_framed _ _ _ _
/-- The first i have turned. -/
def mix (K : List VB) (n : Nat) (c1 c0 : Option (List Nat)) (i : Nat) : List Thing := lks (K.take i) n c1 ++ lks (K.drop i) n c0
theorem mix_framed (K : List VB) (n : Nat) (c1 c0 : Option (List Nat)) (i : Nat) : ∀ Q ∈ mix K n c1 c0 i, Framed Q := by
  intro Q hQ
  rcases List.mem_append.1 hQ with h | h
  · exact lks_framed _ _ _ Q h
  · exact lks_framed _ _ _ Q h
theorem mix_at {K : List VB} {n : Nat} {c1 c0 : Option (List Nat)} {i : Nat} {p : VB} (h : K[i]? = some p) : (mix K n c1 c0 i)[i]? = some (LookT p.1 p.2 n c0) ∧ (mix K n c1 c0 i).set i (LookT p.1 p.2 n c1) = mix K n c1 c0 (i + 1) := by
  have hi := (List.getElem?_eq_some_iff.1 h).1
  have l1 : (lks (K.take i) n c1).length = i := by rw [lks, List.length_map, List.length_take]; omega
  have e : lks (K.drop i) n c0 = LookT p.1 p.2 n c0 :: lks (K.drop (i + 1)) n c0 := by
    rw [List.drop_eq_getElem_cons hi, (List.getElem?_eq_some_iff.1 h).2]; rfl
  have e2 : lks (K.take (i + 1)) n c1 = lks (K.take i) n c1 ++ [LookT p.1 p.2 n c1] := by
    rw [List.take_add_one, h]; simp [lks]
  unfold mix
  rw [e, e2]
  constructor
  · rw [List.getElem?_append_right (by omega), l1, Nat.sub_self]; rfl
  · rw [List.set_append_right _ _ (by omega), l1, Nat.sub_self]
    simp

/-- A matcher's struct and its looks' row. -/
def MtK (b m : Nat) (st : Option (Nat × Nat)) (K : List VB) : Thing := fun F W => (∀ x, F x → x < W.heap.size) ∧ F b ∧ ∃ A c g, Blk W b 53 #[.slice A K.length c, .int .i64 (m : Nat), .int .i64 (hA st), .int .i64 (hB st), .int .i64 (hT st 0), .bool st.isSome] ∧ Row W 55 g (.slice A K.length c) (K.map Prod.fst) ∧ ∀ x, g = some x → F x
theorem mtK_framed (b m : Nat) (st : Option (Nat × Nat)) (K : List VB) : Framed (MtK b m st K) := by
  constructor
  · rintro F S w w' ⟨hl, hb, A, c, g, h1, h2, h3⟩ ho hd
    exact ⟨fun x hx => Nat.lt_of_lt_of_le (hl x hx) ho.size, hb, A, c, g, h1.only ho (hd b hb), h2.only ho fun x e => hd x (h3 x e), h3⟩
  · rintro F w ⟨hl, _⟩; exact hl

/-- What has turned since w, where one block was made first that is none of it. -/
def TurnX (Q : Thing) (B : Nat → Prop) (w w1 wr : World) : Prop := ∃ B', Q B' wr ∧ Only B w wr ∧ (∀ b, B' b → B b ∨ w1.heap.size ≤ b) ∧ w1.heap.size ≤ wr.heap.size
section
variable {Q Q' : Thing} {B : Nat → Prop} {w w1 wr w2 : World}
theorem TurnX.more {B' : Nat → Prop} (ho : Only B w wr) (hB : ∀ b, B' b → B b ∨ w1.heap.size ≤ b) (hs : w1.heap.size ≤ wr.heap.size) (hw : w.heap.size ≤ w1.heap.size) (t : Turned Q B' wr w2) : TurnX Q B w w1 w2 := by
  obtain ⟨B2, hq, ho2, hB2⟩ := t
  have h1 := ho2.size
  refine ⟨B2, hq, ho.trans ho2 (fun i hi hb => (hB i hb).resolve_right (by omega)), fun b hb => ?_, by omega⟩
  rcases hB2 b hb with k | k
  · exact hB b k
  · exact .inr (by omega)
theorem TurnX.put (h : TurnX Q B w w1 wr) (fQ : Framed Q) {p : Addr} (h1 : w.heap.size ≤ p.block) (h2 : p.block < w1.heap.size) (h3 : ¬ B p.block) (u : Value) : TurnX Q B w w1 (wr.setCell p u) := by
  obtain ⟨B', hq, ho, hB, hs⟩ := h
  refine ⟨B', fQ.only hq ((Only.refl (fun b => b = p.block) wr).setCell (p := p) (.inl rfl) u) (fun b hb e => ?_), ho.setCell (p := p) (.inr h1) u, hB, by simpa [World.setCell] using hs⟩
  subst e
  rcases hB _ hb with k | k
  · exact h3 k
  · omega
theorem TurnX.out (h : TurnX Q B w w1 wr) (hw : w.heap.size ≤ w1.heap.size) : Turned Q B w wr := by
  obtain ⟨B', hq, ho, hB, _⟩ := h
  exact ⟨B', hq, ho, fun b hb => (hB b hb).imp id fun k => by omega⟩
end

set_option maxRecDepth 100000 in
set_option maxHeartbeats 8000000 in
theorem tell_m {b n : Nat} {K : List VB} {st : Option (Nat × Nat)} {came : Option (List Nat)} {bb : List Nat} {A B : Nat → Prop} {w : World} (hk : MtK b bb.length st K A w) (hs : Stars (lks K n came) B w) (hd : ∀ x, A x → ¬ B x) (hT : Tz w) (hF : ¬ B 0)
    (c : Nat) (hc : c < 256) (hb : NextOk came bb c) (hm : bb.length ≤ 1073741824) (hn : n ≤ 1048576) (hK : K.length ≤ 64) :
    Calls Tryd.prog 24 #[.pointer (some ⟨b, 0, none⟩), .int .u8 (c : Nat)] w fun e w' => e = .returned (hitE (hitS (n : Nat) bb (K.map Prod.snd)) bb.length) ∧ Turned (Stars (lks K n (some bb))) B w w' := by
  have HK := Lib.hid (And.intro hk (And.intro hd (And.intro hT hF)))
  obtain ⟨hl, hFb, Ar, cr, g, hblk, hrow, hgF⟩ := hk
  have HR := Lib.hid (And.intro hblk (And.intro hrow hgF))
  have hb1 : Below w.heap.size w (w.alloc (.cells #[.int .i64 0, .int .i64 0, .int .i64 0] 34)) := (Below.refl _ w).alloc (Nat.le_refl _) _
  have ho1 : Only (fun _ => False) w (w.alloc (.cells #[.int .i64 0, .int .i64 0, .int .i64 0] 34)) := Only.of_below hb1 (Nat.le_refl _) _
  have hs1 := (Stars.framed (lks_framed K n came)).only hs ho1 (fun _ _ e => e)
  have hltB := (Stars.framed (lks_framed K n came)).lt hs
  have c0 : w.cell? ⟨b, 0, none⟩ = some (.slice Ar K.length cr) := hblk.cell 0
  obtain ⟨w1, hw1⟩ : ∃ w1, w1 = w.alloc (.cells #[.int .i64 0, .int .i64 0, .int .i64 0] 34) := ⟨_, rfl⟩
  obtain ⟨hb9, hh⟩ : ∃ h, h = w.heap.size := ⟨_, rfl⟩
  have c0' : w1.cell? ⟨b, 0, none⟩ = some (.slice Ar K.length cr) := by rw [hw1]; exact (hblk.alloc _).cell 0
  rw [← hw1] at hb1 hs1
  have hmix : mix K n (some bb) came 0 = lks K n came := by simp [mix, lks]
  have T1 : Hid (TurnX (Stars (mix K n (some bb) came 0)) B w w1 w1) := Lib.hid (by rw [hmix]; exact ⟨B, hs1, Only.of_below hb1 (Nat.le_refl _) _, fun _ => .inl, Nat.le_refl _⟩)
  have BH : Hid (Blk w1 hb9 34 (hitC none bb.length)) := Lib.hid (by rw [hw1, hh]; exact Blk.new _ _ _)
  have HB1 := Lib.hid (And.intro hb1 (And.intro hltB (And.intro hw1 hh)))
  have HNX := Lib.hid hb
  clear hl hFb hblk hrow hgF hd hT hF hs hs1 ho1 hb1 hltB c0
  obtain ⟨m, hmm⟩ : ∃ m, bb.length = m := ⟨_, rfl⟩
  have HMM := Lib.hid hmm
  rw [hmm] at hm BH ⊢
  clear hmm hb hmix
  go_enter Tryd.func24, Tryd.ntmps24
  go_upto_region 1 with (fail)
  rw [← hw1, ← hh]
  clear hw1 hh
  have AT : Hid (∀ (Q : Thing) (wr : World), TurnX Q B w w1 wr → wr.cell? ⟨b, 1, none⟩ = some (.int .i64 (m : Nat)) ∧ Tz wr ∧ ∀ (i : Nat) (u : Value) (x : Brc), K[i]? = some (u, x) → ∃ bq oq, Ar = some ⟨bq, oq, none⟩ ∧ wr.cell? ⟨bq, oq + i, none⟩ = some u) := Lib.hid fun Q wr t => by
    obtain ⟨B', hq, ho2, hB, _⟩ := t
    have hblk2 := HR.out.1.only ho2 (HK.out.2.1 b HK.out.1.2.1)
    have hrow2 := HR.out.2.1.only ho2 (fun x e => HK.out.2.1 x (HR.out.2.2 x e))
    refine ⟨by have := hblk2.cell 1; rw [← HMM.out]; exact this, HK.out.2.2.1.only ho2 HK.out.2.2.2, fun i u x hx => ?_⟩
    obtain ⟨A0, c0, e1, _, _, hcell⟩ := hrow2.rd
    injection e1 with e1 e2 e3
    subst e1
    have hi := (List.getElem?_eq_some_iff.1 hx).1
    obtain ⟨bq, oq, hA, hc2⟩ := hcell (by rw [List.length_map]; omega)
    exact ⟨bq, oq, hA, hc2 i u (by rw [List.getElem?_map, hx]; rfl)⟩
  go_wp2_with fail
  go_loopw [5, 15] (fun fb iv wr => ∃ (k : Option (Nat × Nat)) (i : Nat), i ≤ K.length ∧ fb = .bool k.isSome ∧ iv = .int .i64 (i : Nat) ∧ Hid (TurnX (Stars (mix K n (some bb) came i)) B w w1 wr) ∧ Hid (Blk wr hb9 34 (hitC k m)) ∧ Hid (hitS (n : Nat) bb (K.map Prod.snd) = orHit k (hitFrom (n : Nat) bb ((K.map Prod.snd).drop i) i))) (fun _ iv _ => K.length - (intOf iv).toNat)
  case atStart => exact ⟨none, 0, by omega, rfl, rfl, T1, BH, Lib.hid rfl⟩
  case round =>
    obtain ⟨k, i, hi, rfl, rfl, HTR, BHW, HIT⟩ := hrel
    clear T1 BH c0'
    obtain ⟨c1, hTz, hrowi⟩ := AT.out _ wr HTR.out
    have HIH : Hid (hb9 < w1.heap.size ∧ ¬ B hb9) := Lib.hid ⟨by obtain ⟨-, -, e1, e2⟩ := HB1.out; rw [e1, e2]; simp, fun hbh => by have := HB1.out.2.1 hb9 hbh; have := HB1.out.2.2.2; omega⟩
    by_cases hlt : i < K.length
    · have r1 : decide ((i : Int) < (K.length : Int)) = true := decide_eq_true (by omega)
      have i1 : (i : Int) < (K.length : Int) := by omega
      obtain ⟨⟨u, x⟩, hx⟩ : ∃ y, K[i]? = some y := ⟨_, List.getElem?_eq_getElem hlt⟩
      obtain ⟨bq, oq, hA, ci⟩ := hrowi i u x hx
      subst hA
      obtain ⟨B', hst, ho, hB, hsz⟩ := HTR.out
      obtain ⟨C, hlook, hCB, kk⟩ := Stars.at_ (mix_framed K n (some bb) came i) (mix_at hx).1 hst
      have hlk := hlook
      have HX := Lib.hid hx
      have HX2 : Hid ((K.map Prod.snd)[i]? = some x) := Lib.hid (by rw [List.getElem?_map, hx]; rfl)
      have XO := Lib.hid (And.intro ho (And.intro hB hsz))
      have HHC : Hid (¬ C hb9) := Lib.hid fun k => by
        rcases hB _ (hCB _ k) with k | k
        · exact HIH.out.2 k
        · have := HIH.out.1; omega
      have hCg : ¬ C 0 := fun k => by
        rcases hB _ (hCB _ k) with k | k
        · exact HK.out.2.2.2 k
        · have := HK.out.2.2.1.1; have := HB1.out.1.size; omega
      clear hx hrowi ho hB hCB hst hlk hsz
      have hmm2 := HMM.out
      rcases hlook with hlook | hlook | hlook | hlook
      · have hv0 := hlook
        have hcall := nev_call hv0 (bb.length : Nat) c bb
        rw [HMM.out] at hcall
        have HC := Lib.hid hcall
        have hval : u = .func (.func 47) #[] #[] := hv0.2.1
        subst hval
        clear hcall hv0 hmm2
        go_wp2_with fail
        refine HC.out.mono ?_
        rintro e w2 ⟨z, rfl, hz, t2⟩
        have T20 : TurnX (Stars ((mix K n (some bb) came i).set i (LookT (.func (.func 47) #[] #[]) x n (some bb)))) B w w1 w2 := TurnX.more XO.out.1 XO.out.2.1 XO.out.2.2 HB1.out.1.size (kk (LookT (.func (.func 47) #[] #[]) x n (some bb)) w2 (t2.imp fun _ h => .inl h))
        rw [(mix_at HX.out).2] at T20
        have T2 := Lib.hid T20
        have B2 := Lib.hid (BHW.out.only t2.choose_spec.2.1 HHC.out)
        have HZ := Lib.hid hz
        clear t2 hz HC kk T20
        cases hfs : fromS (n : Nat) bb x with
        | none =>
          have HF := Lib.hid hfs
          have HI : Hid (hitS (n : Nat) bb (K.map Prod.snd) = orHit k (hitFrom (n : Nat) bb ((K.map Prod.snd).drop (i + 1)) (i + 1))) := Lib.hid (by
            rw [HIT.out]
            cases k with
            | some q => rfl
            | none => show hitFrom _ _ _ _ = hitFrom _ _ _ _; rw [hit_drop HX2.out, HF.out])
          clear hfs
          go_wp2_with fail
          go_roundw
          case rel => exact ⟨k, i + 1, by omega, rfl, by go_num, T2, B2, HI⟩
          case measure => simp [intOf]; omega
        | some f =>
          have hzf : z = (f : Nat) := HZ.out f hfs
          subst hzf
          have HF := Lib.hid hfs
          clear hfs HZ
          cases k with
          | some q =>
            have HI : Hid (hitS (n : Nat) bb (K.map Prod.snd) = some q) := HIT
            go_wp2_with fail
            go_roundw
            case rel => exact ⟨some q, i + 1, by omega, rfl, by go_num, T2, B2, HI⟩
            case measure => simp [intOf]; omega
          | none =>
            have HI : Hid (hitS (n : Nat) bb (K.map Prod.snd) = some (i, f)) := Lib.hid (by
              rw [HIT.out]
              show hitFrom _ _ _ _ = _
              rw [hit_drop HX2.out, HF.out])
            have c1 : w2.cell? ⟨b, 1, none⟩ = some (.int .i64 (m : Nat)) := (AT.out _ w2 T2.out).1
            have e0 : w2.cell? ⟨hb9, 0, none⟩ = some (.int .i64 0) := B2.out.cell 0
            have e1 : w2.cell? ⟨hb9, 1, none⟩ = some (.int .i64 0) := B2.out.cell 1
            have e2 : w2.cell? ⟨hb9, 2, none⟩ = some (.int .i64 0) := B2.out.cell 2
            have f0 := B2.out.frozen 0
            have f1 := B2.out.frozen 1
            have f2 := B2.out.frozen 2
            have hIH := HIH.out
            have hge : w.heap.size ≤ hb9 := by rw [HB1.out.2.2.2]; exact Nat.le_refl _
            have fS := Stars.framed (mix_framed K n (some bb) came (i + 1))
            have T3 := Lib.hid (((T2.out.put fS (p := ⟨hb9, 0, none⟩) hge hIH.1 hIH.2 (.int .i64 (i : Nat))).put fS (p := ⟨hb9, 1, none⟩) hge hIH.1 hIH.2 (.int .i64 (f : Nat))).put fS (p := ⟨hb9, 2, none⟩) hge hIH.1 hIH.2 (.int .i64 (m : Nat)))
            have B3 := Lib.hid (((B2.out.set_ 0 (.int .i64 (i : Nat))).set_ 1 (.int .i64 (f : Nat))).set_ 2 (.int .i64 (m : Nat)))
            clear hIH hge fS
            go_wp2_with fail
            go_roundw
            case rel => exact ⟨some (i, f), i + 1, by omega, rfl, by go_num, T3, Lib.hid (by have := B3.out; simpa [hitC, hA, hB, hT] using this), HI⟩
            case measure => simp [intOf]; omega
      · obtain ⟨sb, pb, q, kq, hv0⟩ := hlook
        have hcall := ex_call hv0 c bb HNX.out (by omega) hn
        rw [HMM.out] at hcall
        have HC := Lib.hid hcall
        have hval : u = .func (.func 34) #[] #[.pointer (some ⟨sb, 0, none⟩), .pointer (some ⟨pb, 0, none⟩)] := hv0.val
        subst hval
        clear hcall hv0 hmm2
        go_wp2_with fail
        refine HC.out.mono ?_
        rintro e w2 ⟨z, rfl, hz, t2⟩
        have T20 : TurnX (Stars ((mix K n (some bb) came i).set i (LookT (.func (.func 34) #[] #[.pointer (some ⟨sb, 0, none⟩), .pointer (some ⟨pb, 0, none⟩)]) x n (some bb)))) B w w1 w2 := TurnX.more XO.out.1 XO.out.2.1 XO.out.2.2 HB1.out.1.size (kk (LookT (.func (.func 34) #[] #[.pointer (some ⟨sb, 0, none⟩), .pointer (some ⟨pb, 0, none⟩)]) x n (some bb)) w2 (t2.imp fun _ h => .inr (.inl h)))
        rw [(mix_at HX.out).2] at T20
        have T2 := Lib.hid T20
        have B2 := Lib.hid (BHW.out.only t2.choose_spec.2.1 HHC.out)
        have HZ := Lib.hid hz
        clear t2 hz HC kk T20
        cases hfs : fromS (n : Nat) bb x with
        | none =>
          have HF := Lib.hid hfs
          have HI : Hid (hitS (n : Nat) bb (K.map Prod.snd) = orHit k (hitFrom (n : Nat) bb ((K.map Prod.snd).drop (i + 1)) (i + 1))) := Lib.hid (by
            rw [HIT.out]
            cases k with
            | some q => rfl
            | none => show hitFrom _ _ _ _ = hitFrom _ _ _ _; rw [hit_drop HX2.out, HF.out])
          clear hfs
          go_wp2_with fail
          go_roundw
          case rel => exact ⟨k, i + 1, by omega, rfl, by go_num, T2, B2, HI⟩
          case measure => simp [intOf]; omega
        | some f =>
          have hzf : z = (f : Nat) := HZ.out f hfs
          subst hzf
          have HF := Lib.hid hfs
          clear hfs HZ
          cases k with
          | some q =>
            have HI : Hid (hitS (n : Nat) bb (K.map Prod.snd) = some q) := HIT
            go_wp2_with fail
            go_roundw
            case rel => exact ⟨some q, i + 1, by omega, rfl, by go_num, T2, B2, HI⟩
            case measure => simp [intOf]; omega
          | none =>
            have HI : Hid (hitS (n : Nat) bb (K.map Prod.snd) = some (i, f)) := Lib.hid (by
              rw [HIT.out]
              show hitFrom _ _ _ _ = _
              rw [hit_drop HX2.out, HF.out])
            have c1 : w2.cell? ⟨b, 1, none⟩ = some (.int .i64 (m : Nat)) := (AT.out _ w2 T2.out).1
            have e0 : w2.cell? ⟨hb9, 0, none⟩ = some (.int .i64 0) := B2.out.cell 0
            have e1 : w2.cell? ⟨hb9, 1, none⟩ = some (.int .i64 0) := B2.out.cell 1
            have e2 : w2.cell? ⟨hb9, 2, none⟩ = some (.int .i64 0) := B2.out.cell 2
            have f0 := B2.out.frozen 0
            have f1 := B2.out.frozen 1
            have f2 := B2.out.frozen 2
            have hIH := HIH.out
            have hge : w.heap.size ≤ hb9 := by rw [HB1.out.2.2.2]; exact Nat.le_refl _
            have fS := Stars.framed (mix_framed K n (some bb) came (i + 1))
            have T3 := Lib.hid (((T2.out.put fS (p := ⟨hb9, 0, none⟩) hge hIH.1 hIH.2 (.int .i64 (i : Nat))).put fS (p := ⟨hb9, 1, none⟩) hge hIH.1 hIH.2 (.int .i64 (f : Nat))).put fS (p := ⟨hb9, 2, none⟩) hge hIH.1 hIH.2 (.int .i64 (m : Nat)))
            have B3 := Lib.hid (((B2.out.set_ 0 (.int .i64 (i : Nat))).set_ 1 (.int .i64 (f : Nat))).set_ 2 (.int .i64 (m : Nat)))
            clear hIH hge fS
            go_wp2_with fail
            go_roundw
            case rel => exact ⟨some (i, f), i + 1, by omega, rfl, by go_num, T3, Lib.hid (by have := B3.out; simpa [hitC, hA, hB, hT] using this), HI⟩
            case measure => simp [intOf]; omega
      · obtain ⟨tb, mb, a, gg, LL, zz, hv0⟩ := hlook
        have hcall := row_call hv0 c hc bb HNX.out (by omega)
        rw [HMM.out] at hcall
        have HC := Lib.hid hcall
        have hval : u = .func (.func 57) #[] #[.pointer (some ⟨tb, 0, none⟩), .pointer (some ⟨mb, 0, none⟩)] := hv0.val
        subst hval
        clear hcall hv0 hmm2
        go_wp2_with fail
        refine HC.out.mono ?_
        rintro e w2 ⟨z, rfl, hz, t2⟩
        have T20 : TurnX (Stars ((mix K n (some bb) came i).set i (LookT (.func (.func 57) #[] #[.pointer (some ⟨tb, 0, none⟩), .pointer (some ⟨mb, 0, none⟩)]) x n (some bb)))) B w w1 w2 := TurnX.more XO.out.1 XO.out.2.1 XO.out.2.2 HB1.out.1.size (kk (LookT (.func (.func 57) #[] #[.pointer (some ⟨tb, 0, none⟩), .pointer (some ⟨mb, 0, none⟩)]) x n (some bb)) w2 (t2.imp fun _ h => .inr (.inr (.inl h))))
        rw [(mix_at HX.out).2] at T20
        have T2 := Lib.hid T20
        have B2 := Lib.hid (BHW.out.only t2.choose_spec.2.1 HHC.out)
        have HZ := Lib.hid hz
        clear t2 hz HC kk T20
        cases hfs : fromS (n : Nat) bb x with
        | none =>
          have HF := Lib.hid hfs
          have HI : Hid (hitS (n : Nat) bb (K.map Prod.snd) = orHit k (hitFrom (n : Nat) bb ((K.map Prod.snd).drop (i + 1)) (i + 1))) := Lib.hid (by
            rw [HIT.out]
            cases k with
            | some q => rfl
            | none => show hitFrom _ _ _ _ = hitFrom _ _ _ _; rw [hit_drop HX2.out, HF.out])
          clear hfs
          go_wp2_with fail
          go_roundw
          case rel => exact ⟨k, i + 1, by omega, rfl, by go_num, T2, B2, HI⟩
          case measure => simp [intOf]; omega
        | some f =>
          have hzf : z = (f : Nat) := HZ.out f hfs
          subst hzf
          have HF := Lib.hid hfs
          clear hfs HZ
          cases k with
          | some q =>
            have HI : Hid (hitS (n : Nat) bb (K.map Prod.snd) = some q) := HIT
            go_wp2_with fail
            go_roundw
            case rel => exact ⟨some q, i + 1, by omega, rfl, by go_num, T2, B2, HI⟩
            case measure => simp [intOf]; omega
          | none =>
            have HI : Hid (hitS (n : Nat) bb (K.map Prod.snd) = some (i, f)) := Lib.hid (by
              rw [HIT.out]
              show hitFrom _ _ _ _ = _
              rw [hit_drop HX2.out, HF.out])
            have c1 : w2.cell? ⟨b, 1, none⟩ = some (.int .i64 (m : Nat)) := (AT.out _ w2 T2.out).1
            have e0 : w2.cell? ⟨hb9, 0, none⟩ = some (.int .i64 0) := B2.out.cell 0
            have e1 : w2.cell? ⟨hb9, 1, none⟩ = some (.int .i64 0) := B2.out.cell 1
            have e2 : w2.cell? ⟨hb9, 2, none⟩ = some (.int .i64 0) := B2.out.cell 2
            have f0 := B2.out.frozen 0
            have f1 := B2.out.frozen 1
            have f2 := B2.out.frozen 2
            have hIH := HIH.out
            have hge : w.heap.size ≤ hb9 := by rw [HB1.out.2.2.2]; exact Nat.le_refl _
            have fS := Stars.framed (mix_framed K n (some bb) came (i + 1))
            have T3 := Lib.hid (((T2.out.put fS (p := ⟨hb9, 0, none⟩) hge hIH.1 hIH.2 (.int .i64 (i : Nat))).put fS (p := ⟨hb9, 1, none⟩) hge hIH.1 hIH.2 (.int .i64 (f : Nat))).put fS (p := ⟨hb9, 2, none⟩) hge hIH.1 hIH.2 (.int .i64 (m : Nat)))
            have B3 := Lib.hid (((B2.out.set_ 0 (.int .i64 (i : Nat))).set_ 1 (.int .i64 (f : Nat))).set_ 2 (.int .i64 (m : Nat)))
            clear hIH hge fS
            go_wp2_with fail
            go_roundw
            case rel => exact ⟨some (i, f), i + 1, by omega, rfl, by go_num, T3, Lib.hid (by have := B3.out; simpa [hitC, hA, hB, hT] using this), HI⟩
            case measure => simp [intOf]; omega
      · obtain ⟨pb, hb, tb, mb, ab, a1, g1, a2, g2, top, L1, L2, st2, M, z1, z2, hv0⟩ := hlook
        have hcall := glo_call hv0 hTz c hc bb HNX.out (by omega) hn
        rw [HMM.out] at hcall
        have HC := Lib.hid hcall
        have hval : u = .func (.func 43) #[] #[.pointer (some ⟨pb, 0, none⟩), .pointer (some ⟨hb, 0, none⟩), .pointer (some ⟨tb, 0, none⟩), .pointer (some ⟨mb, 0, none⟩), .pointer (some ⟨ab, 0, none⟩)] := hv0.val
        subst hval
        clear hcall hv0 hmm2
        go_wp2_with fail
        refine HC.out.mono ?_
        rintro e w2 ⟨z, rfl, hz, t2⟩
        have T20 : TurnX (Stars ((mix K n (some bb) came i).set i (LookT (.func (.func 43) #[] #[.pointer (some ⟨pb, 0, none⟩), .pointer (some ⟨hb, 0, none⟩), .pointer (some ⟨tb, 0, none⟩), .pointer (some ⟨mb, 0, none⟩), .pointer (some ⟨ab, 0, none⟩)]) x n (some bb)))) B w w1 w2 := TurnX.more XO.out.1 XO.out.2.1 XO.out.2.2 HB1.out.1.size (kk (LookT (.func (.func 43) #[] #[.pointer (some ⟨pb, 0, none⟩), .pointer (some ⟨hb, 0, none⟩), .pointer (some ⟨tb, 0, none⟩), .pointer (some ⟨mb, 0, none⟩), .pointer (some ⟨ab, 0, none⟩)]) x n (some bb)) w2 (t2.imp fun _ h => .inr (.inr (.inr h))))
        rw [(mix_at HX.out).2] at T20
        have T2 := Lib.hid T20
        have B2 := Lib.hid (BHW.out.only t2.choose_spec.2.1 HHC.out)
        have HZ := Lib.hid hz
        clear t2 hz HC kk T20
        cases hfs : fromS (n : Nat) bb x with
        | none =>
          have HF := Lib.hid hfs
          have HI : Hid (hitS (n : Nat) bb (K.map Prod.snd) = orHit k (hitFrom (n : Nat) bb ((K.map Prod.snd).drop (i + 1)) (i + 1))) := Lib.hid (by
            rw [HIT.out]
            cases k with
            | some q => rfl
            | none => show hitFrom _ _ _ _ = hitFrom _ _ _ _; rw [hit_drop HX2.out, HF.out])
          clear hfs
          go_wp2_with fail
          go_roundw
          case rel => exact ⟨k, i + 1, by omega, rfl, by go_num, T2, B2, HI⟩
          case measure => simp [intOf]; omega
        | some f =>
          have hzf : z = (f : Nat) := HZ.out f hfs
          subst hzf
          have HF := Lib.hid hfs
          clear hfs HZ
          cases k with
          | some q =>
            have HI : Hid (hitS (n : Nat) bb (K.map Prod.snd) = some q) := HIT
            go_wp2_with fail
            go_roundw
            case rel => exact ⟨some q, i + 1, by omega, rfl, by go_num, T2, B2, HI⟩
            case measure => simp [intOf]; omega
          | none =>
            have HI : Hid (hitS (n : Nat) bb (K.map Prod.snd) = some (i, f)) := Lib.hid (by
              rw [HIT.out]
              show hitFrom _ _ _ _ = _
              rw [hit_drop HX2.out, HF.out])
            have c1 : w2.cell? ⟨b, 1, none⟩ = some (.int .i64 (m : Nat)) := (AT.out _ w2 T2.out).1
            have e0 : w2.cell? ⟨hb9, 0, none⟩ = some (.int .i64 0) := B2.out.cell 0
            have e1 : w2.cell? ⟨hb9, 1, none⟩ = some (.int .i64 0) := B2.out.cell 1
            have e2 : w2.cell? ⟨hb9, 2, none⟩ = some (.int .i64 0) := B2.out.cell 2
            have f0 := B2.out.frozen 0
            have f1 := B2.out.frozen 1
            have f2 := B2.out.frozen 2
            have hIH := HIH.out
            have hge : w.heap.size ≤ hb9 := by rw [HB1.out.2.2.2]; exact Nat.le_refl _
            have fS := Stars.framed (mix_framed K n (some bb) came (i + 1))
            have T3 := Lib.hid (((T2.out.put fS (p := ⟨hb9, 0, none⟩) hge hIH.1 hIH.2 (.int .i64 (i : Nat))).put fS (p := ⟨hb9, 1, none⟩) hge hIH.1 hIH.2 (.int .i64 (f : Nat))).put fS (p := ⟨hb9, 2, none⟩) hge hIH.1 hIH.2 (.int .i64 (m : Nat)))
            have B3 := Lib.hid (((B2.out.set_ 0 (.int .i64 (i : Nat))).set_ 1 (.int .i64 (f : Nat))).set_ 2 (.int .i64 (m : Nat)))
            clear hIH hge fS
            go_wp2_with fail
            go_roundw
            case rel => exact ⟨some (i, f), i + 1, by omega, rfl, by go_num, T3, Lib.hid (by have := B3.out; simpa [hitC, hA, hB, hT] using this), HI⟩
            case measure => simp [intOf]; omega
    · obtain rfl : i = K.length := by omega
      have r1 : decide ((K.length : Int) < (K.length : Int)) = false := decide_eq_false (by omega)
      have hfin : hitS (n : Nat) bb (K.map Prod.snd) = k := by
        rw [HIT.out, List.drop_of_length_le (by simp)]
        cases k <;> rfl
      have HFI := Lib.hid hfin
      have hmx : mix K n (some bb) came K.length = lks K n (some bb) := by simp [mix, lks]
      rw [hmx] at HTR
      have e0 : wr.cell? ⟨hb9, 0, none⟩ = some (.int .i64 (hA k)) := BHW.out.cell 0
      have e1 : wr.cell? ⟨hb9, 1, none⟩ = some (.int .i64 (hB k)) := BHW.out.cell 1
      have e2 : wr.cell? ⟨hb9, 2, none⟩ = some (.int .i64 (hT k m)) := BHW.out.cell 2
      have f0 := BHW.out.frozen 0
      have f1 := BHW.out.frozen 1
      have f2 := BHW.out.frozen 2
      have HG : Hid (hitE k m = .tuple #[.agg #[.int .i64 (hA k), .int .i64 (hB k), .int .i64 (hT k m)], .bool k.isSome]) := Lib.hid (by unfold hitE; rw [hit_agg]; rfl)
      clear hfin hmx
      generalize hA k = ka at *
      generalize hB k = kb at *
      generalize hT k m = kt at *
      have B3 : Blk (((wr.setCell ⟨hb9, 0, none⟩ (.int .i64 ka)).setCell ⟨hb9, 1, none⟩ (.int .i64 kb)).setCell ⟨hb9, 2, none⟩ (.int .i64 kt)) hb9 34 #[.int .i64 ka, .int .i64 kb, .int .i64 kt] := by
        have := ((BHW.out.set_ 0 (.int .i64 ka)).set_ 1 (.int .i64 kb)).set_ 2 (.int .i64 kt)
        simpa [hitC] using this
      have d0 := B3.cell 0
      have d1 := B3.cell 1
      have d2 := B3.cell 2
      simp only [List.getElem?_toArray, List.getElem?_cons_zero, List.getElem?_cons_succ] at d0 d1 d2
      have hIH := HIH.out
      have hge : w.heap.size ≤ hb9 := by rw [HB1.out.2.2.2]; exact Nat.le_refl _
      have fS := Stars.framed (lks_framed K n (some bb))
      have T3 := Lib.hid ((((HTR.out.put fS (p := ⟨hb9, 0, none⟩) hge hIH.1 hIH.2 (.int .i64 ka)).put fS (p := ⟨hb9, 1, none⟩) hge hIH.1 hIH.2 (.int .i64 kb)).put fS (p := ⟨hb9, 2, none⟩) hge hIH.1 hIH.2 (.int .i64 kt)).out HB1.out.1.size)
      clear hIH hge fS B3
      go_wp2_with fail
      refine bodyPost_ret (v := .tuple #[.agg #[.int .i64 ka, .int .i64 kb, .int .i64 kt], .bool k.isSome]) (by simp [results, Tryd.results24, go_sem, d0, d1, d2]) rfl ?_
      exact ⟨by rw [HFI.out, HG.out], T3.out⟩
end Go.Proofs.YtcipljpalohjiaaDoor
namespace Go.Proofs.YtcipljpalohjiaaDoor
open Go.RowKit

/-- What lookFor tells. -/
def ForTo (x : Brc) (n : Nat) (w : World) (e : Ending) (w' : World) : Prop :=
  ∃ v, e = .returned (.tuple #[v, .int .i64 (wrongB x : Nat)]) ∧ Below w.heap.size w w' ∧ (wrongB x ≠ 0 ∧ v = .nilFunc ∨ wrongB x = 0 ∧ ∃ F, LookT v x n none F w' ∧ ∀ b, F b → w.heap.size ≤ b)
set_option maxRecDepth 100000 in
set_option maxHeartbeats 4000000 in
theorem lookFor_is (x : Brc) (n : Nat) (hx : BrIn x) (hn : n ≤ 1048576) (w : World) (hg : 0 < w.heap.size) :
    Calls Tryd.prog 21 #[.int .i64 (n : Nat), .agg #[.int .i64 x.kind, .string (str x.pat)]] w (ForTo x n w) := by
  have hb1 := (Below.refl w.heap.size w).alloc (Nat.le_refl _) (.cells #[.int .i64 x.kind, .string (str x.pat)] 45)
  have bb := Blk.new w 45 #[.int .i64 x.kind, .string (str x.pat)]
  have c0 : (w.alloc (.cells #[.int .i64 x.kind, .string (str x.pat)] 45)).cell? ⟨w.heap.size, 0, none⟩ = some (.int .i64 x.kind) := bb.cell 0
  have c1 : (w.alloc (.cells #[.int .i64 x.kind, .string (str x.pat)] 45)).cell? ⟨w.heap.size, 1, none⟩ = some (.string (str x.pat)) := bb.cell 1
  have HB := Lib.hid (And.intro hb1 bb)
  have HX := Lib.hid (And.intro hx hg)
  obtain ⟨w1, hw1⟩ : ∃ w1, w1 = w.alloc (.cells #[.int .i64 x.kind, .string (str x.pat)] 45) := ⟨_, rfl⟩
  have hsz : w1.heap.size = w.heap.size + 1 := by rw [hw1, World.size_alloc]
  have HZ := Lib.hid hsz
  rw [← hw1] at c0 c1 HB
  have fin : Hid (∀ w2 v F, Below w1.heap.size w1 w2 → wrongB x = 0 → LookT v x n none F w2 → (∀ b, F b → w1.heap.size ≤ b) → ForTo x n w (.returned (.tuple #[v, .int .i64 0])) w2) := Lib.hid fun w2 v F hb hw0 hl hF => ⟨v, by rw [hw0]; rfl, HB.out.1.trans (hb.mono HB.out.1.size), .inr ⟨hw0, F, hl, fun b hb => by have := hF b hb; have := HZ.out; omega⟩⟩
  have bad : Hid (∀ w2 (z : Int), Below w1.heap.size w1 w2 → wrongB x ≠ 0 → z = (wrongB x : Nat) → ForTo x n w (.returned (.tuple #[.nilFunc, .int .i64 z])) w2) := Lib.hid fun w2 z hb hw0 hz => ⟨.nilFunc, by rw [hz], HB.out.1.trans (hb.mono HB.out.1.size), .inl ⟨hw0, rfl⟩⟩
  have hg1 : 0 < w1.heap.size := by omega
  clear hb1 bb hg hsz
  by_cases hk0 : x.kind = 0
  · have q0 : (x.kind == 0) = true := by rw [hk0]; rfl
    have HE := Lib.hid (lookExact_is x n hk0 hx.1 hx.2.1 hn w1)
    have HW : Hid (wrongB x = 0) := Lib.hid (by unfold wrongB; rw [if_neg (by omega), if_neg (by omega)])
    clear hx hg1 hk0
    go_enter Tryd.func21, Tryd.ntmps21
    go_upto_region 1 with (fail)
    rw [← hw1]
    clear hw1
    go_wp2_with fail
    refine HE.out.mono ?_
    rintro e w2 ⟨v, F, rfl, hv, hF, hb⟩
    have Z := Lib.hid (And.intro hv (And.intro hF hb))
    clear hv hF hb
    go_wp2_with fail
    go_ret2
    exact fin.out _ v F Z.out.2.2 HW.out (Z.out.1.elim .inl fun h => .inr (.inl h)) Z.out.2.1
  have q0 : (x.kind == 0) = false := by simpa using hk0
  by_cases hk1 : x.kind = 1
  · have q1 : (x.kind == 1) = true := by rw [hk1]; rfl
    have HC := Lib.hid (Check_is x.pat hx.1 hx.2.1 w1)
    have HWE : Hid (wrongB x = errS x.pat) := Lib.hid (by unfold wrongB; rw [if_neg (by omega), if_pos hk1])
    by_cases he : errS x.pat = 0
    · obtain ⟨hl, ts, hts⟩ := errS_zero he
      have hGl := Lib.hid (fun W h => lookGlob_is x n ts hk1 hx.1 (by omega) hts W h)
      rw [he] at HC
      have HE := Lib.hid he
      have HG1 := Lib.hid hg1
      clear hx hk1 hk0 he hl hts hg1
      go_enter Tryd.func21, Tryd.ntmps21
      go_upto_region 1 with (fail)
      rw [← hw1]
      clear hw1
      go_wp2_with fail
      refine HC.out.mono ?_
      rintro e w2 ⟨rfl, hb⟩
      have X2 := Lib.hid hb
      have c1b : w2.cell? ⟨w.heap.size, 1, none⟩ = some (.string (str x.pat)) := (HB.out.2.below hb HB.out.2.lt).cell 1
      have HGG := Lib.hid (hGl.out w2 (Nat.lt_of_lt_of_le HG1.out hb.size))
      clear hb HC hGl
      go_wp2_with fail
      refine HGG.out.mono ?_
      rintro e w3 ⟨v, F, rfl, hv, hF, hb⟩
      have Z := Lib.hid (And.intro hv (And.intro hF hb))
      clear hv hF hb c1b
      go_wp2_with fail
      go_ret2
      exact fin.out _ v F (X2.out.trans (Z.out.2.2.mono X2.out.size)) (HWE.out.trans HE.out) (Z.out.1.elim (fun h => .inr (.inr (.inl h))) fun h => .inr (.inr (.inr h))) (fun b hb => Nat.le_trans X2.out.size (Z.out.2.1 b hb))
    · have qe : ((errS x.pat : Int) != 0) = true := by simpa using he
      have HE := Lib.hid he
      generalize errS x.pat = er at *
      clear hx hk1 hk0 he hg1
      go_enter Tryd.func21, Tryd.ntmps21
      go_upto_region 1 with (fail)
      rw [← hw1]
      clear hw1
      go_wp2_with fail
      refine HC.out.mono ?_
      rintro e w2 ⟨rfl, hb⟩
      have X2 := Lib.hid hb
      clear hb HC
      go_wp2_with fail
      go_ret2
      exact bad.out _ _ X2.out (by rw [HWE.out]; exact HE.out) (by rw [HWE.out])
  have q1 : (x.kind == 1) = false := by simpa using hk1
  by_cases hk2 : x.kind = 2 ∨ x.kind = 3
  · have HN := Lib.hid (fun W => lookNever_is x n (hk2.elim .inl fun h => .inr (.inl h)) W)
    have HW : Hid (wrongB x = 0) := Lib.hid (by unfold wrongB; rw [if_neg (by omega), if_neg hk1])
    by_cases hk2' : x.kind = 2
    · have q2 : (x.kind == 2) = true := by rw [hk2']; rfl
      clear hx hk1 hk0 hg1 hk2 hk2'
      go_enter Tryd.func21, Tryd.ntmps21
      go_upto_region 1 with (fail)
      rw [← hw1]
      clear hw1
      go_wp2_with fail
      refine (HN.out _).mono ?_
      rintro e w2 ⟨v, rfl, hv, rfl⟩
      have Z := Lib.hid hv
      clear hv
      go_wp2_with fail
      go_ret2
      exact fin.out _ v _ (Below.refl _ _) HW.out (.inl Z.out) (fun _ e => e.elim)
    · have q2 : (x.kind == 2) = false := by simpa using hk2'
      have q3 : (x.kind == 3) = true := by rw [hk2.resolve_left hk2']; rfl
      clear hx hk1 hk0 hg1 hk2 hk2'
      go_enter Tryd.func21, Tryd.ntmps21
      go_upto_region 1 with (fail)
      rw [← hw1]
      clear hw1
      go_wp2_with fail
      refine (HN.out _).mono ?_
      rintro e w2 ⟨v, rfl, hv, rfl⟩
      have Z := Lib.hid hv
      clear hv
      go_wp2_with fail
      go_ret2
      exact fin.out _ v _ (Below.refl _ _) HW.out (.inl Z.out) (fun _ e => e.elim)
  · have q2 : (x.kind == 2) = false := by simpa using fun h => hk2 (.inl h)
    have q3 : (x.kind == 3) = false := by simpa using fun h => hk2 (.inr h)
    have HW : Hid (wrongB x = 2) := Lib.hid (by unfold wrongB; rw [if_pos (by omega)])
    clear hx hk1 hk0 hg1 hk2
    go_enter Tryd.func21, Tryd.ntmps21
    go_upto_region 1 with (fail)
    rw [← hw1]
    clear hw1
    go_wp2_with fail
    go_ret2
    exact bad.out _ _ (Below.refl _ _) (by rw [HW.out]; decide) (by rw [HW.out]; rfl)
end Go.Proofs.YtcipljpalohjiaaDoor
namespace Go.Proofs.YtcipljpalohjiaaDoor
open Go.RowKit

def MatS (b m : Nat) (st : Option (Nat × Nat)) (K : List VB) (n : Nat) (came : Option (List Nat)) : Thing := Star (MtK b m st K) (Stars (lks K n came))
theorem matS_framed (b m : Nat) (st : Option (Nat × Nat)) (K : List VB) (n : Nat) (came : Option (List Nat)) : Framed (MatS b m st K n came) := Star.framed (mtK_framed _ _ _ _) (Stars.framed (lks_framed _ _ _))
section
variable {b m n : Nat} {st : Option (Nat × Nat)} {K : List VB} {came : Option (List Nat)} {F : Nat → Prop} {w : World}
theorem MatS.lt (h : MatS b m st K n came F w) : b < w.heap.size ∧ F b := by
  obtain ⟨A, B, hs⟩ := h
  exact ⟨hs.fst.1 b hs.fst.2.1, (hs.un b).2 (.inl hs.fst.2.1)⟩
theorem MatS.cells (h : MatS b m st K n came F w) : w.cell? ⟨b, 1, none⟩ = some (.int .i64 (m : Nat)) ∧ w.frozen? ⟨b, 1, none⟩ = false ∧ w.cell? ⟨b, 2, none⟩ = some (.int .i64 (hA st)) ∧ w.cell? ⟨b, 3, none⟩ = some (.int .i64 (hB st)) ∧ w.cell? ⟨b, 4, none⟩ = some (.int .i64 (hT st 0)) ∧ w.cell? ⟨b, 5, none⟩ = some (.bool st.isSome) := by
  obtain ⟨A, B, hs⟩ := h
  obtain ⟨-, -, D, c, g, h1, -⟩ := hs.fst
  exact ⟨h1.cell 1, h1.frozen 1, h1.cell 2, h1.cell 3, h1.cell 4, h1.cell 5⟩
theorem MatS.setm (h : MatS b m st K n came F w) (m' : Nat) : Turned (MatS b m' st K n came) F w (w.setCell ⟨b, 1, none⟩ (.int .i64 (m' : Nat))) := by
  obtain ⟨A, B, hs⟩ := h
  obtain ⟨hl, hb, D, c, g, h1, h2, h3⟩ := hs.fst
  have hne : g ≠ some b := h2.ne_ h1 (by decide)
  have ho : Only A w (w.setCell ⟨b, 1, none⟩ (.int .i64 (m' : Nat))) := (Only.refl A w).setCell (p := ⟨b, 1, none⟩) (.inl hb) _
  refine hs.left (Stars.framed (lks_framed _ _ _)) ⟨A, ⟨fun x hx => Nat.lt_of_lt_of_le (hl x hx) ho.size, hb, D, c, g, ?_, h2.far (p := ⟨b, 1, none⟩) hne _, h3⟩, ho, fun _ => .inl⟩
  have := h1.set_ 1 (.int .i64 (m' : Nat))
  simpa using this
theorem MatS.sets (h : MatS b m st K n came F w) (k : Option (Nat × Nat)) : Turned (MatS b m k K n came) F w ((((w.setCell ⟨b, 2, none⟩ (.int .i64 (hA k))).setCell ⟨b, 3, none⟩ (.int .i64 (hB k))).setCell ⟨b, 4, none⟩ (.int .i64 (hT k 0))).setCell ⟨b, 5, none⟩ (.bool k.isSome)) := by
  obtain ⟨A, B, hs⟩ := h
  obtain ⟨hl, hb, D, c, g, h1, h2, h3⟩ := hs.fst
  have hne : g ≠ some b := h2.ne_ h1 (by decide)
  have ho : Only A w ((((w.setCell ⟨b, 2, none⟩ (.int .i64 (hA k))).setCell ⟨b, 3, none⟩ (.int .i64 (hB k))).setCell ⟨b, 4, none⟩ (.int .i64 (hT k 0))).setCell ⟨b, 5, none⟩ (.bool k.isSome)) :=
    ((((Only.refl A w).setCell (p := ⟨b, 2, none⟩) (.inl hb) _).setCell (p := ⟨b, 3, none⟩) (.inl hb) _).setCell (p := ⟨b, 4, none⟩) (.inl hb) _).setCell (p := ⟨b, 5, none⟩) (.inl hb) _
  refine hs.left (Stars.framed (lks_framed _ _ _)) ⟨A, ⟨fun x hx => Nat.lt_of_lt_of_le (hl x hx) ho.size, hb, D, c, g, ?_, (((h2.far (p := ⟨b, 2, none⟩) hne _).far (p := ⟨b, 3, none⟩) hne _).far (p := ⟨b, 4, none⟩) hne _).far (p := ⟨b, 5, none⟩) hne _, h3⟩, ho, fun _ => .inl⟩
  have := (((h1.set_ 2 (.int .i64 (hA k))).set_ 3 (.int .i64 (hB k))).set_ 4 (.int .i64 (hT k 0))).set_ 5 (.bool k.isSome)
  simpa using this
theorem MatS.frz (h : MatS b m st K n came F w) : ∃ D c g, Blk w b 53 #[.slice D K.length c, .int .i64 (m : Nat), .int .i64 (hA st), .int .i64 (hB st), .int .i64 (hT st 0), .bool st.isSome] ∧ Row w 55 g (.slice D K.length c) (K.map Prod.fst) := by
  obtain ⟨A, B, hs⟩ := h
  obtain ⟨hl, hb, D, c, g, h1, h2, h3⟩ := hs.fst
  exact ⟨D, c, g, h1, h2⟩
theorem MatS.tell {bb : List Nat} (h : MatS b bb.length st K n came F w) (hT : Tz w) (hF : ¬ F 0) (c : Nat) (hc : c < 256) (hb : NextOk came bb c) (hm : bb.length ≤ 1073741824) (hn : n ≤ 1048576) (hK : K.length ≤ 64) :
    Calls Tryd.prog 24 #[.pointer (some ⟨b, 0, none⟩), .int .u8 (c : Nat)] w fun e w' => e = .returned (hitE (hitS (n : Nat) bb (K.map Prod.snd)) bb.length) ∧ Turned (MatS b bb.length st K n (some bb)) F w w' := by
  obtain ⟨A, B, hs⟩ := h
  exact (tell_m hs.fst hs.snd hs.ap hT (fun k => hF ((hs.un _).2 (.inr k))) c hc hb hm hn hK).mono fun e w' ⟨he, t⟩ => ⟨he, hs.right (mtK_framed _ _ _ _) t⟩
end
theorem hitE_eq (k : Option (Nat × Nat)) (e : Nat) : hitE k e = .tuple #[.agg #[.int .i64 (hA k), .int .i64 (hB k), .int .i64 (hT k e)], .bool k.isSome] := by unfold hitE; rw [hit_agg]; rfl

set_option maxRecDepth 100000 in
set_option maxHeartbeats 4000000 in
theorem Reset_m {b m n : Nat} {st : Option (Nat × Nat)} {K : List VB} {came : Option (List Nat)} {F : Nat → Prop} {w : World} (h : MatS b m st K n came F w) (hT : Tz w) (hF : ¬ F 0) (hn : n ≤ 1048576) (hK : K.length ≤ 64) :
    Calls Tryd.prog 17 #[.pointer (some ⟨b, 0, none⟩)] w fun e w' => e = .returned (.tuple #[]) ∧ Turned (MatS b 0 (hitS (n : Nat) [] (K.map Prod.snd)) K n (some [])) F w w' := by
  obtain ⟨c1, f1, -⟩ := h.cells
  obtain ⟨F1, h1, ho1, hF1⟩ := h.setm 0
  have hF2 : ¬ F1 0 := fun k => by
    rcases hF1 _ k with k | k
    · exact hF k
    · have := hT.1; omega
  have HTL := Lib.hid (h1.tell (bb := []) (hT.only ho1 hF) hF2 0 (by omega) (.inl rfl) (by simp) hn hK)
  have X1 := Lib.hid (And.intro ho1 hF1)
  rw [hitE_eq] at HTL
  obtain ⟨k, hk⟩ : ∃ k, hitS (n : Nat) [] (K.map Prod.snd) = k := ⟨_, rfl⟩
  rw [hk] at HTL ⊢
  clear h h1 ho1 hF1 hT hF hF2 hk
  go_enter Tryd.func17, Tryd.ntmps17
  go_wp2_with fail
  refine HTL.out.mono ?_
  rintro e w2 ⟨rfl, t2⟩
  have T2 := Lib.hid (t2.then_ X1.out.1 X1.out.2)
  clear t2 HTL c1 f1 X1
  obtain ⟨F2, h2, ho2, hF2⟩ := T2.out
  obtain ⟨D, dc, g, hb, hr⟩ := h2.frz
  have e2 : w2.cell? ⟨b, 2, none⟩ = some (.int .i64 (hA st)) := hb.cell 2
  have e3 : w2.cell? ⟨b, 3, none⟩ = some (.int .i64 (hB st)) := hb.cell 3
  have e4 : w2.cell? ⟨b, 4, none⟩ = some (.int .i64 (hT st 0)) := hb.cell 4
  have f2 := hb.frozen 2
  have f3 := hb.frozen 3
  have f4 := hb.frozen 4
  have hb3 := ((hb.set_ 2 (.int .i64 (hA k))).set_ 3 (.int .i64 (hB k))).set_ 4 (.int .i64 (hT k 0))
  have e5 : (((w2.setCell ⟨b, 2, none⟩ (.int .i64 (hA k))).setCell ⟨b, 3, none⟩ (.int .i64 (hB k))).setCell ⟨b, 4, none⟩ (.int .i64 (hT k 0))).cell? ⟨b, 5, none⟩ = some (.bool st.isSome) := hb3.cell 5
  have f5 := hb3.frozen 5
  have Z := Lib.hid ((h2.sets k).then_ ho2 hF2)
  clear h2 ho2 hF2 hb hr hb3 T2
  rw [show hT k ([] : List Nat).length = hT k 0 from rfl]
  generalize hA k = ka at *
  generalize hB k = kb at *
  generalize hT k 0 = kt at *
  go_wp2_with fail
  go_end0
  exact ⟨rfl, Z.out⟩
set_option maxRecDepth 100000 in
set_option maxHeartbeats 4000000 in
theorem Start_m {b m n : Nat} {st : Option (Nat × Nat)} {K : List VB} {came : Option (List Nat)} {F : Nat → Prop} {w : World} (h : MatS b m st K n came F w) :
    Calls Tryd.prog 15 #[.pointer (some ⟨b, 0, none⟩)] w fun e w' => e = .returned (hitE st 0) ∧ Below w.heap.size w w' := by
  have hlt := h.lt
  obtain ⟨D, dc, g, hb, -⟩ := h.frz
  have e2 : ∀ o, (w.alloc o).cell? ⟨b, 2, none⟩ = some (.int .i64 (hA st)) := fun o => (hb.alloc o).cell 2
  have e3 : ∀ o, (w.alloc o).cell? ⟨b, 3, none⟩ = some (.int .i64 (hB st)) := fun o => (hb.alloc o).cell 3
  have e4 : ∀ o, (w.alloc o).cell? ⟨b, 4, none⟩ = some (.int .i64 (hT st 0)) := fun o => (hb.alloc o).cell 4
  have e5 : ∀ o, (w.alloc o).cell? ⟨b, 5, none⟩ = some (.bool st.isSome) := fun o => (hb.alloc o).cell 5
  rw [hitE_eq]
  clear h hb hlt
  generalize hA st = ka at *
  generalize hB st = kb at *
  generalize hT st 0 = kt at *
  generalize st.isSome = ks at *
  go_enter Tryd.func15, Tryd.ntmps15
  go_wp2_with fail
  go_region
  have B3 := Blk.new w 34 #[.int .i64 ka, .int .i64 kb, .int .i64 kt]
  have d0 : (w.alloc (.cells #[.int .i64 ka, .int .i64 kb, .int .i64 kt] 34)).drew.cell? ⟨w.heap.size, 0, none⟩ = some (.int .i64 ka) := B3.cell 0
  have d1 : (w.alloc (.cells #[.int .i64 ka, .int .i64 kb, .int .i64 kt] 34)).drew.cell? ⟨w.heap.size, 1, none⟩ = some (.int .i64 kb) := B3.cell 1
  have d2 : (w.alloc (.cells #[.int .i64 ka, .int .i64 kb, .int .i64 kt] 34)).drew.cell? ⟨w.heap.size, 2, none⟩ = some (.int .i64 kt) := B3.cell 2
  have hX := (Below.refl w.heap.size w).alloc (Nat.le_refl _) (.cells #[.int .i64 ka, .int .i64 kb, .int .i64 kt] 34)
  have X : Hid (Below w.heap.size w (w.alloc (.cells #[.int .i64 ka, .int .i64 kb, .int .i64 kt] 34)).drew) := Lib.hid ⟨hX.os, hX.tape, hX.output, hX.size, hX.block⟩
  clear hX
  clear e2 e3 e4 e5 B3
  go_wp2_with fail
  refine bodyPost_ret (v := .tuple #[.agg #[.int .i64 ka, .int .i64 kb, .int .i64 kt], .bool ks]) (by simp [results, Tryd.results15, go_sem, d0, d1, d2]) rfl ?_
  exact ⟨rfl, X.out⟩
set_option maxRecDepth 100000 in
set_option maxHeartbeats 4000000 in
theorem Feed_m {b n : Nat} {st : Option (Nat × Nat)} {K : List VB} {came : List Nat} {F : Nat → Prop} {w : World} (h : MatS b came.length st K n (some came) F w) (hT : Tz w) (hF : ¬ F 0) (hn : n ≤ 1048576) (hK : K.length ≤ 64) (c : Nat) (hc : c < 256) (hm : came.length ≤ 1073741000) :
    Calls Tryd.prog 16 #[.pointer (some ⟨b, 0, none⟩), .int .u8 (c : Nat)] w fun e w' => e = .returned (hitE (hitS (n : Nat) (came ++ [c]) (K.map Prod.snd)) (came.length + 1)) ∧ Turned (MatS b (came.length + 1) st K n (some (came ++ [c]))) F w w' := by
  have hlF := (matS_framed _ _ _ _ _ _).lt h
  have hb1 : Below w.heap.size w (w.alloc (.cells #[.int .i64 0, .int .i64 0, .int .i64 0] 34)) := (Below.refl _ w).alloc (Nat.le_refl _) _
  have ho1 : Only (fun _ => False) w (w.alloc (.cells #[.int .i64 0, .int .i64 0, .int .i64 0] 34)) := Only.of_below hb1 (Nat.le_refl _) _
  have h1 := (matS_framed _ _ _ _ _ _).only h ho1 (fun _ _ e => e)
  have hT1 := hT.below hb1
  obtain ⟨w1, hw1⟩ : ∃ w1, w1 = w.alloc (.cells #[.int .i64 0, .int .i64 0, .int .i64 0] 34) := ⟨_, rfl⟩
  obtain ⟨hb9, hh⟩ : ∃ h, h = w.heap.size := ⟨_, rfl⟩
  have BH : Blk w1 hb9 34 #[.int .i64 0, .int .i64 0, .int .i64 0] := by rw [hw1, hh]; exact Blk.new _ _ _
  rw [← hw1] at hb1 h1 hT1
  have hsz : w1.heap.size = w.heap.size + 1 := by rw [hw1, World.size_alloc]
  have X0 : TurnX (MatS b came.length st K n (some came)) F w w1 w1 := ⟨F, h1, Only.of_below hb1 (Nat.le_refl _) _, fun _ => .inl, Nat.le_refl _⟩
  obtain ⟨m, hmm⟩ : ∃ m, came.length = m := ⟨_, rfl⟩
  have hlen : (came ++ [c]).length = m + 1 := by rw [List.length_append, hmm]; rfl
  rw [hmm] at h h1 hm X0
  obtain ⟨c1, f1, -⟩ := h1.cells
  obtain ⟨F2, h2, ho2, hF2⟩ := h1.setm (m + 1)
  have X2 : TurnX (MatS b (m + 1) st K n (some came)) F w w1 _ := TurnX.more (Only.of_below hb1 (Nat.le_refl _) F) (fun _ => .inl) (Nat.le_refl _) hb1.size (h1.setm (m + 1))
  have hg1 : ∀ b, F2 b → b ≠ 0 := fun b hb e => by
    subst e
    rcases hF2 _ hb with k | k
    · exact hF k
    · have := hT.1; omega
  have BH2 : Blk (w1.setCell ⟨b, 1, none⟩ (.int .i64 ((m + 1 : Nat) : Int))) hb9 34 #[.int .i64 0, .int .i64 0, .int .i64 0] := BH.far (p := ⟨b, 1, none⟩) (fun e => by have := (h.lt).1; have e2 : hb9 = b := e; omega) _
  have hT2 : Tz (w1.setCell ⟨b, 1, none⟩ (.int .i64 ((m + 1 : Nat) : Int))) := hT1.only ho2 hF
  have h2' : MatS b (came ++ [c]).length st K n (some came) F2 (w1.setCell ⟨b, 1, none⟩ (.int .i64 ((m + 1 : Nat) : Int))) := by rw [hlen]; exact h2
  have HTL := h2'.tell (bb := came ++ [c]) hT2 (fun k => hg1 _ k rfl) c hc (NextOk.one came c) (by rw [hlen]; omega) hn hK
  rw [hlen] at HTL
  rw [hitE_eq] at HTL
  have hF9 : ¬ F2 hb9 := fun k => by
    rcases hF2 _ k with k | k
    · have := hlF _ k; omega
    · omega
  have HH := Lib.hid (And.intro hlF (And.intro hsz (And.intro hh (And.intro ho2 (And.intro hF2 (And.intro hF9 hb1))))))
  rw [hmm, hitE_eq]
  obtain ⟨k, hk⟩ : ∃ k, hitS (n : Nat) (came ++ [c]) (K.map Prod.snd) = k := ⟨_, rfl⟩
  rw [hk] at HTL ⊢
  have HTLL := Lib.hid HTL
  have XX := Lib.hid (And.intro X2 BH2)
  rw [show ((m + 1 : Nat) : Int) = (m : Int) + 1 by omega] at HTLL XX HH
  have q1 : (m : Int) + 1 ≤ 1073742000 := by omega
  clear hlF ho1 h1 hT1 BH hb1 X0 ho2 hF2 X2 hg1 BH2 hT2 h2 h2' HTL hF9 hT hF h hk hmm hlen hsz
  go_enter Tryd.func16, Tryd.ntmps16
  go_upto_region 1 with (fail)
  rw [← hw1, ← hh]
  clear hw1 hh
  go_wp2_with fail
  refine HTLL.out.mono ?_
  rintro e w3 ⟨rfl, t3⟩
  obtain ⟨-, hsz, hh, ho2, hF2, hF9, hb1⟩ := HH.out
  have X3 := TurnX.more ((Only.of_below hb1 (Nat.le_refl _) F).trans ho2 (fun i _ hb => hb)) hF2 (by have := ho2.size; omega) hb1.size t3
  obtain ⟨-, -, ho3, -⟩ := t3
  have B3 := XX.out.2.only ho3 hF9
  have e0 : w3.cell? ⟨hb9, 0, none⟩ = some (.int .i64 0) := B3.cell 0
  have e1 : w3.cell? ⟨hb9, 1, none⟩ = some (.int .i64 0) := B3.cell 1
  have e2 : w3.cell? ⟨hb9, 2, none⟩ = some (.int .i64 0) := B3.cell 2
  have f0 := B3.frozen 0
  have f1' := B3.frozen 1
  have f2 := B3.frozen 2
  have B4 := ((B3.set_ 0 (.int .i64 (hA k))).set_ 1 (.int .i64 (hB k))).set_ 2 (.int .i64 (hT k (m + 1)))
  have d0 : (((w3.setCell ⟨hb9, 0, none⟩ (.int .i64 (hA k))).setCell ⟨hb9, 1, none⟩ (.int .i64 (hB k))).setCell ⟨hb9, 2, none⟩ (.int .i64 (hT k (m + 1)))).cell? ⟨hb9, 0, none⟩ = some (.int .i64 (hA k)) := by rw [B4.cell]; rfl
  have d1 : (((w3.setCell ⟨hb9, 0, none⟩ (.int .i64 (hA k))).setCell ⟨hb9, 1, none⟩ (.int .i64 (hB k))).setCell ⟨hb9, 2, none⟩ (.int .i64 (hT k (m + 1)))).cell? ⟨hb9, 1, none⟩ = some (.int .i64 (hB k)) := by rw [B4.cell]; rfl
  have d2 : (((w3.setCell ⟨hb9, 0, none⟩ (.int .i64 (hA k))).setCell ⟨hb9, 1, none⟩ (.int .i64 (hB k))).setCell ⟨hb9, 2, none⟩ (.int .i64 (hT k (m + 1)))).cell? ⟨hb9, 2, none⟩ = some (.int .i64 (hT k (m + 1))) := by rw [B4.cell]; rfl
  have hge : w.heap.size ≤ hb9 := by omega
  have hnF : ¬ F hb9 := fun k => by have := HH.out.1 _ k; omega
  have hlt9 : hb9 < w1.heap.size := by omega
  have fS := matS_framed b (m + 1) st K n (some (came ++ [c]))
  have T3 := Lib.hid ((((X3.put fS (p := ⟨hb9, 0, none⟩) hge hlt9 hnF (.int .i64 (hA k))).put fS (p := ⟨hb9, 1, none⟩) hge hlt9 hnF (.int .i64 (hB k))).put fS (p := ⟨hb9, 2, none⟩) hge hlt9 hnF (.int .i64 (hT k (m + 1)))).out hb1.size)
  clear hsz hh ho2 hF2 hF9 hb1 X3 ho3 B3 B4 hge hnF hlt9 fS c1 f1
  go_wp2_with fail
  refine bodyPost_ret (v := .tuple #[.agg #[.int .i64 (hA k), .int .i64 (hB k), .int .i64 (hT k (m + 1))], .bool k.isSome]) (by simp [results, Tryd.results16, go_sem, d0, d1, d2]) rfl ?_
  exact ⟨rfl, T3.out⟩
end Go.Proofs.YtcipljpalohjiaaDoor
namespace Go.Proofs.YtcipljpalohjiaaDoor
open Go.RowKit

/-- A matcher that is being made: its struct is block m. -/
structure NwS (w W : World) (m n : Nat) (K : List VB) (A : Option Addr) (c : Nat) (g : Option Nat) (F : Nat → Prop) : Prop where
  m0 : w.heap.size ≤ m
  blk : Blk W m 53 #[.slice A K.length c, .int .i64 0, .int .i64 0, .int .i64 0, .int .i64 0, .bool false]
  row : Row W 55 g (.slice A K.length c) (K.map Prod.fst)
  gn : ∀ b, g = some b → w.heap.size ≤ b
  st : Stars (lks K n none) F W
  fn : ∀ b, F b → w.heap.size ≤ b
  fm : ¬ F m
  fg : ∀ b, g = some b → ¬ F b
  below : Below w.heap.size w W
section
variable {w W W1 W' : World} {m n c c' : Nat} {K : List VB} {A A' : Option Addr} {g g' : Option Nat} {F F2 : Nat → Prop} {v : Value} {x : Brc}
theorem NwS.keep (h : NwS w W m n K A c g F) (hb : Below W.heap.size W W1) : NwS w W1 m n K A c g F :=
  { h with blk := h.blk.below hb h.blk.lt, row := h.row.below hb (fun _ e => h.row.lt e), st := (Stars.framed (lks_framed K n none)).only h.st (Only.of_below hb (Nat.le_refl _) (fun _ => False)) (fun _ _ e => e), below := h.below.trans (hb.mono h.below.size) }
theorem NwS.push (h : NwS w W m n K A c g F) (hb : Below W.heap.size W W1) (hv : LookT v x n none F2 W1) (hF : ∀ b, F2 b → W.heap.size ≤ b) (o : Obj)
    (hr : Row W' 55 g' (.slice A' (K.length + 1) c') (K.map Prod.fst ++ [v])) (hgr : (W1.alloc o).grownBy W' g) (hg' : g' = g ∨ g' = some (W1.alloc o).heap.size) :
    NwS w (W'.setCell ⟨m, 0, none⟩ (.slice A' (K.length + 1) c')) m n (K ++ [(v, x)]) A' c' g' (fun b => F b ∨ F2 b) := by
  have h1 := h.keep hb
  have hltF := (Stars.framed (lks_framed K n none)).lt h.st
  have hltF2 := (look_framed v x n none).lt hv
  have hs := hb.size
  have hlm := h.blk.lt
  have s2 := Stars.snoc (lks_framed K n none) h1.st hv (fun b k1 k2 => by have := hltF b k1; have := hF b k2; omega) hltF2
  have e : lks K n none ++ [LookT v x n none] = lks (K ++ [(v, x)]) n none := by simp [lks]
  rw [e] at s2
  have ho : Only (fun b => g = some b) W1 W' := ((Only.refl _ W1).alloc o).grown hgr (fun k hk => .inl hk)
  have hgm : g ≠ some m := h.row.ne_ h.blk (by decide)
  have hb2 := h1.blk.only ho hgm
  have hg'm : g' ≠ some m := by
    rcases hg' with rfl | rfl
    · exact hgm
    · intro e; simp at e; omega
  have hF2m : ∀ b, F2 b → b ≠ m := fun b k e => by have := hF b k; omega
  have ho2 : Only (fun b => g = some b ∨ b = m) W1 (W'.setCell ⟨m, 0, none⟩ (.slice A' (K.length + 1) c')) := (ho.mono (fun i _ k => .inl k)).setCell (p := ⟨m, 0, none⟩) (.inl (.inr rfl)) _
  have fr := Stars.framed (lks_framed (K ++ [(v, x)]) n none)
  refine ⟨h.m0, ?_, ?_, fun b e => ?_, fr.only s2 ho2 (fun b k e => ?_), fun b k => ?_, fun k => ?_, fun b e k => ?_, ?_⟩
  · have := hb2.set_ 0 (.slice A' (K.length + 1) c')
    rw [List.length_append, List.length_singleton]
    simpa using this
  · have := hr.far (p := ⟨m, 0, none⟩) hg'm (.slice A' (K.length + 1) c')
    rw [List.length_append, List.length_singleton, List.map_append]
    exact this
  · rcases hg' with rfl | rfl
    · exact h.gn b e
    · have := h1.below.size; simp at e; omega
  · rcases k with k | k
    · rcases e with e | e
      · exact h.fg b e k
      · subst e; exact h.fm k
    · rcases e with e | e
      · have := h.row.lt e; have := hF b k; omega
      · exact hF2m b k e
  · rcases k with k | k
    · exact h.fn b k
    · have := hF b k; have := h.below.size; omega
  · rcases k with k | k
    · exact h.fm k
    · exact hF2m m k rfl
  · rcases hg' with rfl | rfl
    · rcases k with k | k
      · exact h.fg b e k
      · have := h.row.lt e; have := hF b k; omega
    · simp at e
      rcases k with k | k
      · have := hltF b k; omega
      · have := hltF2 b k; omega
  · have b1 : Below w.heap.size w W' := ho.more' h1.below (fun i hi e => by have := h.gn i e; omega)
    exact below_put b1 (p := ⟨m, 0, none⟩) h.m0 _
theorem NwS.mat (h : NwS w W m n K A c g F) : ∃ G, MatS m 0 none K n none G W ∧ ∀ b, G b → w.heap.size ≤ b := by
  have hltF := (Stars.framed (lks_framed K n none)).lt h.st
  refine ⟨fun b => (b = m ∨ g = some b) ∨ F b, ⟨fun b => b = m ∨ g = some b, F, ⟨⟨fun b hb => ?_, .inl rfl, A, c, g, h.blk, h.row, fun b e => .inr e⟩, h.st, fun b hb hf => ?_, fun _ => Iff.rfl⟩⟩, fun b hb => ?_⟩
  · rcases hb with rfl | hb
    · exact h.blk.lt
    · exact h.row.lt hb
  · rcases hb with rfl | hb
    · exact h.fm hf
    · exact h.fg b hb hf
  · rcases hb with (rfl | hb) | hb
    · exact h.m0
    · exact h.gn b hb
    · exact h.fn b hb
end
theorem look_info : (Tryd.prog.info? 55).map (fun i => (i.zero, i.size, i.bytes)) = some (some .nilFunc, 1, 8) := by kernel_rfl

/-- What New tells. -/
def NewM (z : Int) (l : List Brc) (w : World) (e : Ending) (w' : World) : Prop :=
  checkS z l ≠ 0 ∧ e = .returned (.tuple #[.pointer none, .int .i64 (checkS z l : Nat)]) ∧ Below w.heap.size w w' ∨
  checkS z l = 0 ∧ ∃ b F K, e = .returned (.tuple #[.pointer (some ⟨b, 0, none⟩), .int .i64 0]) ∧ K.map Prod.snd = l ∧ MatS b 0 (hitS (z.toNat : Nat) [] l) K z.toNat (some []) F w' ∧ (∀ x, F x → w.heap.size ≤ x) ∧ Below w.heap.size w w'
set_option maxRecDepth 100000 in
set_option maxHeartbeats 8000000 in
theorem New_m {S : Nat → Prop} (z : Int) (v : Value) (l : List Brc) (w : World) (h : Brs S w v l) (hx : ∀ x ∈ l, BrIn x) (hT : Tz w) :
    Calls Tryd.prog 11 #[.int .i64 z, v] w (NewM z l w) := by
  obtain ⟨i0, hi0, hz0, hz1_, hz2⟩ := info_parts look_info
  obtain ⟨D, dc, rfl, -⟩ := h.form
  have HB := Lib.hid h
  have HX := Lib.hid (And.intro hx hT)
  clear h hx hT
  by_cases hz : z < 1 ∨ 1048576 < z
  · have HC : Hid (checkS z l = 3) := Lib.hid (by unfold checkS; rw [if_pos hz])
    by_cases h1 : z < 1
    · go_enter Tryd.func11, Tryd.ntmps11
      go_wp2_with fail
      go_ret2
      exact .inl ⟨by rw [HC.out]; decide, by rw [HC.out]; rfl, Below.refl _ _⟩
    · have h2 : 1048576 < z := by omega
      go_enter Tryd.func11, Tryd.ntmps11
      go_wp2_with fail
      go_ret2
      exact .inl ⟨by rw [HC.out]; decide, by rw [HC.out]; rfl, Below.refl _ _⟩
  obtain ⟨n, hn⟩ : ∃ n : Nat, z = n := ⟨z.toNat, by omega⟩
  subst hn
  have hz1 : ¬ ((n : Int) < 1) := by omega
  have hz2' : ¬ ((1048576 : Int) < (n : Int)) := by omega
  have hnn : n ≤ 1048576 := by omega
  by_cases hl : 64 < l.length
  · have HC : Hid (checkS (n : Nat) l = 10) := Lib.hid (by unfold checkS; rw [if_neg hz, if_pos hl])
    have hl' : (64 : Int) < (l.length : Int) := by omega
    have r0 : decide (64 < l.length) = true := decide_eq_true hl
    clear hz
    go_enter Tryd.func11, Tryd.ntmps11
    go_wp2_with fail
    go_ret2
    exact .inl ⟨by rw [HC.out]; decide, by rw [HC.out]; rfl, Below.refl _ _⟩
  have HC : Hid (checkS (n : Nat) l = wrongsB l) := Lib.hid (by unfold checkS; rw [if_neg hz, if_neg hl])
  have hl' : ¬ (64 : Int) < (l.length : Int) := by omega
  have r0 : decide (64 < l.length) = false := decide_eq_false hl
  have hl2 : l.length ≤ 64 := by omega
  have S0 : Hid (NwS w (w.alloc (.cells #[.slice none 0 0, .int .i64 0, .int .i64 0, .int .i64 0, .int .i64 0, .bool false] 53)) w.heap.size n [] none 0 none (fun _ => False)) := Lib.hid
    ⟨Nat.le_refl _, Blk.new _ _ _, Row.nil _ _, by simp, fun _ e => e.elim, fun _ e => e.elim, fun e => e, by simp, (Below.refl _ w).alloc (Nat.le_refl _) _⟩
  clear hz hl
  go_enter Tryd.func11, Tryd.ntmps11
  go_wp2_with fail
  go_loopw [24] (fun iv wr => ∃ (i : Nat) (K : List VB) (A : Option Addr) (c : Nat) (g : Option Nat) (F : Nat → Prop), i ≤ l.length ∧ K.length = i ∧ iv = .int .i64 (i : Nat) ∧ Hid (K.map Prod.snd = l.take i) ∧ Hid (wrongsB (l.take i) = 0) ∧ Hid (NwS w wr w.heap.size n K A c g F)) (fun iv _ => l.length - (intOf iv).toNat)
  case atStart => exact ⟨0, [], none, 0, none, _, by omega, rfl, rfl, Lib.hid rfl, Lib.hid rfl, S0⟩
  case round =>
    obtain ⟨i, K, A, c, g, F, hi, hKi, rfl, HK, HW, HS⟩ := hrel
    have HKI := Lib.hid hKi
    have hK64 : K.length ≤ 64 := by omega
    clear S0 hKi
    by_cases hlt : i < l.length
    · obtain ⟨x, hx⟩ : ∃ x, l[i]? = some x := ⟨_, List.getElem?_eq_getElem hlt⟩
      have r1 : decide ((i : Int) < (l.length : Int)) = true := decide_eq_true (by omega)
      obtain ⟨bb, o, rfl, -, c0, c1⟩ := (SlI.below brc_ok HB.out HS.out.below).at_ hx
      have hba : Below wr.heap.size wr (wr.alloc (.cells #[.int .i64 x.kind, .string (str x.pat)] 45)) := (Below.refl _ wr).alloc (Nat.le_refl _) _
      have HF := Lib.hid (lookFor_is x n (HX.out.1 x (List.mem_of_getElem? hx)) hnn (wr.alloc (.cells #[.int .i64 x.kind, .string (str x.pat)] 45)) (Nat.lt_of_lt_of_le HX.out.2.1 (Nat.le_trans HS.out.below.size (by simp))))
      have HXX := Lib.hid hx
      have HBA := Lib.hid hba
      clear hx hba
      go_wp2_with fail
      refine HF.out.mono ?_
      rintro e w2 ⟨v, rfl, hb2, hcase⟩
      have X2 := Lib.hid (HBA.out.trans (hb2.mono HBA.out.size))
      rcases hcase with ⟨hne, rfl⟩ | ⟨hw0, F2, hv, hF2⟩
      · have HNE := Lib.hid hne
        have qe : ((wrongB x : Int) != 0) = true := by simpa using hne
        have HWT : Hid (wrongsB l = wrongB x) := Lib.hid (by rw [wrongs_take HXX.out HW.out, if_neg hne])
        clear hne hb2 HF
        generalize wrongB x = er at *
        go_wp2_with fail
        go_ret2
        refine .inl ⟨by rw [HC.out, HWT.out]; exact HNE.out, by rw [HC.out, HWT.out]; rfl, HS.out.below.trans (X2.out.mono HS.out.below.size)⟩
      · have HV := Lib.hid (And.intro hv (fun b hb => (Nat.le_trans HBA.out.size (hF2 b hb) : wr.heap.size ≤ b)))
        have HWN := Lib.hid (wrongs_next HXX.out HW.out hw0)
        obtain ⟨fo, fj, cb, rfl⟩ := hv.val
        rw [hw0]
        have S2 := Lib.hid (HS.out.keep X2.out)
        have cm := S2.out.blk.cell 0
        have cm0 : ∀ o, (w2.alloc o).cell? ⟨w.heap.size, 0, none⟩ = some (.slice A K.length c) := fun o => (S2.out.blk.alloc o).cell 0
        have cm1 : w2.cell? ⟨w.heap.size, 0, none⟩ = some (.slice A K.length c) := S2.out.blk.cell 0
        have hgm := S2.out.row.ne_ S2.out.blk (by decide)
        have HQ : Hid (∀ o (W' : World), (w2.alloc o).grownBy W' g → W'.frozen? ⟨w.heap.size, 0, none⟩ = false ∧ ∃ u, W'.cell? ⟨w.heap.size, 0, none⟩ = some u) := Lib.hid fun o W' hgr => by
          have := (S2.out.blk.alloc o).only (((Only.refl (fun b => g = some b) _).grown hgr (fun k hk => .inl hk))) hgm
          exact ⟨this.frozen 0, _, this.cell 0⟩
        have ll : (K.map Prod.fst).length = K.length := List.length_map _
        have LL := Lib.hid ll
        clear hb2 HF hv hF2 hw0 cm hgm ll
        go_wp2_with (at_builtin; refine wpList_append_row _ rfl (.tmp 41) (.tmp 43) _ rfl 55 i0 _ 8 Tryd.underlying51 hi0 hz0 hz1_ hz2 rfl g _ (K.map Prod.fst) rfl (S2.out.row.alloc _) _ [.func fo fj cb] rfl (Rd.single w2 55 (.func fo fj cb) rfl) (by rw [LL.out]; simp only [maxLen, List.length_singleton]; omega) (by rw [LL.out]; simp only [List.length_singleton]; omega) ?_; intro A' c' w7 gn hrow hgr hgn; rw [LL.out] at hrow ⊢; have Y := Lib.hid (And.intro hrow (And.intro hgr hgn)); obtain ⟨f7, u7, c7⟩ := HQ.out _ _ hgr; clear hrow hgr hgn)
        go_roundw
        case rel =>
          refine ⟨i + 1, K ++ [(.func fo fj cb, x)], A', c', gn, _, by omega, by rw [List.length_append, HKI.out]; rfl, by go_num, Lib.hid ?_, Lib.hid HWN.out, Lib.hid (HS.out.push X2.out HV.out.1 HV.out.2 _ Y.out.1 Y.out.2.1 Y.out.2.2)⟩
          rw [List.map_append, HK.out, List.take_add_one, HXX.out]
          rfl
        case measure => simp [intOf]; omega
    · obtain rfl : i = l.length := by omega
      have r1 : decide ((l.length : Int) < (l.length : Int)) = false := decide_eq_false (by omega)
      have hKl : K.map Prod.snd = l := by rw [HK.out, List.take_of_length_le (Nat.le_refl _)]
      have hwl : wrongsB l = 0 := by have := HW.out; rwa [List.take_of_length_le (Nat.le_refl _)] at this
      obtain ⟨G, hm, hG⟩ := HS.out.mat
      have hgG : ¬ G 0 := fun k => by have := hG _ k; have := HX.out.2.1; omega
      have HRS := Lib.hid (Reset_m hm (HX.out.2.below HS.out.below) hgG hnn hK64)
      rw [hKl] at HRS
      have HG := Lib.hid (And.intro hG (And.intro hKl hwl))
      clear hm hG hgG hKl hwl
      go_wp2_with fail
      refine HRS.out.mono ?_
      rintro e w3 ⟨rfl, t3⟩
      have T3 := Lib.hid t3
      clear t3 HRS
      go_wp2_with fail
      go_ret2
      obtain ⟨G3, hm3, ho3, hG3⟩ := T3.out
      have hsz := HS.out.below.size
      refine .inr ⟨by rw [HC.out]; exact HG.out.2.2, _, G3, K, rfl, HG.out.2.1, by rw [Int.toNat_natCast]; exact hm3, fun y hy => ?_, ho3.more' HS.out.below (fun i hi k => by have := HG.out.1 i k; omega)⟩
      rcases hG3 y hy with k | k
      · exact HG.out.1 y k
      · omega
end Go.Proofs.YtcipljpalohjiaaDoor
namespace Go.Proofs.YtcipljpalohjiaaDoor
open Go.RowKit

/-- The table, for a world that stands in the context. -/
class TzW (w : World) : Prop where
  out : Tz w
def firstG (k : Option (Nat × Nat × Nat)) : Value := match k with | some (i, f, e) => .agg #[.int .i64 ((i : Nat) : Int), .int .i64 ((f : Nat) : Int), .int .i64 ((e : Nat) : Int)] | none => .agg #[.int .i64 0, .int .i64 0, .int .i64 0]
def firstE (k : Option (Nat × Nat × Nat)) (z : Nat) : Value := .tuple #[firstG k, .bool k.isSome, .int .i64 (z : Nat)]

/-- A matcher in block b: its number, its branches, what came. -/
def MatT (b n : Nat) (l : List Brc) (came : List Nat) : Thing := fun F W => ¬ F 0 ∧ n ≤ 1048576 ∧ l.length ≤ 64 ∧ ∃ K, K.map Prod.snd = l ∧ MatS b came.length (hitS (n : Nat) [] l) K n (some came) F W
theorem mat_framed (b n : Nat) (l : List Brc) (came : List Nat) : Framed (MatT b n l came) := by
  constructor
  · rintro F S w w' ⟨h1, h2, h3, K, h4, h⟩ ho hd
    exact ⟨h1, h2, h3, K, h4, (matS_framed _ _ _ _ _ _).only h ho hd⟩
  · rintro F w ⟨h1, h2, h3, K, h4, h⟩; exact (matS_framed _ _ _ _ _ _).lt h
theorem new_own {F : Nat → Prop} {w : World} (hT : Tz w) (h : ∀ x, F x → w.heap.size ≤ x) : ¬ F 0 := fun k => by have := h _ k; have := hT.1; omega
theorem New_ok {S : Nat → Prop} (n : Nat) (v : Value) (l : List Brc) (w : World) (hT : Tz w) (h : Brs S w v l) (hx : ∀ x ∈ l, BrIn x) (hc : checkS (n : Nat) l = 0) :
    Calls Tryd.prog 11 #[.int .i64 (n : Nat), v] w fun e w' => ∃ b F, e = .returned (.tuple #[.pointer (some ⟨b, 0, none⟩), .int .i64 0]) ∧ MatT b n l [] F w' ∧ (∀ x, F x → w.heap.size ≤ x) ∧ Below w.heap.size w w' := by
  obtain ⟨c1, c2, c3, c4⟩ := check_zero hc
  refine (New_m n v l w h hx hT).mono ?_
  rintro e w' (⟨h1, _⟩ | ⟨_, b, F, K, he, hK, hm, hF, hb⟩)
  · exact absurd hc h1
  · rw [Int.toNat_natCast] at hm
    exact ⟨b, F, he, ⟨new_own hT hF, by omega, c3, K, hK, hm⟩, hF, hb⟩
theorem New_bad {S : Nat → Prop} (z : Int) (v : Value) (l : List Brc) (w : World) (hT : Tz w) (h : Brs S w v l) (hx : ∀ x ∈ l, BrIn x) (hc : checkS z l ≠ 0) :
    Calls Tryd.prog 11 #[.int .i64 z, v] w fun e w' => e = .returned (.tuple #[.pointer none, .int .i64 (checkS z l : Nat)]) ∧ Below w.heap.size w w' := by
  refine (New_m z v l w h hx hT).mono ?_
  rintro e w' (⟨_, he, hb⟩ | ⟨h1, _⟩)
  · exact ⟨he, hb⟩
  · exact absurd h1 hc
theorem Turned.own_ {P : Thing} {F : Nat → Prop} {w w' : World} (t : Turned P F w w') (hT : Tz w) (hF : ¬ F 0) : Turned (fun G W => ¬ G 0 ∧ P G W) F w w' := by
  obtain ⟨G, hp, ho, hG⟩ := t
  refine ⟨G, ⟨fun k => ?_, hp⟩, ho, hG⟩
  rcases hG _ k with k | k
  · exact hF k
  · have := hT.1; omega
section
variable {b n : Nat} {l : List Brc} {came : List Nat} {F : Nat → Prop} {w : World}
theorem Start_is (h : MatT b n l came F w) :
    Calls Tryd.prog 15 #[.pointer (some ⟨b, 0, none⟩)] w fun e w' => e = .returned (hitE (hitS (n : Nat) [] l) 0) ∧ Turned (MatT b n l came) F w w' := by
  obtain ⟨h1, h2, h3, K, h4, hm⟩ := h
  exact (Start_m hm).mono fun e w' ⟨he, hb⟩ => ⟨he, (Turned.refl (P := MatT b n l came) ⟨h1, h2, h3, K, h4, hm⟩).keep (mat_framed _ _ _ _) hb⟩
theorem Feed_is (h : MatT b n l came F w) (hT : Tz w) (c : Nat) (hc : c < 256) (hm : came.length ≤ 1073741000) :
    Calls Tryd.prog 16 #[.pointer (some ⟨b, 0, none⟩), .int .u8 (c : Nat)] w fun e w' => e = .returned (hitE (hitS (n : Nat) (came ++ [c]) l) (came.length + 1)) ∧ Turned (MatT b n l (came ++ [c])) F w w' := by
  obtain ⟨h1, h2, h3, K, h4, hS⟩ := h
  subst h4
  rw [List.length_map] at h3
  refine (Feed_m hS hT h1 h2 h3 c hc hm).mono fun e w' ⟨he, t⟩ => ⟨he, (t.own_ hT h1).imp fun G ⟨g1, g2⟩ => ⟨g1, h2, by rw [List.length_map]; exact h3, K, rfl, ?_⟩⟩
  rw [List.length_append, List.length_singleton]
  exact g2
theorem Reset_is (h : MatT b n l came F w) (hT : Tz w) :
    Calls Tryd.prog 17 #[.pointer (some ⟨b, 0, none⟩)] w fun e w' => e = .returned (.tuple #[]) ∧ Turned (MatT b n l []) F w w' := by
  obtain ⟨h1, h2, h3, K, h4, hS⟩ := h
  subst h4
  rw [List.length_map] at h3
  exact (Reset_m hS hT h1 h2 h3).mono fun e w' ⟨he, t⟩ => ⟨he, (t.own_ hT h1).imp fun G ⟨g1, g2⟩ => ⟨g1, h2, by rw [List.length_map]; exact h3, K, rfl, g2⟩⟩
end
set_option maxRecDepth 100000 in
set_option maxHeartbeats 1000000 in
theorem NReset_is (w : World) : Calls Tryd.prog 17 #[.pointer none] w fun e w' => e = .returned (.tuple #[]) ∧ Below w.heap.size w w' := by
  go_enter Tryd.func17, Tryd.ntmps17
  go_wp2
  go_end0
  exact ⟨rfl, Below.refl _ _⟩
set_option maxRecDepth 100000 in
set_option maxHeartbeats 1000000 in
theorem NStart_is (w : World) : Calls Tryd.prog 15 #[.pointer none] w fun e w' => e = .returned (hitE none 0) ∧ Below w.heap.size w w' := by
  have b1 := Blk.new w 34 #[.int .i64 0, .int .i64 0, .int .i64 0]
  have d0 := b1.cell 0
  have d1 := b1.cell 1
  have d2 := b1.cell 2
  simp only [List.getElem?_toArray, List.getElem?_cons_zero, List.getElem?_cons_succ] at d0 d1 d2
  have X := Lib.hid ((Below.refl _ w).alloc (Nat.le_refl _) (.cells #[.int .i64 0, .int .i64 0, .int .i64 0] 34))
  clear b1
  go_enter Tryd.func15, Tryd.ntmps15
  go_wp2_with fail
  refine bodyPost_ret (v := .tuple #[.agg #[.int .i64 0, .int .i64 0, .int .i64 0], .bool false]) (by simp [results, Tryd.results15, go_sem, d0, d1, d2]) rfl ?_
  exact ⟨rfl, X.out⟩
set_option maxRecDepth 100000 in
set_option maxHeartbeats 1000000 in
theorem NFeed_is (c : Int) (w : World) : Calls Tryd.prog 16 #[.pointer none, .int .u8 c] w fun e w' => e = .returned (hitE none 0) ∧ Below w.heap.size w w' := by
  have b1 := Blk.new w 34 #[.int .i64 0, .int .i64 0, .int .i64 0]
  have d0 := b1.cell 0
  have d1 := b1.cell 1
  have d2 := b1.cell 2
  simp only [List.getElem?_toArray, List.getElem?_cons_zero, List.getElem?_cons_succ] at d0 d1 d2
  have X := Lib.hid ((Below.refl _ w).alloc (Nat.le_refl _) (.cells #[.int .i64 0, .int .i64 0, .int .i64 0] 34))
  clear b1
  go_enter Tryd.func16, Tryd.ntmps16
  go_wp2_with fail
  refine bodyPost_ret (v := .tuple #[.agg #[.int .i64 0, .int .i64 0, .int .i64 0], .bool false]) (by simp [results, Tryd.results16, go_sem, d0, d1, d2]) rfl ?_
  exact ⟨rfl, X.out⟩

/-! ### First -/
theorem Has.callM {P P' : Thing} {N : Nat → Prop} {w0 w : World} {f : FuncId} {args : Array Value} {φ : Ending → Prop} (h : Has P N w0 w) (k : ∀ F, P F w → Calls Tryd.prog f args w fun e w' => φ e ∧ Turned P' F w w') : Calls Tryd.prog f args w fun e w' => φ e ∧ Has P' N w0 w' ∧ Stay N w w' := by
  obtain ⟨F, h⟩ := h
  refine (k F h.it).mono ?_
  rintro e w' ⟨he, ht⟩
  exact ⟨he, h.turn ht⟩
def firstK (k : Option (Nat × Nat)) (e : Nat) : Option (Nat × Nat × Nat) := k.map fun p => (p.1, p.2, e)
theorem firstK_E (k : Option (Nat × Nat)) (e z : Nat) : firstE (firstK k e) z = .tuple #[.agg #[.int .i64 (hA k), .int .i64 (hB k), .int .i64 (hT k e)], .bool k.isSome, .int .i64 (z : Nat)] := by cases k <;> rfl
set_option maxRecDepth 100000 in
set_option maxHeartbeats 8000000 in
theorem First_is {S : Nat → Prop} (z : Int) (A : Option Addr) (c : Nat) (b : List Nat) (v : Value) (l : List Brc) (w : World) (hT : Tz w) (hb : Rd w (.slice A b.length c) (bv b)) (hbb : ∀ d ∈ b, d < 256) (hbl : b.length ≤ 1048576) (h : Brs S w v l) (hx : ∀ x ∈ l, BrIn x) :
    Calls Tryd.prog 18 #[.int .i64 z, .slice A b.length c, v] w fun e w' => e = .returned (firstE (if checkS z l = 0 then firstHit z b l else none) (checkS z l)) ∧ Below w.heap.size w w' := by
  obtain ⟨D, dc, rfl, -⟩ := h.form
  have hb1 : Below w.heap.size w (w.alloc (.cells #[.int .i64 0, .int .i64 0, .int .i64 0] 34)) := (Below.refl _ w).alloc (Nat.le_refl _) _
  have hT1 := hT.below hb1
  have hB1 := SlI.below brc_ok h hb1
  have R0 := Blk.new w 34 #[.int .i64 0, .int .i64 0, .int .i64 0]
  obtain ⟨w1, hw1⟩ : ∃ w1, w1 = w.alloc (.cells #[.int .i64 0, .int .i64 0, .int .i64 0] 34) := ⟨_, rfl⟩
  obtain ⟨rb, hrb⟩ : ∃ rb, rb = w.heap.size := ⟨_, rfl⟩
  rw [← hw1] at hb1 hT1 hB1 R0
  rw [← hrb] at R0
  have hsz : w1.heap.size = w.heap.size + 1 := by rw [hw1, World.size_alloc]
  have HB1 := Lib.hid (And.intro hb1 (And.intro hsz hrb))
  have R1 := Lib.hid R0
  have HR := Lib.hid (And.intro hb (And.intro hbb hT))
  by_cases hc : checkS z l = 0
  · obtain ⟨q1, q2, q3, q4⟩ := check_zero hc
    obtain ⟨n, hn⟩ : ∃ n : Nat, z = n := ⟨z.toNat, by omega⟩
    subst hn
    have HN := Lib.hid (New_ok n (.slice D l.length dc) l w1 hT1 hB1 hx hc)
    rw [if_pos hc, hc]
    clear hT1 hB1 hT h hx hb hbb hb1 R0 hsz hc q1 q2 q3 q4
    go_enter Tryd.func18, Tryd.ntmps18
    go_upto_region 1 with (fail)
    rw [← hw1, ← hrb]
    clear hw1 hrb
    go_wp2_with fail
    refine HN.out.mono ?_
    rintro e w2 ⟨q, F, rfl, hm, hF, hb2⟩
    have hlt1 := R1.out.lt
    have X2 : Hid (Has (MatT q n l []) (fun x => x = rb) w w2) := Lib.hid ⟨F, hm, fun x k => by have := hF x k; have := HB1.out.1.size; omega, fun x k => ⟨fun k2 => by have := hF x k2; omega, by have := hb2.size; omega⟩, HB1.out.1.trans (hb2.mono HB1.out.1.size)⟩
    have R2 := Lib.hid (R1.out.below hb2 R1.out.lt)
    have HS := Lib.hid (X2.out.callM fun G k => Start_is k)
    clear hm hF hb2 HN hlt1
    go_wp2_with fail
    refine HS.out.mono ?_
    rintro e w3 ⟨rfl, hX3, hst⟩
    have R3 := Lib.hid (R2.out.keep (hst rb rfl))
    rw [hitE_eq]
    obtain ⟨k0, hk0⟩ : ∃ k0, hitS (n : Nat) [] l = k0 := ⟨_, rfl⟩
    rw [hk0]
    have HK0 := Lib.hid hk0
    have X4 := Lib.hid (hX3.more (mat_framed _ _ _ _) (.cells (hitC k0 0) 34))
    have R4 := Lib.hid (R3.out.alloc (.cells (hitC k0 0) 34))
    have H4 := Lib.hid (Blk.new w3 34 (hitC k0 0))
    have hh0 := R3.out.lt
    have HLT := Lib.hid hh0
    clear hX3 hst hk0 HS X2 R2 R3 hh0
    obtain ⟨hb9, hh⟩ : ∃ h, h = w3.heap.size := ⟨_, rfl⟩
    rw [← hh] at X4 H4 HLT
    obtain ⟨w4, hw4⟩ : ∃ w4, w4 = w3.alloc (.cells (hitC k0 0) 34) := ⟨_, rfl⟩
    rw [← hw4] at X4 R4 H4
    go_upto_region 5 with (fail)
    rw [show (w3.alloc (.cells #[.int .i64 (hA k0), .int .i64 (hB k0), .int .i64 (hT k0 0)] 34)) = w4 from hw4.symm, ← hh]
    clear hh hw4
    go_wp2_with fail
    go_loopw [12, 13] (fun ok iv wr => ∃ (i : Nat) (k : Option (Nat × Nat)), i ≤ b.length ∧ ok = .bool k.isSome ∧ iv = .int .i64 (i : Nat) ∧ Hid (hitS (n : Nat) (b.take i) l = k) ∧ Hid (∀ e, e < i → hitS (n : Nat) (b.take e) l = none) ∧ Hid (Has (MatT q n l (b.take i)) (fun x => x = rb ∨ x = hb9) w wr) ∧ Hid (Blk wr hb9 34 (hitC k i)) ∧ Hid (Blk wr rb 34 #[.int .i64 0, .int .i64 0, .int .i64 0])) (fun _ iv _ => b.length - (intOf iv).toNat)
    case atStart => exact ⟨0, k0, by omega, rfl, rfl, HK0, Lib.hid (fun e he => by omega), X4, H4, R4⟩
    case round =>
      obtain ⟨i, k, hi, rfl, rfl, HK, HNO, HX, HH, HRB⟩ := hrel
      clear X4 H4 R4 HK0
      by_cases hlt : k = none ∧ i < b.length
      · obtain ⟨rfl, hlt⟩ := hlt
        have r1 : decide ((i : Int) < (b.length : Int)) = true := decide_eq_true (by omega)
        obtain ⟨bb, oo, d, hA, hcd, hd⟩ := (HR.out.1.kept HX.out.below).byteAt hlt
        have hd2 : b[i]? = some d := by simpa using hd
        have hd256 := HR.out.2.1 d (List.mem_of_getElem? hd2)
        have htk : b.take (i + 1) = b.take i ++ [d] := by rw [List.take_add_one, hd2]; rfl
        have hln : (b.take i).length = i := by rw [List.length_take]; omega
        have HF := Lib.hid (HX.out.callM fun G k => Feed_is k (HR.out.2.2.below HX.out.below) d hd256 (by rw [hln]; omega))
        rw [hln, ← htk, hitE_eq] at HF
        obtain ⟨k2, hk2⟩ : ∃ k2, hitS (n : Nat) (b.take (i + 1)) l = k2 := ⟨_, rfl⟩
        rw [hk2] at HF
        have HK2 := Lib.hid hk2
        subst hA
        clear hd hd2 htk hln hk2
        go_wp2_with fail
        refine HF.out.mono ?_
        rintro e w5 ⟨rfl, hX5, hst⟩
        have R5 := Lib.hid (HRB.out.keep (hst rb (.inl rfl)))
        have B5 := HH.out.keep (hst hb9 (.inr rfl))
        have e0 : w5.cell? ⟨hb9, 0, none⟩ = some (.int .i64 0) := B5.cell 0
        have e1 : w5.cell? ⟨hb9, 1, none⟩ = some (.int .i64 0) := B5.cell 1
        have e2 : w5.cell? ⟨hb9, 2, none⟩ = some (.int .i64 0) := B5.cell 2
        have f0 := B5.frozen 0
        have f1 := B5.frozen 1
        have f2 := B5.frozen 2
        have B6 := Lib.hid (((B5.set_ 0 (.int .i64 (hA k2))).set_ 1 (.int .i64 (hB k2))).set_ 2 (.int .i64 (hT k2 (i + 1))))
        have hge : w.heap.size ≤ hb9 := by have := HLT.out; have := HB1.out.2.2; omega
        have hne : rb ≠ hb9 := by have := HLT.out; omega
        have R6 := Lib.hid (((R5.out.far (p := ⟨hb9, 0, none⟩) hne (.int .i64 (hA k2))).far (p := ⟨hb9, 1, none⟩) hne (.int .i64 (hB k2))).far (p := ⟨hb9, 2, none⟩) hne (.int .i64 (hT k2 (i + 1))))
        have X6 := Lib.hid (((hX5.store (mat_framed _ _ _ _) (.inr rfl) hge 0 (.int .i64 (hA k2))).store (mat_framed _ _ _ _) (.inr rfl) hge 1 (.int .i64 (hB k2))).store (mat_framed _ _ _ _) (.inr rfl) hge 2 (.int .i64 (hT k2 (i + 1))))
        clear hX5 hst B5 HF R5 hge hne hcd
        go_wp2_with fail
        go_roundw
        case rel =>
          refine ⟨i + 1, k2, by omega, rfl, by go_num, HK2, Lib.hid (fun e he => ?_), X6, Lib.hid (by have := B6.out; simpa [hitC, hA, hB, hT] using this), R6⟩
          rcases Nat.lt_or_ge e i with h1 | h1
          · exact HNO.out e h1
          · obtain rfl : e = i := by omega
            exact HK.out
        case measure => simp [intOf]; omega
      · have HFI : Hid (firstHit (n : Nat) b l = firstK k i) := Lib.hid (by
          cases k with
          | some p => exact first_is (e := i) (i := p.1) (f := p.2) hi HK.out HNO.out
          | none =>
            have hie : i = b.length := by
              rcases Nat.lt_or_ge i b.length with h | h
              · exact absurd ⟨rfl, h⟩ hlt
              · omega
            refine first_no fun e he => ?_
            rcases Nat.lt_or_ge e i with h1 | h1
            · exact HNO.out e h1
            · rw [show e = i by omega]; exact HK.out)
        have e0 : wr.cell? ⟨hb9, 0, none⟩ = some (.int .i64 (hA k)) := HH.out.cell 0
        have e1 : wr.cell? ⟨hb9, 1, none⟩ = some (.int .i64 (hB k)) := HH.out.cell 1
        have e2 : wr.cell? ⟨hb9, 2, none⟩ = some (.int .i64 (hT k i)) := HH.out.cell 2
        have g0 : wr.cell? ⟨rb, 0, none⟩ = some (.int .i64 0) := HRB.out.cell 0
        have g1 : wr.cell? ⟨rb, 1, none⟩ = some (.int .i64 0) := HRB.out.cell 1
        have g2 : wr.cell? ⟨rb, 2, none⟩ = some (.int .i64 0) := HRB.out.cell 2
        have f0 := HRB.out.frozen 0
        have f1 := HRB.out.frozen 1
        have f2 := HRB.out.frozen 2
        have B6 := ((HRB.out.set_ 0 (.int .i64 (hA k))).set_ 1 (.int .i64 (hB k))).set_ 2 (.int .i64 (hT k i))
        have d0 : (((wr.setCell ⟨rb, 0, none⟩ (.int .i64 (hA k))).setCell ⟨rb, 1, none⟩ (.int .i64 (hB k))).setCell ⟨rb, 2, none⟩ (.int .i64 (hT k i))).cell? ⟨rb, 0, none⟩ = some (.int .i64 (hA k)) := by rw [B6.cell]; rfl
        have d1 : (((wr.setCell ⟨rb, 0, none⟩ (.int .i64 (hA k))).setCell ⟨rb, 1, none⟩ (.int .i64 (hB k))).setCell ⟨rb, 2, none⟩ (.int .i64 (hT k i))).cell? ⟨rb, 1, none⟩ = some (.int .i64 (hB k)) := by rw [B6.cell]; rfl
        have d2 : (((wr.setCell ⟨rb, 0, none⟩ (.int .i64 (hA k))).setCell ⟨rb, 1, none⟩ (.int .i64 (hB k))).setCell ⟨rb, 2, none⟩ (.int .i64 (hT k i))).cell? ⟨rb, 2, none⟩ = some (.int .i64 (hT k i)) := by rw [B6.cell]; rfl
        have hge : w.heap.size ≤ rb := by have := HB1.out.2.2; omega
        have Z := Lib.hid (below_put (below_put (below_put HX.out.below (p := ⟨rb, 0, none⟩) hge (.int .i64 (hA k))) (p := ⟨rb, 1, none⟩) hge (.int .i64 (hB k))) (p := ⟨rb, 2, none⟩) hge (.int .i64 (hT k i)))
        clear B6 hge
        have key : k = none → ¬ i < b.length := fun e h => hlt ⟨e, h⟩
        clear hlt
        cases k with
        | none =>
          have hlt2 := key rfl
          have r1 : decide ((i : Int) < (b.length : Int)) = false := decide_eq_false (by omega)
          have r2 : decide (i < b.length) = false := decide_eq_false hlt2
          have hs : (none : Option (Nat × Nat)).isSome = false := rfl
          clear key
          go_wp2_with fail
          refine bodyPost_ret (v := .tuple #[.agg #[.int .i64 (hA none), .int .i64 (hB none), .int .i64 (hT none i)], .bool false, .int .i64 0]) (by simp [results, Tryd.results18, go_sem, d0, d1, d2]) rfl ?_
          exact ⟨by rw [HFI.out, firstK_E]; rfl, Z.out⟩
        | some p =>
          clear key
          have hs : (some p).isSome = true := rfl
          by_cases hlt2 : i < b.length
          · have r1 : decide ((i : Int) < (b.length : Int)) = true := decide_eq_true (by omega)
            go_wp2_with fail
            refine bodyPost_ret (v := .tuple #[.agg #[.int .i64 (hA (some p)), .int .i64 (hB (some p)), .int .i64 (hT (some p) i)], .bool true, .int .i64 0]) (by simp [results, Tryd.results18, go_sem, d0, d1, d2]) rfl ?_
            exact ⟨by rw [HFI.out, firstK_E]; rfl, Z.out⟩
          · have r1 : decide ((i : Int) < (b.length : Int)) = false := decide_eq_false (by omega)
            go_wp2_with fail
            refine bodyPost_ret (v := .tuple #[.agg #[.int .i64 (hA (some p)), .int .i64 (hB (some p)), .int .i64 (hT (some p) i)], .bool true, .int .i64 0]) (by simp [results, Tryd.results18, go_sem, d0, d1, d2]) rfl ?_
            exact ⟨by rw [HFI.out, firstK_E]; rfl, Z.out⟩
  · have HN := Lib.hid (New_bad z (.slice D l.length dc) l w1 hT1 hB1 hx hc)
    have HC := Lib.hid hc
    have qe : ((checkS z l : Int) != 0) = true := by simpa using hc
    rw [if_neg hc]
    generalize checkS z l = er at *
    clear hT1 hB1 hT h hx hb hbb hb1 R0 hsz hc
    go_enter Tryd.func18, Tryd.ntmps18
    go_upto_region 1 with (fail)
    rw [← hw1, ← hrb]
    clear hw1 hrb
    go_wp2_with fail
    refine HN.out.mono ?_
    rintro e w2 ⟨rfl, hb2⟩
    have B2 := R1.out.below hb2 R1.out.lt
    have e0 : w2.cell? ⟨rb, 0, none⟩ = some (.int .i64 0) := B2.cell 0
    have e1 : w2.cell? ⟨rb, 1, none⟩ = some (.int .i64 0) := B2.cell 1
    have e2 : w2.cell? ⟨rb, 2, none⟩ = some (.int .i64 0) := B2.cell 2
    have f0 := B2.frozen 0
    have f1 := B2.frozen 1
    have f2 := B2.frozen 2
    have B6 := ((B2.set_ 0 (.int .i64 0)).set_ 1 (.int .i64 0)).set_ 2 (.int .i64 0)
    have d0 : (((w2.setCell ⟨rb, 0, none⟩ (.int .i64 0)).setCell ⟨rb, 1, none⟩ (.int .i64 0)).setCell ⟨rb, 2, none⟩ (.int .i64 0)).cell? ⟨rb, 0, none⟩ = some (.int .i64 0) := by rw [B6.cell]; rfl
    have d1 : (((w2.setCell ⟨rb, 0, none⟩ (.int .i64 0)).setCell ⟨rb, 1, none⟩ (.int .i64 0)).setCell ⟨rb, 2, none⟩ (.int .i64 0)).cell? ⟨rb, 1, none⟩ = some (.int .i64 0) := by rw [B6.cell]; rfl
    have d2 : (((w2.setCell ⟨rb, 0, none⟩ (.int .i64 0)).setCell ⟨rb, 1, none⟩ (.int .i64 0)).setCell ⟨rb, 2, none⟩ (.int .i64 0)).cell? ⟨rb, 2, none⟩ = some (.int .i64 0) := by rw [B6.cell]; rfl
    have hge : w.heap.size ≤ rb := by have := HB1.out.2.2; omega
    have Z := Lib.hid (below_put (below_put (below_put (HB1.out.1.trans (hb2.mono HB1.out.1.size)) (p := ⟨rb, 0, none⟩) hge (.int .i64 0)) (p := ⟨rb, 1, none⟩) hge (.int .i64 0)) (p := ⟨rb, 2, none⟩) hge (.int .i64 0))
    clear B2 B6 hge hb2
    go_wp2_with fail
    refine bodyPost_ret (v := .tuple #[.agg #[.int .i64 0, .int .i64 0, .int .i64 0], .bool false, .int .i64 (er : Nat)]) (by simp [results, Tryd.results18, go_sem, d0, d1, d2]) rfl ?_
    exact ⟨rfl, Z.out⟩
end Go.Proofs.YtcipljpalohjiaaDoor
