/-
  The program's skip list: the look goes up to a version's place.
-/
import Derived.Test.YtgfpkbdinfdkfaaMemSkipP
import Derived.Test.YtgfpkbdinfdkfaaMemDevA
import Derived.Test.YtgfpkbdinfdkfaaFramePutR
import Derived.LoopTactic
import Derived.BigQuiet
import Derived.StillTailTactics
import Derived.Deep.RegionHeld3
import Derived.Deep.QuietTactic
namespace Go.Proofs.Ytgfpkbdinfdkfaa
open Go.RowKit
set_option linter.unusedSimpArgs false
set_option linter.unusedVariables false
namespace Md
open Op (bytesLess)
open Mt (Ver VerIn VerW verV lessB)
/-- the block and the place of a tower -/
def twB (tb : Nat) : Option Nd → Nat
  | none => tb
  | some x => x.b
def twO : Option Nd → Nat
  | none => 0
  | some _ => 5
theorem tw_eq (tb : Nat) (c : Option Nd) : tw tb c = .pointer (some ⟨twB tb c, twO c, none⟩) := by cases c <;> rfl
theorem stands_foot {tb : Nat} {ns pre post : List Nd} {st : St} (hs : Stands pre st) (he : ns = pre ++ post) : Foot tb ns (twB tb st.cur) := by
  subst he
  rcases hs with ⟨h1, h2⟩ | ⟨a, c, h1, h2⟩
  · rw [h1]; exact .inl rfl
  · rw [h1]; exact .inr ⟨c, by rw [h2]; simp, rfl⟩
theorem tower_cell {B0 tb : Nat} {ns pre post : List Nd} {W : World} {st : St} {l : Nat} (hT : TabAt B0 tb ns W) (he : ns = pre ++ post) (hs : Stands pre st) (hc : ∀ c, st.cur = some c → l < c.h) (hl : l < 8) :
    W.cell? ⟨twB tb st.cur, twO st.cur + l, none⟩ = some (nx l (st.rest ++ post)) := by
  subst he
  rcases hs with ⟨h1, h2⟩ | ⟨a, c, h1, h2⟩
  · rw [h1, h2, show twB tb none = tb from rfl, show twO none + l = l by simp [twO], hT.head.cell l, hdC_link _ _ _ _ hl]
    unfold lk; rw [if_pos hl]
  · have ho := (show Chain W (a ++ c :: (st.rest ++ post)) from by have := hT.chain; rw [h2] at this; simpa using this).at_
    rw [h1, show twB tb (some c) = c.b from rfl, show twO (some c) = 5 from rfl, ho.cell, ndC_link _ _ _ hl]
    unfold lk; rw [if_pos (hc c h1)]
theorem stJ_n (pre : List Nd) : ∀ j, (stJ pre j).n + (stJ pre j).rest.length ≤ (j + 1) * pre.length ∧ (stJ pre j).rest.length ≤ pre.length
  | 0 => ⟨by show 0 + pre.length ≤ _; omega, Nat.le_refl _⟩
  | j + 1 => by
    have h1 := stJ_n pre j
    have h2 := (walkL_n (l := 7 - j) (scan := (stJ pre j).rest) (st := stJ pre j)).2
    have h3 : (stJ pre (j + 1)).rest.length ≤ pre.length := by
      rcases stJ_stands pre (j + 1) with ⟨_, h⟩ | ⟨a, c, _, h⟩
      · rw [h]; exact Nat.le_refl _
      · have := congrArg List.length h; rw [List.length_append, List.length_cons] at this; omega
    have h4 : (stJ pre (j + 1)).n ≤ (stJ pre j).n + (stJ pre j).rest.length := h2
    rw [Nat.succ_mul]
    exact ⟨by omega, h3⟩
theorem ver_cells {B0 tb : Nat} {ns : List Nd} {W : World} {x : Nd} (hT : TabAt B0 tb ns W) (hx : x ∈ ns) :
    W.cell? ⟨x.b, 0, none⟩ = some (.string (Cd.bs x.v.key)) ∧ W.cell? ⟨x.b, 1, none⟩ = some (.int .u64 x.v.seq) ∧ W.cell? ⟨x.b, 2, none⟩ = some (.bool x.v.del) ∧ W.cell? ⟨x.b, 3, none⟩ = some (.string (Cd.bs x.v.val)) := by
  obtain ⟨a, r, rfl⟩ := List.append_of_mem hx
  have ho := hT.chain.at_
  exact ⟨ho.cell 0, ho.cell 1, ho.cell 2, ho.cell 3⟩
/-- ahead, as it fills up -/
def ahE (tb : Nat) (pre : List Nd) (j l : Nat) : Value := if 8 ≤ l + j then aheadV tb pre l else .pointer none
def ahC (tb : Nat) (pre : List Nd) (j : Nat) : List Value := [ahE tb pre j 0, ahE tb pre j 1, ahE tb pre j 2, ahE tb pre j 3, ahE tb pre j 4, ahE tb pre j 5, ahE tb pre j 6, ahE tb pre j 7]
theorem ahC_zero (tb : Nat) (pre : List Nd) : ahC tb pre 0 = [.pointer none, .pointer none, .pointer none, .pointer none, .pointer none, .pointer none, .pointer none, .pointer none] := rfl
theorem ahE_next {tb : Nat} {pre : List Nd} {j l : Nat} (h : l + j + 1 ≠ 8) : ahE tb pre (j + 1) l = ahE tb pre j l := by
  unfold ahE
  by_cases h1 : 8 ≤ l + j
  · rw [if_pos h1, if_pos (by omega)]
  · rw [if_neg h1, if_neg (by omega)]
theorem ahE_here {tb : Nat} {pre : List Nd} {j l : Nat} (h : l + j + 1 = 8) : ahE tb pre (j + 1) l = tw tb (stJ pre (j + 1)).cur := by
  unfold ahE aheadV
  rw [if_pos (by omega), show 8 - l = j + 1 by omega]
theorem ahE_ptr (tb : Nat) (pre : List Nd) (j l : Nat) : ∃ p, ahE tb pre j l = .pointer p := by
  unfold ahE
  split
  · exact ⟨_, tw_eq _ _⟩
  · exact ⟨_, rfl⟩
theorem ahC_set (tb : Nat) (pre : List Nd) (j k : Nat) (h : k + j + 1 = 8) : (ahC tb pre j).set k (tw tb (stJ pre (j + 1)).cur) = ahC tb pre (j + 1) := by
  rw [← ahE_here (l := k) h]
  unfold ahC
  match k, h with
  | 0, h => simp only [List.set]; rw [ahE_next (l := 1) (by omega), ahE_next (l := 2) (by omega), ahE_next (l := 3) (by omega), ahE_next (l := 4) (by omega), ahE_next (l := 5) (by omega), ahE_next (l := 6) (by omega), ahE_next (l := 7) (by omega)]
  | 1, h => simp only [List.set]; rw [ahE_next (l := 0) (by omega), ahE_next (l := 2) (by omega), ahE_next (l := 3) (by omega), ahE_next (l := 4) (by omega), ahE_next (l := 5) (by omega), ahE_next (l := 6) (by omega), ahE_next (l := 7) (by omega)]
  | 2, h => simp only [List.set]; rw [ahE_next (l := 0) (by omega), ahE_next (l := 1) (by omega), ahE_next (l := 3) (by omega), ahE_next (l := 4) (by omega), ahE_next (l := 5) (by omega), ahE_next (l := 6) (by omega), ahE_next (l := 7) (by omega)]
  | 3, h => simp only [List.set]; rw [ahE_next (l := 0) (by omega), ahE_next (l := 1) (by omega), ahE_next (l := 2) (by omega), ahE_next (l := 4) (by omega), ahE_next (l := 5) (by omega), ahE_next (l := 6) (by omega), ahE_next (l := 7) (by omega)]
  | 4, h => simp only [List.set]; rw [ahE_next (l := 0) (by omega), ahE_next (l := 1) (by omega), ahE_next (l := 2) (by omega), ahE_next (l := 3) (by omega), ahE_next (l := 5) (by omega), ahE_next (l := 6) (by omega), ahE_next (l := 7) (by omega)]
  | 5, h => simp only [List.set]; rw [ahE_next (l := 0) (by omega), ahE_next (l := 1) (by omega), ahE_next (l := 2) (by omega), ahE_next (l := 3) (by omega), ahE_next (l := 4) (by omega), ahE_next (l := 6) (by omega), ahE_next (l := 7) (by omega)]
  | 6, h => simp only [List.set]; rw [ahE_next (l := 0) (by omega), ahE_next (l := 1) (by omega), ahE_next (l := 2) (by omega), ahE_next (l := 3) (by omega), ahE_next (l := 4) (by omega), ahE_next (l := 5) (by omega), ahE_next (l := 7) (by omega)]
  | 7, h => simp only [List.set]; rw [ahE_next (l := 0) (by omega), ahE_next (l := 1) (by omega), ahE_next (l := 2) (by omega), ahE_next (l := 3) (by omega), ahE_next (l := 4) (by omega), ahE_next (l := 5) (by omega), ahE_next (l := 6) (by omega)]
  | k + 8, h => omega
theorem may_wide {v : Ver} (h : Mt.mayB v = true) : VerW v := by
  unfold Mt.mayB at h
  simp only [Bool.and_eq_true, decide_eq_true_eq] at h
  obtain ⟨⟨⟨⟨⟨h1, h2⟩, h3⟩, h4⟩, h5⟩, _⟩ := h
  exact ⟨by omega, by omega, by omega, by omega⟩

theorem ahC_get (tb : Nat) (pre : List Nd) (j k : Nat) (h : k < 8) : (ahC tb pre j)[k]? = some (ahE tb pre j k) := by
  match k, h with
  | 0, _ => rfl
  | 1, _ => rfl
  | 2, _ => rfl
  | 3, _ => rfl
  | 4, _ => rfl
  | 5, _ => rfl
  | 6, _ => rfl
  | 7, _ => rfl
/-- eight stores into one block -/
def set8 (W : World) (b : Nat) (v0 v1 v2 v3 v4 v5 v6 v7 : Value) : World := (((((((W.setCell ⟨b, 0, none⟩ v0).setCell ⟨b, 1, none⟩ v1).setCell ⟨b, 2, none⟩ v2).setCell ⟨b, 3, none⟩ v3).setCell ⟨b, 4, none⟩ v4).setCell ⟨b, 5, none⟩ v5).setCell ⟨b, 6, none⟩ v6).setCell ⟨b, 7, none⟩ v7
theorem bel8 {B : Nat} {a W : World} (h : Below B a W) (b : Nat) (hb : B ≤ b) (v0 v1 v2 v3 v4 v5 v6 v7 : Value) : Below B a (set8 W b v0 v1 v2 v3 v4 v5 v6 v7) :=
  (((((((h.setCell (p := ⟨b, 0, none⟩) hb v0).setCell (p := ⟨b, 1, none⟩) hb v1).setCell (p := ⟨b, 2, none⟩) hb v2).setCell (p := ⟨b, 3, none⟩) hb v3).setCell (p := ⟨b, 4, none⟩) hb v4).setCell (p := ⟨b, 5, none⟩) hb v5).setCell (p := ⟨b, 6, none⟩) hb v6).setCell (p := ⟨b, 7, none⟩) hb v7
theorem obj8 {W : World} {b : Nat} {t : TypeId} {u0 u1 u2 u3 u4 u5 u6 u7 : Value} (h : Ob.Obj W b t [u0, u1, u2, u3, u4, u5, u6, u7]) (v0 v1 v2 v3 v4 v5 v6 v7 : Value) : Ob.Obj (set8 W b v0 v1 v2 v3 v4 v5 v6 v7) b t [v0, v1, v2, v3, v4, v5, v6, v7] :=
  (((((((h.set 0 v0).set 1 v1).set 2 v2).set 3 v3).set 4 v4).set 5 v5).set 6 v6).set 7 v7

/-- what stands while the look goes on -/
structure LkInv (tb : Nat) (pl : Ver) (w wr : World) (ah : List Value) : Prop where
  bel : Below w.heap.size w wr
  place : Ob.Obj wr w.heap.size 33 [.string (Cd.bs pl.key), .int .u64 pl.seq, .bool pl.del, .string (Cd.bs pl.val)]
  out : Ob.Obj wr (w.heap.size + 1) 65 [.pointer none, .pointer none, .pointer none, .pointer none, .pointer none, .pointer none, .pointer none, .pointer none]
  ahead : Ob.Obj wr (w.heap.size + 2) 65 ah
theorem LkInv.below {tb : Nat} {pl : Ver} {w wr wr' : World} {ah : List Value} (h : LkInv tb pl w wr ah) (hb : Below wr.heap.size wr wr') : LkInv tb pl w wr' ah :=
  ⟨h.bel.trans (hb.mono h.bel.size), h.place.below hb, h.out.below hb, h.ahead.below hb⟩
theorem LkInv.drew {tb : Nat} {pl : Ver} {w wr : World} {ah : List Value} (h : LkInv tb pl w wr ah) (n : Nat) : LkInv tb pl w (wr.drewN n) ah :=
  ⟨belowN h.bel _, h.place, h.out, h.ahead⟩

theorem LkInv.store {tb : Nat} {pl : Ver} {w wr : World} {pre : List Nd} {j k : Nat} {st : St} (h : LkInv tb pl w wr (ahC tb pre j)) (hk : k + j + 1 = 8) (hs : stJ pre (j + 1) = st) :
    LkInv tb pl w (wr.setCell ⟨w.heap.size + 1 + 1, k, none⟩ (.pointer (some ⟨twB tb st.cur, twO st.cur, none⟩))) (ahC tb pre (j + 1)) := by
  subst hs
  refine ⟨h.bel.setCell (by simp; omega) _, h.place.other (by simp; omega) _, h.out.other (by simp) _, ?_⟩
  rw [← ahC_set tb pre j k hk, tw_eq]
  exact h.ahead.set k _

set_option maxRecDepth 100000 in
set_option maxHeartbeats 8000000 in
theorem look_any {B0 tb : Nat} {ns : List Nd} (pl : Ver) (w : World) (hT : TabAt B0 tb ns w) (hL : ns.length ≤ 1099511627776) (hp : VerW pl) :
    Calls Try.prog 32 #[.pointer (some ⟨tb, 0, none⟩), verV pl] w fun e w' => e = .returned (lookV tb (preOf ns pl)) ∧ Below w.heap.size w w' := by
  have hpp := pre_post ns pl
  have hprl := pre_less ns pl
  have hpol := post_not hT.ord pl
  have hV : lookV tb (preOf ns pl) = .tuple #[.agg #[ahE tb (preOf ns pl) 8 0, ahE tb (preOf ns pl) 8 1, ahE tb (preOf ns pl) 8 2, ahE tb (preOf ns pl) 8 3, ahE tb (preOf ns pl) 8 4, ahE tb (preOf ns pl) 8 5, ahE tb (preOf ns pl) 8 6, ahE tb (preOf ns pl) 8 7], .int .i64 ((stJ (preOf ns pl) 8).n : Int)] := rfl
  rw [hV]
  clear hV
  generalize preOf ns pl = pre at *
  generalize postOf ns pl = post at *
  have hlen : pre.length ≤ 1099511627776 := by have := congrArg List.length hpp; rw [List.length_append] at this; omega
  have HPP := Lib.hid hpp.symm
  have HPR := Lib.hid hprl
  have HPO := Lib.hid hpol
  have HT := Lib.hid hT
  have htb := hT.head.lt
  clear hpp hprl hpol hT
  have I0 : LkInv tb pl w (((w.alloc (.cells #[.string (Cd.bs pl.key), .int .u64 pl.seq, .bool pl.del, .string (Cd.bs pl.val)] 33)).alloc (.cells #[.pointer none, .pointer none, .pointer none, .pointer none, .pointer none, .pointer none, .pointer none, .pointer none] 65)).alloc (.cells #[.pointer none, .pointer none, .pointer none, .pointer none, .pointer none, .pointer none, .pointer none, .pointer none] 65)) (ahC tb pre 0) := by
    refine ⟨(((Below.refl _ _).alloc (Nat.le_refl _) _).alloc (by simp) _).alloc (by simp; omega) _, ?_, ?_, ?_⟩
    · exact ((Ob.Obj.new w _ _).alloc _).alloc _
    · have := (Ob.Obj.new (w.alloc (.cells #[.string (Cd.bs pl.key), .int .u64 pl.seq, .bool pl.del, .string (Cd.bs pl.val)] 33)) 65 [.pointer none, .pointer none, .pointer none, .pointer none, .pointer none, .pointer none, .pointer none, .pointer none]).alloc (.cells #[.pointer none, .pointer none, .pointer none, .pointer none, .pointer none, .pointer none, .pointer none, .pointer none] 65)
      simpa using this
    · have := Ob.Obj.new ((w.alloc (.cells #[.string (Cd.bs pl.key), .int .u64 pl.seq, .bool pl.del, .string (Cd.bs pl.val)] 33)).alloc (.cells #[.pointer none, .pointer none, .pointer none, .pointer none, .pointer none, .pointer none, .pointer none, .pointer none] 65)) 65 [.pointer none, .pointer none, .pointer none, .pointer none, .pointer none, .pointer none, .pointer none, .pointer none]
      simp only [World.size_alloc, Nat.add_assoc, Nat.reduceAdd] at this
      exact this
  unfold verV
  go_enter Try.func32, Try.ntmps32
  go_wp2_with fail
  go_loopw [7, 8, 9] (fun av nv lv wr => ∃ j k : Nat, k + j = 8 ∧ lv = .int .i64 ((k : Int) - 1) ∧ av = .pointer (some ⟨twB tb (stJ pre j).cur, twO (stJ pre j).cur, none⟩) ∧ nv = .int .i64 ((stJ pre j).n : Int) ∧ LkInv tb pl w wr (ahC tb pre j)) (fun _ _ lv _ => (intOf lv + 1).toNat)
  case atStart => exact ⟨0, 8, rfl, rfl, rfl, rfl, I0⟩
  case round =>
    obtain ⟨j, k, hjk, rfl, rfl, rfl, hI⟩ := hrel
    by_cases hk0 : k = 0
    · subst hk0
      obtain rfl : j = 8 := by omega
      have hneg : ¬ (0 : Int) ≤ ((0 : Nat) : Int) - 1 := by omega
      have x0 := hI.ahead.cell 0
      have x1 := hI.ahead.cell 1
      have x2 := hI.ahead.cell 2
      have x3 := hI.ahead.cell 3
      have x4 := hI.ahead.cell 4
      have x5 := hI.ahead.cell 5
      have x6 := hI.ahead.cell 6
      have x7 := hI.ahead.cell 7
      have y0 := hI.out.cell 0
      have y1 := hI.out.cell 1
      have y2 := hI.out.cell 2
      have y3 := hI.out.cell 3
      have y4 := hI.out.cell 4
      have y5 := hI.out.cell 5
      have y6 := hI.out.cell 6
      have y7 := hI.out.cell 7
      have f0 := hI.out.frozen 0
      have f1 := hI.out.frozen 1
      have f2 := hI.out.frozen 2
      have f3 := hI.out.frozen 3
      have f4 := hI.out.frozen 4
      have f5 := hI.out.frozen 5
      have f6 := hI.out.frozen 6
      have f7 := hI.out.frozen 7
      have hz := hI.out.lt
      simp [ahC] at x0 x1 x2 x3 x4 x5 x6 x7 y0 y1 y2 y3 y4 y5 y6 y7
      obtain ⟨p0, h0⟩ := ahE_ptr tb pre 8 0
      rw [h0] at x0; have H0 := Lib.hid h0; clear h0
      obtain ⟨p1, h1⟩ := ahE_ptr tb pre 8 1
      rw [h1] at x1; have H1 := Lib.hid h1; clear h1
      obtain ⟨p2, h2⟩ := ahE_ptr tb pre 8 2
      rw [h2] at x2; have H2 := Lib.hid h2; clear h2
      obtain ⟨p3, h3⟩ := ahE_ptr tb pre 8 3
      rw [h3] at x3; have H3 := Lib.hid h3; clear h3
      obtain ⟨p4, h4⟩ := ahE_ptr tb pre 8 4
      rw [h4] at x4; have H4 := Lib.hid h4; clear h4
      obtain ⟨p5, h5⟩ := ahE_ptr tb pre 8 5
      rw [h5] at x5; have H5 := Lib.hid h5; clear h5
      obtain ⟨p6, h6⟩ := ahE_ptr tb pre 8 6
      rw [h6] at x6; have H6 := Lib.hid h6; clear h6
      obtain ⟨p7, h7⟩ := ahE_ptr tb pre 8 7
      rw [h7] at x7; have H7 := Lib.hid h7; clear h7
      go_wp2_with fail
      have hq := bel8 hI.bel (w.heap.size + 1) (by omega) (.pointer p0) (.pointer p1) (.pointer p2) (.pointer p3) (.pointer p4) (.pointer p5) (.pointer p6) (.pointer p7)
      have ho := obj8 hI.out (.pointer p0) (.pointer p1) (.pointer p2) (.pointer p3) (.pointer p4) (.pointer p5) (.pointer p6) (.pointer p7)
      change bodyPost _ _ _ _ _ (set8 wr (w.heap.size + 1) (.pointer p0) (.pointer p1) (.pointer p2) (.pointer p3) (.pointer p4) (.pointer p5) (.pointer p6) (.pointer p7))
      generalize set8 wr (w.heap.size + 1) (.pointer p0) (.pointer p1) (.pointer p2) (.pointer p3) (.pointer p4) (.pointer p5) (.pointer p6) (.pointer p7) = wz at *
      have q0 := ho.cell 0
      have q1 := ho.cell 1
      have q2 := ho.cell 2
      have q3 := ho.cell 3
      have q4 := ho.cell 4
      have q5 := ho.cell 5
      have q6 := ho.cell 6
      have q7 := ho.cell 7
      simp at q0 q1 q2 q3 q4 q5 q6 q7
      exact bodyPost_ret (v := .tuple #[.agg #[.pointer p0, .pointer p1, .pointer p2, .pointer p3, .pointer p4, .pointer p5, .pointer p6, .pointer p7], .int .i64 ((stJ pre 8).n : Int)]) (by simp [results, Try.results32, go_sem, q0, q1, q2, q3, q4, q5, q6, q7]) rfl ⟨by rw [H0.out, H1.out, H2.out, H3.out, H4.out, H5.out, H6.out, H7.out], hq⟩
    · obtain ⟨k', rfl⟩ : ∃ k', k = k' + 1 := ⟨k - 1, by omega⟩
      have hlv : ((k' + 1 : Nat) : Int) - 1 = (k' : Int) := by omega
      rw [hlv]
      clear hlv
      have hkk : (0 : Int) ≤ (k' : Int) ∧ (k' : Int) < 8 := by omega
      have h7 : 7 - j = k' := by omega
      have hst := stJ_stands pre j
      have hcur : ∀ c, (stJ pre j).cur = some c → k' < c.h := fun c hc => by
        cases j with
        | zero => cases hc
        | succ j => have := stJ_cur pre j c hc; omega
      have HCE := Lib.hid (tower_cell (HT.out.kept (Sq.Kept.of_below hI.bel)) HPP.out hst hcur (by omega))
      have hft := (HT.out.foot _ (stands_foot hst HPP.out)).2
      have hbs := hI.bel.size
      have HFIN := Lib.hid (show stJ pre (j + 1) = walkL k' (stJ pre j) (stJ pre j).rest by rw [show stJ pre (j + 1) = walkL (7 - j) (stJ pre j) (stJ pre j).rest from rfl, h7])
      obtain ⟨hn1, hn2⟩ := stJ_n pre j
      have hn3 : (j + 1) * pre.length ≤ 8 * pre.length := Nat.mul_le_mul_right _ (by omega)
      generalize hs0 : stJ pre j = st0 at *
      have HC0 := HCE.out
      go_wp2_with fail
      have IN0 : st0.n + st0.rest.length ≤ 8 * pre.length := by omega
      clear hn1 hn2 hn3 hs0 HCE HC0 hft hbs h7
      obtain ⟨wo, rfl⟩ : ∃ wo : World, wo = wr := ⟨_, rfl⟩
      go_loopw [7, 8, 10] (fun av nv qv wr => ∃ st : St, av = .pointer (some ⟨twB tb st.cur, twO st.cur, none⟩) ∧ nv = .int .i64 (st.n : Int) ∧ qv = nx k' (st.rest ++ post) ∧ Stands pre st ∧ (∀ c, st.cur = some c → k' < c.h) ∧ st.n + st.rest.length ≤ 8 * pre.length ∧ Hid (stJ pre (j + 1) = walkL k' st st.rest) ∧ LkInv tb pl w wr (ahC tb pre j)) (fun _ nv _ _ => 8 * pre.length + 1 - (intOf nv).toNat)
      case atStart => exact ⟨st0, rfl, rfl, rfl, hst, hcur, IN0, HFIN, hI⟩
      case round =>
        clear hst hcur IN0 HFIN hI
        obtain ⟨st, rfl, rfl, rfl, hst, hcur, hin, HFIN, hI⟩ := hrel
        have hbs := hI.bel.size
        have hTr := HT.out.kept (Sq.Kept.of_below hI.bel)
        have z0 := hI.place.cell 0
        have z1 := hI.place.cell 1
        have z2 := hI.place.cell 2
        have z3 := hI.place.cell 3
        simp at z0 z1 z2 z3
        rcases split_at k' st.rest with hno | ⟨a, x, s, hsr, ha, hx⟩
        · have HE := Lib.hid (show stJ pre (j + 1) = st by rw [HFIN.out, walkL_none hno])
          rcases split_at k' post with hpo | ⟨a, y, s, hsp, ha, hy⟩
          · have e : nx k' (st.rest ++ post) = .pointer none := by
              rw [find_cut hno, ← List.append_nil post, find_cut hpo]; rfl
            rw [e]
            clear e
            go_wp2_with fail
            go_big_quiet (fail)
            have hI2 := hI.drew nq
            generalize wr.drewN nq = wr2 at *
            have a1 : wr2.cell? ⟨w.heap.size + 1 + 1, k', none⟩ = some (ahE tb pre j k') := (hI2.ahead.cell k').trans (ahC_get tb pre j k' (by omega))
            have a2 : wr2.frozen? ⟨w.heap.size + 1 + 1, k', none⟩ = false := hI2.ahead.frozen k'
            have a3 := hI2.ahead.lt
            have HI3 := hI2.store (k := k') (by omega) HE.out
            generalize ahE tb pre j k' = ae at a1
            go_wp2_with fail
            go_roundw
            case rel => exact ⟨j + 1, k', by omega, rfl, by rw [HE.out], by rw [HE.out], HI3⟩
            case measure => simp [intOf]
          · have e : nx k' (st.rest ++ post) = .pointer (some ⟨y.b, 0, none⟩) := by rw [find_cut hno, hsp, find_here ha hy]
            rw [e]
            clear e
            have hyp : y ∈ post := by rw [hsp]; simp
            have hyn : y ∈ ns := by rw [HPP.out]; exact List.mem_append_right _ hyp
            have c0 := (ver_cells hTr hyn).1
            have c1 := (ver_cells hTr hyn).2.1
            have c2 := (ver_cells hTr hyn).2.2.1
            have c3 := (ver_cells hTr hyn).2.2.2
            have hlf := HPO.out y hyp
            have HLS := Lib.hid (fun W => lessOk y.v pl W (may_wide (hTr.may y hyn)) hp)
            rw [hlf] at HLS
            clear hlf hsp hyp hyn
            unfold verV at HLS
            generalize y.v = yv at *
            go_wp2_with fail
            go_still_tail 8, (by kernel_rfl)
            change wpList _ _ _ _ _ (World.drew _)
            have hI2 := hI.drew 1
            go_wp2_with (go_at_call 17; (with_reducible refine (HLS.out _).mono ?_); rintro e w1 ⟨rfl, hb1⟩; have hI3 := hI2.below hb1; have a1 : w1.cell? ⟨w.heap.size + 1 + 1, k', none⟩ = some (ahE tb pre j k') := (hI3.ahead.cell k').trans (ahC_get tb pre j k' (by omega)); have a2 : w1.frozen? ⟨w.heap.size + 1 + 1, k', none⟩ = false := hI3.ahead.frozen k'; have a3 := hI3.ahead.lt; have HI3 := hI3.store (k := k') (by omega) HE.out; generalize ahE tb pre j k' = ae at a1)
            go_roundw
            case rel => exact ⟨j + 1, k', by omega, rfl, by rw [HE.out], by rw [HE.out], HI3⟩
            case measure => simp [intOf]
        · have e : nx k' (st.rest ++ post) = .pointer (some ⟨x.b, 0, none⟩) := by rw [hsr, List.append_assoc, List.cons_append, find_here ha hx]
          rw [e]
          clear e
          have hst2 : Stands pre ⟨some x, s, st.n + 1⟩ := by
            rcases hst with ⟨_, h2⟩ | ⟨a', c, _, h2⟩
            · exact .inr ⟨a, x, rfl, by rw [← h2]; exact hsr⟩
            · exact .inr ⟨a' ++ c :: a, x, rfl, by rw [h2, hsr]; simp⟩
          have hxp : x ∈ pre := by
            rcases hst2 with ⟨h1, _⟩ | ⟨a', c, h1, h2⟩
            · cases h1
            · simp only [Option.some.injEq] at h1; subst h1; rw [h2]; simp
          have hxn : x ∈ ns := by rw [HPP.out]; exact List.mem_append_left _ hxp
          have hlen2 : st.n + 1 + s.length ≤ st.n + st.rest.length := by rw [hsr, List.length_append, List.length_cons]; omega
          have HFIN2 := Lib.hid (show stJ pre (j + 1) = walkL k' ⟨some x, s, st.n + 1⟩ s by rw [HFIN.out, hsr, walkL_here hx ha])
          have HTC := Lib.hid (fun W (h : TabAt B0 tb ns W) => tower_cell (st := ⟨some x, s, st.n + 1⟩) h HPP.out hst2 (l := k') (fun c hc => by simp only [Option.some.injEq] at hc; subst hc; exact hx) (by omega))
          have c0 := (ver_cells hTr hxn).1
          have c1 := (ver_cells hTr hxn).2.1
          have c2 := (ver_cells hTr hxn).2.2.1
          have c3 := (ver_cells hTr hxn).2.2.2
          have hlt := HPR.out x hxp
          have HLS := Lib.hid (fun W => lessOk x.v pl W (may_wide (hTr.may x hxn)) hp)
          rw [hlt] at HLS
          have hxb := (HT.out.foot x.b (.inr ⟨x, hxn, rfl⟩)).2
          have HX := Lib.hid hx
          clear hlt hxp hxn hsr ha hx HFIN hst hcur
          have HS2 := Lib.hid hst2
          clear hst2
          unfold verV at HLS
          generalize x.v = xv at *
          go_wp2_with fail
          go_still_tail 8, (by kernel_rfl)
          change wpList _ _ _ _ _ (World.drew _)
          have hI2 := hI.drew 1
          go_wp2_with (go_at_call 17; (with_reducible refine (HLS.out _).mono ?_); rintro e w1 ⟨rfl, hb1⟩; have hI3 := hI2.below hb1; have d0 := HTC.out _ (HT.out.kept (Sq.Kept.of_below hI3.bel)); simp only [twB, twO] at d0)
          go_roundw
          case rel => exact ⟨⟨some x, s, st.n + 1⟩, rfl, by go_num, rfl, HS2.out, fun c hc => by simp only [Option.some.injEq] at hc; subst hc; exact HX.out, by simp only; omega, HFIN2, hI3⟩
          case measure => simp [intOf]; omega
end Md
end Go.Proofs.Ytgfpkbdinfdkfaa
