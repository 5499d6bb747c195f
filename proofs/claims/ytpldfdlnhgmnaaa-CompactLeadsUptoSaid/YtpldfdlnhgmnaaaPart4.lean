import Derived.Deep.DeepCutAuto
import Derived.Deep.Cut
import Derived.Deep.CutRange
import Derived.Deep.CutBlock
import Derived.WalkLawsBesides
import Derived.RangeFuncBox
import Derived.RangeFuncLeaves
import Derived.RangeFuncNested
import Derived.Shelf.Abstract
import Derived.WalkKit
import Derived.OwnWalkIn
import Derived.TacticsInMore
import Derived.LoopNIn
import Derived.LoopIn
import Derived.Lib.AppendStr
import Derived.Lib.BufStepsIn
import Derived.Deep.RegionWith
import Derived.Deep.LoopGhost
import Derived.BigQuiet
import Derived.Laws.AppendOwnNone
import Derived.Test.YtpldfdlnhgmnaaaPart3
/-
  The law's `held` of chapter 10: an edit in memory of its own.
-/
namespace Go.Proofs.Ytpldfdlnhgmnaaa
open Go.RowKit
set_option linter.unusedSimpArgs false
set_option linter.unusedVariables false
namespace Mf
theorem info_u64h : (Try.prog.info? 23).map (fun i => (i.zero, i.size, i.bytes)) = some (some (.int .u64 0), 1, 8) := by kernel_rfl
def nC (l : List Int) : List Value := l.map (Value.int .u64)
theorem nC_len (l : List Int) : (nC l).length = l.length := by simp [nC]
theorem tcs_len (L : List Tbl) : (tcs L).length = L.length * 6 := by
  induction L with
  | nil => rfl
  | cons x r ih => rw [show tcs (x :: r) = tC x ++ tcs r from rfl, List.length_append, ih]; simp [tC]; omega
theorem tcs_get (L : List Tbl) (j : Nat) (hj : j < L.length) (k : Nat) (hk : k < 6) : (tcs L)[j * 6 + k]? = (tC L[j])[k]? := by
  have := Gn.flatten_get (sz := 6) (L.map tC) (fun i hi => by simp [tC]) j (by simpa using hj) k hk
  unfold tcs
  rw [this]
  simp
theorem tcs_one (L : List Tbl) : ∀ v ∈ tcs L, v.oneCell' = true := by
  intro v hv
  unfold tcs at hv
  obtain ⟨r, hr, hv⟩ := List.mem_flatten.1 hv
  obtain ⟨p, _, rfl⟩ := List.mem_map.1 hr
  simp only [tC, List.mem_cons, List.not_mem_nil, or_false] at hv
  rcases hv with rfl | rfl | rfl | rfl | rfl | rfl <;> rfl
theorem nC_one (L : List Int) : ∀ v ∈ nC L, v.oneCell' = true := by
  intro v hv
  obtain ⟨d, _, rfl⟩ := List.mem_map.1 hv
  rfl
theorem add_at (fb fo j : Nat) : (⟨fb, fo, none⟩ : Addr).add j = ⟨fb, fo + j, none⟩ := by unfold Addr.add; split <;> simp_all
theorem tbs_src {B : Nat} {W : World} {a : Option Addr} {cap : Nat} {L : List Tbl} (h : Tbs B W (.slice a L.length cap) L) : 0 < L.length → ∃ ad, a = some ad ∧ ∀ j v, (tcs L)[j]? = some v → W.cell? (ad.add j) = some v := by
  intro h0
  obtain ⟨a', cap', fb, fo, hv, h2, h3⟩ := h
  injection hv with e1 e2 e3
  subst e1
  refine ⟨⟨fb, fo, none⟩, (h2 h0).1, fun j v hj => ?_⟩
  have hlt : j < L.length * 6 := by
    have := (List.getElem?_eq_some_iff.1 hj).1
    rwa [tcs_len] at this
  have hq : j / 6 < L.length := by omega
  obtain ⟨k1, k2, k3, k4, k5, k6⟩ := h3 (j / 6) hq
  rw [add_at]
  have hg := tcs_get L (j / 6) hq (j % 6) (Nat.mod_lt _ (by omega))
  rw [show j / 6 * 6 + j % 6 = j by omega, hj] at hg
  have hr : j % 6 = 0 ∨ j % 6 = 1 ∨ j % 6 = 2 ∨ j % 6 = 3 ∨ j % 6 = 4 ∨ j % 6 = 5 := by omega
  rcases hr with hr | hr | hr | hr | hr | hr
  · rw [hr] at hg; rw [show fo + j = fo + j / 6 * 6 by omega, k1]; exact hg.symm
  · rw [hr] at hg; rw [show fo + j = fo + j / 6 * 6 + 1 by omega, k2]; exact hg.symm
  · rw [hr] at hg; rw [show fo + j = fo + j / 6 * 6 + 2 by omega, k3]; exact hg.symm
  · rw [hr] at hg; rw [show fo + j = fo + j / 6 * 6 + 3 by omega, k4]; exact hg.symm
  · rw [hr] at hg; rw [show fo + j = fo + j / 6 * 6 + 4 by omega, k5]; exact hg.symm
  · rw [hr] at hg; rw [show fo + j = fo + j / 6 * 6 + 5 by omega, k6]; exact hg.symm
theorem ns_src {B : Nat} {W : World} {a : Option Addr} {cap : Nat} {L : List Int} (h : Ns B W (.slice a L.length cap) L) : 0 < L.length → ∃ ad, a = some ad ∧ ∀ j v, (nC L)[j]? = some v → W.cell? (ad.add j) = some v := by
  intro h0
  obtain ⟨a', cap', fb, fo, hv, h2, h3⟩ := h
  injection hv with e1 e2 e3
  subst e1
  refine ⟨⟨fb, fo, none⟩, (h2 h0).1, fun j v hj => ?_⟩
  have hlt : j < L.length := by
    have := (List.getElem?_eq_some_iff.1 hj).1
    rwa [nC_len] at this
  rw [add_at, h3 j hlt, ← hj]
  simp [nC, hlt]
theorem tbs_of_obj {W : World} {g cap : Nat} {L : List Tbl} {t : TypeId} (h : Ob.Obj W g t (tcs L)) : Tbs W.heap.size W (.slice (some ⟨g, 0, none⟩) L.length cap) L := by
  refine ⟨_, cap, g, 0, rfl, fun _ => ⟨rfl, h.lt⟩, fun j hj => ?_⟩
  rw [Nat.zero_add]
  exact ⟨(h.cell _).trans (tcs_get L j hj 0 (by omega)), (h.cell _).trans (tcs_get L j hj 1 (by omega)), (h.cell _).trans (tcs_get L j hj 2 (by omega)), (h.cell _).trans (tcs_get L j hj 3 (by omega)), (h.cell _).trans (tcs_get L j hj 4 (by omega)), (h.cell _).trans (tcs_get L j hj 5 (by omega))⟩
theorem ns_of_obj {W : World} {g cap : Nat} {L : List Int} {t : TypeId} (h : Ob.Obj W g t (nC L)) : Ns W.heap.size W (.slice (some ⟨g, 0, none⟩) L.length cap) L :=
  ⟨_, cap, g, 0, rfl, fun _ => ⟨rfl, h.lt⟩, fun j hj => by rw [h.cell, Nat.zero_add]; simp [nC, hj]⟩
/-- the builtin copy of a whole list, with all else kept -/
theorem wpList_copy_kept {P : Program} {w : World} {ops : Array Oper} {rest : List Oper} {o : Oper} {a : Act} {Q : Exit → Act → World → Prop} (hgd : o.guard = none) (d s : Operand) (dT sT : TypeId)
    (ho : o.op = .call { callee := .builtin .copy, args := #[d, s], argTypes := #[dT, sT] }) (elem : TypeId) (sz : Nat) (hu : P.underlying dT = some (.slice elem)) (hsz : (P.info? elem).map (·.size) = some sz)
    (sp : Option Addr) (n dCap sCap : Nat) (g : Nat) (hd : a.eval d = .slice (some ⟨g, 0, none⟩) n dCap) (hs : a.eval s = .slice sp n sCap)
    (cur : List Value) (t : TypeId) (hg : Ob.Obj w g t cur) (cs : List Value) (hn : cs.length = n * sz) (hcur : cur.length = n * sz)
    (hpos : 0 < n → ∃ ad, sp = some ad ∧ ∀ j v, cs[j]? = some v → w.cell? (ad.add j) = some v) (h1 : ∀ v ∈ cs, v.oneCell' = true)
    (h : ∀ w', Ob.Obj w' g t cs → Sq.Kept (fun k => k ≠ g) w w' → wpList P ops Q rest (a.put o.dst (goInt n)) w') :
    wpList P ops Q (o :: rest) a w := by
  by_cases h0 : n = 0
  · subst h0
    rw [Nat.zero_mul] at hn hcur
    obtain rfl := List.eq_nil_of_length_eq_zero hn
    obtain rfl := List.eq_nil_of_length_eq_zero hcur
    have hrun := Cw.run_copy_zero (P := P) w dT sT o.type elem (some ⟨g, 0, none⟩) sp dCap sCap sz hu hsz
    refine wpList_plain hgd fun K hK => ?_
    unfold Oper.wp
    simp [execOp, ho, resolve, invoke, builtin, hd, hs, hrun, Result.andThen]
    exact hK _ _ (h w hg (Sq.Kept.refl _ _))
  · obtain ⟨ad, rfl, hsrc⟩ := hpos (by omega)
    have hrun := Cw.run_copy_wide (P := P) w dT sT o.type elem g n dCap ad sCap sz cur.toArray t cs hu hsz hg hn hsrc (by simp; omega) h1
    have hdrop : cur.drop cs.length = [] := List.drop_eq_nil_of_le (by omega)
    refine wpList_plain hgd fun K hK => ?_
    unfold Oper.wp
    simp [execOp, ho, resolve, invoke, builtin, hd, hs, hrun, Result.andThen, hdrop]
    exact hK _ _ (h _ (show _ = _ from setRow_heap w g _ _ t _ hg) ⟨rfl, rfl, rfl, by simp, fun k hk _ => setRow_other w g k _ hk⟩)
theorem row_obj {W : World} {B g n cap sz : Nat} {e : TypeId} {xs : List Value} (h : W.ownsRow B e sz (.slice (some ⟨g, 0, none⟩) n cap) n xs) : ∃ cur : List Value, Ob.Obj W g e cur ∧ cur.length = cap * sz := by
  rcases h.2 with ⟨h1, _⟩ | ⟨g', cap', cur, h1, h2, h3, h4, h5, h6, h7⟩
  · cases h1
  · injection h1 with e1 e2 e3
    injection e1 with e1
    injection e1 with e1 _ _
    subst e1; subst e3
    exact ⟨cur.toList, by simpa [Ob.Obj] using h3, by simpa using h6⟩
/-- amid held: the edit's box, the result's, the new edit's, and all that was ahead -/
structure HSt (w : World) (n s l : Int) (av dv x3 x4 : Value) (W : World) : Prop where
  o0 : Ob.Obj W w.heap.size 30 [.int .u64 n, .int .u64 s, .int .u64 l, av, dv]
  o1 : Ob.Obj W (w.heap.size + 1) 30 [.int .u64 0, .int .u64 0, .int .u64 0, .slice none 0 0, .slice none 0 0]
  o2 : Ob.Obj W (w.heap.size + 1 + 1) 30 [.int .u64 n, .int .u64 s, .int .u64 l, x3, x4]
  be : Below w.heap.size w W
theorem HSt.kept {w W W' : World} {n s l : Int} {av dv x3 x4 : Value} (h : HSt w n s l av dv x3 x4 W) (hk : Sq.Kept (fun k => k < w.heap.size + 3) W W') : HSt w n s l av dv x3 x4 W' :=
  ⟨h.o0.kept hk (by omega), h.o1.kept hk (by omega), h.o2.kept hk (by omega), h.be.trans (hk.below (fun k hk => by omega) h.be.size)⟩
theorem HSt.set3 {w W : World} {n s l : Int} {av dv x3 x4 : Value} (h : HSt w n s l av dv x3 x4 W) (v : Value) : HSt w n s l av dv v x4 (W.setCell ⟨w.heap.size + 1 + 1, 3, none⟩ v) :=
  ⟨h.o0.other (by simp <;> omega) v, h.o1.other (by simp) v, h.o2.set 3 v, h.be.setCell (by simp <;> omega) v⟩
theorem HSt.set4 {w W : World} {n s l : Int} {av dv x3 x4 : Value} (h : HSt w n s l av dv x3 x4 W) (v : Value) : HSt w n s l av dv x3 v (W.setCell ⟨w.heap.size + 1 + 1, 4, none⟩ v) :=
  ⟨h.o0.other (by simp <;> omega) v, h.o1.other (by simp) v, h.o2.set 4 v, h.be.setCell (by simp <;> omega) v⟩
structure HCs (w : World) (n s l : Int) (av dv x3 x4 : Value) (W : World) : Prop where
  a3 : W.cell? ⟨w.heap.size, 3, none⟩ = some av
  a4 : W.cell? ⟨w.heap.size, 4, none⟩ = some dv
  d0 : W.cell? ⟨w.heap.size + 1 + 1, 0, none⟩ = some (.int .u64 n)
  d1 : W.cell? ⟨w.heap.size + 1 + 1, 1, none⟩ = some (.int .u64 s)
  d2 : W.cell? ⟨w.heap.size + 1 + 1, 2, none⟩ = some (.int .u64 l)
  d3 : W.cell? ⟨w.heap.size + 1 + 1, 3, none⟩ = some x3
  d4 : W.cell? ⟨w.heap.size + 1 + 1, 4, none⟩ = some x4
  f3 : W.frozen? ⟨w.heap.size + 1 + 1, 3, none⟩ = false
  f4 : W.frozen? ⟨w.heap.size + 1 + 1, 4, none⟩ = false
  sz : w.heap.size + 2 < W.heap.size
theorem HSt.cells {w W : World} {n s l : Int} {av dv x3 x4 : Value} (h : HSt w n s l av dv x3 x4 W) : HCs w n s l av dv x3 x4 W :=
  ⟨h.o0.cell 3, h.o0.cell 4, h.o2.cell 0, h.o2.cell 1, h.o2.cell 2, h.o2.cell 3, h.o2.cell 4, h.o2.frozen 3, h.o2.frozen 4, h.o2.lt⟩
/-- what held hands back -/
def HeldOut (e : Ed) (w : World) (r : Ending) (w' : World) : Prop :=
  ∃ g1 g2, r = .returned (edV e (.slice (some ⟨g1, 0, none⟩) e.add.length e.add.length) (.slice (some ⟨g2, 0, none⟩) e.drop.length e.drop.length)) ∧ Ob.Obj w' g1 38 (tcs e.add) ∧ Ob.Obj w' g2 23 (nC e.drop) ∧ w.heap.size ≤ g1 ∧ w.heap.size ≤ g2 ∧ g1 ≠ g2 ∧ Below w.heap.size w w'

set_option maxRecDepth 100000 in
set_option maxHeartbeats 4000000 in
theorem held_any (e : Ed) (av dv : Value) (w : World) (hE : EdIn w.heap.size w e av dv) :
    Calls Try.prog 8 #[edV e av dv] w (HeldOut e w) := by
  obtain ⟨i0, hi, hz0, hz1, hz2⟩ := info_parts info_Table
  obtain ⟨j0, ji, jz0, jz1, jz2⟩ := info_parts info_u64h
  have many := hE.many
  have few := hE.few
  have HA := Lib.hid hE.add
  have HD := Lib.hid hE.drop
  obtain ⟨⟨aa, acap, _, _, rfl, _⟩, ⟨da, dcap, _, _, rfl, _⟩, _⟩ := hE
  obtain ⟨next, seq, log, add, drop⟩ := e
  unfold edV HeldOut
  simp only at *
  go_enter Try.func8, Try.ntmps8
  go_upto_region 2 with fail
  obtain ⟨wA, hwA⟩ : ∃ wA, wA = ((w.alloc (.cells #[.int .u64 next, .int .u64 seq, .int .u64 log, .slice aa add.length acap, .slice da drop.length dcap] 30)).alloc (.cells #[.int .u64 0, .int .u64 0, .int .u64 0, .slice none 0 0, .slice none 0 0] 30)).alloc (.cells #[.int .u64 next, .int .u64 seq, .int .u64 log, .slice aa add.length acap, .slice da drop.length dcap] 30) := ⟨_, rfl⟩
  have hA : HSt w next seq log (.slice aa add.length acap) (.slice da drop.length dcap) (.slice aa add.length acap) (.slice da drop.length dcap) wA := by
    have e1 := Ob.Obj.new w 30 [.int .u64 next, .int .u64 seq, .int .u64 log, .slice aa add.length acap, .slice da drop.length dcap]
    have e2 := Ob.Obj.new (w.alloc (.cells #[.int .u64 next, .int .u64 seq, .int .u64 log, .slice aa add.length acap, .slice da drop.length dcap] 30)) 30 [.int .u64 0, .int .u64 0, .int .u64 0, .slice none 0 0, .slice none 0 0]
    have e3 := Ob.Obj.new ((w.alloc (.cells #[.int .u64 next, .int .u64 seq, .int .u64 log, .slice aa add.length acap, .slice da drop.length dcap] 30)).alloc (.cells #[.int .u64 0, .int .u64 0, .int .u64 0, .slice none 0 0, .slice none 0 0] 30)) 30 [.int .u64 next, .int .u64 seq, .int .u64 log, .slice aa add.length acap, .slice da drop.length dcap]
    rw [hwA]
    refine ⟨(e1.alloc _).alloc _, ?_, ?_, (((Below.refl _ _).alloc (Nat.le_refl _) _).alloc (by simp) _).alloc (by simp; omega) _⟩
    · have := e2.alloc (.cells #[.int .u64 next, .int .u64 seq, .int .u64 log, .slice aa add.length acap, .slice da drop.length dcap] 30)
      rw [show (w.alloc (.cells #[.int .u64 next, .int .u64 seq, .int .u64 log, .slice aa add.length acap, .slice da drop.length dcap] 30)).heap.size = w.heap.size + 1 by simp] at this
      exact this
    · rw [show ((w.alloc (.cells #[.int .u64 next, .int .u64 seq, .int .u64 log, .slice aa add.length acap, .slice da drop.length dcap] 30)).alloc (.cells #[.int .u64 0, .int .u64 0, .int .u64 0, .slice none 0 0, .slice none 0 0] 30)).heap.size = w.heap.size + 1 + 1 by simp] at e3
      exact e3
  rw [← hwA]
  obtain ⟨a3, a4, d0, d1, d2, d3, d4, f3, f4, sz⟩ := hA.cells
  have HAA := Lib.hid hA
  clear hwA hA
  have hmk1 : (add.length : Int) ≤ 1048576 := by omega
  go_wp2_with (first
    | (refine wpList_make_full _ (by rfl) _ _ 24 (by rfl) wA.heap.size 38 i0 (.agg #[.int .u64 0, .int .i64 0, .int .i64 0, .int .i64 0, .string ⟨#[]⟩, .string ⟨#[]⟩]) 6 Try.underlying24 hi hz0 hz1 .i64 .i64 (add.length : Int) (add.length : Int) add.length (by rfl) (by rfl) rfl rfl (by rw [hz2]; omega) (by unfold maxLen; omega) (Nat.le_refl _) ?_; intro w1 hown hgrow; obtain ⟨cur, hob, hcc⟩ := row_obj hown; have hs1 := HAA.out.kept (Sq.Kept.grown hgrow (by intro r hr; cases hr)); obtain ⟨a31, a41, d01, d11, d21, d31, d41, f31, f41, sz1⟩ := hs1.cells; have hs1' := hs1.set3 (.slice (some ⟨wA.heap.size, 0, none⟩) add.length add.length); obtain ⟨a32, a42, d02, d12, d22, d32, d42, f32, f42, sz2⟩ := hs1'.cells; clear hown hgrow)
    | (refine wpList_make_full _ (by rfl) _ _ 28 (by rfl) w1.heap.size 23 j0 (.int .u64 0) 1 Try.underlying28 ji jz0 jz1 .i64 .i64 (drop.length : Int) (drop.length : Int) drop.length (by rfl) (by rfl) rfl rfl (by rw [jz2]; omega) (by unfold maxLen; omega) (by simp) ?_; intro w2 hown hgrow; rw [show (w1.setCell ⟨w.heap.size + 1 + 1, 3, none⟩ (.slice (some ⟨wA.heap.size, 0, none⟩) add.length add.length)).heap.size = w1.heap.size by simp] at hown; obtain ⟨cur2, hob2, hcc2⟩ := row_obj hown; have hs2 := hs1'.kept (Sq.Kept.grown hgrow (by intro r hr; cases hr)); have hobA := (hob.other (p := ⟨w.heap.size + 1 + 1, 3, none⟩) (by show wA.heap.size ≠ w.heap.size + 1 + 1; omega) (.slice (some ⟨wA.heap.size, 0, none⟩) add.length add.length)).kept (T := fun _ => True) (Sq.Kept.grown hgrow (by intro r hr; cases hr)) trivial; obtain ⟨a33, a43, d03, d13, d23, d33, d43, f33, f43, sz3⟩ := hs2.cells; have hs2' := hs2.set4 (.slice (some ⟨w1.heap.size, 0, none⟩) drop.length drop.length); have hne := hob.lt; have hobB := hobA.other (p := ⟨w.heap.size + 1 + 1, 4, none⟩) (by show wA.heap.size ≠ w.heap.size + 1 + 1; omega) (.slice (some ⟨w1.heap.size, 0, none⟩) drop.length drop.length); have hob3 := hob2.other (p := ⟨w.heap.size + 1 + 1, 4, none⟩) (by show w1.heap.size ≠ w.heap.size + 1 + 1; omega) (.slice (some ⟨w1.heap.size, 0, none⟩) drop.length drop.length); obtain ⟨a34, a44, d04, d14, d24, d34, d44, f34, f44, sz4⟩ := hs2'.cells; have H2 := Lib.hid hs2'; have HO := Lib.hid hobB; have HO2 := Lib.hid hob3; clear hown hgrow hs1 hs1' hs2 hs2' hobA hobB hob2 hob3 hob)
    | (refine wpList_copy_kept (by rfl) _ _ _ _ (by rfl) 38 6 Try.underlying24 (by kernel_rfl) aa add.length add.length acap wA.heap.size (by rfl) (by rfl) cur 38 HO.out (tcs add) (tcs_len add) hcc (tbs_src (HA.out.below H2.out.be)) (tcs_one add) ?_; intro w3 ho3 k3; have hs3 := H2.out.kept (k3.less (fun k hk _ => by omega)); have hq3 := HO2.out.kept k3 (by omega); obtain ⟨a35, a45, d05, d15, d25, d35, d45, f35, f45, sz5⟩ := hs3.cells; have H3 := Lib.hid hs3; have HP := Lib.hid ho3; have HP2 := Lib.hid hq3; clear ho3 hq3 hs3 k3)
    | (refine wpList_copy_kept (by rfl) _ _ _ _ (by rfl) 23 1 Try.underlying28 (by kernel_rfl) da drop.length drop.length dcap w1.heap.size (by rfl) (by rfl) cur2 23 HP2.out (nC drop) ((nC_len drop).trans (Nat.mul_one _).symm) hcc2 (ns_src (HD.out.grow H3.out.be (Nat.le_refl _))) (nC_one drop) ?_; intro w4 ho4 k4; have hs4 := H3.out.kept (k4.less (fun k hk _ => by omega)); have hq4 := HP.out.kept k4 (by omega); obtain ⟨a36, a46, d06, d16, d26, d36, d46, f36, f46, sz6⟩ := hs4.cells; have r0 := hs4.o1.cell 0; have r1 := hs4.o1.cell 1; have r2 := hs4.o1.cell 2; have r3 := hs4.o1.cell 3; have r4 := hs4.o1.cell 4; simp at r0 r1 r2 r3 r4; have z0 := hs4.o1.frozen 0; have z1 := hs4.o1.frozen 1; have z2 := hs4.o1.frozen 2; have z3 := hs4.o1.frozen 3; have z4 := hs4.o1.frozen 4; have zs := hs4.o1.lt; have H4 := Lib.hid hs4; have HR := Lib.hid hq4; have HR2 := Lib.hid ho4; clear ho4 hq4 hs4 k4))
  have o5 := ((((H4.out.o1.set 0 (.int .u64 next)).set 1 (.int .u64 seq)).set 2 (.int .u64 log)).set 3 (.slice (some ⟨wA.heap.size, 0, none⟩) add.length add.length)).set 4 (.slice (some ⟨w1.heap.size, 0, none⟩) drop.length drop.length)
  have v1 := ((((HR.out.other (p := ⟨w.heap.size + 1, 0, none⟩) (by show wA.heap.size ≠ w.heap.size + 1; omega) (.int .u64 next)).other (p := ⟨w.heap.size + 1, 1, none⟩) (by show wA.heap.size ≠ w.heap.size + 1; omega) (.int .u64 seq)).other (p := ⟨w.heap.size + 1, 2, none⟩) (by show wA.heap.size ≠ w.heap.size + 1; omega) (.int .u64 log)).other (p := ⟨w.heap.size + 1, 3, none⟩) (by show wA.heap.size ≠ w.heap.size + 1; omega) (.slice (some ⟨wA.heap.size, 0, none⟩) add.length add.length)).other (p := ⟨w.heap.size + 1, 4, none⟩) (by show wA.heap.size ≠ w.heap.size + 1; omega) (.slice (some ⟨w1.heap.size, 0, none⟩) drop.length drop.length)
  have v2 := ((((HR2.out.other (p := ⟨w.heap.size + 1, 0, none⟩) (by show w1.heap.size ≠ w.heap.size + 1; omega) (.int .u64 next)).other (p := ⟨w.heap.size + 1, 1, none⟩) (by show w1.heap.size ≠ w.heap.size + 1; omega) (.int .u64 seq)).other (p := ⟨w.heap.size + 1, 2, none⟩) (by show w1.heap.size ≠ w.heap.size + 1; omega) (.int .u64 log)).other (p := ⟨w.heap.size + 1, 3, none⟩) (by show w1.heap.size ≠ w.heap.size + 1; omega) (.slice (some ⟨wA.heap.size, 0, none⟩) add.length add.length)).other (p := ⟨w.heap.size + 1, 4, none⟩) (by show w1.heap.size ≠ w.heap.size + 1; omega) (.slice (some ⟨w1.heap.size, 0, none⟩) drop.length drop.length)
  have b5 := ((((H4.out.be.setCell (p := ⟨w.heap.size + 1, 0, none⟩) (by show w.heap.size ≤ w.heap.size + 1; omega) (.int .u64 next)).setCell (p := ⟨w.heap.size + 1, 1, none⟩) (by show w.heap.size ≤ w.heap.size + 1; omega) (.int .u64 seq)).setCell (p := ⟨w.heap.size + 1, 2, none⟩) (by show w.heap.size ≤ w.heap.size + 1; omega) (.int .u64 log)).setCell (p := ⟨w.heap.size + 1, 3, none⟩) (by show w.heap.size ≤ w.heap.size + 1; omega) (.slice (some ⟨wA.heap.size, 0, none⟩) add.length add.length)).setCell (p := ⟨w.heap.size + 1, 4, none⟩) (by show w.heap.size ≤ w.heap.size + 1; omega) (.slice (some ⟨w1.heap.size, 0, none⟩) drop.length drop.length)
  generalize ((((w4.setCell ⟨w.heap.size + 1, 0, none⟩ (.int .u64 next)).setCell ⟨w.heap.size + 1, 1, none⟩ (.int .u64 seq)).setCell ⟨w.heap.size + 1, 2, none⟩ (.int .u64 log)).setCell ⟨w.heap.size + 1, 3, none⟩ (.slice (some ⟨wA.heap.size, 0, none⟩) add.length add.length)).setCell ⟨w.heap.size + 1, 4, none⟩ (.slice (some ⟨w1.heap.size, 0, none⟩) drop.length drop.length) = W5 at o5 v1 v2 b5 ⊢
  have q0 := o5.cell 0
  have q1 := o5.cell 1
  have q2 := o5.cell 2
  have q3 := o5.cell 3
  have q4 := o5.cell 4
  have q5 := o5.lt
  simp at q0 q1 q2 q3 q4
  exact bodyPost_ret (v := .agg #[.int .u64 next, .int .u64 seq, .int .u64 log, .slice (some ⟨wA.heap.size, 0, none⟩) add.length add.length, .slice (some ⟨w1.heap.size, 0, none⟩) drop.length drop.length]) (by simp [results, Try.results8, go_sem, q0, q1, q2, q3, q4, q5]) rfl ⟨wA.heap.size, w1.heap.size, rfl, v1, v2, by omega, by omega, by omega, b5⟩
end Mf
end Go.Proofs.Ytpldfdlnhgmnaaa

/-
  The document's reader (tapestryref04) of numbers and texts, one behind the other.
-/
namespace Go.Proofs.Ytpldfdlnhgmnaaa
open Go.RowKit
set_option linter.unusedSimpArgs false
set_option linter.unusedVariables false
namespace Rr
/-- the reader, in block t -/
def Tk (W : World) (t : Nat) (s : Fi.TkS) : Prop := Ob.Obj W t 113 [.string (Cd.bs s.1), .bool s.2]
theorem Tk.below {W W' : World} {t : Nat} {s : Fi.TkS} (h : Tk W t s) (hb : Below W.heap.size W W') : Tk W' t s := Ob.Obj.below h hb
theorem extract_drop (l : Fi.Dat) (k : Nat) : (Cd.bs l).extract k l.length = Cd.bs (l.drop k) := by
  have : ((Cd.bs l).extract k l.length).data.toList = l.drop k := by
    rw [Lib.extract_data]; exact List.take_of_length_le (by simp)
  rw [← this]

set_option maxRecDepth 100000 in
set_option maxHeartbeats 2000000 in
theorem uint_any (t : Nat) (s : Fi.TkS) (M : Int) (most : Nat) (hM : M = most) (w : World) (h : Tk w t s) (hl : s.1.length ≤ 140737488351232) (hm : most < 18446744073709551616) :
    Calls Try.prog 64 #[.pointer (some ⟨t, 0, none⟩), .int .u64 M] w fun e w' => e = .returned (.int .u64 ((Fi.tkNum most s).1 : Int)) ∧ Tk w' t (Fi.tkNum most s).2 ∧ Sq.Kept (fun k => k ≠ t) w w' := by
  subst hM
  obtain ⟨l, bad⟩ := s
  have hT := fun W => taker_any (Cd.bs l) W (by show l.length ≤ maxLen; unfold maxLen; simp at hl; omega)
  obtain ⟨o1, o2, o3, o4⟩ := Cd.takeU_ok l
  have c0 := Ob.Obj.cell h 0
  have c1 := Ob.Obj.cell h 1
  have f0 := Ob.Obj.frozen h 0
  have f1 := Ob.Obj.frozen h 1
  simp at c0 c1
  unfold Fi.tkNum
  simp only
  change ∀ W, Calls _ _ _ W fun e w' => e = .returned (.tuple #[.int .u64 (Cd.takeU l).1, .int .i64 (Cd.takeU l).2.1, .int .i64 (Cd.takeU l).2.2]) ∧ W = w' at hT
  obtain ⟨n, k, e, ht⟩ : ∃ n k e, Cd.takeU l = (n, k, e) := ⟨_, _, _, rfl⟩
  rw [ht] at hT o1 o2 o3 o4 ⊢
  have HT := Lib.hid hT
  have H := Lib.hid h
  simp only at o1 o2 o3 o4
  clear hT ht h
  cases bad with
  | true =>
    have hw : (Cd.bs l).size = l.length := rfl
    rw [if_pos (.inl rfl)]
    go_enter Try.func64, Try.ntmps64
    go_wp2_with (go_at_call 91; refine (HT.out _).mono ?_; rintro e w1 ⟨rfl, rfl⟩)
    go_ret
    exact ⟨rfl, Ob.Obj.set H.out 1 (.bool true), Sq.Kept.setCell _ _ (fun h => h rfl)⟩
  | false =>
    by_cases he : e = 0
    · subst he
      by_cases hn : most < n
      · rw [if_pos (.inr (.inr hn))]
        have hni : (most : Int) < (n : Int) := by omega
        go_enter Try.func64, Try.ntmps64
        go_wp2_with (go_at_call 91; refine (HT.out _).mono ?_; rintro e w1 ⟨rfl, rfl⟩)
        go_ret
        exact ⟨rfl, Ob.Obj.set H.out 1 (.bool true), Sq.Kept.setCell _ _ (fun h => h rfl)⟩
      · rw [if_neg (by simp; omega)]
        have hni : ¬ (most : Int) < (n : Int) := by omega
        have hk : (k : Int) ≤ (l.length : Int) := by omega
        have hk0 : (0 : Int) ≤ (k : Int) := by omega
        have hsz : (Cd.bs l).size = l.length := rfl
        simp only at hl
        go_enter Try.func64, Try.ntmps64
        go_wp2_with (go_at_call 91; refine (HT.out _).mono ?_; rintro e w1 ⟨rfl, rfl⟩)
        go_ret
        exact ⟨rfl, by rw [extract_drop]; exact Ob.Obj.set H.out 0 (.string (Cd.bs (l.drop k))), Sq.Kept.setCell _ _ (fun h => h rfl)⟩
    · rw [if_pos (.inr (.inl he))]
      have heb : (((e : Nat) : Int) != 0) = true := by simp; omega
      have heb2 : (((e : Nat) : Int) == 0) = false := by simp; omega
      clear he
      go_enter Try.func64, Try.ntmps64
      go_wp2_with (go_at_call 91; refine (HT.out _).mono ?_; rintro e w1 ⟨rfl, rfl⟩)
      go_ret
      exact ⟨rfl, Ob.Obj.set H.out 1 (.bool true), Sq.Kept.setCell _ _ (fun h => h rfl)⟩

set_option maxRecDepth 100000 in
set_option maxHeartbeats 2000000 in
theorem text_any (t : Nat) (s : Fi.TkS) (M : Int) (most : Nat) (hM : M = most) (w : World) (h : Tk w t s) (hl : s.1.length ≤ 140737488351232) (hm : most ≤ 1048576) :
    Calls Try.prog 65 #[.pointer (some ⟨t, 0, none⟩), .int .i64 M] w fun e w' => e = .returned (.string (Cd.bs (Fi.tkText most s).1)) ∧ Tk w' t (Fi.tkText most s).2 ∧ Sq.Kept (fun k => k ≠ t) w w' := by
  subst hM
  obtain ⟨l, bad⟩ := s
  have hT := fun W => takeTr_any (Cd.bs l) (most : Int) W hl (by omega) (by omega)
  have hlen := Fi.takeT_len l most
  have hkl := (Fr.takeT_len l most).1
  unfold Fi.tkText
  simp only
  change ∀ W, Calls _ _ _ W fun e w' => e = .returned (.tuple #[.string (Cd.bs (Cd.takeT l most).1), .int .i64 (Cd.takeT l most).2.1, .int .i64 (Cd.takeT l most).2.2]) ∧ Below W.heap.size W w' at hT
  obtain ⟨n, k, e, ht⟩ : ∃ n k e, Cd.takeT l most = (n, k, e) := ⟨_, _, _, rfl⟩
  rw [ht] at hT hlen hkl ⊢
  have HT := Lib.hid hT
  have H := Lib.hid h
  simp only at hlen hkl
  have c0 := Ob.Obj.cell h 0
  simp at c0
  clear hT ht h
  cases bad with
  | true =>
    rw [if_pos (.inl rfl)]
    go_enter Try.func65, Try.ntmps65
    go_wp2_with (go_at_call 90; refine (HT.out _).mono ?_; rintro e w1 ⟨rfl, hb1⟩; have H1 := Lib.hid (H.out.below hb1); have k0 := Ob.Obj.cell H1.out 0; have k1 := Ob.Obj.cell H1.out 1; have f1 := Ob.Obj.frozen H1.out 1; simp at k0 k1)
    go_ret
    exact ⟨rfl, Ob.Obj.set H1.out 1 (.bool true), (Sq.Kept.of_below hb1 |>.less (fun _ _ _ => trivial)).trans (Sq.Kept.setCell _ _ (fun h => h rfl))⟩
  | false =>
    by_cases he : e = 0
    · subst he
      rw [if_neg (by simp)]
      have hk : (k : Int) ≤ (l.length : Int) := by omega
      have hk0 : (0 : Int) ≤ (k : Int) := by omega
      have hsz : (Cd.bs l).size = l.length := rfl
      simp only at hl
      go_enter Try.func65, Try.ntmps65
      go_wp2_with (go_at_call 90; refine (HT.out _).mono ?_; rintro e w1 ⟨rfl, hb1⟩; have H1 := Lib.hid (H.out.below hb1); have k0 := Ob.Obj.cell H1.out 0; have k1 := Ob.Obj.cell H1.out 1; have f0 := Ob.Obj.frozen H1.out 0; simp at k0 k1)
      go_ret
      exact ⟨rfl, by rw [extract_drop]; exact Ob.Obj.set H1.out 0 (.string (Cd.bs (l.drop k))), (Sq.Kept.of_below hb1 |>.less (fun _ _ _ => trivial)).trans (Sq.Kept.setCell _ _ (fun h => h rfl))⟩
    · rw [if_pos (.inr he)]
      have heb : (((e : Nat) : Int) != 0) = true := by simp; omega
      have heb2 : (((e : Nat) : Int) == 0) = false := by simp; omega
      clear he
      go_enter Try.func65, Try.ntmps65
      go_wp2_with (go_at_call 90; refine (HT.out _).mono ?_; rintro e w1 ⟨rfl, hb1⟩; have H1 := Lib.hid (H.out.below hb1); have k0 := Ob.Obj.cell H1.out 0; have k1 := Ob.Obj.cell H1.out 1; have f1 := Ob.Obj.frozen H1.out 1; simp at k0 k1)
      go_ret
      exact ⟨rfl, Ob.Obj.set H1.out 1 (.bool true), (Sq.Kept.of_below hb1 |>.less (fun _ _ _ => trivial)).trans (Sq.Kept.setCell _ _ (fun h => h rfl))⟩
end Rr
end Go.Proofs.Ytpldfdlnhgmnaaa

/-
  codec.join: a range over a function that collects texts.
-/
namespace Go.Proofs.Ytpldfdlnhgmnaaa
open Go.RowKit Go.Shelf
set_option linter.unusedSimpArgs false
set_option linter.unusedVariables false

attribute [local go_sem] Oper.semAt_some

theorem wpListIn_append_own_string {F : Fence} {n' : Nat} {P : Program} {ops : Array Oper} {rest : List Oper} {o : Oper} {a : Act} {Q : Exit → Act → World → Prop} (w : World) (hgd : o.guard = none) (sl x : Operand) (t u : TypeId)
    (ho : o.op = .call { callee := .builtin .append, args := #[sl, x], argTypes := #[t, u] })
    (base : Nat) (e : TypeId) (i : TypeInfo) (ht : P.underlying t = some (.slice e)) (hu : P.underlying u = some .string) (hi : P.info? e = some i) (hz : i.zero = some (.int .u8 0))
    (hsize : i.size = 1) (hby : i.bytes = 1)
    (v : Value) (n : Nat) (xs : List Value) (hs : a.eval sl = v) (hown : w.ownsRow base e 1 v n xs) (s : ByteArray) (hx : a.eval x = .string s)
    (h63 : n + s.size ≤ maxLen) (hbytes : n + s.size ≤ 140737488355328) (hbase : base ≤ w.heap.size)
    (h : ∀ v' w', w'.ownsRow base e 1 v' (n + s.size) (xs ++ Lib.strCells s) → w.grownBy w' v.ownBlock → wpListIn F n' P ops Q rest (a.put o.dst v') w') : wpListIn F n' P ops Q (o :: rest) a w := by
  refine wpListIn_plain hgd fun K hK => ?_
  obtain ⟨v', w', hr, h2, h3, h4⟩ := Lib.run_append_own_string (P := P) w base t u o.type e i ht hu hi hz hsize hby v n xs hown s h63 hbytes hbase
  unfold Oper.wpIn
  refine ⟨?_, ?_⟩
  · simp [Oper.about, ho, resolve, Target.leads, Sem.run_pure]
  · rw [Oper.semAt_plain F _ _ (by rw [ho]; intro c hc'; cases hc')]
    simp [execOp, ho, resolve, invoke, builtin, hs, hx, hr, Result.andThen]
    exact hK _ _ (h v' w' h2 h3)

/-- a text that a range hands on: of at most so many bytes -/
abbrev Piece := { x : List UInt8 // x.length ≤ 1048576 }
def flat (pre : List Piece) : List UInt8 := (pre.map (·.1)).flatten
theorem flat_snoc (pre : List Piece) (x : Piece) : flat (pre ++ [x]) = flat pre ++ x.1 := by simp [flat]
theorem flat_len (pre : List Piece) : (flat pre).length ≤ pre.length * 1048576 := by
  induction pre with
  | nil => simp [flat]
  | cons x r ih =>
    have : flat (x :: r) = x.1 ++ flat r := by simp [flat]
    rw [this, List.length_append, List.length_cons]
    have := x.2
    omega
theorem ownsRow_slice {W : World} {base : Nat} {e : TypeId} {size : Nat} {v : Value} {k : Nat} {xs : List Value} (h : W.ownsRow base e size v k xs) : ∃ ao l cap, v = .slice ao l cap := by
  rcases h.2 with ⟨rfl, _⟩ | ⟨g, cap, _, rfl, _⟩
  · exact ⟨_, _, _, rfl⟩
  · exact ⟨_, _, _, rfl⟩
theorem stops_mono {α : Type} {F : Fence} {n : Nat} {P : Program} {g : Nat} {lb : Array Value} {encs : α → Array Value} {Kp : World → World → Prop} {S Sp : List α → Prop} {N : Nat} {w w0 : World}
    (h : SeqStopsK F n P g lb encs Kp S Sp N w) (hb : Below w.heap.size w w0) : SeqStopsK F n P g lb encs Kp S Sp N w0 :=
  fun l J Jx W hW => h l J Jx W (hb.trans (hW.mono hb.size))

/-- 'Boxed.appended' where the append laid no block of its own ahead -/
theorem Boxed_appended' {W w1 : World} {n₀ B : Nat} {t e : TypeId} {size : Nat} {v v' : Value} {k m : Nat} {xs ys : List Value}
    (hv : Boxed W B t v) (hte : t ≠ e) (hrow : W.ownsRow n₀ e size v k xs) (hn₀ : n₀ ≤ W.heap.size) (hB : n₀ ≤ B)
    (hown' : w1.ownsRow n₀ e size v' m ys) (hgrow : W.grownBy w1 v.ownBlock) :
    Boxed w1 B t v ∧ Boxed (w1.setCell ⟨B, 0, none⟩ v') B t v' ∧ (w1.setCell ⟨B, 0, none⟩ v').ownsRow n₀ e size v' m ys ∧ KeepsOthers W (w1.setCell ⟨B, 0, none⟩ v') ∧ Below n₀ W (w1.setCell ⟨B, 0, none⟩ v') := by
  have hv1 : Boxed w1 B t v := hv.kept hgrow (hv.not_row hte hrow)
  refine ⟨hv1, hv1.set v', hown'.kept (grownBy_setCell' w1 B v') (.inr (hv1.not_row hte hown').symm), ?_, ?_⟩
  · refine (KeepsOthers.of_grownBy hgrow fun j o ej hj => ?_).trans (KeepsOthers.setCell _ _ _)
    rcases hrow.2 with ⟨rfl, _⟩ | ⟨g, cap, cur, rfl, _, hgb, _⟩
    · simp [Value.ownBlock] at ej
    · obtain rfl : g = j := by simpa [Value.ownBlock] using ej
      rw [hgb] at hj; cases hj; rfl
  · refine ((Below.refl n₀ W).grown hgrow hn₀ fun j ej => ?_).setCell (p := ⟨B, 0, none⟩) hB v'
    rcases hrow.2 with ⟨rfl, _⟩ | ⟨g, cap, cur, rfl, hb, _, _⟩
    · simp [Value.ownBlock] at ej
    · obtain rfl : g = j := by simpa [Value.ownBlock] using ej
      exact hb

set_option maxRecDepth 100000 in
set_option maxHeartbeats 2000000 in
/-- join: the pieces one behind the other -/
theorem join_in (F : Fence) (n : Nat) (hf : F.fn 92) (hro : F.round = none) (hn : 3 ≤ n) (gf : Nat) (hgf : F.fn gf) (eg : ∀ args w, (callFunc gf args).run Try.prog w = .ok (.enter gf args) w) (lb : Array Value)
    (N : Nat) (hN : N ≤ 4194304) (w : World) {S Sp : List Piece → Prop}
    (hseq : SeqStopsK F (n - 1) Try.prog gf lb (fun x : Piece => #[Value.string (Cd.bs x.1)]) (Below w.heap.size) S Sp N w) :
    CallsIn F n Try.prog 92 #[.func (.func gf) #[] lb] w fun e W' => ∃ ys, S ys ∧ e = .returned (.string (Cd.bs (flat ys))) ∧ Below w.heap.size w W' := by
  have h1 : 1 ≤ n := by omega
  obtain ⟨i0, hi, hz0, hz1, hz2⟩ := info_parts info_u8
  refine callsIn_of_wp_marks Try.func92 rfl hf ?_ hro
  simp only [Try.ntmps92, List.size_toArray, List.length_cons, List.length_nil, Nat.reduceAdd, Nat.reduceSub, Array.replicate_succ, Array.replicate_zero, List.push_toArray, List.append_toArray, List.nil_append, List.cons_append]
  gi_wp2
  have bO := Boxed.new w 116 (.slice none 0 0)
  have hB0 : Below w.heap.size w (w.alloc (.cells #[.slice none 0 0] 116)) := (Below.refl _ w).alloc (Nat.le_refl _) _
  refine wpIn_rangeFunc_ownG hro h1 (gf := gf) (lb := lb) rfl hgf eg
    (stops_mono hseq hB0) belowK_t (belowK_b (by simp)) (Below.refl _ _) (fun _ => rfl)
    (fun pre W => (∃ v, Boxed W w.heap.size 116 v ∧ W.ownsRow w.heap.size 5 1 v (flat pre).length (Cd.cs (flat pre)) ∧ True) ∧ Below w.heap.size w W)
    (fun _ _ _ => False)
    (OwnFrom.and (Own.from (holdsRow_own w.heap.size w.heap.size 116 5 1 (fun pre => (flat pre).length) (fun pre => Cd.cs (flat pre)) (fun _ _ => True)) _) (ownFrom_below (Nat.le_refl _) (by simp)))
    (fun _ _ _ _ _ hs _ _ => hs)
    ⟨⟨_, bO, World.ownsRow_nil _ _ _ _, trivial⟩, hB0⟩
    (fun x => { tmps := #[.func (.func gf) #[] lb, undef, .string ⟨#[]⟩, .pointer (some ⟨w.heap.size, 0, none⟩), .string (Cd.bs x.1), .func (.func gf) #[] lb, .string (Cd.bs x.1), undef, undef, undef, undef, undef], defers := [] }) ?assign ?body ?done ?stop
  case assign =>
    intro l x W K hK
    gi_wp2
    exact hK
  case body =>
    rintro l pre x W ⟨⟨v, hv, hrow, _⟩, hB⟩ hlt
    have hc := hv.cell
    have hf := hv.frozen
    have hpl := flat_len pre
    have hx := x.2
    have hsz : (Cd.bs x.1).size = x.1.length := rfl
    have HSZ := Lib.hid hsz
    clear hsz
    have hBs := hB.size
    gi_wp2_with (gi_at_builtin; refine wpListIn_append_own_string _ rfl _ _ 116 9 rfl w.heap.size 5 i0 Try.underlying116 Try.underlying9 hi hz0 hz1 hz2 _ _ _ rfl hrow (Cd.bs x.1) rfl (by rw [HSZ.out]; unfold maxLen; omega) (by rw [HSZ.out]; omega) hBs ?_; intro v' w1 hown' hgrow; obtain ⟨ao, l', cap', rfl⟩ := ownsRow_slice hown'; obtain ⟨hv1, hv2, hr2, hk2, hb2⟩ := Boxed_appended' hv (by decide) hrow hBs (Nat.le_refl _) hown' hgrow; have hc1 := hv1.cell; have hf1 := hv1.frozen)
    exact ⟨hk2.from _, hb2, ⟨_, hv2, by rw [flat_snoc]; exact Cd.own_app (l' := x.1) rfl rfl hr2, trivial⟩, hB.trans hb2⟩
  case done =>
    rintro D ys W hD hS ⟨⟨v, hv, hrow, _⟩, hB⟩ hK
    have hc := hv.cell
    have hcv := conv_any hrow
    gi_wp2
    refine ⟨by simp, .inl ⟨_, _, rfl, run_takeDeferred hK, ?_⟩⟩
    exact ⟨_, results_tmp rfl _ _ _, ys, hS, rfl, hB.trans (belowK_b (w := w) (Nat.le_refl _) W D _ _ (by simp at hD; omega) hK rfl rfl)⟩
  case stop =>
    rintro D c pre W _ _ h _
    exact h.elim
end Go.Proofs.Ytpldfdlnhgmnaaa

/-
  slices.Values over texts, and PutText, which joins two of them.
-/
namespace Go.Proofs.Ytpldfdlnhgmnaaa
open Go.RowKit Go.Shelf
set_option linter.unusedSimpArgs false
set_option linter.unusedVariables false

attribute [local go_sem] Oper.semAt_some

/-- what has come when k rounds are over: f 0, .., f (k - 1) -/
def upto {α : Type} (f : Nat → α) (k : Nat) : List α := (List.range k).map f
theorem upto_succ {α : Type} (f : Nat → α) (k : Nat) : upto f (k + 1) = upto f k ++ [f k] := by simp [upto, List.range_succ]
theorem upto_length {α : Type} (f : Nat → α) (k : Nat) : (upto f k).length = k := by simp [upto]

set_option maxRecDepth 100000 in
set_option maxHeartbeats 2000000 in
theorem values1_in (F : Fence) (n : Nat) (h7 : F.fn 104) (hro : F.round = none) (hn : 1 ≤ n) (l Bs n₀ b len cap : Nat) (f : Nat → Piece) (hreach : len ≤ 1000000) (hb : b < n₀) (J Jx : List Piece → World → Prop)
    (hY : ∀ pre x W, J pre W → pre.length < len → YieldAt F (n - 1) Try.prog l #[.string (Cd.bs x.1)] W fun e W' =>
      (e = .returned (.bool true) ∧ J (pre ++ [x]) W' ∧ Below n₀ W W') ∨ (e = .returned (.bool false) ∧ Jx (pre ++ [x]) W'))
    (W : World) (hBs : W.cell? ⟨Bs, 0, none⟩ = some (.slice (some ⟨b, 0, none⟩) len cap)) (hc : ∀ j, j < len → W.cell? ⟨b, j, none⟩ = some (.string (Cd.bs (f j).1))) (h0 : J [] W) :
    CallsIn F n Try.prog 104 #[.func (.yield l) #[] #[], .pointer (some ⟨Bs, 0, none⟩)] W fun e W' => (∃ v, e = .returned v) ∧
      ((∃ ys, ys = upto f len ∧ J ys W') ∨ (∃ pre, True ∧ Jx pre W')) := by
  refine callsIn_of_wp Try.func104 rfl h7 ?_ hro
  simp only [Try.ntmps104, List.size_toArray, List.length_cons, List.length_nil, Nat.reduceAdd, Nat.reduceSub, Array.replicate_succ, Array.replicate_zero, List.push_toArray, List.append_toArray, List.nil_append, List.cons_append]
  gi_wp2
  gi_loopw [7] (fun i wr => ∃ k : Nat, k ≤ len ∧ i = .int .i64 k ∧ J (upto f k) wr ∧ Below n₀ W wr)
    (fun i _ => len - (intOf i).toNat)
  case atStart => exact ⟨0, Nat.zero_le _, rfl, h0, Below.refl _ _⟩
  case round =>
    obtain ⟨k, hk, rfl, hJs, hnx⟩ := hrel
    have hcx : k < len → wr.cell? ⟨b, k, none⟩ = some (.string (Cd.bs (f k).1)) := fun h => (hnx.cell (p := ⟨b, k, none⟩) hb).trans (hc k h)
    by_cases hlt : k < len
    · obtain ⟨fn, tmps, assign, body, hy, hR⟩ := hY _ (f k) wr hJs (by rw [upto_length]; exact hlt)
      have hcx' := hcx hlt
      gi_wp2
      refine hR.mono ?_
      rintro e W3 (⟨rfl, hJ3, hk3⟩ | ⟨rfl, hJx3⟩)
      · gi_wp2
        go_roundw
        case rel => exact ⟨k + 1, by omega, by simp, by rw [upto_succ]; exact hJ3, hnx.trans hk3⟩
        case measure => simp [intOf]; omega
      · gi_wp2
        refine bodyPost_ret (results_none rfl _ _ _) rfl ?_
        exact ⟨⟨_, rfl⟩, .inr ⟨_, trivial, hJx3⟩⟩
    · obtain rfl : k = len := by omega
      gi_wp2
      go_end0
      exact ⟨⟨_, rfl⟩, .inl ⟨_, rfl, hJs⟩⟩

set_option maxHeartbeats 1000000 in
theorem values_in (F : Fence) (n : Nat) (h5 : F.fn 93) (hro : F.round = none) (a : Option Addr) (len cap : Nat) (w : World) :
    CallsIn F n Try.prog 93 #[.slice a len cap] w fun e w' => e = .returned (.func (.func 104) #[] #[.pointer (some ⟨w.heap.size, 0, none⟩)]) ∧ w' = w.alloc (.cells #[.slice a len cap] 148) := by
  refine callsIn_of_wp Try.func93 rfl h5 ?_ hro
  simp only [Try.ntmps93, List.size_toArray, List.length_cons, List.length_nil, Nat.reduceAdd, Nat.reduceSub, Array.replicate_succ, Array.replicate_zero, List.push_toArray, List.append_toArray, List.nil_append, List.cons_append]
  gi_wp2
  go_ret
  exact ⟨rfl, rfl⟩

theorem values_stops (F : Fence) (n : Nat) (h7 : F.fn 104) (hro : F.round = none) (hn : 1 ≤ n) (Bs n₀ b len cap : Nat) (f : Nat → Piece) (hreach : len ≤ 1000000) (w : World) (hBs : Bs < w.heap.size) (hn₀ : n₀ ≤ w.heap.size) (hb : b < n₀)
    (hc : w.cell? ⟨Bs, 0, none⟩ = some (.slice (some ⟨b, 0, none⟩) len cap)) (hI : ∀ j, j < len → w.cell? ⟨b, j, none⟩ = some (.string (Cd.bs (f j).1))) :
    SeqStopsK F n Try.prog 104 #[.pointer (some ⟨Bs, 0, none⟩)] (fun x : Piece => #[Value.string (Cd.bs x.1)]) (Below n₀) (fun ys => ys = upto f len) (fun _ => True) len w := fun l J Jx W hW _ _ hY h0 => by
  have hc' := (hW.cell (p := ⟨Bs, 0, none⟩) hBs).trans hc
  exact values1_in F n h7 hro hn l Bs n₀ b len cap f hreach hb J Jx hY W hc' (fun j hj => (hW.cell (p := ⟨b, j, none⟩) (by show b < _; omega)).trans (hI j hj)) h0

theorem put_join (w1 : World) (p q : Piece) (l : List UInt8) (hq : q.1 = l) :
    Calls Try.prog 92 #[.func (.func 104) #[] #[.pointer (some ⟨w1.heap.size + 1, 0, none⟩)]]
      ((w1.alloc (.cells #[.string (Cd.bs p.1), .string (Cd.bs l)] 9)).alloc (.cells #[.slice (some ⟨w1.heap.size, 0, none⟩) 2 2] 148)) fun e w' =>
      e = .returned (.string (Cd.bs (flat (upto (fun j => if j = 0 then p else q) 2)))) ∧ Below w1.heap.size w1 w' := by
  subst hq
  have hst := values_stops Fence.wide 2 trivial rfl (by omega) (w1.heap.size + 1) (w1.heap.size + 2) w1.heap.size 2 2 (fun j => if j = 0 then p else q) (by omega)
    ((w1.alloc (.cells #[.string (Cd.bs p.1), .string (Cd.bs q.1)] 9)).alloc (.cells #[.slice (some ⟨w1.heap.size, 0, none⟩) 2 2] 148))
    (by simp) (by simp) (by omega) (by go_simp) (by
      intro j hj
      match j, hj with
      | 0, _ => go_simp
      | 1, _ => go_simp)
  have h := join_in Fence.wide 3 trivial rfl (by omega) 104 trivial (enters_of Try.func104 (by kernel_rfl) rfl) #[.pointer (some ⟨w1.heap.size + 1, 0, none⟩)]
    2 (by omega)
    ((w1.alloc (.cells #[.string (Cd.bs p.1), .string (Cd.bs q.1)] 9)).alloc (.cells #[.slice (some ⟨w1.heap.size, 0, none⟩) 2 2] 148)) (by simpa using hst)
  refine (callsIn_wide.1 h).mono ?_
  rintro e w' ⟨ys, rfl, he, hb⟩
  refine ⟨he, ?_⟩
  exact (((Below.refl w1.heap.size w1).alloc (Nat.le_refl _) _).alloc (by simp) _).trans (hb.mono (by simp; omega))

set_option maxRecDepth 100000 in
set_option maxHeartbeats 2000000 in
theorem putTc_any (s : ByteArray) (w : World) (hs : s.size ≤ 1048576) :
    Calls Try.prog 66 #[.string s] w fun e w' => e = .returned (.string (Cd.bs (Cd.putT s.data.toList))) ∧ Below w.heap.size w w' := by
  obtain ⟨l, rfl⟩ : ∃ l, s = Cd.bs l := ⟨s.data.toList, (Lib.mk_data s).symm⟩
  have hl : l.length ≤ 1048576 := hs
  have hU := fun W => putUc_at (l.length : Int) l.length W rfl (by omega)
  have hul := Cd.putU_len10 l.length (by omega)
  have hw : IntKind.u64.wrap (l.length : Int) = l.length := Cd.wrapU_nat (by omega)
  obtain ⟨p, hp⟩ : ∃ p : Piece, p.1 = Cd.putU l.length := ⟨⟨Cd.putU l.length, by omega⟩, rfl⟩
  obtain ⟨q, hq⟩ : ∃ q : Piece, q.1 = l := ⟨⟨l, hl⟩, rfl⟩
  have HE := Lib.hid (show Cd.putT (Cd.bs l).data.toList = flat (upto (fun j => if j = 0 then p else q) 2) by
    simp [upto, List.range, List.range.loop, flat, hp, hq, Cd.putT])
  rw [← hp] at hU
  have HU := Lib.hid hU
  have HQ := Lib.hid hq
  clear hU hp hq hul
  go_enter Try.func66, Try.ntmps66
  go_wp2_with (first
    | (go_at_call 69; refine (HU.out _).mono ?_; rintro e w1 ⟨rfl, hb1⟩)
    | (go_at_call 93; refine (callsIn_wide.1 (values_in Fence.wide 3 trivial rfl _ 2 2 _)).mono ?_; rintro e w' ⟨rfl, rfl⟩)
    | (go_at_call 92; refine (put_join w1 p q l HQ.out).mono ?_; rintro e w3 ⟨rfl, hb3⟩))
  go_ret
  exact ⟨by rw [HE.out]; rfl, hb1.trans (hb3.mono hb1.size)⟩
end Go.Proofs.Ytpldfdlnhgmnaaa

namespace Go.Proofs.Ytpldfdlnhgmnaaa
open Go.RowKit
set_option linter.unusedSimpArgs false
set_option linter.unusedVariables false

set_option maxRecDepth 100000 in
set_option maxHeartbeats 1000000 in
theorem sumr_any (s : ByteArray) (w : World) (hs : s.size ≤ maxLen) :
    Calls Try.prog 73 #[.string s] w fun e w' => e = .returned (.int .u32 (Fr.sum s.data.toList)) ∧ w = w' := by
  unfold maxLen at hs
  go_enter Try.func73, Try.ntmps73
  go_wp2_with fail
  go_loop [3, 4] (fun n i => ∃ k m : Nat, k ≤ s.size ∧ i = .int .i64 k ∧ n = .int .u32 m ∧ m = Fr.run 4294967295 (s.data.toList.take k)) (fun _ i => s.size - (intOf i).toNat)
  case atStart => exact ⟨0, _, Nat.zero_le _, rfl, rfl, rfl⟩
  case round =>
    obtain ⟨k, m, hk, rfl, rfl, hm⟩ := hrel
    have hlt0 : m < 4294967296 := by rw [hm]; exact Fr.run_lt _ (by omega)
    have HM := Lib.hid hm
    have HL := Lib.hid hlt0
    clear hm hlt0
    by_cases hlt : k < s.size
    · have hx := Fr.walk_in HL.out s[k]
      have hw := Fr.wrap32_byte s[k]
      have HT := Lib.hid (Cd.take_s s k hlt)
      go_wp2_with fail
      clear hw
      go_loop [3, 5] (fun n j => ∃ i q : Nat, i ≤ 8 ∧ j = .int .i64 i ∧ n = .int .u32 q ∧ q = Fr.steps i (m ^^^ s[k].toNat)) (fun _ j => 8 - (intOf j).toNat)
      case atStart => exact ⟨0, _, Nat.zero_le _, rfl, by first | rfl | rw [hx], rfl⟩
      case round =>
        obtain ⟨i, q, hi, rfl, rfl, hq⟩ := hrel
        have hlq : q < 4294967296 := by rw [hq]; exact Fr.steps_lt (Fr.xor_lt32 HL.out (by have := s[k].toNat_lt; omega)) _
        have HQ := Lib.hid hq
        have HLQ := Lib.hid hlq
        clear hq hlq hx
        by_cases h8 : i < 8
        · by_cases ho : q % 2 = 1
          · have hob : (((q : Int) % 2) == 1) = true := by simp; omega
            have hs1 := Fr.walk_odd HLQ.out ho
            go_wp2
            go_round
            case rel => exact ⟨i + 1, Fr.step q, by omega, by go_num, by first | rfl | rw [hs1], by rw [HQ.out]; rfl⟩
            case measure => simp [intOf]; omega
          · have hob : (((q : Int) % 2) == 1) = false := by simp; omega
            have HO := Lib.hid ho
            clear ho
            go_wp2
            go_round
            case rel => exact ⟨i + 1, Fr.step q, by omega, by go_num, by rw [← Fr.walk_even HLQ.out HO.out], by rw [HQ.out]; rfl⟩
            case measure => simp [intOf]; omega
        · obtain rfl : i = 8 := by omega
          go_wp2
          go_round
          case rel => exact ⟨k + 1, q, by omega, by go_num, rfl, by rw [HT.out, Fr.run_snoc, ← HM.out]; exact HQ.out⟩
          case measure => simp [intOf]; omega
    · obtain rfl : k = s.size := by omega
      go_wp2
      go_ret
      exact ⟨by rw [Fr.sum, ← Cd.take_all s, ← HM.out, ← Fr.walk_out HL.out]; rfl, rfl⟩

/-- the world of a row of four bytes, written one by one -/
def Row4 (w : World) (g : Nat) (l : List UInt8) : Prop := ∀ j, j < 4 → w.cell? ⟨g, j, none⟩ = some (.int .u8 ((l.getD j 0).toNat : Int)) ∧ w.frozen? ⟨g, j, none⟩ = false
theorem Row4.store {w : World} {g n k : Nat} {x : Value} (h : Row4 w g (Fr.litPart n k)) (hk : k < 4) (hx : x = .int .u8 ((Fr.litByte n k).toNat : Int)) :
    Row4 (w.setCell ⟨g, k, none⟩ x) g (Fr.litPart n (k + 1)) := by
  intro j hj
  rw [World.frozen?_setCell]
  refine ⟨?_, (h j hj).2⟩
  rw [Fr.litPart_get _ _ _ hj]
  by_cases hjk : j = k
  · subst hjk
    rw [World.cell?_setCell_same (h := (h j hj).1), hx, if_pos (by omega)]
  · rw [World.cell?_setCell_other (h := by simp only [ne_eq, Addr.mk.injEq, true_and, and_true]; omega), (h j hj).1, Fr.litPart_get _ _ _ hj]
    by_cases h1 : j < k
    · rw [if_pos h1, if_pos (by omega)]
    · rw [if_neg h1, if_neg (by omega)]
theorem Row4.conv {w : World} {g c : Nat} {l : List UInt8} (h : Row4 w g l) (hl : l.length = 4) : (convert 116 9 (.slice (some ⟨g, 0, none⟩) 4 c)).run Try.prog w = .ok (.string (Cd.bs l)) w := by
  have := run_convert_bytes_back (P := Try.prog) w 116 9 5 ⟨g, 0, none⟩ c l Try.underlying116 Try.underlying5 Try.underlying9 (fun j hj => by
    have := (h j (by omega)).1
    rw [List.getD_eq_getElem?_getD, List.getElem?_eq_getElem hj] at this
    have hp : (⟨g, 0, none⟩ : Addr).add j = ⟨g, j, none⟩ := by unfold Addr.add; split <;> simp_all
    rw [hp]; simpa using this)
  rwa [hl] at this
theorem Row4.new (w : World) (n : Nat) (T : TypeId) : Row4 (w.alloc (.cells #[.int .u8 0, .int .u8 0, .int .u8 0, .int .u8 0] T)) w.heap.size (Fr.litPart n 0) := by
  intro j hj
  rw [Fr.litPart_zero]
  match j, hj with
  | 0, _ => exact ⟨by go_simp, by go_simp⟩
  | 1, _ => exact ⟨by go_simp, by go_simp⟩
  | 2, _ => exact ⟨by go_simp, by go_simp⟩
  | 3, _ => exact ⟨by go_simp, by go_simp⟩

set_option maxRecDepth 100000 in
set_option maxHeartbeats 1000000 in
theorem littler_any (N : Int) (n : Nat) (w : World) (hN : N = n) (h1 : n < 4294967296) :
    Calls Try.prog 72 #[.int .u32 N] w fun e w' => e = .returned (.string (Cd.bs (Fr.lit n))) ∧ Below w.heap.size w w' := by
  have hmk : ∀ w, (Instr.makeSlice 116 (.int .i64 4) (.int .i64 4)).run Try.prog w = .ok (.slice (some ⟨w.heap.size, 0, none⟩) 4 4) (w.alloc (.cells #[.int .u8 0, .int .u8 0, .int .u8 0, .int .u8 0] 5)) := fun _ => by kernel_rfl
  subst hN
  have HN := Lib.hid h1
  clear h1
  go_enter Try.func72, Try.ntmps72
  go_wp2_with fail
  go_loopw [0, 4] (fun u i wr => ∃ (k m : Nat), k ≤ 4 ∧ i = .int .i64 k ∧ u = .int .u32 m ∧ m = n / 256 ^ k ∧ Row4 wr w.heap.size (Fr.litPart n k) ∧ Below w.heap.size w wr) (fun _ i _ => 4 - (intOf i).toNat)
  case atStart => exact ⟨0, n, Nat.zero_le _, rfl, rfl, by simp, Row4.new _ _ _, (Below.refl _ _).alloc (Nat.le_refl _) _⟩
  case round =>
    obtain ⟨k, m, hk, rfl, rfl, hm, hr, hb⟩ := hrel
    have HM := Lib.hid hm
    clear hm
    by_cases hk4 : k < 4
    · have hc := (hr k hk4).1
      have hf := (hr k hk4).2
      have HR := Lib.hid hr
      clear hr
      go_wp2
      go_roundw
      case rel => exact ⟨k + 1, m / 256, by omega, by go_num, by rw [Fr.lit_wrap n k m HN.out HM.out], Fr.lit_down n k m HM.out, HR.out.store hk4 (Fr.litByte_val n k m HM.out), hb.setCell (p := ⟨w.heap.size, k, none⟩) (Nat.le_refl _) _⟩
      case measure => simp [intOf]; omega
    · obtain rfl : k = 4 := by omega
      have hcv := hr.conv (c := 4) (Fr.litPart_len _ _)
      go_wp2
      go_ret
      exact ⟨by rw [Fr.litPart_done]; rfl, hb⟩
end Go.Proofs.Ytpldfdlnhgmnaaa

namespace Go.Proofs.Ytpldfdlnhgmnaaa
open Go.RowKit
set_option linter.unusedSimpArgs false
set_option linter.unusedVariables false

/-- string(b) of one byte that lies in a cell -/
theorem conv_cell (W : World) (g : Nat) (x : Int) (c : UInt8) (hx : x = (c.toNat : Int)) (h : W.cell? ⟨g, 0, none⟩ = some (.int .u8 x)) :
    (convert 116 9 (.slice (some ⟨g, 0, none⟩) 1 1)).run Try.prog W = .ok (.string (Cd.bs [c])) W := by
  have := run_convert_bytes_back (P := Try.prog) W 116 9 5 ⟨g, 0, none⟩ 1 [c] Try.underlying116 Try.underlying5 Try.underlying9 (fun j hj => by
    simp at hj; subst hj
    rw [show (⟨g, 0, none⟩ : Addr).add 0 = ⟨g, 0, none⟩ from by simp [Addr.add], h, hx]; rfl)
  simpa using this

theorem bcell {W w1 : World} (hb : Below W.heap.size W w1) : (∀ b o, b < W.heap.size → w1.cell? ⟨b, o, none⟩ = W.cell? ⟨b, o, none⟩) ∧ (∀ b o, b < W.heap.size → w1.frozen? ⟨b, o, none⟩ = W.frozen? ⟨b, o, none⟩) :=
  ⟨fun b o h => hb.cell (p := ⟨b, o, none⟩) h, fun b o h => hb.frozen (p := ⟨b, o, none⟩) h⟩

set_option maxRecDepth 100000 in
set_option maxHeartbeats 1000000 in
theorem framePutr_any (K : Int) (c : UInt8) (hK : K = (c.toNat : Int)) (l : List UInt8) (w : World) (hs : l.length ≤ 140737488351232) :
    Calls Try.prog 43 #[.agg #[.int .u8 K, .string (Cd.bs l)]] w fun e w' => e = .returned (.tuple #[.string (Cd.bs (Fr.put c l).1), .int .i64 (Fr.put c l).2]) ∧ Below w.heap.size w w' := by
  have hsz : (Cd.bs l).size = l.length := rfl
  have HSZ := Lib.hid hsz
  clear hsz
  by_cases h0 : c.toNat = 0
  · have hb : (K == 0) = true := by subst hK; simp [h0]
    rw [Fr.put_zero h0]
    clear hK h0
    go_enter Try.func43, Try.ntmps43
    go_wp2
    go_ret2
    exact ⟨rfl, (Below.refl _ _).alloc (Nat.le_refl _) _⟩
  · have hb : (K == 0) = false := by subst hK; simp; omega
    by_cases hl : l.length ≤ 262144
    · rw [Fr.put_ok h0 hl]
      have HK := Lib.hid hK
      have hcv := fun W g h => conv_cell W g K c hK h
      clear hK h0
      have hT := fun W => putTr_any (Cd.bs l) W (by rw [HSZ.out]; omega)
      have HT := Lib.hid hT
      clear hT
      have hlen : (Cd.putT l).length ≤ 262154 := by have := Cd.putU_len10 l.length (by omega); rw [Cd.putT, List.length_append]; omega
      go_enter Try.func43, Try.ntmps43
      go_wp2_with fail
      go_cut [4] (fun r wx => r = .string (Cd.bs (c :: Cd.putT l)) ∧ Below w.heap.size w wx)
      case first =>
        go_region_with (go_at_call 42; refine (HT.out _).mono ?_; rintro e w1 ⟨rfl, hb1⟩; obtain ⟨hkc, hkf⟩ := bcell hb1; have hsz1 := hb1.size; simp at hsz1)
        all_goals (try go_wp2_with fail)
        all_goals go_meet
        all_goals refine ⟨by rw [ByteArray.mk_append_mk]; rfl, ?_⟩
        all_goals repeat (first
          | exact Below.refl _ _
          | (refine Below.trans ?_ (hb1.mono ?_))
          | apply Below.drew
          | (refine Below.alloc ?_ ?_ _)
          | exact Nat.le_refl _
          | omega
          | (focus (simp; done))
          | (focus (simp; omega)))
      case rest =>
        obtain ⟨rfl, hbc⟩ := hcut
        have hS := fun W => sumr_any (Cd.bs (c :: Cd.putT l)) W (by show (c :: Cd.putT l).length ≤ maxLen; unfold maxLen; rw [List.length_cons]; omega)
        have HS := Lib.hid hS
        have HL := Lib.hid (fun W => littler_any (Fr.sum (c :: Cd.putT l) : Int) (Fr.sum (c :: Cd.putT l)) W rfl (Fr.sum_lt _))
        clear hS hcv
        have hll : (Fr.lit (Fr.sum (c :: Cd.putT l))).length ≤ 4 := by rw [Fr.lit_len]; omega
        have hsl : (Cd.bs (c :: Cd.putT l)).size ≤ 262155 := by show (c :: Cd.putT l).length ≤ 262155; rw [List.length_cons]; omega
        go_wp2_with (first
          | (go_at_call 73; refine (HS.out _).mono ?_; rintro e w' ⟨rfl, rfl⟩)
          | (go_at_call 72; refine (HL.out _).mono ?_; rintro e w3 ⟨rfl, hb3⟩))
        go_ret2
        exact ⟨by rw [ByteArray.mk_append_mk]; rfl, hbc.trans (hb3.mono hbc.size)⟩
    · have hlb : (262144 : Int) < l.length := by omega
      rw [Fr.put_long (by omega)]
      clear hK h0
      go_enter Try.func43, Try.ntmps43
      go_wp2
      go_ret2
      exact ⟨rfl, (Below.refl _ _).alloc (Nat.le_refl _) _⟩
end Go.Proofs.Ytpldfdlnhgmnaaa

namespace Go.Proofs.Ytpldfdlnhgmnaaa
open Go.RowKit
set_option linter.unusedSimpArgs false
set_option linter.unusedVariables false

/-- a frame's answer as Go hands it back -/
abbrev frameV (r : (UInt8 × List UInt8) × Nat × Nat) : Value := .tuple #[.agg #[.int .u8 (r.1.1.toNat : Int), .string (Cd.bs r.1.2)], .int .i64 r.2.1, .int .i64 r.2.2]

set_option maxRecDepth 100000 in
set_option maxHeartbeats 1000000 in
theorem frameTaker_any (l : List UInt8) (w : World) (hs : l.length ≤ 140737488351232) :
    Calls Try.prog 63 #[.string (Cd.bs l)] w fun e w' => e = .returned (frameV (Fr.take l)) ∧ Below w.heap.size w w' := by
  by_cases h5 : l.length < 5
  · rw [Fr.take_few h5]
    go_enter Try.func63, Try.ntmps63
    go_wp2_with fail
    exact bodyPost_ret (v := frameV ((0, []), 0, 2)) (by simp [results, Try.results63, go_sem]) rfl ⟨rfl, by repeat (first | exact Below.refl _ _ | (refine Below.setCell ?_ ?_ _) | (refine Below.alloc ?_ ?_ _) | exact Nat.le_refl _ | (focus (simp; done)))⟩
  · have h5' : 5 ≤ l.length := by omega
    have hg : l.getD 4 0 = (Cd.bs l)[4]'(by show 4 < l.length; omega) := by rw [List.getD_eq_getElem?_getD, List.getElem?_eq_getElem (by omega)]; rfl
    obtain ⟨c, hc⟩ : ∃ c, c = l.getD 4 0 := ⟨_, rfl⟩
    have hidx : ((Cd.bs l)[4]'(by show 4 < l.length; omega)) = c := by rw [hc, hg]
    by_cases h0 : c.toNat = 0
    · have hb : ((c.toNat : Int) == 0) = true := by simp [h0]
      rw [Fr.take_zero h5' (by rw [← hc]; exact h0)]
      clear hg hc
      go_enter Try.func63, Try.ntmps63
      go_wp2_with fail
      exact bodyPost_ret (v := frameV ((0, []), 0, 3)) (by simp [results, Try.results63, go_sem]) rfl ⟨rfl, by repeat (first | exact Below.refl _ _ | (refine Below.setCell ?_ ?_ _) | (refine Below.alloc ?_ ?_ _) | exact Nat.le_refl _ | (focus (simp; done)))⟩
    · have hb : ((c.toNat : Int) == 0) = false := by simp; omega
      obtain ⟨t, n, e, ht⟩ : ∃ t n e, Cd.takeT (l.drop 5) 262144 = (t, n, e) := ⟨_, _, _, rfl⟩
      obtain ⟨q1, q2, q3⟩ := Fr.takeT_len (l.drop 5) 262144
      rw [ht] at q1 q2 q3
      simp only [List.length_drop] at q1 q2 q3
      have hex : ((Cd.bs l).extract 5 l.length).data.toList = l.drop 5 := by
        rw [Lib.extract_data]; exact List.take_of_length_le (by simp)
      have hT : ∀ W, Calls Try.prog 90 #[.string ((Cd.bs l).extract 5 l.length), .int .i64 262144] W fun e' w' => e' = .returned (.tuple #[.string (Cd.bs t), .int .i64 n, .int .i64 e]) ∧ Below W.heap.size W w' := fun W => by
        have := takeTr_any ((Cd.bs l).extract 5 l.length) 262144 W (by rw [Lib.size_eq, hex, List.length_drop]; omega) (by omega) (by omega)
        rw [hex, ht] at this
        exact this
      have HT := Lib.hid hT
      clear hT hex
      by_cases he : e = 0
      · subst he
        have hS : ∀ W, Calls Try.prog 73 #[.string ((Cd.bs l).extract 4 (5 + n))] W fun e' w' => e' = .returned (.int .u32 (Fr.sum ((l.drop 4).take (n + 1)))) ∧ W = w' := fun W => by
          have hx : ((Cd.bs l).extract 4 (5 + n)).data.toList = (l.drop 4).take (n + 1) := by rw [Lib.extract_data]; congr 1; omega
          have := sumr_any ((Cd.bs l).extract 4 (5 + n)) W (by rw [Lib.size_eq, hx, List.length_take]; unfold maxLen; omega)
          rwa [hx] at this
        have HS := Lib.hid hS
        have HL := Lib.hid (fun W => littler_any (Fr.sum ((l.drop 4).take (n + 1)) : Int) (Fr.sum ((l.drop 4).take (n + 1))) W rfl (Fr.sum_lt _))
        clear hS
        have h4 : ((Cd.bs l).extract 0 4).toList = l.take 4 := by rw [Lib.extract_toList]; rfl
        have HQ2 := Lib.hid q2
        clear q2 q3
        have hn5 : 5 + n ≤ l.length := by omega
        generalize hsm : Fr.lit (Fr.sum ((l.drop 4).take (n + 1))) = m at *
        have HSM := Lib.hid hsm
        clear hsm
        have HTT := Lib.hid ht
        have HC := Lib.hid hc
        have HG := Lib.hid hg
        clear ht hc hg
        obtain ⟨sm, hsm2⟩ : ∃ sm, sm = Fr.sum ((l.drop 4).take (n + 1)) := ⟨_, rfl⟩
        rw [← hsm2] at HS HL HSM
        have HSM2 := Lib.hid hsm2
        clear hsm2
        have hml : (Cd.bs m).toList = m := by rw [ByteArray.toList_mk]
        by_cases hm : m = l.take 4
        · have hmb : (m == l.take 4) = true := by simp [hm]
          rw [Fr.take_ok h5' (by rw [← HC.out]; exact h0) HTT.out (by rw [← HSM2.out, HSM.out]; exact hm), ← HC.out]
          clear hm
          go_enter Try.func63, Try.ntmps63
          go_wp2_with (go_at_call 90; refine (HT.out _).mono ?_; rintro e w1 ⟨rfl, hb1⟩; obtain ⟨hkc, hkf⟩ := bcell hb1; have hz : w.heap.size < w1.heap.size := (by have := hb1.size; simp at this; omega))
          go_cut [35] (fun r wx => r = .bool false ∧ Below w1.heap.size w1 wx)
          case first =>
            have hw : IntKind.i64.wrap (5 + (n : Int)) = 5 + n := by rw [IntKind.wrap_i64]; omega
            have hw0 : (0 : Int) ≤ 5 + (n : Int) ∧ (4 : Int) ≤ 5 + (n : Int) ∧ 5 + (n : Int) ≤ (l.length : Int) := by omega
            have hw1 : (5 + (n : Int)).toNat = 5 + n := by omega
            go_region_with (first
              | (go_at_call 73; refine (HS.out _).mono ?_; rintro e w' ⟨rfl, rfl⟩)
              | (go_at_call 72; refine (HL.out _).mono ?_; rintro e w3 ⟨rfl, hb3⟩))
            all_goals clear hw hw0 hw1
            all_goals (try go_wp2_with fail)
            all_goals go_meet
            all_goals refine ⟨rfl, ?_⟩
            all_goals repeat (first | exact Below.refl _ _ | (refine Below.trans ?_ (hb3.mono ?_)) | apply Below.drew | exact Nat.le_refl _ | omega | (focus (simp; done)))
          case rest =>
            obtain ⟨rfl, hbc⟩ := hcut
            obtain ⟨hkc2, hkf2⟩ := bcell hbc
            have hz2 : w.heap.size < wc.heap.size := Nat.lt_of_lt_of_le hz hbc.size
            go_wp2_with fail
            exact bodyPost_ret (v := frameV ((c, t), 5 + n, 0)) (by simp [results, Try.results63, go_sem, hkc, hkc2, hz, hz2]) rfl ⟨rfl, by repeat (first | exact Below.refl _ _ | (refine Below.trans ?_ (hbc.mono ?_)) | (refine Below.trans ?_ (hb1.mono ?_)) | apply Below.drew | (refine Below.setCell ?_ ?_ _) | (refine Below.alloc ?_ ?_ _) | exact Nat.le_refl _ | omega | (focus (simp; done)) | (focus (simp; omega)))⟩
        · have hmb : (m == l.take 4) = false := by simpa using hm
          rw [Fr.take_bad h5' (by rw [← HC.out]; exact h0) HTT.out (by rw [← HSM2.out, HSM.out]; exact hm)]
          clear hm
          go_enter Try.func63, Try.ntmps63
          go_wp2_with (go_at_call 90; refine (HT.out _).mono ?_; rintro e w1 ⟨rfl, hb1⟩; obtain ⟨hkc, hkf⟩ := bcell hb1; have hz : w.heap.size < w1.heap.size := (by have := hb1.size; simp at this; omega))
          go_cut [35] (fun r wx => r = .bool true ∧ Below w1.heap.size w1 wx)
          case first =>
            have hw : IntKind.i64.wrap (5 + (n : Int)) = 5 + n := by rw [IntKind.wrap_i64]; omega
            have hw0 : (0 : Int) ≤ 5 + (n : Int) ∧ (4 : Int) ≤ 5 + (n : Int) ∧ 5 + (n : Int) ≤ (l.length : Int) := by omega
            have hw1 : (5 + (n : Int)).toNat = 5 + n := by omega
            go_region_with (first
              | (go_at_call 73; refine (HS.out _).mono ?_; rintro e w' ⟨rfl, rfl⟩)
              | (go_at_call 72; refine (HL.out _).mono ?_; rintro e w3 ⟨rfl, hb3⟩))
            all_goals clear hw hw0 hw1
            all_goals (try go_wp2_with fail)
            all_goals go_meet
            all_goals refine ⟨rfl, ?_⟩
            all_goals repeat (first | exact Below.refl _ _ | (refine Below.trans ?_ (hb3.mono ?_)) | apply Below.drew | exact Nat.le_refl _ | omega | (focus (simp; done)))
          case rest =>
            obtain ⟨rfl, hbc⟩ := hcut
            obtain ⟨hkc2, hkf2⟩ := bcell hbc
            have hz2 : w.heap.size < wc.heap.size := Nat.lt_of_lt_of_le hz hbc.size
            go_wp2_with fail
            exact bodyPost_ret (v := frameV ((0, []), 0, 3)) (by simp [results, Try.results63, go_sem, hkc, hkc2, hz, hz2]) rfl ⟨rfl, by repeat (first | exact Below.refl _ _ | (refine Below.trans ?_ (hbc.mono ?_)) | (refine Below.trans ?_ (hb1.mono ?_)) | apply Below.drew | (refine Below.setCell ?_ ?_ _) | (refine Below.alloc ?_ ?_ _) | exact Nat.le_refl _ | omega | (focus (simp; done)) | (focus (simp; omega)))⟩
      · rw [Fr.take_err h5' (by rw [← hc]; exact h0) ht he]
        have hbe : (((e : Nat) : Int) == 0) = false := by simp; omega
        clear hg hc ht q2
        go_enter Try.func63, Try.ntmps63
        go_wp2_with (go_at_call 90; refine (HT.out _).mono ?_; rintro e w1 ⟨rfl, hb1⟩; obtain ⟨hkc, hkf⟩ := bcell hb1; have hz : w.heap.size < w1.heap.size := (by have := hb1.size; simp at this; omega))
        exact bodyPost_ret (v := frameV ((0, []), 0, e)) (by simp [results, Try.results63, go_sem, hkc, hz]) rfl ⟨rfl, by repeat (first | exact Below.refl _ _ | (refine Below.trans ?_ (hb1.mono ?_)) | (refine Below.trans ?_ (hb3.mono ?_)) | apply Below.drew | (refine Below.setCell ?_ ?_ _) | (refine Below.alloc ?_ ?_ _) | exact Nat.le_refl _ | omega | (focus (simp; done)) | (focus (simp; omega)))⟩
end Go.Proofs.Ytpldfdlnhgmnaaa

namespace Go.Proofs.Ytpldfdlnhgmnaaa
open Go.RowKit
set_option linter.unusedSimpArgs false
set_option linter.unusedVariables false

theorem info_At : (Try.prog.info? 83).map (fun i => (i.zero, i.size, i.bytes)) = some (some (.agg #[.int .i64 0, .int .u8 0, .string ⟨#[]⟩]), 3, 32) := by kernel_rfl

/-- frames with their places, as cells -/
def atCells (out : List (Nat × (UInt8 × List UInt8))) : List Value := (out.map fun x => [Value.int .i64 x.1, .int .u8 x.2.1.toNat, .string (Cd.bs x.2.2)]).flatten
theorem atCells_snoc (out : List (Nat × (UInt8 × List UInt8))) (x : Nat × (UInt8 × List UInt8)) : atCells (out ++ [x]) = atCells out ++ [.int .i64 x.1, .int .u8 x.2.1.toNat, .string (Cd.bs x.2.2)] := by simp [atCells]
theorem cell_three_new (w : World) (a b c : Value) (t : TypeId) : ∀ j u, [a, b, c][j]? = some u → (w.alloc (.cells #[a, b, c] t)).cell? ((⟨w.heap.size, 0, none⟩ : Addr).add j) = some u := by
  intro j u hj
  match j, hj with
  | 0, hj => simp at hj; subst hj; simp [Addr.add]
  | 1, hj => simp at hj; subst hj; simp [Addr.add]
  | 2, hj => simp at hj; subst hj; simp [Addr.add]
  | (j + 3), hj => simp at hj

/-- what is owned stays owned behind whatever keeps the blocks that there are -/
theorem own_below {W w : World} {base : Nat} {e : TypeId} {size : Nat} {v : Value} {n : Nat} {xs : List Value} (h : W.ownsRow base e size v n xs) (hb : Below W.heap.size W w) : w.ownsRow base e size v n xs := by
  refine ⟨h.1, ?_⟩
  rcases h.2 with h | ⟨g, cap, cur, h1, h2, h3, h4⟩
  · exact .inl h
  · exact .inr ⟨g, cap, cur, h1, h2, (hb.block g (Array.getElem?_eq_some_iff.1 h3).1).trans h3, h4⟩

set_option maxRecDepth 100000 in
set_option maxHeartbeats 2000000 in
theorem frameAllr_any (l : List UInt8) (w : World) (hs : l.length ≤ 1048576) :
    Calls Try.prog 37 #[.string (Cd.bs l)] w fun e w' => ∃ v, e = .returned (.tuple #[v, .int .i64 (Fr.all l).2]) ∧ w'.ownsRow w.heap.size 83 3 v (Fr.all l).1.length (atCells (Fr.all l).1) ∧ Below w.heap.size w w' := by
  obtain ⟨i0, hi, hz0, hz1, hz2⟩ := info_parts info_At
  go_enter Try.func37, Try.ntmps37
  go_wp2_with fail
  go_loopw [4, 5] (fun v i wr => ∃ (p : Nat) (out : List (Nat × (UInt8 × List UInt8))), p ≤ l.length ∧ i = .int .i64 p ∧ out.length ≤ p ∧ wr.ownsRow w.heap.size 83 3 v out.length (atCells out) ∧ Below w.heap.size w wr ∧ Fr.all l = (out ++ (Fr.allGo l p).1, (Fr.allGo l p).2)) (fun _ i _ => l.length - (intOf i).toNat)
  case atStart => exact ⟨0, [], Nat.zero_le _, rfl, Nat.zero_le _, World.ownsRow_nil _ _ _ _, Below.refl _ _, rfl⟩
  case round =>
    obtain ⟨p, out, hp, rfl, hol, hown, hb, hgo⟩ := hrel
    have HG := Lib.hid hgo
    clear hgo
    have hbs := hb.size
    by_cases hlt : p < l.length
    · obtain ⟨f, n, e, ht⟩ : ∃ f n e, Fr.take (l.drop p) = (f, n, e) := ⟨_, _, _, rfl⟩
      obtain ⟨q1, q2, q3⟩ := Fr.take_len (l.drop p)
      rw [ht] at q1 q2 q3
      simp only [List.length_drop] at q1 q2 q3
      have hT : ∀ W, Calls Try.prog 63 #[.string ((Cd.bs l).extract p l.length)] W fun e' w' => e' = .returned (frameV (f, n, e)) ∧ Below W.heap.size W w' := fun W => by
        have hx : (Cd.bs l).extract p l.length = Cd.bs (l.drop p) := by rw [ByteArray.extract_mk, List.take_of_length_le (by simp)]
        rw [hx]
        have := frameTaker_any (l.drop p) W (by rw [List.length_drop]; omega)
        rwa [ht] at this
      have HT := Lib.hid hT
      have HTT := Lib.hid ht
      clear hT ht
      by_cases he : e = 0
      · subst he
        have h5 := q2 rfl
        clear q2 q3
        go_wp2_with (first
          | (go_at_call 63; refine (HT.out _).mono ?_; rintro e w1 ⟨rfl, hb1⟩; have hown1 := own_below hown hb1; have hb1' := hb.trans (hb1.mono hbs); have hs1 := hb1'.size)
          | (at_builtin; refine wpList_append_own _ rfl _ _ 77 rfl w.heap.size 83 i0 (.agg #[.int .i64 0, .int .u8 0, .string ⟨#[]⟩]) 3 32 Try.underlying77 hi hz0 hz1 hz2 rfl (by decide) _ _ _ rfl ((hown1.alloc _).alloc _) ⟨w1.heap.size + 1, 0, none⟩ 1 1 [_, _, _] rfl rfl (by simpa using cell_three_new (w1.alloc (.cells #[.int .u8 f.1.toNat, .string (Cd.bs f.2)] 73)) _ _ _ _) (by simp [Value.oneCell']) (by unfold maxLen; omega) (by omega) (by simp; omega) ?_; intro v' w2 hown2 hgrow _; have hb2 := ((hb1'.alloc hs1 _).alloc (by simp; omega) _).grown hgrow (by simp; omega) (fun j hj => (hown1.lt j hj).1); clear hgrow))
        go_roundw
        case rel => exact ⟨p + n, out ++ [(p, f)], by omega, by go_num, by simp; omega, by rw [atCells_snoc, List.length_append, List.length_singleton]; exact hown2, hb2, by
          rw [HG.out, Fr.allGo_more (l := l) (p := p) (by rw [HTT.out]; exact ⟨hlt, rfl, by show 0 < n; omega⟩), HTT.out]; simp⟩
        case measure => simp [intOf]; omega
      · have hbe : (((e : Nat) : Int) == 0) = false := by simp; omega
        clear q2 q3
        go_wp2_with (first
          | (go_at_call 63; refine (HT.out _).mono ?_; rintro e w1 ⟨rfl, hb1⟩; have hown1 := own_below hown hb1; have hb1' := hb.trans (hb1.mono hbs); have hs1 := hb1'.size))
        have hst := Fr.allGo_stop (l := l) (p := p) (by rw [HTT.out]; rintro ⟨_, h, _⟩; exact he h)
        have hg := HG.out
        rw [hst, List.append_nil] at hg
        go_ret2
        exact ⟨_, by rw [hg]; rfl, by rw [hg]; exact hown1.alloc _, hb1'.alloc hs1 _⟩
    · obtain rfl : p = l.length := by omega
      have hst := Fr.allGo_stop (l := l) (p := l.length) (by rintro ⟨h, _⟩; omega)
      have hg := HG.out
      rw [hst, List.append_nil] at hg
      have HGG := Lib.hid hg
      clear hst hg
      go_wp2_with fail
      go_ret2
      exact ⟨_, by rw [HGG.out]; rfl, by rw [HGG.out]; exact hown, hb⟩
end Go.Proofs.Ytpldfdlnhgmnaaa

/-
  The document's answers of chapter 10: Decode.
-/
namespace Go.Proofs.Ytpldfdlnhgmnaaa
open Go.RowKit
set_option linter.unusedSimpArgs false
set_option linter.unusedVariables false
theorem info_Table10 : (Try.prog.info? 38).map (fun i => (i.zero, i.size, i.bytes)) = some (some (.agg #[.int .u64 0, .int .i64 0, .int .i64 0, .int .i64 0, .string ⟨#[]⟩, .string ⟨#[]⟩]), 6, 64) := by kernel_rfl
theorem info_u6410 : (Try.prog.info? 23).map (fun i => (i.zero, i.size, i.bytes)) = some (some (.int .u64 0), 1, 8) := by kernel_rfl
namespace Mf
open Fi (TkS tkNum tkText Dat)
def zeroE : Value := .agg #[.int .u64 0, .int .u64 0, .int .u64 0, .slice none 0 0, .slice none 0 0]
/-- what Decode leaves -/
def DecOut10 (d : Option Ed) (w : World) (r : Ending) (w' : World) : Prop :=
  match d with
  | some e => ∃ av dv, r = .returned (.tuple #[edV e av dv, .int .i64 0]) ∧ EdIn w'.heap.size w' e av dv ∧ Below w.heap.size w w'
  | none => r = .returned (.tuple #[zeroE, .int .i64 3]) ∧ Below w.heap.size w w'
theorem nC_snoc (L : List Int) (x : Int) : nC (L ++ [x]) = nC L ++ [.int .u64 x] := by simp [nC]
theorem ns_of_own {W : World} {B : Nat} {te : TypeId} {v : Value} {L : List Int} (h : W.ownsRow B te 1 v L.length (nC L)) : Ns W.heap.size W v L := by
  obtain ⟨a, cap, b, rfl, _, _, h3⟩ := Gn.row_at h
  refine ⟨a, cap, b, 0, rfl, fun h => ⟨(h3 h).1, (h3 h).2.2.1⟩, fun j hj => ?_⟩
  obtain ⟨_, _, _, hc⟩ := h3 (by omega)
  rw [Nat.zero_add, hc j (by omega)]
  simp [nC, hj]
/-- amid Decode: what is read lies at B or above -/
structure ES (B bb : Nat) (n q g : Int) (A : List Tbl) (D : List Int) (av dv : Value) (W : World) : Prop where
  box : Ob.Obj W bb 30 [.int .u64 n, .int .u64 q, .int .u64 g, av, dv]
  rowA : W.ownsRow B 38 6 av A.length (tcs A)
  rowD : W.ownsRow B 23 1 dv D.length (nC D)
variable {B bb : Nat} {n q g : Int} {A : List Tbl} {D : List Int} {av dv : Value} {W W2 : World}
theorem ES.below (h : ES B bb n q g A D av dv W) (hb : Below W.heap.size W W2) : ES B bb n q g A D av dv W2 :=
  ⟨h.box.below hb, own_below h.rowA hb, own_below h.rowD hb⟩
theorem ES.kept (h : ES B bb n q g A D av dv W) {T : Sq.Blocks} (hk : Sq.Kept T W W2) (h1 : T bb) (h2 : ∀ k, av.ownBlock = some k → T k) (h3 : ∀ k, dv.ownBlock = some k → T k) : ES B bb n q g A D av dv W2 :=
  ⟨h.box.kept hk h1, Sq.row_kept h.rowA hk h2, Sq.row_kept h.rowD hk h3⟩
/-- all but one block, of another kind, is kept -/
theorem ES.call (h : ES B bb n q g A D av dv W) {t : Nat} {ty : TypeId} {cs : List Value} (ho : Ob.Obj W t ty cs) (hk : Sq.Kept (fun k => k ≠ t) W W2) (hb : bb ≠ t) (h1 : ty ≠ 38) (h2 : ty ≠ 23) : ES B bb n q g A D av dv W2 :=
  h.kept hk hb (fun k hk2 e => by subst e; exact ho.not_row h1 h.rowA hk2) (fun k hk2 e => by subst e; exact ho.not_row h2 h.rowD hk2)
theorem ES.addT (h : ES B bb n q g A D av dv W) (x : Tbl) {v2 : Value} (hown : W2.ownsRow B 38 6 v2 (A.length + 1) (tcs A ++ tC x)) (hg : W.grownBy W2 av.ownBlock) : ES B bb n q g (A ++ [x]) D v2 dv (W2.setCell ⟨bb, 3, none⟩ v2) := by
  have hob : Ob.Obj W2 bb 30 [.int .u64 n, .int .u64 q, .int .u64 g, av, dv] := h.box.grown hg (h.box.not_row (by decide) h.rowA)
  have hD : W2.ownsRow B 23 1 dv D.length (nC D) := Sq.row_kept h.rowD (Sq.Kept.grown (T := fun k => dv.ownBlock = some k) hg (fun r hr e => Ob.rows_apart h.rowA h.rowD (by decide) r hr e)) (fun k hk => hk)
  refine ⟨?_, ?_, Ob.row_other hD (p := ⟨bb, 3, none⟩) (hob.not_row (by decide) hD) _⟩
  · have := hob.set 3 v2
    simpa using this
  · have e : tcs (A ++ [x]) = tcs A ++ tC x := by simp [tcs]
    rw [e, List.length_append, List.length_singleton]
    exact Ob.row_other hown (p := ⟨bb, 3, none⟩) (hob.not_row (by decide) hown) _
theorem ES.addD (h : ES B bb n q g A D av dv W) (x : Int) {v2 : Value} (hown : W2.ownsRow B 23 1 v2 (D.length + 1) (nC D ++ [.int .u64 x])) (hg : W.grownBy W2 dv.ownBlock) : ES B bb n q g A (D ++ [x]) av v2 (W2.setCell ⟨bb, 4, none⟩ v2) := by
  have hob : Ob.Obj W2 bb 30 [.int .u64 n, .int .u64 q, .int .u64 g, av, dv] := h.box.grown hg (h.box.not_row (by decide) h.rowD)
  have hA : W2.ownsRow B 38 6 av A.length (tcs A) := Sq.row_kept h.rowA (Sq.Kept.grown (T := fun k => av.ownBlock = some k) hg (fun r hr e => Ob.rows_apart h.rowD h.rowA (by decide) r hr e)) (fun k hk => hk)
  refine ⟨?_, Ob.row_other hA (p := ⟨bb, 4, none⟩) (hob.not_row (by decide) hA) _, ?_⟩
  · have := hob.set 4 v2
    simpa using this
  · rw [nC_snoc, List.length_append, List.length_singleton]
    exact Ob.row_other hown (p := ⟨bb, 4, none⟩) (hob.not_row (by decide) hown) _
theorem ES.ed (h : ES B bb n q g A D av dv W) (hA : ∀ x ∈ A, TblIn x) (hD : ∀ d ∈ D, 0 ≤ d ∧ d ≤ 18446744073709551615) (h1 : 0 ≤ n ∧ n ≤ 18446744073709551615) (h2 : 0 ≤ q ∧ q ≤ 18446744073709551615) (h3 : 0 ≤ g ∧ g ≤ 18446744073709551615) (h4 : A.length ≤ 1048576) (h5 : D.length ≤ 1048576) : EdIn W.heap.size W ⟨n, q, g, A, D⟩ av dv :=
  ⟨tbs_of_own h.rowA, ns_of_own h.rowD, hA, hD, h1.1, h1.2, h2.1, h2.2, h3.1, h3.2, h4, h5⟩
theorem rTab_in (s : TkS) : TblIn (rTab s).1 ∧ (rTab s).2.1.length ≤ s.1.length := by
  unfold rTab tabBy
  have a1 := Fi.tkNum_le 4611686018427387904 s
  have b1 := Fi.tkNum_len 4611686018427387904 s
  generalize tkNum 4611686018427387904 s = r1 at *
  have a2 := Fi.tkNum_le 3 r1.2
  have b2 := Fi.tkNum_len 3 r1.2
  generalize tkNum 3 r1.2 = r2 at *
  have a3 := Fi.tkNum_le 1073741824 r2.2
  have b3 := Fi.tkNum_len 1073741824 r2.2
  generalize tkNum 1073741824 r2.2 = r3 at *
  have a4 := Fi.tkNum_le 1073741824 r3.2
  have b4 := Fi.tkNum_len 1073741824 r3.2
  generalize tkNum 1073741824 r3.2 = r4 at *
  have a5 := Fi.tkText_le 96 r4.2
  have b5 := Fi.tkText_len 96 r4.2
  generalize tkText 96 r4.2 = r5 at *
  have a6 := Fi.tkText_le 96 r5.2
  have b6 := Fi.tkText_len 96 r5.2
  generalize tkText 96 r5.2 = r6 at *
  exact ⟨⟨by simp only; omega, by simp only; omega, by simp only; omega, by simp only; omega, by simp only; omega, by simp only; omega, by simp only; omega, by simp only; omega, by simp only; omega, by simp only; omega⟩, by simp only; omega⟩
theorem tin_snoc {L : List Tbl} {p : Tbl} (h : ∀ q ∈ L, TblIn q) (hp : TblIn p) : ∀ q ∈ L ++ [p], TblIn q := fun q hq => by
  rcases List.mem_append.1 hq with hq | hq
  · exact h q hq
  · simp only [List.mem_singleton] at hq; subst hq; exact hp
theorem din_snoc {L : List Int} {p : Int} (h : ∀ d ∈ L, 0 ≤ d ∧ d ≤ 18446744073709551615) (hp : 0 ≤ p ∧ p ≤ 18446744073709551615) : ∀ d ∈ L ++ [p], 0 ≤ d ∧ d ≤ 18446744073709551615 := fun q hq => by
  rcases List.mem_append.1 hq with hq | hq
  · exact h q hq
  · simp only [List.mem_singleton] at hq; subst hq; exact hp
end Mf
end Go.Proofs.Ytpldfdlnhgmnaaa

/-
  The document's answers of chapter 10: Numbers.
-/
namespace Go.Proofs.Ytpldfdlnhgmnaaa
open Go.RowKit
set_option linter.unusedSimpArgs false
set_option linter.unusedVariables false
namespace Mf
theorem lowerR {W : World} {B B' : Nat} {e : TypeId} {sz m : Nat} {v : Value} {xs : List Value} (h : W.ownsRow B e sz v m xs) (hB : B' ≤ B) : W.ownsRow B' e sz v m xs := by
  rcases h with ⟨h0, h1 | ⟨g, cap, cur, h1, h2, h3, h4⟩⟩
  · exact ⟨h0, .inl h1⟩
  · exact ⟨h0, .inr ⟨g, cap, cur, h1, Nat.le_trans hB h2, h3, h4⟩⟩
/-- a level's row -/
def uA (u0 u1 u2 u3 : Value) (k : Nat) : Value := if k = 0 then u0 else if k = 1 then u1 else if k = 2 then u2 else u3
theorem LvIn.lev {B : Nat} {W : World} {l : Lv} {u0 u1 u2 u3 : Value} (h : LvIn B W l u0 u1 u2 u3) {k : Nat} (hk : k < 4) : Tbs B W (uA u0 u1 u2 u3 k) (l.t.getD k []) := by
  have : k = 0 ∨ k = 1 ∨ k = 2 ∨ k = 3 := by omega
  rcases this with rfl | rfl | rfl | rfl
  · exact h.r0
  · exact h.r1
  · exact h.r2
  · exact h.r3
theorem LvIn.grow {B B' : Nat} {W W' : World} {l : Lv} {u0 u1 u2 u3 : Value} (h : LvIn B W l u0 u1 u2 u3) (hb : Below B W W') (hB : B ≤ B') : LvIn B' W' l u0 u1 u2 u3 :=
  ⟨h.four, h.r0.grow hb hB, h.r1.grow hb hB, h.r2.grow hb hB, h.r3.grow hb hB, h.len⟩
theorem box_lev {W : World} {b : Nat} {n s g u0 u1 u2 u3 : Value} (h : Ob.Obj W b 27 [n, s, g, u0, u1, u2, u3]) {k : Nat} (hk : k < 4) : W.cell? ⟨b, 3 + k, none⟩ = some (uA u0 u1 u2 u3 k) := by
  have : k = 0 ∨ k = 1 ∨ k = 2 ∨ k = 3 := by omega
  rw [h.cell]
  rcases this with rfl | rfl | rfl | rfl <;> rfl
/-- the numbers of the first levels -/
def numsT (t : List (List Tbl)) : Nat → List Int
  | 0 => []
  | k + 1 => numsT t k ++ (t.getD k []).map (·.num)
def numsP (l : Lv) : List Int := numsT l.t 4
theorem numsT_len (t : List (List Tbl)) (m : Nat) (h : ∀ r ∈ t, r.length ≤ m) : ∀ k, (numsT t k).length ≤ k * m
  | 0 => by simp [numsT]
  | k + 1 => by
    have ih := numsT_len t m h k
    have hl : (t.getD k []).length ≤ m := by
      by_cases hk : k < t.length
      · rw [List.getD_eq_getElem?_getD, List.getElem?_eq_getElem hk, Option.getD_some]
        exact h _ (List.getElem_mem hk)
      · rw [List.getD_eq_getElem?_getD, List.getElem?_eq_none (by omega), Option.getD_none]; simp
    rw [numsT, List.length_append, List.length_map, Nat.succ_mul]
    omega

set_option maxRecDepth 100000 in
set_option maxHeartbeats 4000000 in
theorem numbersR_any (l : Lv) (u0 u1 u2 u3 : Value) (w : World) (hU : LvIn w.heap.size w l u0 u1 u2 u3) :
    Calls Try.prog 31 #[lvV l u0 u1 u2 u3] w fun e w' => ∃ v, e = .returned v ∧ w'.ownsRow w.heap.size 23 1 v (numsP l).length (nC (numsP l)) ∧ Below w.heap.size w w' := by
  obtain ⟨j0, ji, jz0, jz1, jz2⟩ := info_parts info_u6410
  have hlen := fun k => numsT_len l.t 1048576 hU.len k
  have HU := Lib.hid hU
  have hgl : ∀ k, (l.t.getD k []).length ≤ 1048576 := fun k => by
    by_cases hk : k < l.t.length
    · rw [List.getD_eq_getElem?_getD, List.getElem?_eq_getElem hk, Option.getD_some]
      exact hU.len _ (List.getElem_mem hk)
    · rw [List.getD_eq_getElem?_getD, List.getElem?_eq_none (by omega), Option.getD_none]; simp
  obtain ⟨w1, hw1⟩ : ∃ w1, w.alloc (.cells #[.int .u64 l.next, .int .u64 l.seq, .int .u64 l.log, u0, u1, u2, u3] 27) = w1 := ⟨_, rfl⟩
  have hB1 : Below w.heap.size w w1 := by rw [← hw1]; exact (Below.refl _ _).alloc (Nat.le_refl _) _
  have bx1 : Ob.Obj w1 w.heap.size 27 [.int .u64 l.next, .int .u64 l.seq, .int .u64 l.log, u0, u1, u2, u3] := by rw [← hw1]; exact Ob.Obj.new w _ [.int .u64 l.next, .int .u64 l.seq, .int .u64 l.log, u0, u1, u2, u3]
  have HW1 := Lib.hid hw1
  unfold numsP
  obtain ⟨a0, n0, c0, rfl⟩ : ∃ a n c, u0 = .slice a n c := by obtain ⟨a, c, _, _, h, _⟩ := hU.r0; exact ⟨a, _, c, h⟩
  obtain ⟨a1, n1, c1, rfl⟩ : ∃ a n c, u1 = .slice a n c := by obtain ⟨a, c, _, _, h, _⟩ := hU.r1; exact ⟨a, _, c, h⟩
  obtain ⟨a2, n2, c2, rfl⟩ : ∃ a n c, u2 = .slice a n c := by obtain ⟨a, c, _, _, h, _⟩ := hU.r2; exact ⟨a, _, c, h⟩
  obtain ⟨a3, n3, c3, rfl⟩ : ∃ a n c, u3 = .slice a n c := by obtain ⟨a, c, _, _, h, _⟩ := hU.r3; exact ⟨a, _, c, h⟩
  clear hU hw1
  unfold lvV
  go_enter Try.func31, Try.ntmps31
  go_wp2_with fail
  rw [HW1.out]
  clear HW1
  generalize (.slice a0 n0 c0 : Value) = u0 at *
  generalize (.slice a1 n1 c1 : Value) = u1 at *
  generalize (.slice a2 n2 c2 : Value) = u2 at *
  generalize (.slice a3 n3 c3 : Value) = u3 at *
  go_loopw [3, 4] (fun v i wr => ∃ k : Nat, k ≤ 4 ∧ i = .int .i64 (k : Int) ∧ wr.ownsRow (w.heap.size + 1) 23 1 v (numsT l.t k).length (nC (numsT l.t k)) ∧ Ob.Obj wr w.heap.size 27 [.int .u64 l.next, .int .u64 l.seq, .int .u64 l.log, u0, u1, u2, u3] ∧ Below w.heap.size w wr) (fun _ i _ => 4 - (intOf i).toNat)
  case atStart => exact ⟨0, Nat.zero_le _, rfl, World.ownsRow_nil _ _ _ _, bx1, hB1⟩
  case round =>
    obtain ⟨k, hk, rfl, hrow, hbx, hB⟩ := hrel
    obtain ⟨wo, rfl⟩ : ∃ wo : World, wo = wr := ⟨_, rfl⟩
    obtain ⟨vo, vcap, rfl, _⟩ := Sq.row_cases hrow
    by_cases hlt : k < 4
    · have hi1 : (k : Int) < 4 := by omega
      have hi2 : (0 : Int) ≤ (k : Int) ∧ (k : Int) < 4 := by omega
      go_wp2_with fail
      go_loopw [3, 5] (fun v i wr => ∃ q : Nat, q ≤ (l.t.getD k []).length ∧ i = .int .i64 (q : Int) ∧ wr.ownsRow (w.heap.size + 1) 23 1 v (numsT l.t k ++ ((l.t.getD k []).take q).map (·.num)).length (nC (numsT l.t k ++ ((l.t.getD k []).take q).map (·.num))) ∧ Ob.Obj wr w.heap.size 27 [.int .u64 l.next, .int .u64 l.seq, .int .u64 l.log, u0, u1, u2, u3] ∧ Below w.heap.size w wr) (fun _ i _ => (l.t.getD k []).length - (intOf i).toNat)
      case atStart => exact ⟨0, Nat.zero_le _, rfl, by simpa using hrow, hbx, hB⟩
      case round =>
        obtain ⟨q, hq, rfl, hrow2, hbx2, hB2⟩ := hrel
        obtain ⟨wi, rfl⟩ : ∃ wi : World, wi = wr := ⟨_, rfl⟩
        obtain ⟨vo2, vcap2, rfl, _⟩ := Sq.row_cases hrow2
        have ck := box_lev hbx2 hlt
        have hT := HU.out.lev hlt
        have hlk := hgl k
        obtain ⟨a, cap, b, off, hv, ha, hc⟩ := hT
        rw [hv] at ck
        have hsl : (numsT l.t k ++ ((l.t.getD k []).take q).map (·.num)).length ≤ 5242880 := by
          have := hlen k
          rw [List.length_append, List.length_map, List.length_take]
          have : k * 1048576 ≤ 4 * 1048576 := Nat.mul_le_mul_right _ (by omega)
          omega
        have hzw : w.heap.size < wi.heap.size := hbx2.lt
        by_cases hlt2 : q < (l.t.getD k []).length
        · obtain ⟨rfl, hbl⟩ := ha (by omega)
          have e0 := (hB2.cell (p := ⟨b, off + q * 6, none⟩) hbl).trans (hc q hlt2).1
          have hi3 : (0 : Int) ≤ (q : Int) ∧ (q : Int) < ((l.t.getD k []).length : Int) := by omega
          have HTS := Lib.hid (show numsT l.t k ++ ((l.t.getD k []).take (q + 1)).map (·.num) = (numsT l.t k ++ ((l.t.getD k []).take q).map (·.num)) ++ [(l.t.getD k [])[q].num] by rw [List.take_succ_eq_append_getElem hlt2, List.map_append, List.append_assoc]; rfl)
          have hwb : b < wi.heap.size := by have := hB2.size; omega
          generalize numsT l.t k ++ ((l.t.getD k []).take q).map (·.num) = S1 at *
          generalize (l.t.getD k [])[q].num = x at *
          clear hc hv ha hlen hgl hrow hbx hB HU
          generalize (l.t.getD k []).length = n at *
          go_wp2_with (at_builtin; refine wpList_append_own _ rfl _ _ 28 rfl (w.heap.size + 1) 23 j0 (.int .u64 0) 1 8 Try.underlying28 ji jz0 jz1 jz2 rfl (by decide) _ _ _ rfl (hrow2.alloc _) ⟨wi.heap.size, 0, none⟩ 1 1 [_] rfl rfl (cell_one_new _ _ _) (by simp [Value.oneCell']) (by unfold maxLen; omega) (by omega) (by have := hB2.size; simp; omega) ?_; intro v' w8 hown hgrow _; obtain ⟨ao8, cap8, rfl, _⟩ := Sq.row_cases hown; have hbx8 := (hbx2.alloc (.cells #[.int .u64 x] 23)).grown hgrow (hbx2.not_row (by decide) hrow2); have hB8 := ((hB2.alloc hB2.size (.cells #[.int .u64 x] 23))).grown hgrow (by have := hB2.size; simp; omega) (fun j hj => by have := (Ob.row_lt hrow2 hj).1; omega); have hlen8 : (S1 ++ [x]).length = S1.length + 1 := (by simp))
          go_roundw
          case rel => exact ⟨q + 1, by omega, by go_num, by rw [HTS.out, nC_snoc, hlen8]; exact hown, hbx8, hB8⟩
          case measure => simp [intOf]; omega
        · obtain rfl : q = (l.t.getD k []).length := by omega
          rw [List.take_length] at hrow2 hsl ⊢
          have HN := Lib.hid (show numsT l.t (k + 1) = numsT l.t k ++ (l.t.getD k []).map (·.num) from rfl)
          generalize numsT l.t k ++ (l.t.getD k []).map (·.num) = S1 at *
          go_wp2_with fail
          go_roundw
          case rel => exact ⟨k + 1, by omega, by go_num, by rw [HN.out]; exact hrow2, hbx2, hB2⟩
          case measure => simp [intOf]; omega
    · obtain rfl : k = 4 := by omega
      go_wp2_with fail
      go_ret
      exact ⟨_, rfl, lowerR hrow (by omega), hB⟩
end Mf
end Go.Proofs.Ytpldfdlnhgmnaaa

/-
  The document's answers of chapter 10: Put: a table more in a level, in its order.
-/
namespace Go.Proofs.Ytpldfdlnhgmnaaa
open Go.RowKit
set_option linter.unusedSimpArgs false
set_option linter.unusedVariables false
namespace Mf
open Op (bytesLess)
/-- does a table stand ahead of that one? -/
def bef (x y : Tbl) : Bool := if x.lev = 0 then decide (y.num < x.num) else bytesLess y.lo x.lo
def posP (L : List Tbl) (x : Tbl) : Nat := (L.takeWhile (bef x)).length
def putP (L : List Tbl) (x : Tbl) : List Tbl := L.take (posP L x) ++ [x] ++ L.drop (posP L x)
theorem posP_eq (x : Tbl) : ∀ (L : List Tbl) (q : Nat), q ≤ L.length → (∀ y ∈ L.take q, bef x y = true) → (∀ h : q < L.length, bef x L[q] = false) → posP L x = q
  | [], q, hq, _, _ => by simp at hq; subst hq; rfl
  | y :: r, 0, _, _, hs => by
    have h0 := hs (by simp)
    simp only [List.getElem_cons_zero] at h0
    unfold posP
    rw [List.takeWhile_cons, h0]
    rfl
  | y :: r, q + 1, hq, ha, hs => by
    have h0 := ha y (by simp)
    unfold posP
    rw [List.takeWhile_cons, h0]
    simp only [if_true, List.length_cons]
    rw [show (List.takeWhile (bef x) r).length = posP r x from rfl, posP_eq x r q (by simpa using hq) (fun z hz => ha z (by simp [hz])) (fun h => by have h2 := hs (by simp; omega); rw [List.getElem_cons_succ] at h2; exact h2)]
theorem putP_len (L : List Tbl) (x : Tbl) : (putP L x).length = L.length + 1 := by
  unfold putP
  have : posP L x ≤ L.length := (List.takeWhile_prefix _).length_le
  simp only [List.length_append, List.length_take, List.length_drop, List.length_singleton]
  omega
theorem tcs_app (A B : List Tbl) : tcs (A ++ B) = tcs A ++ tcs B := by simp [tcs]
theorem tcs_cut (L : List Tbl) (q : Nat) : tcs L = tcs (L.take q) ++ tcs (L.drop q) := by rw [← tcs_app, List.take_append_drop]
theorem src_take {W : World} {fb fo : Nat} {L : List Tbl} (hs : ∀ j v, (tcs L)[j]? = some v → W.cell? ((⟨fb, fo, none⟩ : Addr).add j) = some v) (q : Nat) : ∀ j v, (tcs (L.take q))[j]? = some v → W.cell? ((⟨fb, fo, none⟩ : Addr).add j) = some v := by
  intro j v hj
  apply hs
  have hl := (List.getElem?_eq_some_iff.1 hj).1
  rw [tcs_cut L q, List.getElem?_append_left hl]
  exact hj
theorem src_drop {W : World} {fb fo : Nat} {L : List Tbl} (hs : ∀ j v, (tcs L)[j]? = some v → W.cell? ((⟨fb, fo, none⟩ : Addr).add j) = some v) (q : Nat) (hq : q ≤ L.length) : ∀ j v, (tcs (L.drop q))[j]? = some v → W.cell? ((⟨fb, fo + q * 6, none⟩ : Addr).add j) = some v := by
  intro j v hj
  have hl : (tcs (L.take q)).length = q * 6 := by rw [tcs_len, List.length_take]; omega
  have h := hs (q * 6 + j) v (by rw [tcs_cut L q, List.getElem?_append_right (by omega), hl, Nat.add_sub_cancel_left]; exact hj)
  rw [add_at] at h ⊢
  rw [Nat.add_assoc]
  exact h

set_option maxRecDepth 100000 in
set_option maxHeartbeats 4000000 in
theorem putR_any (B0 : Nat) (u : Value) (L : List Tbl) (x : Tbl) (w : World) (hO : w.ownsRow B0 38 6 u L.length (tcs L)) (hL : L.length ≤ 1048576) (hx : TblIn x) (hx0 : 0 ≤ x.lev) :
    Calls Try.prog 33 #[u, tblV x] w fun e w' => ∃ v, e = .returned v ∧ w'.ownsRow w.heap.size 38 6 v (putP L x).length (tcs (putP L x)) ∧ Below w.heap.size w w' := by
  obtain ⟨i0, hi, hz0, hz1, hz2⟩ := info_parts info_Table10
  have hU := tbs_of_own hO
  have HU := Lib.hid hU
  obtain ⟨a, cap, fb, rfl, hcap, hcm, hrow⟩ := Gn.row_at hO
  obtain ⟨fo, hfo⟩ : ∃ fo : Nat, fo = 0 := ⟨_, rfl⟩
  have ha : 0 < L.length → a = some ⟨fb, fo, none⟩ ∧ fb < w.heap.size := fun h => by rw [hfo]; exact ⟨(hrow h).1, (hrow h).2.2.1⟩
  have hc : ∀ j (h : j < L.length), TAt w fb (fo + j * 6) L[j] := fun j h => by
    obtain ⟨a', cap', b', off', h1, h2, h3⟩ := hU
    injection h1 with e1 e2 e3
    obtain ⟨h4, _⟩ := h2 (by omega)
    have h5 := (ha (by omega)).1
    rw [← e1, h5] at h4
    injection h4 with h4
    injection h4 with h6 h7 _
    subst h6 h7
    exact h3 j h
  have HOO := Lib.hid hO
  have HFO := Lib.hid hfo
  clear hrow hfo hU hO
  obtain ⟨w1, hw1⟩ : ∃ w1, w.alloc (.cells #[.int .u64 x.num, .int .i64 x.lev, .int .i64 x.siz, .int .i64 x.cnt, .string (Cd.bs x.lo), .string (Cd.bs x.hi)] 38) = w1 := ⟨_, rfl⟩
  have hB1 : Below w.heap.size w w1 := by rw [← hw1]; exact (Below.refl _ _).alloc (Nat.le_refl _) _
  have bx1 : Ob.Obj w1 w.heap.size 38 [.int .u64 x.num, .int .i64 x.lev, .int .i64 x.siz, .int .i64 x.cnt, .string (Cd.bs x.lo), .string (Cd.bs x.hi)] := by rw [← hw1]; exact Ob.Obj.new w _ [.int .u64 x.num, .int .i64 x.lev, .int .i64 x.siz, .int .i64 x.cnt, .string (Cd.bs x.lo), .string (Cd.bs x.hi)]
  have HW1 := Lib.hid hw1
  have HC := Lib.hid hc
  clear hc hw1
  have HPE := Lib.hid (fun q h1 h2 h3 => posP_eq x L q h1 h2 h3)
  obtain ⟨xn, xl, xs, xc, xlo, xhi⟩ := x
  unfold tblV
  simp only at *
  go_enter Try.func33, Try.ntmps33
  go_wp2_with fail
  rw [HW1.out]
  clear HW1
  go_loopw [5] (fun i wr => ∃ q : Nat, q ≤ L.length ∧ i = .int .i64 (q : Int) ∧ Hid (∀ y ∈ L.take q, bef ⟨xn, xl, xs, xc, xlo, xhi⟩ y = true) ∧ Below w1.heap.size w1 wr) (fun i _ => L.length - (intOf i).toNat)
  case atStart => exact ⟨0, Nat.zero_le _, rfl, fun y hy => by simp at hy, Below.refl _ _⟩
  case round =>
    obtain ⟨q, hq, rfl, hall, hB⟩ := hrel
    obtain ⟨wo, rfl⟩ : ∃ wo : World, wo = wr := ⟨_, rfl⟩
    have hBB := hB1.trans (hB.mono hB1.size)
    have bx := bx1.below hB
    have x0 := bx.cell 0
    have x1 := bx.cell 1
    have x4 := bx.cell 4
    simp at x0 x1 x4
    have hxz := bx.lt
    obtain ⟨c, hcd⟩ : ∃ c : Bool, c = (if h : q < L.length then bef ⟨xn, xl, xs, xc, xlo, xhi⟩ L[q] else false) := ⟨_, rfl⟩
    have HT := Lib.hid (show c = true → q < L.length ∧ ∀ y ∈ L.take (q + 1), bef ⟨xn, xl, xs, xc, xlo, xhi⟩ y = true from fun h => by
      rw [hcd] at h
      split at h
      · rename_i hlt
        refine ⟨hlt, fun y hy => ?_⟩
        rw [List.take_succ_eq_append_getElem hlt] at hy
        rcases List.mem_append.1 hy with hy | hy
        · exact hall.out y hy
        · simp at hy; subst hy; exact h
      · cases h)
    have HF := Lib.hid (show c = false → posP L ⟨xn, xl, xs, xc, xlo, xhi⟩ = q from fun h => HPE.out q hq hall.out (fun hlt => by rw [hcd, dif_pos hlt] at h; exact h))
    clear hall HPE
    go_upto_region 2 with fail
    go_cut [40] from 7 to 40 (fun r wx => r = .bool c ∧ Below w1.heap.size w1 wx)
    case first =>
      by_cases hlt : q < L.length
      · rw [dif_pos hlt] at hcd
        obtain ⟨rfl, hfb⟩ := ha (by omega)
        obtain ⟨e0, e1, e2, e3, e4, e5⟩ := (HC.out q hlt).below hBB hfb
        have hi1 : (0 : Int) ≤ (q : Int) ∧ (q : Int) < (L.length : Int) := by omega
        have hwb : fb < wo.heap.size := by have := hBB.size; omega
        clear HT HF e1 e2 e3 e5
        generalize L[q] = y at *
        obtain ⟨yn, yl, ys, yc, ylo, yhi⟩ := y
        simp only at e0 e4
        have hk1 : (Cd.bs ylo).toList = ylo := by rw [ByteArray.toList_mk]
        have hk2 : (Cd.bs xlo).toList = xlo := by rw [ByteArray.toList_mk]
        unfold bef at hcd
        simp only at hcd
        by_cases hl0 : xl = 0
        · subst hl0
          rw [if_pos rfl] at hcd
          by_cases hb : yn < xn
          · rw [decide_eq_true hb] at hcd
            subst hcd
            go_big_quiet (fail)
            all_goals (try go_wp2_with fail)
            all_goals (try go_meet)
            all_goals exact ⟨rfl, belowN hB _⟩
          · rw [decide_eq_false hb] at hcd
            subst hcd
            go_big_quiet (fail)
            all_goals (try go_wp2_with fail)
            all_goals (try go_meet)
            all_goals exact ⟨rfl, belowN hB _⟩
        · rw [if_neg hl0] at hcd
          have hl1 : 0 < xl := by omega
          have hl2 : (xl == 0) = false := by simpa using hl0
          cases hb : bytesLess ylo xlo with
          | true =>
            rw [hb] at hcd
            subst hcd
            clear hl0
            go_big_quiet (fail)
            all_goals (try go_wp2_with fail)
            all_goals (try go_meet)
            all_goals exact ⟨rfl, belowN hB _⟩
          | false =>
            rw [hb] at hcd
            subst hcd
            clear hl0
            go_big_quiet (fail)
            all_goals (try go_wp2_with fail)
            all_goals (try go_meet)
            all_goals exact ⟨rfl, belowN hB _⟩
      · rw [dif_neg hlt] at hcd
        subst hcd
        have hi1 : ¬ (q : Int) < (L.length : Int) := by omega
        clear HT HF
        go_big_quiet (fail)
        all_goals (try go_wp2_with fail)
        all_goals (try go_meet)
        all_goals exact ⟨rfl, belowN hB _⟩
    case rest =>
      obtain ⟨rfl, hB3⟩ := hcut
      clear hcd bx x0 x1 x4 hxz hBB hB
      cases c with
      | true =>
        obtain ⟨hlt, hall⟩ := HT.out rfl
        have HA := Lib.hid hall
        clear hall HT HF
        go_wp2_with fail
        go_roundw
        case rel => exact ⟨q + 1, by omega, by go_num, HA, hB3⟩
        case measure => simp [intOf]; omega
      | false =>
        have hpq := HF.out rfl
        have HP := Lib.hid hpq
        have hBB := hB1.trans (hB3.mono hB1.size)
        have bx := bx1.below hB3
        clear HT HF hpq
        have x0 := bx.cell 0
        have x1 := bx.cell 1
        have x2 := bx.cell 2
        have x3 := bx.cell 3
        have x4 := bx.cell 4
        have x5 := bx.cell 5
        simp at x0 x1 x2 x3 x4 x5
        have hxz := bx.lt
        have hsz := hBB.size
        rcases HOO.out.2 with ⟨hv, hlx⟩ | ⟨g, cap', cur, hv, hBg, h3, _⟩
        · injection hv with hv1 hv2 hv3
          subst hv1 hv3
          obtain rfl : L = [] := List.eq_nil_of_length_eq_zero hv2
          obtain rfl : q = 0 := by simpa using hq
          have HPUT := Lib.hid (show tcs (putP [] ⟨xn, xl, xs, xc, xlo, xhi⟩) = [.int .u64 xn, .int .i64 xl, .int .i64 xs, .int .i64 xc, .string (Cd.bs xlo), .string (Cd.bs xhi)] by unfold putP; rw [HP.out]; rfl)
          have HPL := Lib.hid (putP_len [] ⟨xn, xl, xs, xc, xlo, xhi⟩)
          have HB := Lib.hid hBB
          clear hB1 bx1 hB3 bx hBB HU HOO HP ha HC
          go_wp2_with (first
            | (at_builtin; refine wpList_append_own_none rfl _ _ 24 rfl (w.heap.size + 1) 38 i0 6 Try.underlying24 hi _ 0 [] rfl (World.ownsRow_nil _ _ _ _) rfl ?_)
            | (at_builtin; refine wpList_append_own _ rfl _ _ 24 rfl (w.heap.size + 1) 38 i0 (.agg #[.int .u64 0, .int .i64 0, .int .i64 0, .int .i64 0, .string ⟨#[]⟩, .string ⟨#[]⟩]) 6 64 Try.underlying24 hi hz0 hz1 hz2 rfl (by decide) _ 0 [] rfl (World.ownsRow_nil _ _ _ _) ⟨wc.heap.size, 0, none⟩ 1 1 [.int .u64 xn, .int .i64 xl, .int .i64 xs, .int .i64 xc, .string (Cd.bs xlo), .string (Cd.bs xhi)] rfl rfl (cell_six_new wc _ _ _ _ _ _ _) (by simp [Value.oneCell']) (by decide) (by decide) (by simp; omega) ?_; intro v4 w4 hown4 hgrow4 _; rw [Nat.zero_add, List.nil_append] at hown4; obtain ⟨ao4, cap4, rfl, _⟩ := Sq.row_cases hown4; have HB4 := Lib.hid ((HB.out.alloc hsz (.cells #[.int .u64 xn, .int .i64 xl, .int .i64 xs, .int .i64 xc, .string (Cd.bs xlo), .string (Cd.bs xhi)] 38)).grown hgrow4 (by simp; omega) (fun k hk => by cases hk)); have HO4 := Lib.hid hown4; clear hown4 hgrow4)
            | (at_builtin; refine wpList_append_own_none rfl _ _ 24 rfl (w.heap.size + 1) 38 i0 6 Try.underlying24 hi _ _ _ rfl HO4.out rfl ?_))
          go_ret
          refine ⟨_, rfl, ?_, HB4.out⟩
          have h5 := lowerR HO4.out (B' := w.heap.size) (Nat.le_succ _)
          rw [HPL.out, HPUT.out]
          exact h5
        · injection hv with hv1 hv2 hv3
          rw [← HFO.out] at hv1
          subst hv1 hv3
          have hfb : g < w.heap.size := (Array.getElem?_eq_some_iff.1 h3).1
          have hsrc : ∀ j v, (tcs L)[j]? = some v → w.cell? ((⟨g, fo, none⟩ : Addr).add j) = some v := fun j v hj => by
            by_cases hn : 0 < L.length
            · obtain ⟨ad, had, hs⟩ := tbs_src HU.out hn
              injection had with had
              subst had
              exact hs j v hj
            · obtain rfl : L = [] := List.eq_nil_of_length_eq_zero (by omega)
              cases hj
          have HS := Lib.hid (fun W (hb : Below w.heap.size w W) j v (h : (tcs L)[j]? = some v) => (hb.cell (p := (⟨g, fo, none⟩ : Addr).add j) (by rw [add_at]; exact hfb)).trans (hsrc j v h))
          clear h3 hBg
          have hml : maxLen = 9223372036854775807 := rfl
          have hq1 : (0 : Int) ≤ (q : Int) ∧ (q : Int) ≤ (cap : Int) := by omega
          have hq2 : (0 : Int) ≤ (q : Int) ∧ (q : Int) ≤ (L.length : Int) ∧ (L.length : Int) ≤ (cap : Int) := by omega
          clear hsrc HC ha
          have hl1 : (tcs (L.take q)).length = q * 6 := by rw [tcs_len, List.length_take]; omega
          have hl3 : (tcs (L.drop q)).length = (L.length - q) * 6 := by rw [tcs_len, List.length_drop]
          have n1 : q + 1 + (L.length - q) ≤ maxLen := by omega
          have n2 : (q + 1 + (L.length - q)) * 64 ≤ 140737488355328 := by omega
          have HPUT := Lib.hid (show tcs (putP L ⟨xn, xl, xs, xc, xlo, xhi⟩) = (tcs (L.take q) ++ [.int .u64 xn, .int .i64 xl, .int .i64 xs, .int .i64 xc, .string (Cd.bs xlo), .string (Cd.bs xhi)]) ++ tcs (L.drop q) by unfold putP; rw [HP.out, tcs_app, tcs_app]; rfl)
          have HPL := Lib.hid (putP_len L ⟨xn, xl, xs, xc, xlo, xhi⟩)
          have HB := Lib.hid hBB
          have HX := Lib.hid bx
          have tk1 := trivial
          clear hB1 bx1 hB3 bx hBB HU HOO HP
          by_cases hcq : cap = q
          · subst hcq
            have m1 : cap + 1 + 0 ≤ maxLen := by omega
            have m2 : (cap + 1 + 0) * 64 ≤ 140737488355328 := by omega
            have hl4 : (tcs (L.drop cap)).length = 0 * 6 := by rw [List.drop_eq_nil_of_le hcap]; rfl
            have HN5 := Lib.hid (show cap + 1 + 0 = L.length + 1 by omega)
            have hD0 : tcs (L.drop cap) = [] := by rw [List.drop_eq_nil_of_le hcap]; rfl
            go_upto_region 7 with (first
              | (have _t := tk1; clear _t tk1; at_builtin; refine wpList_append_own _ rfl _ _ 24 rfl (w.heap.size + 1) 38 i0 (.agg #[.int .u64 0, .int .i64 0, .int .i64 0, .int .i64 0, .string ⟨#[]⟩, .string ⟨#[]⟩]) 6 64 Try.underlying24 hi hz0 hz1 hz2 rfl (by decide) _ 0 [] rfl (World.ownsRow_nil _ _ _ _) ⟨g, fo, none⟩ cap _ (tcs (L.take cap)) rfl hl1 (src_take (HS.out _ HB.out) cap) (tcs_one _) (by omega) (by omega) (by omega) ?_; intro v3 w3 hown3 hgrow3 _; rw [Nat.zero_add, List.nil_append] at hown3; obtain ⟨ao3, cap3, rfl, _⟩ := Sq.row_cases hown3; have hX3 := HX.out.grown hgrow3 (by intro e; cases e); have y0 := hX3.cell 0; have y1 := hX3.cell 1; have y2 := hX3.cell 2; have y3 := hX3.cell 3; have y4 := hX3.cell 4; have y5 := hX3.cell 5; simp at y0 y1 y2 y3 y4 y5; have yz := hX3.lt; have HB3 := Lib.hid (HB.out.grown hgrow3 HB.out.size (fun k hk => by cases hk)); have HO3 := Lib.hid hown3; have tk2 := trivial; clear hown3 hgrow3 hX3)
              | (have _t := tk2; clear _t tk2; at_builtin; refine wpList_append_own _ rfl _ _ 24 rfl (w.heap.size + 1) 38 i0 (.agg #[.int .u64 0, .int .i64 0, .int .i64 0, .int .i64 0, .string ⟨#[]⟩, .string ⟨#[]⟩]) 6 64 Try.underlying24 hi hz0 hz1 hz2 rfl (by decide) _ _ _ rfl (HO3.out.alloc (.cells #[.int .u64 xn, .int .i64 xl, .int .i64 xs, .int .i64 xc, .string (Cd.bs xlo), .string (Cd.bs xhi)] 38)) ⟨w3.heap.size, 0, none⟩ 1 1 [.int .u64 xn, .int .i64 xl, .int .i64 xs, .int .i64 xc, .string (Cd.bs xlo), .string (Cd.bs xhi)] rfl rfl (cell_six_new w3 _ _ _ _ _ _ _) (by simp [Value.oneCell']) (by omega) (by omega) (by have := HB3.out.size; simp; omega) ?_; intro v4 w4 hown4 hgrow4 _; obtain ⟨ao4, cap4, rfl, _⟩ := Sq.row_cases hown4; have HB4 := Lib.hid ((HB3.out.alloc HB3.out.size (.cells #[.int .u64 xn, .int .i64 xl, .int .i64 xs, .int .i64 xc, .string (Cd.bs xlo), .string (Cd.bs xhi)] 38)).grown hgrow4 (by have := HB3.out.size; simp; omega) (fun k hk => by have := (Ob.row_lt HO3.out hk).1; omega)); have HO4 := Lib.hid hown4; have hz4 := (show w.heap.size + 1 ≤ w4.heap.size by have := hgrow4.size; simp at this; omega); have tk3 := trivial; clear hown4 hgrow4))
            go_wp2_with (at_builtin; refine wpList_append_own _ rfl _ _ 24 rfl (w.heap.size + 1) 38 i0 (.agg #[.int .u64 0, .int .i64 0, .int .i64 0, .int .i64 0, .string ⟨#[]⟩, .string ⟨#[]⟩]) 6 64 Try.underlying24 hi hz0 hz1 hz2 rfl (by decide) _ _ _ rfl HO4.out ⟨g, fo, none⟩ 0 _ (tcs (L.drop cap)) rfl hl4 (fun j v hj => by rw [hD0] at hj; cases hj) (tcs_one _) m1 m2 hz4 ?_; intro v5 w5 hown5 hgrow5 _; have HB5 := Lib.hid (HB4.out.grown hgrow5 HB4.out.size (fun k hk => by exact Nat.le_trans (Nat.le_succ _) (Ob.row_lt HO4.out hk).1)); have HO5 := Lib.hid hown5; clear hown5 hgrow5)
            go_ret
            refine ⟨_, rfl, ?_, HB5.out⟩
            have h5 := lowerR HO5.out (B' := w.heap.size) (by omega)
            rw [HPL.out, HPUT.out]
            rw [HN5.out] at h5
            exact h5
          · have hcq2 : ¬ q = cap := fun e => hcq e.symm
            have HN5 := Lib.hid (show q + 1 + (L.length - q) = L.length + 1 by omega)
            have hcq3 : ((q : Int) == (cap : Int)) = false := by simp; omega
            go_upto_region 7 with (first
              | (have _t := tk1; clear _t tk1; at_builtin; refine wpList_append_own _ rfl _ _ 24 rfl (w.heap.size + 1) 38 i0 (.agg #[.int .u64 0, .int .i64 0, .int .i64 0, .int .i64 0, .string ⟨#[]⟩, .string ⟨#[]⟩]) 6 64 Try.underlying24 hi hz0 hz1 hz2 rfl (by decide) _ 0 [] rfl (World.ownsRow_nil _ _ _ _) ⟨g, fo, none⟩ q _ (tcs (L.take q)) rfl hl1 (src_take (HS.out _ HB.out) q) (tcs_one _) (by omega) (by omega) (by omega) ?_; intro v3 w3 hown3 hgrow3 _; rw [Nat.zero_add, List.nil_append] at hown3; obtain ⟨ao3, cap3, rfl, _⟩ := Sq.row_cases hown3; have hX3 := HX.out.grown hgrow3 (by intro e; cases e); have y0 := hX3.cell 0; have y1 := hX3.cell 1; have y2 := hX3.cell 2; have y3 := hX3.cell 3; have y4 := hX3.cell 4; have y5 := hX3.cell 5; simp at y0 y1 y2 y3 y4 y5; have yz := hX3.lt; have HB3 := Lib.hid (HB.out.grown hgrow3 HB.out.size (fun k hk => by cases hk)); have HO3 := Lib.hid hown3; have tk2 := trivial; clear hown3 hgrow3 hX3)
              | (have _t := tk2; clear _t tk2; at_builtin; refine wpList_append_own _ rfl _ _ 24 rfl (w.heap.size + 1) 38 i0 (.agg #[.int .u64 0, .int .i64 0, .int .i64 0, .int .i64 0, .string ⟨#[]⟩, .string ⟨#[]⟩]) 6 64 Try.underlying24 hi hz0 hz1 hz2 rfl (by decide) _ _ _ rfl (HO3.out.alloc (.cells #[.int .u64 xn, .int .i64 xl, .int .i64 xs, .int .i64 xc, .string (Cd.bs xlo), .string (Cd.bs xhi)] 38)) ⟨w3.heap.size, 0, none⟩ 1 1 [.int .u64 xn, .int .i64 xl, .int .i64 xs, .int .i64 xc, .string (Cd.bs xlo), .string (Cd.bs xhi)] rfl rfl (cell_six_new w3 _ _ _ _ _ _ _) (by simp [Value.oneCell']) (by omega) (by omega) (by have := HB3.out.size; simp; omega) ?_; intro v4 w4 hown4 hgrow4 _; obtain ⟨ao4, cap4, rfl, _⟩ := Sq.row_cases hown4; have HB4 := Lib.hid ((HB3.out.alloc HB3.out.size (.cells #[.int .u64 xn, .int .i64 xl, .int .i64 xs, .int .i64 xc, .string (Cd.bs xlo), .string (Cd.bs xhi)] 38)).grown hgrow4 (by have := HB3.out.size; simp; omega) (fun k hk => by have := (Ob.row_lt HO3.out hk).1; omega)); have HO4 := Lib.hid hown4; have hz4 := (show w.heap.size + 1 ≤ w4.heap.size by have := hgrow4.size; simp at this; omega); have tk3 := trivial; clear hown4 hgrow4))
            go_wp2_with (at_builtin; refine wpList_append_own _ rfl _ _ 24 rfl (w.heap.size + 1) 38 i0 (.agg #[.int .u64 0, .int .i64 0, .int .i64 0, .int .i64 0, .string ⟨#[]⟩, .string ⟨#[]⟩]) 6 64 Try.underlying24 hi hz0 hz1 hz2 rfl (by decide) _ _ _ rfl HO4.out ⟨g, fo + q * 6, none⟩ (L.length - q) _ (tcs (L.drop q)) rfl hl3 (src_drop (HS.out _ HB4.out) q hq) (tcs_one _) n1 n2 hz4 ?_; intro v5 w5 hown5 hgrow5 _; have HB5 := Lib.hid (HB4.out.grown hgrow5 HB4.out.size (fun k hk => by exact Nat.le_trans (Nat.le_succ _) (Ob.row_lt HO4.out hk).1)); have HO5 := Lib.hid hown5; clear hown5 hgrow5)
            go_ret
            refine ⟨_, rfl, ?_, HB5.out⟩
            have h5 := lowerR HO5.out (B' := w.heap.size) (by omega)
            rw [HPL.out, HPUT.out]
            rw [HN5.out] at h5
            exact h5
end Mf
end Go.Proofs.Ytpldfdlnhgmnaaa
