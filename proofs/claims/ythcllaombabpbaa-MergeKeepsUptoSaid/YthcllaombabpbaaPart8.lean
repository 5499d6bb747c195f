import Derived.Shelf.Small.Bits
import Derived.Shelf.Strconv.Itoa0
import Derived.Ground.SlgnProg
import Derived.Shelf.SlicesE.Clone
import Derived.Test.YthcllaombabpbaaProg
import Derived.Laws.EntriesVeiled
import Derived.Laws.CopyOwn
import Derived.Deep.RegionHeld3
import Derived.StillTailTactics
import Derived.Deep.CutBlock
import Derived.Below
import Derived.WalkKit
import Derived.JoinedCond
import Derived.Test.YthcllaombabpbaaPart7
/-
  The program's merge: Keep of no row: nothing is told.
-/
namespace Go.Proofs.Ythcllaombabpbaa
open Go.RowKit Go.Shelf
set_option linter.unusedSimpArgs false
set_option linter.unusedVariables false
namespace Mg
open Mt (Ver mayB lessB placeB VerIn verV)
open Vs (Vers At vcs)
attribute [local go_sem] Oper.semAt_some
theorem no_pre {α : Type} {pre : List α} {x : α} (h : pre ++ [x] <+: []) : False := by
  have := h.length_le
  simp at this

set_option maxHeartbeats 1000000 in
theorem throughN_in (n : Nat) (w : World) :
    CallsIn Fence.wide n Try.prog 40 #[.nilFunc] w fun e w' => e = .returned (.func (.func 56) #[] #[.pointer (some ⟨w.heap.size, 0, none⟩)]) ∧ w' = w.alloc (.cells #[.nilFunc] 26) := by
  refine callsIn_of_wp Try.func40 rfl trivial ?_ rfl
  simp only [Try.ntmps40, List.size_toArray, List.length_cons, List.length_nil, Nat.reduceAdd, Nat.reduceSub, Array.replicate_succ, Array.replicate_zero, List.push_toArray, List.append_toArray, List.nil_append, List.cons_append]
  gi_wp2
  go_ret
  exact ⟨rfl, rfl⟩
set_option maxHeartbeats 1000000 in
theorem groupsN_in (n : Nat) (w : World) :
    CallsIn Fence.wide n Try.prog 31 #[.nilFunc] w fun e w' => e = .returned (.func (.func 49) #[] #[.pointer (some ⟨w.heap.size, 0, none⟩)]) ∧ w' = w.alloc (.cells #[.nilFunc] 26) := by
  refine callsIn_of_wp Try.func31 rfl trivial ?_ rfl
  simp only [Try.ntmps31, List.size_toArray, List.length_cons, List.length_nil, Nat.reduceAdd, Nat.reduceSub, Array.replicate_succ, Array.replicate_zero, List.push_toArray, List.append_toArray, List.nil_append, List.cons_append]
  gi_wp2
  go_ret
  exact ⟨rfl, rfl⟩

set_option maxRecDepth 100000 in
set_option maxHeartbeats 4000000 in
theorem through1_nil (n : Nat) (B : Nat) (w : World) (hB : Boxed w B 26 .nilFunc) :
    Sq.SeqC Fence.wide n Try.prog 56 #[.pointer (some ⟨B, 0, none⟩)] vEnc9 (fun k => k = B) (fun ys => ys = []) (fun pre => pre <+: []) w := by
  intro lp J Jx W hW hJ hJx hY h0
  have hBW := hW.boxed rfl hB
  have hcB := hBW.cell
  have hlB := hBW.lt
  clear hY
  refine callsIn_of_wp Try.func56 rfl trivial ?_ rfl
  simp only [Try.ntmps56, List.size_toArray, List.length_cons, List.length_nil, Nat.reduceAdd, Nat.reduceSub, Array.replicate_succ, Array.replicate_zero, List.push_toArray, List.append_toArray, List.nil_append, List.cons_append]
  have hne : ∀ (w : World), (binOp BinOp.eql 26 .nilFunc .nilFunc).run Try.prog w = .ok (.bool true) w := fun w => by
    simp [binOp, go_sem]
    rfl
  gi_wp2_with fail
  refine bodyPost_ret (results_none rfl _ _ _) rfl ?_
  exact ⟨⟨_, rfl⟩, .inl ⟨_, _, rfl, hJ _ _ _ _ _ h0 (Sq.Step.alloc0 _ _ _)⟩⟩

set_option maxRecDepth 100000 in
set_option maxHeartbeats 4000000 in
theorem groups1_nil (n : Nat) (hn : 3 ≤ n) (B : Nat) (w : World) (hB : Boxed w B 26 .nilFunc) :
    Sq.SeqC Fence.wide n Try.prog 49 #[.pointer (some ⟨B, 0, none⟩)] gEnc (fun k => k = B) (fun ys => ys = []) (fun pre => pre <+: []) w := by
  intro lp J Jx W hW hJ hJx hY h0
  have hBW := hW.boxed rfl hB
  clear hY
  have hn1 : 1 ≤ n := by omega
  refine callsIn_of_wp_marks Try.func49 rfl trivial ?_ rfl
  simp only [Try.ntmps49, List.size_toArray, List.length_cons, List.length_nil, Nat.reduceAdd, Nat.reduceSub, Array.replicate_succ, Array.replicate_zero, List.push_toArray, List.append_toArray, List.nil_append, List.cons_append]
  gi_upto_region 2 with fail
  obtain ⟨W9, hW9⟩ : ∃ W9, ((W.alloc (.cells #[.func (.yield lp) #[] #[]] 99)).alloc (.cells #[.string ⟨#[]⟩] 9)).alloc (.cells #[.bool false] 4) = W9 := ⟨_, rfl⟩
  have hb9 : Boxed W9 B 26 .nilFunc := by rw [← hW9]; exact ((hBW.alloc _).alloc _).alloc _
  have hJ9 : J (fun _ => False) [] W9 := by rw [← hW9]; exact hJ _ _ _ _ _ h0 (((Sq.Step.alloc0 _ _ _).trans (Sq.Step.alloc0 _ _ _)).trans (Sq.Step.alloc0 _ _ _))
  have hcB9 := hb9.cell
  rw [hW9]
  clear hW9 h0
  gi_wp2_with (refine ⟨trivial, ?_⟩; gi_at_call 40; refine (throughN_in _ _).mono ?_; rintro e w' ⟨rfl, rfl⟩)
  obtain ⟨W0, hW0⟩ : ∃ W0, W9.alloc (.cells #[.nilFunc] 26) = W0 := ⟨_, rfl⟩
  have bS : Boxed W0 W9.heap.size 26 .nilFunc := by rw [← hW0]; exact Boxed.new W9 _ _
  have hJ0 : J (fun _ => False) [] W0 := by rw [← hW0]; exact hJ _ _ _ _ _ hJ9 (Sq.Step.alloc0 _ _ _)
  have hsz : W0.heap.size = W9.heap.size + 1 := by rw [← hW0]; simp
  rw [hW0]
  clear hW0 hJ9 hcB9
  refine Sq.wp_range rfl (by omega) (gf := 56) (lb := #[.pointer (some ⟨W9.heap.size, 0, none⟩)]) rfl trivial (enters_of Try.func56 (by kernel_rfl) rfl)
    (through1_nil (n - 1) W9.heap.size W0 bS) (fun k hk => by have h9 : k = W9.heap.size := hk; omega) (fun _ => rfl)
    (fun R pre X => J R [] X) (fun c R pre X => False) (fun a' x R pre X => False)
    (fun R R' s X X' h st => hJ _ _ _ _ _ h st) (fun c R R' s X X' h st => h) (fun a' x R R' s X X' h st => h)
    hJ0 ?assign ?body ?done ?stop
  case assign =>
    rintro lr R pre x X hbd hsp h
    exact (no_pre hsp).elim
  case body =>
    rintro lr R pre x a' X hRl hrec hbd hsp h
    exact h.elim
  case done =>
    rintro D R ys X hD hRD rfl hj hdf
    gi_wp2
    refine ⟨by simp, .inl ⟨_, _, rfl, run_takeDeferred hdf, ?_⟩⟩
    exact ⟨_, results_none rfl _ _ _, ⟨_, rfl⟩, .inl ⟨_, _, rfl, hJ _ _ _ _ _ hj (Sq.Step.putObj _ _ hRD)⟩⟩
  case stop =>
    rintro D R c pre X hD hRD hsp h hdf
    exact h.elim

set_option maxRecDepth 100000 in
set_option maxHeartbeats 4000000 in
theorem keep1_nil (n : Nat) (hn : 5 ≤ n) (bs br bo : Nat) (w : World) (hB : Boxed w bs 26 .nilFunc) :
    Sq.SeqC Fence.wide n Try.prog 30 #[.pointer (some ⟨bs, 0, none⟩), .pointer (some ⟨br, 0, none⟩), .pointer (some ⟨bo, 0, none⟩)] vEnc9 (fun k => k = bs) (fun ys => ys = []) (fun pre => pre <+: []) w := by
  intro lp J Jx W hW hJ hJx hY h0
  have hBW := hW.boxed rfl hB
  clear hY
  have hn1 : 1 ≤ n := by omega
  refine callsIn_of_wp_marks Try.func30 rfl trivial ?_ rfl
  simp only [Try.ntmps30, List.size_toArray, List.length_cons, List.length_nil, Nat.reduceAdd, Nat.reduceSub, Array.replicate_succ, Array.replicate_zero, List.push_toArray, List.append_toArray, List.nil_append, List.cons_append]
  gi_upto_region 3 with fail
  obtain ⟨W9, hW9⟩ : ∃ W9, ((W.alloc (.cells #[.func (.yield lp) #[] #[]] 54)).alloc (.cells #[.slice none 0 0] 28)).alloc (.cells #[.int .u64 0] 39) = W9 := ⟨_, rfl⟩
  have hb9 : Boxed W9 bs 26 .nilFunc := by rw [← hW9]; exact ((hBW.alloc _).alloc _).alloc _
  have hJ9 : J (fun _ => False) [] W9 := by rw [← hW9]; exact hJ _ _ _ _ _ h0 (((Sq.Step.alloc0 _ _ _).trans (Sq.Step.alloc0 _ _ _)).trans (Sq.Step.alloc0 _ _ _))
  have hcB9 := hb9.cell
  rw [hW9]
  clear hW9 h0
  gi_wp2_with (refine ⟨trivial, ?_⟩; gi_at_call 31; refine (groupsN_in _ _).mono ?_; rintro e w' ⟨rfl, rfl⟩)
  obtain ⟨W0, hW0⟩ : ∃ W0, W9.alloc (.cells #[.nilFunc] 26) = W0 := ⟨_, rfl⟩
  have bS : Boxed W0 W9.heap.size 26 .nilFunc := by rw [← hW0]; exact Boxed.new W9 _ _
  have hJ0 : J (fun _ => False) [] W0 := by rw [← hW0]; exact hJ _ _ _ _ _ hJ9 (Sq.Step.alloc0 _ _ _)
  have hsz : W0.heap.size = W9.heap.size + 1 := by rw [← hW0]; simp
  rw [hW0]
  clear hW0 hJ9 hcB9
  refine Sq.wp_range rfl (by omega) (gf := 49) (lb := #[.pointer (some ⟨W9.heap.size, 0, none⟩)]) rfl trivial (enters_of Try.func49 (by kernel_rfl) rfl)
    (groups1_nil (n - 1) (by omega) W9.heap.size W0 bS) (fun k hk => by have h9 : k = W9.heap.size := hk; omega) (fun _ => rfl)
    (fun R pre X => J R [] X) (fun c R pre X => False) (fun a' x R pre X => False)
    (fun R R' s X X' h st => hJ _ _ _ _ _ h st) (fun c R R' s X X' h st => h) (fun a' x R R' s X X' h st => h)
    hJ0 ?assign ?body ?done ?stop
  case assign =>
    rintro lr R pre x X hbd hsp h
    exact (no_pre hsp).elim
  case body =>
    rintro lr R pre x a' X hRl hrec hbd hsp h
    exact h.elim
  case done =>
    rintro D R ys X hD hRD rfl hj hdf
    gi_wp2_with fail
    refine ⟨by simp, .inl ⟨_, _, rfl, run_takeDeferred hdf, ?_⟩⟩
    exact ⟨_, results_none rfl _ _ _, ⟨_, rfl⟩, .inl ⟨_, _, rfl, hJ _ _ _ _ _ hj (Sq.Step.putObj _ _ hRD)⟩⟩
  case stop =>
    rintro D R c pre X hD hRD hsp h hdf
    exact h.elim
end Mg
end Go.Proofs.Ythcllaombabpbaa

/-
  What the library's functions answer at this dump: the library's contracts, one application each.
-/
namespace Go.Proofs
open Go.Shelf
def Try.lays125_ren : Go.Shelf.Ren := ⟨fun | 125 => 71 | 128 => 92 | 129 => 93 | n => n, fun | 46 => 106 | 3 => 3 | 51 => 90 | 53 => 39 | 4 => 4 | 5 => 5 | 9 => 9 | n => n, fun | n => n⟩
theorem Try.lays125 : Go.Proofs.Lays.n125 Try.prog Try.lays125_ren := {
  mixed := by kernel_rfl
  f125 := Try.func71.trans (congrArg some (by kernel_rfl))
  f128 := Try.func92.trans (congrArg some (by kernel_rfl))
  f129 := Try.func93.trans (congrArg some (by kernel_rfl))
  t3 := Try.underlying3
  a3 := Try.isAgg3
  z3 := Try.sizeOf3
  v3 := Try.zeroValue3
  t4 := Try.underlying4
  a4 := Try.isAgg4
  z4 := Try.sizeOf4
  v4 := Try.zeroValue4
  t5 := Try.underlying5
  a5 := Try.isAgg5
  z5 := Try.sizeOf5
  v5 := Try.zeroValue5
  t9 := Try.underlying9
  a9 := Try.isAgg9
  z9 := Try.sizeOf9
  v9 := Try.zeroValue9
  t46 := Try.underlying106
  a46 := Try.isAgg106
  z46 := Try.sizeOf106
  v46 := Try.zeroValue106
  t51 := Try.underlying90
  a51 := Try.isAgg90
  z51 := Try.sizeOf90
  v51 := Try.zeroValue90
  t53 := Try.underlying39
  a53 := Try.isAgg39
  z53 := Try.sizeOf39
  v53 := Try.zeroValue39 }
theorem Try.bits_Len (x : Int) (w : World) (h0 : 0 ≤ x) (h1 : x ≤ 18446744073709551615) :
    Calls Try.prog 71 #[.int .u64 x] w fun e w' => e = .returned (.int .i64 (Lib.bitLen x.toNat)) ∧ w' = w := Any.bits_Len Try.lays125 x w h0 h1
end Go.Proofs

/-
  math/bits.Len by the shelf.
-/
namespace Go.Proofs.Ythcllaombabpbaa
open Go.RowKit
namespace So6
theorem lenOk : LenOk := fun x w h => by
  -- 71
  have hl := Try.bits_Len (x : Int) w (by omega) (by omega)
  rw [Int.toNat_natCast] at hl
  exact hl
end So6
end Go.Proofs.Ythcllaombabpbaa

/-
  tapestrylaw09: lists as sequences (rows).
-/
namespace Go.Proofs.Ythcllaombabpbaa
open Go.RowKit Go.Shelf
set_option linter.unusedSimpArgs false
set_option linter.unusedVariables false
namespace Mg
open Mt (Ver mayB lessB placeB VerIn verV)
open Vs (Vers At vcs)
open Tb (ver0 getD_at own_after lower_row)
/-- a value that tells this list, or nil for an empty one -/
def InV (w : World) (f : Value) (L : List Ver) (T : Sq.Blocks) : Prop := (f = .nilFunc ∧ L = []) ∨ ∃ T', Tells w f L T' ∧ ∀ k, T' k → T k
/-- the first n lists, as sequences -/
def InN (w : World) (vs : List Value) (Ls : List (List Ver)) (n : Nat) (T : Sq.Blocks) : Prop := vs.length = n ∧ ∀ (j : Nat) (f : Value) (L : List Ver), vs[j]? = some f → Ls[j]? = some L → InV w f L T
theorem InV.kept {w w' : World} {f : Value} {L : List Ver} {T T2 : Sq.Blocks} (h : InV w f L T) (hk : Sq.Kept T w w') (hT : ∀ k, k < w.heap.size → T k → T2 k) : InV w' f L T2 := by
  rcases h with h | ⟨T', h1, h2⟩
  · exact .inl h
  · refine .inr ⟨T', h1.kept (hk.less fun k hk _ => h2 k hk), fun k hk => hT k ?_ (h2 k hk)⟩
    obtain ⟨_, _, _, _, h3, _⟩ := h1
    exact h3 k hk
theorem InN.kept {w w' : World} {vs : List Value} {Ls : List (List Ver)} {n : Nat} {T T2 : Sq.Blocks} (h : InN w vs Ls n T) (hk : Sq.Kept T w w') (hT : ∀ k, k < w.heap.size → T k → T2 k) : InN w' vs Ls n T2 :=
  ⟨h.1, fun j f L h1 h2 => (h.2 j f L h1 h2).kept hk hT⟩
theorem InN.snoc {w : World} {vs : List Value} {Ls : List (List Ver)} {n : Nat} {T : Sq.Blocks} {f : Value} {L : List Ver} (h : InN w vs Ls n T) (hL : Ls[n]? = some L) (hf : InV w f L T) : InN w (vs ++ [f]) Ls (n + 1) T := by
  refine ⟨by simp [h.1], fun j f' L' h1 h2 => ?_⟩
  rcases Nat.lt_trichotomy j n with hj | hj | hj
  · rw [List.getElem?_append_left (by rw [h.1]; exact hj)] at h1
    exact h.2 j f' L' h1 h2
  · subst hj
    rw [List.getElem?_append_right (by rw [h.1]; exact Nat.le_refl _), h.1, Nat.sub_self] at h1
    simp at h1
    rw [hL] at h2
    cases h2
    rw [← h1]; exact hf
  · rw [List.getElem?_eq_none (by simp [h.1]; omega)] at h1
    cases h1
theorem Tells.one {w : World} {f : Value} {L : List Ver} {T : Sq.Blocks} (h : Tells w f L T) : f.oneCell' = true := by
  obtain ⟨gf, lb, rfl, _⟩ := h; rfl
/-- all but such a row's own block -/
abbrev offB (u : Value) : Sq.Blocks := fun k => ∀ g, u.ownBlock = some g → k ≠ g
theorem info_Seq9 : (Try.prog.info? 26).map (fun i => (i.zero, i.size, i.bytes)) = some (some .nilFunc, 1, 8) := by kernel_rfl
theorem InN.grown {w w1 w2 : World} {vs : List Value} {Ls : List (List Ver)} {n g m cap : Nat} {u : Value} (h : InN w vs Ls n (offB u)) (hk : Sq.Kept (fun _ => True) w w1) (hgrow : w1.grownBy w2 u.ownBlock) (hat : u.ownBlock = some g ∨ w.heap.size ≤ g) :
    InN w2 vs Ls n (offB (.slice (some ⟨g, 0, none⟩) m cap)) := by
  refine h.kept ((hk.less (fun _ _ _ => trivial)).trans (Sq.Kept.grown hgrow (fun r hr h => h r hr rfl))) (fun k hk hT g' hg' => ?_)
  obtain rfl : g = g' := by simpa [Value.ownBlock] using hg'
  rcases hat with h | h
  · exact hT g h
  · omega

set_option maxRecDepth 100000 in
set_option maxHeartbeats 4000000 in
theorem rows_any (v : Value) (Ls : List (List Ver)) (w : World) (hV : VV w v Ls) (hLn : ∀ L ∈ Ls, L.length ≤ 1048576) (hn : Ls.length ≤ 1048576) :
    Calls Try.prog 6 #[v] w fun e w' => ∃ u vs, e = .returned u ∧ w'.ownsRow w.heap.size 26 1 u Ls.length vs ∧ InN w' vs Ls Ls.length (offB u) ∧ Below w.heap.size w w' := by
  obtain ⟨i0, hi0, hz0, hz1, hz2⟩ := info_parts info_Seq9
  obtain ⟨a, cap, fb, fo, rfl, ha, hcells⟩ := hV
  have HC := Lib.hid hcells
  have HL := Lib.hid hLn
  clear hcells hLn
  go_enter Try.func6, Try.ntmps6
  go_wp2_with fail
  go_loopw [3, 4] (fun u iv wr => ∃ (q : Nat) (vs : List Value), q ≤ Ls.length ∧ iv = .int .i64 (q : Int) ∧ wr.ownsRow w.heap.size 26 1 u q vs ∧ InN wr vs Ls q (offB u) ∧ Below w.heap.size w wr) (fun _ iv _ => Ls.length - (intOf iv).toNat)
  case atStart => exact ⟨0, [], Nat.zero_le _, rfl, World.ownsRow_nil _ _ _ _, ⟨rfl, fun j f L h => by simp at h⟩, Below.refl _ _⟩
  case round =>
    obtain ⟨q, vs, hq, rfl, own, hI, hB⟩ := hrel
    by_cases hlt : q < Ls.length
    · obtain ⟨rfl, hfb⟩ := ha (by omega)
      obtain ⟨ra, rcap, rb, ro, hc0, hra, hrc⟩ := HC.out q hlt
      have hc := (hB.cell (p := ⟨fb, fo + q, none⟩) hfb).trans hc0
      have hlen := HL.out Ls[q] (List.getElem_mem hlt)
      have HGT := Lib.hid (show Ls[q]? = some Ls[q] from List.getElem?_eq_getElem hlt)
      generalize Ls[q] = L at *
      have hi1 : (0 : Int) ≤ (q : Int) ∧ (q : Int) < (Ls.length : Int) := by omega
      have HR := Lib.hid (row_anyT (.slice ra L.length rcap) L w.heap.size wr ((show Vers w.heap.size w (.slice ra L.length rcap) L from ⟨ra, rcap, rb, ro, rfl, hra, hrc⟩).below hB) hB.size (by omega))
      have hHsz := hB.size
      have HBB := Lib.hid hB
      have HII := Lib.hid hI
      clear hc0 hra hrc hI
      by_cases hzz : L.length = 0 ∧ (q : Int) % 2 = 0
      · obtain ⟨hz, he⟩ := hzz
        have hLz := List.eq_nil_of_length_eq_zero hz
        subst hLz
        clear HR
        go_wp2_with (at_builtin; refine wpList_append_lies _ (by rfl) _ _ 23 (by rfl) w.heap.size 26 i0 .nilFunc 1 8 Try.underlying23 hi0 hz0 hz1 hz2 rfl (by omega) u3 q _ (by rfl) (own.alloc _) ⟨wr.heap.size, 0, none⟩ 1 1 [.nilFunc] (by rfl) (by rfl) (World.news_of_block (cs := #[.nilFunc]) (t := 26) (fr := (0, 0)) (heap_alloc_new wr _)) (by simp [Value.oneCell']) (by omega) (by unfold maxLen; omega) (by omega) (by simp; omega) (wr.heap.size + 1) (by simp) ?_; intro g gcap w2 hown2 hgrow hat hlt2; have HO2 := Lib.hid hown2; have HG2 := Lib.hid hgrow; have HT2 := Lib.hid hat; clear hown2 hgrow hat)
        go_roundw
        case rel => exact ⟨q + 1, _, by omega, by go_num, HO2.out, (HII.out.grown (Sq.Kept.alloc _ _ _) HG2.out (HT2.out.imp id (fun h => by omega))).snoc HGT.out (.inl ⟨rfl, rfl⟩), (HBB.out.alloc hHsz _).grown HG2.out (by simp; omega) (fun k hk => (Ob.row_lt own hk).1)⟩
        case measure => simp [intOf]; omega
      · have hor : ¬ (L.length = 0) ∨ (L.length = 0 ∧ ¬ ((q : Int) % 2 = 0)) := by omega
        have hgo : ∀ g, u3.ownBlock = some g → w.heap.size ≤ g ∧ g < wr.heap.size := fun g hg => Ob.row_lt own hg
        have HGO := Lib.hid hgo
        clear hgo hzz
        rcases hor with hz | ⟨hz, he⟩
        · go_wp2_with (first
            | (go_at_call 13; go_loud ((with_reducible refine (HR.out).mono ?_); rintro e w9 ⟨f9, T9, rfl, ht9, hd9, hb9⟩; obtain ⟨gf9, lb9, rfl, _⟩ := id ht9; have own9 := own_after own hb9; have hs9 := hb9.size))
            | (at_builtin; go_loud (refine wpList_append_lies _ (by rfl) _ _ 23 (by rfl) w.heap.size 26 i0 .nilFunc 1 8 Try.underlying23 hi0 hz0 hz1 hz2 rfl (by omega) u3 q _ (by rfl) (own9.alloc _) ⟨w9.heap.size, 0, none⟩ 1 1 [.func (.func gf9) #[] lb9] (by rfl) (by rfl) (World.news_of_block (cs := #[.func (.func gf9) #[] lb9]) (t := 26) (fr := (0, 0)) (heap_alloc_new w9 _)) (by simp [Value.oneCell']) (by omega) (by unfold maxLen; omega) (by omega) (by simp; omega) (w9.heap.size + 1) (by simp) ?_; intro g gcap w2 hown2 hgrow hat hlt2; have HO2 := Lib.hid hown2; have HG2 := Lib.hid hgrow; have HT2 := Lib.hid hat; clear hown2 hgrow hat)))
          go_roundw
          case rel =>
            refine ⟨q + 1, _, by omega, by go_num, HO2.out, InN.grown (w := w9) (u := u3) ((HII.out.kept (Sq.Kept.of_below hb9) (fun _ _ h => h)).snoc HGT.out (.inr ⟨T9, ht9, fun k hk g hg => ?_⟩)) (Sq.Kept.alloc _ _ _) HG2.out (HT2.out.imp id (fun h => by omega)), ((HBB.out.trans (hb9.mono hHsz)).alloc (by omega) _).grown HG2.out (by simp; omega) (fun k hk => (Ob.row_lt own hk).1)⟩
            have h1 := hd9 k hk
            have h2 := HGO.out g hg
            omega
          case measure => simp [intOf]; omega
        · have hLz := List.eq_nil_of_length_eq_zero hz
          subst hLz
          have HR := HR.out
          simp only [List.length_nil] at HR
          have HR := Lib.hid HR
          go_wp2_with (first
            | (go_at_call 13; go_loud ((with_reducible refine (HR.out).mono ?_); rintro e w9 ⟨f9, T9, rfl, ht9, hd9, hb9⟩; obtain ⟨gf9, lb9, rfl, _⟩ := id ht9; have own9 := own_after own hb9; have hs9 := hb9.size))
            | (at_builtin; go_loud (refine wpList_append_lies _ (by rfl) _ _ 23 (by rfl) w.heap.size 26 i0 .nilFunc 1 8 Try.underlying23 hi0 hz0 hz1 hz2 rfl (by omega) u3 q _ (by rfl) (own9.alloc _) ⟨w9.heap.size, 0, none⟩ 1 1 [.func (.func gf9) #[] lb9] (by rfl) (by rfl) (World.news_of_block (cs := #[.func (.func gf9) #[] lb9]) (t := 26) (fr := (0, 0)) (heap_alloc_new w9 _)) (by simp [Value.oneCell']) (by omega) (by unfold maxLen; omega) (by omega) (by simp; omega) (w9.heap.size + 1) (by simp) ?_; intro g gcap w2 hown2 hgrow hat hlt2; have HO2 := Lib.hid hown2; have HG2 := Lib.hid hgrow; have HT2 := Lib.hid hat; clear hown2 hgrow hat)))
          go_roundw
          case rel =>
            refine ⟨q + 1, _, by omega, by go_num, HO2.out, InN.grown (w := w9) (u := u3) ((HII.out.kept (Sq.Kept.of_below hb9) (fun _ _ h => h)).snoc HGT.out (.inr ⟨T9, ht9, fun k hk g hg => ?_⟩)) (Sq.Kept.alloc _ _ _) HG2.out (HT2.out.imp id (fun h => by omega)), ((HBB.out.trans (hb9.mono hHsz)).alloc (by omega) _).grown HG2.out (by simp; omega) (fun k hk => (Ob.row_lt own hk).1)⟩
            have h1 := hd9 k hk
            have h2 := HGO.out g hg
            omega
          case measure => simp [intOf]; omega
    · obtain rfl : q = Ls.length := by omega
      go_wp2_with fail
      go_ret
      exact ⟨_, vs, rfl, own, hI, hB⟩
end Mg
end Go.Proofs.Ythcllaombabpbaa

/-
  Chapter 9: the law MergeRows over what the program owes.
-/
namespace Go.Proofs.Ythcllaombabpbaa
open Go.RowKit
set_option linter.unusedSimpArgs false
set_option linter.unusedVariables false
namespace Mg
open Mt (Ver mayB lessB placeB VerIn verV)
open Vs (Vers At VersIn vcs)
open Tb (ver0 getD_at own_after lower_row)

/-- of several rows (nil ones are empty): tells them as one row; the slice may change then -/
def MergeOk : Prop := ∀ (v : Value) (vs : List Value) (Ls : List (List Ver)) (T : Sq.Blocks) (B : Nat) (w : World), w.ownsRow B 26 1 v Ls.length vs → InN w vs Ls Ls.length T → (∀ L ∈ Ls, ∀ x ∈ L, VerIn x) → (∀ L ∈ Ls, L.length ≤ 1048576) → Ls.length ≤ 1048576 → left Ls (zeros Ls) ≤ 1048576 →
    Calls Try.prog 7 #[v] w fun e w' => ∃ u T', e = .returned u ∧ Tells w' u (merge Ls) T' ∧ (∀ k, T' k → T k ∨ w.heap.size ≤ k) ∧ Below w.heap.size w w'
theorem VV.below {W W' : World} {v : Value} {Ls : List (List Ver)} (h : VV W v Ls) (hb : Below W.heap.size W W') : VV W' v Ls := by
  obtain ⟨a, cap, b, off, h1, h2, h3⟩ := h
  exact ⟨a, cap, b, off, h1, fun h => ⟨(h2 h).1, Nat.lt_of_lt_of_le (h2 h).2 hb.size⟩, fun j hj => (h3 j hj).below hb (h2 (by omega)).2⟩

set_option maxRecDepth 100000 in
set_option maxHeartbeats 4000000 in
theorem mergeRows_walk (MO : MergeOk) (lv : Value) (Ls : List (List Ver)) (most : Int) (w : World) (hV : VV w lv Ls) (hI : ∀ L ∈ Ls, ∀ x ∈ L, VerIn x) (hLn : ∀ L ∈ Ls, L.length ≤ 1048576) (hn : Ls.length ≤ 1048576) (hT : left Ls (zeros Ls) ≤ 1048576) (hm0 : -9223372036854775808 ≤ most) (hm1 : most ≤ 9223372036854775807) :
    Calls Try.prog 3 #[lv, .int .i64 most] w fun e w' => e = .returned (.bool true) ∧ Below w.heap.size w w' := by
  have HRW := Lib.hid (rows_any lv Ls w hV hLn hn)
  have HMO := Lib.hid (fun v vs T B W h1 h2 => MO v vs Ls T B W h1 h2 hI hLn hn hT)
  have HMR := Lib.hid (fun W (h : Below w.heap.size w W) => mergeR9_any lv Ls W (hV.below h) hI hLn hn hT)
  have hkl : (merge Ls).length ≤ 1048576 := Nat.le_trans (mergeA_len _ _ _) hT
  generalize merge Ls = K at *
  obtain ⟨la, lcap, lb, loff, rfl, _, _⟩ := hV
  clear MO hI hLn hT
  go_enter Try.func3, Try.ntmps3
  go_wp2_with (first
    | (go_at_call 6; (with_reducible refine (HRW.out).mono ?_); rintro e w1 ⟨v1, vs, rfl, own1, hI1, hb1⟩; obtain ⟨ia, icap, rfl, hig⟩ := Sq.row_cases own1)
    | (go_at_call 7; (with_reducible refine (HMO.out _ _ _ _ _ own1 hI1).mono ?_); rintro e w2 ⟨sv, T, rfl, ht2, hd2, hb2⟩))
  have HD := Lib.hid (show ∀ g, Value.ownBlock (.slice ia Ls.length icap) = some g → w.heap.size ≤ g ∧ ¬ T g from fun g hg => by
    have h1 := Ob.row_lt own1 hg
    refine ⟨h1.1, fun h => ?_⟩
    rcases hd2 g h with h2 | h2
    · exact h2 g hg rfl
    · omega)
  have HO := Lib.hid (own_after own1 hb2)
  have HB0 := Lib.hid (hb1.trans (hb2.mono hb1.size))
  have HLI := Lib.hid (fun m W (hm : -9223372036854775808 ≤ m ∧ m ≤ 9223372036854775807) (h : Tells W sv K T) => list_any sv m K T W hm (by omega) h)
  have HSM := Lib.hid (fun u v L' W (h1 : Vers W.heap.size W u L') (h2 : Vers W.heap.size W v L') (h3 : L'.length ≤ 4611686018427387904) => Mt.sameR_eq u v L' W h1 h2 h3)
  have HCM := Lib.hid (show (cutL K most).length ≤ K.length by unfold cutL; split; simp; omega; exact Nat.le_refl _)
  have HC0 := Lib.hid (show cutL K 0 = K from cutL_all (.inl (Int.le_refl _)))
  clear own1 hI1 hb1 hb2 hd2 HRW HMO
  go_loopw [7] (fun iv wr => ∃ (q : Nat) (xs : List Value), q ≤ Ls.length ∧ iv = .int .i64 (q : Int) ∧ wr.ownsRow w.heap.size 26 1 (.slice ia Ls.length icap) Ls.length xs ∧ Tells wr sv K T ∧ Below w.heap.size w wr) (fun iv _ => Ls.length - (intOf iv).toNat)
  case atStart => exact ⟨0, vs, Nat.zero_le _, rfl, HO.out, ht2, HB0.out⟩
  case round =>
    obtain ⟨q, xs, hq, rfl, own, hTr, hB⟩ := hrel
    by_cases hlt : q < Ls.length
    · obtain ⟨g, rfl, _, _⟩ := hig (by omega)
      obtain ⟨hg1, hg2⟩ := HD.out g rfl
      have hxl := own.1
      obtain ⟨cv, hcell⟩ : ∃ cv, wr.cell? ⟨g, q, none⟩ = some cv := ⟨_, (own.cellAt q (by omega)).trans (List.getElem?_eq_getElem (by omega))⟩
      have hfr := own.frozenAt q
      have hi1 : (0 : Int) ≤ (q : Int) ∧ (q : Int) < (Ls.length : Int) := by omega
      have HST := Lib.hid (World.ownsRow.stored own q .nilFunc).1
      have HT2 := Lib.hid (hTr.kept (Sq.Kept.setCell (T := T) wr (p := ⟨g, q, none⟩) .nilFunc hg2))
      have HB2 := Lib.hid (hB.setCell (p := ⟨g, q, none⟩) hg1 .nilFunc)
      clear own hTr hB hxl
      go_wp2_with fail
      go_roundw
      case rel => exact ⟨q + 1, _, by omega, by go_num, HST.out, HT2.out, HB2.out⟩
      case measure => simp [intOf]; omega
    · obtain rfl : q = Ls.length := by omega
      clear own
      go_wp2_with (first
        | (go_at_call 8; (with_reducible refine (HMR.out _ hB).mono ?_); rintro e w4 ⟨v4, rfl, hown4, hb4⟩; obtain ⟨pa, pcap, rfl, hpg⟩ := Sq.row_cases hown4; have hpc := row_cap hown4; have hT4 := hTr.below hb4; have hB4 := hB.trans (hb4.mono hB.size); have HV4 := Lib.hid (Vs.vers_of_own hown4))
        | (go_at_call 10; (with_reducible refine (HLI.out most _ ⟨hm0, hm1⟩ hT4).mono ?_); rintro e w5 ⟨u5, rfl, ho5, hb5⟩; have hv5 := Lib.hid (Vs.vers_of_own ho5); have HV5 := Lib.hid (HV4.out.grow hb5 hb5.size); have hT5 := hT4.below hb5; have hB5 := hB4.trans (hb5.mono hB4.size))
        | (go_at_call 11; (with_reducible refine (head_any pa pcap K (max most 0) _ _ HV5.out hpc (by omega) (by omega)).mono ?_); rintro e w6 ⟨rfl, rfl⟩)
        | (go_at_call 9; (with_reducible refine (HSM.out _ _ (cutL K most) _ hv5.out (by rw [cutL_max]; exact vers_cut most HV5.out) (by have := HCM.out; omega)).mono ?_); rintro e w6 ⟨rfl, hb6⟩; have hT6 := hT5.below hb6; have hB6 := hB5.trans (hb6.mono hB5.size); have HV6 := Lib.hid (HV5.out.grow hb6 hb6.size))
        | (go_at_call 10; (with_reducible refine (HLI.out 0 _ (by omega) hT6).mono ?_); rintro e w7 ⟨u7, rfl, ho7, hb7⟩; have hv7 := Vs.vers_of_own ho7; rw [HC0.out] at hv7; have HV7 := Lib.hid (HV6.out.grow hb7 hb7.size); have hB7 := hB6.trans (hb7.mono hB6.size))
        | (go_at_call 9; (with_reducible refine (HSM.out _ _ K _ hv7 HV7.out (by omega)).mono ?_); rintro e w8 ⟨rfl, hb8⟩; have hB8 := hB7.trans (hb8.mono hB7.size)))
      go_ret
      exact ⟨rfl, hB8⟩
end Mg
end Go.Proofs.Ythcllaombabpbaa

/-
  Roots that came in, opened.
-/
namespace Go.Proofs.Ythcllaombabpbaa
open Go.RowKit
set_option linter.unusedVariables false

namespace Gn
theorem mem_sum {α : Type} (f : α → Nat) : ∀ (l : List α) (j : Nat) (h : j < l.length), f l[j] ≤ (l.map f).sum
  | x :: r, 0, _ => by simp
  | x :: r, j + 1, h => by
    have := mem_sum f r j (by simpa using h)
    simp; omega
theorem len_sum {α : Type} (f : α → Nat) (h1 : ∀ x, 1 ≤ f x) : ∀ l : List α, l.length ≤ (l.map f).sum
  | [] => by simp
  | x :: r => by
    have := len_sum f h1 r
    have := h1 x
    simp; omega
/-- a row of numbers -/
theorem rd_ints {B : Nat} {W : World} {k : IntKind} {cs : List Value} {l : List Int} (h : RdL B W 1 (RdC B W (.int k)) cs l) :
    ∃ (a : Option Addr) (cap b off : Nat), cs = [.slice a l.length cap] ∧ (0 < l.length → a = some ⟨b, off, none⟩ ∧ b < B) ∧ ∀ j (h : j < l.length), W.cell? ⟨b, off + j, none⟩ = some (.int k l[j]) ∧ (Lit.int k l[j]).wf = true := by
  obtain ⟨a, cap, b, off, h1, _, _, h2, h3⟩ := h
  refine ⟨a, cap, b, off, h1, h2, fun j hj => ?_⟩
  obtain ⟨cs', g1, g2, rfl, g4⟩ := h3 j hj
  have := g2 0 (by omega)
  simp at this
  exact ⟨this, g4⟩
end Gn

namespace Fi
open Gn
abbrev fileT : Ty := .struct (.cons .str (.cons (.int .i64) (.cons (.slice (.int .i64)) .nil)))
abbrev rootT : Ty := .struct (.cons (.int .u64) (.cons (.slice fileT) .nil))
abbrev FD := List UInt8 × Int × List Int × Unit
def FD.file (x : FD) : File := ⟨x.1, x.2.1, x.2.2.1⟩
theorem i64_of {n : Int} (h : (Lit.int .i64 n).wf = true) : inI64 n := by
  simpa [Lit.wf, IntKind.min, IntKind.max, IntKind.signed, IntKind.bits, inI64] using h
theorem u64_of {n : Int} (h : (Lit.int .u64 n).wf = true) : 0 ≤ n ∧ n < 18446744073709551616 := by
  have : 0 ≤ n ∧ n ≤ 18446744073709551615 := by simpa [Lit.wf, IntKind.min, IntKind.max, IntKind.signed, IntKind.bits] using h
  omega
theorem rd_file {B : Nat} {W : World} {cs : List Value} {x : FD} (h : RdC B W fileT cs x) :
    ∃ bv, cs = [.string (Cd.bs x.1), .int .i64 x.2.1, bv] ∧ Ints B W bv x.2.2.1 ∧ inI64 x.2.1 ∧ ∀ b ∈ x.2.2.1, inI64 b := by
  obtain ⟨c1, c2, rfl, _, ⟨rfl, _⟩, c3, c4, rfl, _, ⟨rfl, hw⟩, c5, c6, rfl, _, h5, rfl⟩ := h
  obtain ⟨a, cap, b, off, rfl, g2, g3⟩ := rd_ints (l := x.2.2.1) h5
  refine ⟨_, rfl, ⟨a, cap, b, off, rfl, g2, fun j hj => (g3 j hj).1⟩, i64_of hw, fun y hy => ?_⟩
  obtain ⟨k, hk, rfl⟩ := List.getElem_of_mem hy
  exact i64_of (g3 k hk).2
/-- a root that came in -/
structure RootIn (W : World) (g : Nat) (fv : Value) (L : List (File × Value)) : Prop where
  gen : g < 18446744073709551616
  files : Files W.heap.size W fv L
  ok : ∀ x ∈ L, FileIn x.1
  len : L.length ≤ 1048576
theorem rd_files {B : Nat} {W : World} {cs : List Value} {l : List FD} (h : RdL B W 3 (RdC B W fileT) cs l) (hb : (Ty.slice fileT).bulk l ≤ 1048576) :
    ∃ fv, ∃ L : List (File × Value), cs = [fv] ∧ Files B W fv L ∧ (∀ x ∈ L, FileIn x.1) ∧ L.length ≤ 1048576 ∧ L.map (·.1) = l.map FD.file := by
  obtain ⟨a, cap, b, off, h1, _, _, h2, h3⟩ := h
  have hbs : ((l.map fun d => fileT.bulk d).sum) + 1 ≤ 1048576 := hb
  obtain ⟨L, hL, hq⟩ := list_of (len := l.length) (Q := fun j (F : File × Value) => ∃ h : j < l.length, F.1 = FD.file l[j] ∧ FileIn F.1 ∧
      W.cell? ⟨b, off + j * 3, none⟩ = some (.string (Cd.bs F.1.name)) ∧ W.cell? ⟨b, off + j * 3 + 1, none⟩ = some (.int .i64 F.1.size) ∧ W.cell? ⟨b, off + j * 3 + 2, none⟩ = some F.2 ∧ Ints B W F.2 F.1.blocks) (fun j hj => by
    obtain ⟨cs', g1, g2, g3⟩ := h3 j hj
    obtain ⟨bv, rfl, k1, k2, k3⟩ := rd_file g3
    have hm : fileT.bulk l[j] ≤ (l.map fun d => fileT.bulk d).sum := mem_sum (fun d => fileT.bulk d) l j hj
    have e : fileT.bulk l[j] = l[j].1.length + 1 + (1 + ((l[j].2.2.1.map fun _ => 1).sum + 1 + 0)) + 1 := rfl
    have hl := len_sum (fun _ : Int => 1) (fun _ => Nat.le_refl _) l[j].2.2.1
    rw [e] at hm
    refine ⟨(FD.file l[j], bv), hj, rfl, ⟨?_, k2, ?_, k3⟩, ?_, ?_, ?_, k1⟩
    · show l[j].1.length ≤ _; omega
    · show l[j].2.2.1.length ≤ _; omega
    · have := g2 0 (by omega); simp at this; exact this
    · have := g2 1 (by omega); simp at this; exact this
    · have := g2 2 (by omega); simp at this; exact this)
  have hll : l.length ≤ (l.map fun d => fileT.bulk d).sum := len_sum (fun d => fileT.bulk d) (fun d => by show 1 ≤ _ + 1; omega) l
  refine ⟨.slice a l.length cap, L, h1, ⟨a, cap, b, off, by rw [hL], fun h => h2 (by rw [hL] at h; exact h), fun j hj => ?_⟩, fun x hx => ?_, by omega, ?_⟩
  · obtain ⟨_, _, _, k⟩ := hq j hj; exact k
  · obtain ⟨j, hj, rfl⟩ := List.getElem_of_mem hx
    obtain ⟨_, _, k, _⟩ := hq j hj; exact k
  · apply List.ext_getElem
    · simp [hL]
    · intro j h1' h2'
      obtain ⟨_, k, _⟩ := hq j (by simpa using h1')
      simpa using k

end Fi
end Go.Proofs.Ythcllaombabpbaa
/-
  Chapter 7: what the program owes; the laws BloomAsks, BloomNever, BloomUnion, BloomBuilds over it.
-/
namespace Go.Proofs.Ythcllaombabpbaa
open Go.RowKit
set_option linter.unusedSimpArgs false
set_option linter.unusedVariables false
namespace Bm

theorem build_small (b : Int) (keys : List (List UInt8)) (hk : keys.length ≤ 1048576) : (build b keys).length ≤ 4194304 := by
  by_cases h : b < 1 ∨ keys = []
  · rw [show build b keys = [] from if_pos h]; simp
  · rw [build_len h]
    unfold bytesOf
    have hb : 0 ≤ min b 20 ∧ min b 20 ≤ 20 := by omega
    have q1 : min b 20 * (keys.length : Int) ≤ 20 * (keys.length : Int) := Int.mul_le_mul_of_nonneg_right hb.2 (by omega)
    omega

theorem andNot_sub (x y : List UInt8) (q : Nat) (hx : q < x.length) (hy : q < y.length) (h : Sub (x.getD q 0) (y.getD q 0)) : bits BinOp.andNot IntKind.u8 (((Cd.bs x)[q]'hx).toNat : Int) (((Cd.bs y)[q]'hy).toNat : Int) = 0 := by
  have e1 : x.getD q 0 = x[q] := by rw [List.getD_eq_getElem?_getD, List.getElem?_eq_getElem hx, Option.getD_some]
  have e2 : y.getD q 0 = y[q] := by rw [List.getD_eq_getElem?_getD, List.getElem?_eq_getElem hy, Option.getD_some]
  rw [e1, e2] at h
  show bits BinOp.andNot IntKind.u8 (x[q].toNat : Int) (y[q].toNat : Int) = 0
  generalize x[q] = c at *
  generalize y[q] = d at *
  have hc := c.toNat_lt
  have hd := d.toNat_lt
  have ho : c.toNat ||| d.toNat = d.toNat := by rw [← UInt8.toNat_or, h]
  rw [u8_andNot_nat _ _ (by omega) (by omega)]
  have : c.toNat &&& (255 - d.toNat) = 0 := by
    apply Nat.eq_of_testBit_eq
    intro i
    rw [Nat.testBit_and, show 255 - d.toNat = 2 ^ 8 - (d.toNat + 1) by omega, Nat.testBit_two_pow_sub_succ (by omega), Nat.zero_testBit]
    have hi : (c.toNat ||| d.toNat).testBit i = d.toNat.testBit i := by rw [ho]
    rw [Nat.testBit_or] at hi
    cases h1 : c.toNat.testBit i <;> cases h2 : d.toNat.testBit i <;> simp_all
  rw [this]; rfl
theorem Strs.take {B : Nat} {W : World} {a : Option Addr} {cap : Nat} {L : List (List UInt8)} (h : Strs B W (.slice a L.length cap) L) (n : Nat) (hn : n ≤ L.length) : Strs B W (.slice a n cap) (L.take n) := by
  obtain ⟨a', cap', b, off, h1, h2, h3⟩ := h
  injection h1 with e1 e2 e3
  subst e1 e3
  have hl : (L.take n).length = n := by simp; omega
  exact ⟨_, _, b, off, by rw [hl], fun h => h2 (by omega), fun j hj => by rw [List.getElem_take]; exact h3 j (by omega)⟩

end Bm
end Go.Proofs.Ythcllaombabpbaa
/-
  Chapter 7: the law BloomBuilds over what the program owes.
-/
namespace Go.Proofs.Ythcllaombabpbaa
open Go.RowKit
set_option linter.unusedSimpArgs false
set_option linter.unusedVariables false
namespace Bm
def sc (l : List (List UInt8)) : List Value := l.map fun d => .string (Cd.bs d)
theorem sc_len (l : List (List UInt8)) : (sc l).length = l.length := by simp [sc]
theorem info_str7 : (Try.prog.info? 9).map (fun i => (i.zero, i.size, i.bytes)) = some (some (.string ⟨#[]⟩), 1, 16) := by kernel_rfl
theorem made_str7 (n : Nat) : (madeCells (Value.string ⟨#[]⟩).cells (n * 1)).toList = List.replicate n (.string ⟨#[]⟩) := by
  rw [show (Value.string ⟨#[]⟩).cells = #[Value.string ⟨#[]⟩] from rfl, Nat.mul_one, toList_madeCells_one]
theorem splice_all7 (n : Nat) (l : List Value) (h : l.length = n) : splice (List.replicate n (.string ⟨#[]⟩)) 0 l = l := by
  unfold splice
  simp [h]
theorem row_whole7 {W : World} {base g n : Nat} {e : TypeId} {xs : List Value} (h : W.ownsRow base e 1 (.slice (some ⟨g, 0, none⟩) n n) n xs) : W.heap[g]? = some (.cells xs.toArray e (0, 0)) := by
  rcases h.2 with ⟨h1, _⟩ | ⟨g', cap', cur, h1, _, h3, _, _, h6, h7⟩
  · simp at h1
  · simp at h1
    obtain ⟨rfl, rfl⟩ := h1
    have : cur.toList = xs := by rw [← h7, List.take_of_length_le (by simp [h6])]
    rw [h3, ← this]
def bCells (l : List Bool) : List Value := l.map Value.bool
theorem bCells_len (l : List Bool) : (bCells l).length = l.length := by simp [bCells]
theorem strs_src {B : Nat} {W : World} {a : Option Addr} {cap : Nat} {L : List (List UInt8)} (h : Strs B W (.slice a L.length cap) L) (g : Nat) :
    0 < (sc L).length → (some (⟨g, 0, none⟩ : Addr)) = some ⟨g, 0, none⟩ ∧ ∃ ad, a = some ad ∧ ∀ j v, (sc L)[j]? = some v → W.cell? (ad.add j) = some v := by
  intro h0
  rw [sc_len] at h0
  obtain ⟨a', cap', b, off, hv, ha, hc⟩ := h
  simp only [Value.slice.injEq, true_and] at hv
  obtain ⟨rfl, rfl⟩ := hv
  refine ⟨rfl, ⟨b, off, none⟩, (ha h0).1, fun j v hj => ?_⟩
  have hj' : j < L.length := by have := (List.getElem?_eq_some_iff.1 hj).1; rwa [sc_len] at this
  have hp : (⟨b, off, none⟩ : Addr).add j = ⟨b, off + j, none⟩ := by unfold Addr.add; split <;> simp_all
  rw [hp, hc j hj']
  simpa [sc, hj'] using hj
theorem strs_own {W : World} {g : Nat} {L : List (List UInt8)} (h : W.heap[g]? = some (.cells (sc L).toArray 9 (0, 0))) : Strs W.heap.size W (.slice (some ⟨g, 0, none⟩) L.length L.length) L := by
  have hg : g < W.heap.size := by
    rcases Nat.lt_or_ge g W.heap.size with h' | h'
    · exact h'
    · rw [Array.getElem?_eq_none h'] at h; cases h
  exact ⟨_, _, g, 0, rfl, fun _ => ⟨rfl, hg⟩, fun j hj => by simp [World.cell?, h, sc, hj]⟩
theorem Strs.later {B : Nat} {W W' : World} {v : Value} {L : List (List UInt8)} (h : Strs B W v L) (hb : Below B W W') : Strs W'.heap.size W' v L := by
  obtain ⟨a, cap, b, off, h1, h2, h3⟩ := h.below hb (Nat.le_refl _)
  by_cases h0 : 0 < L.length
  · refine ⟨a, cap, b, off, h1, fun _ => ⟨(h2 h0).1, ?_⟩, h3⟩
    have hc := h3 0 h0
    rcases Nat.lt_or_ge b W'.heap.size with h' | h'
    · exact h'
    · simp [World.cell?, Array.getElem?_eq_none h'] at hc
  · exact ⟨a, cap, b, off, h1, fun h => absurd h h0, h3⟩
theorem Strs.cells {B : Nat} {W : World} {g o n cap : Nat} {L : List (List UInt8)} (h : Strs B W (.slice (some ⟨g, o, none⟩) n cap) L) (j : Nat) (hj : j < L.length) : g < B ∧ W.cell? ⟨g, o + j, none⟩ = some (.string (Cd.bs L[j])) := by
  obtain ⟨a', cap', q1, q2, h1, h2, h3⟩ := h
  injection h1 with e1 e2 e3
  obtain ⟨e4, e5⟩ := h2 (by omega)
  rw [← e1] at e4
  injection e4 with e4
  injection e4 with e6 e7
  subst e6 e7
  exact ⟨e5, h3 j hj⟩

end Bm
end Go.Proofs.Ythcllaombabpbaa
/-
  The document's Build of a table (tapestryref08.Build).
-/
namespace Go.Proofs.Ythcllaombabpbaa
open Go.RowKit
set_option linter.unusedSimpArgs false
set_option linter.unusedVariables false
namespace Tb
open Mt (Ver mayB lessB placeB VerIn verV)
open Vs (Vers At)

theorem bodyN_len {L : List Ver} (h : ∀ x ∈ L, x.val.length ≤ 16384) (ps : List (Nat × Nat)) (hp : ∀ p ∈ ps, p.2 ≤ 1048576) (hn : ps.length ≤ 1048576) : ∀ n, n ≤ ps.length → (bodyN L ps n).1.length ≤ 17511220020 * n ∧ (bodyN L ps n).2.length ≤ 10 + 260 * n
  | 0, _ => ⟨Nat.le_refl _, by have := Cd.putU_len10 ps.length (by omega); show (Cd.putU ps.length).length ≤ _; omega⟩
  | n + 1, hle => by
    obtain ⟨k1, k2⟩ := bodyN_len h ps hp hn n (by omega)
    rw [bodyN_succ L ps n (by omega)]
    have h1 := dataF_len h ps[n]
    have h2 := hp ps[n] (List.getElem_mem _)
    have h3 := spanB_len (bodyN L ps n).1.length L ps[n] (by omega) (by omega) (by omega)
    unfold bodyStep
    simp only [List.length_append]
    omega

theorem strs_row {W : World} {base : Nat} {v : Value} {L : List (List UInt8)} (h : W.ownsRow base 9 1 v L.length (sc8 L)) : Bm.Strs W.heap.size W v L := by
  obtain ⟨ao, cap, rfl, hg⟩ := Sq.row_cases h
  by_cases h0 : 0 < L.length
  · obtain ⟨g, rfl, _, h2⟩ := hg h0
    refine ⟨_, _, g, 0, rfl, fun _ => ⟨rfl, h2⟩, fun j hj => ?_⟩
    rw [Nat.zero_add]
    exact (h.cellAt j (by omega)).trans (by simp [sc8, hj])
  · exact ⟨_, _, 0, 0, rfl, fun h => absurd h h0, fun j hj => absurd (by omega) h0⟩
theorem keyL_mem {L : List Ver} {x : List UInt8} (h : x ∈ keyL L) : ∃ v ∈ L, x = v.key := by
  unfold keyL keyN at h
  obtain ⟨i, hi, rfl⟩ := List.mem_map.1 h
  have := List.mem_range.1 (List.mem_filter.1 hi).1
  exact ⟨L[i], List.getElem_mem this, by rw [getD_at this]⟩
theorem may_len {v : Ver} (h : mayB v = true) : VerIn v := by
  obtain ⟨h1, h2, h3, h4, h5, h6⟩ := may_seq h
  exact ⟨by omega, by omega, by omega, by omega⟩

end Tb
end Go.Proofs.Ythcllaombabpbaa
/-
  The builtin copy of elements of several cells, onto a row of one's own.
-/
namespace Go.Proofs.Ythcllaombabpbaa
open Go.RowKit
namespace Cw
variable {P : Program}
theorem run_copy_wide (w : World) (dT sT ty elem : TypeId) (g n dCap : Nat) (a : Addr) (sCap sz : Nat) (cur : Array Value) (t : TypeId) (cs : List Value)
    (hu : P.underlying dT = some (.slice elem)) (hs : (P.info? elem).map (·.size) = some sz)
    (hg : w.heap[g]? = some (.cells cur t (0, 0))) (hn : cs.length = n * sz)
    (hsrc : ∀ j v, cs[j]? = some v → w.cell? (a.add j) = some v) (hfit : cs.length ≤ cur.size) (h1 : ∀ v ∈ cs, v.oneCell' = true) :
    (Builtin.copy_ #[dT, sT] ty #[.slice (some ⟨g, 0, none⟩) n dCap, .slice (some a) n sCap]).run P w =
      .ok (goInt n) (w.setRow g (cs ++ cur.toList.drop cs.length).toArray) := by
  have hl := run_loadCells_list (P := P) w a cs hsrc
  have hst := run_storeCells_at P g 0 t cs 0 cur w hg (by simpa using hfit) h1
  cases hq : P.info? elem with
  | none => simp [hq] at hs
  | some i =>
    have hi : i.size = sz := by simpa [hq] using hs
    simp [Builtin.copy_, run_underlying hu, Builtin.lenOf, Builtin.firstCells, sizeOf, typeInfo, hq, hi, ← hn, hl, hst]
theorem run_copy_zero (w : World) (dT sT ty elem : TypeId) (d a : Option Addr) (dCap sCap : Nat) (sz : Nat) (hu : P.underlying dT = some (.slice elem)) (hs : (P.info? elem).map (·.size) = some sz) :
    (Builtin.copy_ #[dT, sT] ty #[.slice d 0 dCap, .slice a 0 sCap]).run P w = .ok (goInt 0) w := by
  cases hq : P.info? elem with
  | none => simp [hq] at hs
  | some i =>
    have hl : ∀ (x : Addr), (loadCells x 0).run P w = .ok #[] w := fun x => by simpa using run_loadCells_list (P := P) w x [] (by simp)
    cases d <;> cases a <;> simp [Builtin.copy_, run_underlying hu, Builtin.lenOf, Builtin.firstCells, sizeOf, typeInfo, hq, storeCells, hl]
/-- a whole list of n elements onto a row of as many -/
theorem wpList_copy_wide {w : World} {ops : Array Oper} {rest : List Oper} {o : Oper} {a : Act} {Q : Exit → Act → World → Prop} (hgd : o.guard = none) (d s : Operand) (dT sT : TypeId)
    (ho : o.op = .call { callee := .builtin .copy, args := #[d, s], argTypes := #[dT, sT] }) (elem : TypeId) (sz : Nat) (hu : P.underlying dT = some (.slice elem)) (hsz : (P.info? elem).map (·.size) = some sz)
    (sp : Option Addr) (n dCap sCap : Nat) (g : Nat) (hd : a.eval d = .slice (some ⟨g, 0, none⟩) n dCap) (hs : a.eval s = .slice sp n sCap)
    (cur : List Value) (t : TypeId) (hg : w.heap[g]? = some (.cells cur.toArray t (0, 0))) (cs : List Value) (hn : cs.length = n * sz) (hcur : cur.length = n * sz)
    (hpos : 0 < n → ∃ ad, sp = some ad ∧ ∀ j v, cs[j]? = some v → w.cell? (ad.add j) = some v) (h1 : ∀ v ∈ cs, v.oneCell' = true) (B : Nat) (w0 : World) (hb : Below B w0 w) (hBg : B ≤ g)
    (h : ∀ w', Hid (w'.heap[g]? = some (.cells cs.toArray t (0, 0))) → Below B w0 w' → wpList P ops Q rest (a.put o.dst (goInt n)) w') :
    wpList P ops Q (o :: rest) a w := by
  by_cases h0 : n = 0
  · subst h0
    rw [Nat.zero_mul] at hn hcur
    obtain rfl := List.eq_nil_of_length_eq_zero hn
    obtain rfl := List.eq_nil_of_length_eq_zero hcur
    have hrun := run_copy_zero (P := P) w dT sT o.type elem (some ⟨g, 0, none⟩) sp dCap sCap sz hu hsz
    refine wpList_plain hgd fun K hK => ?_
    unfold Oper.wp
    simp [execOp, ho, resolve, invoke, builtin, hd, hs, hrun, Result.andThen]
    exact hK _ _ (h w hg hb)
  · obtain ⟨ad, rfl, hsrc⟩ := hpos (by omega)
    have hrun := run_copy_wide (P := P) w dT sT o.type elem g n dCap ad sCap sz cur.toArray t cs hu hsz hg hn hsrc (by simp; omega) h1
    have hdrop : cur.drop cs.length = [] := List.drop_eq_nil_of_le (by omega)
    refine wpList_plain hgd fun K hK => ?_
    unfold Oper.wp
    simp [execOp, ho, resolve, invoke, builtin, hd, hs, hrun, Result.andThen, hdrop]
    exact hK _ _ (h _ (show _ = _ from setRow_heap w g _ _ t _ hg) (below_setRow hb hBg _))
end Cw
end Go.Proofs.Ythcllaombabpbaa

/-
  Chapter 8: what the program owes of tables, and the law TableBuilds over it.
-/
namespace Go.Proofs.Ythcllaombabpbaa
open Go.RowKit
set_option linter.unusedSimpArgs false
set_option linter.unusedVariables false
namespace Tb
open Mt (Ver mayB lessB placeB VerIn verV)
open Vs (Vers At VersIn vcs)

/-- versions that lie in a slice with room -/
structure VersK (W : World) (a : Option Addr) (cap fb fo : Nat) (L : List Ver) : Prop where
  fits : L.length ≤ cap
  most : cap ≤ 9223372036854775807
  at0 : 0 < L.length → a = some ⟨fb, fo, none⟩ ∧ fb < W.heap.size
  cells : ∀ j (h : j < L.length), At W fb (fo + j * 4) L[j]
  each : ∀ x ∈ L, VerIn x
  many : L.length ≤ 1048576
  sum : (L.map Vs.nv).sum ≤ 1048576
theorem VersK.grow {W W' : World} {a : Option Addr} {cap fb fo : Nat} {L : List Ver} (h : VersK W a cap fb fo L) (hb : Below W.heap.size W W') : VersK W' a cap fb fo L :=
  ⟨h.fits, h.most, fun h0 => ⟨(h.at0 h0).1, Nat.lt_of_lt_of_le (h.at0 h0).2 hb.size⟩, fun j hj => (h.cells j hj).below hb (h.at0 (by omega)).2, h.each, h.many, h.sum⟩
theorem VersK.vers {W : World} {a : Option Addr} {cap fb fo : Nat} {L : List Ver} (h : VersK W a cap fb fo L) : Vers W.heap.size W (.slice a L.length cap) L := ⟨a, cap, fb, fo, rfl, h.at0, h.cells⟩

theorem info_ver8 : (Try.prog.info? 44).map (fun i => (i.zero, i.size, i.bytes)) = some (some (.agg #[.string ⟨#[]⟩, .int .u64 0, .bool false, .string ⟨#[]⟩]), 4, 48) := by kernel_rfl
theorem row_cells8 {W : World} {B g n cap sz : Nat} {e : TypeId} {xs : List Value} (h : W.ownsRow B e sz (.slice (some ⟨g, 0, none⟩) n cap) n xs) : ∃ cur : List Value, W.heap[g]? = some (.cells cur.toArray e (0, 0)) ∧ cur.length = cap * sz := by
  rcases h.2 with ⟨h1, _⟩ | ⟨g', cap', cur, h1, h2, h3, h4, h5, h6, h7⟩
  · cases h1
  · injection h1 with e1 e2 e3
    injection e1 with e1
    injection e1 with e1 _ _
    subst e1; subst e3
    exact ⟨cur.toList, by simpa using h3, by simpa using h6⟩
theorem vcs_len8 (L : List Ver) : (vcs L).length = L.length * 4 := by
  induction L with
  | nil => rfl
  | cons x r ih => rw [show vcs (x :: r) = Vs.vC x ++ vcs r from rfl, List.length_append, ih]; simp [Vs.vC]; omega
theorem vcs_get8 (L : List Ver) (j : Nat) (hj : j < L.length) (k : Nat) (hk : k < 4) : (vcs L)[j * 4 + k]? = (Vs.vC L[j])[k]? := by
  have := Gn.flatten_get (sz := 4) (L.map Vs.vC) (fun i hi => by simp [Vs.vC]) j (by simpa using hj) k hk
  unfold vcs
  rw [this]
  simp
theorem vcs_one (L : List Ver) : ∀ v ∈ vcs L, v.oneCell' = true := by
  intro v hv
  unfold vcs at hv
  obtain ⟨r, hr, hv⟩ := List.mem_flatten.1 hv
  obtain ⟨p, _, rfl⟩ := List.mem_map.1 hr
  simp only [Vs.vC, List.mem_cons, List.not_mem_nil, or_false] at hv
  rcases hv with rfl | rfl | rfl | rfl <;> rfl
theorem vers_src {W : World} {a : Option Addr} {cap fb fo : Nat} {L : List Ver} (h : VersK W a cap fb fo L) : 0 < L.length → ∃ ad, a = some ad ∧ ∀ j v, (vcs L)[j]? = some v → W.cell? (ad.add j) = some v := by
  intro h0
  refine ⟨⟨fb, fo, none⟩, (h.at0 h0).1, fun j v hj => ?_⟩
  have hlt : j < L.length * 4 := by
    have := (List.getElem?_eq_some_iff.1 hj).1
    rwa [vcs_len8] at this
  have hq : j / 4 < L.length := by omega
  obtain ⟨k1, k2, k3, k4⟩ := h.cells (j / 4) hq
  have hadd : (⟨fb, fo, none⟩ : Addr).add j = ⟨fb, fo + j, none⟩ := by unfold Addr.add; split <;> simp_all
  rw [hadd]
  have hg := vcs_get8 L (j / 4) hq (j % 4) (Nat.mod_lt _ (by omega))
  rw [show j / 4 * 4 + j % 4 = j by omega, hj] at hg
  have hr : j % 4 = 0 ∨ j % 4 = 1 ∨ j % 4 = 2 ∨ j % 4 = 3 := by omega
  rcases hr with hr | hr | hr | hr
  · rw [hr] at hg; rw [show fo + j = fo + j / 4 * 4 by omega, k1]; exact hg.symm
  · rw [hr] at hg; rw [show fo + j = fo + j / 4 * 4 + 1 by omega, k2]; exact hg.symm
  · rw [hr] at hg; rw [show fo + j = fo + j / 4 * 4 + 2 by omega, k3]; exact hg.symm
  · rw [hr] at hg; rw [show fo + j = fo + j / 4 * 4 + 3 by omega, k4]; exact hg.symm
theorem versK_of_cells {W : World} {g : Nat} {t : TypeId} {fz : Nat × Nat} {L : List Ver} (h : W.heap[g]? = some (.cells (vcs L).toArray t fz)) (h1 : ∀ x ∈ L, VerIn x) (h2 : L.length ≤ 1048576) (h3 : (L.map Vs.nv).sum ≤ 1048576) : VersK W (some ⟨g, 0, none⟩) L.length g 0 L := by
  refine ⟨Nat.le_refl _, by omega, fun _ => ⟨rfl, (Array.getElem?_eq_some_iff.1 h).1⟩, fun j hj => ?_, h1, h2, h3⟩
  have key : ∀ k, W.cell? ⟨g, k, none⟩ = (vcs L)[k]? := fun k => by simp [World.cell?, h]
  rw [Nat.zero_add]
  exact ⟨(key _).trans (vcs_get8 L j hj 0 (by omega)), (key _).trans (vcs_get8 L j hj 1 (by omega)), (key _).trans (vcs_get8 L j hj 2 (by omega)), (key _).trans (vcs_get8 L j hj 3 (by omega))⟩

open Gn in
set_option maxRecDepth 100000 in
theorem open_versK {H : Type} {enc : TypeId × Value → H} {W : World} {B : Nat} {v : Value} {d : DataW H} {p : List MemPlace} {base : Nat} (hv : Value.okWide Try.prog W .any base 28 v)
    (h : DataW.Trod enc Try.prog W 0 (fun _ => true) true 28 v d p) (hlt : ∀ x ∈ p, x.block < W.heap.size) (hB : Rows.uptoBulk d ≤ B) (hB2 : B ≤ 1048576 := by omega) :
    ∃ (a : Option Addr) (cap fb fo : Nat) (L : List Ver), v = .slice a L.length cap ∧ VersK W a cap fb fo L := by
  obtain ⟨cs, l, rfl, hx, hb⟩ := open_val (.slice Vs.verT) (by kernel_rfl) hv h hB
  replace hb : ((show List Vs.VD from l).map Vs.vbulk).sum + 1 ≤ B := hb
  change List Vs.VD at l
  have hx2 : RdC W.heap.size W (.slice Vs.verT) cs l := hx
  obtain ⟨a, cap, b, off, h1, hc, hm, h2, h3⟩ := hx
  have hs : ∀ x ∈ l, 0 ≤ (Vs.toV x).seq ∧ (Vs.toV x).seq < 18446744073709551616 := fun x hx => by
    obtain ⟨j, hj, rfl⟩ := List.getElem_of_mem hx
    obtain ⟨cs', g1, g2, g3⟩ := h3 j hj
    exact (Vs.rd_ver g3).2
  obtain ⟨k1, k2, k3⟩ := Vs.vers_in hb hB2 hs
  subst h1
  refine ⟨a, cap, b, off, l.map Vs.toV, by rw [List.length_map]; rfl, ⟨by rw [List.length_map]; exact hc, hm, fun h => h2 (by rwa [List.length_map] at h), fun j hj => ?_, k1, k2, k3⟩⟩
  rw [List.length_map] at hj
  obtain ⟨cs', g1, g2, g3⟩ := h3 j hj
  obtain ⟨rfl, _⟩ := Vs.rd_ver g3
  rw [List.getElem_map]
  exact ⟨g2 0 (by decide), g2 1 (by decide), g2 2 (by decide), g2 3 (by decide)⟩
end Tb
end Go.Proofs.Ythcllaombabpbaa

/-
  Chapter 9's inputs that came in, opened: rows of rows of versions, floors, the structs Kept and Seen.
-/
namespace Go.Proofs.Ythcllaombabpbaa
open Go.RowKit
set_option linter.unusedSimpArgs false
set_option linter.unusedVariables false
namespace Mg
open Gn
open Mt (Ver VerIn verV)
open Vs (Vers VersIn verT VD toV vbulk At)
theorem rd_us {B : Nat} {W : World} {cs : List Value} {l : List Int} (h : RdC B W (.slice (.int .u64)) cs l) : ∃ v, cs = [v] ∧ Us B W v l ∧ ∀ x ∈ l, 0 ≤ x ∧ x ≤ 18446744073709551615 := by
  obtain ⟨a, cap, b, off, h1, h2, h3⟩ := rd_ints (l := l) h
  refine ⟨_, h1, ⟨a, cap, b, off, rfl, h2, fun j hj => (h3 j hj).1⟩, fun x hx => ?_⟩
  obtain ⟨j, hj, rfl⟩ := List.getElem_of_mem hx
  have := Fi.u64_of (h3 j hj).2
  omega
theorem rd_row {W : World} {cs : List Value} {X : List VD} (h : RdC W.heap.size W (.slice verT) cs X) : ∃ ra rcap rb ro, cs = [.slice ra (X.map toV).length rcap] ∧ (0 < (X.map toV).length → ra = some ⟨rb, ro, none⟩ ∧ rb < W.heap.size) ∧ (∀ i (h : i < (X.map toV).length), At W rb (ro + i * 4) (X.map toV)[i]) ∧ ∀ x ∈ X, 0 ≤ (toV x).seq ∧ (toV x).seq < 18446744073709551616 := by
  obtain ⟨v, rfl, ⟨a, cap, b, off, rfl, h1, h2⟩, h3⟩ := Vs.vers_of_rd h
  exact ⟨a, cap, b, off, rfl, h1, h2, h3⟩
theorem left_all (Ls : List (List Ver)) : left Ls (zeros Ls) = (Ls.map (·.length)).sum := by
  unfold left
  congr 1
  apply List.ext_getElem
  · simp
  · intro i h1 h2
    have hi : i < Ls.length := by simpa using h2
    simp [zeros, gL hi, List.getD_eq_getElem?_getD, hi]
/-- rows of versions that came in -/
structure RowsIn (W : World) (v : Value) (Ls : List (List Ver)) : Prop where
  vv : VV W v Ls
  each : ∀ L ∈ Ls, ∀ x ∈ L, VerIn x
  lens : ∀ L ∈ Ls, L.length ≤ 1048576
  many : Ls.length ≤ 1048576
  all : left Ls (zeros Ls) ≤ 1048576
def vvbulk (X : List (List VD)) : Nat := (X.map fun r => (r.map vbulk).sum + 1).sum + 1
theorem vv_of_rd {W : World} {cs : List Value} {X : List (List VD)} (h : RdC W.heap.size W (.slice (.slice verT)) cs X) (hb : vvbulk X ≤ 1048576) : ∃ v, cs = [v] ∧ RowsIn W v (X.map fun r => r.map toV) := by
  obtain ⟨a, cap, b, off, h1, _, _, h2, h3⟩ := h
  have key : ∀ j (h : j < X.length), ∃ ra rcap rb ro, W.cell? ⟨b, off + j, none⟩ = some (.slice ra (X[j].map toV).length rcap) ∧ (0 < (X[j].map toV).length → ra = some ⟨rb, ro, none⟩ ∧ rb < W.heap.size) ∧ (∀ i (h : i < (X[j].map toV).length), At W rb (ro + i * 4) (X[j].map toV)[i]) ∧ ∀ x ∈ X[j], 0 ≤ (toV x).seq ∧ (toV x).seq < 18446744073709551616 := fun j hj => by
    obtain ⟨cs', g1, g2, g3⟩ := h3 j hj
    obtain ⟨ra, rcap, rb, ro, rfl, k1, k2, k3⟩ := rd_row g3
    have := g2 0 (by decide)
    refine ⟨ra, rcap, rb, ro, ?_, k1, k2, k3⟩
    simp only [Ty.size, Nat.mul_one, Nat.add_zero, List.getElem?_cons_zero] at this
    exact this
  have hmem : ∀ r ∈ X, (r.map vbulk).sum + 1 ≤ 1048576 := fun r hr => by
    obtain ⟨j, hj, rfl⟩ := List.getElem_of_mem hr
    have := mem_sum (fun r : List VD => (r.map vbulk).sum + 1) X j hj
    unfold vvbulk at hb
    omega
  have hlen : ∀ r : List VD, r.length ≤ (r.map vbulk).sum := fun r => len_sum vbulk (fun x => by unfold vbulk; omega) r
  have hin : ∀ r ∈ X, (∀ x ∈ r.map toV, VerIn x) ∧ (r.map toV).length ≤ 1048576 := fun r hr => by
    obtain ⟨j, hj, rfl⟩ := List.getElem_of_mem hr
    obtain ⟨_, _, _, _, _, _, _, k⟩ := key j hj
    obtain ⟨q1, q2, _⟩ := Vs.vers_in (X := X[j]) (b := 1048576) (hmem _ hr) (Nat.le_refl _) k
    exact ⟨q1, q2⟩
  have hn : X.length ≤ 1048576 := by
    have := len_sum (fun r : List VD => (r.map vbulk).sum + 1) (fun r => by omega) X
    unfold vvbulk at hb
    omega
  have hall : left (X.map fun r => r.map toV) (zeros (X.map fun r => r.map toV)) ≤ 1048576 := by
    have e := left_all (X.map fun r => r.map toV)
    have e2 : ∀ Y : List (List VD), ((Y.map fun r => r.map toV).map (·.length)).sum ≤ (Y.map fun r => (r.map vbulk).sum + 1).sum := by
      intro Y
      induction Y with
      | nil => simp
      | cons r Y ih =>
        have := hlen r
        simp only [List.map_cons, List.sum_cons, List.length_map] at ih ⊢
        omega
    have := e2 X
    unfold vvbulk at hb
    omega
  refine ⟨_, h1, ⟨⟨a, cap, b, off, by rw [List.length_map]; rfl, fun h => h2 (by rwa [List.length_map] at h), fun j hj => ?_⟩, fun L hL => ?_, fun L hL => ?_, by rw [List.length_map]; exact hn, hall⟩⟩
  · rw [List.length_map] at hj
    obtain ⟨ra, rcap, rb, ro, k0, k1, k2, _⟩ := key j hj
    rw [List.getElem_map]
    exact ⟨ra, rcap, rb, ro, k0, k1, k2⟩
  · obtain ⟨r, hr, rfl⟩ := List.mem_map.1 hL
    exact (hin r hr).1
  · obtain ⟨r, hr, rfl⟩ := List.mem_map.1 hL
    exact (hin r hr).2
variable {H : Type} {enc : TypeId × Value → H} {W : World}

set_option maxRecDepth 100000 in
theorem open_vv {B : Nat} {v : Value} {d : DataW H} {p : List MemPlace} {base : Nat} (hv : Value.okWide Try.prog W .any base 22 v)
    (h : DataW.Trod enc Try.prog W 0 (fun _ => true) true 22 v d p) (hlt : ∀ x ∈ p, x.block < W.heap.size) (hB : Rows.uptoBulk d ≤ B) (hB2 : B ≤ 1048576 := by omega) :
    ∃ (a : Option Addr) (n cap : Nat) (Ls : List (List Ver)), v = .slice a n cap ∧ RowsIn W (.slice a n cap) Ls := by
  obtain ⟨cs, l, rfl, hx, hb⟩ := open_val (.slice (.slice verT)) (by kernel_rfl) hv h hB
  have hb2 : vvbulk l ≤ B := hb
  obtain ⟨u, hu, hV⟩ := vv_of_rd (X := l) hx (by omega)
  obtain ⟨a, cap, b, off, e1, _⟩ := hV.vv
  subst e1
  cases hu
  exact ⟨a, _, cap, _, rfl, hV⟩

set_option maxRecDepth 100000 in
theorem open_us {B : Nat} {v : Value} {d : DataW H} {p : List MemPlace} {base : Nat} (hv : Value.okWide Try.prog W .any base 34 v)
    (h : DataW.Trod enc Try.prog W 0 (fun _ => true) true 34 v d p) (hlt : ∀ x ∈ p, x.block < W.heap.size) (hB : Rows.uptoBulk d ≤ B) (hB2 : B ≤ 1048576 := by omega) :
    ∃ (a : Option Addr) (n cap : Nat) (l : List Int), v = .slice a n cap ∧ (Us W.heap.size W (.slice a n cap) l ∧ (∀ x ∈ l, 0 ≤ x ∧ x ≤ 18446744073709551615) ∧ l.length ≤ 1048576) := by
  obtain ⟨cs, l, rfl, hx, hb⟩ := open_val (.slice (.int .u64)) (by kernel_rfl) hv h hB
  change List Int at l
  replace hb : (l.map fun _ => 1).sum + 1 ≤ B := hb
  obtain ⟨u, hu, hV, h2⟩ := rd_us (l := l) hx
  have hl := len_sum (fun _ : Int => 1) (fun _ => Nat.le_refl _) l
  obtain ⟨a, cap, b, off, e1, h3⟩ := hV
  subst e1
  cases hu
  exact ⟨a, _, cap, _, rfl, ⟨a, cap, b, off, rfl, h3⟩, h2, by omega⟩

abbrev keptT : Gn.Ty := .struct (.cons (.slice verT) (.cons (.slice (.int .u64)) (.cons .bool (.cons (.int .i64) .nil))))
abbrev seenT : Gn.Ty := .struct (.cons (.slice verT) (.cons (.int .u64) (.cons .str (.cons .str (.cons (.int .i64) .nil)))))

set_option maxRecDepth 100000 in
theorem open_kept {B : Nat} {v : Value} {d : DataW H} {p : List MemPlace} {base : Nat} (hv : Value.okWide Try.prog W .any base 36 v)
    (h : DataW.Trod enc Try.prog W 0 (fun _ => true) true 36 v d p) (hlt : ∀ x ∈ p, x.block < W.heap.size) (hB : Rows.uptoBulk d ≤ B) (hB2 : B ≤ 1048576 := by omega) :
    ∃ (lv fv : Value) (L : List Ver) (fl : List Int) (bt : Bool) (most : Int), v = .agg #[lv, fv, .bool bt, .int .i64 most] ∧ VersIn W lv L ∧ Us W.heap.size W fv fl ∧ (∀ x ∈ fl, 0 ≤ x ∧ x ≤ 18446744073709551615) ∧ fl.length ≤ 1048576 ∧ -9223372036854775808 ≤ most ∧ most ≤ 9223372036854775807 := by
  obtain ⟨cs, l, rfl, hx, hb⟩ := open_val keptT (by kernel_rfl) hv h hB
  change List VD × List Int × Bool × Int × Unit at l
  replace hb : (l.1.map vbulk).sum + 1 + ((l.2.1.map fun _ => 1).sum + 1 + (1 + (1 + 0))) + 1 ≤ B := hb
  obtain ⟨c1, c2, rfl, _, h1, c3, c4, rfl, _, h2, c5, c6, rfl, _, rfl, c7, c8, rfl, _, ⟨rfl, hw⟩, rfl⟩ := hx
  obtain ⟨u, rfl, hV, hs⟩ := Vs.vers_of_rd (X := l.1) h1
  obtain ⟨u2, rfl, hU, h3⟩ := rd_us (l := l.2.1) h2
  obtain ⟨k1, k2, k3⟩ := Vs.vers_in (X := l.1) (b := 1048576) (by omega) (Nat.le_refl _) hs
  have hl := len_sum (fun _ : Int => 1) (fun _ => Nat.le_refl _) l.2.1
  have hi := Fi.i64_of hw
  exact ⟨u, u2, _, _, _, _, rfl, ⟨hV, k1, k2, k3⟩, hU, h3, by omega, hi.1, hi.2⟩

end Mg
end Go.Proofs.Ythcllaombabpbaa
/-
  The dump is laid out.
-/
namespace Go.Proofs.Ythcllaombabpbaa
theorem laidOut : laidOutB Try.prog = true := by kernel_rfl
end Go.Proofs.Ythcllaombabpbaa

/-
  The program's merge: Keep, called; the law MergeKeeps.
-/
namespace Go.Proofs.Ythcllaombabpbaa
open Go.RowKit Go.Shelf
set_option linter.unusedSimpArgs false
set_option linter.unusedVariables false
namespace Mg
open Mt (Ver mayB lessB placeB VerIn verV)
open Vs (Vers At vcs VersIn)

theorem keepOk : KeepOk := by
  intro sv L T fv fl bt w hT hL hmany hF hf0 hfl
  obtain ⟨gf, lb, rfl⟩ : ∃ gf lb, sv = .func (.func gf) #[] lb := by obtain ⟨gf, lb, h, _⟩ := hT; exact ⟨gf, lb, h⟩
  refine (So6.keep0_any So6.lenOk (.func (.func gf) #[] lb) fv (.inr ⟨gf, lb, rfl⟩) fl bt w hF hfl).mono ?_
  rintro e W ⟨B3, u, rfl, hb0, hb3, hb1, ⟨a, cap, b, S, hu, hp, hs, ha, hc⟩, hlt, hbel⟩
  have hTl : ∀ k, T k → k < w.heap.size := by obtain ⟨_, _, _, _, h, _⟩ := hT; exact h
  have hTW := hT.below hbel
  have hl0 := hb0.lt
  have hl3 := hb3.lt
  have hl1 := hb1.lt
  refine ⟨_, kcT (fun k => 0 < S.length ∧ k = b) w.heap.size B3 (w.heap.size + 1) T, rfl, ⟨30, _, rfl, enters_of Try.func30 (by kernel_rfl) rfl, ?_, fun W' hW' => ?_⟩, ?_, hbel⟩
  · rintro k (((h | h | h) | h) | h)
    · omega
    · omega
    · omega
    · have := (ha h.1).2.2; have := h.2; omega
    · have := hTl k h; have := hbel.size; omega
  · refine keep1_seq 11 (by omega) _ L T hL hmany fl S hp hs hfl bt (fun k => 0 < S.length ∧ k = b) u w.heap.size B3 (w.heap.size + 1) W' (hW'.boxed (.inl (.inl (.inl rfl))) hb0) (hW'.boxed (.inl (.inl (.inr (.inl rfl)))) hb3) (hW'.boxed (.inl (.inl (.inr (.inr rfl)))) hb1) ?_ (hTW.kept (hW'.less fun k h _ => .inr h))
    exact ⟨a, cap, b, hu, fun h => ⟨(ha h).1, Nat.lt_of_lt_of_le (ha h).2.2 hW'.size, fun h => h, h, rfl⟩, fun j hj => hW'.cell (p := ⟨b, j, none⟩) (.inl (.inr ⟨by omega, rfl⟩)) (hc j hj)⟩
  · rintro k (((h | h | h) | h) | h)
    · exact .inr (by omega)
    · exact .inr (by omega)
    · exact .inr (by omega)
    · have := (ha h.1).2.1; exact .inr (by have := h.2; omega)
    · exact .inl h

theorem keepNilOk : KeepNilOk := by
  intro fv fl bt w hF hf0 hfl
  refine (So6.keep0_any So6.lenOk .nilFunc fv (.inl rfl) fl bt w hF hfl).mono ?_
  rintro e W ⟨B3, u, rfl, hb0, hb3, hb1, _, hlt, hbel⟩
  refine ⟨_, (fun k => k = w.heap.size), rfl, ⟨30, _, rfl, enters_of Try.func30 (by kernel_rfl) rfl, ?_, fun W' hW' => ?_⟩, hbel⟩
  · rintro k rfl
    exact hb0.lt
  · exact keep1_nil 11 (by omega) w.heap.size B3 (w.heap.size + 1) W' (hW'.boxed rfl hb0)

theorem mergeKeeps_law (lv fv : Value) (L : List Ver) (fl : List Int) (bt : Bool) (most : Int) (w : World) (hV : VersIn w lv L) (hF : Us w.heap.size w fv fl) (hf0 : ∀ x ∈ fl, 0 ≤ x ∧ x ≤ 18446744073709551615) (hfl : fl.length ≤ 1048576) (m0 : -9223372036854775808 ≤ most) (m1 : most ≤ 9223372036854775807) :
    Calls Try.prog 4 #[.agg #[lv, fv, .bool bt, .int .i64 most]] w fun e w' => e = .returned (.bool true) ∧ Below w.heap.size w w' :=
  mergeKeeps_walk keepOk keepNilOk lv fv L fl bt most w hV hF hf0 hfl m0 m1
end Mg
end Go.Proofs.Ythcllaombabpbaa

/-
  A call that could start goroutines and starts none: at its return nobody else is there, so whoever is there is only leaving.
-/
namespace Go.Proofs.Ythcllaombabpbaa

namespace Lv
theorem alone_leaves {P : Program} {last : Machine} {w : World} {t : Trace} (h : aloneAtReturn P last w t) : leavingAtReturn P last w t := by
  obtain ⟨⟨h1, h2⟩, h3, h4⟩ := h
  refine ⟨h3, ⟨fun g hg => ⟨0, ?_⟩, h2⟩, h4⟩
  unfold Machine.othersDone at h1
  have := List.all_eq_true.1 h1 g hg
  simpa [Goroutine.LeavesIn] using this
theorem open_leaves {a : Assume} {st : Option Stop.Interp} {C : Checked} {os : Os} {f : FuncId} {r : Reach} {okInput : Program → World → Reach → Nat → FuncId → Input → Prop} {Pre : World → Array Value → Prop} {Post : World → Array Value → Value → World → Prop} {always : Machine → Prop}
    (h : ReturnsInOpen a st C os f r okInput Pre Post (aloneAtReturn C.prog) always) : ReturnsInOpen a st C os f r okInput Pre Post (leavingAtReturn C.prog) always := by
  obtain ⟨h1, h2, h3, h4, h5⟩ := h
  refine ⟨h1, h2, h3, h4, fun w tape i hf => ?_⟩
  obtain ⟨n, v, w', k1, k2, k3, k4, ⟨j, last, e1, e2, e3⟩, k5⟩ := h5 w tape i hf
  exact ⟨n, v, w', k1, k2, k3, k4, ⟨j, last, e1, e2, alone_leaves e3⟩, k5⟩
/-- THE ROW THAT SAYS 'leaving', from the one that says that nobody else is there. -/
theorem leaving {p : Pinned} {s : OpenSpec} (c : OpenClaim) (hst : c.start = .entering) (hss : c.stops = []) (hl : c.leaving = true) (hwf : c.wf s = true) (h : OpenClaim.holds p s { c with leaving := false }) : c.holds p s := by
  obtain ⟨_, h2, h3, h4, h5, h6, h7, h8, f, fn, k1, k2, k3, k4, k5, k6, k7, k8, k9, k10, k11, k12, k13, k14, k15, k16, k17, k18, k19, k20, k21, L, hL, hform⟩ := h
  refine ⟨hwf, h2, h3, h4, h5, h6, h7, h8, f, fn, k1, k2, k3, k4, k5, k6, k7, k8, k9, k10, k11, k12, k13, k14, k15, k16, k17, k18, k19, k20, k21, L, hL, fun os hw hq H enc inj => ?_⟩
  have hf := hform os hw hq H enc inj
  unfold OpenClaim.form at hf ⊢
  simp only [hst, hss] at hf ⊢
  intro F
  have hg := hf F
  have e1 : c.atReturn p.checked.prog = leavingAtReturn p.checked.prog := by unfold OpenClaim.atReturn; rw [hl]
  rw [e1]
  exact open_leaves hg
end Lv
end Go.Proofs.Ythcllaombabpbaa
