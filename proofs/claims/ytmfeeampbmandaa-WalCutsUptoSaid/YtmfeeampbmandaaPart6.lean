import Derived.Deep.AppendLies
import Derived.Deep.RegionLaw
import Derived.Stop.RegionWithIn
import Derived.Test.YtmfeeampbmandaaPart5
/-
  The program's batches: Replay's taking of a batch, whatever the order in which its row of operations is run.
-/
namespace Go.Proofs.Ytmfeeampbmandaa
open Go.RowKit
set_option linter.unusedSimpArgs false
set_option linter.unusedVariables false
namespace Qr
theorem ready_no {md : Region.Mode} {ops : Array Oper} {listed : Array Bool} {i : Nat} (hi : i ∈ Region.ready md ops listed) : i < ops.size ∧ listed.getD i true = false := by
  obtain ⟨h1, h2⟩ := List.mem_filter.1 hi
  simp only [Bool.and_eq_true, Bool.not_eq_true'] at h2
  exact ⟨by simpa using h1, h2.1⟩
theorem ready_pre {md : Region.Mode} {ops : Array Oper} {listed : Array Bool} {i : Nat} {o : Oper} (hi : i ∈ Region.ready md ops listed) (ho : ops[i]? = some o) (j : Nat) (he : (o.after.any fun e => Region.binds md e && e.on == j) = true) : listed.getD j false = true := by
  obtain ⟨h1, h2⟩ := List.mem_filter.1 hi
  rw [ho] at h2
  simp only [Option.map_some, Option.getD_some, Bool.and_eq_true] at h2
  obtain ⟨e, he1, he2⟩ := Array.any_eq_true'.1 he
  have := Array.all_eq_true'.1 h2.2 e he1
  simp only [Bool.and_eq_true, beq_iff_eq] at he2
  obtain ⟨hb, rfl⟩ := he2
  rw [hb] at this
  simpa using this
end Qr
namespace Wd
open Wa
/-- the body of the first range over a function in a code -/
def rangeBody : Code → Option Code
  | .rangeFunc _ _ _ b => some b
  | .loop c => rangeBody c
  | .seq a b => match rangeBody a with
    | some c => some c
    | none => rangeBody b
  | .block _ c => rangeBody c
  | .scope c => rangeBody c
  | .cond _ a b => match rangeBody a with
    | some c => some c
    | none => rangeBody b
  | _ => none
noncomputable def repBody : Code := ((Try.f14.body.bind rangeBody).getD .skip)
/-- the region of that number in a code -/
def regionOf (k : Nat) : Code → Option Code
  | .region id ops b => if id = k then some (.region id ops b) else none
  | .loop c => regionOf k c
  | .seq a b => match regionOf k a with
    | some c => some c
    | none => regionOf k b
  | .block _ c => regionOf k c
  | .scope c => regionOf k c
  | .cond _ a b => match regionOf k a with
    | some c => some c
    | none => regionOf k b
  | _ => none
noncomputable def repRegion : Code := (regionOf 7 repBody).getD .skip
/-- what has been run, and what it has left -/
structure Rg (N PB pl n ocap pn pcap : Nat) (oa pa : Option Addr) (bs lv : Int) (wA : World) (G : Nat → Nat → World → Prop) (d0 d1 d2 d3 d4 d5 d6 d7 d8 d9 : Bool) (u24 u25 u26 u27 u28 u29 u30 : Value) (w : World) : Prop where
  v0 : d0 = true → u24 = .slice oa n ocap
  v1 : d1 = true → u25 = (.agg #[.int .u64 bs, .slice pa pn pcap])
  v2 : d2 = true → d1 = true ∧ u26 = .slice (some ⟨wA.heap.size, 0, none⟩) 1 1
  v4 : d4 = true → u28 = .int .i64 (pl : Int)
  v5 : d5 = true → u29 = (.agg #[.int .u64 bs, .slice pa pn pcap])
  o3 : d3 = true → d0 = true ∧ d2 = true
  o6 : d6 = true → d3 = true ∧ d5 = true ∧ u30 = .int .u64 lv
  o7 : d7 = true → d6 = true
  o8 : d8 = true → d7 = true ∧ d4 = true
  o9 : d9 = true → d8 = true
  w0 : d2 = false → w = wA.drew
  w2 : d2 = true → d3 = false → w = (wA.alloc (.cells #[.int .u64 bs, .slice pa pn pcap] 25)).drew
  w3 : d3 = true → ∃ gb cap6 w6, G gb cap6 w6 ∧ u27 = (.slice (some ⟨gb, 0, none⟩) (n + 1) cap6) ∧ (d6 = false → w = w6) ∧ (d6 = true → ∃ w7, Below w6.heap.size w6 w7 ∧ w = (if d9 then (((w7.setCell ⟨N, 0, none⟩ (.slice (some ⟨gb, 0, none⟩) (n + 1) cap6)).setCell ⟨N + 1, 0, none⟩ (.int .i64 (pl : Int))).setCell ⟨N + 1 + 1, 0, none⟩ (.int .u64 lv)) else if d8 then ((w7.setCell ⟨N, 0, none⟩ (.slice (some ⟨gb, 0, none⟩) (n + 1) cap6)).setCell ⟨N + 1, 0, none⟩ (.int .i64 (pl : Int))) else if d7 then (w7.setCell ⟨N, 0, none⟩ (.slice (some ⟨gb, 0, none⟩) (n + 1) cap6)) else w7))

set_option maxRecDepth 1000000 in
set_option maxHeartbeats 8000000 in
theorem rep_region (lr N PB pl n ocap pn pcap : Nat) (oa pa : Option Addr) (bs lv : Int) (wA : World) (G : Nat → Nat → World → Prop) {Q : Exit → Act → World → Prop} {s0 s1 s2 s3 s8 s10 s11 s12 s13 s14 s15 s16 s17 s18 s19 s20 s21 s22 s23 s31 s32 s33 s34 s35 s36 s37 s38 s39 s40 s41 s42 s43 s44 s45 s46 s47 s48 s49 s50 s51 s52 s53 s54 s55 u24 u25 u26 u27 u28 u29 u30 : Value}
    (hL : ∀ W, Calls Try.prog 30 #[(.agg #[.int .u64 bs, .slice pa pn pcap])] W fun e w' => e = .returned (.int .u64 lv) ∧ Below W.heap.size W w')
    (hN : N < wA.heap.size) (hPB : PB < wA.heap.size) (c4 : wA.cell? ⟨N, 0, none⟩ = some (.slice oa n ocap)) (x0 : wA.cell? ⟨PB, 0, none⟩ = some (.int .u64 bs)) (x1 : wA.cell? ⟨PB, 1, none⟩ = some (.slice pa pn pcap))
    (hn : n ≤ 1073741824) (base : Nat) (xs : List Value) (hrow : ((wA.alloc (.cells #[.int .u64 bs, .slice pa pn pcap] 25)).drew).ownsRow base 25 2 (.slice oa n ocap) n xs) (hbase : base ≤ wA.heap.size)
    (hG : ∀ gb cap6 w6, w6.ownsRow base 25 2 (.slice (some ⟨gb, 0, none⟩) (n + 1) cap6) (n + 1) (xs ++ [.int .u64 bs, .slice pa pn pcap]) → ((wA.alloc (.cells #[.int .u64 bs, .slice pa pn pcap] 25)).drew).grownBy w6 (Value.slice oa n ocap).ownBlock → ((Value.slice oa n ocap).ownBlock = some gb ∨ gb = wA.heap.size + 1) → G gb cap6 w6)
    (hF : ∀ gb cap6 w6, G gb cap6 w6 → (PB < w6.heap.size ∧ w6.cell? ⟨PB, 0, none⟩ = some (.int .u64 bs) ∧ w6.cell? ⟨PB, 1, none⟩ = some (.slice pa pn pcap)) ∧ ∀ w7, Below w6.heap.size w6 w7 → (N + 2 < w7.heap.size) ∧ ((∃ v, w7.cell? ⟨N, 0, none⟩ = some v) ∧ w7.frozen? ⟨N, 0, none⟩ = false) ∧ ((∃ v, w7.cell? ⟨N + 1, 0, none⟩ = some v) ∧ w7.frozen? ⟨N + 1, 0, none⟩ = false) ∧ ((∃ v, w7.cell? ⟨N + 1 + 1, 0, none⟩ = some v) ∧ w7.frozen? ⟨N + 1 + 1, 0, none⟩ = false))
    (hQ : ∀ a' gb cap6 w6 w7, G gb cap6 w6 → Below w6.heap.size w6 w7 → Q .normal a' (((w7.setCell ⟨N, 0, none⟩ (.slice (some ⟨gb, 0, none⟩) (n + 1) cap6)).setCell ⟨N + 1, 0, none⟩ (.int .i64 (pl : Int))).setCell ⟨N + 1 + 1, 0, none⟩ (.int .u64 lv))) :
    Code.wpIn (Fence.wide.inRound lr) 10 Try.prog repRegion Q { tmps := #[s0, s1, s2, s3, .pointer (some ⟨N, 0, none⟩), .pointer (some ⟨N + 1, 0, none⟩), .pointer (some ⟨N + 1 + 1, 0, none⟩), .int .i64 (pl : Int), s8, .pointer (some ⟨PB, 0, none⟩), s10, s11, s12, s13, s14, s15, s16, s17, s18, s19, s20, s21, s22, s23, u24, u25, u26, u27, u28, u29, u30, s31, s32, s33, s34, s35, s36, s37, s38, s39, s40, s41, s42, s43, s44, s45, s46, s47, s48, s49, s50, s51, s52, s53, s54, s55], defers := [] } wA := by
  conv => arg 4; whnf
  obtain ⟨i0, hi0, hz0, hz1, hz2⟩ := info_parts info_Batch
  refine wpIn_region_any (by kernel_rfl) ?_
  change wpAnyIn _ _ _ _ _ _ _ _ _ (World.drew _)
  refine Qr.any_inv (fun listed a' w' => ∃ (d0 d1 d2 d3 d4 d5 d6 d7 d8 d9 : Bool) (u24 u25 u26 u27 u28 u29 u30 : Value), listed = #[d0, d1, d2, d3, d4, d5, d6, d7, d8, d9] ∧ a' = { tmps := #[s0, s1, s2, s3, .pointer (some ⟨N, 0, none⟩), .pointer (some ⟨N + 1, 0, none⟩), .pointer (some ⟨N + 1 + 1, 0, none⟩), .int .i64 (pl : Int), s8, .pointer (some ⟨PB, 0, none⟩), s10, s11, s12, s13, s14, s15, s16, s17, s18, s19, s20, s21, s22, s23, u24, u25, u26, u27, u28, u29, u30, s31, s32, s33, s34, s35, s36, s37, s38, s39, s40, s41, s42, s43, s44, s45, s46, s47, s48, s49, s50, s51, s52, s53, s54, s55], defers := [] } ∧ Rg N PB pl n ocap pn pcap oa pa bs lv wA G d0 d1 d2 d3 d4 d5 d6 d7 d8 d9 u24 u25 u26 u27 u28 u29 u30 w')
    (fun l => l.toList.countP (fun b => !b)) ?step ?fin _ _ _ _ ?start ?few
  case start => exact ⟨false, false, false, false, false, false, false, false, false, false, u24, u25, u26, u27, u28, u29, u30, rfl, rfl, ⟨nofun, nofun, nofun, nofun, nofun, nofun, nofun, nofun, nofun, nofun, fun _ => rfl, nofun, nofun⟩⟩
  case few => exact Nat.le_refl _
  case fin =>
    rintro listed a' w' ⟨d0, d1, d2, d3, d4, d5, d6, d7, d8, d9, u24, u25, u26, u27, u28, u29, u30, rfl, rfl, R⟩ hr
    have hm := List.filter_eq_nil_iff.1 hr
    clear hr
    have e0 : d0 = true := by
      cases d0 with
      | true => rfl
      | false =>
        exact absurd (by kernel_rfl) (hm 0 (List.mem_range.2 (by decide)))
    subst e0
    have e1 : d1 = true := by
      cases d1 with
      | true => rfl
      | false =>
        exact absurd (by kernel_rfl) (hm 1 (List.mem_range.2 (by decide)))
    subst e1
    have e4 : d4 = true := by
      cases d4 with
      | true => rfl
      | false =>
        exact absurd (by kernel_rfl) (hm 4 (List.mem_range.2 (by decide)))
    subst e4
    have e5 : d5 = true := by
      cases d5 with
      | true => rfl
      | false =>
        exact absurd (by kernel_rfl) (hm 5 (List.mem_range.2 (by decide)))
    subst e5
    have e2 : d2 = true := by
      cases d2 with
      | true => rfl
      | false =>
        exact absurd (by kernel_rfl) (hm 2 (List.mem_range.2 (by decide)))
    subst e2
    have e3 : d3 = true := by
      cases d3 with
      | true => rfl
      | false =>
        exact absurd (by kernel_rfl) (hm 3 (List.mem_range.2 (by decide)))
    subst e3
    have e6 : d6 = true := by
      cases d6 with
      | true => rfl
      | false =>
        exact absurd (by kernel_rfl) (hm 6 (List.mem_range.2 (by decide)))
    subst e6
    have e7 : d7 = true := by
      cases d7 with
      | true => rfl
      | false =>
        exact absurd (by kernel_rfl) (hm 7 (List.mem_range.2 (by decide)))
    subst e7
    have e8 : d8 = true := by
      cases d8 with
      | true => rfl
      | false =>
        exact absurd (by kernel_rfl) (hm 8 (List.mem_range.2 (by decide)))
    subst e8
    have e9 : d9 = true := by
      cases d9 with
      | true => rfl
      | false =>
        exact absurd (by kernel_rfl) (hm 9 (List.mem_range.2 (by decide)))
    subst e9
    obtain ⟨gb, cap6, w6, hg, hu, hw, hx⟩ := R.w3 rfl
    obtain ⟨w7, hb7, hw7⟩ := hx rfl
    obtain rfl : w' = (((w7.setCell ⟨N, 0, none⟩ (.slice (some ⟨gb, 0, none⟩) (n + 1) cap6)).setCell ⟨N + 1, 0, none⟩ (.int .i64 (pl : Int))).setCell ⟨N + 1 + 1, 0, none⟩ (.int .u64 lv)) := hw7
    exact hQ _ gb cap6 w6 w7 hg hb7
  case step =>
    rintro listed a' w' i ⟨d0, d1, d2, d3, d4, d5, d6, d7, d8, d9, u24, u25, u26, u27, u28, u29, u30, rfl, rfl, R⟩ hi
    obtain ⟨hlt, hno⟩ := Qr.ready_no hi
    have hlt : i < 10 := hlt
    match i, hlt, hi, hno with
    | 0, _, hi, hno =>
      obtain rfl : d0 = false := hno
      have h3 : d3 = false := by cases d3 with
        | false => rfl
        | true => exact absurd (R.o3 rfl).1 (by simp)
      subst h3
      refine ⟨by simp [List.countP_cons] <;> (try omega), fun K hK => Qr.op_of_step lr rfl (by kernel_rfl) ?_⟩
      cases d2 with
      | false =>
        obtain rfl := R.w0 rfl
        go_simp
        exact hK _ _ ⟨true, d1, false, false, d4, d5, d6, d7, d8, d9, .slice oa n ocap, u25, u26, u27, u28, u29, u30, rfl, rfl, ⟨fun _ => rfl, R.v1, R.v2, R.v4, R.v5, nofun, R.o6, R.o7, R.o8, R.o9, R.w0, R.w2, R.w3⟩⟩
      | true =>
        obtain rfl := R.w2 rfl rfl
        go_simp
        exact hK _ _ ⟨true, d1, true, false, d4, d5, d6, d7, d8, d9, .slice oa n ocap, u25, u26, u27, u28, u29, u30, rfl, rfl, ⟨fun _ => rfl, R.v1, R.v2, R.v4, R.v5, nofun, R.o6, R.o7, R.o8, R.o9, R.w0, R.w2, R.w3⟩⟩
    | 1, _, hi, hno =>
      obtain rfl : d1 = false := hno
      have h2 : d2 = false := by cases d2 with
        | false => rfl
        | true => exact absurd (R.v2 rfl).1 (by simp)
      subst h2
      have h3 : d3 = false := by cases d3 with
        | false => rfl
        | true => exact absurd (R.o3 rfl).2 (by simp)
      subst h3
      refine ⟨by simp [List.countP_cons] <;> (try omega), fun K hK => Qr.op_of_step lr rfl (by kernel_rfl) ?_⟩
      obtain rfl := R.w0 rfl
      go_simp
      exact hK _ _ ⟨d0, true, false, false, d4, d5, d6, d7, d8, d9, u24, (.agg #[.int .u64 bs, .slice pa pn pcap]), u26, u27, u28, u29, u30, rfl, rfl, ⟨R.v0, fun _ => rfl, nofun, R.v4, R.v5, nofun, R.o6, R.o7, R.o8, R.o9, R.w0, nofun, nofun⟩⟩
    | 2, _, hi, hno =>
      obtain rfl : d2 = false := hno
      obtain rfl : d1 = true := Qr.ready_pre hi rfl 1 (by kernel_rfl)
      have h3 : d3 = false := by cases d3 with
        | false => rfl
        | true => exact absurd (R.o3 rfl).2 (by simp)
      subst h3
      refine ⟨by simp [List.countP_cons] <;> (try omega), fun K hK => Qr.op_of_step lr rfl (by kernel_rfl) ?_⟩
      obtain rfl := R.w0 rfl
      obtain rfl := R.v1 rfl
      go_simp
      exact hK _ _ ⟨d0, true, true, false, d4, d5, d6, d7, d8, d9, u24, _, .slice (some ⟨wA.heap.size, 0, none⟩) 1 1, u27, u28, u29, u30, rfl, rfl, ⟨R.v0, R.v1, fun _ => ⟨rfl, rfl⟩, R.v4, R.v5, nofun, R.o6, R.o7, R.o8, R.o9, nofun, fun _ _ => rfl, nofun⟩⟩
    | 3, _, hi, hno =>
      obtain rfl : d3 = false := hno
      obtain rfl : d0 = true := Qr.ready_pre hi rfl 0 (by kernel_rfl)
      obtain rfl : d2 = true := Qr.ready_pre hi rfl 2 (by kernel_rfl)
      refine ⟨by simp [List.countP_cons] <;> (try omega), fun K hK => Qr.op_of_step lr rfl (by kernel_rfl) ?_⟩
      have h6 : d6 = false := by cases d6 with
        | false => rfl
        | true => exact absurd (R.o6 rfl).1 (by simp)
      subst h6
      have h7 : d7 = false := by cases d7 with
        | false => rfl
        | true => exact absurd (R.o7 rfl) (by simp)
      subst h7
      have h8 : d8 = false := by cases d8 with
        | false => rfl
        | true => exact absurd (R.o8 rfl).1 (by simp)
      subst h8
      have h9 : d9 = false := by cases d9 with
        | false => rfl
        | true => exact absurd (R.o9 rfl) (by simp)
      subst h9
      obtain rfl := R.w2 rfl rfl
      obtain rfl := R.v0 rfl
      obtain ⟨h1, rfl⟩ := R.v2 rfl
      refine step_append_lies _ rfl _ _ _ rfl base 25 i0 _ 2 32 Try.underlying35 hi0 hz0 hz1 hz2 rfl (by omega) (.slice oa n ocap) n xs rfl hrow ⟨wA.heap.size, 0, none⟩ 1 1 [.int .u64 bs, .slice pa pn pcap] rfl rfl (World.news_of_block (cs := #[.int .u64 bs, .slice pa pn pcap]) (t := 25) (fr := (0, 0)) (heap_alloc_new wA _)) (by simp [Value.oneCell']) (by omega) (by unfold maxLen; omega) (by omega) (by simp; omega) (wA.heap.size + 1) (by simp) ?_
      intro gb cap6 w6 hown hgr hat hlt6
      exact hK _ _ ⟨true, d1, true, true, d4, d5, false, false, false, false, _, u25, _, (.slice (some ⟨gb, 0, none⟩) (n + 1) cap6), u28, u29, u30, rfl, rfl, ⟨R.v0, R.v1, R.v2, R.v4, R.v5, fun _ => ⟨rfl, rfl⟩, nofun, nofun, nofun, nofun, nofun, nofun, fun _ => ⟨gb, cap6, w6, hG gb cap6 w6 hown hgr hat, rfl, fun _ => rfl, nofun⟩⟩⟩
    | 4, _, hi, hno =>
      obtain rfl : d4 = false := hno
      refine ⟨by simp [List.countP_cons] <;> (try omega), fun K hK => Qr.op_of_step lr rfl (by kernel_rfl) ?_⟩
      have h8 : d8 = false := by cases d8 with
        | false => rfl
        | true => exact absurd (R.o8 rfl).2 (by simp)
      subst h8
      go_simp
      exact hK _ _ ⟨d0, d1, d2, d3, true, d5, d6, d7, false, d9, u24, u25, u26, u27, .int .i64 (pl : Int), u29, u30, rfl, rfl, ⟨R.v0, R.v1, R.v2, fun _ => rfl, R.v5, R.o3, R.o6, R.o7, nofun, R.o9, R.w0, R.w2, R.w3⟩⟩
    | 5, _, hi, hno =>
      obtain rfl : d5 = false := hno
      refine ⟨by simp [List.countP_cons] <;> (try omega), fun K hK => Qr.op_of_step lr rfl (by kernel_rfl) ?_⟩
      have h6 : d6 = false := by cases d6 with
        | false => rfl
        | true => exact absurd (R.o6 rfl).2.1 (by simp)
      subst h6
      cases d2 with
      | false =>
        have h3 : d3 = false := by cases d3 with
          | false => rfl
          | true => exact absurd (R.o3 rfl).2 (by simp)
        subst h3
        obtain rfl := R.w0 rfl
        go_simp
        exact hK _ _ ⟨d0, d1, false, false, d4, true, false, d7, d8, d9, u24, u25, u26, u27, u28, (.agg #[.int .u64 bs, .slice pa pn pcap]), u30, rfl, rfl, ⟨R.v0, R.v1, R.v2, R.v4, fun _ => rfl, R.o3, nofun, R.o7, R.o8, R.o9, R.w0, R.w2, R.w3⟩⟩
      | true =>
        cases d3 with
        | false =>
          obtain rfl := R.w2 rfl rfl
          go_simp
          exact hK _ _ ⟨d0, d1, true, false, d4, true, false, d7, d8, d9, u24, u25, u26, u27, u28, (.agg #[.int .u64 bs, .slice pa pn pcap]), u30, rfl, rfl, ⟨R.v0, R.v1, R.v2, R.v4, fun _ => rfl, R.o3, nofun, R.o7, R.o8, R.o9, R.w0, R.w2, R.w3⟩⟩
        | true =>
          obtain ⟨gb, cap6, w6, hg, hu, hw, hx⟩ := R.w3 rfl
          obtain rfl := hw rfl
          obtain ⟨⟨k0, k1, k2⟩, _⟩ := hF gb cap6 _ hg
          have HR := Lib.hid R
          clear R hx hw hu hF hQ hG hL
          go_simp
          exact hK _ _ ⟨d0, d1, true, true, d4, true, false, d7, d8, d9, u24, u25, u26, u27, u28, (.agg #[.int .u64 bs, .slice pa pn pcap]), u30, rfl, rfl, ⟨HR.out.v0, HR.out.v1, HR.out.v2, HR.out.v4, fun _ => rfl, HR.out.o3, nofun, HR.out.o7, HR.out.o8, HR.out.o9, HR.out.w0, HR.out.w2, HR.out.w3⟩⟩
    | 6, _, hi, hno =>
      obtain rfl : d6 = false := hno
      obtain rfl : d5 = true := Qr.ready_pre hi rfl 5 (by kernel_rfl)
      obtain rfl : d3 = true := Qr.ready_pre hi rfl 3 (by kernel_rfl)
      refine ⟨by simp [List.countP_cons] <;> (try omega), fun K hK => Qr.op_of_step lr rfl (by kernel_rfl) ?_⟩
      have h7 : d7 = false := by cases d7 with
        | false => rfl
        | true => exact absurd (R.o7 rfl) (by simp)
      subst h7
      have h8 : d8 = false := by cases d8 with
        | false => rfl
        | true => exact absurd (R.o8 rfl).1 (by simp)
      subst h8
      have h9 : d9 = false := by cases d9 with
        | false => rfl
        | true => exact absurd (R.o9 rfl) (by simp)
      subst h9
      obtain ⟨gb, cap6, w6, hg, hu, hw, hx⟩ := R.w3 rfl
      obtain rfl := hw rfl
      obtain rfl := R.v5 rfl
      have HR := Lib.hid R
      have HK := Lib.hid hK
      have HG := Lib.hid hg
      have HU := Lib.hid hu
      have HL := Lib.hid hL
      clear R hx hw hF hQ hG hL hK hg hu
      go_simp
      go_at_call 30
      refine (HL.out _).mono ?_
      rintro e w7 ⟨rfl, hb7⟩
      exact HK.out _ _ ⟨d0, d1, d2, true, d4, true, true, false, false, false, u24, u25, u26, u27, u28, _, .int .u64 lv, rfl, rfl, ⟨HR.out.v0, HR.out.v1, HR.out.v2, HR.out.v4, HR.out.v5, HR.out.o3, fun _ => ⟨rfl, rfl, rfl⟩, nofun, nofun, nofun, (fun h => absurd h (by rw [(HR.out.o3 rfl).2]; simp)), (fun _ => nofun), fun _ => ⟨gb, cap6, _, HG.out, HU.out, nofun, fun _ => ⟨w7, hb7, rfl⟩⟩⟩⟩
    | 7, _, hi, hno =>
      obtain rfl : d7 = false := hno
      obtain rfl : d6 = true := Qr.ready_pre hi rfl 6 (by kernel_rfl)
      obtain rfl : d3 = true := Qr.ready_pre hi rfl 3 (by kernel_rfl)
      refine ⟨by simp [List.countP_cons] <;> (try omega), fun K hK => Qr.op_of_step lr rfl (by kernel_rfl) ?_⟩
      have h8 : d8 = false := by cases d8 with
        | false => rfl
        | true => exact absurd (R.o8 rfl).1 (by simp)
      subst h8
      have h9 : d9 = false := by cases d9 with
        | false => rfl
        | true => exact absurd (R.o9 rfl) (by simp)
      subst h9
      obtain ⟨gb, cap6, w6, hg, rfl, hw, hx⟩ := R.w3 rfl
      obtain ⟨w7, hb7, hw7⟩ := hx rfl
      obtain rfl : w' = w7 := hw7
      obtain ⟨_, k7⟩ := hF gb cap6 _ hg
      obtain ⟨kz, ⟨⟨z0, k0⟩, f0⟩, ⟨⟨z1, k1⟩, f1⟩, ⟨z2, k2⟩, f2⟩ := k7 _ hb7
      have HR := Lib.hid R
      have HK := Lib.hid hK
      have HG := Lib.hid hg
      clear R hx hw hF hQ hG hL hK hg k7 k1 k2 f1 f2
      go_simp
      exact HK.out _ _ ⟨d0, d1, d2, true, d4, d5, true, true, false, false, u24, u25, u26, _, u28, u29, u30, rfl, rfl, ⟨HR.out.v0, HR.out.v1, HR.out.v2, HR.out.v4, HR.out.v5, HR.out.o3, HR.out.o6, fun _ => rfl, nofun, nofun, (fun h => absurd h (by rw [(HR.out.o3 rfl).2]; simp)), (fun _ => nofun), fun _ => ⟨gb, cap6, _, HG.out, rfl, nofun, fun _ => ⟨_, hb7, rfl⟩⟩⟩⟩
    | 8, _, hi, hno =>
      obtain rfl : d8 = false := hno
      obtain rfl : d7 = true := Qr.ready_pre hi rfl 7 (by kernel_rfl)
      obtain rfl : d4 = true := Qr.ready_pre hi rfl 4 (by kernel_rfl)
      obtain rfl : d6 = true := R.o7 rfl
      obtain rfl : d3 = true := (R.o6 rfl).1
      refine ⟨by simp [List.countP_cons] <;> (try omega), fun K hK => Qr.op_of_step lr rfl (by kernel_rfl) ?_⟩
      have h9 : d9 = false := by cases d9 with
        | false => rfl
        | true => exact absurd (R.o9 rfl) (by simp)
      subst h9
      obtain ⟨gb, cap6, w6, hg, hu, hw, hx⟩ := R.w3 rfl
      obtain ⟨w7, hb7, hw7⟩ := hx rfl
      obtain rfl : w' = (w7.setCell ⟨N, 0, none⟩ (.slice (some ⟨gb, 0, none⟩) (n + 1) cap6)) := hw7
      obtain rfl := R.v4 rfl
      obtain ⟨_, k7⟩ := hF gb cap6 _ hg
      obtain ⟨kz, ⟨⟨z0, k0⟩, f0⟩, ⟨⟨z1, k1⟩, f1⟩, ⟨z2, k2⟩, f2⟩ := k7 _ hb7
      have HR := Lib.hid R
      have HK := Lib.hid hK
      have HG := Lib.hid hg
      have HU := Lib.hid hu
      clear R hx hw hF hQ hG hL hK hg hu k7 k2 f2
      go_simp
      exact HK.out _ _ ⟨d0, d1, d2, true, true, d5, true, true, true, false, u24, u25, u26, u27, _, u29, u30, rfl, rfl, ⟨HR.out.v0, HR.out.v1, HR.out.v2, HR.out.v4, HR.out.v5, HR.out.o3, HR.out.o6, HR.out.o7, fun _ => ⟨rfl, rfl⟩, nofun, (fun h => absurd h (by rw [(HR.out.o3 rfl).2]; simp)), (fun _ => nofun), fun _ => ⟨gb, cap6, _, HG.out, HU.out, nofun, fun _ => ⟨_, hb7, rfl⟩⟩⟩⟩
    | 9, _, hi, hno =>
      obtain rfl : d9 = false := hno
      obtain rfl : d8 = true := Qr.ready_pre hi rfl 8 (by kernel_rfl)
      obtain ⟨rfl, rfl⟩ : d7 = true ∧ d4 = true := R.o8 rfl
      obtain rfl : d6 = true := R.o7 rfl
      obtain ⟨rfl, rfl, rfl⟩ := R.o6 rfl
      refine ⟨by simp [List.countP_cons] <;> (try omega), fun K hK => Qr.op_of_step lr rfl (by kernel_rfl) ?_⟩
      obtain ⟨gb, cap6, w6, hg, hu, hw, hx⟩ := R.w3 rfl
      obtain ⟨w7, hb7, hw7⟩ := hx rfl
      obtain rfl : w' = ((w7.setCell ⟨N, 0, none⟩ (.slice (some ⟨gb, 0, none⟩) (n + 1) cap6)).setCell ⟨N + 1, 0, none⟩ (.int .i64 (pl : Int))) := hw7
      obtain ⟨_, k7⟩ := hF gb cap6 _ hg
      obtain ⟨kz, ⟨⟨z0, k0⟩, f0⟩, ⟨⟨z1, k1⟩, f1⟩, ⟨z2, k2⟩, f2⟩ := k7 _ hb7
      have HR := Lib.hid R
      have HK := Lib.hid hK
      have HG := Lib.hid hg
      have HU := Lib.hid hu
      clear R hx hw hF hQ hG hL hK hg hu k7
      go_simp
      exact HK.out _ _ ⟨d0, d1, d2, true, true, true, true, true, true, true, u24, u25, u26, u27, u28, u29, _, rfl, rfl, ⟨HR.out.v0, HR.out.v1, HR.out.v2, HR.out.v4, HR.out.v5, HR.out.o3, HR.out.o6, HR.out.o7, HR.out.o8, fun _ => rfl, (fun h => absurd h (by rw [(HR.out.o3 rfl).2]; simp)), (fun _ => nofun), fun _ => ⟨gb, cap6, _, HG.out, HU.out, nofun, fun _ => ⟨_, hb7, rfl⟩⟩⟩⟩
end Wd
end Go.Proofs.Ytmfeeampbmandaa

/-
  The program's batches: Replay.
-/
namespace Go.Proofs.Ytmfeeampbmandaa
open Go.RowKit
set_option linter.unusedSimpArgs false
set_option linter.unusedVariables false
attribute [local go_sem] Oper.semAt_some
namespace Wd
open Wa
/-- amid Replay: the three boxes, the batches' rows; none of them is the iterator's -/
structure RI (N : Nat) (LV : List (Bt × Value)) (lv : Value) (at' : Nat) (q : Int) (R : Sq.Blocks) (X : World) : Prop where
  row : X.ownsRow (N + 4) 25 2 lv LV.length (bCells LV) ∧ ∀ g, lv.ownBlock = some g → ¬ R g
  puts : ∀ x ∈ LV, OwnP (N + 4) X x.2 x.1.2.1 ∧ ∀ g, x.2.ownBlock = some g → ¬ R g
  bl : Boxed X N 35 lv ∧ ¬ R N
  ba : Boxed X (N + 1) 3 (.int .i64 (at' : Int)) ∧ ¬ R (N + 1)
  bs : Boxed X (N + 2) 22 (.int .u64 q) ∧ ¬ R (N + 2)
  sz : N + 4 ≤ X.heap.size
theorem RI.step {N : Nat} {LV : List (Bt × Value)} {lv : Value} {at' : Nat} {q : Int} {R R' : Sq.Blocks} {X X' : World} (h : RI N LV lv at' q R X) (st : Sq.Step R R' X X') : RI N LV lv at' q R' X' :=
  ⟨Sq.Steady.row (β := Unit) (N + 4) 25 2 (fun _ => lv) (fun _ => LV.length) (fun _ => bCells LV) R R' () X X' h.row st,
    fun x hx => Sq.Steady.row (β := Unit) (N + 4) 42 3 (fun _ => x.2) (fun _ => x.1.2.1.length) (fun _ => pCells x.1.2.1) R R' () X X' (h.puts x hx) st,
    Sq.Steady.box (β := Unit) N 35 (fun _ => lv) R R' () X X' h.bl st,
    Sq.Steady.box (β := Unit) (N + 1) 3 (fun _ => .int .i64 (at' : Int)) R R' () X X' h.ba st,
    Sq.Steady.box (β := Unit) (N + 2) 22 (fun _ => .int .u64 q) R R' () X X' h.bs st, Nat.le_trans h.sz st.kept.size⟩
/-- what stands behind a round that has taken a batch -/
theorem RI.more {N : Nat} {LV : List (Bt × Value)} {lv pv : Value} {at' pl gb cap6 : Nat} {q q' bs : Int} {bp : List Pt} {R : Sq.Blocks} {X w1 w6 w7 : World} {o1 o2 : Go.Obj} (h : RI N LV lv at' q R X) (hR : ∀ k, R k → N + 4 ≤ k ∧ k < X.heap.size) (hN : N + 4 ≤ X.heap.size)
    (hb1 : Below X.heap.size X w1) (hOP : OwnP X.heap.size w1 pv bp) (hO6 : w6.ownsRow (N + 4) 25 2 (.slice (some ⟨gb, 0, none⟩) (LV.length + 1) cap6) (LV.length + 1) (bCells LV ++ [.int .u64 bs, pv]))
    (hg6 : (((w1.alloc o1).alloc o2).drew).grownBy w6 lv.ownBlock) (hat : lv.ownBlock = some gb ∨ gb = (w1.alloc o1).heap.size + 1) (hb7 : Below w6.heap.size w6 w7) :
    Sq.Kept (fun k => R k ∨ k = N + 3) X (((w7.setCell ⟨N, 0, none⟩ (.slice (some ⟨gb, 0, none⟩) (LV.length + 1) cap6)).setCell ⟨N + 1, 0, none⟩ (.int .i64 (pl : Int))).setCell ⟨N + 1 + 1, 0, none⟩ (.int .u64 q')) ∧
    Sq.Kept (fun k => k < N) X (((w7.setCell ⟨N, 0, none⟩ (.slice (some ⟨gb, 0, none⟩) (LV.length + 1) cap6)).setCell ⟨N + 1, 0, none⟩ (.int .i64 (pl : Int))).setCell ⟨N + 1 + 1, 0, none⟩ (.int .u64 q')) ∧
    RI N (LV ++ [((bs, bp, ()), pv)]) (.slice (some ⟨gb, 0, none⟩) (LV.length + 1) cap6) pl q' R (((w7.setCell ⟨N, 0, none⟩ (.slice (some ⟨gb, 0, none⟩) (LV.length + 1) cap6)).setCell ⟨N + 1, 0, none⟩ (.int .i64 (pl : Int))).setCell ⟨N + 1 + 1, 0, none⟩ (.int .u64 q')) := by
  have hrow : ∀ g, lv.ownBlock = some g → N + 4 ≤ g ∧ g < X.heap.size := fun g hg => Ob.row_lt h.row.1 hg
  have hz1 := hb1.size
  have hgb : N + 4 ≤ gb := (Ob.row_lt hO6 (show (Value.slice (some ⟨gb, 0, none⟩) (LV.length + 1) cap6).ownBlock = some gb from rfl)).1
  have hgR : ¬ R gb := by
    rcases hat with e | e
    · exact h.row.2 gb e
    · intro hr
      have := (hR gb hr).2
      simp at e
      omega
  have kA : ∀ T : Sq.Blocks, Sq.Kept T X ((w1.alloc o1).alloc o2).drew := fun T => (((Sq.Kept.of_below hb1).trans (Sq.Kept.alloc _ _ _)).trans (Sq.Kept.alloc _ _ _)).trans (Sq.Kept.drew _ _)
  have k7 : ∀ T : Sq.Blocks, (∀ g, lv.ownBlock = some g → ¬ T g) → Sq.Kept T X w7 := fun T hT => ((kA T).trans (Sq.Kept.grown hg6 (fun r hr => hT r hr))).trans (Sq.Kept.of_below hb7)
  have kW : ∀ T : Sq.Blocks, (∀ g, lv.ownBlock = some g → ¬ T g) → ¬ T N → ¬ T (N + 1) → ¬ T (N + 2) → Sq.Kept T X (((w7.setCell ⟨N, 0, none⟩ (.slice (some ⟨gb, 0, none⟩) (LV.length + 1) cap6)).setCell ⟨N + 1, 0, none⟩ (.int .i64 (pl : Int))).setCell ⟨N + 1 + 1, 0, none⟩ (.int .u64 q')) := fun T hT h0 h1 h2 =>
    (((k7 T hT).trans (Sq.Kept.setCell _ _ h0)).trans (Sq.Kept.setCell _ _ h1)).trans (Sq.Kept.setCell _ _ h2)
  have hbox : ∀ k t v, Boxed X k t v → k < N + 4 → Ob.Obj w7 k t [v] := fun k t v hb hk => Ob.Obj.kept (T := fun j => j = k) hb (k7 _ (fun g hg e => by have := (hrow g hg).1; omega)) rfl
  have o0 := hbox _ _ _ h.bl.1 (by omega)
  have o1' := hbox _ _ _ h.ba.1 (by omega)
  have o2' := hbox _ _ _ h.bs.1 (by omega)
  refine ⟨kW _ ?_ ?_ ?_ ?_, kW _ ?_ ?_ ?_ ?_, ⟨⟨?_, ?_⟩, ?_, ⟨?_, h.bl.2⟩, ⟨?_, h.ba.2⟩, ⟨?_, h.bs.2⟩, Nat.le_trans h.sz (kW (fun _ => False) (fun _ _ h => h) (fun h => h) (fun h => h) (fun h => h)).size⟩⟩
  · rintro g hg (e | e)
    · exact h.row.2 g hg e
    · have := (hrow g hg).1; omega
  · rintro (e | e)
    · exact h.bl.2 e
    · omega
  · rintro (e | e)
    · exact h.ba.2 e
    · omega
  · rintro (e | e)
    · exact h.bs.2 e
    · omega
  · intro g hg e; have := (hrow g hg).1; omega
  · simp
  · simp
  · simp
  · have r7 := own_below hO6 hb7
    rw [bCells_snoc, List.length_append, List.length_singleton]
    exact Ob.row_other (Ob.row_other (Ob.row_other r7 (p := ⟨N, 0, none⟩) (by simp [Value.ownBlock]; omega) _) (p := ⟨N + 1, 0, none⟩) (by simp [Value.ownBlock]; omega) _) (p := ⟨N + 1 + 1, 0, none⟩) (by simp [Value.ownBlock]; omega) _
  · intro g hg
    obtain rfl : gb = g := by simpa [Value.ownBlock] using hg
    exact hgR
  · have hset : ∀ (u : Value) (L : List Pt), OwnP (N + 4) w7 u L → OwnP (N + 4) (((w7.setCell ⟨N, 0, none⟩ (.slice (some ⟨gb, 0, none⟩) (LV.length + 1) cap6)).setCell ⟨N + 1, 0, none⟩ (.int .i64 (pl : Int))).setCell ⟨N + 1 + 1, 0, none⟩ (.int .u64 q')) u L := fun u L hu => by
      have hu1 : ∀ g, u.ownBlock = some g → N + 4 ≤ g := fun g hg => (Ob.row_lt hu hg).1
      exact Ob.row_other (Ob.row_other (Ob.row_other hu (p := ⟨N, 0, none⟩) (fun e => absurd (show N + 4 ≤ N from hu1 _ e) (by omega)) _) (p := ⟨N + 1, 0, none⟩) (fun e => absurd (show N + 4 ≤ N + 1 from hu1 _ e) (by omega)) _) (p := ⟨N + 1 + 1, 0, none⟩) (fun e => absurd (show N + 4 ≤ N + 1 + 1 from hu1 _ e) (by omega)) _
    have hold : (((w1.alloc o1).alloc o2).drew).ownsRow (N + 4) 25 2 lv LV.length (bCells LV) := Sq.row_kept h.row.1 (kA (fun _ => True)) (fun _ _ => trivial)
    have hput : ∀ (u : Value) (L : List Pt) (W : World), OwnP (N + 4) W u L → Sq.Kept (fun _ => True) W ((w1.alloc o1).alloc o2).drew → OwnP (N + 4) w7 u L := fun u L W hu hk => by
      have hu2 : OwnP (N + 4) (((w1.alloc o1).alloc o2).drew) u L := Sq.row_kept hu hk (fun _ _ => trivial)
      have hu3 : OwnP (N + 4) w6 u L := Sq.row_kept (T := fun k => u.ownBlock = some k) hu2 (Sq.Kept.grown hg6 (fun r hr hn => Ob.rows_apart hu2 hold (by decide) r hn hr)) (fun _ hk => hk)
      exact own_below hu3 hb7
    intro x hx
    rcases List.mem_append.1 hx with hx | hx
    · exact ⟨hset _ _ (hput _ _ X (h.puts x hx).1 (kA _)), (h.puts x hx).2⟩
    · simp only [List.mem_singleton] at hx
      subst hx
      refine ⟨hset _ _ (hput _ _ w1 (OwnP.lower hOP hN) (((Sq.Kept.alloc _ _ _).trans (Sq.Kept.alloc _ _ _)).trans (Sq.Kept.drew _ _))), fun g hg hr => ?_⟩
      have := (Ob.row_lt hOP hg).1
      have := (hR g hr).2
      omega
  · exact Ob.Obj.other (Ob.Obj.other (o0.set 0 (.slice (some ⟨gb, 0, none⟩) (LV.length + 1) cap6)) (p := ⟨N + 1, 0, none⟩) (by show N ≠ N + 1; omega) _) (p := ⟨N + 1 + 1, 0, none⟩) (by show N ≠ N + 1 + 1; omega) _
  · exact Ob.Obj.other ((Ob.Obj.other o1' (p := ⟨N, 0, none⟩) (by show N + 1 ≠ N; omega) (.slice (some ⟨gb, 0, none⟩) (LV.length + 1) cap6)).set 0 (.int .i64 (pl : Int))) (p := ⟨N + 1 + 1, 0, none⟩) (by show N + 1 ≠ N + 1 + 1; omega) _
  · exact (Ob.Obj.other (Ob.Obj.other o2' (p := ⟨N, 0, none⟩) (by show N + 2 ≠ N; omega) (.slice (some ⟨gb, 0, none⟩) (LV.length + 1) cap6)) (p := ⟨N + 1, 0, none⟩) (by show N + 2 ≠ N + 1; omega) (.int .i64 (pl : Int))).set 0 (.int .u64 q')
def rpI (N : Nat) (w : World) (R : Sq.Blocks) (pre : List (Nat × Fm)) (X : World) : Prop :=
  (∃ (LV : List (Bt × Value)) (lv : Value) (at' : Nat) (q : Int), run pre ([], 0, 0) = some (LV.map (·.1), at', q) ∧ (0 ≤ q ∧ q ≤ 1125899906842624) ∧ RI N LV lv at' q R X) ∧ (Sq.Kept (fun k => k < N) w X ∧ ∀ k, k < N → k < w.heap.size → ¬ R k)
theorem _root_.Go.Below.heap_of {B k : Nat} {W W' : World} {o : Go.Obj} (h : Below B W W') (hk : k < B) (ho : W.heap[k]? = some o) : W'.heap[k]? = some o := (h.block k hk).trans ho
theorem rpI_steady (N : Nat) (w : World) : Sq.Steady (rpI N w) := fun R R' s X X' ⟨⟨LV, lv, at', q, h1, h2, h3⟩, h4⟩ st =>
  ⟨⟨LV, lv, at', q, h1, h2, h3.step st⟩, Sq.Steady.kept (β := Unit) (fun k => k < N) w R R' () X X' h4 st⟩
/-- where the walk is left: the last frame is none of a batch -/
def rpX (l : List UInt8) (N : Nat) (w : World) (c : Code) (R : Sq.Blocks) (_ : List (Nat × Fm)) (X : World) : Prop :=
  c = .exit 0 ∧ (∃ (LV : List (Bt × Value)) (lv : Value) (at' : Nat) (q : Int), Fin l (LV.map (·.1)) at' ∧ RI N LV lv at' q R X) ∧ (Sq.Kept (fun k => k < N) w X ∧ ∀ k, k < N → k < w.heap.size → ¬ R k)
theorem rpX_steady (l : List UInt8) (N : Nat) (w : World) (c : Code) : Sq.Steady (rpX l N w c) := fun R R' s X X' ⟨h0, ⟨LV, lv, at', q, h1, h3⟩, h4⟩ st =>
  ⟨h0, ⟨LV, lv, at', q, h1, h3.step st⟩, Sq.Steady.kept (β := Unit) (fun k => k < N) w R R' () X X' h4 st⟩

set_option maxRecDepth 1000000 in
set_option maxHeartbeats 8000000 in
theorem rep_body (l : List UInt8) (lr : Nat) (R : Sq.Blocks) (pre : List (Nat × Fm)) (x : Nat × Fm) (X w0 : World) (N Bf : Nat) {s1 s2 s3 s9 s10 s11 s12 s13 s14 s15 s16 s17 s18 s19 s20 s21 s22 s23 s24 s25 s26 s27 s28 s29 s30 s31 s32 s33 s34 s35 s36 s37 s38 s39 s40 s41 s42 s43 s44 s45 s46 s47 s48 s49 s50 s51 s52 s53 s54 s55 : Value}
    (hI : rpI N w0 R pre X) (hsp : pre ++ [x] <+: (Fr.all l).1) (hl : l.length ≤ 1073741824) (hlr : R lr) (hbd : ∀ k, R k → N + 4 ≤ k ∧ k < X.heap.size) (hBf : N + 4 ≤ Bf) (hnf : ¬ R Bf)
    (hf : X.heap[Bf]? = some (.cells #[.int .u8 (x.2.1.toNat : Int), .string (Cd.bs x.2.2)] 47 (0, 0))) :
    Code.wpIn (Fence.wide.inRound lr) 10 Try.prog repBody (Sq.post (· = N + 3) (rpI N w0) (rpX l N w0) R (pre ++ [x]) X) { tmps := #[.string (Cd.bs l), s1, s2, s3, .pointer (some ⟨N, 0, none⟩), .pointer (some ⟨N + 1, 0, none⟩), .pointer (some ⟨N + 1 + 1, 0, none⟩), .int .i64 (x.1 : Int), .pointer (some ⟨Bf, 0, none⟩), s9, s10, s11, s12, s13, s14, s15, s16, s17, s18, s19, s20, s21, s22, s23, s24, s25, s26, s27, s28, s29, s30, s31, s32, s33, s34, s35, s36, s37, s38, s39, s40, s41, s42, s43, s44, s45, s46, s47, s48, s49, s50, s51, s52, s53, s54, s55], defers := [] } X := by
  conv => arg 4; whnf
  obtain ⟨⟨LV, lv, at', q, hrun, ⟨hq0, hq1⟩, hRI⟩, hKp⟩ := hI
  have hcf0 : X.cell? ⟨Bf, 0, none⟩ = some (.int .u8 (x.2.1.toNat : Int)) := by simp [World.cell?, hf]
  have hcf1 : X.cell? ⟨Bf, 1, none⟩ = some (.string (Cd.bs x.2.2)) := by simp [World.cell?, hf]
  have hxin : x ∈ (Fr.all l).1 := (List.IsPrefix.subset hsp) (by simp)
  have hfacts := (allGo_facts l 0 (Nat.zero_le _)).2.1 x hxin
  have HDO := fun W => decOk x.2.2 W (by omega)
  have hstop : st1 (LV.map (·.1), at', q) x = none → Fin l (LV.map (·.1)) at' := fun h => fin_stop hsp hrun h
  have hgo : ∀ b, (if x.2.1 = 2 then Wa.decode x.2.2 else none) = some b → q < b.1 → run (pre ++ [x]) ([], 0, 0) = some (LV.map (·.1) ++ [b], x.1, Wa.last b) := fun b h1 h2 => by
    rw [run_snoc, hrun]
    show st1 _ x = _
    unfold st1
    rw [h1]
    simp only
    rw [if_pos h2]
  have hst1 : ((if x.2.1 = 2 then Wa.decode x.2.2 else none) = none ∨ ∃ b, (if x.2.1 = 2 then Wa.decode x.2.2 else none) = some b ∧ ¬ q < b.1) → st1 (LV.map (·.1), at', q) x = none := fun h => by
    unfold st1
    rcases h with h | ⟨b, h, h2⟩
    · rw [h]
    · rw [h]; simp only; rw [if_neg h2]
  have hLN : LV.length ≤ 1073741824 := by have := run_len pre hrun; have h2 := hsp.length_le; have h3 := (allGo_facts l 0 (Nat.zero_le _)).1; rw [show (Fr.allGo l 0).1 = (Fr.all l).1 from rfl] at h3; simp at this h2; omega
  have hcs := hRI.bs.1.cell
  have HBD := Lib.hid hbd
  have hN4 : N + 4 ≤ X.heap.size := by have := hbd lr hlr; omega
  obtain ⟨oa, ocap, rfl, _⟩ := Sq.row_cases hRI.row.1
  have HRI := Lib.hid hRI
  have HKp := Lib.hid hKp
  have HNF := Lib.hid hnf
  have hBfx : Bf < X.heap.size := (Array.getElem?_eq_some_iff.1 hf).1
  have HF := Lib.hid hf
  have HEX : Hid (∀ W1 o, Below X.heap.size X W1 → Fin l (LV.map (·.1)) at' → Sq.Kept (fun k => R k ∨ k = N + 3) X (W1.alloc o) ∧ rpX l N w0 (.exit 0) R (pre ++ [x]) (W1.alloc o)) := fun W1 o hb hfin => by
    have st : Sq.Step R R X (W1.alloc o) := (Sq.Step.below hb).trans (Sq.Step.alloc0 _ _ _)
    exact ⟨(Sq.Kept.of_below hb).trans (Sq.Kept.alloc _ _ _), rfl, ⟨LV, _, at', q, hfin, hRI.step st⟩, Sq.Steady.kept (β := Unit) (fun k => k < N) w0 R R () X _ hKp st⟩
  have hbx : N + 3 < X.heap.size := by have := (hbd lr hlr); omega
  clear hRI hKp hnf hf hsp hrun hbd
  obtain ⟨pl, kd, ld⟩ := x
  simp only at *
  cases hd : Wa.decode ld with
  | none =>
    have HFN := Lib.hid (hstop (hst1 (.inl (by rw [hd]; split <;> rfl))))
    have HD0 := Lib.hid (fun W => show Calls Try.prog 12 #[.string (Cd.bs ld)] W fun e w' => e = .returned (.tuple #[.agg #[.int .u64 0, .slice none 0 0], .int .i64 3]) ∧ Below W.heap.size W w' from by have := HDO W; rw [hd] at this; exact this)
    clear hstop hgo hst1 HDO hd
    by_cases hk2 : kd.toNat = 2
    · have hkb : (((kd.toNat : Nat) : Int) != 2) = false := by simp; omega
      clear hk2
      gi_wp2_with (refine ⟨trivial, ?_⟩; gi_at_call 12; refine (CallsIn.inRound lr (callsIn_wide.2 (HD0.out _))).mono ?_; rintro e w1 ⟨rfl, hb1⟩; have ff := (Below.heap_of (k := Bf) hb1 hBfx HF.out); have hcf := (show w1.cell? ⟨Bf, 0, none⟩ = some (.int .u8 (kd.toNat : Int)) by simp [World.cell?, ff]); have hfl := (show Bf < w1.heap.size from Nat.lt_of_lt_of_le hBfx hb1.size))
      exact HEX.out _ _ hb1 HFN.out
    · have hkb : (((kd.toNat : Nat) : Int) != 2) = true := by simp; omega
      clear hk2
      gi_wp2_with (refine ⟨trivial, ?_⟩; gi_at_call 12; refine (CallsIn.inRound lr (callsIn_wide.2 (HD0.out _))).mono ?_; rintro e w1 ⟨rfl, hb1⟩; have ff := (Below.heap_of (k := Bf) hb1 hBfx HF.out); have hcf := (show w1.cell? ⟨Bf, 0, none⟩ = some (.int .u8 (kd.toNat : Int)) by simp [World.cell?, ff]); have hfl := (show Bf < w1.heap.size from Nat.lt_of_lt_of_le hBfx hb1.size))
      exact HEX.out _ _ hb1 HFN.out
  | some b =>
    obtain ⟨bs, bp, _⟩ := b
    obtain ⟨r1, r2, r3, r4, r5⟩ := (decode_iff.1 hd).1
    simp only at r1 r2 r3 r4 r5
    have r6 := (check_ok r1).1
    have hM : (MaxSeq : Nat) = 1125899906842624 := rfl
    rw [hM] at r4 r5
    have HD1 := Lib.hid (fun W => show Calls Try.prog 12 #[.string (Cd.bs ld)] W fun e w' => ∃ v, e = .returned (.tuple #[.agg #[.int .u64 bs, v], .int .i64 0]) ∧ OwnP W.heap.size w' v bp ∧ Below W.heap.size W w' from by have := HDO W; rw [hd] at this; exact this)
    have hlast : Wa.last (bs, bp, ()) = bs + bp.length - 1 := rfl
    by_cases hk2 : kd.toNat = 2
    · have hkd : kd = 2 := by apply UInt8.toNat_inj.1; simpa using hk2
      have hkb : (((kd.toNat : Nat) : Int) != 2) = false := by simp; omega
      by_cases hqs : q < bs
      · have HGO := Lib.hid (hgo (bs, bp, ()) (by rw [if_pos hkd]; exact hd) hqs)
        have hqi : decide (bs ≤ q) = false := by simp; omega
        have hqi2 : ¬ bs ≤ q := by omega
        have HLS := Lib.hid (fun W a cap => last_any bs bp a cap W r3 r4 (by omega))
        clear hstop hgo hst1 HDO hd hk2 hkd hlast hM
        gi_wp2_with (refine ⟨trivial, ?_⟩; gi_at_call 12; refine (CallsIn.inRound lr (callsIn_wide.2 (HD1.out _))).mono ?_; rintro e w1 ⟨pv, rfl, hOP, hb1⟩; obtain ⟨pa, pcap, rfl, _⟩ := Sq.row_cases (show w1.ownsRow _ 42 3 pv bp.length (pCells bp) from hOP); have HOP := Lib.hid hOP; clear hOP; have ff := (Below.heap_of (k := Bf) hb1 hBfx HF.out); have hcf := (show w1.cell? ⟨Bf, 0, none⟩ = some (.int .u8 (kd.toNat : Int)) by simp [World.cell?, ff]); have hfl := (show Bf < w1.heap.size from Nat.lt_of_lt_of_le hBfx hb1.size); have hcs1 := (hb1.cell (p := ⟨N + 1 + 1, 0, none⟩) (by show N + 1 + 1 < _; omega)).trans hcs; have hz2 := (show N + 1 + 1 < w1.heap.size by have := hb1.size; omega); have hz1 := (show N + 3 < w1.heap.size from Nat.lt_of_lt_of_le hbx hb1.size); clear ff)
        have hNX : N < X.heap.size := by omega
        clear hcf0 hcf1 hcf hcs1 hkb hqs hqi hqi2 HD1 HF HEX hfl hl HNF hz2 hbx hBfx hcs
        have hz1 := hb1.size
        have px0 := Ob.Obj.new w1 25 [.int .u64 bs, .slice pa bp.length pcap]
        have bl0 : Ob.Obj (w1.alloc (.cells #[.int .u64 bs, .slice pa bp.length pcap] 25)) N 35 [.slice oa LV.length ocap] := ((Sq.Kept.of_below (T := fun _ => True) hb1).boxed trivial HRI.out.bl.1).alloc (.cells #[.int .u64 bs, .slice pa bp.length pcap] 25)
        have ba0 : Ob.Obj (w1.alloc (.cells #[.int .u64 bs, .slice pa bp.length pcap] 25)) (N + 1) 3 [.int .i64 (at' : Int)] := ((Sq.Kept.of_below (T := fun _ => True) hb1).boxed trivial HRI.out.ba.1).alloc (.cells #[.int .u64 bs, .slice pa bp.length pcap] 25)
        have bs0 : Ob.Obj (w1.alloc (.cells #[.int .u64 bs, .slice pa bp.length pcap] 25)) (N + 2) 22 [.int .u64 q] := ((Sq.Kept.of_below (T := fun _ => True) hb1).boxed trivial HRI.out.bs.1).alloc (.cells #[.int .u64 bs, .slice pa bp.length pcap] 25)
        have hrow : ((w1.alloc (.cells #[.int .u64 bs, .slice pa bp.length pcap] 25)).alloc (.cells #[.int .u64 bs, .slice pa bp.length pcap] 25)).drew.ownsRow (N + 4) 25 2 (.slice oa LV.length ocap) LV.length (bCells LV) := own_below (own_below (own_below (own_below HRI.out.row.1 hb1) ((Below.refl _ _).alloc (Nat.le_refl _) _)) ((Below.refl _ _).alloc (Nat.le_refl _) _)) (Below.refl _ _).drew
        have hnb : ∀ g, (Value.slice oa LV.length ocap).ownBlock = some g → N + 4 ≤ g ∧ g < X.heap.size := fun g hg => Ob.row_lt HRI.out.row.1 hg
        show Code.wpIn _ _ _ repRegion _ _ _
        refine rep_region (s0 := .string (Cd.bs l)) (s1 := s1) (s2 := s2) (s3 := s3) lr N w1.heap.size pl LV.length ocap bp.length pcap oa pa bs (bs + bp.length - 1) (w1.alloc (.cells #[.int .u64 bs, .slice pa bp.length pcap] 25))
          (fun gb cap6 w6 => w6.ownsRow (N + 4) 25 2 (.slice (some ⟨gb, 0, none⟩) (LV.length + 1) cap6) (LV.length + 1) (bCells LV ++ [.int .u64 bs, .slice pa bp.length pcap]) ∧ (((w1.alloc (.cells #[.int .u64 bs, .slice pa bp.length pcap] 25)).alloc (.cells #[.int .u64 bs, .slice pa bp.length pcap] 25)).drew).grownBy w6 (Value.slice oa LV.length ocap).ownBlock ∧ ((Value.slice oa LV.length ocap).ownBlock = some gb ∨ gb = (w1.alloc (.cells #[.int .u64 bs, .slice pa bp.length pcap] 25)).heap.size + 1))
          (fun W => HLS.out W pa pcap) (by simp; omega) (by simp) (bl0.cell 0) (px0.cell 0) (px0.cell 1) hLN (N + 4) (bCells LV) hrow (by simp; omega) (fun gb cap6 w6 h1 h2 h3 => ⟨h1, h2, h3⟩)
          (fun gb cap6 w6 hG => by
            have pg := Ob.Obj.grown ((px0.alloc (.cells #[.int .u64 bs, .slice pa bp.length pcap] 25)).drew) hG.2.1 (fun e => by have := (hnb _ e).2; omega)
            have g0 := Ob.Obj.grown ((bl0.alloc (.cells #[.int .u64 bs, .slice pa bp.length pcap] 25)).drew) hG.2.1 (fun e => by have := (hnb _ e).1; omega)
            have g1 := Ob.Obj.grown ((ba0.alloc (.cells #[.int .u64 bs, .slice pa bp.length pcap] 25)).drew) hG.2.1 (fun e => by have := (hnb _ e).1; omega)
            have g2 := Ob.Obj.grown ((bs0.alloc (.cells #[.int .u64 bs, .slice pa bp.length pcap] 25)).drew) hG.2.1 (fun e => by have := (hnb _ e).1; omega)
            refine ⟨⟨pg.lt, pg.cell 0, pg.cell 1⟩, fun w7 hb7 => ⟨(g2.below hb7).lt, ⟨⟨_, (g0.below hb7).cell 0⟩, (g0.below hb7).frozen 0⟩, ⟨⟨_, (g1.below hb7).cell 0⟩, (g1.below hb7).frozen 0⟩, ⟨_, (g2.below hb7).cell 0⟩, (g2.below hb7).frozen 0⟩⟩)
          ?_
        intro a' gb cap6 w6 w7 hG hb7
        obtain ⟨m1, m2, m3⟩ := HRI.out.more (pl := pl) (q' := bs + bp.length - 1) (bs := bs) HBD.out hN4 hb1 HOP.out hG.1 hG.2.1 hG.2.2 hb7
        refine ⟨m1, ⟨LV ++ [((bs, bp, ()), .slice pa bp.length pcap)], _, pl, bs + bp.length - 1, ?_, by omega, m3⟩, HKp.out.1.trans m2, HKp.out.2⟩
        rw [List.map_append]
        exact HGO.out
      · have HFN := Lib.hid (hstop (hst1 (.inr ⟨(bs, bp, ()), by rw [if_pos hkd]; exact hd, hqs⟩)))
        have hqi : decide (bs ≤ q) = true := by simp; omega
        have hqi2 : bs ≤ q := by omega
        clear hstop hgo hst1 HDO hd hk2 hkd hlast hM hqs
        gi_wp2_with (refine ⟨trivial, ?_⟩; gi_at_call 12; refine (CallsIn.inRound lr (callsIn_wide.2 (HD1.out _))).mono ?_; rintro e w1 ⟨pv, rfl, hOP, hb1⟩; obtain ⟨pa, pcap, rfl, _⟩ := Sq.row_cases (show w1.ownsRow _ 42 3 pv bp.length (pCells bp) from hOP); have HOP := Lib.hid hOP; clear hOP; have ff := (Below.heap_of (k := Bf) hb1 hBfx HF.out); have hcf := (show w1.cell? ⟨Bf, 0, none⟩ = some (.int .u8 (kd.toNat : Int)) by simp [World.cell?, ff]); have hfl := (show Bf < w1.heap.size from Nat.lt_of_lt_of_le hBfx hb1.size); have hcs1 := (hb1.cell (p := ⟨N + 1 + 1, 0, none⟩) (by show N + 1 + 1 < _; omega)).trans hcs; have hz2 := (show N + 1 + 1 < w1.heap.size by have := hb1.size; omega); have hz1 := (show N + 3 < w1.heap.size from Nat.lt_of_lt_of_le hbx hb1.size); clear ff)
        exact HEX.out _ _ hb1 HFN.out
    · have HFN := Lib.hid (hstop (hst1 (.inl (by rw [if_neg (fun h => hk2 (by rw [h]; rfl))]))))
      have hkb : (((kd.toNat : Nat) : Int) != 2) = true := by simp; omega
      clear hstop hgo hst1 HDO hd hk2 hlast hM
      gi_wp2_with (refine ⟨trivial, ?_⟩; gi_at_call 12; refine (CallsIn.inRound lr (callsIn_wide.2 (HD1.out _))).mono ?_; rintro e w1 ⟨pv, rfl, hOP, hb1⟩; obtain ⟨pa, pcap, rfl, _⟩ := Sq.row_cases (show w1.ownsRow _ 42 3 pv bp.length (pCells bp) from hOP); have HOP := Lib.hid hOP; clear hOP; have ff := (Below.heap_of (k := Bf) hb1 hBfx HF.out); have hcf := (show w1.cell? ⟨Bf, 0, none⟩ = some (.int .u8 (kd.toNat : Int)) by simp [World.cell?, ff]); have hfl := (show Bf < w1.heap.size from Nat.lt_of_lt_of_le hBfx hb1.size); have hcs1 := (hb1.cell (p := ⟨N + 1 + 1, 0, none⟩) (by show N + 1 + 1 < _; omega)).trans hcs; have hz2 := (show N + 1 + 1 < w1.heap.size by have := hb1.size; omega); have hz1 := (show N + 3 < w1.heap.size from Nat.lt_of_lt_of_le hbx hb1.size); clear ff)
      exact HEX.out _ _ hb1 HFN.out

set_option maxRecDepth 100000 in
set_option maxHeartbeats 8000000 in
theorem repOk : RepOk := by
  intro l w hl
  refine (callsIn_wide (n := 12)).1 ?_
  refine callsIn_of_wp_marks Try.func14 rfl trivial ?_ rfl
  simp only [Try.ntmps14, List.size_toArray, List.length_cons, List.length_nil, Nat.reduceAdd, Nat.reduceSub, Array.replicate_succ, Array.replicate_zero, List.push_toArray, List.append_toArray, List.nil_append, List.cons_append]
  gi_wp2
  refine wpIn_wide.2 (wp_scope_straight ((wpIn_wide (n := 12)).1 ?_))
  gi_wp2
  refine wpIn_label ?_
  gi_wp2_with (refine ⟨trivial, ?_⟩; gi_at_call 29; refine (all_in _ _ _).mono ?_; rintro e w' ⟨rfl, rfl⟩)
  obtain ⟨W0, hW0⟩ : ∃ W0, (((w.alloc (.cells #[.slice none 0 0] 35)).alloc (.cells #[.int .i64 0] 3)).alloc (.cells #[.int .u64 0] 22)).alloc (.cells #[.string (Cd.bs l)] 9) = W0 := ⟨_, rfl⟩
  have hsz : W0.heap.size = w.heap.size + 4 := by rw [← hW0]; simp
  have b0 : Boxed W0 w.heap.size 35 (.slice none 0 0) := by rw [← hW0]; exact (((Boxed.new w _ _).alloc _).alloc _).alloc _
  have b1 : Boxed W0 (w.heap.size + 1) 3 (.int .i64 ((0 : Nat) : Int)) := by
    rw [← hW0]; have := Boxed.new (w.alloc (.cells #[.slice none 0 0] 35)) 3 (.int .i64 0); rw [World.size_alloc] at this; exact (this.alloc _).alloc _
  have b2 : Boxed W0 (w.heap.size + 2) 22 (.int .u64 0) := by
    rw [← hW0]; have := Boxed.new ((w.alloc (.cells #[.slice none 0 0] 35)).alloc (.cells #[.int .i64 0] 3)) 22 (.int .u64 0); rw [World.size_alloc, World.size_alloc] at this; exact this.alloc _
  have b3 : Boxed W0 (w.heap.size + 3) 9 (.string (Cd.bs l)) := by
    rw [← hW0]; have := Boxed.new (((w.alloc (.cells #[.slice none 0 0] 35)).alloc (.cells #[.int .i64 0] 3)).alloc (.cells #[.int .u64 0] 22)) 9 (.string (Cd.bs l)); rwa [World.size_alloc, World.size_alloc, World.size_alloc] at this
  have hK0 : Sq.Kept (fun k => k < w.heap.size) w W0 := by rw [← hW0]; exact (((Sq.Kept.alloc _ _ _).trans (Sq.Kept.alloc _ _ _)).trans (Sq.Kept.alloc _ _ _)).trans (Sq.Kept.alloc _ _ _)
  have hI0 : rpI w.heap.size w (fun _ => False) [] W0 := ⟨⟨[], .slice none 0 0, 0, 0, rfl, ⟨Int.le_refl _, by omega⟩, ⟨World.ownsRow_nil _ _ _ _, fun _ _ h => h⟩, fun x hx => (by cases hx), ⟨b0, fun h => h⟩, ⟨b1, fun h => h⟩, ⟨b2, fun h => h⟩, by omega⟩, hK0, fun _ _ _ h => h⟩
  rw [hW0]
  clear hW0
  refine Sq.wp_range rfl (by omega) (gf := 48) (lb := #[.pointer (some ⟨w.heap.size + 1 + 1 + 1, 0, none⟩)]) rfl trivial (enters_of Try.func48 (by kernel_rfl) rfl)
    (all1_seq 11 (by omega) l (by omega) (w.heap.size + 3) W0 b3) (by rintro b rfl; omega) (fun _ => rfl)
    (rpI w.heap.size w) (rpX l w.heap.size w)
    (fun a' x R pre X => rpI w.heap.size w R pre X ∧ ∃ Bf, (X.heap[Bf]? = some (.cells #[.int .u8 (x.2.1.toNat : Int), .string (Cd.bs x.2.2)] 47 (0, 0)) ∧ ¬ R Bf) ∧ w.heap.size + 4 ≤ Bf ∧
      a' = { tmps := #[.string (Cd.bs l), undef, .slice none 0 0, .int .i64 0, .pointer (some ⟨w.heap.size, 0, none⟩), .pointer (some ⟨w.heap.size + 1, 0, none⟩), .pointer (some ⟨w.heap.size + 1 + 1, 0, none⟩), .int .i64 (x.1 : Int), .pointer (some ⟨Bf, 0, none⟩), undef, undef, undef, undef, undef, .string (Cd.bs l), .func (.func 48) #[] #[.pointer (some ⟨w.heap.size + 1 + 1 + 1, 0, none⟩)], .int .i64 (x.1 : Int), .agg #[.int .u8 (x.2.1.toNat : Int), .string (Cd.bs x.2.2)], undef, undef, undef, undef, undef, undef, undef, undef, undef, undef, undef, undef, undef, undef, undef, undef, undef, undef, undef, undef, undef, undef, undef, undef, undef, undef, undef, undef, undef, undef, undef, undef, undef, undef, undef, undef, undef, undef], defers := [] })
    (rpI_steady _ _) (fun c => rpX_steady _ _ _ c) (fun a' x => (rpI_steady _ _).and (Sq.Steady.ex fun Bf => (Sq.Steady.obj _ _).and (fun _ _ _ _ _ hs _ => hs)))
    hI0 ?assign ?body ?done ?stop
  case assign =>
    rintro lr R pre x X hbd hsp hj
    gi_wp2
    have hw4 : w.heap.size + 4 ≤ X.heap.size := by
      obtain ⟨⟨LV, lv, at', q, _, _, hRI⟩, _⟩ := hj
      exact hRI.sz
    refine ⟨Sq.Kept.alloc _ _ _, rpI_steady _ _ _ _ _ _ _ hj (Sq.Step.alloc0 _ _ _), X.heap.size, ⟨World.alloc_heap_new X _, fun h => by have := hbd _ h; omega⟩, hw4, ?_⟩
    first | rfl | trivial
  case body =>
    rintro lr R pre x a' X hRl hrec hbd hsp ⟨hj, Bf, ⟨hf, hnf⟩, hBf, rfl⟩
    exact rep_body l lr R pre x X w w.heap.size Bf hj hsp hl hRl (fun k hk => by have := hbd k hk; omega) hBf hnf hf
  case done =>
    rintro D R ys X hD hRD rfl ⟨⟨LV, lv, at', q, hrun, _, hRI⟩, hkp⟩ hdf
    have hfin := fin_done hrun
    clear hrun
    obtain ⟨oa, ocap, rfl, _⟩ := Sq.row_cases hRI.row.1
    have c4 := hRI.bl.1.cell
    have ca := hRI.ba.1.cell
    have HRI := Lib.hid hRI
    have HK := Lib.hid hkp
    have HRD := Lib.hid hRD
    obtain ⟨e, hrep, hel, hz, hnz⟩ := hfin
    have HREP := Lib.hid hrep
    have hlow : ∀ X' : World, Sq.Step R R X X' → RI w.heap.size LV (.slice oa LV.length ocap) at' q R X' ∧ Sq.Kept (fun k => k < w.heap.size) w X' := fun X' st => ⟨HRI.out.step st, (Sq.Steady.kept (β := Unit) (fun k => k < w.heap.size) w R R () X _ HK.out st).1⟩
    have HLOW := Lib.hid hlow
    clear hRI hkp hRD hrep hlow hI0 hK0 b0 b1 b2 b3
    by_cases h0 : LV = []
    · have he := hz (by rw [h0]; rfl)
      have hlb : ((LV.length : Int) == 0) = true := by rw [h0]; rfl
      have hll : LV.length = 0 := by rw [h0]; rfl
      clear hz hnz
      gi_wp2_with fail
      try rw [Exit.noGoto_ret]
      try gi_wp2_with fail
      refine ⟨by simp, .inl ⟨_, _, rfl, run_takeDeferred hdf, ?_⟩⟩
      refine ⟨_, results_tmp2 rfl _ _ _, ?_⟩
      rw [HREP.out]
      obtain ⟨g1, g2⟩ := HLOW.out _ (Sq.Step.putObj X _ HRD.out)
      exact ⟨.slice none 0 0, [], by rw [he]; rfl, ⟨World.ownsRow_nil _ _ _ _, fun x hx => (by cases hx)⟩, by rw [h0], g2.below (fun _ h => h) (Nat.le_refl _)⟩
    · obtain ⟨ha1, ha2⟩ := hnz (by simpa using h0)
      have hlb : ((LV.length : Int) == 0) = false := by
        have : LV.length ≠ 0 := fun h => h0 (List.length_eq_zero_iff.1 h)
        simp; omega
      have hT := fun W => frameTakec_any (l.drop at') W (by rw [List.length_drop]; omega)
      have hxd : (Cd.bs l).extract at' l.length = Cd.bs (l.drop at') := Rr.extract_drop l at'
      obtain ⟨fr, n, er, htk⟩ : ∃ fr n er, Fr.take (l.drop at') = (fr, n, er) := ⟨_, _, _, rfl⟩
      obtain ⟨fc, ft⟩ := fr
      rw [htk] at ha2 hT
      simp only at ha2
      have HT := Lib.hid (fun W => show Calls Try.prog 31 #[.string ((Cd.bs l).extract at' l.length)] W fun e w' => e = .returned (.tuple #[.agg #[.int .u8 (fc.toNat : Int), .string (Cd.bs ft)], .int .i64 (n : Int), .int .i64 (er : Int)]) ∧ Below W.heap.size W w' from by rw [hxd]; exact hT W)
      have hw : IntKind.i64.wrap ((at' : Int) + (n : Int)) = (e : Int) := by rw [IntKind.wrap_i64]; omega
      have hi1 : (0 : Int) ≤ (at' : Int) ∧ (at' : Int) ≤ (l.length : Int) := by omega
      have hsl : (Cd.bs l).size = l.length := rfl
      have hXs := HRI.out.sz
      clear hz hnz hT htk hxd h0
      gi_wp2_with (refine ⟨trivial, ?_⟩; gi_at_call 31; refine (callsIn_wide.2 (HT.out _)).mono ?_; rintro e2 w2 ⟨rfl, hb2⟩; have hri2 := (HLOW.out _ ((Sq.Step.below hb2).trans (Sq.Step.alloc0 R w2 (.cells #[.int .u8 (fc.toNat : Int), .string (Cd.bs ft)] 47)))); have k4 := hri2.1.bl.1.cell; have ka := hri2.1.ba.1.cell; have HR2 := Lib.hid hri2; have hz2 := hb2.size; clear hri2)
      refine Qr.region_quiet Qr.open_wide (by kernel_rfl) (by kernel_rfl) (by kernel_rfl) ?_
      repeat (go_big_quiet_step (fail))
      refine wpQuiet_nil ?_
      intro _ hw'
      obtain ⟨nq, hw''⟩ := hw'
      subst hw''
      gi_wp2_with fail
      try rw [Exit.noGoto_ret]
      try gi_wp2_with fail
      have hd2 : ((w2.alloc (.cells #[.int .u8 (fc.toNat : Int), .string (Cd.bs ft)] 47)).drewN nq).heap[D]? = some (.deferred (some [])) := by
        have h1 : w2.heap[D]? = some (.deferred (some [])) := (hb2.block D (Array.getElem?_eq_some_iff.1 hdf).1).trans hdf
        exact (Below.heap_alloc w2 _ D (Array.getElem?_eq_some_iff.1 h1).1).trans h1
      refine ⟨by simp, .inl ⟨_, _, rfl, run_takeDeferred hd2, ?_⟩⟩
      refine ⟨_, results_tmp2 rfl _ _ _, ?_⟩
      rw [HREP.out]
      have st : Sq.Step R R X ((w2.alloc (.cells #[.int .u8 (fc.toNat : Int), .string (Cd.bs ft)] 47)).drewN nq) := ((Sq.Step.below hb2).trans (Sq.Step.alloc0 _ _ _)).trans ⟨Sq.Kept.drewN _ _ _, fun _ h => h, fun _ h => .inl h⟩
      obtain ⟨g1, g2⟩ := HLOW.out _ (st.trans (Sq.Step.putObj _ _ HRD.out))
      exact ⟨.slice oa LV.length ocap, LV, rfl, OwnB.lower ⟨g1.row.1, fun x hx => (g1.puts x hx).1⟩ (by omega), rfl, g2.below (fun _ h => h) (Nat.le_refl _)⟩
  case stop =>
    rintro D R c pre X hD hRD hsp ⟨rfl, ⟨LV, lv, at', q, hfin, hRI⟩, hkp⟩ hdf
    obtain ⟨oa, ocap, rfl, _⟩ := Sq.row_cases hRI.row.1
    have c4 := hRI.bl.1.cell
    have ca := hRI.ba.1.cell
    have HRI := Lib.hid hRI
    have HK := Lib.hid hkp
    have HRD := Lib.hid hRD
    obtain ⟨e, hrep, hel, hz, hnz⟩ := hfin
    have HREP := Lib.hid hrep
    have hlow : ∀ X' : World, Sq.Step R R X X' → RI w.heap.size LV (.slice oa LV.length ocap) at' q R X' ∧ Sq.Kept (fun k => k < w.heap.size) w X' := fun X' st => ⟨HRI.out.step st, (Sq.Steady.kept (β := Unit) (fun k => k < w.heap.size) w R R () X _ HK.out st).1⟩
    have HLOW := Lib.hid hlow
    clear hRI hkp hRD hrep hlow hI0 hK0 b0 b1 b2 b3
    by_cases h0 : LV = []
    · have he := hz (by rw [h0]; rfl)
      have hlb : ((LV.length : Int) == 0) = true := by rw [h0]; rfl
      have hll : LV.length = 0 := by rw [h0]; rfl
      clear hz hnz
      gi_wp2_with fail
      try rw [Exit.noGoto_ret]
      try gi_wp2_with fail
      refine ⟨by simp, .inl ⟨_, _, rfl, run_takeDeferred hdf, ?_⟩⟩
      refine ⟨_, results_tmp2 rfl _ _ _, ?_⟩
      rw [HREP.out]
      obtain ⟨g1, g2⟩ := HLOW.out _ (Sq.Step.putObj X _ HRD.out)
      exact ⟨.slice none 0 0, [], by rw [he]; rfl, ⟨World.ownsRow_nil _ _ _ _, fun x hx => (by cases hx)⟩, by rw [h0], g2.below (fun _ h => h) (Nat.le_refl _)⟩
    · obtain ⟨ha1, ha2⟩ := hnz (by simpa using h0)
      have hlb : ((LV.length : Int) == 0) = false := by
        have : LV.length ≠ 0 := fun h => h0 (List.length_eq_zero_iff.1 h)
        simp; omega
      have hT := fun W => frameTakec_any (l.drop at') W (by rw [List.length_drop]; omega)
      have hxd : (Cd.bs l).extract at' l.length = Cd.bs (l.drop at') := Rr.extract_drop l at'
      obtain ⟨fr, n, er, htk⟩ : ∃ fr n er, Fr.take (l.drop at') = (fr, n, er) := ⟨_, _, _, rfl⟩
      obtain ⟨fc, ft⟩ := fr
      rw [htk] at ha2 hT
      simp only at ha2
      have HT := Lib.hid (fun W => show Calls Try.prog 31 #[.string ((Cd.bs l).extract at' l.length)] W fun e w' => e = .returned (.tuple #[.agg #[.int .u8 (fc.toNat : Int), .string (Cd.bs ft)], .int .i64 (n : Int), .int .i64 (er : Int)]) ∧ Below W.heap.size W w' from by rw [hxd]; exact hT W)
      have hw : IntKind.i64.wrap ((at' : Int) + (n : Int)) = (e : Int) := by rw [IntKind.wrap_i64]; omega
      have hi1 : (0 : Int) ≤ (at' : Int) ∧ (at' : Int) ≤ (l.length : Int) := by omega
      have hsl : (Cd.bs l).size = l.length := rfl
      have hXs := HRI.out.sz
      clear hz hnz hT htk hxd h0
      gi_wp2_with (refine ⟨trivial, ?_⟩; gi_at_call 31; refine (callsIn_wide.2 (HT.out _)).mono ?_; rintro e2 w2 ⟨rfl, hb2⟩; have hri2 := (HLOW.out _ ((Sq.Step.below hb2).trans (Sq.Step.alloc0 R w2 (.cells #[.int .u8 (fc.toNat : Int), .string (Cd.bs ft)] 47)))); have k4 := hri2.1.bl.1.cell; have ka := hri2.1.ba.1.cell; have HR2 := Lib.hid hri2; have hz2 := hb2.size; clear hri2)
      refine Qr.region_quiet Qr.open_wide (by kernel_rfl) (by kernel_rfl) (by kernel_rfl) ?_
      repeat (go_big_quiet_step (fail))
      refine wpQuiet_nil ?_
      intro _ hw'
      obtain ⟨nq, hw''⟩ := hw'
      subst hw''
      gi_wp2_with fail
      try rw [Exit.noGoto_ret]
      try gi_wp2_with fail
      have hd2 : ((w2.alloc (.cells #[.int .u8 (fc.toNat : Int), .string (Cd.bs ft)] 47)).drewN nq).heap[D]? = some (.deferred (some [])) := by
        have h1 : w2.heap[D]? = some (.deferred (some [])) := (hb2.block D (Array.getElem?_eq_some_iff.1 hdf).1).trans hdf
        exact (Below.heap_alloc w2 _ D (Array.getElem?_eq_some_iff.1 h1).1).trans h1
      refine ⟨by simp, .inl ⟨_, _, rfl, run_takeDeferred hd2, ?_⟩⟩
      refine ⟨_, results_tmp2 rfl _ _ _, ?_⟩
      rw [HREP.out]
      have st : Sq.Step R R X ((w2.alloc (.cells #[.int .u8 (fc.toNat : Int), .string (Cd.bs ft)] 47)).drewN nq) := ((Sq.Step.below hb2).trans (Sq.Step.alloc0 _ _ _)).trans ⟨Sq.Kept.drewN _ _ _, fun _ h => h, fun _ h => .inl h⟩
      obtain ⟨g1, g2⟩ := HLOW.out _ (st.trans (Sq.Step.putObj _ _ HRD.out))
      exact ⟨.slice oa LV.length ocap, LV, rfl, OwnB.lower ⟨g1.row.1, fun x hx => (g1.puts x hx).1⟩ (by omega), rfl, g2.below (fun _ h => h) (Nat.le_refl _)⟩
end Wd
end Go.Proofs.Ytmfeeampbmandaa

/-
  Batches that came in, opened.
-/
namespace Go.Proofs.Ytmfeeampbmandaa
open Go.RowKit
set_option linter.unusedVariables false
namespace Wa
open Gn
theorem u64_lit {x : Int} (h : (Lit.int .u64 x).wf = true) : u64In x := by
  simp [Lit.wf, IntKind.min, IntKind.max, IntKind.signed, IntKind.bits] at h
  exact ⟨h.1, by omega⟩
def pbulk (p : Pt) : Nat := p.1.length + 1 + (p.2.1.length + 1 + (1 + 0)) + 1
/-- puts read out of what came in, of bulk b at most -/
theorem puts_in {L : List Pt} {b : Nat} (h : (Ty.slice putT).bulk L ≤ b) (hb : b ≤ 1048576) : (∀ p ∈ L, PutIn p) ∧ L.length ≤ 1048576 ∧ (L.map fun p => p.1.length + p.2.1.length).sum + L.length ≤ b := by
  replace h : (L.map pbulk).sum + 1 ≤ b := h
  have key : ∀ (L : List Pt), (∀ p ∈ L, p.1.length + p.2.1.length ≤ (L.map pbulk).sum) ∧ (L.map fun p => p.1.length + p.2.1.length).sum + L.length ≤ (L.map pbulk).sum := by
    intro L
    induction L with
    | nil => exact ⟨fun p hp => (by cases hp), by simp⟩
    | cons x r ih =>
      have hx : pbulk x = x.1.length + 1 + (x.2.1.length + 1 + (1 + 0)) + 1 := rfl
      refine ⟨fun p hp => ?_, ?_⟩
      · rw [List.map_cons, List.sum_cons]
        rcases List.mem_cons.1 hp with rfl | hp
        · omega
        · have := ih.1 p hp; omega
      · rw [List.map_cons, List.sum_cons, List.map_cons, List.sum_cons, List.length_cons]
        have := ih.2
        omega
  obtain ⟨k1, k2⟩ := key L
  exact ⟨fun p hp => ⟨by have := k1 p hp; omega, by have := k1 p hp; omega⟩, by omega, by omega⟩
/-- a batch that came in -/
structure BatIn (W : World) (s : Int) (pv : Value) (L : List Pt) : Prop where
  puts : Puts W.heap.size W pv L
  ok : BatchIn (s, L, ())
theorem rd_batch {B : Nat} {W : World} {cs : List Value} {x : Bt} (h : RdC B W batchT cs x) : ∃ pv, cs = [.int .u64 x.1, pv] ∧ u64In x.1 ∧ Puts B W pv x.2.1 := by
  obtain ⟨c1, d1, rfl, _, ⟨rfl, w1⟩, c2, d2, rfl, _, h2, rfl⟩ := h
  obtain ⟨pv, rfl, hp⟩ := puts_of_rd (L := x.2.1) h2
  exact ⟨pv, rfl, u64_lit w1, hp⟩
variable {H : Type} {enc : TypeId × Value → H} {W : World}
set_option maxRecDepth 100000 in
theorem open_batch {B : Nat} {v : Value} {d : DataW H} {p : List MemPlace} {base : Nat} (hv : Value.okWide Try.prog W .any base 25 v)
    (h : DataW.Trod enc Try.prog W 0 (fun _ => true) true 25 v d p) (hlt : ∀ x ∈ p, x.block < W.heap.size) (hB : Rows.uptoBulk d ≤ B) (hB2 : B ≤ 1048576 := by omega) :
    ∃ (s : Int) (pv : Value) (L : List Pt), v = .agg #[.int .u64 s, pv] ∧ BatIn W s pv L := by
  obtain ⟨cs, x, rfl, hx, hb⟩ := open_val batchT (by kernel_rfl) hv h hB
  obtain ⟨pv, rfl, hu, hp⟩ := rd_batch hx
  have e : batchT.bulk x = 1 + ((Ty.slice putT).bulk x.2.1 + 0) + 1 := rfl
  obtain ⟨k1, k2, _⟩ := puts_in (L := x.2.1) (b := B) (by omega) hB2
  exact ⟨x.1, pv, x.2.1, rfl, ⟨hp, ⟨hu, k1, k2⟩⟩⟩
end Wa
end Go.Proofs.Ytmfeeampbmandaa

/-
  Plain mathematics of frames one behind the other (P2.5).
-/
namespace Go.Proofs.Ytmfeeampbmandaa
namespace Fr
open Go.RowKit

def okF (f : Fm) : Bool := decide (f.1.toNat ≠ 0) && decide (f.2.length ≤ 262144)
theorem okF_iff {f : Fm} : okF f = true ↔ ¬ f.1.toNat = 0 ∧ f.2.length ≤ 262144 := by simp [okF]
/-- what frames are as bytes, those that have none left out -/
def rowB (l : List Fm) : List UInt8 := l.flatMap fun f => (put f.1 f.2).1
def kept (l : List Fm) : List Fm := l.filter okF
theorem put_bad {f : Fm} (h : ¬ okF f = true) : put f.1 f.2 = ([], 1) := by
  unfold put
  rw [if_pos]
  rw [okF_iff] at h
  omega
theorem rowB_snoc (l : List Fm) (f : Fm) : rowB (l ++ [f]) = rowB l ++ (put f.1 f.2).1 := by simp [rowB]
theorem kept_ok (l : List Fm) {f : Fm} (h : okF f = true) : kept (l ++ [f]) = kept l ++ [f] := by simp [kept, h]
theorem kept_bad (l : List Fm) {f : Fm} (h : ¬ okF f = true) : kept (l ++ [f]) = kept l := by simp [kept, h]
theorem put_len15 (f : Fm) : (put f.1 f.2).1.length ≤ 15 * (f.2.length + 1) := by
  by_cases h : okF f = true
  · obtain ⟨h1, h2⟩ := okF_iff.1 h
    have := Cd.putU_len10 f.2.length (by omega)
    rw [put_ok h1 h2]; simp only; rw [litlen, Cd.putT, List.length_append]; omega
  · rw [put_bad h]; simp
def bulkF (l : List Fm) : Nat := (l.map fun f => f.2.length + 1).sum
theorem rowB_len (l : List Fm) : (rowB l).length ≤ 15 * bulkF l := by
  induction l with
  | nil => simp [rowB, bulkF]
  | cons f r ih =>
    have h1 := put_len15 f
    have e1 : rowB (f :: r) = (put f.1 f.2).1 ++ rowB r := by simp [rowB]
    have e2 : bulkF (f :: r) = (f.2.length + 1) + bulkF r := by simp [bulkF]
    rw [e1, e2, List.length_append]; omega
theorem bulkF_take (l : List Fm) (k : Nat) : bulkF (l.take k) ≤ bulkF l := by
  induction l generalizing k with
  | nil => simp [bulkF]
  | cons f r ih =>
    cases k with
    | zero => simp [bulkF]
    | succ k =>
      have := ih k
      have e2 : ∀ r : List Fm, bulkF (f :: r) = (f.2.length + 1) + bulkF r := fun r => by simp [bulkF]
      rw [List.take_succ_cons, e2, e2]; omega
theorem bulkF_len (l : List Fm) : l.length ≤ bulkF l := by
  induction l with
  | nil => simp [bulkF]
  | cons f r ih =>
    have e2 : bulkF (f :: r) = (f.2.length + 1) + bulkF r := by simp [bulkF]
    rw [e2, List.length_cons]; omega
theorem bulkF_mem {l : List Fm} {f : Fm} (h : f ∈ l) : f.2.length + 1 ≤ bulkF l := by
  induction l with
  | nil => cases h
  | cons g r ih =>
    have e2 : bulkF (g :: r) = (g.2.length + 1) + bulkF r := by simp [bulkF]
    rw [e2]
    rcases List.mem_cons.1 h with rfl | h
    · omega
    · have := ih h; omega
theorem kept_len (l : List Fm) : (kept l).length ≤ l.length := List.length_filter_le _ _

/-- frames one behind the other are told as they were put -/
theorem allGo_rows (r : List UInt8) : ∀ (M : List Fm) (P : List UInt8), ∃ A : List (Nat × Fm), A.map (·.2) = kept M ∧
    allGo (P ++ (rowB M ++ r)) P.length = (A ++ (allGo (P ++ (rowB M ++ r)) (P.length + (rowB M).length)).1, (allGo (P ++ (rowB M ++ r)) (P.length + (rowB M).length)).2)
  | [], P => ⟨[], rfl, by simp [rowB]⟩
  | f :: M, P => by
    have e1 : rowB (f :: M) = (put f.1 f.2).1 ++ rowB M := by simp [rowB]
    by_cases h : okF f = true
    · obtain ⟨h1, h2⟩ := okF_iff.1 h
      obtain ⟨A, hA, hE⟩ := allGo_rows r M (P ++ (put f.1 f.2).1)
      refine ⟨(P.length, f) :: A, by simp [kept, h]; simpa [kept] using hA, ?_⟩
      have e2 : P ++ (rowB (f :: M) ++ r) = P ++ ((put f.1 f.2).1 ++ (rowB M ++ r)) := by rw [e1]; simp
      have e3 : P ++ (put f.1 f.2).1 ++ (rowB M ++ r) = P ++ ((put f.1 f.2).1 ++ (rowB M ++ r)) := by simp
      have hp := allGo_put (pre := P) (r := rowB M ++ r) (c := f.1) (l := f.2) h1 h2
      rw [e3, List.length_append] at hE
      rw [e2, hp, hE, e1, List.length_append, Nat.add_assoc]
      rfl
    · obtain ⟨A, hA, hE⟩ := allGo_rows r M P
      have e2 : rowB (f :: M) = rowB M := by rw [e1, put_bad h]; rfl
      exact ⟨A, by rw [hA]; simp [kept, h], by rw [e2]; exact hE⟩
theorem all_rows (M : List Fm) (r : List UInt8) : (kept M).length ≤ (all (rowB M ++ r)).1.length ∧ (∀ i (h : i < (kept M).length) (h2 : i < (all (rowB M ++ r)).1.length), (all (rowB M ++ r)).1[i].2 = (kept M)[i]) ∧ (rowB M).length ≤ (all (rowB M ++ r)).2 ∧
    (r = [] → (all (rowB M ++ r)).2 = (rowB M).length ∧ (all (rowB M ++ r)).1.length = (kept M).length) := by
  obtain ⟨A, hA, hE⟩ := allGo_rows r M []
  simp only [List.nil_append, List.length_nil, Nat.zero_add] at hE
  have hl : A.length = (kept M).length := by rw [← hA, List.length_map]
  have hE1 : all (rowB M ++ r) = (A ++ (allGo (rowB M ++ r) (rowB M).length).1, (allGo (rowB M ++ r) (rowB M).length).2) := hE
  rw [hE1]
  refine ⟨by simp; omega, fun i h h2 => ?_, allGo_ge _ _, fun hr => ?_⟩
  · have : (kept M)[i] = A[i].2 := by simp [← hA]
    rw [this]
    simp only
    rw [List.getElem_append_left (by omega)]
  · subst hr
    rw [List.append_nil, allGo_stop (by simp)]
    simp [hl]
end Fr
end Go.Proofs.Ytmfeeampbmandaa

/-
  Plain mathematics of P5.6: a log that is cut anywhere. No program is named here.
-/
namespace Go.Proofs.Ytmfeeampbmandaa
namespace Cd
theorem putU_mono (n : Nat) : ∀ m, m ≤ n → (putU m).length ≤ (putU n).length := by
  induction n using Nat.strongRecOn with
  | ind n ih =>
    intro m hm
    by_cases h : n < 128
    · rw [putU, if_pos (by omega), putU, if_pos h]; simp
    · by_cases h2 : m < 128
      · rw [putU, if_pos h2, putU, if_neg h]; simp
      · have e1 : putU m = UInt8.ofNat (m % 128 + 128) :: putU (m / 128) := by rw [putU, if_neg h2]
        have e2 : putU n = UInt8.ofNat (n % 128 + 128) :: putU (n / 128) := by rw [putU, if_neg h]
        rw [e1, e2, List.length_cons, List.length_cons]
        have := ih (n / 128) (by omega) (m / 128) (by omega)
        omega
end Cd
namespace Wa
theorem right_load {b : Bt} (h : Right b) : (load b.1.toNat b.2.1).length ≤ 262144 := by
  obtain ⟨r1, r2, r3, r4, r5⟩ := h
  have h1 := (check_ok r1).2.2
  have h2 := Cd.putU_mono MaxSeq b.1.toNat (by omega)
  unfold load at h1 ⊢
  simp only [List.length_append] at h1 ⊢
  omega
/-- a batch's frame -/
def fr (b : Bt) : Fr.Fm := (2, load b.1.toNat b.2.1)
theorem fr_ok {b : Bt} (h : Right b) : Fr.okF (fr b) = true := Fr.okF_iff.2 ⟨by show ¬ (2 : UInt8).toNat = 0; decide, right_load h⟩
theorem encode_right {b : Bt} (h : Right b) : encode b = ((Fr.put 2 (load b.1.toNat b.2.1)).1, 0) := by
  have h1 : encode b = Fr.put 2 (load b.1.toNat b.2.1) := if_pos h
  rw [h1, Fr.put_ok (by decide) (right_load h)]
theorem encode_wrong {b : Bt} (h : ¬ Right b) : encode b = ([], 1) := if_neg h
/-- batches as bytes -/
def logB' (K : List Bt) : List UInt8 := Fr.rowB (K.map fr)
theorem log_snoc (K : List Bt) (b : Bt) : logB' (K ++ [b]) = logB' K ++ (Fr.put 2 (load b.1.toNat b.2.1)).1 := by
  unfold logB'
  rw [List.map_append, List.map_cons, List.map_nil, Fr.rowB_snoc]
  rfl
theorem log_app (K L : List Bt) : logB' (K ++ L) = logB' K ++ logB' L := by simp [logB', Fr.rowB]
theorem put_pos {b : Bt} (h : Right b) : 5 ≤ (Fr.put 2 (load b.1.toNat b.2.1)).1.length := by
  rw [Fr.put_ok (by decide) (right_load h)]
  simp only
  rw [Fr.litlen]; omega
def lastQ : Int → List Bt → Int
  | q, [] => q
  | _, b :: r => lastQ (last b) r
def Rise : Int → List Bt → Prop
  | _, [] => True
  | q, b :: r => q < b.1 ∧ Rise (last b) r
theorem lastQ_snoc : ∀ (K : List Bt) (q : Int) (b : Bt), lastQ q (K ++ [b]) = last b
  | [], _, _ => rfl
  | c :: r, q, b => lastQ_snoc r (last c) b
theorem rise_snoc : ∀ {K : List Bt} {q : Int} {b : Bt}, Rise q K → lastQ q K < b.1 → Rise q (K ++ [b])
  | [], q, b, _, h => ⟨h, trivial⟩
  | c :: r, q, b, h, h2 => ⟨h.1, rise_snoc h.2 h2⟩
theorem rise_take : ∀ {K : List Bt} {q : Int} (n : Nat), Rise q K → Rise q (K.take n)
  | [], q, n, h => by simp [Rise]
  | c :: r, q, 0, h => trivial
  | c :: r, q, n + 1, h => ⟨h.1, rise_take n h.2⟩
theorem repGo_rows : ∀ (K : List Bt) (A B : List (Nat × Fr.Fm)) (q : Int) (E : Nat), (∀ b ∈ K, Right b) → Rise q K → A.map (·.2) = K.map fr → repGo (A ++ B) q E = (K ++ (repGo B (lastQ q K) E).1, (repGo B (lastQ q K) E).2)
  | [], A, B, q, E, _, _, hA => by
    have : A = [] := by simpa using hA
    subst this
    rfl
  | b :: r, A, B, q, E, hR, hK, hA => by
    match A, hA with
    | x :: A, hA =>
      rw [List.map_cons, List.map_cons] at hA
      injection hA with h1 h2
      have hd : (if x.2.1 = 2 then decode x.2.2 else none) = some b := by
        rw [h1]
        show (if (2 : UInt8) = 2 then decode (load b.1.toNat b.2.1) else none) = some b
        rw [if_pos rfl]
        exact decode_iff.2 ⟨hR b (List.mem_cons_self ..), rfl⟩
      rw [List.cons_append, repGo_more hd hK.1, repGo_rows r A B (last b) E (fun c hc => hR c (List.mem_cons_of_mem _ hc)) hK.2 h2]
      rfl
theorem kept_all {K : List Bt} (h : ∀ b ∈ K, Right b) : Fr.kept (K.map fr) = K.map fr := by
  unfold Fr.kept
  rw [List.filter_eq_self]
  intro f hf
  obtain ⟨b, hb, rfl⟩ := List.mem_map.1 hf
  exact fr_ok (h b hb)
/-- the frames of a log of batches, and whatever follows -/
theorem replay_more {K : List Bt} (h : ∀ b ∈ K, Right b) (hr : Rise 0 K) (r : List UInt8) : ∃ X, (replay (logB' K ++ r)).1 = K ++ X := by
  obtain ⟨A, hA, hE⟩ := Fr.allGo_rows r (K.map fr) []
  rw [kept_all h] at hA
  simp only [List.nil_append, List.length_nil] at hE
  unfold replay logB'
  rw [hE]
  simp only
  rw [repGo_rows K A _ 0 _ h hr hA]
  exact ⟨_, rfl⟩
theorem replay_stop {K : List Bt} (h : ∀ b ∈ K, Right b) (hr : Rise 0 K) (r : List UInt8) (hs : r = [] ∨ (Fr.take r).2.2 = 2) : replay (logB' K ++ r) = (K, (logB' K).length) := by
  obtain ⟨A, hA, hE⟩ := Fr.allGo_rows r (K.map fr) []
  rw [kept_all h] at hA
  simp only [List.nil_append, List.length_nil] at hE
  have hst : Fr.allGo (Fr.rowB (K.map fr) ++ r) (0 + (Fr.rowB (K.map fr)).length) = ([], (Fr.rowB (K.map fr)).length) := by
    rw [Nat.zero_add]
    refine Fr.allGo_stop (fun hh => ?_)
    rw [List.drop_left' rfl] at hh
    rcases hs with rfl | hs
    · simp at hh
    · rw [hs] at hh; exact absurd hh.2.1 (by decide)
  unfold replay logB'
  rw [hE, hst]
  simp only
  rw [repGo_rows K A [] 0 _ h hr hA, repGo, List.append_nil]

/-- what the law reckons: how many batches are whole ahead of the cut -/
structure Cut (cut : Int) (K : List Bt) (whole : Nat) : Prop where
  right : ∀ b ∈ K, Right b
  rise : Rise 0 K
  le : whole ≤ K.length
  iff : ∀ j, 0 < j → j ≤ K.length → (((logB' (K.take j)).length : Int) ≤ cut ↔ j ≤ whole)
theorem Cut.nil (cut : Int) : Cut cut [] 0 := ⟨fun b hb => (by cases hb), trivial, Nat.le_refl _, fun j h1 h2 => by simp at h2; omega⟩
theorem Cut.snoc {cut : Int} {K : List Bt} {whole : Nat} (h : Cut cut K whole) {b : Bt} (hb : Right b) (hl : lastQ 0 K < b.1) :
    Cut cut (K ++ [b]) (if ((logB' (K ++ [b])).length : Int) ≤ cut then K.length + 1 else whole) := by
  have hlen : (K ++ [b]).length = K.length + 1 := by simp
  have hmono : ∀ j, j ≤ K.length + 1 → (logB' ((K ++ [b]).take j)).length ≤ (logB' (K ++ [b])).length := fun j _ => by
    have := log_app ((K ++ [b]).take j) ((K ++ [b]).drop j)
    rw [List.take_append_drop] at this
    rw [this, List.length_append]; omega
  refine ⟨fun c hc => ?_, rise_snoc h.rise hl, ?_, fun j h1 h2 => ?_⟩
  · rcases List.mem_append.1 hc with hc | hc
    · exact h.right c hc
    · simp only [List.mem_singleton] at hc; subst hc; exact hb
  · split
    · omega
    · have := h.le; omega
  · rw [hlen] at h2
    split
    · rename_i hc
      have := hmono j h2
      exact ⟨fun _ => h2, fun _ => by omega⟩
    · rename_i hc
      by_cases hj : j = K.length + 1
      · subst hj
        rw [show (K ++ [b]).take (K.length + 1) = K ++ [b] by rw [← hlen]; exact List.take_length]
        exact ⟨fun h => absurd h hc, fun hh => by have := h.le; omega⟩
      · rw [List.take_append_of_le_length (by omega)]
        exact h.iff j h1 (by omega)
/-- where the cut lies: behind the whole ones, ahead of the end of the next -/
theorem Cut.at {cut : Int} {K : List Bt} {whole : Nat} (h : Cut cut K whole) {c : Nat} (hc : (c : Int) = min (max cut 0) (logB' K).length) :
    ∃ r, (logB' K).take c = logB' (K.take whole) ++ r ∧ (r = [] ∨ (Fr.take r).2.2 = 2) := by
  by_cases hw : whole = K.length
  · refine ⟨[], ?_, .inl rfl⟩
    have hcl : c = (logB' K).length := by
      by_cases h0 : K.length = 0
      · have : K = [] := List.eq_nil_of_length_eq_zero h0
        subst this
        have : (logB' ([] : List Bt)).length = 0 := rfl
        omega
      · have := (h.iff K.length (by omega) (Nat.le_refl _)).2 (by omega)
        rw [List.take_length] at this
        omega
    rw [hcl, List.take_length, hw, List.take_length, List.append_nil]
  · have hlt : whole < K.length := by have := h.le; omega
    have hn : ¬ ((logB' (K.take (whole + 1))).length : Int) ≤ cut := fun hh => by have := (h.iff (whole + 1) (by omega) (by omega)).1 hh; omega
    have ht : K.take (whole + 1) = K.take whole ++ [K[whole]] := List.take_succ_eq_append_getElem hlt
    have hrt := h.right K[whole] (List.getElem_mem hlt)
    rw [ht, log_snoc, List.length_append] at hn
    have hp := put_pos hrt
    have hk : ((logB' (K.take whole)).length : Int) ≤ max cut 0 := by
      by_cases h0 : whole = 0
      · subst h0
        have : (logB' (K.take 0)).length = 0 := by rw [List.take_zero]; rfl
        omega
      · have := (h.iff whole (by omega) (by omega)).2 (Nat.le_refl _); omega
    have hsp : logB' K = logB' (K.take whole) ++ ((Fr.put 2 (load K[whole].1.toNat K[whole].2.1)).1 ++ logB' (K.drop (whole + 1))) := by
      have e := log_app (K.take (whole + 1)) (K.drop (whole + 1))
      rw [List.take_append_drop, ht, log_snoc, List.append_assoc] at e
      exact e
    have hll : (logB' K).length = (logB' (K.take whole)).length + ((Fr.put 2 (load K[whole].1.toNat K[whole].2.1)).1.length + (logB' (K.drop (whole + 1))).length) := by rw [hsp, List.length_append, List.length_append]
    have hcc : (logB' (K.take whole)).length ≤ c ∧ c < (logB' (K.take whole)).length + (Fr.put 2 (load K[whole].1.toNat K[whole].2.1)).1.length := by omega
    refine ⟨(Fr.put 2 (load K[whole].1.toNat K[whole].2.1)).1.take (c - (logB' (K.take whole)).length), ?_, .inr (Fr.take_cut (by decide) (right_load hrt) _ (by omega))⟩
    rw [hsp, List.take_append, List.take_of_length_le hcc.1, List.take_append_of_le_length (by omega)]
theorem Cut.first {cut : Int} {K : List Bt} {whole : Nat} (h : Cut cut K whole) {c : Nat} (hc : (c : Int) = min (max cut 0) (logB' K).length) : replay ((logB' K).take c) = (K.take whole, (logB' (K.take whole)).length) := by
  obtain ⟨r, e, hr⟩ := h.at hc
  rw [e]
  exact replay_stop (fun b hb => h.right b (List.mem_of_mem_take hb)) (rise_take _ h.rise) r hr
theorem Cut.more {cut : Int} {K : List Bt} {whole : Nat} (h : Cut cut K whole) {c : Nat} (hc : (c : Int) = min (max cut 0) (logB' K).length) (x : List UInt8) : ∃ X, (replay ((logB' K).take c ++ x)).1 = K.take whole ++ X := by
  obtain ⟨r, e, _⟩ := h.at hc
  rw [e, List.append_assoc]
  exact replay_more (fun b hb => h.right b (List.mem_of_mem_take hb)) (rise_take _ h.rise) _
end Wa
end Go.Proofs.Ytmfeeampbmandaa

/-
  Roots that came in, opened.
-/
namespace Go.Proofs.Ytmfeeampbmandaa
open Go.RowKit
set_option linter.unusedVariables false

namespace Gn
theorem mem_sum {α : Type} (f : α → Nat) : ∀ (l : List α) (j : Nat) (h : j < l.length), f l[j] ≤ (l.map f).sum
  | x :: r, 0, _ => by simp
  | x :: r, j + 1, h => by
    have := mem_sum f r j (by simpa using h)
    simp; omega
theorem len_sum {α : Type} (f : α → Nat) (h1 : ∀ x, 1 ≤ f x) : ∀ l : List α, l.length ≤ (l.map f).sum
  | [] => by simp
  | x :: r => by
    have := len_sum f h1 r
    have := h1 x
    simp; omega
/-- a row of numbers -/
theorem rd_ints {B : Nat} {W : World} {k : IntKind} {cs : List Value} {l : List Int} (h : RdL B W 1 (RdC B W (.int k)) cs l) :
    ∃ (a : Option Addr) (cap b off : Nat), cs = [.slice a l.length cap] ∧ (0 < l.length → a = some ⟨b, off, none⟩ ∧ b < B) ∧ ∀ j (h : j < l.length), W.cell? ⟨b, off + j, none⟩ = some (.int k l[j]) ∧ (Lit.int k l[j]).wf = true := by
  obtain ⟨a, cap, b, off, h1, _, _, h2, h3⟩ := h
  refine ⟨a, cap, b, off, h1, h2, fun j hj => ?_⟩
  obtain ⟨cs', g1, g2, rfl, g4⟩ := h3 j hj
  have := g2 0 (by omega)
  simp at this
  exact ⟨this, g4⟩
end Gn

namespace Fi
open Gn
abbrev fileT : Ty := .struct (.cons .str (.cons (.int .i64) (.cons (.slice (.int .i64)) .nil)))
abbrev rootT : Ty := .struct (.cons (.int .u64) (.cons (.slice fileT) .nil))
abbrev FD := List UInt8 × Int × List Int × Unit
def FD.file (x : FD) : File := ⟨x.1, x.2.1, x.2.2.1⟩
theorem i64_of {n : Int} (h : (Lit.int .i64 n).wf = true) : inI64 n := by
  simpa [Lit.wf, IntKind.min, IntKind.max, IntKind.signed, IntKind.bits, inI64] using h
theorem u64_of {n : Int} (h : (Lit.int .u64 n).wf = true) : 0 ≤ n ∧ n < 18446744073709551616 := by
  have : 0 ≤ n ∧ n ≤ 18446744073709551615 := by simpa [Lit.wf, IntKind.min, IntKind.max, IntKind.signed, IntKind.bits] using h
  omega
theorem rd_file {B : Nat} {W : World} {cs : List Value} {x : FD} (h : RdC B W fileT cs x) :
    ∃ bv, cs = [.string (Cd.bs x.1), .int .i64 x.2.1, bv] ∧ Ints B W bv x.2.2.1 ∧ inI64 x.2.1 ∧ ∀ b ∈ x.2.2.1, inI64 b := by
  obtain ⟨c1, c2, rfl, _, ⟨rfl, _⟩, c3, c4, rfl, _, ⟨rfl, hw⟩, c5, c6, rfl, _, h5, rfl⟩ := h
  obtain ⟨a, cap, b, off, rfl, g2, g3⟩ := rd_ints (l := x.2.2.1) h5
  refine ⟨_, rfl, ⟨a, cap, b, off, rfl, g2, fun j hj => (g3 j hj).1⟩, i64_of hw, fun y hy => ?_⟩
  obtain ⟨k, hk, rfl⟩ := List.getElem_of_mem hy
  exact i64_of (g3 k hk).2
/-- a root that came in -/
structure RootIn (W : World) (g : Nat) (fv : Value) (L : List (File × Value)) : Prop where
  gen : g < 18446744073709551616
  files : Files W.heap.size W fv L
  ok : ∀ x ∈ L, FileIn x.1
  len : L.length ≤ 1048576
theorem rd_files {B : Nat} {W : World} {cs : List Value} {l : List FD} (h : RdL B W 3 (RdC B W fileT) cs l) (hb : (Ty.slice fileT).bulk l ≤ 1048576) :
    ∃ fv, ∃ L : List (File × Value), cs = [fv] ∧ Files B W fv L ∧ (∀ x ∈ L, FileIn x.1) ∧ L.length ≤ 1048576 ∧ L.map (·.1) = l.map FD.file := by
  obtain ⟨a, cap, b, off, h1, _, _, h2, h3⟩ := h
  have hbs : ((l.map fun d => fileT.bulk d).sum) + 1 ≤ 1048576 := hb
  obtain ⟨L, hL, hq⟩ := list_of (len := l.length) (Q := fun j (F : File × Value) => ∃ h : j < l.length, F.1 = FD.file l[j] ∧ FileIn F.1 ∧
      W.cell? ⟨b, off + j * 3, none⟩ = some (.string (Cd.bs F.1.name)) ∧ W.cell? ⟨b, off + j * 3 + 1, none⟩ = some (.int .i64 F.1.size) ∧ W.cell? ⟨b, off + j * 3 + 2, none⟩ = some F.2 ∧ Ints B W F.2 F.1.blocks) (fun j hj => by
    obtain ⟨cs', g1, g2, g3⟩ := h3 j hj
    obtain ⟨bv, rfl, k1, k2, k3⟩ := rd_file g3
    have hm : fileT.bulk l[j] ≤ (l.map fun d => fileT.bulk d).sum := mem_sum (fun d => fileT.bulk d) l j hj
    have e : fileT.bulk l[j] = l[j].1.length + 1 + (1 + ((l[j].2.2.1.map fun _ => 1).sum + 1 + 0)) + 1 := rfl
    have hl := len_sum (fun _ : Int => 1) (fun _ => Nat.le_refl _) l[j].2.2.1
    rw [e] at hm
    refine ⟨(FD.file l[j], bv), hj, rfl, ⟨?_, k2, ?_, k3⟩, ?_, ?_, ?_, k1⟩
    · show l[j].1.length ≤ _; omega
    · show l[j].2.2.1.length ≤ _; omega
    · have := g2 0 (by omega); simp at this; exact this
    · have := g2 1 (by omega); simp at this; exact this
    · have := g2 2 (by omega); simp at this; exact this)
  have hll : l.length ≤ (l.map fun d => fileT.bulk d).sum := len_sum (fun d => fileT.bulk d) (fun d => by show 1 ≤ _ + 1; omega) l
  refine ⟨.slice a l.length cap, L, h1, ⟨a, cap, b, off, by rw [hL], fun h => h2 (by rw [hL] at h; exact h), fun j hj => ?_⟩, fun x hx => ?_, by omega, ?_⟩
  · obtain ⟨_, _, _, k⟩ := hq j hj; exact k
  · obtain ⟨j, hj, rfl⟩ := List.getElem_of_mem hx
    obtain ⟨_, _, k, _⟩ := hq j hj; exact k
  · apply List.ext_getElem
    · simp [hL]
    · intro j h1' h2'
      obtain ⟨_, k, _⟩ := hq j (by simpa using h1')
      simpa using k

end Fi
end Go.Proofs.Ytmfeeampbmandaa
/-
  Lists of batches that came in, opened.
-/
namespace Go.Proofs.Ytmfeeampbmandaa
open Go.RowKit
set_option linter.unusedVariables false
namespace Wa
open Gn
/-- how much a batch is -/
def nb (b : Bt) : Nat := 1 + ((b.2.1.map fun p => p.1.length + p.2.1.length).sum + b.2.1.length)
theorem putB_le {p : Pt} (hx : mayB p = true) : (putB p).length ≤ 21 + p.1.length + p.2.1.length := by
  obtain ⟨k, v, d, _⟩ := p
  simp [mayB] at hx
  have b1 := Cd.putU_len10 k.length (by omega)
  have b2 := Cd.putU_len10 v.length (by omega)
  unfold putB
  split <;> simp [Cd.putT] <;> omega
theorem put_nb {b : Bt} (h : Right b) : (Fr.put 2 (load b.1.toNat b.2.1)).1.length ≤ 35 * nb b := by
  have hl := right_load h
  have h1 := (check_ok h.1).1
  have hm := (check_ok h.1).2.1
  have hM : MaxSeq = 1125899906842624 := rfl
  have h3 := h.2.2.2.1
  rw [Fr.put_ok (by decide) hl]
  simp only
  rw [Fr.litlen, Cd.putT, List.length_append]
  have a1 := Cd.putU_len10 (load b.1.toNat b.2.1).length (by omega)
  have a2 := Cd.putU_len10 b.1.toNat (by omega)
  have a3 := Cd.putU_len10 b.2.1.length (by omega)
  have key : ∀ L : List Pt, (∀ p ∈ L, mayB p = true) → (L.flatMap putB).length ≤ 21 * ((L.map fun p => p.1.length + p.2.1.length).sum + L.length) := by
    intro L
    induction L with
    | nil => intro _; simp
    | cons x r ih =>
      intro hL
      rw [List.flatMap_cons, List.length_append, List.map_cons, List.sum_cons, List.length_cons]
      have := ih (fun p hp => hL p (List.mem_cons_of_mem _ hp))
      have hx := hL x (List.mem_cons_self ..)
      have := putB_le hx
      omega
  have k1 := key b.2.1 hm
  have hload : (load b.1.toNat b.2.1).length ≤ 20 + 21 * ((b.2.1.map fun p => p.1.length + p.2.1.length).sum + b.2.1.length) := by
    unfold load
    simp only [List.length_append]
    omega
  unfold nb
  omega
/-- batches that came in -/
structure BatsIn (W : World) (v : Value) (LV : List (Bt × Value)) : Prop where
  bats : Bats W.heap.size W v LV
  ok : ∀ x ∈ LV, BatchIn x.1
  many : LV.length ≤ 1048576
  sum : (LV.map fun x => nb x.1).sum ≤ 1048576
def bbulk (b : Bt) : Nat := 1 + (((b.2.1.map pbulk).sum + 1) + 0) + 1
theorem nb_le (b : Bt) : nb b ≤ bbulk b := by
  have key : ∀ L : List Pt, (L.map fun p => p.1.length + p.2.1.length).sum + L.length ≤ (L.map pbulk).sum := by
    intro L
    induction L with
    | nil => simp
    | cons x r ih =>
      have hx : pbulk x = x.1.length + 1 + (x.2.1.length + 1 + (1 + 0)) + 1 := rfl
      rw [List.map_cons, List.sum_cons, List.map_cons, List.sum_cons, List.length_cons]; omega
  have := key b.2.1
  unfold nb bbulk
  omega
variable {H : Type} {enc : TypeId × Value → H} {W : World}
set_option maxRecDepth 100000 in
theorem open_bats {B : Nat} {v : Value} {d : DataW H} {p : List MemPlace} {base : Nat} (hv : Value.okWide Try.prog W .any base 35 v)
    (h : DataW.Trod enc Try.prog W 0 (fun _ => true) true 35 v d p) (hlt : ∀ x ∈ p, x.block < W.heap.size) (hB : Rows.uptoBulk d ≤ B) (hB2 : B ≤ 1048576 := by omega) :
    ∃ (u : Value) (LV : List (Bt × Value)), v = u ∧ BatsIn W u LV := by
  obtain ⟨cs, l, rfl, hx, hb⟩ := open_val (.slice batchT) (by kernel_rfl) hv h hB
  replace hb : ((show List Bt from l).map bbulk).sum + 1 ≤ B := hb
  change RdL W.heap.size W 2 (RdC W.heap.size W batchT) cs (show List Bt from l) at hx
  generalize (show List Bt from l) = L at hb hx
  obtain ⟨a, cap, b, off, rfl, _, _, h2, h3⟩ := hx
  obtain ⟨LV, hL, hq⟩ := list_of (len := L.length) (Q := fun j (F : Bt × Value) => ∃ h : j < L.length, F.1 = L[j] ∧ BatchIn F.1 ∧
      W.cell? ⟨b, off + j * 2, none⟩ = some (.int .u64 F.1.1) ∧ W.cell? ⟨b, off + j * 2 + 1, none⟩ = some F.2 ∧ Puts W.heap.size W F.2 F.1.2.1) (fun j hj => by
    obtain ⟨cs', g1, g2, g3⟩ := h3 j hj
    obtain ⟨pv, rfl, k1, k2⟩ := rd_batch g3
    have hm : bbulk L[j] ≤ (L.map bbulk).sum := mem_sum bbulk L j hj
    have e : bbulk L[j] = 1 + (((L[j].2.1.map pbulk).sum + 1) + 0) + 1 := rfl
    obtain ⟨m1, m2, _⟩ := puts_in (L := L[j].2.1) (b := B) (by show (L[j].2.1.map pbulk).sum + 1 ≤ B; omega) hB2
    refine ⟨(L[j], pv), hj, rfl, ⟨k1, m1, m2⟩, ?_, ?_, k2⟩
    · exact g2 0 (by decide)
    · exact g2 1 (by decide))
  have hll : L.length ≤ (L.map bbulk).sum := len_sum bbulk (fun d => by unfold bbulk; omega) L
  have hmap : LV.map (·.1) = L := by
    apply List.ext_getElem
    · simp [hL]
    · intro j h1' h2'
      obtain ⟨_, k, _⟩ := hq j (by simpa using h1')
      simpa using k
  refine ⟨.slice a L.length cap, LV, rfl, ⟨⟨a, cap, b, off, by rw [hL], fun h => h2 (by rw [hL] at h; exact h), fun j hj => ?_⟩, fun x hx => ?_, by omega, ?_⟩⟩
  · obtain ⟨_, _, _, k1, k2, k3⟩ := hq j hj; exact ⟨k1, k2, k3⟩
  · obtain ⟨j, hj, rfl⟩ := List.getElem_of_mem hx
    obtain ⟨_, _, k, _⟩ := hq j hj; exact k
  · have e1 : (LV.map fun x => nb x.1) = L.map nb := by rw [← hmap, List.map_map]; rfl
    rw [e1]
    have : ∀ L : List Bt, (L.map nb).sum ≤ (L.map bbulk).sum := by
      intro L
      induction L with
      | nil => simp
      | cons x r ih => rw [List.map_cons, List.sum_cons, List.map_cons, List.sum_cons]; have := nb_le x; omega
    have := this L
    omega
end Wa
end Go.Proofs.Ytmfeeampbmandaa
