/-
  one: Crash, with a copy of what is kept.
-/
import Derived.Test.YtdidcopfkjnkdaaBlockOneB
import Derived.Laws.CopyOwn
namespace Go.Proofs.Ytdidcopfkjnkdaa
open Go.RowKit
set_option linter.unusedSimpArgs false
set_option linter.unusedVariables false
variable {DevAt : Nat → Nat → Sq.Blocks → Bl.St → World → Prop}

theorem info_bool : (Try.prog.info? 4).map (fun i => (i.zero, i.size, i.bytes)) = some (some (.bool false), 1, 1) := by kernel_rfl
theorem made_bool (n : Nat) : (madeCells (Value.bool false).cells (n * 1)).toList = List.replicate n (.bool false) := by
  rw [show (Value.bool false).cells = #[Value.bool false] from rfl, Nat.mul_one, toList_madeCells_one]
theorem row_whole {W : World} {base g n : Nat} {e : TypeId} {xs : List Value} (h : W.ownsRow base e 1 (.slice (some ⟨g, 0, none⟩) n n) n xs) : W.heap[g]? = some (.cells xs.toArray e (0, 0)) := by
  rcases h.2 with ⟨h1, _⟩ | ⟨g', cap', cur, h1, _, h3, _, _, h6, h7⟩
  · simp at h1
  · simp at h1
    obtain ⟨rfl, rfl⟩ := h1
    have : cur.toList = xs := by rw [← h7, List.take_of_length_le (by simp [h6])]
    rw [h3, ← this]
def bCells (l : List Bool) : List Value := l.map Value.bool
theorem bCells_len (l : List Bool) : (bCells l).length = l.length := by simp [bCells]
theorem copy_src {S : Sq.Blocks} {w1 : World} {ka : Option Addr} {kcap : Nat} {keep : List Bool} (h : BoolRow S w1 (.slice ka keep.length kcap) keep) (g : Nat) :
    0 < (bCells keep).length → (some (⟨g, 0, none⟩ : Addr)) = some ⟨g, 0, none⟩ ∧ ∃ ad, ka = some ad ∧ ∀ j v, (bCells keep)[j]? = some v → w1.cell? (ad.add j) = some v := by
  intro h0
  rw [bCells_len] at h0
  obtain ⟨a, cap, b, off, hv, ha, hc⟩ := h
  simp only [Value.slice.injEq, true_and] at hv
  obtain ⟨rfl, rfl⟩ := hv
  refine ⟨rfl, ⟨b, off, none⟩, (ha h0).1, fun j v hj => ?_⟩
  have hj' : j < keep.length := by have := (List.getElem?_eq_some_iff.1 hj).1; rwa [bCells_len] at this
  have hp : (⟨b, off, none⟩ : Addr).add j = ⟨b, off + j, none⟩ := by unfold Addr.add; split <;> simp_all
  rw [hp, hc j hj']
  simpa [bCells, hj'] using hj
theorem splice_all (n : Nat) (l : List Value) (h : l.length = n) : splice (List.replicate n (.bool false)) 0 l = l := by
  unfold splice
  simp [h]
theorem bool_row_own {S : Sq.Blocks} {w : World} {g : Nat} {keep : List Bool} (h : w.heap[g]? = some (.cells (bCells keep).toArray 4 (0, 0))) (hg : ¬ S g) : BoolRow S w (.slice (some ⟨g, 0, none⟩) keep.length keep.length) keep :=
  ⟨_, _, g, 0, rfl, fun _ => ⟨rfl, hg⟩, fun j hj => by simp [World.cell?, h, bCells, hj]⟩

set_option maxRecDepth 100000 in
set_option maxHeartbeats 4000000 in
theorem one_4 (D : DevOk DevAt) {B0 bd br : Nat} {Sd Sr : Sq.Blocks} {σ : Bl.St} {W : World} (h : Two DevAt B0 bd br Sd Sr σ σ W) (hn : Bnd σ) (i n : Int) (hi : -9223372036854775808 ≤ i ∧ i ≤ 9223372036854775807) (hm : -9223372036854775808 ≤ n ∧ n ≤ 9223372036854775807) (kv : Value) (keep : List Bool)
    (hkeep : BoolRow (fun k => B0 ≤ k) W kv keep) (hkl : keep.length ≤ 1048576) :
    Calls Try.prog 11 #[.pointer (some ⟨bd, 0, none⟩), .pointer (some ⟨br, 0, none⟩), actV 4 i n kv] W (OneOut DevAt B0 bd br σ W) := by
  have hB0 := h.base
  obtain ⟨i0, hi0, hz0, hz1, hz2⟩ := info_parts info_bool
  have hinfo : (Try.prog.info? 4).map (·.size) = some 1 := by rw [hi0]; simp [hz1]
  obtain ⟨ka, kcap, kb, koff, rfl, hka, hkc⟩ := id hkeep
  go_enter Try.func11, Try.ntmps11
  obtain ⟨wA, hwA⟩ : ∃ wA, W.alloc (.cells #[.int .i64 4, .int .i64 i, .int .i64 n, .slice ka keep.length kcap] 33) = wA := ⟨_, rfl⟩
  have T0 : Two DevAt B0 bd br Sd Sr σ σ wA := by rw [← hwA]; exact h.kept D (Sq.Kept.alloc _ _ _)
  have bx0 : Box4c wA W.heap.size (.int .i64 4) (.int .i64 i) (.int .i64 n) (.slice ka keep.length kcap) B0 := by rw [← hwA]; exact Box4c.new W _ _ _ _ _ B0
  have hd0 : ¬ Sd W.heap.size := fun hs => by have := (D.lo h.dev _ hs).2; omega
  have hr0 : ¬ Sr W.heap.size := fun hs => by have := (h.ref.lo _ hs).2; omega
  have b0 : Below B0 W wA := by rw [← hwA]; exact (Below.refl B0 W).alloc hB0 _
  have hsA1 : wA.heap.size ≤ W.heap.size + 1 := by rw [← hwA]; simp
  have hsA2 : W.heap.size + 1 ≤ wA.heap.size := by rw [← hwA]; simp
  have hk0 : ∀ {w' : World}, Below B0 W w' → BoolRow (fun k => B0 ≤ k) w' (.slice ka keep.length kcap) keep := fun hb => hkeep.kept ⟨hb.os, hb.tape, hb.output, hb.size, fun k hk _ => hb.block k (by omega)⟩
  have e0 := bx0.c0
  have e1 := bx0.c1
  have e2 := bx0.c2
  have e3 := bx0.c3
  go_wp2_with (first
    | (refine wpList_make_full _ (by rfl) _ _ 31 (by rfl) wA.heap.size 4 i0 (.bool false) 1 Try.underlying31 hi0 hz0 hz1 .i64 .i64 (keep.length : Int) (keep.length : Int) keep.length (by rfl) (by rfl) rfl rfl (by rw [hz2]; omega) (by unfold maxLen; omega) (Nat.le_refl _) ?_; intro w1 hown hgrow; rw [made_bool] at hown; have b1 : Below wA.heap.size wA w1 := (Below.refl _ _).grown hgrow (Nat.le_refl _) (fun k hk => by cases hk); have hg1 := row_whole hown; have f3 := (bx0.kept (Sq.Kept.of_below (T := fun _ => True) b1) trivial).c3)
    | (refine wpList_copy_splice (by rfl) _ _ _ _ (by rfl) 4 Try.underlying31 hinfo (some ⟨wA.heap.size, 0, none⟩) ka keep.length keep.length keep.length kcap (by rfl) (by rfl) wA.heap.size 0 (List.replicate keep.length (.bool false)) 4 hg1 (bCells keep) (by rw [bCells_len]; simp) (copy_src (hk0 (b0.trans (b1.mono (by omega)))) wA.heap.size) (by rw [bCells_len]; simp) (fun v hv => by obtain ⟨x, _, rfl⟩ := List.mem_map.1 hv; rfl) wA.heap.size wA b1 (Nat.le_refl _) ?_; intro w2 hg2 b2; have T2 := T0.below D b2; have bx2 := bx0.kept (Sq.Kept.of_below (T := fun _ => True) b2) trivial; have g1 := bx2.c1; have g2 := bx2.c2; have g3 := bx2.c3; have hg2' := hg2.out; rw [splice_all _ _ (bCells_len keep)] at hg2'; have hbr2 : BoolRow Sd w2 (.slice (some ⟨wA.heap.size, 0, none⟩) keep.length keep.length) keep := bool_row_own hg2' (fun hs => by have := (D.lo h.dev _ hs).2; omega); have HG2 := Lib.hid hg2'; clear hg2 hg2')
    | (go_at_call 12; refine (D.crash T2.dev hn _ keep i n hbr2 (by omega) hi hm).mono ?_; rintro e w3 ⟨⟨v3, rfl⟩, S3, hd3, st3⟩; obtain ⟨T3, B3⟩ := T2.stepD D hd3 st3; have bx3 := bx2.kept st3.kept hd0; have i1 := bx3.c1; have i2 := bx3.c2; have i3 := bx3.c3; have hbr3 := hbr2.kept st3.kept; have hks3 := (hk0 ((b0.trans (b2.mono T0.base)).trans B3)).less (S' := Sr) (fun k hs => (h.ref.lo k hs).1))
    | (go_at_call 13; refine (refCrash_any T3.ref hn.ok hn.wait hn.epochs _ keep hks3 (by omega) i n hi.1 hi.2 hm.1 hm.2).mono ?_; rintro e w4 ⟨⟨v4, rfl⟩, hr4, st4⟩; obtain ⟨T4, B4⟩ := T3.stepR D hr4 st4; have bx4 := bx3.kept st4.kept hr0))
  have hB4 : Below B0 W w4 := ((b0.trans (b2.mono T0.base)).trans B3).trans B4
  have hgS : w4.heap[wA.heap.size]? = some (.cells (bCells keep).toArray 4 (0, 0)) := by
    have l2 := (Array.getElem?_eq_some_iff.1 HG2.out).1
    have e3 := (st3.kept.block wA.heap.size (fun hs => by have := (D.lo h.dev _ hs).2; omega) l2).trans HG2.out
    exact (st4.kept.block wA.heap.size (fun hs => by have := (h.ref.lo _ hs).2; omega) (Array.getElem?_eq_some_iff.1 e3).1).trans e3
  have hbr4 : BoolRow (fun _ => False) w4 (.slice (some ⟨wA.heap.size, 0, none⟩) keep.length keep.length) keep := bool_row_own hgS (fun h => h)
  obtain ⟨_, _, b4, o4, hv4, _, hc4⟩ := hk0 hB4
  have hsrc4 : ∀ j (hj : j < keep.length), w4.cell? ⟨kb, koff + j, none⟩ = some (.bool keep[j]) := fun j hj => by
    have hlt : kb < B0 := by have := (hka (by omega)).2; omega
    exact (hB4.cell (p := ⟨kb, koff + j, none⟩) hlt).trans (hkc j hj)
  have hown4 : ∀ j (hj : j < keep.length), w4.cell? ⟨wA.heap.size, j, none⟩ = some (.bool keep[j]) := fun j hj => by simp [World.cell?, hgS, bCells, hj]
  have HS4 := Lib.hid hsrc4
  have HO4 := Lib.hid hown4
  have c34 := bx4.c3
  have hl4 := bx4.lt
  have hlg : wA.heap.size < w4.heap.size := (Array.getElem?_eq_some_iff.1 hgS).1
  clear hsrc4 hown4 hgS hbr4 hc4 hkc hk0 hbr2 hbr3 hks3 hkeep HG2 T0 T2 T3 st3 st4 hd3 hr4 B3 B4 bx0 bx2 bx3 bx4 b0 b1 b2 hwA hown hgrow hg1 f3 e0 e1 e2 e3 g1 g2 g3 i1 i2 i3
  go_loopw [17] (fun j wr => ∃ k : Nat, k ≤ keep.length ∧ j = .int .i64 k ∧ Below w4.heap.size w4 wr) (fun j _ => keep.length - (intOf j).toNat)
  case atStart => exact ⟨0, Nat.zero_le _, rfl, Below.refl _ _⟩
  case round =>
    obtain ⟨k, hk, rfl, hb⟩ := hrel
    by_cases hlt : k < keep.length
    · obtain ⟨rfl, hkb⟩ := hka (by omega)
      have hs := HS4.out k hlt
      have ho := HO4.out k hlt
      have hs' := (hb.cell (p := ⟨kb, koff + k, none⟩) (World.block_lt_of_cell? _ _ hs)).trans hs
      have ho' := (hb.cell (p := ⟨wA.heap.size, k, none⟩) hlg).trans ho
      have c3' := (hb.cell (p := ⟨W.heap.size, 3, none⟩) hl4).trans c34
      have hi1 : (0 : Int) ≤ (k : Int) ∧ (k : Int) < (keep.length : Int) := by omega
      generalize keep[k] = x at hs ho hs' ho'
      clear hs ho
      go_wp2_with fail
      go_quiet (fail)
      go_wp2_with fail
      go_roundw
      case rel => exact ⟨k + 1, by omega, by go_num, below_drewN hb _⟩
      case measure => simp [intOf]; omega
    · obtain rfl : k = keep.length := by omega
      go_wp2_with fail
      go_ret
      exact ⟨rfl, S3, Sr, _, T4.below D hb, hB4.trans (hb.mono T4.base), Bl.Near.crash hn.ok keep i n⟩
end Go.Proofs.Ytdidcopfkjnkdaa
