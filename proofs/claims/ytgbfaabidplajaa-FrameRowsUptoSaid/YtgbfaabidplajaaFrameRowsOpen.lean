/-
  A slice of frames that came in, opened.
-/
import Derived.Test.YtgbfaabidplajaaFrameRowsP
import Derived.Test.YtgbfaabidplajaaCodecText
import Derived.Test.YtgbfaabidplajaaBulk
import Derived.Deep.SlicePairs
import Derived.Carry
import Derived.WideShapes
import Derived.RowKit
import Derived.Deep.AppendLies
import Derived.Laws.Pointers
namespace Go.Proofs.Ytgbfaabidplajaa
open Go.RowKit Go.ChangeShapes Go.WideShapes Go.Deep
set_option linter.unusedVariables false

theorem laidOut : laidOutB Try.prog = true := by kernel_rfl

theorem frames_list {H : Type} {enc : TypeId × Value → H} {W : World} {len n : Nat} {a : Addr} {V0 V1 : Nat → Value} {D0 D1 : Nat → DataW H} {P0 P1 : Nat → List MemPlace} {f0 f1 : Field} (t0 : f0.type = 5) (t1 : f1.type = 9)
    (hf : ∀ i, i < len → W.cell? (a.add (i * 2)) = some (V0 i) ∧ W.cell? (a.add (i * 2 + 1)) = some (V1 i) ∧
      DataW.trod enc Try.prog W 0 (fun _ => true) true n f0.type [V0 i] = some (D0 i, P0 i) ∧ DataW.trod enc Try.prog W 0 (fun _ => true) true n f1.type [V1 i] = some (D1 i, P1 i)) :
    ∃ L : List Fr.Fm, L.length = len ∧ (∀ i (h : i < L.length), W.cell? (a.add (i * 2)) = some (.int .u8 (L[i].1.toNat : Int)) ∧ W.cell? (a.add (i * 2 + 1)) = some (.string (Cd.bs L[i].2))) ∧
      Fr.bulkF L ≤ ((List.range len).map fun i => Rows.uptoBulk (DataW.agg [D0 i, D1 i])).sum := by
  induction len with
  | zero => exact ⟨[], rfl, fun i h => by simp at h, by simp [Fr.bulkF]⟩
  | succ len ih =>
    obtain ⟨L, hL, hc, hb⟩ := ih (fun i hi => hf i (by omega))
    obtain ⟨c0, c1, r0, r1⟩ := hf len (by omega)
    rw [t0] at r0
    rw [t1] at r1
    obtain ⟨x, e0, y0, w0⟩ := DataW.trod_int Try.underlying5 r0
    obtain ⟨s, e1, y1, w1⟩ := DataW.trod_string Try.underlying9 r1
    simp only [List.cons.injEq, and_true] at e0 e1
    have hx : 0 ≤ x ∧ x ≤ 255 := by simpa [Lit.wf, IntKind.min, IntKind.max, IntKind.signed, IntKind.bits] using w0
    refine ⟨L ++ [(UInt8.ofNat x.toNat, s.data.toList)], by simp [hL], fun i hi => ?_, ?_⟩
    · by_cases h : i < L.length
      · rw [List.getElem_append_left h]; exact hc i h
      · obtain rfl : i = L.length := by simp at hi; omega
        rw [List.getElem_append_right (Nat.le_refl _)]
        simp only [Nat.sub_self, List.getElem_cons_zero]
        rw [hL, c0, c1, e0, e1]
        refine ⟨?_, ?_⟩
        · congr 2; rw [UInt8.toNat_ofNat']; omega
        · first | rfl | (congr 2; exact (Lib.mk_data s).symm)
    · have hy : D1 len = .lit (.string s.data.toList) := by simpa using congrArg Prod.fst y1
      have h0 : D0 len = .lit (.int .u8 x) := by simpa using congrArg Prod.fst y0
      rw [List.range_succ, List.map_append, List.sum_append]
      have : Fr.bulkF (L ++ [(UInt8.ofNat x.toNat, s.data.toList)]) = Fr.bulkF L + (s.data.toList.length + 1) := by simp [Fr.bulkF]
      rw [this]
      have hu : Rows.uptoBulk (DataW.agg [D0 len, D1 len]) = s.data.toList.length + 3 := by rw [hy, h0]; simp only [Rows.uptoBulk, Rows.uptoBulkAll]; omega
      simp only [List.map_cons, List.map_nil, List.sum_cons, List.sum_nil, hu]
      omega

theorem open_frames {H : Type} {enc : TypeId × Value → H} {W : World} {B : Nat} {v : Value} {d : DataW H} {p : List MemPlace} {base : Nat} (hv : Value.okWide Try.prog W .any base 48 v)
    (h : DataW.Trod enc Try.prog W 0 (fun _ => true) true 48 v d p) (hlt : ∀ x ∈ p, x.block < W.heap.size) (hB : Rows.uptoBulk d ≤ B) :
    ∃ (a : Option Addr) (cap b off : Nat) (L : List Fr.Fm), v = .slice a L.length cap ∧ (0 < L.length → a = some ⟨b, off, none⟩ ∧ b < W.heap.size) ∧
      (∀ i (h : i < L.length), W.cell? ⟨b, off + i * 2, none⟩ = some (.int .u8 (L[i].1.toNat : Int)) ∧ W.cell? ⟨b, off + i * 2 + 1, none⟩ = some (.string (Cd.bs L[i].2))) ∧ Fr.bulkF L ≤ B := by
  obtain ⟨a, len, cap, rfl⟩ := okWide_slice Try.underlying48 hv
  obtain ⟨fuel, hf⟩ := h
  rcases open_slice_pairs Try.underlying48 Try.underlying23 (by kernel_rfl) rfl rfl (by kernel_rfl) (by kernel_rfl) hf with ⟨hcs, hx⟩ | ⟨a', len', cap', m, n, V0, V1, D0, D1, P0, P1, hcs, _, hl, hm, hmm, hx, hi⟩
  · simp [Value.cells] at hcs
    obtain ⟨rfl, rfl, rfl⟩ := hcs
    exact ⟨none, 0, 0, 0, [], rfl, fun h => by simp at h, fun i h => by simp at h, by simp [Fr.bulkF]⟩
  · simp [Value.cells] at hcs
    obtain ⟨rfl, rfl, rfl⟩ := hcs
    have hlm : len ≤ m := by rw [hmm]; split <;> omega
    obtain ⟨L, hL, hc, hb⟩ := frames_list (W := W) (len := len) (a := a') rfl rfl (fun i hi' => hi i (by omega))
    simp only [Prod.mk.injEq] at hx
    have hbb : Fr.bulkF L ≤ B := by
      refine Nat.le_trans hb (Nat.le_trans ?_ hB)
      rw [hx.1]
      simp only [Rows.uptoBulk, Bk.all_range]
      omega
    subst hL
    by_cases h0 : 0 < L.length
    · have hcell := (hc 0 h0).1
      have hsp : a'.spot = none := by
        cases hs : a'.spot with
        | none => rfl
        | some sp =>
          have : W.cell? (a'.add (0 * 2)) = none := by
            unfold World.cell?
            have : (a'.add (0 * 2)).spot.isSome = true := by unfold Addr.add; split <;> simp_all
            split <;> simp_all
          rw [this] at hcell; cases hcell
      obtain ⟨b, off, sp⟩ := a'
      simp only at hsp
      subst hsp
      have hadd : ∀ k, (⟨b, off, none⟩ : Addr).add k = ⟨b, off + k, none⟩ := fun k => by unfold Addr.add; split <;> simp_all
      refine ⟨some ⟨b, off, none⟩, cap, b, off, L, rfl, fun _ => ⟨rfl, ?_⟩, fun i hi' => ?_, hbb⟩
      · have := World.block_lt_of_cell? W _ hcell
        rw [hadd] at this
        exact this
      · have := hc i hi'
        rw [hadd, hadd] at this
        simpa [Nat.add_assoc] using this
    · exact ⟨some a', cap, 0, 0, L, rfl, fun h => absurd h h0, fun i hi' => by omega, hbb⟩
end Go.Proofs.Ytgbfaabidplajaa
