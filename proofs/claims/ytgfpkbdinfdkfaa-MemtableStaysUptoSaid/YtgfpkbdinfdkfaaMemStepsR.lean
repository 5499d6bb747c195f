/-
  The document's table of versions (tapestryref06.Table): Steps.
-/
import Derived.Test.YtgfpkbdinfdkfaaMemTabR
namespace Go.Proofs.Ytgfpkbdinfdkfaa
open Go.RowKit
set_option linter.unusedSimpArgs false
set_option linter.unusedVariables false
namespace Mt
open Op (bytesLess)
open Vs (Vers At vcs)
/-- along one level, from place i on -/
def inGo (t : Tab) (key : List UInt8) (l : Int) : Nat → Nat → Int → Nat → Int × Nat
  | 0, _, p, n => (p, n)
  | f + 1, i, p, n => if h : i < t.length then (if bytesLess t[i].1.key key = true then (if l < (t[i].2 : Int) then inGo t key l f (i + 1) (i : Int) (n + 1) else inGo t key l f (i + 1) p n) else (p, n)) else (p, n)
/-- down the levels -/
def stGo (t : Tab) (key : List UInt8) : Nat → Int → Nat → Nat
  | 0, _, n => n
  | k + 1, p, n => stGo t key k (inGo t key (k : Int) (t.length - (p + 1).toNat) (p + 1).toNat p n).1 (inGo t key (k : Int) (t.length - (p + 1).toNat) (p + 1).toNat p n).2
/-- P6.7 -/
def steps (t : Tab) (key : List UInt8) : Nat := stGo t key 8 (-1) 0
theorem in_step {t : Tab} {key : List UInt8} {l : Int} {i : Nat} {p : Int} {n : Nat} (h : i < t.length) (hb : bytesLess t[i].1.key key = true) :
    inGo t key l (t.length - i) i p n = if l < (t[i].2 : Int) then inGo t key l (t.length - (i + 1)) (i + 1) (i : Int) (n + 1) else inGo t key l (t.length - (i + 1)) (i + 1) p n := by
  rw [show t.length - i = (t.length - (i + 1)) + 1 by omega, inGo, dif_pos h, if_pos hb]
theorem in_stop {t : Tab} {key : List UInt8} {l : Int} {i : Nat} {p : Int} {n : Nat} (h : i < t.length) (hb : bytesLess t[i].1.key key = false) : inGo t key l (t.length - i) i p n = (p, n) := by
  rw [show t.length - i = (t.length - (i + 1)) + 1 by omega, inGo, dif_pos h, if_neg (by rw [hb]; simp)]
theorem in_end {t : Tab} {key : List UInt8} {l : Int} {i : Nat} {p : Int} {n : Nat} (h : t.length ≤ i) : inGo t key l (t.length - i) i p n = (p, n) := by
  rw [show t.length - i = 0 by omega, inGo]

set_option maxRecDepth 100000 in
set_option maxHeartbeats 8000000 in
theorem stepsR_any (b : Nat) (lv hv : Value) (t : Tab) (key : List UInt8) (w : World) (hT : RTab w b lv hv t) (hL : t.length ≤ 1099511627776) (hk : key.length ≤ 1048576) :
    Calls Try.prog 30 #[.pointer (some ⟨b, 0, none⟩), .string (Cd.bs key)] w fun e w' => e = .returned (.int .i64 (steps t key : Nat)) ∧ Below w.heap.size w w' := by
  obtain ⟨ho, ⟨a, cap, fb, fo, rfl, ha, hcells⟩, ⟨a', cap', gb, go', rfl, ha', hcells'⟩⟩ := hT
  have hvl : (vers t).length = t.length := by simp [vers]
  have hhl : (hgts t).length = t.length := by simp [hgts]
  have HC := Lib.hid (fun q (hq : q < t.length) => (show w.cell? ⟨fb, fo + q * 4, none⟩ = some (.string (Cd.bs t[q].1.key)) from by have := (hcells q (by omega)).1; simpa [vers] using this))
  have HD := Lib.hid (fun q (hq : q < t.length) => (show w.cell? ⟨gb, go' + q, none⟩ = some (.int .i64 (t[q].2 : Int)) from by have := hcells' q (by omega); simpa [hgts] using this))
  have HB := Lib.hid (fun W (hb : Below w.heap.size w W) => ho.below hb)
  have hbl := ho.lt
  rw [hvl] at ha ho HB
  rw [hhl] at ha' ho HB
  rw [hvl, hhl] at *
  clear hcells hcells' hvl hhl ho
  have HST : Hid (steps t key = stGo t key 8 (-1) 0) := rfl
  generalize hr : steps t key = r at *
  clear hr
  go_enter Try.func30, Try.ntmps30
  go_wp2_with fail
  go_loopw [5, 6, 7] (fun nv pv lvv wr => ∃ (k n : Nat) (p : Int), k ≤ 8 ∧ lvv = .int .i64 ((k : Int) - 1) ∧ nv = .int .i64 (n : Int) ∧ pv = .int .i64 p ∧ -1 ≤ p ∧ p < (t.length : Int) ∧ n + k * t.length ≤ 8 * t.length ∧ Hid (r = stGo t key k p n) ∧ Below w.heap.size w wr) (fun _ _ lvv _ => (intOf lvv + 1).toNat)
  case atStart => exact ⟨8, 0, -1, Nat.le_refl _, rfl, rfl, rfl, by omega, by omega, by omega, HST, Below.refl _ _⟩
  case round =>
    obtain ⟨k, n, p, hk8, rfl, rfl, rfl, hp1, hp2, hn, hst, hB⟩ := hrel
    by_cases hk0 : k = 0
    · subst hk0
      have HE := Lib.hid (show r = n by rw [hst.out]; rfl)
      have hneg : ¬ (0 : Int) ≤ ((0 : Nat) : Int) - 1 := by omega
      go_wp2_with fail
      go_ret
      exact ⟨by rw [HE.out]; rfl, hB⟩
    · obtain ⟨k', rfl⟩ : ∃ k', k = k' + 1 := ⟨k - 1, by omega⟩
      have hlv : ((k' + 1 : Nat) : Int) - 1 = (k' : Int) := by omega
      rw [hlv]
      have HG := Lib.hid (show r = stGo t key k' (inGo t key (k' : Int) (t.length - (p + 1).toNat) (p + 1).toNat p n).1 (inGo t key (k' : Int) (t.length - (p + 1).toNat) (p + 1).toNat p n).2 from hst.out)
      have hmul : (k' + 1) * t.length = k' * t.length + t.length := Nat.succ_mul _ _
      obtain ⟨M, hM⟩ : ∃ M, M = k' * t.length := ⟨_, rfl⟩
      rw [hmul, ← hM] at hn
      have HM := Lib.hid hM
      clear hst hlv hmul hM
      obtain ⟨wo, rfl⟩ : ∃ wo : World, wo = wr := ⟨_, rfl⟩
      go_wp2_with fail
      go_loopw [5, 6, 8] (fun nv pv iv wr => ∃ (i n : Nat) (p : Int), i ≤ t.length ∧ iv = .int .i64 (i : Int) ∧ nv = .int .i64 (n : Int) ∧ pv = .int .i64 p ∧ -1 ≤ p ∧ p < (t.length : Int) ∧ n + (t.length - i) + M ≤ 8 * t.length ∧ Hid (r = stGo t key k' (inGo t key (k' : Int) (t.length - i) i p n).1 (inGo t key (k' : Int) (t.length - i) i p n).2) ∧ Below w.heap.size w wr) (fun _ _ iv _ => t.length - (intOf iv).toNat)
      case atStart => exact ⟨(p + 1).toNat, n, p, by omega, by rw [show ((p + 1).toNat : Int) = p + 1 by omega], rfl, rfl, hp1, hp2, by omega, HG, hB⟩
      case round =>
        clear hn hp1 hp2 HG hB
        obtain ⟨i, n, p, hi, rfl, rfl, rfl, hp1, hp2, hn, hst, hB⟩ := hrel
        have oR := HB.out wr hB
        have b0 := oR.cell 0
        have b1 := oR.cell 1
        simp at b0 b1
        by_cases hlt : i < t.length
        · obtain ⟨rfl, hfb⟩ := ha (by omega)
          obtain ⟨rfl, hgb⟩ := ha' (by omega)
          have e0 := (hB.cell (p := ⟨fb, fo + i * 4, none⟩) hfb).trans (HC.out i hlt)
          have d0 := (hB.cell (p := ⟨gb, go' + i, none⟩) hgb).trans (HD.out i hlt)
          have hi1 : (0 : Int) ≤ (i : Int) ∧ (i : Int) < (t.length : Int) := by omega
          have HIS := Lib.hid (fun hb => @in_step t key (k' : Int) i p n hlt hb)
          have HIX := Lib.hid (fun hb => @in_stop t key (k' : Int) i p n hlt hb)
          generalize t[i] = x at *
          obtain ⟨⟨xk, sq, d, val⟩, hh⟩ := x
          simp only at e0 d0
          cases hb : bytesLess xk key with
          | true =>
            have hin := HIS.out hb
            simp only at hin
            by_cases h2 : (k' : Int) < (hh : Int)
            · rw [if_pos h2] at hin
              have HN := Lib.hid (show r = stGo t key k' (inGo t key (k' : Int) (t.length - (i + 1)) (i + 1) (i : Int) (n + 1)).1 (inGo t key (k' : Int) (t.length - (i + 1)) (i + 1) (i : Int) (n + 1)).2 by rw [hst.out, hin])
              clear hin HIS HIX hst
              go_wp2_with fail
              go_roundw
              case rel => exact ⟨i + 1, n + 1, (i : Int), by omega, by go_num, by go_num, rfl, by omega, by omega, by omega, HN, hB⟩
              case measure => simp [intOf]; omega
            · rw [if_neg h2] at hin
              have HN := Lib.hid (show r = stGo t key k' (inGo t key (k' : Int) (t.length - (i + 1)) (i + 1) p n).1 (inGo t key (k' : Int) (t.length - (i + 1)) (i + 1) p n).2 by rw [hst.out, hin])
              clear hin HIS HIX hst
              go_wp2_with fail
              go_roundw
              case rel => exact ⟨i + 1, n, p, by omega, by go_num, rfl, rfl, by omega, by omega, by omega, HN, hB⟩
              case measure => simp [intOf]; omega
          | false =>
            have HN := Lib.hid (show r = stGo t key k' p n by rw [hst.out, HIX.out hb])
            have HNM := Lib.hid (show n + k' * t.length ≤ 8 * t.length by rw [← HM.out]; omega)
            clear HIS HIX hst
            go_wp2_with fail
            go_roundw
            case rel => exact ⟨k', n, p, by omega, rfl, rfl, rfl, by omega, by omega, HNM.out, HN, hB⟩
            case measure => simp [intOf]
        · have HN := Lib.hid (show r = stGo t key k' p n by rw [hst.out, in_end (by omega)])
          have HNM := Lib.hid (show n + k' * t.length ≤ 8 * t.length by rw [← HM.out]; omega)
          have hli : ¬ (i : Int) < (t.length : Int) := by omega
          clear hst
          go_wp2_with fail
          go_roundw
          case rel => exact ⟨k', n, p, by omega, rfl, rfl, rfl, by omega, by omega, HNM.out, HN, hB⟩
          case measure => simp [intOf]
end Mt
end Go.Proofs.Ytgfpkbdinfdkfaa
