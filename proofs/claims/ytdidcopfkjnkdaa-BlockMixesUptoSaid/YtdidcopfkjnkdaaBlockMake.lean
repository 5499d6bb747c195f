/-
  Noughts, filled, SameInts.
-/
import Derived.Test.YtdidcopfkjnkdaaBlockRefD
import Derived.Test.YtdidcopfkjnkdaaCodecKey
import Derived.BigQuiet
import Derived.Deep.QuietTactic
namespace Go.Proofs.Ytdidcopfkjnkdaa
open Go.RowKit
set_option linter.unusedSimpArgs false
set_option linter.unusedVariables false

theorem below_drewN {B : Nat} {a w : World} (h : Below B a w) (n : Nat) : Below B a (w.drewN n) := ⟨h.os, h.tape, h.output, h.size, h.block⟩
theorem cs_map (l : List UInt8) : Cd.cs l = l.map fun c => Value.int .u8 (c.toNat : Int) := rfl
theorem made_u8 (n : Nat) : (madeCells (Value.int .u8 0).cells (n * 1)).toList = Cd.cs (List.replicate n 0) := by
  rw [show (Value.int .u8 0).cells = #[Value.int .u8 0] from rfl, Nat.mul_one, toList_madeCells_one, cs_map, List.map_replicate]; rfl

set_option maxRecDepth 100000 in
set_option maxHeartbeats 1000000 in
theorem noughtsr_any (n : Nat) (w : World) (hn : n ≤ 1048576) :
    Calls Try.prog 19 #[.int .i64 (n : Int)] w fun e w' => e = .returned (.string (Cd.bs (List.replicate n 0))) ∧ Below w.heap.size w w' := by
  obtain ⟨i0, hi, hz0, hz1, hz2⟩ := info_parts info_u8
  go_enter Try.func19, Try.ntmps19
  go_wp2_with (refine wpList_make_full _ (by rfl) _ _ 69 (by rfl) w.heap.size 5 i0 (.int .u8 0) 1 Try.underlying69 hi hz0 hz1 .i64 .i64 (n : Int) (n : Int) n (by rfl) (by rfl) rfl rfl (by rw [hz2]; omega) (by unfold maxLen; omega) (Nat.le_refl _) ?_; intro w1 hown hgrow; rw [made_u8] at hown; have hcv := conv_any (l := List.replicate n 0) (by rw [List.length_replicate]; exact hown))
  go_ret
  exact ⟨rfl, (Below.refl _ _).grown hgrow (Nat.le_refl _) (fun k hk => by cases hk)⟩

/-- the law's own bytes: of a number -/
def fillB (n : Int) (i : Nat) : UInt8 := UInt8.ofNat (((n + (i : Int) % 7) % 256).toNat)
def fillD (n : Int) (many : Nat) : List UInt8 := (List.range many).map (fillB n)
def fillPart (n : Int) (many k : Nat) : List UInt8 := (List.range many).map fun i => if i < k then fillB n i else 0
theorem fillPart_zero (n : Int) (many : Nat) : fillPart n many 0 = List.replicate many 0 := by
  unfold fillPart; apply List.ext_getElem <;> simp
theorem fillPart_done (n : Int) (many : Nat) : fillPart n many many = fillD n many := by
  unfold fillPart fillD; apply List.map_congr_left; intro i hi; rw [if_pos (by simpa using hi)]
theorem fillPart_len (n : Int) (many k : Nat) : (fillPart n many k).length = many := by simp [fillPart]
theorem fillD_len (n : Int) (many : Nat) : (fillD n many).length = many := by simp [fillD]
theorem fillPart_get (n : Int) (many k j : Nat) (hj : j < many) : (Cd.cs (fillPart n many k))[j]? = some (.int .u8 (((if j < k then fillB n j else 0 : UInt8)).toNat : Int)) := by
  rw [cs_map]; simp [fillPart, hj]
theorem fillPart_set (n : Int) (many k : Nat) (hk : k < many) (v : Int) (hv : v = ((fillB n k).toNat : Int)) : (Cd.cs (fillPart n many k)).set k (.int .u8 v) = Cd.cs (fillPart n many (k + 1)) := by
  apply List.ext_getElem?
  intro j
  by_cases hj : j < many
  · rw [List.getElem?_set, fillPart_get n many (k + 1) j hj]
    by_cases hjk : k = j
    · subst hjk
      rw [if_pos rfl, if_pos (by rw [cs_map]; simp [fillPart, hj]), if_pos (by omega), hv]
    · rw [if_neg hjk, fillPart_get n many k j hj]
      by_cases h3 : j < k
      · rw [if_pos h3, if_pos (by omega)]
      · rw [if_neg h3, if_neg (by omega)]
  · have hl : ∀ k, (Cd.cs (fillPart n many k)).length = many := fun k => by rw [cs_map]; simp [fillPart]
    rw [List.getElem?_eq_none (by rw [List.length_set, hl]; omega), List.getElem?_eq_none (by rw [hl]; omega)]
theorem fill_val (n : Int) (k : Nat) (hn1 : -9223372036854775808 ≤ n) (hn2 : n ≤ 9223372036854775807) : wrap64 (n + (k : Int) % 7) % 256 = ((fillB n k).toNat : Int) := by
  unfold fillB wrap64
  rw [UInt8.toNat_ofNat']
  omega

set_option maxRecDepth 100000 in
set_option maxHeartbeats 2000000 in
theorem filled_any (n : Int) (many : Nat) (w : World) (hn1 : -9223372036854775808 ≤ n) (hn2 : n ≤ 9223372036854775807) (hm : many ≤ 1048576) :
    Calls Try.prog 17 #[.int .i64 n, .int .i64 (many : Int)] w fun e w' => e = .returned (.string (Cd.bs (fillD n many))) ∧ Below w.heap.size w w' := by
  obtain ⟨i0, hi, hz0, hz1, hz2⟩ := info_parts info_u8
  go_enter Try.func17, Try.ntmps17
  go_wp2_with (refine wpList_make_full _ (by rfl) _ _ 69 (by rfl) w.heap.size 5 i0 (.int .u8 0) 1 Try.underlying69 hi hz0 hz1 .i64 .i64 (many : Int) (many : Int) many (by rfl) (by rfl) rfl rfl (by rw [hz2]; omega) (by unfold maxLen; omega) (Nat.le_refl _) ?_; intro w1 hown hgrow; rw [made_u8] at hown)
  have hb1 : Below w.heap.size w w1 := (Below.refl _ _).grown hgrow (Nat.le_refl _) (fun k hk => by cases hk)
  go_loopw [6] (fun i wr => ∃ k : Nat, k ≤ many ∧ i = .int .i64 k ∧ wr.ownsRow w.heap.size 5 1 (.slice (some ⟨w.heap.size, 0, none⟩) many many) many (Cd.cs (fillPart n many k)) ∧ Below w.heap.size w wr) (fun i _ => many - (intOf i).toNat)
  case atStart => exact ⟨0, Nat.zero_le _, rfl, by rw [fillPart_zero]; exact hown, hb1⟩
  case round =>
    obtain ⟨k, hk, rfl, hr, hb⟩ := hrel
    by_cases hlt : k < many
    · have hcell := hr.cellAt k (by omega)
      have hcell2 : wr.cell? ⟨w.heap.size, k, none⟩ = some (.int .u8 0) := by rw [hcell, fillPart_get n many k k hlt, if_neg (Nat.lt_irrefl k)]; rfl
      have hfr := hr.frozenAt k
      have hst := fun v => (World.ownsRow.stored hr k v).1
      have hv := fill_val n k hn1 hn2
      have HST := Lib.hid hst
      have HV := Lib.hid hv
      clear hcell hst hv hr
      go_wp2_with fail
      go_roundw
      case rel => exact ⟨k + 1, by omega, by go_num, by rw [← fillPart_set n many k hlt _ HV.out]; exact HST.out _, hb.setCell (p := ⟨w.heap.size, k, none⟩) (Nat.le_refl _) _⟩
      case measure => simp [intOf]; omega
    · obtain rfl : k = many := by omega
      have hcv := conv_any (l := fillD n k) (by rw [fillD_len, ← fillPart_done]; exact hr)
      go_wp2_with fail
      go_ret
      exact ⟨rfl, hb⟩

/-- numbers as cells -/
abbrev iCells (l : List Nat) : List Value := l.map fun (k : Nat) => Value.int .i64 (k : Int)

set_option maxRecDepth 100000 in
set_option maxHeartbeats 2000000 in
/-- two rows of the same numbers are alike -/
theorem sameInts_any (l : List Nat) (w : World) {n1 n2 : Nat} {v1 v2 : Value} (h1 : w.ownsRow n1 3 1 v1 l.length (iCells l)) (h2 : w.ownsRow n2 3 1 v2 l.length (iCells l)) (hl : l.length ≤ 1073741824) (hle : ∀ x ∈ l, x ≤ 16384) :
    Calls Try.prog 35 #[v1, v2] w fun e w' => e = .returned (.bool true) ∧ Below w.heap.size w w' := by
  obtain ⟨a1, cap1, rfl, hg1⟩ := Sq.row_cases h1
  obtain ⟨a2, cap2, rfl, hg2⟩ := Sq.row_cases h2
  go_enter Try.func35, Try.ntmps35
  go_wp2_with fail
  go_loopw [5] (fun i wr => ∃ k : Nat, k ≤ l.length ∧ i = .int .i64 k ∧ Below w.heap.size w wr) (fun i _ => l.length - (intOf i).toNat)
  case atStart => exact ⟨0, Nat.zero_le _, rfl, Below.refl _ _⟩
  case round =>
    obtain ⟨k, hk, rfl, hb⟩ := hrel
    by_cases hlt : k < l.length
    · obtain ⟨g1, rfl, _, hl1⟩ := hg1 (by omega)
      obtain ⟨g2, rfl, _, hl2⟩ := hg2 (by omega)
      have e1 : wr.cell? ⟨g1, k, none⟩ = some (.int .i64 (l[k] : Int)) := (hb.cell (p := ⟨g1, k, none⟩) hl1).trans ((h1.cellAt k (by omega)).trans (by simp [hlt]))
      have e2 : wr.cell? ⟨g2, k, none⟩ = some (.int .i64 (l[k] : Int)) := (hb.cell (p := ⟨g2, k, none⟩) hl2).trans ((h2.cellAt k (by omega)).trans (by simp [hlt]))
      have hi1 : (0 : Int) ≤ (k : Int) ∧ (k : Int) < (l.length : Int) := by omega
      have hx := hle l[k] (List.getElem_mem hlt)
      generalize l[k] = x at e1 e2 hx
      go_wp2_with fail
      go_quiet (fail)
      go_wp2_with fail
      go_roundw
      case rel => exact ⟨k + 1, by omega, by go_num, below_drewN hb _⟩
      case measure => simp [intOf]; omega
    · obtain rfl : k = l.length := by omega
      go_wp2_with fail
      go_ret
      exact ⟨rfl, hb⟩
end Go.Proofs.Ytdidcopfkjnkdaa
