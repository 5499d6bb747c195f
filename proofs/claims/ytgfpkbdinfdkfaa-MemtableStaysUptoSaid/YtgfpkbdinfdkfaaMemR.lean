/-
  The document's looks at rows of versions (tapestryref06): Same, Bytes, Newest, From.
-/
import Derived.Test.YtgfpkbdinfdkfaaMemPlain
import Derived.Test.YtgfpkbdinfdkfaaVers
import Derived.Test.YtgfpkbdinfdkfaaFramePutR
import Derived.Test.YtgfpkbdinfdkfaaFilesRootR
import Derived.Deep.LoopGhost
import Derived.LoopTactic
import Derived.BigQuiet
import Derived.Deep.QuietTactic
namespace Go.Proofs.Ytgfpkbdinfdkfaa
open Go.RowKit
set_option linter.unusedSimpArgs false
set_option linter.unusedVariables false
namespace Mt
open Vs (Vers At)

set_option maxRecDepth 100000 in
set_option maxHeartbeats 4000000 in
theorem sameR_eq (u v : Value) (L : List Ver) (w : World) (hU : Vers w.heap.size w u L) (hV : Vers w.heap.size w v L) (hL : L.length ≤ 4611686018427387904) :
    Calls Try.prog 11 #[u, v] w fun e w' => e = .returned (.bool true) ∧ Below w.heap.size w w' := by
  obtain ⟨a, cap, fb, fo, rfl, ha, hcells⟩ := hU
  obtain ⟨a', cap', gb, go', rfl, ha', hcells'⟩ := hV
  have HC := Lib.hid hcells
  have HD := Lib.hid hcells'
  clear hcells hcells'
  go_enter Try.func11, Try.ntmps11
  go_wp2_with fail
  go_loopw [5] (fun i wr => ∃ q : Nat, q ≤ L.length ∧ i = .int .i64 (q : Int) ∧ Below w.heap.size w wr) (fun i _ => L.length - (intOf i).toNat)
  case atStart => exact ⟨0, Nat.zero_le _, rfl, Below.refl _ _⟩
  case round =>
    obtain ⟨q, hq, rfl, hB⟩ := hrel
    by_cases hlt : q < L.length
    · obtain ⟨rfl, hfb⟩ := ha (by omega)
      obtain ⟨rfl, hgb⟩ := ha' (by omega)
      obtain ⟨e0, e1, e2, e3⟩ := (HC.out q hlt).below hB hfb
      obtain ⟨d0, d1, d2, d3⟩ := (HD.out q hlt).below hB hgb
      have hi1 : (0 : Int) ≤ (q : Int) ∧ (q : Int) < (L.length : Int) := by omega
      generalize L[q] = x at *
      obtain ⟨k, sq, d, val⟩ := x
      simp only at e0 e1 e2 e3 d0 d1 d2 d3
      go_wp2_with fail
      go_big_quiet (fail)
      go_wp2_with fail
      go_roundw
      case rel => exact ⟨q + 1, by omega, by go_num, belowN hB _⟩
      case measure => simp [intOf]; omega
    · obtain rfl : q = L.length := by omega
      go_wp2_with fail
      go_ret
      exact ⟨rfl, hB⟩

theorem bytes_take (L : List Ver) (q : Nat) (h : q < L.length) : ((L.take (q + 1)).map fun x => x.key.length + x.val.length + 16).sum = ((L.take q).map fun x => x.key.length + x.val.length + 16).sum + (L[q].key.length + L[q].val.length + 16) := by
  rw [List.take_succ_eq_append_getElem h, List.map_append, List.sum_append]
  simp
theorem bytes_le (L : List Ver) (h : ∀ x ∈ L, VerIn x) : ∀ q, ((L.take q).map fun x => x.key.length + x.val.length + 16).sum ≤ 2097168 * q := by
  intro q
  induction q with
  | zero => simp
  | succ q ih =>
    by_cases hq : q < L.length
    · rw [bytes_take L q hq]
      obtain ⟨h1, h2, _, _⟩ := h L[q] (List.getElem_mem hq)
      omega
    · rw [List.take_of_length_le (by omega), ← List.take_of_length_le (l := L) (i := q) (by omega)]
      omega

set_option maxRecDepth 100000 in
set_option maxHeartbeats 4000000 in
theorem bytesR6_any (v : Value) (L : List Ver) (w : World) (hV : Vers w.heap.size w v L) (hI : ∀ x ∈ L, VerIn x) (hL : L.length ≤ 1099511627776) :
    Calls Try.prog 28 #[v] w fun e w' => e = .returned (.int .i64 ((L.map fun x => x.key.length + x.val.length + 16).sum : Nat)) ∧ Below w.heap.size w w' := by
  obtain ⟨a, cap, fb, fo, rfl, ha, hcells⟩ := hV
  have HC := Lib.hid hcells
  have HLE := Lib.hid (bytes_le L hI)
  have HIN := Lib.hid hI
  clear hcells hI
  go_enter Try.func28, Try.ntmps28
  go_wp2_with fail
  go_loopw [3, 4] (fun n i wr => ∃ q : Nat, q ≤ L.length ∧ i = .int .i64 (q : Int) ∧ n = .int .i64 (((L.take q).map fun x => x.key.length + x.val.length + 16).sum : Nat) ∧ Below w.heap.size w wr) (fun _ i _ => L.length - (intOf i).toNat)
  case atStart => exact ⟨0, Nat.zero_le _, rfl, by simp, Below.refl _ _⟩
  case round =>
    obtain ⟨q, hq, rfl, rfl, hB⟩ := hrel
    by_cases hlt : q < L.length
    · obtain ⟨rfl, hfb⟩ := ha (by omega)
      obtain ⟨e0, e1, e2, e3⟩ := (HC.out q hlt).below hB hfb
      have hi1 : (0 : Int) ≤ (q : Int) ∧ (q : Int) < (L.length : Int) := by omega
      have HT := Lib.hid (bytes_take L q hlt)
      have hle := HLE.out q
      obtain ⟨h1, h2, _, _⟩ := HIN.out L[q] (List.getElem_mem hlt)
      generalize ((L.take q).map fun x => x.key.length + x.val.length + 16).sum = s1 at *
      generalize L[q] = x at *
      obtain ⟨k, sq, d, val⟩ := x
      simp only at e0 e1 e2 e3 h1 h2
      have hsk : (Cd.bs k).size = k.length := rfl
      have hsv : (Cd.bs val).size = val.length := rfl
      have w1 : IntKind.i64.wrap ((s1 : Int) + (k.length : Int)) = (s1 : Int) + (k.length : Int) := by rw [IntKind.wrap_i64]; omega
      have w2 : IntKind.i64.wrap ((s1 : Int) + (k.length : Int) + (val.length : Int)) = (s1 : Int) + (k.length : Int) + (val.length : Int) := by rw [IntKind.wrap_i64]; omega
      have w3 : IntKind.i64.wrap ((s1 : Int) + (k.length : Int) + (val.length : Int) + 16) = (s1 : Int) + (k.length : Int) + (val.length : Int) + 16 := by rw [IntKind.wrap_i64]; omega
      go_wp2_with fail
      go_big_quiet (fail)
      go_wp2_with fail
      go_roundw
      case rel => exact ⟨q + 1, by omega, by go_num, by rw [HT.out]; simp only [Value.int.injEq, true_and]; omega, belowN hB _⟩
      case measure => simp [intOf]; omega
    · obtain rfl : q = L.length := by omega
      have HE := Lib.hid (show ((L.take L.length).map fun x => x.key.length + x.val.length + 16).sum = (L.map fun x => x.key.length + x.val.length + 16).sum by rw [List.take_length])
      generalize ((L.take L.length).map fun x => x.key.length + x.val.length + 16).sum = s1 at *
      go_wp2_with fail
      go_ret
      exact ⟨by rw [← HE.out]; rfl, hB⟩
def isNew (key : List UInt8) (seq : Int) (x : Ver) : Bool := decide (x.key = key ∧ x.seq ≤ seq)
/-- P6.4 -/
def newestL (L : List Ver) (key : List UInt8) (seq : Int) : Option Ver := L.find? (isNew key seq)
def nwV : Option Ver → Value
  | some x => .tuple #[verV x, .bool true]
  | none => .tuple #[.agg #[.string (Cd.bs []), .int .u64 0, .bool false, .string (Cd.bs [])], .bool false]
theorem newest_some {L : List Ver} {key : List UInt8} {seq : Int} {q : Nat} (hq : q < L.length) (hall : ∀ j (h : j < L.length), j < q → isNew key seq L[j] = false) (h : isNew key seq L[q] = true) : newestL L key seq = some L[q] := by
  unfold newestL
  rw [List.find?_eq_some_iff_getElem]
  exact ⟨h, q, hq, rfl, fun j hj => by rw [hall j (by omega) hj]; rfl⟩
theorem newest_none {L : List Ver} {key : List UInt8} {seq : Int} (hall : ∀ j (h : j < L.length), isNew key seq L[j] = false) : newestL L key seq = none := by
  unfold newestL
  rw [List.find?_eq_none]
  intro x hx
  obtain ⟨j, hj, rfl⟩ := List.getElem_of_mem hx
  rw [hall j hj]
  simp

set_option maxRecDepth 100000 in
set_option maxHeartbeats 4000000 in
theorem newestR_any (v : Value) (L : List Ver) (key : List UInt8) (seq : Int) (w : World) (hV : Vers w.heap.size w v L) (hI : ∀ x ∈ L, VerIn x) (hL : L.length ≤ 1099511627776) (hk : key.length ≤ 1048576) :
    Calls Try.prog 26 #[v, .string (Cd.bs key), .int .u64 seq] w fun e w' => e = .returned (nwV (newestL L key seq)) ∧ Below w.heap.size w w' := by
  obtain ⟨a, cap, fb, fo, rfl, ha, hcells⟩ := hV
  have HC := Lib.hid hcells
  clear hcells
  have hA : Below w.heap.size w (w.alloc (.cells #[.string ⟨#[]⟩, .int .u64 0, .bool false, .string ⟨#[]⟩] 33)) := (Below.refl _ _).alloc (Nat.le_refl _) _
  have oA := Ob.Obj.new w 33 [.string ⟨#[]⟩, .int .u64 0, .bool false, .string ⟨#[]⟩]
  go_enter Try.func26, Try.ntmps26
  go_wp2_with fail
  go_loopw [8] (fun i wr => ∃ q : Nat, q ≤ L.length ∧ i = .int .i64 (q : Int) ∧ Hid (∀ j (h : j < L.length), j < q → isNew key seq L[j] = false) ∧ Below w.heap.size w wr ∧ Ob.Obj wr w.heap.size 33 [.string ⟨#[]⟩, .int .u64 0, .bool false, .string ⟨#[]⟩]) (fun i _ => L.length - (intOf i).toNat)
  case atStart => exact ⟨0, Nat.zero_le _, rfl, fun j _ h => absurd h (Nat.not_lt_zero _), hA, oA⟩
  case round =>
    obtain ⟨q, hq, rfl, hall, hB, oB⟩ := hrel
    have b0 := oB.cell 0
    have b1 := oB.cell 1
    have b2 := oB.cell 2
    have b3 := oB.cell 3
    have g0 := oB.frozen 0
    have g1 := oB.frozen 1
    have g2 := oB.frozen 2
    have g3 := oB.frozen 3
    have hz := oB.lt
    simp at b0 b1 b2 b3
    by_cases hlt : q < L.length
    · obtain ⟨rfl, hfb⟩ := ha (by omega)
      obtain ⟨e0, e1, e2, e3⟩ := (HC.out q hlt).below hB hfb
      have hi1 : (0 : Int) ≤ (q : Int) ∧ (q : Int) < (L.length : Int) := by omega
      have HS : Hid (isNew key seq L[q] = true → newestL L key seq = some L[q]) := fun h => newest_some hlt hall.out h
      have HN : Hid (isNew key seq L[q] = false → ∀ j (h : j < L.length), j < q + 1 → isNew key seq L[j] = false) := fun h j hj hjq => by
        rcases Nat.lt_or_ge j q with h1 | h1
        · exact hall.out j hj h1
        · obtain rfl : j = q := by omega
          exact h
      have hib : isNew key seq L[q] = decide (L[q].key = key ∧ L[q].seq ≤ seq) := rfl
      have hfb' : ¬ fb = w.heap.size := by omega
      generalize isNew key seq L[q] = ib at *
      generalize L[q] = x at *
      obtain ⟨k, sq, d, val⟩ := x
      simp only at e0 e1 e2 e3 hib
      by_cases h1 : k = key
      · by_cases h2 : sq ≤ seq
        · have hF := HS.out (by rw [hib]; simp [h1, h2])
          subst h1
          have HF := Lib.hid (show nwV (newestL L k seq) = .tuple #[.agg #[.string (Cd.bs k), .int .u64 sq, .bool d, .string (Cd.bs val)], .bool true] by rw [hF]; rfl)
          clear hib hF HS HN
          go_wp2_with fail
          exact bodyPost_ret (v := .tuple #[.agg #[.string (Cd.bs k), .int .u64 sq, .bool d, .string (Cd.bs val)], .bool true]) (by simp [results, Try.results26, go_sem, b0, b1, b2, b3, g0, g1, g2, g3, hz]) rfl ⟨HF.out.symm ▸ rfl, by repeat (first | exact hB | (refine Below.setCell ?_ ?_ _) | (focus (simp; done)))⟩
        · have HX := Lib.hid (HN.out (by rw [hib]; simp [h2]))
          have h2b : decide (sq ≤ seq) = false := by simpa using h2
          subst h1
          clear hib HS HN
          go_wp2_with fail
          go_roundw
          case rel => exact ⟨q + 1, by omega, by go_num, HX, hB, oB⟩
          case measure => simp [intOf]; omega
      · have HX := Lib.hid (HN.out (by rw [hib]; simp [h1]))
        have h1b : (k == key) = false := by simpa using h1
        clear hib HS HN
        go_wp2_with fail
        go_roundw
        case rel => exact ⟨q + 1, by omega, by go_num, HX, hB, oB⟩
        case measure => simp [intOf]; omega
    · obtain rfl : q = L.length := by omega
      have HF := Lib.hid (show nwV (newestL L key seq) = .tuple #[.agg #[.string (Cd.bs []), .int .u64 0, .bool false, .string (Cd.bs [])], .bool false] by rw [newest_none (fun j h => hall.out j h h)]; rfl)
      go_wp2_with fail
      exact bodyPost_ret (v := .tuple #[.agg #[.string (Cd.bs []), .int .u64 0, .bool false, .string (Cd.bs [])], .bool false]) (by simp [results, Try.results26, go_sem, b0, b1, b2, b3, g0, g1, g2, g3, hz]) rfl ⟨HF.out.symm ▸ rfl, by repeat (first | exact hB | (refine Below.setCell ?_ ?_ _) | (focus (simp; done)))⟩
end Mt
end Go.Proofs.Ytgfpkbdinfdkfaa
