import Derived.WalkKit
import Derived.WalkLawsBesides
import Derived.Below
import Derived.Lib.Hide
import Derived.Deep.LoopGhost
import Derived.OwnWalk
import Derived.Deep.AppendLies
import Derived.Deep.RegionHeld3
import Derived.Deep.RegionLaw
import Derived.RangeFuncBox
import Derived.RangeFuncLeaves
import Derived.RangeFuncNested
import Derived.Shelf.Abstract
import Derived.OwnWalkIn
import Derived.TacticsInMore
import Derived.LoopNIn
import Derived.LoopIn
import Derived.Lib.AppendStr
import Derived.Lib.BufStepsIn
import Derived.Test.YtaghifnihjlpjaaPart2
/-
  strings.Builder as this dump has it: the copy check, WriteString, String, on a builder that the call itself has made.
-/
namespace Go.Proofs.Ytaghifnihjlpjaa
open Go.RowKit
set_option linter.unusedSimpArgs false
set_option linter.unusedVariables false
namespace Sb
/-- block b is a builder that holds these bytes; all of it lies at B or above -/
def Is (B b : Nat) (l : List UInt8) (W : World) : Prop := Lib.IsBuilderF 37 5 B b (Lib.byteCells l) W
/-- all but the builder's own stands -/
def Rest (b : Nat) (W W' : World) : Prop := Lib.OthersKept 5 (some b) W W'
theorem Rest.refl (b : Nat) (W : World) : Rest b W W := Lib.OthersKept.refl _ _ _
theorem Rest.trans {b : Nat} {W W1 W2 : World} (h : Rest b W W1) (k : Rest b W1 W2) : Rest b W W2 := Lib.OthersKept.trans h k
theorem Rest.below {b : Nat} {W W' : World} (h : Below W.heap.size W W') : Rest b W W' := fun k o hk hb ho => (h.block k (Array.getElem?_eq_some_iff.1 hk).1).trans hk
theorem Rest.obj {b k : Nat} {W W' : World} {t : TypeId} {cs : List Value} (h : Rest b W W') (ho : Ob.Obj W k t cs) (hk : k ≠ b) (ht : t ≠ 5) : Ob.Obj W' k t cs :=
  h k _ ho (fun e => hk (Option.some.inj e)) (fun c fz e => ht (by injection e))
theorem Is.lt {B b : Nat} {l : List UInt8} {W : World} (h : Is B b l W) : b < W.heap.size := h.elim (·.lt) (·.lt)
theorem Is.ge {B b : Nat} {l : List UInt8} {W : World} (h : Is B b l W) : B ≤ b := h.elim (·.1) (·.1)
theorem Is.below {B b : Nat} {l : List UInt8} {W W' : World} (h : Is B b l W) (hb : Below W.heap.size W W') : Is B b l W' := by
  have key : ∀ p, Lib.BuilderAtF 37 5 B b p (Lib.byteCells l) W → Lib.BuilderAtF 37 5 B b p (Lib.byteCells l) W' := fun p ⟨h0, v, h1, h2, h3⟩ => by
    refine ⟨h0, v, (hb.block b (Array.getElem?_eq_some_iff.1 h1).1).trans h1, ?_, h3⟩
    rcases h2 with ⟨h4, h5 | ⟨g, cap, cur, fz, e1, e2, e3, e4⟩⟩
    · exact ⟨h4, .inl h5⟩
    · exact ⟨h4, .inr ⟨g, cap, cur, fz, e1, e2, (hb.block g (Array.getElem?_eq_some_iff.1 e3).1).trans e3, e4⟩⟩
  exact h.imp (key _) (key _)
theorem Is.alloc {B b : Nat} {l : List UInt8} {W : World} (h : Is B b l W) (o : Go.Obj) : Is B b l (W.alloc o) := h.below ((Below.refl _ _).alloc (Nat.le_refl _) _)
theorem Is.drew {B b : Nat} {l : List UInt8} {W : World} (h : Is B b l W) : Is B b l W.drew := h.below (Below.refl _ _).drew
theorem Is.new (W : World) : Is W.heap.size W.heap.size [] (W.alloc (.cells #[.pointer none, .slice none 0 0] 37)) :=
  .inl ⟨Nat.le_refl _, .slice none 0 0, World.alloc_heap_new W _, ⟨by first | decide | simp, .inl ⟨rfl, rfl⟩⟩, by simp [Value.ownBlock]⟩

theorem strCells_bytes (s : List UInt8) : Lib.strCells ⟨s.toArray⟩ = Lib.byteCells s := by
  simp [Lib.strCells, Lib.byteCells]

theorem sizeBuilder : (Try.prog.info? 37).map (·.size) = some 2 := by kernel_rfl

set_option maxHeartbeats 2000000 in
set_option maxRecDepth 100000 in
theorem copyCheck_any (B b : Nat) (bs : List Value) (w : World) (h : Lib.IsBuilderF 37 5 B b bs w) :
    Calls Try.prog 27 #[.pointer (some ⟨b, 0, none⟩)] w fun e w' => e = .returned (.tuple #[]) ∧ (Lib.BuilderAtF 37 5 B b (.pointer (some ⟨b, 0, none⟩)) bs w' ∧ Below B w w' ∧ Rest b w w') := by
  rcases h with h | h
  · have c0 := h.cell0
    have f0 := h.frozen0
    have hl := h.lt
    have hB := h.1
    have hsh := h.shape
    obtain ⟨j, hj, hjs⟩ := Option.map_eq_some_iff.1 sizeBuilder
    have HU := Lib.hid (h.used (.pointer (some ⟨b, 0, none⟩)))
    clear h
    go_enter Try.func27, Try.ntmps27
    go_wp2
    rw [Lib.run_to_unsafe w ⟨b, 0, none⟩ Try.underlying34 Try.underlying77 hj (by rw [hjs]; decide) hsh (Nat.zero_lt_succ 1)]
    simp only [Result.andThen]
    rw [Oper.upon_value]
    go_wp2
    rw [run_callFunc_extern Try.func41 (by kernel_rfl) (by kernel_rfl) (by kernel_rfl) (e := Extern.AbiNoEscape.same) (by kernel_rfl)]
    rw [Lib.run_noEscape]
    simp only [Result.andThen]
    rw [Oper.upon_value]
    go_wp2
    rw [Lib.run_from_unsafe w ⟨b, 0, none⟩ Try.underlying77 Try.underlying34 hj hsh (by kernel_rfl)]
    simp only [Result.andThen]
    rw [Oper.upon_value]
    go_wp2
    go_end0
    exact ⟨rfl, HU.out, (Below.refl B w).setCell (p := ⟨b, 0, none⟩) hB _, (Lib.OthersKept.refl _ _ w).setCell ⟨b, 0, none⟩ rfl _⟩
  · have c0 := h.cell0
    obtain ⟨j, hj, hjs⟩ := Option.map_eq_some_iff.1 sizeBuilder
    have H := Lib.hid h
    clear h
    go_enter Try.func27, Try.ntmps27
    go_wp2
    rw [Lib.run_neq_ptr_same w _ Try.underlying34 hj]
    go_wp2
    go_end0
    exact ⟨rfl, H.out, Below.refl B _, Lib.OthersKept.refl _ _ _⟩

theorem info_u8 : (Try.prog.info? 5).map (fun i => (i.zero, i.size, i.bytes)) = some (some (.int .u8 0), 1, 1) := by kernel_rfl

set_option maxHeartbeats 2000000 in
set_option maxRecDepth 100000 in
theorem writeString_any (B b : Nat) (l s : List UInt8) (w : World) (h : Is B b l w) (hlen : l.length + s.length ≤ 140737488355328) (hBw : B ≤ w.heap.size) :
    Calls Try.prog 10 #[.pointer (some ⟨b, 0, none⟩), .string ⟨s.toArray⟩] w fun e w' => e = .returned (.tuple #[.int .i64 (s.length : Nat), .nilIface]) ∧ Is B b (l ++ s) w' ∧ Below B w w' ∧ Rest b w w' := by
  obtain ⟨i0, hi, hz0, hz1, hz2⟩ := info_parts info_u8
  have hsz : (⟨s.toArray⟩ : ByteArray).size = s.length := rfl
  have HSZ := Lib.hid hsz
  have hbl : (Lib.byteCells l).length = l.length := Lib.byteCells_length l
  have HBL := Lib.hid hbl
  clear hsz hbl
  go_enter Try.func10, Try.ntmps10
  go_wp2_with (go_at_call 27; refine (copyCheck_any B b (Lib.byteCells l) _ h).mono ?_)
  rintro e w1 ⟨rfl, h1, hb1, hk1⟩
  obtain ⟨hB, v, hbk, hown, hne⟩ := h1
  have c0 : w1.cell? ⟨b, 0, none⟩ = some (.pointer (some ⟨b, 0, none⟩)) := by rw [Lib.cell_of_heap hbk]; rfl
  have c1 : w1.cell? ⟨b, 1, none⟩ = some v := by rw [Lib.cell_of_heap hbk]; rfl
  go_wp2_with (at_builtin; refine Lib.wpList_append_own_stringF _ rfl _ _ 35 9 rfl B 5 i0 Try.underlying35 Try.underlying9 hi hz0 hz1 hz2 _ _ _ rfl hown ⟨s.toArray⟩ rfl ?c3 ?c4 ?c5 ?_)
  case c3 => rw [HSZ.out, HBL.out]; unfold maxLen; omega
  case c4 => rw [HSZ.out, HBL.out]; omega
  case c5 => have := hb1.size; omega
  intro v' w2 hown' hgrow _
  have hlt : b < w1.heap.size := (Array.getElem?_eq_some_iff.1 hbk).1
  have hb2 : w2.heap[b]? = some (.cells #[.pointer (some ⟨b, 0, none⟩), v] 37 (0, 0)) := by
    rw [hgrow.block b hlt (fun e => hne e.symm)]
    exact hbk
  have d0 : w2.cell? ⟨b, 0, none⟩ = some (.pointer (some ⟨b, 0, none⟩)) := by rw [Lib.cell_of_heap hb2]; rfl
  have d1 : w2.cell? ⟨b, 1, none⟩ = some v := by rw [Lib.cell_of_heap hb2]; rfl
  have f1 : w2.frozen? ⟨b, 1, none⟩ = false := Lib.frozen_of_heap hb2 1
  obtain ⟨ao, n', cap, rfl⟩ : ∃ ao n' cap, v' = .slice ao n' cap := by
    rcases hown'.2 with ⟨hv, _⟩ | ⟨g, cap, cur, fz, hv, _⟩
    · exact ⟨_, _, _, hv⟩
    · exact ⟨_, _, _, hv⟩
  go_wp2
  go_ret2
  refine ⟨rfl, ?_, ?_, (hk1.grown hgrow (Lib.ownsRowF_kind hown)).setCell ⟨b, 1, none⟩ rfl _⟩
  · have := Lib.BuilderAtF.put (T := 37) (e := 5) hB hb2 (bs' := Lib.byteCells l ++ Lib.strCells ⟨s.toArray⟩) (by rw [List.length_append, Lib.strCells_length]; exact hown') (by decide)
    rw [strCells_bytes] at this
    refine .inr ?_
    rw [show Lib.byteCells (l ++ s) = Lib.byteCells l ++ Lib.byteCells s by simp [Lib.byteCells]]
    exact this
  · exact (hb1.grown hgrow (by have := hb1.size; omega) (fun k hk => (hown.lt k hk).1)).setCell (p := ⟨b, 1, none⟩) hB _

theorem string_any (B b : Nat) (l : List UInt8) (w : World) (h : Is B b l w) (hBw : B ≤ w.heap.size) :
    Calls Try.prog 16 #[.pointer (some ⟨b, 0, none⟩)] w fun e w' => e = .returned (.string ⟨l.toArray⟩) ∧ Is B b l w' ∧ Below B w w' ∧ Rest b w w' :=
  (Try.Builder_String_any_k B b l w h hBw).mono fun e w' ⟨h1, h2, h3, h4⟩ => ⟨h1, h2, h3, h4⟩
end Sb
end Go.Proofs.Ytaghifnihjlpjaa

/-
  The program's roots: names, sizes in blocks, counts as bytes.
-/
namespace Go.Proofs.Ytaghifnihjlpjaa
open Go.RowKit
set_option linter.unusedSimpArgs false
set_option linter.unusedVariables false
namespace Fd

set_option maxRecDepth 100000 in
set_option maxHeartbeats 1000000 in
theorem isName_any (l : Fi.Dat) (w : World) (hl : l.length ≤ 140737488351232) :
    Calls Try.prog 25 #[.string (Cd.bs l)] w fun e w' => e = .returned (.bool (Fi.nameB l)) ∧ w' = w := by
  have hsz : (Cd.bs l).size = l.length := rfl
  unfold Fi.nameB
  by_cases h1 : 1 ≤ l.length
  · by_cases h2 : l.length ≤ 32
    · rw [decide_eq_true h1, decide_eq_true h2]
      have h1i : (1 : Int) ≤ (l.length : Int) := by omega
      have h2i : (l.length : Int) ≤ 32 := by omega
      go_enter Try.func25, Try.ntmps25
      go_wp2_with fail
      go_ret
      exact ⟨rfl, rfl⟩
    · rw [decide_eq_true h1, decide_eq_false h2]
      have h1i : (1 : Int) ≤ (l.length : Int) := by omega
      have h2i : ¬ (l.length : Int) ≤ 32 := by omega
      go_enter Try.func25, Try.ntmps25
      go_wp2_with fail
      go_ret
      exact ⟨rfl, rfl⟩
  · rw [decide_eq_false h1]
    have h1i : ¬ (1 : Int) ≤ (l.length : Int) := by omega
    go_enter Try.func25, Try.ntmps25
    go_wp2_with fail
    go_ret
    exact ⟨rfl, rfl⟩

set_option maxRecDepth 100000 in
set_option maxHeartbeats 1000000 in
theorem blocksOf_any (n : Int) (w : World) (h0 : 0 ≤ n) (h1 : n ≤ 9223372036854775807) :
    Calls Try.prog 26 #[.int .i64 n] w fun e w' => e = .returned (.int .i64 (Fi.takes n)) ∧ w' = w := by
  unfold Fi.takes
  by_cases h2 : 0 < n % 256
  · rw [if_pos h2]
    go_enter Try.func26, Try.ntmps26
    go_wp2_with fail
    go_ret
    exact ⟨rfl, rfl⟩
  · rw [if_neg h2, Int.add_zero]
    go_enter Try.func26, Try.ntmps26
    go_wp2_with fail
    go_ret
    exact ⟨rfl, rfl⟩

set_option maxRecDepth 100000 in
set_option maxHeartbeats 1000000 in
theorem putCount_any (N : Int) (n : Nat) (w : World) (h : N = n) (h1 : n < 9223372036854775808) :
    Calls Try.prog 12 #[.int .i64 N] w fun e w' => e = .returned (.string (Cd.bs (Cd.putU n))) ∧ Below w.heap.size w w' := by
  subst h
  have hP := Lib.hid (fun W => putUc_at (n : Int) n W rfl (by omega))
  have hw : IntKind.u64.wrap (n : Int) = (n : Int) := Cd.wrapU_nat (by omega)
  go_enter Try.func12, Try.ntmps12
  go_wp2_with (go_at_call 11; (with_reducible refine (hP.out _).mono ?_); rintro e w1 ⟨rfl, hb1⟩)
  go_ret
  exact ⟨rfl, hb1⟩
end Fd
end Go.Proofs.Ytaghifnihjlpjaa

/-
  The program's roots: runs of blocks, as bytes.
-/
namespace Go.Proofs.Ytaghifnihjlpjaa
open Go.RowKit
set_option linter.unusedSimpArgs false
set_option linter.unusedVariables false
namespace Fd
theorem isN {B b : Nat} {l : List UInt8} {W : World} (h : Sb.Is B b l W) (n : Nat) : Sb.Is B b l (W.drewN n) := h.below (belowN (Below.refl _ _) n)

set_option maxRecDepth 100000 in
set_option maxHeartbeats 8000000 in
theorem putRuns_any (v : Value) (l : List Int) (w : World) (hI : Fi.Ints w.heap.size w v l) (hb : ∀ b ∈ l, 0 ≤ b ∧ b < 2097152) (hl : l.length ≤ 1048576) :
    Calls Try.prog 14 #[v] w fun e w' => e = .returned (.string (Cd.bs (Fi.runBytes l))) ∧ Below w.heap.size w w' := by
  obtain ⟨a, cap, fb, fo, rfl, ha, hcells⟩ := hI
  have HC := Lib.hid hcells
  have hsm := Lib.hid (Fi.runs_small l (fun b hb' => (hb b hb').2) (by omega))
  have hrl := Fi.runs_len l
  have hi0 := Sb.Is.new w
  have hB0 : Below w.heap.size w (w.alloc (.cells #[.pointer none, .slice none 0 0] 37)) := (Below.refl _ _).alloc (Nat.le_refl _) _
  clear hcells
  go_enter Try.func14, Try.ntmps14
  go_wp2_with fail
  go_loopw [4, 5] (fun mn i wr => ∃ (done : List (Int × Nat)) (p : Nat), p ≤ l.length ∧ done.length ≤ p ∧ mn = .int .i64 (done.length : Nat) ∧ i = .int .i64 p ∧ Hid (Fi.runs l = done ++ Fi.runs (l.drop p)) ∧ Below w.heap.size w wr ∧ Sb.Is w.heap.size w.heap.size (done.flatMap Fi.runB) wr) (fun _ i _ => l.length - (intOf i).toNat)
  case atStart => exact ⟨[], 0, Nat.zero_le _, Nat.le_refl _, rfl, rfl, by exact rfl, hB0, hi0⟩
  case round =>
    obtain ⟨done, p, hp, hdp, rfl, rfl, hruns, hB, hIs⟩ := hrel
    obtain ⟨wo, rfl⟩ : ∃ wo : World, wo = wr := ⟨_, rfl⟩
    by_cases hlt : p < l.length
    · obtain ⟨rfl, hfb⟩ := ha (by omega)
      obtain ⟨hx0, hx1⟩ := hb l[p] (List.getElem_mem hlt)
      have hi1 : (0 : Int) ≤ (p : Int) ∧ (p : Int) < (l.length : Int) := by omega
      have hfl : (done.flatMap Fi.runB).length ≤ 6 * done.length := Fi.flat_len done (fun x hx => hsm.out x (by rw [hruns.out]; exact List.mem_append_left _ hx))
      obtain ⟨x, hx⟩ : ∃ x, x = l[p] := ⟨_, rfl⟩
      rw [← hx] at hx0 hx1
      have HX := Lib.hid hx
      clear hx
      go_wp2_with fail
      go_loopw [6] (fun j wx => ∃ m q : Nat, 1 ≤ m ∧ p + m ≤ l.length ∧ (q ≤ p + m ∧ p + m ≤ q) ∧ j = .int .i64 (q : Int) ∧ Hid (Fi.runLen x (l.drop (p + 1)) + 1 = Fi.runLen (x + (m - 1 : Nat)) (l.drop (p + m)) + m) ∧ Hid (∃ h : p + (m - 1) < l.length, l[p + (m - 1)] = x + ((m - 1 : Nat) : Int)) ∧ Below w.heap.size w wx ∧ Sb.Is w.heap.size w.heap.size (done.flatMap Fi.runB) wx) (fun j _ => l.length - (intOf j).toNat)
      case atStart => exact ⟨1, p + 1, Nat.le_refl _, by omega, ⟨by omega, by omega⟩, by go_num, by exact congrArg (· + 1) (by simp), ⟨by omega, by simp [HX.out]⟩, hB, hIs⟩
      case round =>
        obtain ⟨m, q, hm1, hpm, ⟨hq1, hq2⟩, rfl, hrm, hlast, hBx, hIx⟩ := hrel
        have hcp2 := (hBx.cell (p := ⟨fb, fo + p, none⟩) hfb).trans (HC.out p hlt)
        rw [← HX.out] at hcp2
        have hcl : wr.cell? ⟨fb, fo + (q - 1), none⟩ = some (.int .i64 (x + ((m - 1 : Nat) : Int))) := by
          obtain ⟨h1, h2⟩ := hlast.out
          have := (hBx.cell (p := ⟨fb, fo + (p + (m - 1)), none⟩) hfb).trans (HC.out (p + (m - 1)) h1)
          rw [h2] at this
          rw [show q - 1 = p + (m - 1) by omega]
          exact this
        have hxb : x + ((m - 1 : Nat) : Int) < 2097152 := by
          obtain ⟨h1, h2⟩ := hlast.out
          have := (hb l[p + (m - 1)] (List.getElem_mem h1)).2
          omega
        have hP1 := Lib.hid (fun W => putCount_any x x.toNat W (by omega) (by omega))
        have hP2 := Lib.hid (fun W => putCount_any (m : Int) m W rfl (by omega))
        have hfl1 : (Cd.putU x.toNat).length ≤ 3 := Cd.putU_len x.toNat 3 (by omega) (by omega)
        have hfl2 : (Cd.putU m).length ≤ 3 := Cd.putU_len m 3 (by omega) (by omega)
        have hj1 : (0 : Int) ≤ (q : Int) - 1 := by omega
        have hj2 : (q : Int) - 1 < (l.length : Int) := by omega
        by_cases hgo : ∃ h : p + m < l.length, l[p + m] = x + m
        · obtain ⟨h1, h2⟩ := hgo
          have hcm : wr.cell? ⟨fb, fo + q, none⟩ = some (.int .i64 l[p + m]) := by rw [show q = p + m by omega]; exact (hBx.cell (p := ⟨fb, fo + (p + m), none⟩) hfb).trans (HC.out (p + m) h1)
          rw [h2] at hcm
          have HN := Lib.hid (show Fi.runLen x (l.drop (p + 1)) + 1 = Fi.runLen (x + ((m + 1 - 1 : Nat) : Int)) (l.drop (p + (m + 1))) + (m + 1) by
            rw [hrm.out, Fi.runLen_step h1 hm1 (x + ((m - 1 : Nat) : Int)) (by rw [h2]; omega)]
            have e1 : x + ((m - 1 : Nat) : Int) + 1 = x + ((m + 1 - 1 : Nat) : Int) := by omega
            rw [e1, show p + (m + 1) = p + m + 1 from by omega]; omega)
          have HL2 := Lib.hid (show ∃ h : p + (m + 1 - 1) < l.length, l[p + (m + 1 - 1)] = x + ((m + 1 - 1 : Nat) : Int) from ⟨by omega, by simpa using h2⟩)
          have h1i : (q : Int) < (l.length : Int) := by omega
          have heq : (x + (m : Int) == x + ((m - 1 : Nat) : Int) + 1) = true := by simp; omega
          clear hrm h2
          go_wp2_with fail
          go_big_quiet (fail)
          go_wp2_with fail
          go_roundw
          case rel => exact ⟨m + 1, q + 1, by omega, by omega, ⟨by omega, by omega⟩, by go_num, HN, HL2, belowN hBx _, isN hIx _⟩
          case measure => simp [intOf]; omega
        · have hstop : l.length ≤ p + m ∨ ∃ h : p + m < l.length, l[p + m] ≠ x + m := by
            by_cases h : p + m < l.length
            · exact .inr ⟨h, fun e => hgo ⟨h, e⟩⟩
            · exact .inl (by omega)
          have hzero : Fi.runLen (x + ((m - 1 : Nat) : Int)) (l.drop (p + m)) = 0 := Fi.runLen_stop _ (by
            rcases hstop with h | ⟨h, h2⟩
            · exact .inl h
            · exact .inr ⟨h, by omega⟩)
          have hR2 : Fi.runs l = (done ++ [(x, m)]) ++ Fi.runs (l.drop (p + m)) := by
            rw [hruns.out, Fi.runs_at (m := m) hlt hm1 (by rw [← HX.out, hrm.out, hzero]; omega), ← HX.out, List.append_assoc]; rfl
          have HR2 := Lib.hid hR2
          have HFL := Lib.hid (show (done ++ [(x, m)]).flatMap Fi.runB = done.flatMap Fi.runB ++ (Cd.putU x.toNat ++ Cd.putU m) by
            rw [List.flatMap_append, List.flatMap_cons, List.flatMap_nil, List.append_nil]; rfl)
          have hbx := hBx.size
          have hsub : (q : Int) - (p : Int) = (m : Int) := by omega
          have hpi : (p : Int) < (l.length : Int) := by omega
          have hblt : w.heap.size < wr.heap.size := hIx.lt
          clear hrm hzero hR2 hgo hruns hlast
          generalize done.flatMap Fi.runB = D at *
          generalize Cd.putU x.toNat = E1 at *
          generalize Cd.putU m = E2 at *
          rcases hstop with h | ⟨h1, h2⟩
          · have h1i : ¬ (q : Int) < (l.length : Int) := by omega
            have h1n : decide (q < l.length) = false := by simp; omega
            go_wp2_with fail
            go_big_quiet (fail)
            go_wp2_with (first
              | (go_at_call 12; (with_reducible refine (hP1.out _).mono ?_); rintro e w1 ⟨rfl, hb1⟩; have hI1 := (isN hIx _).below hb1; have hcp3 := (hb1.cell (p := ⟨fb, fo + p, none⟩) (by show fb < _; simp; omega)).trans hcp2)
              | (go_at_call 12; (with_reducible refine (hP2.out _).mono ?_); rintro e w2 ⟨rfl, hb2⟩; have hI2 := hI1.below hb2; have hB2 := (belowN hBx _).trans ((hb1.mono (by simp; omega)).trans (hb2.mono (by have := hb1.size; simp at this; omega))); have hWS := Lib.hid (Sb.writeString_any _ _ D (E1 ++ E2) w2 hI2 (by rw [List.length_append]; omega) hB2.size))
              | (go_at_call 10; rw [ByteArray.mk_append_mk]; (with_reducible refine hWS.out.mono ?_); rintro e w3 ⟨rfl, hI3, hb3, hr3⟩))
            go_roundw
            case rel => exact ⟨done ++ [(x, m)], p + m, by omega, by simp; omega, by simp, by rw [show q = p + m by omega], HR2, hB2.trans hb3, by rw [HFL.out]; exact hI3⟩
            case measure => simp [intOf]; omega
          · have hcm : wr.cell? ⟨fb, fo + q, none⟩ = some (.int .i64 l[p + m]) := by rw [show q = p + m by omega]; exact (hBx.cell (p := ⟨fb, fo + (p + m), none⟩) hfb).trans (HC.out (p + m) h1)
            have h1i : (q : Int) < (l.length : Int) := by omega
            generalize l[p + m] = y at *
            have hne1 : (y == x + ((m - 1 : Nat) : Int) + 1) = false := by simp; omega
            clear h2
            go_wp2_with fail
            go_big_quiet (fail)
            go_wp2_with (first
              | (go_at_call 12; (with_reducible refine (hP1.out _).mono ?_); rintro e w1 ⟨rfl, hb1⟩; have hI1 := (isN hIx _).below hb1; have hcp3 := (hb1.cell (p := ⟨fb, fo + p, none⟩) (by show fb < _; simp; omega)).trans hcp2)
              | (go_at_call 12; (with_reducible refine (hP2.out _).mono ?_); rintro e w2 ⟨rfl, hb2⟩; have hI2 := hI1.below hb2; have hB2 := (belowN hBx _).trans ((hb1.mono (by simp; omega)).trans (hb2.mono (by have := hb1.size; simp at this; omega))); have hWS := Lib.hid (Sb.writeString_any _ _ D (E1 ++ E2) w2 hI2 (by rw [List.length_append]; omega) hB2.size))
              | (go_at_call 10; rw [ByteArray.mk_append_mk]; (with_reducible refine hWS.out.mono ?_); rintro e w3 ⟨rfl, hI3, hb3, hr3⟩))
            go_roundw
            case rel => exact ⟨done ++ [(x, m)], p + m, by omega, by simp; omega, by simp, by rw [show q = p + m by omega], HR2, hB2.trans hb3, by rw [HFL.out]; exact hI3⟩
            case measure => simp [intOf]; omega
    · obtain rfl : p = l.length := by omega
      have HE := Lib.hid (show Fi.runBytes l = Cd.putU done.length ++ done.flatMap Fi.runB by
        unfold Fi.runBytes
        rw [hruns.out, List.drop_eq_nil_of_le (Nat.le_refl _), Fi.runs, List.append_nil])
      have hflz : (done.flatMap Fi.runB).length ≤ 6 * done.length := Fi.flat_len done (fun x hx => hsm.out x (by rw [hruns.out]; exact List.mem_append_left _ hx))
      have hfly : (Cd.putU done.length).length ≤ 3 := Cd.putU_len done.length 3 (by omega) (by omega)
      clear hruns
      have hP := Lib.hid (fun W => putCount_any (done.length : Int) done.length W rfl (by omega))
      generalize done.flatMap Fi.runB = D at *
      go_wp2_with (first
        | (go_at_call 12; (with_reducible refine (hP.out _).mono ?_); rintro e w1 ⟨rfl, hb1⟩; have hI1 := hIs.below hb1; have hB1 := hB.trans (hb1.mono hB.size); have hST := Lib.hid (Sb.string_any _ _ D w1 hI1 hB1.size))
        | (go_at_call 16; (with_reducible refine hST.out.mono ?_); rintro e w2 ⟨rfl, hI2, hb2, hr2⟩))
      go_ret
      exact ⟨by rw [HE.out]; exact ret_str (by rw [ByteArray.mk_append_mk]), hB1.trans hb2⟩
end Fd
end Go.Proofs.Ytaghifnihjlpjaa

/-
  The program's reader of numbers and texts, one behind the other.
-/
namespace Go.Proofs.Ytaghifnihjlpjaa
open Go.RowKit
set_option linter.unusedSimpArgs false
set_option linter.unusedVariables false
namespace Fd
/-- the reader, in block t -/
def Tk (W : World) (t : Nat) (s : Fi.TkS) : Prop := Ob.Obj W t 57 [.string (Cd.bs s.1), .bool s.2]
theorem Tk.below {W W' : World} {t : Nat} {s : Fi.TkS} (h : Tk W t s) (hb : Below W.heap.size W W') : Tk W' t s := Ob.Obj.below h hb
theorem extract_drop (l : Fi.Dat) (k : Nat) : (Cd.bs l).extract k l.length = Cd.bs (l.drop k) := by
  have : ((Cd.bs l).extract k l.length).data.toList = l.drop k := by
    rw [Lib.extract_data]; exact List.take_of_length_le (by simp)
  rw [← this]

set_option maxRecDepth 100000 in
set_option maxHeartbeats 2000000 in
theorem number_any (t : Nat) (s : Fi.TkS) (M : Int) (most : Nat) (hM : M = most) (w : World) (h : Tk w t s) (hl : s.1.length ≤ 140737488351232) (hm : most < 18446744073709551616) :
    Calls Try.prog 37 #[.pointer (some ⟨t, 0, none⟩), .int .u64 M] w fun e w' => e = .returned (.int .u64 ((Fi.tkNum most s).1 : Int)) ∧ Tk w' t (Fi.tkNum most s).2 ∧ Sq.Kept (fun k => k ≠ t) w w' := by
  subst hM
  obtain ⟨l, bad⟩ := s
  have hT := fun W => takec_any (Cd.bs l) W (by show l.length ≤ maxLen; unfold maxLen; simp at hl; omega)
  obtain ⟨o1, o2, o3, o4⟩ := Cd.takeU_ok l
  have c0 := Ob.Obj.cell h 0
  have c1 := Ob.Obj.cell h 1
  have f0 := Ob.Obj.frozen h 0
  have f1 := Ob.Obj.frozen h 1
  simp at c0 c1
  unfold Fi.tkNum
  simp only
  change ∀ W, Calls _ _ _ W fun e w' => e = .returned (.tuple #[.int .u64 (Cd.takeU l).1, .int .i64 (Cd.takeU l).2.1, .int .i64 (Cd.takeU l).2.2]) ∧ W = w' at hT
  obtain ⟨n, k, e, ht⟩ : ∃ n k e, Cd.takeU l = (n, k, e) := ⟨_, _, _, rfl⟩
  rw [ht] at hT o1 o2 o3 o4 ⊢
  have HT := Lib.hid hT
  have H := Lib.hid h
  simp only at o1 o2 o3 o4
  clear hT ht h
  cases bad with
  | true =>
    have hw : (Cd.bs l).size = l.length := rfl
    rw [if_pos (.inl rfl)]
    go_enter Try.func37, Try.ntmps37
    go_wp2_with (go_at_call 43; refine (HT.out _).mono ?_; rintro e w1 ⟨rfl, rfl⟩)
    go_ret
    exact ⟨rfl, Ob.Obj.set H.out 1 (.bool true), Sq.Kept.setCell _ _ (fun h => h rfl)⟩
  | false =>
    by_cases he : e = 0
    · subst he
      by_cases hn : most < n
      · rw [if_pos (.inr (.inr hn))]
        have hni : (most : Int) < (n : Int) := by omega
        go_enter Try.func37, Try.ntmps37
        go_wp2_with (go_at_call 43; refine (HT.out _).mono ?_; rintro e w1 ⟨rfl, rfl⟩)
        go_ret
        exact ⟨rfl, Ob.Obj.set H.out 1 (.bool true), Sq.Kept.setCell _ _ (fun h => h rfl)⟩
      · rw [if_neg (by simp; omega)]
        have hni : ¬ (most : Int) < (n : Int) := by omega
        have hk : (k : Int) ≤ (l.length : Int) := by omega
        have hk0 : (0 : Int) ≤ (k : Int) := by omega
        have hsz : (Cd.bs l).size = l.length := rfl
        simp only at hl
        go_enter Try.func37, Try.ntmps37
        go_wp2_with (go_at_call 43; refine (HT.out _).mono ?_; rintro e w1 ⟨rfl, rfl⟩)
        go_ret
        exact ⟨rfl, by rw [extract_drop]; exact Ob.Obj.set H.out 0 (.string (Cd.bs (l.drop k))), Sq.Kept.setCell _ _ (fun h => h rfl)⟩
    · rw [if_pos (.inr (.inl he))]
      have heb : (((e : Nat) : Int) != 0) = true := by simp; omega
      have heb2 : (((e : Nat) : Int) == 0) = false := by simp; omega
      clear he
      go_enter Try.func37, Try.ntmps37
      go_wp2_with (go_at_call 43; refine (HT.out _).mono ?_; rintro e w1 ⟨rfl, rfl⟩)
      go_ret
      exact ⟨rfl, Ob.Obj.set H.out 1 (.bool true), Sq.Kept.setCell _ _ (fun h => h rfl)⟩

set_option maxRecDepth 100000 in
set_option maxHeartbeats 2000000 in
theorem count_any (t : Nat) (s : Fi.TkS) (M : Int) (most : Nat) (hM : M = most) (w : World) (h : Tk w t s) (hl : s.1.length ≤ 140737488351232) (hm : most ≤ 9223372036854775807) :
    Calls Try.prog 38 #[.pointer (some ⟨t, 0, none⟩), .int .i64 M] w fun e w' => e = .returned (.int .i64 ((Fi.tkNum most s).1 : Int)) ∧ Tk w' t (Fi.tkNum most s).2 ∧ Sq.Kept (fun k => k ≠ t) w w' := by
  subst hM
  have hN := Lib.hid (number_any t s (most : Int) most rfl w h hl (by omega))
  have hw : IntKind.u64.wrap (most : Int) = (most : Int) := Cd.wrapU_nat (by omega)
  have hle := Fi.tkNum_le most s
  generalize Fi.tkNum most s = r at *
  have hle2 : (r.1 : Int) ≤ 9223372036854775807 := by omega
  clear hle h
  go_enter Try.func38, Try.ntmps38
  go_wp2_with (go_at_call 37; refine hN.out.mono ?_; rintro e w1 ⟨rfl, hT1, hk1⟩)
  go_ret
  exact ⟨rfl, hT1, hk1⟩

set_option maxRecDepth 100000 in
set_option maxHeartbeats 2000000 in
theorem text_any (t : Nat) (s : Fi.TkS) (M : Int) (most : Nat) (hM : M = most) (w : World) (h : Tk w t s) (hl : s.1.length ≤ 140737488351232) (hm : most ≤ 1048576) :
    Calls Try.prog 39 #[.pointer (some ⟨t, 0, none⟩), .int .i64 M] w fun e w' => e = .returned (.string (Cd.bs (Fi.tkText most s).1)) ∧ Tk w' t (Fi.tkText most s).2 ∧ Sq.Kept (fun k => k ≠ t) w w' := by
  subst hM
  obtain ⟨l, bad⟩ := s
  have hT := fun W => takeTc_any (Cd.bs l) (most : Int) W hl (by omega) (by omega)
  have hlen := Fi.takeT_len l most
  have hkl := (Fr.takeT_len l most).1
  unfold Fi.tkText
  simp only
  change ∀ W, Calls _ _ _ W fun e w' => e = .returned (.tuple #[.string (Cd.bs (Cd.takeT l most).1), .int .i64 (Cd.takeT l most).2.1, .int .i64 (Cd.takeT l most).2.2]) ∧ Below W.heap.size W w' at hT
  obtain ⟨n, k, e, ht⟩ : ∃ n k e, Cd.takeT l most = (n, k, e) := ⟨_, _, _, rfl⟩
  rw [ht] at hT hlen hkl ⊢
  have HT := Lib.hid hT
  have H := Lib.hid h
  simp only at hlen hkl
  have c0 := Ob.Obj.cell h 0
  simp at c0
  clear hT ht h
  cases bad with
  | true =>
    rw [if_pos (.inl rfl)]
    go_enter Try.func39, Try.ntmps39
    go_wp2_with (go_at_call 36; refine (HT.out _).mono ?_; rintro e w1 ⟨rfl, hb1⟩; have H1 := Lib.hid (H.out.below hb1); have k0 := Ob.Obj.cell H1.out 0; have k1 := Ob.Obj.cell H1.out 1; have f1 := Ob.Obj.frozen H1.out 1; simp at k0 k1)
    go_ret
    exact ⟨rfl, Ob.Obj.set H1.out 1 (.bool true), (Sq.Kept.of_below hb1 |>.less (fun _ _ _ => trivial)).trans (Sq.Kept.setCell _ _ (fun h => h rfl))⟩
  | false =>
    by_cases he : e = 0
    · subst he
      rw [if_neg (by simp)]
      have hk : (k : Int) ≤ (l.length : Int) := by omega
      have hk0 : (0 : Int) ≤ (k : Int) := by omega
      have hsz : (Cd.bs l).size = l.length := rfl
      simp only at hl
      go_enter Try.func39, Try.ntmps39
      go_wp2_with (go_at_call 36; refine (HT.out _).mono ?_; rintro e w1 ⟨rfl, hb1⟩; have H1 := Lib.hid (H.out.below hb1); have k0 := Ob.Obj.cell H1.out 0; have k1 := Ob.Obj.cell H1.out 1; have f0 := Ob.Obj.frozen H1.out 0; simp at k0 k1)
      go_ret
      exact ⟨rfl, by rw [extract_drop]; exact Ob.Obj.set H1.out 0 (.string (Cd.bs (l.drop k))), (Sq.Kept.of_below hb1 |>.less (fun _ _ _ => trivial)).trans (Sq.Kept.setCell _ _ (fun h => h rfl))⟩
    · rw [if_pos (.inr he)]
      have heb : (((e : Nat) : Int) != 0) = true := by simp; omega
      have heb2 : (((e : Nat) : Int) == 0) = false := by simp; omega
      clear he
      go_enter Try.func39, Try.ntmps39
      go_wp2_with (go_at_call 36; refine (HT.out _).mono ?_; rintro e w1 ⟨rfl, hb1⟩; have H1 := Lib.hid (H.out.below hb1); have k0 := Ob.Obj.cell H1.out 0; have k1 := Ob.Obj.cell H1.out 1; have f1 := Ob.Obj.frozen H1.out 1; simp at k0 k1)
      go_ret
      exact ⟨rfl, Ob.Obj.set H1.out 1 (.bool true), (Sq.Kept.of_below hb1 |>.less (fun _ _ _ => trivial)).trans (Sq.Kept.setCell _ _ (fun h => h rfl))⟩
end Fd
end Go.Proofs.Ytaghifnihjlpjaa

/-
  The program's reader: runs of blocks.
-/
namespace Go.Proofs.Ytaghifnihjlpjaa
open Go.RowKit
set_option linter.unusedSimpArgs false
set_option linter.unusedVariables false
namespace Fi
theorem runOf_snoc (x : Int) (k : Nat) : runOf (x, k + 1) = runOf (x, k) ++ [x + (k : Int)] := by
  unfold runOf
  rw [List.range_succ, List.map_append]
  rfl
def ic (l : List Int) : List Value := l.map (Value.int .i64)
theorem ic_len (l : List Int) : (ic l).length = l.length := by simp [ic]
end Fi
theorem info_int4 : (Try.prog.info? 3).map (fun i => (i.zero, i.size, i.bytes)) = some (some (.int .i64 0), 1, 8) := by kernel_rfl
namespace Fd
theorem ints_snoc {w : World} {base : Nat} {e : TypeId} {v : Value} {l : List Int} {n : Nat} {x : Int} (hn : n = l.length + 1) (h : w.ownsRow base e 1 v n (Fi.ic l ++ [.int .i64 x])) :
    w.ownsRow base e 1 v (l ++ [x]).length (Fi.ic (l ++ [x])) := by
  have : Fi.ic (l ++ [x]) = Fi.ic l ++ [.int .i64 x] := by simp [Fi.ic]
  rw [this, List.length_append, List.length_singleton, ← hn]; exact h
theorem Tk.lt {W : World} {t : Nat} {s : Fi.TkS} (h : Tk W t s) : t < W.heap.size := Ob.Obj.lt h
/-- behind an append to a row that lies at base or above -/
theorem Tk.grown {W W' : World} {t base : Nat} {s : Fi.TkS} {e : TypeId} {sz m : Nat} {v : Value} {xs : List Value} (h : Tk W t s) (hr : W.ownsRow base e sz v m xs) (ht : t < base) (hg : W.grownBy W' v.ownBlock) : Tk W' t s :=
  Ob.Obj.grown h hg (fun e => by have := (Ob.row_lt hr e).1; omega)
theorem kept_grown {W0 W W' : World} {t base : Nat} {e : TypeId} {sz m : Nat} {v : Value} {xs : List Value} (h : Sq.Kept (fun k => k < base ∧ k ≠ t) W0 W) (hr : W.ownsRow base e sz v m xs) (hg : W.grownBy W' v.ownBlock) : Sq.Kept (fun k => k < base ∧ k ≠ t) W0 W' :=
  h.trans (Sq.Kept.grown hg (fun r hr' hn => by have := (Ob.row_lt hr hr').1; omega))
theorem row_kept {W W' : World} {t base : Nat} {e : TypeId} {sz m : Nat} {v : Value} {xs : List Value} (h : W.ownsRow base e sz v m xs) (ht : t < base) (hk : Sq.Kept (fun k => k ≠ t) W W') : W'.ownsRow base e sz v m xs :=
  Sq.row_kept h hk (fun g hg e => by have := (Ob.row_lt h hg).1; omega)

set_option maxRecDepth 100000 in
set_option maxHeartbeats 8000000 in
theorem runs_any (t : Nat) (s : Fi.TkS) (w : World) (h : Tk w t s) (hl : s.1.length ≤ 140737488351232) :
    Calls Try.prog 40 #[.pointer (some ⟨t, 0, none⟩)] w fun e w' => ∃ v, e = .returned v ∧ w'.ownsRow w.heap.size 3 1 v (Fi.tkRuns s).1.length (Fi.ic (Fi.tkRuns s).1) ∧ Tk w' t (Fi.tkRuns s).2 ∧ Sq.Kept (fun k => k ≠ t) w w' := by
  obtain ⟨i0, hi, hz0, hz1, hz2⟩ := info_parts info_int4
  have ht := h.lt
  have hC := Lib.hid (count_any t s (s.1.length : Nat) s.1.length rfl w h hl (by omega))
  have c0 := Ob.Obj.cell h 0
  simp at c0
  have hK := Fi.tkNum_le s.1.length s
  have hln := Fi.tkNum_len s.1.length s
  have HR := Lib.hid (show Fi.tkRuns s = Fi.tkRunsGo (Fi.tkNum s.1.length s).1 [] (Fi.tkNum s.1.length s).2 from rfl)
  have hsz : (Cd.bs s.1).size = s.1.length := rfl
  generalize Fi.tkNum s.1.length s = r at *
  obtain ⟨K, s1⟩ := r
  simp only at hK hln
  clear h
  go_enter Try.func40, Try.ntmps40
  go_wp2_with (go_at_call 38; (with_reducible refine hC.out.mono ?_); rintro e w1 ⟨rfl, hT1, hk1⟩)
  have hk1' : Sq.Kept (fun k => k < w.heap.size ∧ k ≠ t) w w1 := hk1.less (fun k hk _ => hk.2)
  clear c0 hsz
  go_loopw [3, 14] (fun v j wr => ∃ (k : Nat) (bl : List Int) (s' : Fi.TkS), k ≤ K ∧ j = .int .i64 (k : Int) ∧ wr.ownsRow w.heap.size 3 1 v bl.length (Fi.ic bl) ∧ Tk wr t s' ∧ bl.length ≤ 16384 ∧ s'.1.length ≤ s.1.length ∧ (∀ b ∈ bl, 0 ≤ b ∧ b ≤ 32768) ∧ Hid (Fi.tkRuns s = Fi.tkRunsGo (K - k) bl s') ∧ Sq.Kept (fun k => k < w.heap.size ∧ k ≠ t) w wr) (fun _ j _ => K - (intOf j).toNat)
  case atStart => exact ⟨0, [], s1, Nat.zero_le _, rfl, World.ownsRow_nil _ _ _ _, hT1, by simp, hln, fun b hb => (by cases hb), HR, hk1'⟩
  case round =>
    obtain ⟨k, bl, s', hk, rfl, hown, hTk, hbl, hsl, hbb, hgo, hkp⟩ := hrel
    obtain ⟨wo, rfl⟩ : ∃ wo : World, wo = wr := ⟨_, rfl⟩
    obtain ⟨ao, cap, rfl, hg0⟩ := Sq.row_cases hown
    by_cases hlt : k < K
    · have hi1 : (k : Int) < (K : Int) := by omega
      have HC1 := Lib.hid (count_any t s' 16384 16384 rfl wo hTk (by omega) (by omega))
      have a1 := Fi.tkNum_le 16384 s'
      have a3 := Fi.tkNum_len 16384 s'
      have hgo2 : Fi.tkRuns s = Fi.tkRunsGo (K - (k + 1)) (bl ++ Fi.runOf (((Fi.tkNum 16384 s').1 : Int), (Fi.tkNum (16384 - bl.length) (Fi.tkNum 16384 s').2).1)) (Fi.tkNum (16384 - bl.length) (Fi.tkNum 16384 s').2).2 := by
        rw [hgo.out, show K - k = (K - (k + 1)) + 1 by omega, Fi.tkRunsGo]
      generalize Fi.tkNum 16384 s' = r1 at *
      obtain ⟨x, s2⟩ := r1
      simp only at a1 a3 hgo2
      have HC2 := Lib.hid (fun W (h : Tk W t s2) => count_any t s2 (16384 - (bl.length : Int)) (16384 - bl.length) (by omega) W h (by omega) (by omega))
      have a2 := Fi.tkNum_le (16384 - bl.length) s2
      have a4 := Fi.tkNum_len (16384 - bl.length) s2
      generalize Fi.tkNum (16384 - bl.length) s2 = r2 at *
      obtain ⟨n, s3⟩ := r2
      simp only at a2 a4 hgo2
      have HG2 := Lib.hid hgo2
      have HOWN := Lib.hid hown
      clear hgo hgo2 hTk hown
      go_wp2_with (first
        | (go_at_call 38; (with_reducible refine HC1.out.mono ?_); rintro e w2 ⟨rfl, hT2, hk2⟩)
        | (go_at_call 38; (with_reducible refine (HC2.out _ hT2).mono ?_); rintro e w3 ⟨rfl, hT3, hk3⟩))
      have hrow3 := row_kept (row_kept HOWN.out ht hk2) ht hk3
      have hkp3 : Sq.Kept (fun k => k < w.heap.size ∧ k ≠ t) w w3 := hkp.trans ((hk2.trans hk3).less (fun k hk _ => hk.2))
      go_loopw [3, 24] (fun v i wr => ∃ (q : Nat) (l2 : List Int), q ≤ n ∧ i = .int .i64 (q : Int) ∧ (l2.length ≤ bl.length + q) ∧ Hid (l2 = bl ++ Fi.runOf ((x : Int), q)) ∧ wr.ownsRow w.heap.size 3 1 v l2.length (Fi.ic l2) ∧ Tk wr t s3 ∧ Sq.Kept (fun k => k < w.heap.size ∧ k ≠ t) w wr) (fun _ i _ => n - (intOf i).toNat)
      case atStart => exact ⟨0, bl, Nat.zero_le _, rfl, by omega, by show bl = bl ++ []; simp, hrow3, hT3, hkp3⟩
      case round =>
        obtain ⟨q, l2, hq, rfl, hl2, hll, hown, hTk, hkq⟩ := hrel
        have hws : w.heap.size ≤ wr.heap.size := hkq.size
        by_cases hqn : q < n
        · have hi2 : (q : Int) < (n : Int) := by omega
          have HL2 := Lib.hid (show l2 ++ [(x : Int) + (q : Int)] = bl ++ Fi.runOf ((x : Int), q + 1) by rw [hll.out, Fi.runOf_snoc, List.append_assoc])
          have hla := hown.alloc (.cells #[.int .i64 ((x : Int) + (q : Int))] 3)
          go_wp2_with (at_builtin; refine wpList_append_own _ rfl _ _ 44 rfl w.heap.size 3 i0 (.int .i64 0) 1 8 Try.underlying44 hi hz0 hz1 hz2 rfl (by decide) _ _ _ rfl (hown.alloc _) ⟨wr.heap.size, 0, none⟩ 1 1 [_] rfl rfl (cell_one_new _ _ _) (by simp [Value.oneCell']) (by unfold maxLen; omega) (by omega) (by simp; omega) ?_; intro v' w4 hown4 hgrow _; have hT4 := Tk.grown (hTk.below ((Below.refl _ _).alloc (Nat.le_refl _) _)) (hown.alloc _) ht hgrow; have hk4 := kept_grown (hkq.trans (Sq.Kept.alloc _ _ _)) (hown.alloc _) hgrow; clear hgrow)
          go_roundw
          case rel => exact ⟨q + 1, l2 ++ [(x : Int) + (q : Int)], by omega, by go_num, by rw [List.length_append, List.length_singleton]; omega, HL2, ints_snoc rfl hown4, hT4, hk4⟩
          case measure => simp [intOf]; omega
        · obtain rfl : q = n := by omega
          have HG3 := Lib.hid (show Fi.tkRuns s = Fi.tkRunsGo (K - (k + 1)) l2 s3 by rw [HG2.out, hll.out])
          have hl16 : l2.length ≤ 16384 := by omega
          have hbb2 : ∀ b ∈ l2, 0 ≤ b ∧ b ≤ 32768 := by
            rw [hll.out]
            intro b hb
            rcases List.mem_append.1 hb with hb | hb
            · exact hbb b hb
            · unfold Fi.runOf at hb
              obtain ⟨j, hj, rfl⟩ := List.mem_map.1 hb
              have := List.mem_range.1 hj
              simp only at this ⊢
              omega
          clear hll HG2
          go_wp2_with fail
          go_roundw
          case rel => exact ⟨k + 1, l2, s3, by omega, by go_num, hown, hTk, hl16, by omega, hbb2, HG3, hkq⟩
          case measure => simp [intOf]; omega
    · obtain rfl : k = K := by omega
      have HE := Lib.hid (show Fi.tkRuns s = (bl, s') by rw [hgo.out, Nat.sub_self, Fi.tkRunsGo])
      clear hgo
      go_wp2_with fail
      go_ret
      rw [HE.out]
      exact ⟨_, rfl, hown, hTk, hkp.less (fun k hk hk2 => ⟨hk2, hk⟩)⟩
end Fd
end Go.Proofs.Ytaghifnihjlpjaa

/-
  The program's reader: a root.
-/
namespace Go.Proofs.Ytaghifnihjlpjaa
open Go.RowKit
set_option linter.unusedSimpArgs false
set_option linter.unusedVariables false
theorem info_File : (Try.prog.info? 46).map (fun i => (i.zero, i.size, i.bytes)) = some (some (.agg #[.string ⟨#[]⟩, .int .i64 0, .slice none 0 0]), 3, 48) := by kernel_rfl
namespace Fi
def fCells (L : List (File × Value)) : List Value := L.flatMap fun x => [.string (Cd.bs x.1.name), .int .i64 x.1.size, x.2]
theorem fCells_len (L : List (File × Value)) : (fCells L).length = L.length * 3 := by
  induction L with
  | nil => rfl
  | cons x r ih => simp only [fCells, List.flatMap_cons, List.length_append, List.length_cons] at ih ⊢; simp at ih ⊢; omega
theorem fCells_snoc (L : List (File × Value)) (x : File × Value) : fCells (L ++ [x]) = fCells L ++ [.string (Cd.bs x.1.name), .int .i64 x.1.size, x.2] := by simp [fCells]
theorem fCells_get : ∀ (L : List (File × Value)) (j : Nat) (h : j < L.length), (fCells L)[j * 3]? = some (.string (Cd.bs L[j].1.name)) ∧ (fCells L)[j * 3 + 1]? = some (.int .i64 L[j].1.size) ∧ (fCells L)[j * 3 + 2]? = some L[j].2
  | [], j, h => by simp at h
  | x :: r, 0, h => by simp [fCells]
  | x :: r, j + 1, h => by
    have ih := fCells_get r j (by simpa using h)
    have e : fCells (x :: r) = [.string (Cd.bs x.1.name), .int .i64 x.1.size, x.2] ++ fCells r := by simp [fCells]
    rw [e]
    refine ⟨?_, ?_, ?_⟩
    · rw [List.getElem?_append_right (by simp; omega), show (j + 1) * 3 - _ = j * 3 by simp; omega]; simpa using ih.1
    · rw [List.getElem?_append_right (by simp; omega), show (j + 1) * 3 + 1 - _ = j * 3 + 1 by simp; omega]; simpa using ih.2.1
    · rw [List.getElem?_append_right (by simp; omega), show (j + 1) * 3 + 2 - _ = j * 3 + 2 by simp; omega]; simpa using ih.2.2
/-- a list of files in rows of its own, each with its blocks in a row -/
structure OwnF (B : Nat) (W : World) (fv : Value) (L : List (File × Value)) : Prop where
  row : W.ownsRow B 46 3 fv L.length (fCells L)
  ints : ∀ x ∈ L, W.ownsRow B 3 1 x.2 x.1.blocks.length (ic x.1.blocks)
theorem ints_of_row {B : Nat} {W : World} {v : Value} {l : List Int} (h : W.ownsRow B 3 1 v l.length (ic l)) : Ints W.heap.size W v l := by
  obtain ⟨ao, cap, rfl, hg⟩ := Sq.row_cases h
  by_cases h0 : 0 < l.length
  · obtain ⟨g, rfl, h1, h2⟩ := hg h0
    exact ⟨_, cap, g, 0, rfl, fun _ => ⟨rfl, h2⟩, fun j hj => (by rw [Nat.zero_add]; exact (h.cellAt j (by omega)).trans (by simp [ic, hj]))⟩
  · exact ⟨ao, cap, 0, 0, rfl, fun h => absurd h h0, fun j hj => by omega⟩
theorem OwnF.files {B : Nat} {W : World} {fv : Value} {L : List (File × Value)} (h : OwnF B W fv L) : Files W.heap.size W fv L := by
  obtain ⟨ao, cap, rfl, hg⟩ := Sq.row_cases h.row
  by_cases h0 : 0 < L.length
  · obtain ⟨g, rfl, h1, h2⟩ := hg h0
    refine ⟨_, cap, g, 0, rfl, fun _ => ⟨rfl, h2⟩, fun j hj => ?_⟩
    obtain ⟨g1, g2, g3⟩ := fCells_get L j hj
    rw [Nat.zero_add]
    exact ⟨(h.row.cellAt (j * 3) (by omega)).trans g1, (h.row.cellAt (j * 3 + 1) (by omega)).trans g2, (h.row.cellAt (j * 3 + 2) (by omega)).trans g3, ints_of_row (h.ints _ (List.getElem_mem hj))⟩
  · exact ⟨ao, cap, 0, 0, rfl, fun h => absurd h h0, fun j hj => by omega⟩
/-- of the blocks at B or above none has turned -/
theorem OwnF.kept {B : Nat} {W W' : World} {fv : Value} {L : List (File × Value)} {T : Sq.Blocks} (h : OwnF B W fv L) (hk : Sq.Kept T W W') (hT : ∀ k, B ≤ k → T k) : OwnF B W' fv L :=
  ⟨Sq.row_kept h.row hk (fun g hg => hT g (Ob.row_lt h.row hg).1), fun x hx => Sq.row_kept (h.ints x hx) hk (fun g hg => hT g (Ob.row_lt (h.ints x hx) hg).1)⟩
end Fi
namespace Fd
/-- amid the reading of a root -/
structure RS (B t rb g : Nat) (L : List (Fi.File × Value)) (s : Fi.TkS) (fv : Value) (W : World) : Prop where
  tk : Tk W t s
  box : Ob.Obj W rb 25 [.int .u64 (g : Int), fv]
  own : Fi.OwnF B W fv L
theorem RS.kept {B t rb g : Nat} {L : List (Fi.File × Value)} {s s' : Fi.TkS} {fv : Value} {W W' : World} (h : RS B t rb g L s fv W) (htb : t < B) (hrb : t ≠ rb) (hk : Sq.Kept (fun k => k ≠ t) W W') (ht : Tk W' t s') : RS B t rb g L s' fv W' :=
  ⟨ht, h.box.kept hk hrb.symm, h.own.kept hk (fun k hk => by omega)⟩
theorem RS.below {B t rb g : Nat} {L : List (Fi.File × Value)} {s : Fi.TkS} {fv : Value} {W W' : World} (h : RS B t rb g L s fv W) (hb : Below W.heap.size W W') : RS B t rb g L s fv W' :=
  ⟨h.tk.below hb, h.box.below hb, h.own.kept (Sq.Kept.of_below hb |>.less (T' := fun _ => True) (fun _ _ h => trivial)) (fun _ _ => trivial)⟩
theorem RS.appended {B t rb g gb cap : Nat} {L : List (Fi.File × Value)} {s : Fi.TkS} {fv : Value} {W W2 : World} (h : RS B t rb g L s fv W) (htb : t < B) (hrb : t ≠ rb) (f : Fi.File) (bv : Value) (hbv : W.ownsRow B 3 1 bv f.blocks.length (Fi.ic f.blocks))
    (hown : W2.ownsRow B 46 3 (.slice (some ⟨gb, 0, none⟩) (L.length + 1) cap) (L.length + 1) (Fi.fCells L ++ [.string (Cd.bs f.name), .int .i64 f.size, bv]))
    (hgrow : W.grownBy W2 fv.ownBlock) :
    RS B t rb g (L ++ [(f, bv)]) s (.slice (some ⟨gb, 0, none⟩) (L.length + 1) cap) (W2.setCell ⟨rb, 1, none⟩ (.slice (some ⟨gb, 0, none⟩) (L.length + 1) cap)) := by
  have hnb := h.box.not_row (by decide : 25 ≠ 46) h.own.row
  have hob : Ob.Obj W2 rb 25 [.int .u64 (g : Int), fv] := h.box.grown hgrow hnb
  have htk : Tk W2 t s := Tk.grown h.tk h.own.row htb hgrow
  have hint : ∀ v m xs, W.ownsRow B 3 1 v m xs → W2.ownsRow B 3 1 v m xs := fun v m xs hv =>
    Sq.row_kept (T := fun k => v.ownBlock = some k) hv (Sq.Kept.grown hgrow (fun r hr hn => Ob.rows_apart hv h.own.row (by decide) r hn hr)) (fun _ hk => hk)
  refine ⟨?_, ?_, ⟨?_, ?_⟩⟩
  · exact Ob.Obj.other htk (p := ⟨rb, 1, none⟩) hrb _
  · have := hob.set 1 (.slice (some ⟨gb, 0, none⟩) (L.length + 1) cap)
    simpa using this
  · rw [Fi.fCells_snoc, List.length_append, List.length_singleton]
    exact Ob.row_other hown (hob.not_row (by decide) hown) _
  · intro x hx
    rcases List.mem_append.1 hx with hx | hx
    · have := hint _ _ _ (h.own.ints x hx)
      exact Ob.row_other this (hob.not_row (by decide) this) _
    · simp only [List.mem_singleton] at hx
      subst hx
      have := hint _ _ _ hbv
      exact Ob.row_other this (hob.not_row (by decide) this) _
end Fd
end Go.Proofs.Ytaghifnihjlpjaa

/-
  The program's reader: the walk of a root's reading.
-/
namespace Go.Proofs.Ytaghifnihjlpjaa
open Go.RowKit
set_option linter.unusedSimpArgs false
set_option linter.unusedVariables false
namespace Fd
theorem lower {W : World} {B B' : Nat} {e : TypeId} {sz m : Nat} {v : Value} {xs : List Value} (h : W.ownsRow B e sz v m xs) (hB : B' ≤ B) : W.ownsRow B' e sz v m xs := by
  rcases h with ⟨h0, h1 | ⟨g, cap, cur, h1, h2, h3, h4⟩⟩
  · exact ⟨h0, .inl h1⟩
  · exact ⟨h0, .inr ⟨g, cap, cur, h1, Nat.le_trans hB h2, h3, h4⟩⟩

/-- a root that came out, in memory of its own -/
def RootOut (r : Fi.Root) (t : Nat) (w : World) (e : Ending) (w' : World) : Prop :=
  ∃ fv L, e = .returned (.agg #[.int .u64 (r.gen : Int), fv]) ∧ Fi.OwnF w.heap.size w' fv L ∧ L.map (·.1) = r.files ∧ Sq.Kept (fun k => k ≠ t) w w'
theorem OwnF.set {B rb : Nat} {W : World} {fv : Value} {L : List (Fi.File × Value)} {cs : List Value} (h : Fi.OwnF B W fv L) (ho : Ob.Obj W rb 25 cs) (j : Nat) (v : Value) : Fi.OwnF B (W.setCell ⟨rb, j, none⟩ v) fv L :=
  ⟨Ob.row_other h.row (ho.not_row (by decide) h.row) _, fun x hx => Ob.row_other (h.ints x hx) (ho.not_row (by decide) (h.ints x hx)) _⟩

set_option maxRecDepth 100000 in
set_option maxHeartbeats 8000000 in
theorem root_any (t : Nat) (l : Fi.Dat) (w : World) (h : Tk w t (l, false)) (hl : l.length ≤ 140737488351232) :
    Calls Try.prog 23 #[.pointer (some ⟨t, 0, none⟩)] w (RootOut (Fi.tkRoot l) t w) := by
  have htb := h.lt
  have hN := Lib.hid (fun W (hb : Below w.heap.size w W) => number_any t (l, false) 4611686018427387904 4611686018427387904 rfl W (Ob.Obj.below h hb) hl (by omega))
  have HR := Lib.hid (show Fi.tkRoot l = if (Fi.tkFiles (Fi.tkNum 64 (Fi.tkNum 4611686018427387904 (l, false)).2).1 [] (Fi.tkNum 64 (Fi.tkNum 4611686018427387904 (l, false)).2).2).2.2 = true then ⟨0, []⟩ else ⟨(Fi.tkNum 4611686018427387904 (l, false)).1, (Fi.tkFiles (Fi.tkNum 64 (Fi.tkNum 4611686018427387904 (l, false)).2).1 [] (Fi.tkNum 64 (Fi.tkNum 4611686018427387904 (l, false)).2).2).1⟩ from rfl)
  have a1 := Fi.tkNum_le 4611686018427387904 (l, false)
  have a2 := Fi.tkNum_len 4611686018427387904 (l, false)
  generalize Fi.tkNum 4611686018427387904 (l, false) = r1 at *
  obtain ⟨g, s1⟩ := r1
  simp only at a1 a2
  have hC := Lib.hid (fun W (h : Tk W t s1) => count_any t s1 64 64 rfl W h (by omega) (by omega))
  have a3 := Fi.tkNum_le 64 s1
  have a4 := Fi.tkNum_len 64 s1
  simp only at HR
  generalize Fi.tkNum 64 s1 = r2 at *
  obtain ⟨K, s2⟩ := r2
  simp only at a3 a4 HR
  have hb0 : Below w.heap.size w (w.alloc (.cells #[.int .u64 0, .slice none 0 0] 25)) := (Below.refl _ _).alloc (Nat.le_refl _) _
  have HN := Lib.hid (hN.out _ hb0)
  have ob := Ob.Obj.new w 25 [.int .u64 0, .slice none 0 0]
  clear h hN
  go_enter Try.func23, Try.ntmps23
  go_wp2_with (first
    | (go_at_call 37; (with_reducible refine HN.out.mono ?_); rintro e w1 ⟨rfl, hT1, hk1⟩; have hs1 := hk1.size; simp at hs1; have hTn := hT1.below ((Below.refl _ _).alloc (Nat.le_refl _) (.cells #[.int .u64 (g : Int), .slice none 0 0] 25)))
    | (go_at_call 38; (with_reducible refine (hC.out _ hTn).mono ?_); rintro e w2 ⟨rfl, hT2, hk2⟩))
  obtain ⟨rb, hrb⟩ : ∃ rb, rb = w1.heap.size := ⟨_, rfl⟩
  have hR0 : RS w.heap.size t rb g [] s2 (.slice none 0 0) w2 := by
    refine ⟨hT2, ?_, ⟨World.ownsRow_nil _ _ _ _, fun x hx => by cases hx⟩⟩
    rw [hrb]
    exact (Ob.Obj.new w1 25 [.int .u64 (g : Int), .slice none 0 0]).kept hk2 (by omega)
  have hO0 : Ob.Obj w2 w.heap.size 25 [.int .u64 0, .slice none 0 0] := ((ob.kept hk1 (by omega)).alloc _).kept hk2 (by omega)
  have hK0 : Sq.Kept (fun k => k < w.heap.size ∧ k ≠ t) w w2 :=
    (((Sq.Kept.of_below hb0).trans ((hk1.less (T' := fun k => k < w.heap.size ∧ k ≠ t) (fun k hk _ => hk.2)).less (fun k hk _ => hk))).trans (Sq.Kept.alloc _ _ _)).trans (hk2.less (fun k hk _ => hk.2))
  have hrw : rb ≠ w.heap.size := by omega
  have htr : t ≠ rb := by omega
  have hrB : w.heap.size < rb := by omega
  rw [← hrb]
  have HRB := Lib.hid hrb
  clear hrb HN hC ob hT1 hk1 hTn hT2 hk2 hb0 hs1
  go_loopw [9] (fun j wr => ∃ (k : Nat) (L : List (Fi.File × Value)) (s' : Fi.TkS) (fv : Value), k ≤ K ∧ j = .int .i64 (k : Int) ∧ RS w.heap.size t rb g L s' fv wr ∧ Ob.Obj wr w.heap.size 25 [.int .u64 0, .slice none 0 0] ∧ (L.length ≤ k ∧ k ≤ L.length) ∧ s'.1.length ≤ l.length ∧ Hid (Fi.tkFiles K [] s2 = Fi.tkFiles (K - k) (L.map (·.1)) s') ∧ Sq.Kept (fun k => k < w.heap.size ∧ k ≠ t) w wr) (fun j _ => K - (intOf j).toNat)
  case atStart => exact ⟨0, [], s2, _, Nat.zero_le _, rfl, hR0, hO0, ⟨Nat.le_refl _, Nat.le_refl _⟩, by omega, rfl, hK0⟩
  case round =>
    obtain ⟨k, L, s', fv, hk, rfl, hR, hO, ⟨hLk, hLk2⟩, hsl, hgo, hkp⟩ := hrel
    obtain ⟨wo, rfl⟩ : ∃ wo : World, wo = wr := ⟨_, rfl⟩
    obtain ⟨ao, cap, rfl, hg0⟩ := Sq.row_cases hR.own.row
    have hbs : w.heap.size ≤ wo.heap.size := hkp.size
    by_cases hlt : k < K
    · have hi1 : (k : Int) < (K : Int) := by omega
      obtain ⟨i0, hi0, hz0, hz1, hz2⟩ := info_parts info_File
      have hstep : Fi.tkFiles K [] s2 = Fi.tkFiles (K - (k + 1)) (L.map (·.1) ++ [(Fi.tkFile s').1]) (Fi.tkFile s').2 := by
        rw [hgo.out, show K - k = (K - (k + 1)) + 1 by omega, Fi.tkFiles]
      have hfl := (Fi.tkFile_in s').2
      have b1 := Fi.tkText_len 32 s'
      unfold Fi.tkFile at hstep hfl
      have HC1 := Lib.hid (fun W (h : Tk W t s') => text_any t s' 32 32 rfl W h (by omega) (by omega))
      generalize Fi.tkText 32 s' = x1 at *
      obtain ⟨nm, sa⟩ := x1
      simp only at hstep hfl b1
      have b2 := Fi.tkNum_len 9223372036854775807 sa
      have HC2 := Lib.hid (fun W (h : Tk W t sa) => count_any t sa 9223372036854775807 9223372036854775807 rfl W h (by omega) (by omega))
      generalize Fi.tkNum 9223372036854775807 sa = x2 at *
      obtain ⟨z, sb⟩ := x2
      simp only at hstep hfl b2
      have HC3 := Lib.hid (fun W (h : Tk W t sb) => runs_any t sb W h (by omega))
      generalize Fi.tkRuns sb = x3 at *
      obtain ⟨bl, sc⟩ := x3
      simp only at hstep hfl
      have HST := Lib.hid (show Fi.tkFiles K [] s2 = Fi.tkFiles (K - (k + 1)) ((L ++ [((⟨nm, (z : Int), bl⟩ : Fi.File), Value.pointer none)]).map (·.1)) sc by rw [hstep, List.map_append]; rfl)
      have HR0 := Lib.hid (hR.below (Below.refl _ _).drew)
      have HO0 := Lib.hid hO
      have HKP := Lib.hid hkp
      clear hstep hgo hO hkp
      have c0 := hR.box.cell 1
      simp at c0
      have hrlt := hR.box.lt
      clear hR
      go_wp2_with fail
      refine wp_region_noPanic ?_
      go_region_law (first
        | (go_simp; go_at_call 39; refine (HC1.out _ HR0.out.tk).mono ?_; rintro e w3 ⟨rfl, hT3, hk3⟩; have HR3 := Lib.hid (HR0.out.kept htb htr hk3 hT3); have c3 := HR3.out.box.cell 1; simp at c3; have hr3 : rb < w3.heap.size := HR3.out.box.lt)
        | (go_simp; go_at_call 38; refine (HC2.out _ HR3.out.tk).mono ?_; rintro e w4 ⟨rfl, hT4, hk4⟩; have HR4 := Lib.hid (HR3.out.kept htb htr hk4 hT4); have c4 := HR4.out.box.cell 1; simp at c4; have hr4 : rb < w4.heap.size := HR4.out.box.lt)
        | (go_simp; go_at_call 40; refine (HC3.out _ HR4.out.tk).mono ?_; rintro e w5 ⟨v5, rfl, hv5, hT5, hk5⟩; have HR5 := Lib.hid (HR4.out.kept htb htr hk5 hT5); have c5 := HR5.out.box.cell 1; simp at c5; have hr5 : rb < w5.heap.size := HR5.out.box.lt; obtain ⟨ao5, cap5, rfl, hg5⟩ := Sq.row_cases hv5; have HV5 := Lib.hid hv5)
        | (refine step_append_lies _ (by rfl) _ _ _ (by rfl) w.heap.size 46 i0 _ 3 48 Try.underlying23 hi0 hz0 hz1 hz2 rfl (by omega) (.slice ao L.length cap) L.length _ (by rfl) (HR5.out.own.row.alloc _)
            ⟨w5.heap.size, 0, none⟩ 1 1 [.string (Cd.bs nm), .int .i64 (z : Int), .slice ao5 bl.length cap5] (by rfl) (by rfl) (World.news_of_block (cs := #[.string (Cd.bs nm), .int .i64 (z : Int), .slice ao5 bl.length cap5]) (t := 46) (fr := (0, 0)) (heap_alloc_new w5 _)) (by simp [Value.oneCell'])
            (by omega) (by unfold maxLen; omega) (by omega) (by have := HR5.out.box.lt; have := HKP.out.size; have := hk3.size; have := hk4.size; have := hk5.size; simp at *; omega) (w5.heap.size + 1) (by simp) ?_; intro gb cap6 w6 hown6 hgrow6 hat6 hlt6; have hob6 := (HR5.out.box.alloc (.cells #[.string (Cd.bs nm), .int .i64 (z : Int), .slice ao5 bl.length cap5] 46)).grown hgrow6 (HR5.out.box.not_row (by decide) HR5.out.own.row); have c6 := hob6.cell 1; have f6 := hob6.frozen 1; simp at c6; clear hob6))
      all_goals
        have hvB := ((lower HV5.out (show w.heap.size ≤ w4.heap.size by have := HKP.out.size; have := hk3.size; have := hk4.size; simp at *; omega)).alloc (.cells #[.string (Cd.bs nm), .int .i64 (z : Int), .slice ao5 bl.length cap5] 46))
        have hR6 := Lib.hid ((HR5.out.below ((Below.refl _ _).alloc (Nat.le_refl _) (.cells #[.string (Cd.bs nm), .int .i64 (z : Int), .slice ao5 bl.length cap5] 46))).appended htb htr ⟨nm, (z : Int), bl⟩ (.slice ao5 bl.length cap5) hvB hown6 hgrow6)
        have hO6 := Lib.hid (Ob.Obj.other (((((HO0.out.drew.kept hk3 (by omega)).kept hk4 (by omega)).kept hk5 (by omega)).alloc (.cells #[.string (Cd.bs nm), .int .i64 (z : Int), .slice ao5 bl.length cap5] 46)).grown hgrow6 ((((HO0.out.drew.kept hk3 (by omega)).kept hk4 (by omega)).kept hk5 (by omega)).not_row (by decide) HR5.out.own.row)) (p := ⟨rb, 1, none⟩) (by simpa using hrw.symm) (.slice (some ⟨gb, 0, none⟩) (L.length + 1) cap6))
        have hk6 := Lib.hid ((kept_grown (((((HKP.out.trans (Sq.Kept.drew _ _)).trans (hk3.less (fun k hk _ => hk.2))).trans (hk4.less (fun k hk _ => hk.2))).trans (hk5.less (fun k hk _ => hk.2))).trans (Sq.Kept.alloc _ _ (.cells #[.string (Cd.bs nm), .int .i64 (z : Int), .slice ao5 bl.length cap5] 46))) (HR5.out.own.row.alloc _) hgrow6).trans (Sq.Kept.setCell _ (p := ⟨rb, 1, none⟩) (.slice (some ⟨gb, 0, none⟩) (L.length + 1) cap6) (fun hn => by have := hn.1; simp at this; omega)))
        clear hown6 hgrow6 c6 f6 hvB
        refine NoPanic.normal ?_
        go_wp2_with fail
        go_roundw
        case rel => exact ⟨k + 1, L ++ [(⟨nm, (z : Int), bl⟩, .slice ao5 bl.length cap5)], sc, _, by omega, by go_num, hR6.out, hO6.out, by rw [List.length_append, List.length_singleton]; exact ⟨by omega, by omega⟩, by omega, by rw [HST.out, List.map_append, List.map_append]; rfl, hk6.out⟩
        case measure => simp [intOf]; omega
    · obtain rfl : k = K := by omega
      have HE := Lib.hid (show Fi.tkFiles k [] s2 = (L.map (·.1), s') by rw [hgo.out, Nat.sub_self, Fi.tkFiles])
      have c1 := Ob.Obj.cell hR.tk 1
      have d0 := hR.box.cell 0
      have d1 := hR.box.cell 1
      have e0 := hO.cell 0
      have e1 := hO.cell 1
      have f0 := hO.frozen 0
      have f1 := hO.frozen 1
      simp at c1 d0 d1 e0 e1
      have hrl := hR.box.lt
      have hol := hO.lt
      have HRR := Lib.hid hR
      have HOO := Lib.hid hO
      have HKP := Lib.hid hkp
      obtain ⟨sl, sbad⟩ := s'
      clear hgo hR hO hkp
      cases sbad with
      | true =>
        go_wp2_with fail
        refine bodyPost_ret (v := .agg #[.int .u64 0, .slice none 0 0]) (by simp [results, Try.results23, go_sem, e0, e1]) rfl ?_
        rw [HR.out, HE.out, if_pos rfl]
        refine ⟨.slice none 0 0, [], rfl, ⟨World.ownsRow_nil _ _ _ _, fun x hx => by cases hx⟩, rfl, ?_⟩
        exact ((HKP.out.trans (Sq.Kept.setCell _ (p := ⟨w.heap.size, 0, none⟩) _ (fun hn => by have := hn.1; simp at this))).trans (Sq.Kept.setCell _ (p := ⟨w.heap.size, 1, none⟩) _ (fun hn => by have := hn.1; simp at this))).less (fun k hk hk2 => ⟨hk2, hk⟩)
      | false =>
        go_wp2_with fail
        refine bodyPost_ret (v := .agg #[.int .u64 (g : Int), .slice ao L.length cap]) (by simp [results, Try.results23, go_sem, e0, e1]) rfl ?_
        rw [HR.out, HE.out, if_neg (by simp)]
        refine ⟨.slice ao L.length cap, L, rfl, ?_, rfl, ?_⟩
        · exact OwnF.set (OwnF.set HRR.out.own HOO.out 0 _) (HOO.out.set 0 _) 1 _
        · exact ((HKP.out.trans (Sq.Kept.setCell _ (p := ⟨w.heap.size, 0, none⟩) _ (fun hn => by have := hn.1; simp at this))).trans (Sq.Kept.setCell _ (p := ⟨w.heap.size, 1, none⟩) _ (fun hn => by have := hn.1; simp at this))).less (fun k hk hk2 => ⟨hk2, hk⟩)
end Fd
end Go.Proofs.Ytaghifnihjlpjaa

/-
  The document's answers on roots (tapestryref04): May.
-/
namespace Go.Proofs.Ytaghifnihjlpjaa
open Go.RowKit
set_option linter.unusedSimpArgs false
set_option linter.unusedVariables false

theorem info_bool4 : (Try.prog.info? 4).map (fun i => (i.zero, i.size, i.bytes)) = some (some (.bool false), 1, 1) := by kernel_rfl
theorem made_bool4 (n : Nat) : (madeCells (Value.bool false).cells (n * 1)).toList = List.replicate n (.bool false) := by
  rw [show (Value.bool false).cells = #[Value.bool false] from rfl, Nat.mul_one, toList_madeCells_one]

namespace Fi
theorem blocksGo_more {n b : Int} {l t : List Int} (h : 32 ≤ b ∧ b < n ∧ b ∉ t) : blocksGo n (b :: l) t = blocksGo n l (b :: t) := by rw [blocksGo, if_pos h]
theorem blocksGo_bad {n b : Int} {l t : List Int} (h : ¬ (32 ≤ b ∧ b < n ∧ b ∉ t)) : blocksGo n (b :: l) t = none := by rw [blocksGo, if_neg h]
theorem mayGo_bad {n : Int} {f : File} {r : List File} {p : Option Dat} {t : List Int} (h : headB p f = false) : mayGo n (f :: r) p t = false := by rw [mayGo, h]; rfl
theorem mayGo_none {n : Int} {f : File} {r : List File} {p : Option Dat} {t : List Int} (h : blocksGo n f.blocks t = none) : mayGo n (f :: r) p t = false := by rw [mayGo, h]; simp
theorem mayGo_some {n : Int} {f : File} {r : List File} {p : Option Dat} {t t' : List Int} (h : headB p f = true) (hb : blocksGo n f.blocks t = some t') : mayGo n (f :: r) p t = mayGo n r (some f.name) t' := by rw [mayGo, h, hb]; rfl
/-- why a head is refused -/
theorem head_cases (p : Option Dat) (f : File) : (headB p f = false ∧ nameB f.name = false) ∨ (headB p f = false ∧ nameB f.name = true ∧ prevB p f.name = false) ∨
    (nameB f.name = true ∧ prevB p f.name = true ∧ ((headB p f = false ∧ f.size < 0) ∨ (headB p f = false ∧ 0 ≤ f.size ∧ (f.blocks.length : Int) ≠ takes f.size) ∨ (headB p f = true ∧ 0 ≤ f.size ∧ (f.blocks.length : Int) = takes f.size))) := by
  unfold headB
  cases hn : nameB f.name
  · exact .inl ⟨rfl, rfl⟩
  · cases hq : prevB p f.name
    · exact .inr (.inl ⟨rfl, rfl, rfl⟩)
    · refine .inr (.inr ⟨rfl, rfl, ?_⟩)
      by_cases h0 : 0 ≤ f.size
      · by_cases h1 : (f.blocks.length : Int) = takes f.size
        · exact .inr (.inr ⟨by simp [h0, h1], h0, h1⟩)
        · exact .inr (.inl ⟨by simp [h0, h1], h0, h1⟩)
      · exact .inl ⟨by simp [h0], by omega⟩
end Fi

set_option maxRecDepth 100000 in
set_option maxHeartbeats 8000000 in
theorem mayR_any (g : Nat) (fv : Value) (L : List (Fi.File × Value)) (n : Int) (w : World) (hg : g < 18446744073709551616) (hn : Fi.inI64 n) (hn2 : n ≤ 16384) (hF : Fi.Files w.heap.size w fv L) (hin : ∀ x ∈ L, Fi.FileIn x.1) (hL : L.length ≤ 1048576) :
    Calls Try.prog 17 #[.agg #[.int .u64 (g : Int), fv], .int .i64 n] w fun e w' => e = .returned (.bool (Fi.may ⟨g, L.map (·.1)⟩ n)) ∧ Below w.heap.size w w' := by
  obtain ⟨a, cap, fb, fo, rfl, ha, hcells⟩ := hF
  obtain ⟨hn1, hn3⟩ := hn
  have bx := Ob.Obj.new w 25 [.int .u64 (g : Int), .slice a L.length cap]
  by_cases hc : 1 ≤ g ∧ g ≤ 4611686018427387904 ∧ L.length ≤ 64
  · obtain ⟨g1, g2, g3⟩ := hc
    have e : Fi.may ⟨g, L.map (·.1)⟩ n = Fi.mayGo n (L.map (·.1)) none [] := by unfold Fi.may; simp [g1, g2, g3]
    rw [e]
    clear e
    obtain ⟨N, hN⟩ : ∃ N : Nat, max n 0 = (N : Int) := ⟨n.toNat, by omega⟩
    have hN2 : N ≤ 16384 := by omega
    obtain ⟨i0, hi0, hz0, hz1, hz2⟩ := info_parts info_bool4
    have g1i : ¬ (g : Int) < 1 := by omega
    have g2i : ¬ (4611686018427387904 : Int) < (g : Int) := by omega
    have g3i : ¬ (64 : Int) < (L.length : Int) := by omega
    have HC := Lib.hid hcells
    clear hcells
    go_enter Try.func17, Try.ntmps17
    go_wp2_with (refine wpList_make_full _ (by rfl) _ _ 60 (by rfl) (w.heap.size + 1) 4 i0 (.bool false) 1 Try.underlying60 hi0 hz0 hz1 .i64 .i64 (N : Int) (N : Int) N (by rfl) (by rfl) rfl rfl (by rw [hz2]; omega) (by unfold maxLen; omega) (by simp) ?_; intro w1 hown hgrow; rw [made_bool4] at hown; have bx1 := bx.grown hgrow (by simp))
    have hB1 : Below w.heap.size w w1 := ((Below.refl _ _).alloc (Nat.le_refl _) _).grown hgrow (by simp) (fun k hk => by cases hk)
    rw [← Fi.marks_none N, show (w.alloc (.cells #[.int .u64 (g : Int), .slice a L.length cap] 25)).heap.size = w.heap.size + 1 from by simp] at hown
    have h0 : Fi.mayGo n (L.map (·.1)) none [] = Fi.mayGo n ((L.map (·.1)).drop 0) (Fi.prevOf (L.map (·.1)) 0) [] := rfl
    have H0 := Lib.hid h0
    clear h0 hgrow bx
    go_loopw [6] (fun i wr => ∃ (q : Nat) (T : List Int), q ≤ L.length ∧ i = .int .i64 q ∧ Ob.Obj wr w.heap.size 25 [.int .u64 (g : Int), .slice a L.length cap] ∧ wr.ownsRow (w.heap.size + 1) 4 1 (.slice (some ⟨w.heap.size + 1, 0, none⟩) N N) N (Fi.marks N T) ∧ Below w.heap.size w wr ∧ Hid (Fi.mayGo n (L.map (·.1)) none [] = Fi.mayGo n ((L.map (·.1)).drop q) (Fi.prevOf (L.map (·.1)) q) T)) (fun i _ => L.length - (intOf i).toNat)
    case atStart => exact ⟨0, [], Nat.zero_le _, rfl, bx1, hown, hB1, H0⟩
    case round =>
      obtain ⟨q, T, hq, rfl, hbx, hrow, hB, hgo⟩ := hrel
      obtain ⟨wo, rfl⟩ : ∃ wo : World, wo = wr := ⟨_, rfl⟩
      have c1 := hbx.cell 1
      simp at c1
      by_cases hlt : q < L.length
      · obtain ⟨rfl, hfb⟩ := ha (by omega)
        obtain ⟨d0, d1, d2, d3⟩ := HC.out q hlt
        have e0 := (hB.cell (p := ⟨fb, fo + q * 3, none⟩) hfb).trans d0
        have e1 := (hB.cell (p := ⟨fb, fo + q * 3 + 1, none⟩) hfb).trans d1
        have e2 := (hB.cell (p := ⟨fb, fo + q * 3 + 2, none⟩) hfb).trans d2
        have hx := hin L[q] (List.getElem_mem hlt)
        have hdrop : (L.map (·.1)).drop q = L[q].1 :: (L.map (·.1)).drop (q + 1) := by
          rw [List.drop_eq_getElem_cons (by simpa using hlt)]; simp
        have hprev1 : Fi.prevOf (L.map (·.1)) (q + 1) = some L[q].1.name := by simp [Fi.prevOf, hlt]
        rw [hdrop] at hgo
        have hbs := hB.size
        have hwb : fb < wo.heap.size := by omega
        have hwl : w.heap.size < wo.heap.size := hbx.lt
        have hi1 : (0 : Int) ≤ (q : Int) ∧ (q : Int) < (L.length : Int) := by omega
        have hpv : (q = 0) ∨ ∃ p, ∃ hp : p < L.length, q = p + 1 ∧ Fi.prevOf (L.map (·.1)) q = some L[p].1.name ∧ wo.cell? ⟨fb, fo + p * 3, none⟩ = some (.string (Cd.bs L[p].1.name)) := by
          cases q with
          | zero => exact .inl rfl
          | succ p => exact .inr ⟨p, by omega, rfl, by simp [Fi.prevOf, show p < L.length by omega], (hB.cell (p := ⟨fb, fo + p * 3, none⟩) hfb).trans (HC.out p (by omega)).1⟩
        generalize L[q].1 = f at *
        generalize L[q].2 = bv at *
        obtain ⟨hx1, ⟨hx2, hx3⟩, hx4, hx5⟩ := hx
        obtain ⟨a2, cap2, b2, o2, rfl, hb2, hc2⟩ := d3
        have HC2 := Lib.hid hc2
        clear hc2
        have hnm := Lib.hid (fun W => nameR_any f.name W hx1)
        have hhc := Fi.head_cases (Fi.prevOf (L.map (·.1)) q) f
        rcases hhc with ⟨hh, hn0⟩ | ⟨hh, hn0, hp0⟩ | ⟨hn0, hp0, hrest⟩
        · have HE := Lib.hid (show Fi.mayGo n (L.map (·.1)) none [] = false by rw [hgo.out, Fi.mayGo_bad hh])
          rw [hn0] at hnm
          clear hgo hh hdrop hprev1 hpv hn0
          go_wp2_with (go_at_call 32; refine (hnm.out _).mono ?_; rintro e w' ⟨rfl, rfl⟩)
          go_quiet (fail)
          go_wp2_with fail
          go_ret
          exact ⟨by rw [HE.out]; rfl, belowN (hB.alloc hbs _) _⟩
        · have HE := Lib.hid (show Fi.mayGo n (L.map (·.1)) none [] = false by rw [hgo.out, Fi.mayGo_bad hh])
          rw [hn0] at hnm
          rcases hpv with rfl | ⟨p, hp, rfl, hpe, hpc⟩
          · simp [Fi.prevOf, Fi.prevB] at hp0
          · rw [hpe] at hp0
            have hle : (Op.bytesLess f.name L[p].1.name || f.name == L[p].1.name) = true := by
              have := Fi.bl_total L[p].1.name f.name
              change Op.bytesLess L[p].1.name f.name = false at hp0
              rw [hp0] at this
              cases hX : (Op.bytesLess f.name L[p].1.name || f.name == L[p].1.name) with
              | true => rfl
              | false => rw [hX] at this; cases this
            have hi2 : (0 : Int) ≤ (p : Int) ∧ (p : Int) < (L.length : Int) := by omega
            have hi3 : (0 : Int) < ((p + 1 : Nat) : Int) := by omega
            clear hgo hh hdrop hprev1 hpe hp0 hn0
            generalize L[p].1.name = pn at *
            go_wp2_with (go_at_call 32; refine (hnm.out _).mono ?_; rintro e w' ⟨rfl, rfl⟩)
            go_quiet (fail)
            go_wp2_with fail
            go_ret
            exact ⟨by rw [HE.out]; rfl, belowN (hB.alloc hbs _) _⟩
        · have hpos : (q = 0) ∨ (0 < q ∧ ∃ pn : Fi.Dat, wo.cell? ⟨fb, fo + (q - 1) * 3, none⟩ = some (.string (Cd.bs pn)) ∧ (Op.bytesLess f.name pn || f.name == pn) = false) := by
            rcases hpv with h | ⟨p, hp, hq1, hpe, hpc⟩
            · exact .inl h
            · refine .inr ⟨by omega, L[p].1.name, by rw [hq1]; exact hpc, ?_⟩
              rw [hpe] at hp0
              have := Fi.bl_total L[p].1.name f.name
              change Op.bytesLess L[p].1.name f.name = true at hp0
              rw [hp0] at this
              cases hX : (Op.bytesLess f.name L[p].1.name || f.name == L[p].1.name) with
              | false => rfl
              | true => rw [hX] at this; cases this
          rw [hn0] at hnm
          clear hpv hp0 hn0
          rcases hrest with ⟨hh, h0⟩ | ⟨hh, h0, h1⟩ | ⟨hh, h0, h1⟩
          · have HE := Lib.hid (show Fi.mayGo n (L.map (·.1)) none [] = false by rw [hgo.out, Fi.mayGo_bad hh])
            clear hgo hh hdrop hprev1
            rcases hpos with hq0 | ⟨hq0, pn, hpc, hle⟩
            all_goals
              first
              | (have hi2 : (0 : Int) ≤ (q : Int) - 1 ∧ (q : Int) - 1 < (L.length : Int) := by omega
                 have hi3 : (0 : Int) < (q : Int) := by omega)
              | (have hng : ¬ (0 : Int) < (q : Int) := by omega
                 have hng2 : ¬ 0 < q := by omega
                 clear hq0)
              go_wp2_with (go_at_call 32; refine (hnm.out _).mono ?_; rintro e w' ⟨rfl, rfl⟩)
              go_quiet (fail)
              go_wp2_with fail
              go_ret
              exact ⟨by rw [HE.out]; rfl, belowN (hB.alloc hbs _) _⟩
          · have HE := Lib.hid (show Fi.mayGo n (L.map (·.1)) none [] = false by rw [hgo.out, Fi.mayGo_bad hh])
            have hneg : ¬ f.size < 0 := by omega
            have hdn : decide (f.size < 0) = false := by simpa using h0
            have hb1 : (((f.blocks.length : Nat) : Int) != Fi.takes f.size) = true := by simpa using h1
            have hb2 : (((f.blocks.length : Nat) : Int) == Fi.takes f.size) = false := by simpa using h1
            have hT := Lib.hid (fun W => takesR_any f.size W h0 hx3)
            clear hgo hh hdrop hprev1 h1
            generalize Fi.takes f.size = tk at *
            rcases hpos with hq0 | ⟨hq0, pn, hpc, hle⟩
            all_goals
              first
              | (have hi2 : (0 : Int) ≤ (q : Int) - 1 ∧ (q : Int) - 1 < (L.length : Int) := by omega
                 have hi3 : (0 : Int) < (q : Int) := by omega)
              | (have hng : ¬ (0 : Int) < (q : Int) := by omega
                 have hng2 : ¬ 0 < q := by omega
                 clear hq0)
              go_wp2_with (go_at_call 32; refine (hnm.out _).mono ?_; rintro e w' ⟨rfl, rfl⟩)
              go_big_quiet ((go_at_call 33; exact Calls.quiet_of_same (hT.out _)))
              go_wp2_with fail
              go_ret
              exact ⟨by rw [HE.out]; rfl, belowN (hB.alloc hbs _) _⟩
          · have hneg : ¬ f.size < 0 := by omega
            have hdn : decide (f.size < 0) = false := by simpa using h0
            have hb1 : (((f.blocks.length : Nat) : Int) != Fi.takes f.size) = false := by simpa using h1
            have hb3 : (((f.blocks.length : Nat) : Int) == Fi.takes f.size) = true := by simpa using h1
            have hT := Lib.hid (fun W => takesR_any f.size W h0 hx3)
            have HH := Lib.hid hh
            have HP1 := Lib.hid hprev1
            clear hh hdrop hprev1 h1
            generalize Fi.takes f.size = tk at *
            rcases hpos with hq0 | ⟨hq0, pn, hpc, hle⟩
            all_goals
              first
              | (have hi2 : (0 : Int) ≤ (q : Int) - 1 ∧ (q : Int) - 1 < (L.length : Int) := by omega
                 have hi3 : (0 : Int) < (q : Int) := by omega)
              | (have hng : ¬ (0 : Int) < (q : Int) := by omega
                 have hng2 : ¬ 0 < q := by omega
                 clear hq0)
              go_wp2_with (go_at_call 32; refine (hnm.out _).mono ?_; rintro e w' ⟨rfl, rfl⟩)
              go_big_quiet ((go_at_call 33; exact Calls.quiet_of_same (hT.out _)))
              go_wp2_with fail
              have hbA : Ob.Obj ((wo.alloc (.cells #[.string (Cd.bs f.name), .int .i64 f.size, .slice a2 f.blocks.length cap2] 46)).drewN nq) wo.heap.size 46 [.string (Cd.bs f.name), .int .i64 f.size, .slice a2 f.blocks.length cap2] := Ob.Obj.new wo _ _
              have hbxA : Ob.Obj ((wo.alloc (.cells #[.string (Cd.bs f.name), .int .i64 f.size, .slice a2 f.blocks.length cap2] 46)).drewN nq) w.heap.size 25 [.int .u64 (g : Int), .slice (some ⟨fb, fo, none⟩) L.length cap] := hbx.alloc _
              have hrowA : ((wo.alloc (.cells #[.string (Cd.bs f.name), .int .i64 f.size, .slice a2 f.blocks.length cap2] 46)).drewN nq).ownsRow (w.heap.size + 1) 4 1 (.slice (some ⟨w.heap.size + 1, 0, none⟩) N N) N (Fi.marks N T) := hrow.alloc _
              have hBA : Below w.heap.size w ((wo.alloc (.cells #[.string (Cd.bs f.name), .int .i64 f.size, .slice a2 f.blocks.length cap2] 46)).drewN nq) := belowN (hB.alloc hbs _) _
              obtain ⟨wa, hwa⟩ : ∃ wa, wa = ((wo.alloc (.cells #[.string (Cd.bs f.name), .int .i64 f.size, .slice a2 f.blocks.length cap2] 46)).drewN nq) := ⟨_, rfl⟩
              rw [← hwa] at hbA hbxA hrowA hBA ⊢
              have hbz : wo.heap.size ≠ w.heap.size + 1 := by (have : w.heap.size + 1 < wo.heap.size := (Ob.row_lt hrow rfl).2); omega
              have hfz : w.heap.size ≠ w.heap.size + 1 := by omega
              clear hwa hrow hbx e0 e1 e2
              go_loopw [9] (fun j wx => ∃ (k : Nat) (T' : List Int), k ≤ f.blocks.length ∧ j = .int .i64 k ∧ Ob.Obj wx wo.heap.size 46 [.string (Cd.bs f.name), .int .i64 f.size, .slice a2 f.blocks.length cap2] ∧ Ob.Obj wx w.heap.size 25 [.int .u64 (g : Int), .slice (some ⟨fb, fo, none⟩) L.length cap] ∧
                wx.ownsRow (w.heap.size + 1) 4 1 (.slice (some ⟨w.heap.size + 1, 0, none⟩) N N) N (Fi.marks N T') ∧ Below w.heap.size w wx ∧ Hid (Fi.blocksGo n f.blocks T = Fi.blocksGo n (f.blocks.drop k) T')) (fun j _ => f.blocks.length - (intOf j).toNat)
              case atStart => exact ⟨0, T, Nat.zero_le _, rfl, hbA, hbxA, hrowA, hBA, rfl⟩
              case round =>
                obtain ⟨k, T', hk, rfl, hbo, hbr, hrw, hBx, hgk⟩ := hrel
                have c2 := hbo.cell 2
                simp at c2
                have hlz := hbo.lt
                by_cases hkl : k < f.blocks.length
                · obtain ⟨rfl, hb2l⟩ := hb2 (by omega)
                  have hcb := (hBx.cell (p := ⟨b2, o2 + k, none⟩) hb2l).trans (HC2.out k hkl)
                  have hbl := hx5 f.blocks[k] (List.getElem_mem hkl)
                  have hdk := List.drop_eq_getElem_cons hkl
                  rw [hdk] at hgk
                  have hi4 : (0 : Int) ≤ (k : Int) ∧ (k : Int) < (f.blocks.length : Int) := by omega
                  obtain ⟨hbl1, hbl2⟩ := hbl
                  generalize f.blocks[k] = bb at *
                  by_cases hok : 32 ≤ bb ∧ bb < n ∧ bb ∉ T'
                  · have HG := Lib.hid (show Fi.blocksGo n f.blocks T = Fi.blocksGo n (f.blocks.drop (k + 1)) (bb :: T') by rw [hgk.out, Fi.blocksGo_more hok])
                    obtain ⟨k1, k2, k3⟩ := hok
                    obtain ⟨m, rfl⟩ := Int.eq_ofNat_of_zero_le (show 0 ≤ bb by omega)
                    have hm : m < N := by omega
                    have hmc := (hrw.cellAt m (by omega)).trans (Fi.marks_get N T' m hm)
                    rw [decide_eq_false k3] at hmc
                    have hfr := hrw.frozenAt m
                    have hst := (World.ownsRow.stored hrw m (.bool true)).1
                    rw [Fi.marks_set] at hst
                    have HST := Lib.hid hst
                    have HO1 := Lib.hid (hbo.other (p := ⟨w.heap.size + 1, m, none⟩) hbz (.bool true))
                    have HO2 := Lib.hid (hbr.other (p := ⟨w.heap.size + 1, m, none⟩) hfz (.bool true))
                    have hi5 : (0 : Int) ≤ (m : Int) ∧ (m : Int) < (N : Int) := by omega
                    clear hgk hdk hst hrw hbo hbr k3
                    go_wp2_with fail
                    go_roundw
                    case rel => exact ⟨k + 1, (m : Int) :: T', by omega, by go_num, HO1.out, HO2.out, HST.out, hBx.setCell (p := ⟨w.heap.size + 1, m, none⟩) (by simp) _, HG⟩
                    case measure => simp [intOf]; omega
                  · have HE := Lib.hid (show Fi.mayGo n (L.map (·.1)) none [] = false by rw [hgo.out, Fi.mayGo_none (by rw [hgk.out, Fi.blocksGo_bad hok])])
                    clear hgk hdk
                    by_cases k1 : bb < 32
                    · clear hok
                      go_wp2_with fail
                      go_ret
                      exact ⟨by rw [HE.out]; rfl, hBx⟩
                    · by_cases k2 : n ≤ bb
                      · clear hok
                        go_wp2_with fail
                        go_ret
                        exact ⟨by rw [HE.out]; rfl, hBx⟩
                      · have k3 : bb ∈ T' := by
                          by_cases h : bb ∈ T'
                          · exact h
                          · exact absurd ⟨by omega, by omega, h⟩ hok
                        clear hok
                        obtain ⟨m, rfl⟩ := Int.eq_ofNat_of_zero_le (show 0 ≤ bb by omega)
                        have hm : m < N := by omega
                        have hmc := (hrw.cellAt m (by omega)).trans (Fi.marks_get N T' m hm)
                        rw [decide_eq_true k3] at hmc
                        have hi5 : (0 : Int) ≤ (m : Int) ∧ (m : Int) < (N : Int) := by omega
                        clear k3
                        go_wp2_with fail
                        go_ret
                        exact ⟨by rw [HE.out]; rfl, hBx⟩
                · obtain rfl : k = f.blocks.length := by omega
                  have HM := Lib.hid (show Fi.mayGo n (L.map (·.1)) none [] = Fi.mayGo n ((L.map (·.1)).drop (q + 1)) (Fi.prevOf (L.map (·.1)) (q + 1)) T' by
                    rw [hgo.out, HP1.out]
                    exact Fi.mayGo_some HH.out (by rw [hgk.out, List.drop_eq_nil_of_le (Nat.le_refl _), Fi.blocksGo]))
                  clear hgk
                  go_wp2_with fail
                  go_roundw
                  case rel => exact ⟨q + 1, T', by omega, by go_num, hbr, hrw, hBx, HM⟩
                  case measure => simp [intOf]; omega
      · obtain rfl : q = L.length := by omega
        have HE := Lib.hid (show Fi.mayGo n (L.map (·.1)) none [] = true by rw [hgo.out, List.drop_eq_nil_of_le (by simp), Fi.mayGo])
        clear hgo
        go_wp2_with fail
        go_ret
        exact ⟨by rw [HE.out]; rfl, hB⟩
  · have e : Fi.may ⟨g, L.map (·.1)⟩ n = false := by
      unfold Fi.may
      by_cases h1 : 1 ≤ g
      · by_cases h2 : g ≤ 4611686018427387904
        · have h3 : ¬ L.length ≤ 64 := fun h3 => hc ⟨h1, h2, h3⟩
          simp [h3]
        · simp [h2]
      · simp [h1]
    rw [e]
    clear e hcells ha hin
    by_cases h1 : 1 ≤ g
    · by_cases h2 : g ≤ 4611686018427387904
      · have h3 : (64 : Int) < (L.length : Int) := by have : ¬ L.length ≤ 64 := fun h3 => hc ⟨h1, h2, h3⟩; omega
        have g1i : ¬ (g : Int) < 1 := by omega
        have g2i : ¬ (4611686018427387904 : Int) < (g : Int) := by omega
        clear hc
        go_enter Try.func17, Try.ntmps17
        go_wp2_with fail
        go_ret
        exact ⟨rfl, (Below.refl _ _).alloc (Nat.le_refl _) _⟩
      · have g1i : ¬ (g : Int) < 1 := by omega
        have g2i : (4611686018427387904 : Int) < (g : Int) := by omega
        clear hc
        go_enter Try.func17, Try.ntmps17
        go_wp2_with fail
        go_ret
        exact ⟨rfl, (Below.refl _ _).alloc (Nat.le_refl _) _⟩
    · have g1i : (g : Int) < 1 := by omega
      clear hc
      go_enter Try.func17, Try.ntmps17
      go_wp2_with fail
      go_ret
      exact ⟨rfl, (Below.refl _ _).alloc (Nat.le_refl _) _⟩
end Go.Proofs.Ytaghifnihjlpjaa

/-
  The program's roots: which may be.
-/
namespace Go.Proofs.Ytaghifnihjlpjaa
open Go.RowKit
set_option linter.unusedSimpArgs false
set_option linter.unusedVariables false
namespace Fd
/-- a quiet call in a second quiet region -/
theorem quiet2 {P : Program} {f : FuncId} {args : Array Value} {w : World} {a n : Nat} {v : Value} (h : ∀ W, Calls P f args W fun e w' => e = .returned v ∧ w' = W) : Calls P f args (w.drewN (a + n)) fun e w' => e = .returned v ∧ ∃ m, w' = w.drewN (a + m) := (h _).mono fun _ _ ⟨h1, h2⟩ => ⟨h1, n, h2⟩

theorem head_rises (p : Option Fi.Dat) (f : Fi.File) : (Fi.headB p f = false ∧ Fi.prevB p f.name = false) ∨ (Fi.prevB p f.name = true ∧
    ((Fi.headB p f = false ∧ Fi.nameB f.name = false) ∨ (Fi.nameB f.name = true ∧ ((Fi.headB p f = false ∧ f.size < 0) ∨ (Fi.headB p f = false ∧ 0 ≤ f.size ∧ (f.blocks.length : Int) ≠ Fi.takes f.size) ∨ (Fi.headB p f = true ∧ 0 ≤ f.size ∧ (f.blocks.length : Int) = Fi.takes f.size))))) := by
  cases hp : Fi.prevB p f.name
  · refine .inl ⟨?_, rfl⟩
    unfold Fi.headB; rw [hp]; simp
  · refine .inr ⟨rfl, ?_⟩
    rcases Fi.head_cases p f with ⟨h1, h2⟩ | ⟨h1, h2, h3⟩ | ⟨h1, h2, h3⟩
    · exact .inl ⟨h1, h2⟩
    · rw [hp] at h3; cases h3
    · exact .inr ⟨h1, h3⟩

set_option maxRecDepth 100000 in
set_option maxHeartbeats 8000000 in
theorem mayBe_any (g : Nat) (fv : Value) (L : List (Fi.File × Value)) (n0 n : Int) (w : World) (hg : g < 18446744073709551616) (hn0 : Fi.inI64 n0) (hnn : min n0 16384 = n) (hF : Fi.Files w.heap.size w fv L) (hin : ∀ x ∈ L, Fi.FileIn x.1) (hL : L.length ≤ 1048576) :
    Calls Try.prog 9 #[.agg #[.int .u64 (g : Int), fv], .int .i64 n0] w fun e w' => e = .returned (.bool (Fi.may ⟨g, L.map (·.1)⟩ n)) ∧ Below w.heap.size w w' := by
  obtain ⟨a, cap, fb, fo, rfl, ha, hcells⟩ := hF
  obtain ⟨hn1, hn3⟩ := hn0
  have bx := Ob.Obj.new w 25 [.int .u64 (g : Int), .slice a L.length cap]
  by_cases hc : 1 ≤ g ∧ g ≤ 4611686018427387904 ∧ L.length ≤ 64
  · obtain ⟨g1, g2, g3⟩ := hc
    have e : Fi.may ⟨g, L.map (·.1)⟩ n = Fi.mayGo n (L.map (·.1)) none [] := by unfold Fi.may; simp [g1, g2, g3]
    rw [e]
    clear e
    obtain ⟨N, hN⟩ : ∃ N : Nat, min (max n0 0) 16384 = (N : Int) := ⟨(min (max n0 0) 16384).toNat, by omega⟩
    have hN2 : N ≤ 16384 := by omega
    have hNn : ∀ m : Int, 32 ≤ m → (m < n ↔ m < (N : Int)) := fun m hm => by omega
    have HNN := Lib.hid hNn
    obtain ⟨M0, hM0⟩ : ∃ M0 : Int, max n0 0 = M0 := ⟨_, rfl⟩
    rw [hM0] at hN
    have hn4 : n ≤ 16384 := by omega
    have HN0 := Lib.hid hnn
    obtain ⟨i0, hi0, hz0, hz1, hz2⟩ := info_parts info_bool4
    have g1i : ¬ (g : Int) < 1 := by omega
    have g2i : ¬ (4611686018427387904 : Int) < (g : Int) := by omega
    have g3i : ¬ (64 : Int) < (L.length : Int) := by omega
    have HC := Lib.hid hcells
    clear hcells hnn hNn
    go_enter Try.func9, Try.ntmps9
    go_wp2_with (refine wpList_make_full _ (by rfl) _ _ 60 (by rfl) (w.heap.size + 1) 4 i0 (.bool false) 1 Try.underlying60 hi0 hz0 hz1 .i64 .i64 (N : Int) (N : Int) N (by rfl) (by rfl) rfl rfl (by rw [hz2]; omega) (by unfold maxLen; omega) (by simp) ?_; intro w1 hown hgrow; rw [made_bool4] at hown; have bx1 := bx.grown hgrow (by simp); have c1 := bx1.cell 1; simp at c1; have hlw1 : w.heap.size < w1.heap.size := bx1.lt)
    have hB1 : Below w.heap.size w w1 := ((Below.refl _ _).alloc (Nat.le_refl _) _).grown hgrow (by simp) (fun k hk => by cases hk)
    rw [← Fi.marks_none N, show (w.alloc (.cells #[.int .u64 (g : Int), .slice a L.length cap] 25)).heap.size = w.heap.size + 1 from by simp] at hown
    have h0 : Fi.mayGo n (L.map (·.1)) none [] = Fi.mayGo n ((L.map (·.1)).drop 0) (Fi.prevOf (L.map (·.1)) 0) [] := rfl
    have H0 := Lib.hid h0
    clear h0 hgrow bx hM0 hN c1
    go_loopw [32] (fun i wr => ∃ (q : Nat) (T : List Int), q ≤ L.length ∧ i = .int .i64 q ∧ Ob.Obj wr w.heap.size 25 [.int .u64 (g : Int), .slice a L.length cap] ∧ wr.ownsRow (w.heap.size + 1) 4 1 (.slice (some ⟨w.heap.size + 1, 0, none⟩) N N) N (Fi.marks N T) ∧ Below w.heap.size w wr ∧ Hid (Fi.mayGo n (L.map (·.1)) none [] = Fi.mayGo n ((L.map (·.1)).drop q) (Fi.prevOf (L.map (·.1)) q) T)) (fun i _ => L.length - (intOf i).toNat)
    case atStart => exact ⟨0, [], Nat.zero_le _, rfl, bx1, hown, hB1, H0⟩
    case round =>
      obtain ⟨q, T, hq, rfl, hbx, hrow, hB, hgo⟩ := hrel
      obtain ⟨wo, rfl⟩ : ∃ wo : World, wo = wr := ⟨_, rfl⟩
      have c1 := hbx.cell 1
      simp at c1
      by_cases hlt : q < L.length
      · obtain ⟨rfl, hfb⟩ := ha (by omega)
        obtain ⟨d0, d1, d2, d3⟩ := HC.out q hlt
        have e0 := (hB.cell (p := ⟨fb, fo + q * 3, none⟩) hfb).trans d0
        have e1 := (hB.cell (p := ⟨fb, fo + q * 3 + 1, none⟩) hfb).trans d1
        have e2 := (hB.cell (p := ⟨fb, fo + q * 3 + 2, none⟩) hfb).trans d2
        have hx := hin L[q] (List.getElem_mem hlt)
        have hdrop : (L.map (·.1)).drop q = L[q].1 :: (L.map (·.1)).drop (q + 1) := by
          rw [List.drop_eq_getElem_cons (by simpa using hlt)]; simp
        have hprev1 : Fi.prevOf (L.map (·.1)) (q + 1) = some L[q].1.name := by simp [Fi.prevOf, hlt]
        rw [hdrop] at hgo
        have hbs := hB.size
        have hwb : fb < wo.heap.size := by omega
        have hwl : w.heap.size < wo.heap.size := hbx.lt
        have hi1 : (0 : Int) ≤ (q : Int) ∧ (q : Int) < (L.length : Int) := by omega
        have hpv : (((q : Int) == 0) = true ∧ Fi.prevOf (L.map (·.1)) q = none) ∨ (((q : Int) == 0) = false ∧ 0 < q ∧ ∃ pn : Fi.Dat, Fi.prevOf (L.map (·.1)) q = some pn ∧ wo.cell? ⟨fb, fo + (q - 1) * 3, none⟩ = some (.string (Cd.bs pn))) := by
          cases q with
          | zero => exact .inl ⟨rfl, rfl⟩
          | succ p => exact .inr ⟨by simp; omega, by omega, L[p].1.name, by simp [Fi.prevOf, show p < L.length by omega], (hB.cell (p := ⟨fb, fo + p * 3, none⟩) hfb).trans (HC.out p (by omega)).1⟩
        generalize L[q].1 = f at *
        generalize L[q].2 = bv at *
        obtain ⟨hx1, ⟨hx2, hx3⟩, hx4, hx5⟩ := hx
        obtain ⟨a2, cap2, b2, o2, rfl, hb2, hc2⟩ := d3
        have HC2 := Lib.hid hc2
        clear hc2
        have hnm := Lib.hid (fun W => isName_any f.name W (by omega))
        have hhc := head_rises (Fi.prevOf (L.map (·.1)) q) f
        rcases hhc with ⟨hh, hp0⟩ | ⟨hp0, hrest⟩
        · have HE := Lib.hid (show Fi.mayGo n (L.map (·.1)) none [] = false by rw [hgo.out, Fi.mayGo_bad hh])
          rcases hpv with ⟨hz, hpe⟩ | ⟨hz, hqp, pn, hpe, hpc⟩
          · rw [hpe] at hp0; cases hp0
          · rw [hpe] at hp0
            have hle : Op.bytesLess pn f.name = false := hp0
            have hi2 : (0 : Int) ≤ (q : Int) - 1 ∧ (q : Int) - 1 < (L.length : Int) := by omega
            clear hgo hh hdrop hprev1 hpe hp0
            go_wp2_with fail
            go_big_quiet (fail)
            go_wp2_with fail
            go_big_quiet (fail)
            go_wp2_with fail
            go_ret
            exact ⟨by rw [HE.out]; rfl, belowN (belowN (hB.alloc hbs _) _) _⟩
        · have hpos : (((q : Int) == 0) = true) ∨ (((q : Int) == 0) = false ∧ 0 < q ∧ ∃ pn : Fi.Dat, wo.cell? ⟨fb, fo + (q - 1) * 3, none⟩ = some (.string (Cd.bs pn)) ∧ Op.bytesLess pn f.name = true) := by
            rcases hpv with ⟨h, _⟩ | ⟨hz, hq1, pn, hpe, hpc⟩
            · exact .inl h
            · rw [hpe] at hp0
              exact .inr ⟨hz, hq1, pn, hpc, hp0⟩
          clear hpv hp0
          rcases hrest with ⟨hh, hn0⟩ | ⟨hn0, hrest⟩
          · have HE := Lib.hid (show Fi.mayGo n (L.map (·.1)) none [] = false by rw [hgo.out, Fi.mayGo_bad hh])
            rw [hn0] at hnm
            clear hgo hh hdrop hprev1 hn0
            rcases hpos with hz | ⟨hz, hqp, pn, hpc, hle⟩
            all_goals
              (try have hi2 : (0 : Int) ≤ (q : Int) - 1 ∧ (q : Int) - 1 < (L.length : Int) := by omega)
              go_wp2_with fail
              go_big_quiet (fail)
              go_wp2_with fail
              go_big_quiet ((go_at_call 25; exact quiet2 hnm.out))
              go_wp2_with fail
              go_ret
              exact ⟨by rw [HE.out]; rfl, belowN (belowN (hB.alloc hbs _) _) _⟩
          · rw [hn0] at hnm
            rcases hrest with ⟨hh, h0⟩ | ⟨hh, h0, h1⟩ | ⟨hh, h0, h1⟩
            · have HE := Lib.hid (show Fi.mayGo n (L.map (·.1)) none [] = false by rw [hgo.out, Fi.mayGo_bad hh])
              clear hgo hh hdrop hprev1 hn0
              rcases hpos with hz | ⟨hz, hqp, pn, hpc, hle⟩
              all_goals
                (try have hi2 : (0 : Int) ≤ (q : Int) - 1 ∧ (q : Int) - 1 < (L.length : Int) := by omega)
                go_wp2_with fail
                go_big_quiet (fail)
                go_wp2_with fail
                go_big_quiet ((go_at_call 25; exact quiet2 hnm.out))
                go_wp2_with fail
                go_ret
                exact ⟨by rw [HE.out]; rfl, belowN (belowN (hB.alloc hbs _) _) _⟩
            · have HE := Lib.hid (show Fi.mayGo n (L.map (·.1)) none [] = false by rw [hgo.out, Fi.mayGo_bad hh])
              have hdn : decide (f.size < 0) = false := by simpa using h0
              have hb1 : (((f.blocks.length : Nat) : Int) != Fi.takes f.size) = true := by simpa using h1
              have hb2 : (((f.blocks.length : Nat) : Int) == Fi.takes f.size) = false := by simpa using h1
              have hT := Lib.hid (fun W => blocksOf_any f.size W h0 hx3)
              clear hgo hh hdrop hprev1 h1 hn0
              generalize Fi.takes f.size = tk at *
              rcases hpos with hz | ⟨hz, hqp, pn, hpc, hle⟩
              all_goals
                (try have hi2 : (0 : Int) ≤ (q : Int) - 1 ∧ (q : Int) - 1 < (L.length : Int) := by omega)
                go_wp2_with fail
                go_big_quiet (fail)
                go_wp2_with fail
                go_big_quiet ((first | (go_at_call 25; exact quiet2 hnm.out) | (go_at_call 26; exact quiet2 hT.out)))
                go_wp2_with fail
                go_ret
                exact ⟨by rw [HE.out]; rfl, belowN (belowN (hB.alloc hbs _) _) _⟩
            · have hdn : decide (f.size < 0) = false := by simpa using h0
              have hb1 : (((f.blocks.length : Nat) : Int) != Fi.takes f.size) = false := by simpa using h1
              have hb3 : (((f.blocks.length : Nat) : Int) == Fi.takes f.size) = true := by simpa using h1
              have hT := Lib.hid (fun W => blocksOf_any f.size W h0 hx3)
              have HH := Lib.hid hh
              have HP1 := Lib.hid hprev1
              clear hh hdrop hprev1 h1 hn0
              generalize Fi.takes f.size = tk at *
              rcases hpos with hz | ⟨hz, hqp, pn, hpc, hle⟩
              all_goals
                (try have hi2 : (0 : Int) ≤ (q : Int) - 1 ∧ (q : Int) - 1 < (L.length : Int) := by omega)
                go_wp2_with fail
                go_big_quiet (fail)
                have hbA : Ob.Obj ((wo.alloc (.cells #[.string (Cd.bs f.name), .int .i64 f.size, .slice a2 f.blocks.length cap2] 46)).drewN nq) wo.heap.size 46 [.string (Cd.bs f.name), .int .i64 f.size, .slice a2 f.blocks.length cap2] := Ob.Obj.new wo _ _
                have hbxA : Ob.Obj ((wo.alloc (.cells #[.string (Cd.bs f.name), .int .i64 f.size, .slice a2 f.blocks.length cap2] 46)).drewN nq) w.heap.size 25 [.int .u64 (g : Int), .slice (some ⟨fb, fo, none⟩) L.length cap] := hbx.alloc _
                have hrowA : ((wo.alloc (.cells #[.string (Cd.bs f.name), .int .i64 f.size, .slice a2 f.blocks.length cap2] 46)).drewN nq).ownsRow (w.heap.size + 1) 4 1 (.slice (some ⟨w.heap.size + 1, 0, none⟩) N N) N (Fi.marks N T) := hrow.alloc _
                have hBA : Below w.heap.size w ((wo.alloc (.cells #[.string (Cd.bs f.name), .int .i64 f.size, .slice a2 f.blocks.length cap2] 46)).drewN nq) := belowN (hB.alloc hbs _) _
                obtain ⟨wa, hwa⟩ : ∃ wa, wa = ((wo.alloc (.cells #[.string (Cd.bs f.name), .int .i64 f.size, .slice a2 f.blocks.length cap2] 46)).drewN nq) := ⟨_, rfl⟩
                rw [← hwa] at hbA hbxA hrowA hBA ⊢
                have hbz : wo.heap.size ≠ w.heap.size + 1 := by (have : w.heap.size + 1 < wo.heap.size := (Ob.row_lt hrow rfl).2); omega
                have hfz : w.heap.size ≠ w.heap.size + 1 := by omega
                have k0 := hbA.cell 0
                have k1 := hbA.cell 1
                have k2 := hbA.cell 2
                simp at k0 k1 k2
                have hlA := hbA.lt
                clear hwa hrow hbx e0 e1 e2 c1
                go_wp2_with fail
                go_big_quiet ((first | (go_at_call 25; exact Calls.quiet_of_same (hnm.out _)) | (go_at_call 26; exact Calls.quiet_of_same (hT.out _))))
                go_wp2_with fail
                clear k0 k1 k2 hb1 hb3
                go_loopw [76] (fun j wx => ∃ (k : Nat) (T' : List Int), k ≤ f.blocks.length ∧ j = .int .i64 k ∧ Ob.Obj wx w.heap.size 25 [.int .u64 (g : Int), .slice (some ⟨fb, fo, none⟩) L.length cap] ∧
                  wx.ownsRow (w.heap.size + 1) 4 1 (.slice (some ⟨w.heap.size + 1, 0, none⟩) N N) N (Fi.marks N T') ∧ Below w.heap.size w wx ∧ Hid (Fi.blocksGo n f.blocks T = Fi.blocksGo n (f.blocks.drop k) T')) (fun j _ => f.blocks.length - (intOf j).toNat)
                case atStart => exact ⟨0, T, Nat.zero_le _, rfl, hbxA, hrowA, belowN hBA _, rfl⟩
                case round =>
                  obtain ⟨k, T', hk, rfl, hbr, hrw, hBx, hgk⟩ := hrel
                  by_cases hkl : k < f.blocks.length
                  · obtain ⟨rfl, hb2l⟩ := hb2 (by omega)
                    have hcb := (hBx.cell (p := ⟨b2, o2 + k, none⟩) hb2l).trans (HC2.out k hkl)
                    have hbl := hx5 f.blocks[k] (List.getElem_mem hkl)
                    have hdk := List.drop_eq_getElem_cons hkl
                    rw [hdk] at hgk
                    have hi4 : (0 : Int) ≤ (k : Int) ∧ (k : Int) < (f.blocks.length : Int) := by omega
                    obtain ⟨hbl1, hbl2⟩ := hbl
                    generalize f.blocks[k] = bb at *
                    by_cases hok : 32 ≤ bb ∧ bb < n ∧ bb ∉ T'
                    · have HG := Lib.hid (show Fi.blocksGo n f.blocks T = Fi.blocksGo n (f.blocks.drop (k + 1)) (bb :: T') by rw [hgk.out, Fi.blocksGo_more hok])
                      obtain ⟨k1, k2, k3⟩ := hok
                      have k4 := (HNN.out bb k1).1 k2
                      obtain ⟨m, rfl⟩ := Int.eq_ofNat_of_zero_le (show 0 ≤ bb by omega)
                      have hm : m < N := by omega
                      have hmc := (hrw.cellAt m (by omega)).trans (Fi.marks_get N T' m hm)
                      rw [decide_eq_false k3] at hmc
                      have hfr := hrw.frozenAt m
                      have hst := (World.ownsRow.stored hrw m (.bool true)).1
                      rw [Fi.marks_set] at hst
                      have HST := Lib.hid hst
                      have HO2 := Lib.hid (hbr.other (p := ⟨w.heap.size + 1, m, none⟩) hfz (.bool true))
                      have hi5 : (0 : Int) ≤ (m : Int) ∧ (m : Int) < (N : Int) := by omega
                      clear hgk hdk hst hrw hbr k3
                      go_wp2_with fail
                      go_roundw
                      case rel => exact ⟨k + 1, (m : Int) :: T', by omega, by go_num, HO2.out, HST.out, hBx.setCell (p := ⟨w.heap.size + 1, m, none⟩) (by simp) _, HG⟩
                      case measure => simp [intOf]; omega
                    · have HE := Lib.hid (show Fi.mayGo n (L.map (·.1)) none [] = false by rw [hgo.out, Fi.mayGo_none (by rw [hgk.out, Fi.blocksGo_bad hok])])
                      clear hgk hdk
                      by_cases k1 : bb < 32
                      · clear hok
                        go_wp2_with fail
                        go_ret
                        exact ⟨by rw [HE.out]; rfl, hBx⟩
                      · by_cases k2 : (N : Int) ≤ bb
                        · clear hok
                          go_wp2_with fail
                          go_ret
                          exact ⟨by rw [HE.out]; rfl, hBx⟩
                        · have k3 : bb ∈ T' := by
                            by_cases h : bb ∈ T'
                            · exact h
                            · exact absurd ⟨by omega, (HNN.out bb (by omega)).2 (by omega), h⟩ hok
                          clear hok
                          obtain ⟨m, rfl⟩ := Int.eq_ofNat_of_zero_le (show 0 ≤ bb by omega)
                          have hm : m < N := by omega
                          have hmc := (hrw.cellAt m (by omega)).trans (Fi.marks_get N T' m hm)
                          rw [decide_eq_true k3] at hmc
                          have hi5 : (0 : Int) ≤ (m : Int) ∧ (m : Int) < (N : Int) := by omega
                          clear k3
                          go_wp2_with fail
                          go_ret
                          exact ⟨by rw [HE.out]; rfl, hBx⟩
                  · obtain rfl : k = f.blocks.length := by omega
                    have HM := Lib.hid (show Fi.mayGo n (L.map (·.1)) none [] = Fi.mayGo n ((L.map (·.1)).drop (q + 1)) (Fi.prevOf (L.map (·.1)) (q + 1)) T' by
                      rw [hgo.out, HP1.out]
                      exact Fi.mayGo_some HH.out (by rw [hgk.out, List.drop_eq_nil_of_le (Nat.le_refl _), Fi.blocksGo]))
                    clear hgk
                    go_wp2_with fail
                    go_roundw
                    case rel => exact ⟨q + 1, T', by omega, by go_num, hbr, hrw, hBx, HM⟩
                    case measure => simp [intOf]; omega
      · obtain rfl : q = L.length := by omega
        have HE := Lib.hid (show Fi.mayGo n (L.map (·.1)) none [] = true by rw [hgo.out, List.drop_eq_nil_of_le (by simp), Fi.mayGo])
        clear hgo
        go_wp2_with fail
        go_ret
        exact ⟨by rw [HE.out]; rfl, hB⟩
  · have e : Fi.may ⟨g, L.map (·.1)⟩ n = false := by
      unfold Fi.may
      by_cases h1 : 1 ≤ g
      · by_cases h2 : g ≤ 4611686018427387904
        · have h3 : ¬ L.length ≤ 64 := fun h3 => hc ⟨h1, h2, h3⟩
          simp [h3]
        · simp [h2]
      · simp [h1]
    rw [e]
    clear e hcells ha hin
    by_cases h1 : 1 ≤ g
    · by_cases h2 : g ≤ 4611686018427387904
      · have h3 : (64 : Int) < (L.length : Int) := by have : ¬ L.length ≤ 64 := fun h3 => hc ⟨h1, h2, h3⟩; omega
        have g1i : ¬ (g : Int) < 1 := by omega
        have g2i : ¬ (4611686018427387904 : Int) < (g : Int) := by omega
        clear hc
        go_enter Try.func9, Try.ntmps9
        go_wp2_with fail
        go_ret
        exact ⟨rfl, (Below.refl _ _).alloc (Nat.le_refl _) _⟩
      · have g1i : ¬ (g : Int) < 1 := by omega
        have g2i : (4611686018427387904 : Int) < (g : Int) := by omega
        clear hc
        go_enter Try.func9, Try.ntmps9
        go_wp2_with fail
        go_ret
        exact ⟨rfl, (Below.refl _ _).alloc (Nat.le_refl _) _⟩
    · have g1i : (g : Int) < 1 := by omega
      clear hc
      go_enter Try.func9, Try.ntmps9
      go_wp2_with fail
      go_ret
      exact ⟨rfl, (Below.refl _ _).alloc (Nat.le_refl _) _⟩
end Fd
end Go.Proofs.Ytaghifnihjlpjaa

/-
  codec.join: a range over a function that collects texts.
-/
namespace Go.Proofs.Ytaghifnihjlpjaa
open Go.RowKit Go.Shelf
set_option linter.unusedSimpArgs false
set_option linter.unusedVariables false

attribute [local go_sem] Oper.semAt_some

theorem wpListIn_append_own_string {F : Fence} {n' : Nat} {P : Program} {ops : Array Oper} {rest : List Oper} {o : Oper} {a : Act} {Q : Exit → Act → World → Prop} (w : World) (hgd : o.guard = none) (sl x : Operand) (t u : TypeId)
    (ho : o.op = .call { callee := .builtin .append, args := #[sl, x], argTypes := #[t, u] })
    (base : Nat) (e : TypeId) (i : TypeInfo) (ht : P.underlying t = some (.slice e)) (hu : P.underlying u = some .string) (hi : P.info? e = some i) (hz : i.zero = some (.int .u8 0))
    (hsize : i.size = 1) (hby : i.bytes = 1)
    (v : Value) (n : Nat) (xs : List Value) (hs : a.eval sl = v) (hown : w.ownsRow base e 1 v n xs) (s : ByteArray) (hx : a.eval x = .string s)
    (h63 : n + s.size ≤ maxLen) (hbytes : n + s.size ≤ 140737488355328) (hbase : base ≤ w.heap.size)
    (h : ∀ v' w', w'.ownsRow base e 1 v' (n + s.size) (xs ++ Lib.strCells s) → w.grownBy w' v.ownBlock → wpListIn F n' P ops Q rest (a.put o.dst v') w') : wpListIn F n' P ops Q (o :: rest) a w := by
  refine wpListIn_plain hgd fun K hK => ?_
  obtain ⟨v', w', hr, h2, h3, h4⟩ := Lib.run_append_own_string (P := P) w base t u o.type e i ht hu hi hz hsize hby v n xs hown s h63 hbytes hbase
  unfold Oper.wpIn
  refine ⟨?_, ?_⟩
  · simp [Oper.about, ho, resolve, Target.leads, Sem.run_pure]
  · rw [Oper.semAt_plain F _ _ (by rw [ho]; intro c hc'; cases hc')]
    simp [execOp, ho, resolve, invoke, builtin, hs, hx, hr, Result.andThen]
    exact hK _ _ (h v' w' h2 h3)

/-- a text that a range hands on: of at most so many bytes -/
abbrev Piece := { x : List UInt8 // x.length ≤ 1048576 }
def flat (pre : List Piece) : List UInt8 := (pre.map (·.1)).flatten
theorem flat_snoc (pre : List Piece) (x : Piece) : flat (pre ++ [x]) = flat pre ++ x.1 := by simp [flat]
theorem flat_len (pre : List Piece) : (flat pre).length ≤ pre.length * 1048576 := by
  induction pre with
  | nil => simp [flat]
  | cons x r ih =>
    have : flat (x :: r) = x.1 ++ flat r := by simp [flat]
    rw [this, List.length_append, List.length_cons]
    have := x.2
    omega
theorem ownsRow_slice {W : World} {base : Nat} {e : TypeId} {size : Nat} {v : Value} {k : Nat} {xs : List Value} (h : W.ownsRow base e size v k xs) : ∃ ao l cap, v = .slice ao l cap := by
  rcases h.2 with ⟨rfl, _⟩ | ⟨g, cap, _, rfl, _⟩
  · exact ⟨_, _, _, rfl⟩
  · exact ⟨_, _, _, rfl⟩
theorem stops_mono {α : Type} {F : Fence} {n : Nat} {P : Program} {g : Nat} {lb : Array Value} {encs : α → Array Value} {Kp : World → World → Prop} {S Sp : List α → Prop} {N : Nat} {w w0 : World}
    (h : SeqStopsK F n P g lb encs Kp S Sp N w) (hb : Below w.heap.size w w0) : SeqStopsK F n P g lb encs Kp S Sp N w0 :=
  fun l J Jx W hW => h l J Jx W (hb.trans (hW.mono hb.size))

/-- 'Boxed.appended' where the append laid no block of its own ahead -/
theorem Boxed_appended' {W w1 : World} {n₀ B : Nat} {t e : TypeId} {size : Nat} {v v' : Value} {k m : Nat} {xs ys : List Value}
    (hv : Boxed W B t v) (hte : t ≠ e) (hrow : W.ownsRow n₀ e size v k xs) (hn₀ : n₀ ≤ W.heap.size) (hB : n₀ ≤ B)
    (hown' : w1.ownsRow n₀ e size v' m ys) (hgrow : W.grownBy w1 v.ownBlock) :
    Boxed w1 B t v ∧ Boxed (w1.setCell ⟨B, 0, none⟩ v') B t v' ∧ (w1.setCell ⟨B, 0, none⟩ v').ownsRow n₀ e size v' m ys ∧ KeepsOthers W (w1.setCell ⟨B, 0, none⟩ v') ∧ Below n₀ W (w1.setCell ⟨B, 0, none⟩ v') := by
  have hv1 : Boxed w1 B t v := hv.kept hgrow (hv.not_row hte hrow)
  refine ⟨hv1, hv1.set v', hown'.kept (grownBy_setCell' w1 B v') (.inr (hv1.not_row hte hown').symm), ?_, ?_⟩
  · refine (KeepsOthers.of_grownBy hgrow fun j o ej hj => ?_).trans (KeepsOthers.setCell _ _ _)
    rcases hrow.2 with ⟨rfl, _⟩ | ⟨g, cap, cur, rfl, _, hgb, _⟩
    · simp [Value.ownBlock] at ej
    · obtain rfl : g = j := by simpa [Value.ownBlock] using ej
      rw [hgb] at hj; cases hj; rfl
  · refine ((Below.refl n₀ W).grown hgrow hn₀ fun j ej => ?_).setCell (p := ⟨B, 0, none⟩) hB v'
    rcases hrow.2 with ⟨rfl, _⟩ | ⟨g, cap, cur, rfl, hb, _, _⟩
    · simp [Value.ownBlock] at ej
    · obtain rfl : g = j := by simpa [Value.ownBlock] using ej
      exact hb

set_option maxRecDepth 100000 in
set_option maxHeartbeats 2000000 in
/-- join: the pieces one behind the other -/
theorem join_in (F : Fence) (n : Nat) (hf : F.fn 28) (hro : F.round = none) (hn : 3 ≤ n) (gf : Nat) (hgf : F.fn gf) (eg : ∀ args w, (callFunc gf args).run Try.prog w = .ok (.enter gf args) w) (lb : Array Value)
    (N : Nat) (hN : N ≤ 4194304) (w : World) {S Sp : List Piece → Prop}
    (hseq : SeqStopsK F (n - 1) Try.prog gf lb (fun x : Piece => #[Value.string (Cd.bs x.1)]) (Below w.heap.size) S Sp N w) :
    CallsIn F n Try.prog 28 #[.func (.func gf) #[] lb] w fun e W' => ∃ ys, S ys ∧ e = .returned (.string (Cd.bs (flat ys))) ∧ Below w.heap.size w W' := by
  have h1 : 1 ≤ n := by omega
  obtain ⟨i0, hi, hz0, hz1, hz2⟩ := info_parts info_u8
  refine callsIn_of_wp_marks Try.func28 rfl hf ?_ hro
  simp only [Try.ntmps28, List.size_toArray, List.length_cons, List.length_nil, Nat.reduceAdd, Nat.reduceSub, Array.replicate_succ, Array.replicate_zero, List.push_toArray, List.append_toArray, List.nil_append, List.cons_append]
  gi_wp2
  have bO := Boxed.new w 35 (.slice none 0 0)
  have hB0 : Below w.heap.size w (w.alloc (.cells #[.slice none 0 0] 35)) := (Below.refl _ w).alloc (Nat.le_refl _) _
  refine wpIn_rangeFunc_ownG hro h1 (gf := gf) (lb := lb) rfl hgf eg
    (stops_mono hseq hB0) belowK_t (belowK_b (by simp)) (Below.refl _ _) (fun _ => rfl)
    (fun pre W => (∃ v, Boxed W w.heap.size 35 v ∧ W.ownsRow w.heap.size 5 1 v (flat pre).length (Cd.cs (flat pre)) ∧ True) ∧ Below w.heap.size w W)
    (fun _ _ _ => False)
    (OwnFrom.and (Own.from (holdsRow_own w.heap.size w.heap.size 35 5 1 (fun pre => (flat pre).length) (fun pre => Cd.cs (flat pre)) (fun _ _ => True)) _) (ownFrom_below (Nat.le_refl _) (by simp)))
    (fun _ _ _ _ _ hs _ _ => hs)
    ⟨⟨_, bO, World.ownsRow_nil _ _ _ _, trivial⟩, hB0⟩
    (fun x => { tmps := #[.func (.func gf) #[] lb, undef, .string ⟨#[]⟩, .pointer (some ⟨w.heap.size, 0, none⟩), .string (Cd.bs x.1), .func (.func gf) #[] lb, .string (Cd.bs x.1), undef, undef, undef, undef, undef], defers := [] }) ?assign ?body ?done ?stop
  case assign =>
    intro l x W K hK
    gi_wp2
    exact hK
  case body =>
    rintro l pre x W ⟨⟨v, hv, hrow, _⟩, hB⟩ hlt
    have hc := hv.cell
    have hf := hv.frozen
    have hpl := flat_len pre
    have hx := x.2
    have hsz : (Cd.bs x.1).size = x.1.length := rfl
    have HSZ := Lib.hid hsz
    clear hsz
    have hBs := hB.size
    gi_wp2_with (gi_at_builtin; refine wpListIn_append_own_string _ rfl _ _ 35 9 rfl w.heap.size 5 i0 Try.underlying35 Try.underlying9 hi hz0 hz1 hz2 _ _ _ rfl hrow (Cd.bs x.1) rfl (by rw [HSZ.out]; unfold maxLen; omega) (by rw [HSZ.out]; omega) hBs ?_; intro v' w1 hown' hgrow; obtain ⟨ao, l', cap', rfl⟩ := ownsRow_slice hown'; obtain ⟨hv1, hv2, hr2, hk2, hb2⟩ := Boxed_appended' hv (by decide) hrow hBs (Nat.le_refl _) hown' hgrow; have hc1 := hv1.cell; have hf1 := hv1.frozen)
    exact ⟨hk2.from _, hb2, ⟨_, hv2, by rw [flat_snoc]; exact Cd.own_app (l' := x.1) rfl rfl hr2, trivial⟩, hB.trans hb2⟩
  case done =>
    rintro D ys W hD hS ⟨⟨v, hv, hrow, _⟩, hB⟩ hK
    have hc := hv.cell
    have hcv := conv_any hrow
    gi_wp2
    refine ⟨by simp, .inl ⟨_, _, rfl, run_takeDeferred hK, ?_⟩⟩
    exact ⟨_, results_tmp rfl _ _ _, ys, hS, rfl, hB.trans (belowK_b (w := w) (Nat.le_refl _) W D _ _ (by simp at hD; omega) hK rfl rfl)⟩
  case stop =>
    rintro D c pre W _ _ h _
    exact h.elim
end Go.Proofs.Ytaghifnihjlpjaa
