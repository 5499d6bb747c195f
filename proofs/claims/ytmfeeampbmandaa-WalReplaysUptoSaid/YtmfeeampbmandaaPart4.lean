import Derived.Deep.RegionWith
import Derived.Deep.RegionHeld3
import Derived.Deep.DeepCutAuto
import Derived.Deep.Cut
import Derived.Deep.CutRange
import Derived.Deep.LoopGhost
import Derived.Deep.CutBlock
import Derived.WalkLawsBesides
import Derived.BigQuiet
import Derived.Deep.QuietTactic
import Derived.Test.YtmfeeampbmandaaPart3
/-
  The program's batches: putMayBe, putBatch.
-/
namespace Go.Proofs.Ytmfeeampbmandaa
open Go.RowKit
set_option linter.unusedSimpArgs false
set_option linter.unusedVariables false
namespace Wd
open Wa

set_option maxRecDepth 100000 in
set_option maxHeartbeats 2000000 in
theorem putMayBe_any (k v : List UInt8) (d : Bool) (w : World) (hk : k.length ≤ 1048576) (hv : v.length ≤ 1048576) :
    Calls Try.prog 19 #[.agg #[.string (Cd.bs k), .string (Cd.bs v), .bool d]] w fun e w' => e = .returned (.bool (mayB (k, v, d, ()))) ∧ Below w.heap.size w w' := by
  have hsk : (Cd.bs k).size = k.length := rfl
  have hsv : (Cd.bs v).size = v.length := rfl
  have hvl : (Cd.bs v).toList = v := by rw [ByteArray.toList_mk]
  by_cases h1 : 1 ≤ k.length
  · have h1i : ¬ (k.length : Int) < 1 := by omega
    by_cases h2 : k.length ≤ 96
    · have h2i : ¬ (96 : Int) < (k.length : Int) := by omega
      cases d
      · by_cases h3 : v.length ≤ 16384
        · have h3i : (v.length : Int) ≤ 16384 := by omega
          have e : mayB (k, v, false, ()) = true := by simp [mayB, h1, h2, h3]
          rw [e]
          clear e h1 h2 h3
          go_enter Try.func19, Try.ntmps19
          go_wp2_with fail
          go_ret
          exact ⟨rfl, (Below.refl _ _).alloc (Nat.le_refl _) _⟩
        · have h3i : ¬ (v.length : Int) ≤ 16384 := by omega
          have e : mayB (k, v, false, ()) = false := by simp [mayB, h3]
          rw [e]
          clear e h1 h2 h3
          go_enter Try.func19, Try.ntmps19
          go_wp2_with fail
          go_ret
          exact ⟨rfl, (Below.refl _ _).alloc (Nat.le_refl _) _⟩
      · by_cases h4 : v = []
        · subst h4
          have e : mayB (k, [], true, ()) = true := by simp [mayB, h1, h2]
          rw [e]
          clear e h1 h2
          go_enter Try.func19, Try.ntmps19
          go_wp2_with fail
          go_ret
          exact ⟨rfl, (Below.refl _ _).alloc (Nat.le_refl _) _⟩
        · have e : mayB (k, v, true, ()) = false := by simp [mayB, h4]
          have h5 : (v == []) = false := by simpa using h4
          have h6 : v.isEmpty = false := by simpa using h4
          rw [e]
          clear e h1 h2 h4
          go_enter Try.func19, Try.ntmps19
          go_wp2_with fail
          go_ret
          exact ⟨rfl, (Below.refl _ _).alloc (Nat.le_refl _) _⟩
    · have e : mayB (k, v, d, ()) = false := by simp [mayB, h2]
      have h2i : (96 : Int) < (k.length : Int) := by omega
      rw [e]
      clear e h1 h2
      go_enter Try.func19, Try.ntmps19
      go_wp2_with fail
      go_ret
      exact ⟨rfl, (Below.refl _ _).alloc (Nat.le_refl _) _⟩
  · have e : mayB (k, v, d, ()) = false := by simp [mayB]; intro h; exact absurd (by omega) h1
    have h1i : (k.length : Int) < 1 := by omega
    rw [e]
    clear e h1
    go_enter Try.func19, Try.ntmps19
    go_wp2_with fail
    go_ret
    exact ⟨rfl, (Below.refl _ _).alloc (Nat.le_refl _) _⟩

/-- amid putBatch: the builder, the batch's own box, and all that was ahead -/
def Pre (w : World) (b : Nat) (S : Int) (v : Value) (D : Fi.Dat) (W : World) : Prop :=
  Sb.Is b b D W ∧ Below w.heap.size w W ∧ Ob.Obj W w.heap.size 25 [.int .u64 S, v]
theorem Pre.next {w W W' : World} {b : Nat} {S : Int} {v : Value} {D : Fi.Dat} (h : Pre w b S v D W) (hb : Below W.heap.size W W') : Pre w b S v D W' :=
  ⟨h.1.below hb, h.2.1.trans (hb.mono h.2.1.size), h.2.2.below hb⟩
theorem Pre.write {w W : World} {b : Nat} {S : Int} {v : Value} {D X : Fi.Dat} (hwb : w.heap.size < b) (h : Pre w b S v D W) (hl : D.length + X.length ≤ 140737488355328) :
    Calls Try.prog 33 #[.pointer (some ⟨b, 0, none⟩), .string (Cd.bs X)] W fun e w' => e = .returned (.tuple #[.int .i64 (X.length : Nat), .nilIface]) ∧ Pre w b S v (D ++ X) w' ∧ Sb.Rest b W w' :=
  (Sb.writeString_any b b D X W h.1 hl (Nat.le_of_lt h.1.lt)).mono fun e w' ⟨he, h1, h2, h3⟩ =>
    ⟨he, ⟨h1, h.2.1.trans (h2.mono (Nat.le_of_lt hwb)), h3.obj h.2.2 (by omega) (by decide)⟩, h3⟩
theorem Pre.byte {w W : World} {b : Nat} {S : Int} {v : Value} {D : Fi.Dat} (C : Int) (c : UInt8) (hC : C = (c.toNat : Int)) (hwb : w.heap.size < b) (h : Pre w b S v D W) (hl : D.length + 1 ≤ 140737488355328) :
    Calls Try.prog 35 #[.pointer (some ⟨b, 0, none⟩), .int .u8 C] W fun e w' => e = .returned .nilIface ∧ Pre w b S v (D ++ [c]) w' ∧ Sb.Rest b W w' :=
  (Sb.writeByte_any b b D C c hC W h.1 hl (Nat.le_of_lt h.1.lt)).mono fun e w' ⟨he, h1, h2, h3⟩ =>
    ⟨he, ⟨h1, h.2.1.trans (h2.mono (Nat.le_of_lt hwb)), h3.obj h.2.2 (by omega) (by decide)⟩, h3⟩
theorem Bx.of {w W : World} {S : Int} {v : Value} (h : Ob.Obj W w.heap.size 25 [.int .u64 S, v]) : Ob.Obj W w.heap.size 25 [.int .u64 S, v] ∧ W.cell? ⟨w.heap.size, 0, none⟩ = some (.int .u64 S) ∧ W.cell? ⟨w.heap.size, 1, none⟩ = some v :=
  ⟨h, h.cell 0, h.cell 1⟩

set_option maxRecDepth 100000 in
set_option maxHeartbeats 8000000 in
theorem putBatch_any (S : Int) (seq : Nat) (hS : S = seq) (v : Value) (L : List Pt) (w : World) (hs : seq < 18446744073709551616) (hP : Puts w.heap.size w v L) (hm : ∀ p ∈ L, mayB p = true) (hL : L.length ≤ 256) :
    Calls Try.prog 20 #[.agg #[.int .u64 S, v]] w fun e w' => e = .returned (.string (Cd.bs (Wa.load seq L))) ∧ Below w.heap.size w w' := by
  subst hS
  obtain ⟨a, cap, fb, fo, rfl, ha, hcells⟩ := hP
  have HC := Lib.hid hcells
  have HM := Lib.hid hm
  have HP1 := Lib.hid (fun W => putUc_at (seq : Int) seq W rfl hs)
  have HP2 := Lib.hid (fun W => putUc_at (L.length : Int) L.length W rfl (by omega))
  have hpl1 := Cd.putU_len10 seq (by omega)
  have hpl2 := Cd.putU_len10 L.length (by omega)
  have hwL : IntKind.u64.wrap (L.length : Int) = (L.length : Int) := Cd.wrapU_nat (by omega)
  obtain ⟨HD, hHD⟩ : ∃ HD, HD = Cd.putU seq ++ Cd.putU L.length := ⟨_, rfl⟩
  have hhd : HD.length ≤ 20 := by rw [hHD, List.length_append]; omega
  have HHD := Lib.hid hHD
  have hW : Below w.heap.size w (w.alloc (.cells #[.int .u64 (seq : Int), .slice a L.length cap] 25)) := (Below.refl _ _).alloc (Nat.le_refl _) _
  have bx := Ob.Obj.new w 25 [.int .u64 (seq : Int), .slice a L.length cap]
  have HW := Lib.hid hW
  have HBX := Lib.hid bx
  clear hcells hm hHD hW bx
  go_enter Try.func20, Try.ntmps20
  go_wp2_with fail
  obtain ⟨w1, hw1⟩ : ∃ w1, w1 = w.alloc (.cells #[.int .u64 (seq : Int), .slice a L.length cap] 25) := ⟨_, rfl⟩
  have hB1 := HW.out
  have bx1 := HBX.out
  change Ob.Obj (w.alloc (.cells #[.int .u64 (seq : Int), .slice a L.length cap] 25)) w.heap.size 25 [.int .u64 (seq : Int), .slice a L.length cap] at bx1
  have hz1 : w.heap.size < w1.heap.size := by rw [hw1]; simp
  rw [← hw1] at hB1 bx1 ⊢
  have hP0 : Pre w w1.heap.size (seq : Int) (.slice a L.length cap) [] (w1.alloc (.cells #[.pointer none, .slice none 0 0] 69)) := ⟨Sb.Is.new w1, hB1.alloc hB1.size _, bx1.alloc _⟩
  obtain ⟨wA, hwA⟩ : ∃ wA, wA = w1.alloc (.cells #[.pointer none, .slice none 0 0] 69) := ⟨_, rfl⟩
  rw [← hwA] at hP0 ⊢
  have hsz : w1.heap.size = w.heap.size + 1 := by rw [hw1]; simp
  obtain ⟨bb, hbb⟩ : ∃ bb, bb = w.heap.size + 1 := ⟨_, rfl⟩
  rw [hsz, ← hbb] at hP0 hz1
  rw [← hbb]
  clear hsz hwA hbb bx1 hB1 hw1 HW HBX
  go_cut [] (fun wx => Pre w bb (seq : Int) (.slice a L.length cap) HD wx)
  case first =>
    have NX := Lib.hid (fun W W' (h : Ob.Obj W w.heap.size 25 [.int .u64 (seq : Int), .slice a L.length cap] ∧ W.cell? ⟨w.heap.size, 0, none⟩ = some (.int .u64 (seq : Int)) ∧ W.cell? ⟨w.heap.size, 1, none⟩ = some (.slice a L.length cap)) (hb : Below W.heap.size W W') => Bx.of (h.1.below hb))
    have HS1 := Lib.hid (Bx.of (w := w) (hP0.next (Below.refl _ _).drew).2.2)
    have hP1 := hP0.next (Below.refl _ _).drew
    have WR := Lib.hid (fun W (h : Pre w bb (seq : Int) (.slice a L.length cap) [] W) => h.write (X := Cd.putU seq ++ Cd.putU L.length) hz1 (by rw [List.length_append, List.length_nil]; omega))
    have q1 : ¬ 9223372036854775807 < (Cd.putU seq).length + (Cd.putU L.length).length := by omega
    go_region_held3 (fun W => Ob.Obj W w.heap.size 25 [.int .u64 (seq : Int), .slice a L.length cap] ∧ W.cell? ⟨w.heap.size, 0, none⟩ = some (.int .u64 (seq : Int)) ∧ W.cell? ⟨w.heap.size, 1, none⟩ = some (.slice a L.length cap))
      (first | exact HS1.out | exact NX.out _ _ (by assumption) hb2 | exact Bx.of hp3.2.2)
      (first
      | (go_at_call 34; (with_reducible refine (HP1.out _).mono ?_); rintro e w2 ⟨rfl, hb2⟩; have hp2 := (show Pre w bb (seq : Int) (.slice a L.length cap) [] _ by assumption).next hb2)
      | (go_at_call 34; (with_reducible refine (HP2.out _).mono ?_); rintro e w2 ⟨rfl, hb2⟩; have hp2 := (show Pre w bb (seq : Int) (.slice a L.length cap) [] _ by assumption).next hb2)
      | (go_at_call 33; rw [ByteArray.mk_append_mk]; (with_reducible refine (WR.out _ (by assumption)).mono ?_); rintro e w3 ⟨rfl, hp3, hr3⟩))
    all_goals clear q1
    all_goals go_wp2_with fail
    all_goals go_meet
    all_goals (rw [HHD.out]; exact hp3)
  case rest =>
    have hPc := hcut
    have HPC := Lib.hid hPc
    obtain ⟨_, k0, k1⟩ := Bx.of hPc.2.2
    have hwl0 := hPc.2.2.lt
    clear hcut hP0 hPc k0 hwL
    go_wp2_with fail
    clear k1
    go_loopw [20] (fun i wr => ∃ q : Nat, q ≤ L.length ∧ i = .int .i64 q ∧ Pre w bb (seq : Int) (.slice a L.length cap) (HD ++ (L.take q).flatMap putB) wr) (fun i _ => L.length - (intOf i).toNat)
    case atStart => exact ⟨0, Nat.zero_le _, rfl, by simpa using HPC.out⟩
    case round =>
      obtain ⟨q, hq, rfl, hP⟩ := hrel
      obtain ⟨wo, rfl⟩ : ∃ wo : World, wo = wr := ⟨_, rfl⟩
      have hB := hP.2.1
      have hwl : bb < wo.heap.size := hP.1.lt
      by_cases hlt : q < L.length
      · obtain ⟨rfl, hfb⟩ := ha (by omega)
        obtain ⟨d0, d1, d2⟩ := HC.out q hlt
        have e0 := (hB.cell (p := ⟨fb, fo + q * 3, none⟩) hfb).trans d0
        have e1 := (hB.cell (p := ⟨fb, fo + q * 3 + 1, none⟩) hfb).trans d1
        have e2 := (hB.cell (p := ⟨fb, fo + q * 3 + 2, none⟩) hfb).trans d2
        have hmq := HM.out L[q] (List.getElem_mem hlt)
        have hsl : (HD ++ (L.take q).flatMap putB).length ≤ 4300000 := by
          rw [List.length_append]
          have := puts_len (L.take q) (fun p hp => HM.out p (List.mem_of_mem_take hp))
          have : (L.take q).length ≤ 256 := by simp; omega
          omega
        have hts : HD ++ (L.take (q + 1)).flatMap putB = (HD ++ (L.take q).flatMap putB) ++ putB L[q] := by
          rw [List.take_succ_eq_append_getElem hlt, List.flatMap_append, List.append_assoc]; simp
        have HTS := Lib.hid hts
        have hi1 : (0 : Int) ≤ (q : Int) ∧ (q : Int) < (L.length : Int) := by omega
        have hwb : fb < wo.heap.size := by have := hB.size; omega
        clear hts d0 d1 d2 hB
        generalize L[q] = p at *
        obtain ⟨k, vv, dl, _⟩ := p
        simp only [mayB, Bool.and_eq_true, decide_eq_true_eq] at hmq
        have hk1 : k.length ≤ 96 := hmq.1.1.2
        have hv1 : vv.length ≤ 16384 := hmq.1.2
        have HK := Lib.hid (fun W => show Calls Try.prog 36 #[.string (Cd.bs k)] W fun e w' => e = .returned (.string (Cd.bs (Cd.putT k))) ∧ Below W.heap.size W w' from putTc_any (Cd.bs k) W (by show k.length ≤ _; omega))
        have HV := Lib.hid (fun W => show Calls Try.prog 36 #[.string (Cd.bs vv)] W fun e w' => e = .returned (.string (Cd.bs (Cd.putT vv))) ∧ Below W.heap.size W w' from putTc_any (Cd.bs vv) W (by show vv.length ≤ _; omega))
        have lk : (Cd.putT k).length ≤ 110 := by have := Cd.putU_len10 k.length (by omega); unfold Cd.putT; rw [List.length_append]; omega
        have lv : (Cd.putT vv).length ≤ 16400 := by have := Cd.putU_len10 vv.length (by omega); unfold Cd.putT; rw [List.length_append]; omega
        have HPB : Hid (putB (k, vv, dl, ()) = if dl = true then 1 :: Cd.putT k else 0 :: (Cd.putT k ++ Cd.putT vv)) := rfl
        simp only at e0 e1 e2
        clear hmq
        generalize HD ++ (L.take q).flatMap putB = S1 at *
        have hoA : Ob.Obj (wo.alloc (.cells #[.string (Cd.bs k), .string (Cd.bs vv), .bool dl] 42)) wo.heap.size 42 [.string (Cd.bs k), .string (Cd.bs vv), .bool dl] := Ob.Obj.new wo _ _
        have hPA : Pre w bb (seq : Int) (.slice (some ⟨fb, fo, none⟩) L.length cap) S1 (wo.alloc (.cells #[.string (Cd.bs k), .string (Cd.bs vv), .bool dl] 42)) := hP.next ((Below.refl _ _).alloc (Nat.le_refl _) _)
        have hbo : wo.heap.size ≠ bb := by omega
        obtain ⟨wA, hwA⟩ : ∃ wA, wo.alloc (.cells #[.string (Cd.bs k), .string (Cd.bs vv), .bool dl] 42) = wA := ⟨_, rfl⟩
        rw [hwA] at hoA hPA
        cases dl with
        | true =>
          have HF := Lib.hid (show HD ++ (L.take (q + 1)).flatMap putB = S1 ++ [1] ++ Cd.putT k by rw [HTS.out, HPB.out, if_pos rfl]; simp)
          clear HV lv
          generalize Cd.putT k = tk at *
          have WB := Lib.hid (fun W (h : Pre w bb (seq : Int) (.slice (some ⟨fb, fo, none⟩) L.length cap) S1 W) => h.byte 1 1 rfl hz1 (by omega))
          have WR := Lib.hid (fun W (h : Pre w bb (seq : Int) (.slice (some ⟨fb, fo, none⟩) L.length cap) (S1 ++ [1]) W) => h.write (X := tk) hz1 (by rw [List.length_append, List.length_singleton]; omega))
          have c2 := hoA.cell 2
          have hoz := hoA.lt
          have HOA := Lib.hid hoA
          simp at c2
          clear hoA hP
          go_wp2_with (first
            | (go_at_call 35; (with_reducible refine (WB.out _ hPA).mono ?_); rintro e w3 ⟨rfl, hp3, hr3⟩; have ho3 := hr3.obj HOA.out hbo (by decide); have c30 := ho3.cell 0; have hz3 := ho3.lt; simp at c30)
            | (go_at_call 36; (with_reducible refine (HK.out _).mono ?_); rintro e w4 ⟨rfl, hb4⟩; have ho4 := ho3.below hb4; have hp4 := hp3.next hb4)
            | (go_at_call 33; (with_reducible refine (WR.out _ hp4).mono ?_); rintro e w5 ⟨rfl, hp5, hr5⟩; have ho5 := hr5.obj ho4 hbo (by decide); have c52 := ho5.cell 2; have hz5 := ho5.lt; simp at c52))
          go_roundw
          case rel => exact ⟨q + 1, by omega, by go_num, by rw [HF.out]; exact hp5⟩
          case measure => simp [intOf]; omega
        | false =>
          subst hwA
          have HF := Lib.hid (show HD ++ (L.take (q + 1)).flatMap putB = S1 ++ [0] ++ Cd.putT k ++ Cd.putT vv by rw [HTS.out, HPB.out, if_neg (by simp)]; simp)
          generalize Cd.putT k = tk at *
          generalize Cd.putT vv = tv at *
          have WB := Lib.hid (fun W (h : Pre w bb (seq : Int) (.slice (some ⟨fb, fo, none⟩) L.length cap) S1 W) => h.byte 0 0 rfl hz1 (by omega))
          have WR := Lib.hid (fun W (h : Pre w bb (seq : Int) (.slice (some ⟨fb, fo, none⟩) L.length cap) (S1 ++ [0]) W) => h.write (X := tk) hz1 (by rw [List.length_append, List.length_singleton]; omega))
          have WV := Lib.hid (fun W (h : Pre w bb (seq : Int) (.slice (some ⟨fb, fo, none⟩) L.length cap) (S1 ++ [0] ++ tk) W) => h.write (X := tv) hz1 (by rw [List.length_append, List.length_append, List.length_singleton]; omega))
          have c2 := hoA.cell 2
          have hoz := hoA.lt
          have HOA := Lib.hid hoA
          simp at c2
          clear hoA hP
          go_wp2_with (first
            | (go_at_call 35; (with_reducible refine (WB.out _ hPA).mono ?_); rintro e w3 ⟨rfl, hp3, hr3⟩; have ho3 := hr3.obj HOA.out hbo (by decide); have c30 := ho3.cell 0; have hz3 := ho3.lt; simp at c30)
            | (go_at_call 36; (with_reducible refine (HK.out _).mono ?_); rintro e w4 ⟨rfl, hb4⟩; have ho4 := ho3.below hb4; have hp4 := hp3.next hb4)
            | (go_at_call 33; (with_reducible refine (WR.out _ hp4).mono ?_); rintro e w5 ⟨rfl, hp5, hr5⟩; have ho5 := hr5.obj ho4 hbo (by decide); have c51 := ho5.cell 1; have c52 := ho5.cell 2; have hz5 := ho5.lt; simp at c51 c52)
            | (go_at_call 36; (with_reducible refine (HV.out _).mono ?_); rintro e w6 ⟨rfl, hb6⟩; have hp6 := hp5.next hb6)
            | (go_at_call 33; (with_reducible refine (WV.out _ hp6).mono ?_); rintro e w7 ⟨rfl, hp7, hr7⟩))
          go_roundw
          case rel => exact ⟨q + 1, by omega, by go_num, by rw [HF.out]; exact hp7⟩
          case measure => simp [intOf]; omega
      · obtain rfl : q = L.length := by omega
        have HE := Lib.hid (show HD ++ (L.take L.length).flatMap putB = Wa.load seq L by rw [List.take_length, HHD.out]; rfl)
        rw [HE.out] at hP
        have HSTR := Lib.hid (Sb.string_any bb bb _ _ hP.1 (Nat.le_of_lt hP.1.lt))
        obtain ⟨ld, hld⟩ : ∃ ld, Wa.load seq L = ld := ⟨_, rfl⟩
        rw [hld] at HSTR
        have HLD := Lib.hid hld
        clear hP hld HE
        go_wp2_with (go_at_call 37; (with_reducible refine HSTR.out.mono ?_); rintro e w4 ⟨rfl, hI4, hb4, hr4⟩; have hB4 := hB.trans (hb4.mono (Nat.le_of_lt hz1)))
        go_ret
        exact ⟨by rw [HLD.out]; rfl, hB4⟩
end Wd
end Go.Proofs.Ytmfeeampbmandaa

/-
  The document's reader (tapestryref04) of numbers and texts, one behind the other.
-/
namespace Go.Proofs.Ytmfeeampbmandaa
open Go.RowKit
set_option linter.unusedSimpArgs false
set_option linter.unusedVariables false
namespace Rr
/-- the reader, in block t -/
def Tk (W : World) (t : Nat) (s : Fi.TkS) : Prop := Ob.Obj W t 53 [.string (Cd.bs s.1), .bool s.2]
theorem Tk.below {W W' : World} {t : Nat} {s : Fi.TkS} (h : Tk W t s) (hb : Below W.heap.size W W') : Tk W' t s := Ob.Obj.below h hb
theorem extract_drop (l : Fi.Dat) (k : Nat) : (Cd.bs l).extract k l.length = Cd.bs (l.drop k) := by
  have : ((Cd.bs l).extract k l.length).data.toList = l.drop k := by
    rw [Lib.extract_data]; exact List.take_of_length_le (by simp)
  rw [← this]

set_option maxRecDepth 100000 in
set_option maxHeartbeats 2000000 in
theorem uint_any (t : Nat) (s : Fi.TkS) (M : Int) (most : Nat) (hM : M = most) (w : World) (h : Tk w t s) (hl : s.1.length ≤ 140737488351232) (hm : most < 18446744073709551616) :
    Calls Try.prog 27 #[.pointer (some ⟨t, 0, none⟩), .int .u64 M] w fun e w' => e = .returned (.int .u64 ((Fi.tkNum most s).1 : Int)) ∧ Tk w' t (Fi.tkNum most s).2 ∧ Sq.Kept (fun k => k ≠ t) w w' := by
  subst hM
  obtain ⟨l, bad⟩ := s
  have hT := fun W => taker_any (Cd.bs l) W (by show l.length ≤ maxLen; unfold maxLen; simp at hl; omega)
  obtain ⟨o1, o2, o3, o4⟩ := Cd.takeU_ok l
  have c0 := Ob.Obj.cell h 0
  have c1 := Ob.Obj.cell h 1
  have f0 := Ob.Obj.frozen h 0
  have f1 := Ob.Obj.frozen h 1
  simp at c0 c1
  unfold Fi.tkNum
  simp only
  change ∀ W, Calls _ _ _ W fun e w' => e = .returned (.tuple #[.int .u64 (Cd.takeU l).1, .int .i64 (Cd.takeU l).2.1, .int .i64 (Cd.takeU l).2.2]) ∧ W = w' at hT
  obtain ⟨n, k, e, ht⟩ : ∃ n k e, Cd.takeU l = (n, k, e) := ⟨_, _, _, rfl⟩
  rw [ht] at hT o1 o2 o3 o4 ⊢
  have HT := Lib.hid hT
  have H := Lib.hid h
  simp only at o1 o2 o3 o4
  clear hT ht h
  cases bad with
  | true =>
    have hw : (Cd.bs l).size = l.length := rfl
    rw [if_pos (.inl rfl)]
    go_enter Try.func27, Try.ntmps27
    go_wp2_with (go_at_call 46; refine (HT.out _).mono ?_; rintro e w1 ⟨rfl, rfl⟩)
    go_ret
    exact ⟨rfl, Ob.Obj.set H.out 1 (.bool true), Sq.Kept.setCell _ _ (fun h => h rfl)⟩
  | false =>
    by_cases he : e = 0
    · subst he
      by_cases hn : most < n
      · rw [if_pos (.inr (.inr hn))]
        have hni : (most : Int) < (n : Int) := by omega
        go_enter Try.func27, Try.ntmps27
        go_wp2_with (go_at_call 46; refine (HT.out _).mono ?_; rintro e w1 ⟨rfl, rfl⟩)
        go_ret
        exact ⟨rfl, Ob.Obj.set H.out 1 (.bool true), Sq.Kept.setCell _ _ (fun h => h rfl)⟩
      · rw [if_neg (by simp; omega)]
        have hni : ¬ (most : Int) < (n : Int) := by omega
        have hk : (k : Int) ≤ (l.length : Int) := by omega
        have hk0 : (0 : Int) ≤ (k : Int) := by omega
        have hsz : (Cd.bs l).size = l.length := rfl
        simp only at hl
        go_enter Try.func27, Try.ntmps27
        go_wp2_with (go_at_call 46; refine (HT.out _).mono ?_; rintro e w1 ⟨rfl, rfl⟩)
        go_ret
        exact ⟨rfl, by rw [extract_drop]; exact Ob.Obj.set H.out 0 (.string (Cd.bs (l.drop k))), Sq.Kept.setCell _ _ (fun h => h rfl)⟩
    · rw [if_pos (.inr (.inl he))]
      have heb : (((e : Nat) : Int) != 0) = true := by simp; omega
      have heb2 : (((e : Nat) : Int) == 0) = false := by simp; omega
      clear he
      go_enter Try.func27, Try.ntmps27
      go_wp2_with (go_at_call 46; refine (HT.out _).mono ?_; rintro e w1 ⟨rfl, rfl⟩)
      go_ret
      exact ⟨rfl, Ob.Obj.set H.out 1 (.bool true), Sq.Kept.setCell _ _ (fun h => h rfl)⟩

set_option maxRecDepth 100000 in
set_option maxHeartbeats 2000000 in
theorem text_any (t : Nat) (s : Fi.TkS) (M : Int) (most : Nat) (hM : M = most) (w : World) (h : Tk w t s) (hl : s.1.length ≤ 140737488351232) (hm : most ≤ 1048576) :
    Calls Try.prog 28 #[.pointer (some ⟨t, 0, none⟩), .int .i64 M] w fun e w' => e = .returned (.string (Cd.bs (Fi.tkText most s).1)) ∧ Tk w' t (Fi.tkText most s).2 ∧ Sq.Kept (fun k => k ≠ t) w w' := by
  subst hM
  obtain ⟨l, bad⟩ := s
  have hT := fun W => takeTr_any (Cd.bs l) (most : Int) W hl (by omega) (by omega)
  have hlen := Fi.takeT_len l most
  have hkl := (Fr.takeT_len l most).1
  unfold Fi.tkText
  simp only
  change ∀ W, Calls _ _ _ W fun e w' => e = .returned (.tuple #[.string (Cd.bs (Cd.takeT l most).1), .int .i64 (Cd.takeT l most).2.1, .int .i64 (Cd.takeT l most).2.2]) ∧ Below W.heap.size W w' at hT
  obtain ⟨n, k, e, ht⟩ : ∃ n k e, Cd.takeT l most = (n, k, e) := ⟨_, _, _, rfl⟩
  rw [ht] at hT hlen hkl ⊢
  have HT := Lib.hid hT
  have H := Lib.hid h
  simp only at hlen hkl
  have c0 := Ob.Obj.cell h 0
  simp at c0
  clear hT ht h
  cases bad with
  | true =>
    rw [if_pos (.inl rfl)]
    go_enter Try.func28, Try.ntmps28
    go_wp2_with (go_at_call 47; refine (HT.out _).mono ?_; rintro e w1 ⟨rfl, hb1⟩; have H1 := Lib.hid (H.out.below hb1); have k0 := Ob.Obj.cell H1.out 0; have k1 := Ob.Obj.cell H1.out 1; have f1 := Ob.Obj.frozen H1.out 1; simp at k0 k1)
    go_ret
    exact ⟨rfl, Ob.Obj.set H1.out 1 (.bool true), (Sq.Kept.of_below hb1 |>.less (fun _ _ _ => trivial)).trans (Sq.Kept.setCell _ _ (fun h => h rfl))⟩
  | false =>
    by_cases he : e = 0
    · subst he
      rw [if_neg (by simp)]
      have hk : (k : Int) ≤ (l.length : Int) := by omega
      have hk0 : (0 : Int) ≤ (k : Int) := by omega
      have hsz : (Cd.bs l).size = l.length := rfl
      simp only at hl
      go_enter Try.func28, Try.ntmps28
      go_wp2_with (go_at_call 47; refine (HT.out _).mono ?_; rintro e w1 ⟨rfl, hb1⟩; have H1 := Lib.hid (H.out.below hb1); have k0 := Ob.Obj.cell H1.out 0; have k1 := Ob.Obj.cell H1.out 1; have f0 := Ob.Obj.frozen H1.out 0; simp at k0 k1)
      go_ret
      exact ⟨rfl, by rw [extract_drop]; exact Ob.Obj.set H1.out 0 (.string (Cd.bs (l.drop k))), (Sq.Kept.of_below hb1 |>.less (fun _ _ _ => trivial)).trans (Sq.Kept.setCell _ _ (fun h => h rfl))⟩
    · rw [if_pos (.inr he)]
      have heb : (((e : Nat) : Int) != 0) = true := by simp; omega
      have heb2 : (((e : Nat) : Int) == 0) = false := by simp; omega
      clear he
      go_enter Try.func28, Try.ntmps28
      go_wp2_with (go_at_call 47; refine (HT.out _).mono ?_; rintro e w1 ⟨rfl, hb1⟩; have H1 := Lib.hid (H.out.below hb1); have k0 := Ob.Obj.cell H1.out 0; have k1 := Ob.Obj.cell H1.out 1; have f1 := Ob.Obj.frozen H1.out 1; simp at k0 k1)
      go_ret
      exact ⟨rfl, Ob.Obj.set H1.out 1 (.bool true), (Sq.Kept.of_below hb1 |>.less (fun _ _ _ => trivial)).trans (Sq.Kept.setCell _ _ (fun h => h rfl))⟩
end Rr
end Go.Proofs.Ytmfeeampbmandaa

namespace Go.Proofs.Ytmfeeampbmandaa
open Go.RowKit
set_option linter.unusedSimpArgs false
set_option linter.unusedVariables false

/-- a frame's answer as Go hands it back -/
abbrev frameV (r : (UInt8 × List UInt8) × Nat × Nat) : Value := .tuple #[.agg #[.int .u8 (r.1.1.toNat : Int), .string (Cd.bs r.1.2)], .int .i64 r.2.1, .int .i64 r.2.2]

set_option maxRecDepth 100000 in
set_option maxHeartbeats 1000000 in
theorem frameTaker_any (l : List UInt8) (w : World) (hs : l.length ≤ 140737488351232) :
    Calls Try.prog 51 #[.string (Cd.bs l)] w fun e w' => e = .returned (frameV (Fr.take l)) ∧ Below w.heap.size w w' := by
  by_cases h5 : l.length < 5
  · rw [Fr.take_few h5]
    go_enter Try.func51, Try.ntmps51
    go_wp2_with fail
    exact bodyPost_ret (v := frameV ((0, []), 0, 2)) (by simp [results, Try.results51, go_sem]) rfl ⟨rfl, by repeat (first | exact Below.refl _ _ | (refine Below.setCell ?_ ?_ _) | (refine Below.alloc ?_ ?_ _) | exact Nat.le_refl _ | (focus (simp; done)))⟩
  · have h5' : 5 ≤ l.length := by omega
    have hg : l.getD 4 0 = (Cd.bs l)[4]'(by show 4 < l.length; omega) := by rw [List.getD_eq_getElem?_getD, List.getElem?_eq_getElem (by omega)]; rfl
    obtain ⟨c, hc⟩ : ∃ c, c = l.getD 4 0 := ⟨_, rfl⟩
    have hidx : ((Cd.bs l)[4]'(by show 4 < l.length; omega)) = c := by rw [hc, hg]
    by_cases h0 : c.toNat = 0
    · have hb : ((c.toNat : Int) == 0) = true := by simp [h0]
      rw [Fr.take_zero h5' (by rw [← hc]; exact h0)]
      clear hg hc
      go_enter Try.func51, Try.ntmps51
      go_wp2_with fail
      exact bodyPost_ret (v := frameV ((0, []), 0, 3)) (by simp [results, Try.results51, go_sem]) rfl ⟨rfl, by repeat (first | exact Below.refl _ _ | (refine Below.setCell ?_ ?_ _) | (refine Below.alloc ?_ ?_ _) | exact Nat.le_refl _ | (focus (simp; done)))⟩
    · have hb : ((c.toNat : Int) == 0) = false := by simp; omega
      obtain ⟨t, n, e, ht⟩ : ∃ t n e, Cd.takeT (l.drop 5) 262144 = (t, n, e) := ⟨_, _, _, rfl⟩
      obtain ⟨q1, q2, q3⟩ := Fr.takeT_len (l.drop 5) 262144
      rw [ht] at q1 q2 q3
      simp only [List.length_drop] at q1 q2 q3
      have hex : ((Cd.bs l).extract 5 l.length).data.toList = l.drop 5 := by
        rw [Lib.extract_data]; exact List.take_of_length_le (by simp)
      have hT : ∀ W, Calls Try.prog 47 #[.string ((Cd.bs l).extract 5 l.length), .int .i64 262144] W fun e' w' => e' = .returned (.tuple #[.string (Cd.bs t), .int .i64 n, .int .i64 e]) ∧ Below W.heap.size W w' := fun W => by
        have := takeTr_any ((Cd.bs l).extract 5 l.length) 262144 W (by rw [Lib.size_eq, hex, List.length_drop]; omega) (by omega) (by omega)
        rw [hex, ht] at this
        exact this
      have HT := Lib.hid hT
      clear hT hex
      by_cases he : e = 0
      · subst he
        have hS : ∀ W, Calls Try.prog 43 #[.string ((Cd.bs l).extract 4 (5 + n))] W fun e' w' => e' = .returned (.int .u32 (Fr.sum ((l.drop 4).take (n + 1)))) ∧ W = w' := fun W => by
          have hx : ((Cd.bs l).extract 4 (5 + n)).data.toList = (l.drop 4).take (n + 1) := by rw [Lib.extract_data]; congr 1; omega
          have := sumr_any ((Cd.bs l).extract 4 (5 + n)) W (by rw [Lib.size_eq, hx, List.length_take]; unfold maxLen; omega)
          rwa [hx] at this
        have HS := Lib.hid hS
        have HL := Lib.hid (fun W => littler_any (Fr.sum ((l.drop 4).take (n + 1)) : Int) (Fr.sum ((l.drop 4).take (n + 1))) W rfl (Fr.sum_lt _))
        clear hS
        have h4 : ((Cd.bs l).extract 0 4).toList = l.take 4 := by rw [Lib.extract_toList]; rfl
        have HQ2 := Lib.hid q2
        clear q2 q3
        have hn5 : 5 + n ≤ l.length := by omega
        generalize hsm : Fr.lit (Fr.sum ((l.drop 4).take (n + 1))) = m at *
        have HSM := Lib.hid hsm
        clear hsm
        have HTT := Lib.hid ht
        have HC := Lib.hid hc
        have HG := Lib.hid hg
        clear ht hc hg
        obtain ⟨sm, hsm2⟩ : ∃ sm, sm = Fr.sum ((l.drop 4).take (n + 1)) := ⟨_, rfl⟩
        rw [← hsm2] at HS HL HSM
        have HSM2 := Lib.hid hsm2
        clear hsm2
        have hml : (Cd.bs m).toList = m := by rw [ByteArray.toList_mk]
        by_cases hm : m = l.take 4
        · have hmb : (m == l.take 4) = true := by simp [hm]
          rw [Fr.take_ok h5' (by rw [← HC.out]; exact h0) HTT.out (by rw [← HSM2.out, HSM.out]; exact hm), ← HC.out]
          clear hm
          go_enter Try.func51, Try.ntmps51
          go_wp2_with (go_at_call 47; refine (HT.out _).mono ?_; rintro e w1 ⟨rfl, hb1⟩; obtain ⟨hkc, hkf⟩ := bcell hb1; have hz : w.heap.size < w1.heap.size := (by have := hb1.size; simp at this; omega))
          go_cut [35] (fun r wx => r = .bool false ∧ Below w1.heap.size w1 wx)
          case first =>
            have hw : IntKind.i64.wrap (5 + (n : Int)) = 5 + n := by rw [IntKind.wrap_i64]; omega
            have hw0 : (0 : Int) ≤ 5 + (n : Int) ∧ (4 : Int) ≤ 5 + (n : Int) ∧ 5 + (n : Int) ≤ (l.length : Int) := by omega
            have hw1 : (5 + (n : Int)).toNat = 5 + n := by omega
            go_region_with (first
              | (go_at_call 43; refine (HS.out _).mono ?_; rintro e w' ⟨rfl, rfl⟩)
              | (go_at_call 42; refine (HL.out _).mono ?_; rintro e w3 ⟨rfl, hb3⟩))
            all_goals clear hw hw0 hw1
            all_goals (try go_wp2_with fail)
            all_goals go_meet
            all_goals refine ⟨rfl, ?_⟩
            all_goals repeat (first | exact Below.refl _ _ | (refine Below.trans ?_ (hb3.mono ?_)) | apply Below.drew | exact Nat.le_refl _ | omega | (focus (simp; done)))
          case rest =>
            obtain ⟨rfl, hbc⟩ := hcut
            obtain ⟨hkc2, hkf2⟩ := bcell hbc
            have hz2 : w.heap.size < wc.heap.size := Nat.lt_of_lt_of_le hz hbc.size
            go_wp2_with fail
            exact bodyPost_ret (v := frameV ((c, t), 5 + n, 0)) (by simp [results, Try.results51, go_sem, hkc, hkc2, hz, hz2]) rfl ⟨rfl, by repeat (first | exact Below.refl _ _ | (refine Below.trans ?_ (hbc.mono ?_)) | (refine Below.trans ?_ (hb1.mono ?_)) | apply Below.drew | (refine Below.setCell ?_ ?_ _) | (refine Below.alloc ?_ ?_ _) | exact Nat.le_refl _ | omega | (focus (simp; done)) | (focus (simp; omega)))⟩
        · have hmb : (m == l.take 4) = false := by simpa using hm
          rw [Fr.take_bad h5' (by rw [← HC.out]; exact h0) HTT.out (by rw [← HSM2.out, HSM.out]; exact hm)]
          clear hm
          go_enter Try.func51, Try.ntmps51
          go_wp2_with (go_at_call 47; refine (HT.out _).mono ?_; rintro e w1 ⟨rfl, hb1⟩; obtain ⟨hkc, hkf⟩ := bcell hb1; have hz : w.heap.size < w1.heap.size := (by have := hb1.size; simp at this; omega))
          go_cut [35] (fun r wx => r = .bool true ∧ Below w1.heap.size w1 wx)
          case first =>
            have hw : IntKind.i64.wrap (5 + (n : Int)) = 5 + n := by rw [IntKind.wrap_i64]; omega
            have hw0 : (0 : Int) ≤ 5 + (n : Int) ∧ (4 : Int) ≤ 5 + (n : Int) ∧ 5 + (n : Int) ≤ (l.length : Int) := by omega
            have hw1 : (5 + (n : Int)).toNat = 5 + n := by omega
            go_region_with (first
              | (go_at_call 43; refine (HS.out _).mono ?_; rintro e w' ⟨rfl, rfl⟩)
              | (go_at_call 42; refine (HL.out _).mono ?_; rintro e w3 ⟨rfl, hb3⟩))
            all_goals clear hw hw0 hw1
            all_goals (try go_wp2_with fail)
            all_goals go_meet
            all_goals refine ⟨rfl, ?_⟩
            all_goals repeat (first | exact Below.refl _ _ | (refine Below.trans ?_ (hb3.mono ?_)) | apply Below.drew | exact Nat.le_refl _ | omega | (focus (simp; done)))
          case rest =>
            obtain ⟨rfl, hbc⟩ := hcut
            obtain ⟨hkc2, hkf2⟩ := bcell hbc
            have hz2 : w.heap.size < wc.heap.size := Nat.lt_of_lt_of_le hz hbc.size
            go_wp2_with fail
            exact bodyPost_ret (v := frameV ((0, []), 0, 3)) (by simp [results, Try.results51, go_sem, hkc, hkc2, hz, hz2]) rfl ⟨rfl, by repeat (first | exact Below.refl _ _ | (refine Below.trans ?_ (hbc.mono ?_)) | (refine Below.trans ?_ (hb1.mono ?_)) | apply Below.drew | (refine Below.setCell ?_ ?_ _) | (refine Below.alloc ?_ ?_ _) | exact Nat.le_refl _ | omega | (focus (simp; done)) | (focus (simp; omega)))⟩
      · rw [Fr.take_err h5' (by rw [← hc]; exact h0) ht he]
        have hbe : (((e : Nat) : Int) == 0) = false := by simp; omega
        clear hg hc ht q2
        go_enter Try.func51, Try.ntmps51
        go_wp2_with (go_at_call 47; refine (HT.out _).mono ?_; rintro e w1 ⟨rfl, hb1⟩; obtain ⟨hkc, hkf⟩ := bcell hb1; have hz : w.heap.size < w1.heap.size := (by have := hb1.size; simp at this; omega))
        exact bodyPost_ret (v := frameV ((0, []), 0, e)) (by simp [results, Try.results51, go_sem, hkc, hz]) rfl ⟨rfl, by repeat (first | exact Below.refl _ _ | (refine Below.trans ?_ (hb1.mono ?_)) | (refine Below.trans ?_ (hb3.mono ?_)) | apply Below.drew | (refine Below.setCell ?_ ?_ _) | (refine Below.alloc ?_ ?_ _) | exact Nat.le_refl _ | omega | (focus (simp; done)) | (focus (simp; omega)))⟩
end Go.Proofs.Ytmfeeampbmandaa

namespace Go.Proofs.Ytmfeeampbmandaa
open Go.RowKit
set_option linter.unusedSimpArgs false
set_option linter.unusedVariables false

theorem info_At : (Try.prog.info? 65).map (fun i => (i.zero, i.size, i.bytes)) = some (some (.agg #[.int .i64 0, .int .u8 0, .string ⟨#[]⟩]), 3, 32) := by kernel_rfl

/-- frames with their places, as cells -/
def atCells (out : List (Nat × (UInt8 × List UInt8))) : List Value := (out.map fun x => [Value.int .i64 x.1, .int .u8 x.2.1.toNat, .string (Cd.bs x.2.2)]).flatten
theorem atCells_snoc (out : List (Nat × (UInt8 × List UInt8))) (x : Nat × (UInt8 × List UInt8)) : atCells (out ++ [x]) = atCells out ++ [.int .i64 x.1, .int .u8 x.2.1.toNat, .string (Cd.bs x.2.2)] := by simp [atCells]
theorem cell_three_new (w : World) (a b c : Value) (t : TypeId) : ∀ j u, [a, b, c][j]? = some u → (w.alloc (.cells #[a, b, c] t)).cell? ((⟨w.heap.size, 0, none⟩ : Addr).add j) = some u := by
  intro j u hj
  match j, hj with
  | 0, hj => simp at hj; subst hj; simp [Addr.add]
  | 1, hj => simp at hj; subst hj; simp [Addr.add]
  | 2, hj => simp at hj; subst hj; simp [Addr.add]
  | (j + 3), hj => simp at hj

/-- what is owned stays owned behind whatever keeps the blocks that there are -/
theorem own_below {W w : World} {base : Nat} {e : TypeId} {size : Nat} {v : Value} {n : Nat} {xs : List Value} (h : W.ownsRow base e size v n xs) (hb : Below W.heap.size W w) : w.ownsRow base e size v n xs := by
  refine ⟨h.1, ?_⟩
  rcases h.2 with h | ⟨g, cap, cur, h1, h2, h3, h4⟩
  · exact .inl h
  · exact .inr ⟨g, cap, cur, h1, h2, (hb.block g (Array.getElem?_eq_some_iff.1 h3).1).trans h3, h4⟩

set_option maxRecDepth 100000 in
set_option maxHeartbeats 2000000 in
theorem frameAllr_any (l : List UInt8) (w : World) (hs : l.length ≤ 1048576) :
    Calls Try.prog 32 #[.string (Cd.bs l)] w fun e w' => ∃ v, e = .returned (.tuple #[v, .int .i64 (Fr.all l).2]) ∧ w'.ownsRow w.heap.size 65 3 v (Fr.all l).1.length (atCells (Fr.all l).1) ∧ Below w.heap.size w w' := by
  obtain ⟨i0, hi, hz0, hz1, hz2⟩ := info_parts info_At
  go_enter Try.func32, Try.ntmps32
  go_wp2_with fail
  go_loopw [4, 5] (fun v i wr => ∃ (p : Nat) (out : List (Nat × (UInt8 × List UInt8))), p ≤ l.length ∧ i = .int .i64 p ∧ out.length ≤ p ∧ wr.ownsRow w.heap.size 65 3 v out.length (atCells out) ∧ Below w.heap.size w wr ∧ Fr.all l = (out ++ (Fr.allGo l p).1, (Fr.allGo l p).2)) (fun _ i _ => l.length - (intOf i).toNat)
  case atStart => exact ⟨0, [], Nat.zero_le _, rfl, Nat.zero_le _, World.ownsRow_nil _ _ _ _, Below.refl _ _, rfl⟩
  case round =>
    obtain ⟨p, out, hp, rfl, hol, hown, hb, hgo⟩ := hrel
    have HG := Lib.hid hgo
    clear hgo
    have hbs := hb.size
    by_cases hlt : p < l.length
    · obtain ⟨f, n, e, ht⟩ : ∃ f n e, Fr.take (l.drop p) = (f, n, e) := ⟨_, _, _, rfl⟩
      obtain ⟨q1, q2, q3⟩ := Fr.take_len (l.drop p)
      rw [ht] at q1 q2 q3
      simp only [List.length_drop] at q1 q2 q3
      have hT : ∀ W, Calls Try.prog 51 #[.string ((Cd.bs l).extract p l.length)] W fun e' w' => e' = .returned (frameV (f, n, e)) ∧ Below W.heap.size W w' := fun W => by
        have hx : (Cd.bs l).extract p l.length = Cd.bs (l.drop p) := by rw [ByteArray.extract_mk, List.take_of_length_le (by simp)]
        rw [hx]
        have := frameTaker_any (l.drop p) W (by rw [List.length_drop]; omega)
        rwa [ht] at this
      have HT := Lib.hid hT
      have HTT := Lib.hid ht
      clear hT ht
      by_cases he : e = 0
      · subst he
        have h5 := q2 rfl
        clear q2 q3
        go_wp2_with (first
          | (go_at_call 51; refine (HT.out _).mono ?_; rintro e w1 ⟨rfl, hb1⟩; have hown1 := own_below hown hb1; have hb1' := hb.trans (hb1.mono hbs); have hs1 := hb1'.size)
          | (at_builtin; refine wpList_append_own _ rfl _ _ 61 rfl w.heap.size 65 i0 (.agg #[.int .i64 0, .int .u8 0, .string ⟨#[]⟩]) 3 32 Try.underlying61 hi hz0 hz1 hz2 rfl (by decide) _ _ _ rfl ((hown1.alloc _).alloc _) ⟨w1.heap.size + 1, 0, none⟩ 1 1 [_, _, _] rfl rfl (by simpa using cell_three_new (w1.alloc (.cells #[.int .u8 f.1.toNat, .string (Cd.bs f.2)] 47)) _ _ _ _) (by simp [Value.oneCell']) (by unfold maxLen; omega) (by omega) (by simp; omega) ?_; intro v' w2 hown2 hgrow _; have hb2 := ((hb1'.alloc hs1 _).alloc (by simp; omega) _).grown hgrow (by simp; omega) (fun j hj => (hown1.lt j hj).1); clear hgrow))
        go_roundw
        case rel => exact ⟨p + n, out ++ [(p, f)], by omega, by go_num, by simp; omega, by rw [atCells_snoc, List.length_append, List.length_singleton]; exact hown2, hb2, by
          rw [HG.out, Fr.allGo_more (l := l) (p := p) (by rw [HTT.out]; exact ⟨hlt, rfl, by show 0 < n; omega⟩), HTT.out]; simp⟩
        case measure => simp [intOf]; omega
      · have hbe : (((e : Nat) : Int) == 0) = false := by simp; omega
        clear q2 q3
        go_wp2_with (first
          | (go_at_call 51; refine (HT.out _).mono ?_; rintro e w1 ⟨rfl, hb1⟩; have hown1 := own_below hown hb1; have hb1' := hb.trans (hb1.mono hbs); have hs1 := hb1'.size))
        have hst := Fr.allGo_stop (l := l) (p := p) (by rw [HTT.out]; rintro ⟨_, h, _⟩; exact he h)
        have hg := HG.out
        rw [hst, List.append_nil] at hg
        go_ret2
        exact ⟨_, by rw [hg]; rfl, by rw [hg]; exact hown1.alloc _, hb1'.alloc hs1 _⟩
    · obtain rfl : p = l.length := by omega
      have hst := Fr.allGo_stop (l := l) (p := l.length) (by rintro ⟨h, _⟩; omega)
      have hg := HG.out
      rw [hst, List.append_nil] at hg
      have HGG := Lib.hid hg
      clear hst hg
      go_wp2_with fail
      go_ret2
      exact ⟨_, by rw [HGG.out]; rfl, by rw [HGG.out]; exact hown, hb⟩
end Go.Proofs.Ytmfeeampbmandaa

/-
  The document's answers on batches (tapestryref05): Decode.
-/
namespace Go.Proofs.Ytmfeeampbmandaa
open Go.RowKit
set_option linter.unusedSimpArgs false
set_option linter.unusedVariables false
theorem info_Put : (Try.prog.info? 42).map (fun i => (i.zero, i.size, i.bytes)) = some (some (.agg #[.string ⟨#[]⟩, .string ⟨#[]⟩, .bool false]), 3, 40) := by kernel_rfl
namespace Wa
def pCells (L : List Pt) : List Value := (L.map fun x => [Value.string (Cd.bs x.1), .string (Cd.bs x.2.1), .bool x.2.2.1]).flatten
theorem pCells_snoc (L : List Pt) (x : Pt) : pCells (L ++ [x]) = pCells L ++ [.string (Cd.bs x.1), .string (Cd.bs x.2.1), .bool x.2.2.1] := by simp [pCells]
theorem pCells_len (L : List Pt) : (pCells L).length = L.length * 3 := by
  induction L with
  | nil => rfl
  | cons x r ih => simp only [pCells, List.map_cons, List.flatten_cons, List.length_append, List.length_cons] at ih ⊢; simp at ih ⊢; omega
theorem pCells_get : ∀ (L : List Pt) (j : Nat) (h : j < L.length), (pCells L)[j * 3]? = some (.string (Cd.bs L[j].1)) ∧ (pCells L)[j * 3 + 1]? = some (.string (Cd.bs L[j].2.1)) ∧ (pCells L)[j * 3 + 2]? = some (.bool L[j].2.2.1)
  | [], j, h => by simp at h
  | x :: r, 0, h => by simp [pCells]
  | x :: r, j + 1, h => by
    have ih := pCells_get r j (by simpa using h)
    have e : pCells (x :: r) = [.string (Cd.bs x.1), .string (Cd.bs x.2.1), .bool x.2.2.1] ++ pCells r := by simp [pCells]
    rw [e]
    refine ⟨?_, ?_, ?_⟩
    · rw [List.getElem?_append_right (by simp; omega), show (j + 1) * 3 - _ = j * 3 by simp; omega]; simpa using ih.1
    · rw [List.getElem?_append_right (by simp; omega), show (j + 1) * 3 + 1 - _ = j * 3 + 1 by simp; omega]; simpa using ih.2.1
    · rw [List.getElem?_append_right (by simp; omega), show (j + 1) * 3 + 2 - _ = j * 3 + 2 by simp; omega]; simpa using ih.2.2
/-- puts in a row of one's own -/
def OwnP (B : Nat) (W : World) (v : Value) (L : List Pt) : Prop := W.ownsRow B 42 3 v L.length (pCells L)
theorem OwnP.puts {B : Nat} {W : World} {v : Value} {L : List Pt} (h : OwnP B W v L) : Puts W.heap.size W v L := by
  obtain ⟨ao, cap, rfl, hg⟩ := Sq.row_cases h
  by_cases h0 : 0 < L.length
  · obtain ⟨g, rfl, h1, h2⟩ := hg h0
    refine ⟨_, cap, g, 0, rfl, fun _ => ⟨rfl, h2⟩, fun j hj => ?_⟩
    obtain ⟨g1, g2, g3⟩ := pCells_get L j hj
    rw [Nat.zero_add]
    exact ⟨(World.ownsRow.cellAt h (j * 3) (by omega)).trans g1, (World.ownsRow.cellAt h (j * 3 + 1) (by omega)).trans g2, (World.ownsRow.cellAt h (j * 3 + 2) (by omega)).trans g3⟩
  · exact ⟨ao, cap, 0, 0, rfl, fun h => absurd h h0, fun j hj => by omega⟩
/-- what Decode leaves -/
def DecOut (d : Option Bt) (w : World) (e : Ending) (w' : World) : Prop :=
  match d with
  | some b => ∃ v, e = .returned (.tuple #[.agg #[.int .u64 b.1, v], .int .i64 0]) ∧ OwnP w.heap.size w' v b.2.1 ∧ Below w.heap.size w w'
  | none => e = .returned (.tuple #[.agg #[.int .u64 0, .slice none 0 0], .int .i64 3]) ∧ Below w.heap.size w w'
theorem rdPut_in (s : Fi.TkS) : PutIn (rdPut s).1 ∧ (rdPut s).2.1.length ≤ s.1.length := by
  have a1 := Fi.tkNum_len 1 s
  have a2 := Fi.tkText_le 96 (Fi.tkNum 1 s).2
  have a3 := Fi.tkText_len 96 (Fi.tkNum 1 s).2
  have a4 := Fi.tkText_le 16384 (Fi.tkText 96 (Fi.tkNum 1 s).2).2
  have a5 := Fi.tkText_len 16384 (Fi.tkText 96 (Fi.tkNum 1 s).2).2
  unfold rdPut
  split
  · exact ⟨⟨by simp only; omega, by simp only; omega⟩, by simp only; omega⟩
  · exact ⟨⟨by simp only; omega, by simp⟩, by simp only; omega⟩

theorem in_snoc {L : List Pt} {p : Pt} (h : ∀ q ∈ L, PutIn q) (hp : PutIn p) : ∀ q ∈ L ++ [p], PutIn q := fun q hq => by
  rcases List.mem_append.1 hq with hq | hq
  · exact h q hq
  · simp only [List.mem_singleton] at hq; subst hq; exact hp

/-- amid Decode -/
structure DS (B t bb : Nat) (g : Int) (L : List Pt) (s : Fi.TkS) (v : Value) (W : World) : Prop where
  tk : Rr.Tk W t s
  box : Ob.Obj W bb 25 [.int .u64 g, v]
  res : Ob.Obj W B 25 [.int .u64 0, .slice none 0 0]
  row : OwnP B W v L
theorem DS.kept {B t bb : Nat} {g : Int} {L : List Pt} {s s' : Fi.TkS} {v : Value} {W W' : World} (h : DS B t bb g L s v W) (h1 : t ≠ bb) (h2 : t ≠ B) (hk : Sq.Kept (fun k => k ≠ t) W W') (ht : Rr.Tk W' t s') : DS B t bb g L s' v W' :=
  ⟨ht, h.box.kept hk h1.symm, h.res.kept hk h2.symm, Sq.row_kept h.row hk (fun g hg e => by
    subst e
    exact Ob.Obj.not_row (show Ob.Obj W g 53 _ from h.tk) (by decide) h.row hg)⟩
theorem DS.below {B t bb : Nat} {g : Int} {L : List Pt} {s : Fi.TkS} {v : Value} {W W' : World} (h : DS B t bb g L s v W) (hb : Below W.heap.size W W') : DS B t bb g L s v W' :=
  ⟨h.tk.below hb, h.box.below hb, h.res.below hb, own_below h.row hb⟩
theorem DS.other {B t bb : Nat} {g : Int} {L : List Pt} {s : Fi.TkS} {v : Value} {W : World} (h : DS B t bb g L s v W) {k : Nat} (hk1 : k ≠ t) (hk2 : k ≠ bb) (hk3 : k ≠ B) (hk4 : v.ownBlock ≠ some k) (j : Nat) (u : Value) : DS B t bb g L s v (W.setCell ⟨k, j, none⟩ u) :=
  ⟨Ob.Obj.other h.tk (p := ⟨k, j, none⟩) hk1.symm u, Ob.Obj.other h.box (p := ⟨k, j, none⟩) hk2.symm u, Ob.Obj.other h.res (p := ⟨k, j, none⟩) hk3.symm u, Ob.row_other h.row (p := ⟨k, j, none⟩) hk4 u⟩
theorem DS.appended {B t bb : Nat} {g : Int} {L : List Pt} {s : Fi.TkS} {v v2 : Value} {W W2 : World} (h : DS B t bb g L s v W) (h1 : t ≠ bb) (h3 : bb ≠ B) (p : Pt)
    (hown : W2.ownsRow B 42 3 v2 (L.length + 1) (pCells L ++ [.string (Cd.bs p.1), .string (Cd.bs p.2.1), .bool p.2.2.1])) (hg : W.grownBy W2 v.ownBlock) : DS B t bb g (L ++ [p]) s v2 (W2.setCell ⟨bb, 1, none⟩ v2) := by
  have hob : Ob.Obj W2 bb 25 [.int .u64 g, v] := h.box.grown hg (h.box.not_row (by decide) h.row)
  refine ⟨Ob.Obj.other (Ob.Obj.grown h.tk hg (Ob.Obj.not_row h.tk (by decide) h.row)) (p := ⟨bb, 1, none⟩) h1 _, ?_, Ob.Obj.other (h.res.grown hg (h.res.not_row (by decide) h.row)) (p := ⟨bb, 1, none⟩) h3.symm _, ?_⟩
  · have := hob.set 1 v2
    simpa using this
  · unfold OwnP
    rw [pCells_snoc, List.length_append, List.length_singleton]
    exact Ob.row_other hown (p := ⟨bb, 1, none⟩) (hob.not_row (by decide) hown) _

set_option maxRecDepth 100000 in
set_option maxHeartbeats 8000000 in
theorem decodeR5_any (l : List UInt8) (w : World) (hl : l.length ≤ 140737488351232) :
    Calls Try.prog 13 #[.string (Cd.bs l)] w (DecOut (decode l) w) := by
  obtain ⟨i0, hi, hz0, hz1, hz2⟩ := info_parts info_Put
  rw [← decR_decode]
  have hD : decR l = if (rdPuts (Fi.tkNum 256 (Fi.tkNum MaxSeq (l, false)).2).1 [] (Fi.tkNum 256 (Fi.tkNum MaxSeq (l, false)).2).2).2 = ([], false) ∧ Right (((Fi.tkNum MaxSeq (l, false)).1 : Int), (rdPuts (Fi.tkNum 256 (Fi.tkNum MaxSeq (l, false)).2).1 [] (Fi.tkNum 256 (Fi.tkNum MaxSeq (l, false)).2).2).1, ()) then some (((Fi.tkNum MaxSeq (l, false)).1 : Int), (rdPuts (Fi.tkNum 256 (Fi.tkNum MaxSeq (l, false)).2).1 [] (Fi.tkNum 256 (Fi.tkNum MaxSeq (l, false)).2).2).1, ()) else none := rfl
  have HU := Lib.hid (fun W t (h : Rr.Tk W t (l, false)) => Rr.uint_any t (l, false) 1125899906842624 MaxSeq rfl W h hl (by decide))
  have a1 := Fi.tkNum_le MaxSeq (l, false)
  have a2 := Fi.tkNum_len MaxSeq (l, false)
  have hM : (MaxSeq : Nat) = 1125899906842624 := rfl
  generalize Fi.tkNum MaxSeq (l, false) = r1 at *
  obtain ⟨g, s1⟩ := r1
  simp only at a1 a2 hD
  have HC := Lib.hid (fun W t (h : Rr.Tk W t s1) => Rr.uint_any t s1 256 256 rfl W h (by omega) (by decide))
  have a3 := Fi.tkNum_le 256 s1
  have a4 := Fi.tkNum_len 256 s1
  generalize Fi.tkNum 256 s1 = r2 at *
  obtain ⟨K, s2⟩ := r2
  simp only at a3 a4 hD
  have HDD := Lib.hid hD
  have hg18 : g < 18446744073709551616 := by omega
  have oR := Ob.Obj.new w 25 [.int .u64 0, .slice none 0 0]
  have hW : Below w.heap.size w ((w.alloc (.cells #[.int .u64 0, .slice none 0 0] 25)).alloc (.cells #[.string (Cd.bs l), .bool false] 53)) := ((Below.refl _ _).alloc (Nat.le_refl _) _).alloc (by simp) _
  have HT0 := Lib.hid (show Rr.Tk ((w.alloc (.cells #[.int .u64 0, .slice none 0 0] 25)).alloc (.cells #[.string (Cd.bs l), .bool false] 53)) (w.heap.size + 1) (l, false) by simpa [Rr.Tk] using Ob.Obj.new (w.alloc (.cells #[.int .u64 0, .slice none 0 0] 25)) 53 [.string (Cd.bs l), .bool false])
  have HR0 := Lib.hid (oR.alloc (.cells #[.string (Cd.bs l), .bool false] 53))
  clear hD hM oR
  go_enter Try.func13, Try.ntmps13
  go_wp2_with (first
    | (go_at_call 27; (with_reducible refine (HU.out _ _ HT0.out).mono ?_); rintro e w1 ⟨rfl, hT1, hk1⟩; have hz1 := hk1.size; simp at hz1; have HT1 := Lib.hid (hT1.below ((Below.refl _ _).alloc (Nat.le_refl _) (.cells #[.int .u64 (g : Int), .slice none 0 0] 25))); have HR1 := Lib.hid ((HR0.out.kept hk1 (by omega)).alloc (.cells #[.int .u64 (g : Int), .slice none 0 0] 25)); have HB1 := Lib.hid ((hW.trans (hk1.below (B := w.heap.size) (fun k hk => by omega) hW.size)).alloc (by simp at *; omega) (.cells #[.int .u64 (g : Int), .slice none 0 0] 25)); have HX1 := Lib.hid (Ob.Obj.new w1 25 [.int .u64 (g : Int), .slice none 0 0]); clear hT1)
    | (go_at_call 27; (with_reducible refine (HC.out _ _ HT1.out).mono ?_); rintro e w2 ⟨rfl, hT2, hk2⟩))
  obtain ⟨bb, hbb⟩ : ∃ bb, bb = w1.heap.size := ⟨_, rfl⟩
  have hS0 : DS w.heap.size (w.heap.size + 1) bb (g : Int) [] s2 (.slice none 0 0) w2 := by
    rw [hbb]
    exact ⟨hT2, HX1.out.kept hk2 (by omega), HR1.out.kept hk2 (by omega), World.ownsRow_nil _ _ _ _⟩
  have hB2 : Below w.heap.size w w2 := HB1.out.trans (hk2.below (B := w.heap.size) (fun k hk => by omega) HB1.out.size)
  have htb : w.heap.size + 1 ≠ bb := by omega
  have hbw : bb ≠ w.heap.size := by omega
  have hbB : w.heap.size ≤ bb := by omega
  rw [← hbb]
  clear hbb HT0 HR0 HT1 HR1 HB1 HX1 hk1 hk2 hT2 HU HC hW hz1
  go_loopw [7] (fun i wr => ∃ (k : Nat) (L : List Pt) (s' : Fi.TkS) (v : Value), k ≤ K ∧ i = .int .u64 (k : Int) ∧ DS w.heap.size (w.heap.size + 1) bb (g : Int) L s' v wr ∧ Below w.heap.size w wr ∧ L.length ≤ k ∧ s'.1.length ≤ l.length ∧ (∀ p ∈ L, PutIn p) ∧ Hid (rdPuts K [] s2 = rdPuts (K - k) L s')) (fun i _ => K - (intOf i).toNat)
  case atStart => exact ⟨0, [], s2, _, Nat.zero_le _, rfl, hS0, hB2, Nat.le_refl _, by omega, fun p hp => (by cases hp), rfl⟩
  case round =>
    obtain ⟨k, L, s', v, hk, rfl, hS, hB, hLk, hsl, hpi, hgo⟩ := hrel
    have hbs := hB.size
    have c1 := Ob.Obj.cell hS.tk 1
    simp at c1
    obtain ⟨ao, cap, rfl, hg0⟩ := Sq.row_cases hS.row
    have hbl := hS.box.lt
    have htl := Ob.Obj.lt hS.tk
    by_cases hgoes : k < K ∧ s'.2 = false
    · obtain ⟨hlt, hsb⟩ := hgoes
      have hstep : rdPuts K [] s2 = rdPuts (K - (k + 1)) (L ++ [(rdPut s').1]) (rdPut s').2 := by
        rw [hgo.out, show K - k = (K - (k + 1)) + 1 by omega, rdPuts, if_neg (by rw [hsb]; simp)]
      obtain ⟨hq1, hq2⟩ := rdPut_in s'
      rw [hsb] at c1
      have hi1 : (k : Int) < (K : Int) := by omega
      have HUK := Lib.hid (fun W (h : Rr.Tk W (w.heap.size + 1) s') => Rr.uint_any (w.heap.size + 1) s' 1 1 rfl W h (by omega) (by decide))
      have b1 := Fi.tkNum_le 1 s'
      have b2 := Fi.tkNum_len 1 s'
      unfold rdPut at hstep hq1 hq2
      generalize Fi.tkNum 1 s' = x1 at *
      obtain ⟨kd, sa⟩ := x1
      simp only at hstep hq1 hq2 b1 b2
      have HTX := Lib.hid (fun W (h : Rr.Tk W (w.heap.size + 1) sa) => Rr.text_any (w.heap.size + 1) sa 96 96 rfl W h (by omega) (by omega))
      have b3 := Fi.tkText_len 96 sa
      generalize Fi.tkText 96 sa = x2 at *
      obtain ⟨ky, sb⟩ := x2
      simp only at hstep hq1 hq2 b3
      have HTV := Lib.hid (fun W (h : Rr.Tk W (w.heap.size + 1) sb) => Rr.text_any (w.heap.size + 1) sb 16384 16384 rfl W h (by omega) (by omega))
      have b4 := Fi.tkText_len 16384 sb
      generalize Fi.tkText 16384 sb = x3 at *
      obtain ⟨vl, sc⟩ := x3
      simp only at hstep hq1 hq2 b4
      have HS := Lib.hid hS
      have HB := Lib.hid hB
      clear hgo hS hB
      have hkd : kd = 0 ∨ kd = 1 := by omega
      rcases hkd with rfl | rfl
      · rw [if_pos rfl] at hstep hq1 hq2
        have HST := Lib.hid hstep
        simp only at hq1 hq2
        clear hstep
        go_wp2_with (first
          | (go_at_call 27; (with_reducible refine (HUK.out _ HS.out.tk).mono ?_); rintro e w3 ⟨rfl, hT3, hk3⟩; have HS3 := Lib.hid (HS.out.kept htb (by omega) hk3 hT3); have HB3 := Lib.hid (HB.out.trans (hk3.below (B := w.heap.size) (fun k hk => by omega) hbs)))
          | (go_at_call 28; (with_reducible refine (HTX.out _ HS3.out.tk).mono ?_); rintro e w4 ⟨rfl, hT4, hk4⟩; have HN4 := Lib.hid (show (Value.slice ao L.length cap).ownBlock ≠ some w4.heap.size from fun e => by have := (Ob.row_lt (HS3.out.kept htb (by omega) hk4 hT4).row e).2; omega); have HS4 := Lib.hid ((HS3.out.kept htb (by omega) hk4 hT4).below ((Below.refl _ _).alloc (Nat.le_refl _) (.cells #[.string (Cd.bs ky), .string ⟨#[]⟩, .bool false] 42))); have HB4 := Lib.hid ((HB3.out.trans (hk4.below (B := w.heap.size) (fun k hk => by omega) HB3.out.size)).alloc (Nat.le_trans HB3.out.size hk4.size) (.cells #[.string (Cd.bs ky), .string ⟨#[]⟩, .bool false] 42)); have HP4 := Lib.hid (Ob.Obj.new w4 42 [.string (Cd.bs ky), .string ⟨#[]⟩, .bool false]); have hp4 : bb < w4.heap.size ∧ w.heap.size + 1 < w4.heap.size := ⟨by have := hk3.size; have := hk4.size; omega, by have := hk3.size; have := hk4.size; omega⟩)
          | (go_at_call 28; (with_reducible refine (HTV.out _ HS4.out.tk).mono ?_); rintro e w5 ⟨rfl, hT5, hk5⟩; have hP5 := HP4.out.kept hk5 (by omega); have q0 := hP5.cell 0; have q1 := hP5.cell 1; have q2 := hP5.cell 2; have f1 := hP5.frozen 1; have hpl5 := hP5.lt; have HP5 := Lib.hid hP5; have HS5 := Lib.hid (HS4.out.kept htb (by omega) hk5 hT5); have HB5 := Lib.hid (HB4.out.trans (hk5.below (B := w.heap.size) (fun k hk => by omega) HB4.out.size)); clear hP5; simp at q0 q1 q2; have c15 := HS5.out.box.cell 1; have f15 := HS5.out.box.frozen 1; have hbl5 := HS5.out.box.lt; simp at c15; have HS6 := Lib.hid (HS5.out.other (by omega) (by omega) (by omega) HN4.out 1 (.string (Cd.bs vl))); have HB6 := Lib.hid (HB5.out.setCell (p := ⟨w4.heap.size, 1, none⟩) (by simp; omega) (.string (Cd.bs vl))))
          | (at_builtin; refine wpList_append_own _ rfl _ _ 23 rfl w.heap.size 42 i0 (.agg #[.string ⟨#[]⟩, .string ⟨#[]⟩, .bool false]) 3 40 Try.underlying23 hi hz0 hz1 hz2 rfl (by decide) _ _ _ rfl (HS6.out.row.alloc _) ⟨w5.heap.size, 0, none⟩ 1 1 [_, _, _] rfl rfl (by simpa using cell_three_new (w5.setCell ⟨w4.heap.size, 1, none⟩ (.string (Cd.bs vl))) _ _ _ _) (by simp [Value.oneCell']) (by unfold maxLen; omega) (by omega) (by have := HB6.out.size; simp at this ⊢; omega) ?_; intro v' w6 hown6 hgrow6 _; obtain ⟨ao6, cap6, rfl, _⟩ := Sq.row_cases hown6; have hob6 := (HS6.out.box.alloc (.cells #[.string (Cd.bs ky), .string (Cd.bs vl), .bool false] 42)).grown hgrow6 (HS6.out.box.not_row (by decide) HS6.out.row); have c6 := hob6.cell 1; have f6 := hob6.frozen 1; simp at c6; have HS7 := Lib.hid ((HS6.out.below ((Below.refl _ _).alloc (Nat.le_refl _) (.cells #[.string (Cd.bs ky), .string (Cd.bs vl), .bool false] 42))).appended htb hbw (ky, vl, false, ()) hown6 hgrow6); have HB7 := Lib.hid ((((HB6.out.alloc HB6.out.size (.cells #[.string (Cd.bs ky), .string (Cd.bs vl), .bool false] 42))).grown hgrow6 (by have := HB6.out.size; simp at this ⊢; omega) (fun j hj => (Ob.row_lt (HS6.out.row) hj).1)).setCell (p := ⟨bb, 1, none⟩) (by simp; omega) (.slice ao6 (L.length + 1) cap6)); clear hown6 hgrow6 hob6))
        go_roundw
        case rel => exact ⟨k + 1, L ++ [(ky, vl, false, ())], sc, _, by omega, by go_num, HS7.out, HB7.out, by rw [List.length_append, List.length_singleton]; omega, by omega, in_snoc hpi hq1, HST⟩
        case measure => simp [intOf]; omega
      · rw [if_neg (by omega)] at hstep hq1 hq2
        have HST := Lib.hid hstep
        simp only at hq1 hq2
        clear hstep
        go_wp2_with (first
          | (go_at_call 27; (with_reducible refine (HUK.out _ HS.out.tk).mono ?_); rintro e w3 ⟨rfl, hT3, hk3⟩; have HS3 := Lib.hid (HS.out.kept htb (by omega) hk3 hT3); have HB3 := Lib.hid (HB.out.trans (hk3.below (B := w.heap.size) (fun k hk => by omega) hbs)))
          | (go_at_call 28; (with_reducible refine (HTX.out _ HS3.out.tk).mono ?_); rintro e w4 ⟨rfl, hT4, hk4⟩; have HS4 := Lib.hid ((HS3.out.kept htb (by omega) hk4 hT4).below ((Below.refl _ _).alloc (Nat.le_refl _) (.cells #[.string (Cd.bs ky), .string ⟨#[]⟩, .bool true] 42))); have HB4 := Lib.hid ((HB3.out.trans (hk4.below (B := w.heap.size) (fun k hk => by omega) HB3.out.size)).alloc (Nat.le_trans HB3.out.size hk4.size) (.cells #[.string (Cd.bs ky), .string ⟨#[]⟩, .bool true] 42)); have hp4 : bb < w4.heap.size ∧ w.heap.size + 1 < w4.heap.size := ⟨by have := hk3.size; have := hk4.size; omega, by have := hk3.size; have := hk4.size; omega⟩; have c14 := HS4.out.box.cell 1; have f14 := HS4.out.box.frozen 1; simp at c14)
          | (at_builtin; refine wpList_append_own _ rfl _ _ 23 rfl w.heap.size 42 i0 (.agg #[.string ⟨#[]⟩, .string ⟨#[]⟩, .bool false]) 3 40 Try.underlying23 hi hz0 hz1 hz2 rfl (by decide) _ _ _ rfl (HS4.out.row.alloc _) ⟨w4.heap.size + 1, 0, none⟩ 1 1 [_, _, _] rfl rfl (by simpa using cell_three_new (w4.alloc (.cells #[.string (Cd.bs ky), .string ⟨#[]⟩, .bool true] 42)) _ _ _ _) (by simp [Value.oneCell']) (by unfold maxLen; omega) (by omega) (by have := HB4.out.size; simp at this ⊢; omega) ?_; intro v' w6 hown6 hgrow6 _; obtain ⟨ao6, cap6, rfl, _⟩ := Sq.row_cases hown6; have hob6 := (HS4.out.box.alloc (.cells #[.string (Cd.bs ky), .string ⟨#[]⟩, .bool true] 42)).grown hgrow6 (HS4.out.box.not_row (by decide) HS4.out.row); have c6 := hob6.cell 1; have f6 := hob6.frozen 1; simp at c6; have HS7 := Lib.hid ((HS4.out.below ((Below.refl _ _).alloc (Nat.le_refl _) (.cells #[.string (Cd.bs ky), .string ⟨#[]⟩, .bool true] 42))).appended htb hbw (ky, [], true, ()) hown6 hgrow6); have HB7 := Lib.hid ((((HB4.out.alloc HB4.out.size (.cells #[.string (Cd.bs ky), .string ⟨#[]⟩, .bool true] 42))).grown hgrow6 (by have := HB4.out.size; simp at this ⊢; omega) (fun j hj => (Ob.row_lt (HS4.out.row) hj).1)).setCell (p := ⟨bb, 1, none⟩) (by simp; omega) (.slice ao6 (L.length + 1) cap6)); clear hown6 hgrow6 hob6))
        go_roundw
        case rel => exact ⟨k + 1, L ++ [(ky, [], true, ())], sb, _, by omega, by go_num, HS7.out, HB7.out, by rw [List.length_append, List.length_singleton]; omega, by omega, in_snoc hpi hq1, HST⟩
        case measure => simp [intOf]; omega
    · have hex : rdPuts K [] s2 = (L, s') := by
        rw [hgo.out]
        by_cases hlt : k < K
        · have hsb : s'.2 = true := by cases hx : s'.2 with
            | true => rfl
            | false => exact absurd ⟨hlt, hx⟩ hgoes
          rw [show K - k = (K - (k + 1)) + 1 by omega, rdPuts, if_pos hsb]
        · rw [show K - k = 0 by omega, rdPuts]
      have hdx := HDD.out
      rw [hex] at hdx
      simp only at hdx
      have hBI : BatchIn ((g : Int), L, ()) := ⟨⟨by simp only; omega, by simp only; omega⟩, hpi, by simp only; omega⟩
      have hRI := rightR_any (g : Int) L (.slice ao L.length cap) wr hS.row.puts hBI
      have HS := Lib.hid hS
      have HB := Lib.hid hB
      have hbox := hS.box
      have x0 := hbox.cell 0
      have x1 := hbox.cell 1
      simp at x0 x1
      obtain ⟨sl, sb⟩ := s'
      simp only at c1
      have hgb : (k < K → sb = true) := fun h => by cases sb with
        | true => rfl
        | false => exact absurd ⟨h, rfl⟩ hgoes
      clear hgo hex hS hB hBI hbox hgoes
      cases hr : rightB ((g : Int), L, ()) with
      | false =>
        have HE := Lib.hid (hdx.trans (if_neg (fun h => by have := h.2; have := decide_eq_true this; rw [show decide (Right ((g : Int), L, ())) = rightB ((g : Int), L, ()) from rfl, hr] at this; cases this)))
        rw [hr] at hRI
        have HRI := Lib.hid hRI
        clear hdx hRI hr
        by_cases hlt : k < K
        · have hi1 : (k : Int) < (K : Int) := by omega
          obtain rfl := hgb hlt
          clear hgb
          go_wp2_with (go_at_call 17; (with_reducible refine HRI.out.mono ?_); rintro e w7 ⟨rfl, hb7⟩; have HS7 := Lib.hid (HS.out.below hb7); have t0 := Ob.Obj.cell HS7.out.tk 0; have t1 := Ob.Obj.cell HS7.out.tk 1; have d0 := HS7.out.box.cell 0; have d1 := HS7.out.box.cell 1; have e0 := HS7.out.res.cell 0; have e1 := HS7.out.res.cell 1; have f0 := HS7.out.res.frozen 0; have f1 := HS7.out.res.frozen 1; have hlr := HS7.out.res.lt; have hlb := HS7.out.box.lt; simp at t0 t1 d0 d1 e0 e1; have HB7 := Lib.hid (HB.out.trans (hb7.mono hbs)))
          refine bodyPost_ret (v := .tuple #[.agg #[.int .u64 0, .slice none 0 0], .int .i64 3]) (by simp [results, Try.results13, go_sem, e0, e1, hlr]) rfl ?_
          rw [HE.out]
          exact ⟨rfl, (HB7.out.setCell (by simp) _).setCell (by simp) _⟩
        · have hi1 : ¬ (k : Int) < (K : Int) := by omega
          clear hgb
          cases sb with
          | true =>
            go_wp2_with (go_at_call 17; (with_reducible refine HRI.out.mono ?_); rintro e w7 ⟨rfl, hb7⟩; have HS7 := Lib.hid (HS.out.below hb7); have t0 := Ob.Obj.cell HS7.out.tk 0; have t1 := Ob.Obj.cell HS7.out.tk 1; have d0 := HS7.out.box.cell 0; have d1 := HS7.out.box.cell 1; have e0 := HS7.out.res.cell 0; have e1 := HS7.out.res.cell 1; have f0 := HS7.out.res.frozen 0; have f1 := HS7.out.res.frozen 1; have hlr := HS7.out.res.lt; have hlb := HS7.out.box.lt; simp at t0 t1 d0 d1 e0 e1; have HB7 := Lib.hid (HB.out.trans (hb7.mono hbs)))
            refine bodyPost_ret (v := .tuple #[.agg #[.int .u64 0, .slice none 0 0], .int .i64 3]) (by simp [results, Try.results13, go_sem, e0, e1, hlr]) rfl ?_
            rw [HE.out]
            exact ⟨rfl, (HB7.out.setCell (by simp) _).setCell (by simp) _⟩
          | false =>
            by_cases hsl0 : sl = []
            · subst hsl0
              go_wp2_with (go_at_call 17; (with_reducible refine HRI.out.mono ?_); rintro e w7 ⟨rfl, hb7⟩; have HS7 := Lib.hid (HS.out.below hb7); have t0 := Ob.Obj.cell HS7.out.tk 0; have t1 := Ob.Obj.cell HS7.out.tk 1; have d0 := HS7.out.box.cell 0; have d1 := HS7.out.box.cell 1; have e0 := HS7.out.res.cell 0; have e1 := HS7.out.res.cell 1; have f0 := HS7.out.res.frozen 0; have f1 := HS7.out.res.frozen 1; have hlr := HS7.out.res.lt; have hlb := HS7.out.box.lt; simp at t0 t1 d0 d1 e0 e1; have HB7 := Lib.hid (HB.out.trans (hb7.mono hbs)))
              refine bodyPost_ret (v := .tuple #[.agg #[.int .u64 0, .slice none 0 0], .int .i64 3]) (by simp [results, Try.results13, go_sem, e0, e1, hlr]) rfl ?_
              rw [HE.out]
              exact ⟨rfl, (HB7.out.setCell (by simp) _).setCell (by simp) _⟩
            · have hse : (sl == []) = false := by simpa using hsl0
              have hse2 : sl.isEmpty = false := by simpa using hsl0
              clear hsl0
              go_wp2_with (go_at_call 17; (with_reducible refine HRI.out.mono ?_); rintro e w7 ⟨rfl, hb7⟩; have HS7 := Lib.hid (HS.out.below hb7); have t0 := Ob.Obj.cell HS7.out.tk 0; have t1 := Ob.Obj.cell HS7.out.tk 1; have d0 := HS7.out.box.cell 0; have d1 := HS7.out.box.cell 1; have e0 := HS7.out.res.cell 0; have e1 := HS7.out.res.cell 1; have f0 := HS7.out.res.frozen 0; have f1 := HS7.out.res.frozen 1; have hlr := HS7.out.res.lt; have hlb := HS7.out.box.lt; simp at t0 t1 d0 d1 e0 e1; have HB7 := Lib.hid (HB.out.trans (hb7.mono hbs)))
              refine bodyPost_ret (v := .tuple #[.agg #[.int .u64 0, .slice none 0 0], .int .i64 3]) (by simp [results, Try.results13, go_sem, e0, e1, hlr]) rfl ?_
              rw [HE.out]
              exact ⟨rfl, (HB7.out.setCell (by simp) _).setCell (by simp) _⟩
      | true =>
        have hRt := right_of hr
        rw [hr] at hRI
        have HRI := Lib.hid hRI
        clear hRI hr
        by_cases hlt : k < K
        · have hi1 : (k : Int) < (K : Int) := by omega
          obtain rfl := hgb hlt
          have HE := Lib.hid (hdx.trans (if_neg (fun h => by cases (congrArg (·.2) h.1))))
          clear hgb hdx
          go_wp2_with (go_at_call 17; (with_reducible refine HRI.out.mono ?_); rintro e w7 ⟨rfl, hb7⟩; have HS7 := Lib.hid (HS.out.below hb7); have t0 := Ob.Obj.cell HS7.out.tk 0; have t1 := Ob.Obj.cell HS7.out.tk 1; have d0 := HS7.out.box.cell 0; have d1 := HS7.out.box.cell 1; have e0 := HS7.out.res.cell 0; have e1 := HS7.out.res.cell 1; have f0 := HS7.out.res.frozen 0; have f1 := HS7.out.res.frozen 1; have hlr := HS7.out.res.lt; have hlb := HS7.out.box.lt; simp at t0 t1 d0 d1 e0 e1; have HB7 := Lib.hid (HB.out.trans (hb7.mono hbs)))
          refine bodyPost_ret (v := .tuple #[.agg #[.int .u64 0, .slice none 0 0], .int .i64 3]) (by simp [results, Try.results13, go_sem, e0, e1, hlr]) rfl ?_
          rw [HE.out]
          exact ⟨rfl, (HB7.out.setCell (by simp) _).setCell (by simp) _⟩
        · have hi1 : ¬ (k : Int) < (K : Int) := by omega
          clear hgb
          cases sb with
          | true =>
            have HE := Lib.hid (hdx.trans (if_neg (fun h => by cases (congrArg (·.2) h.1))))
            clear hdx
            go_wp2_with (go_at_call 17; (with_reducible refine HRI.out.mono ?_); rintro e w7 ⟨rfl, hb7⟩; have HS7 := Lib.hid (HS.out.below hb7); have t0 := Ob.Obj.cell HS7.out.tk 0; have t1 := Ob.Obj.cell HS7.out.tk 1; have d0 := HS7.out.box.cell 0; have d1 := HS7.out.box.cell 1; have e0 := HS7.out.res.cell 0; have e1 := HS7.out.res.cell 1; have f0 := HS7.out.res.frozen 0; have f1 := HS7.out.res.frozen 1; have hlr := HS7.out.res.lt; have hlb := HS7.out.box.lt; simp at t0 t1 d0 d1 e0 e1; have HB7 := Lib.hid (HB.out.trans (hb7.mono hbs)))
            refine bodyPost_ret (v := .tuple #[.agg #[.int .u64 0, .slice none 0 0], .int .i64 3]) (by simp [results, Try.results13, go_sem, e0, e1, hlr]) rfl ?_
            rw [HE.out]
            exact ⟨rfl, (HB7.out.setCell (by simp) _).setCell (by simp) _⟩
          | false =>
            by_cases hsl0 : sl = []
            · subst hsl0
              have HE := Lib.hid (hdx.trans (if_pos ⟨rfl, hRt⟩))
              clear hdx hRt
              go_wp2_with (go_at_call 17; (with_reducible refine HRI.out.mono ?_); rintro e w7 ⟨rfl, hb7⟩; have HS7 := Lib.hid (HS.out.below hb7); have t0 := Ob.Obj.cell HS7.out.tk 0; have t1 := Ob.Obj.cell HS7.out.tk 1; have d0 := HS7.out.box.cell 0; have d1 := HS7.out.box.cell 1; have e0 := HS7.out.res.cell 0; have e1 := HS7.out.res.cell 1; have f0 := HS7.out.res.frozen 0; have f1 := HS7.out.res.frozen 1; have hlr := HS7.out.res.lt; have hlb := HS7.out.box.lt; simp at t0 t1 d0 d1 e0 e1; have HB7 := Lib.hid (HB.out.trans (hb7.mono hbs)))
              refine bodyPost_ret (v := .tuple #[.agg #[.int .u64 (g : Int), .slice ao L.length cap], .int .i64 0]) (by simp [results, Try.results13, go_sem, e0, e1, hlr]) rfl ?_
              rw [HE.out]
              refine ⟨_, rfl, ?_, (HB7.out.setCell (by simp) _).setCell (by simp) _⟩
              exact Ob.row_other (Ob.row_other HS7.out.row (p := ⟨w.heap.size, 0, none⟩) (HS7.out.res.not_row (by decide) HS7.out.row) _) (p := ⟨w.heap.size, 1, none⟩) (HS7.out.res.not_row (by decide) HS7.out.row) _
            · have hse : (sl == []) = false := by simpa using hsl0
              have hse2 : sl.isEmpty = false := by simpa using hsl0
              have HE := Lib.hid (hdx.trans (if_neg (fun h => hsl0 (congrArg (·.1) h.1))))
              clear hdx hRt hsl0
              go_wp2_with (go_at_call 17; (with_reducible refine HRI.out.mono ?_); rintro e w7 ⟨rfl, hb7⟩; have HS7 := Lib.hid (HS.out.below hb7); have t0 := Ob.Obj.cell HS7.out.tk 0; have t1 := Ob.Obj.cell HS7.out.tk 1; have d0 := HS7.out.box.cell 0; have d1 := HS7.out.box.cell 1; have e0 := HS7.out.res.cell 0; have e1 := HS7.out.res.cell 1; have f0 := HS7.out.res.frozen 0; have f1 := HS7.out.res.frozen 1; have hlr := HS7.out.res.lt; have hlb := HS7.out.box.lt; simp at t0 t1 d0 d1 e0 e1; have HB7 := Lib.hid (HB.out.trans (hb7.mono hbs)))
              refine bodyPost_ret (v := .tuple #[.agg #[.int .u64 0, .slice none 0 0], .int .i64 3]) (by simp [results, Try.results13, go_sem, e0, e1, hlr]) rfl ?_
              rw [HE.out]
              exact ⟨rfl, (HB7.out.setCell (by simp) _).setCell (by simp) _⟩
end Wa
end Go.Proofs.Ytmfeeampbmandaa

/-
  The document's comparisons of puts and of batches (tapestryref05), of lists that read as the same.
-/
namespace Go.Proofs.Ytmfeeampbmandaa
open Go.RowKit
set_option linter.unusedSimpArgs false
set_option linter.unusedVariables false
namespace Wa
/-- a quiet call in a second quiet region -/
theorem quietN {P : Program} {f : FuncId} {args : Array Value} {w : World} {a n : Nat} {v : Value} (h : Calls P f args (w.drewN (a + n)) fun e w' => e = .returned v ∧ ∃ m, w' = (w.drewN (a + n)).drewN m) : Calls P f args (w.drewN (a + n)) fun e w' => e = .returned v ∧ ∃ m, w' = w.drewN (a + m) :=
  h.mono fun _ _ ⟨h1, m, h2⟩ => ⟨h1, n + m, by rw [h2, World.drewN_drewN, Nat.add_assoc]⟩
/-- batches in a row, in blocks below B, with the values of their puts -/
def Bats (B : Nat) (W : World) (v : Value) (LV : List (Bt × Value)) : Prop :=
  ∃ (a : Option Addr) (cap b off : Nat), v = .slice a LV.length cap ∧ (0 < LV.length → a = some ⟨b, off, none⟩ ∧ b < B) ∧ ∀ j (h : j < LV.length),
    W.cell? ⟨b, off + j * 2, none⟩ = some (.int .u64 LV[j].1.1) ∧ W.cell? ⟨b, off + j * 2 + 1, none⟩ = some LV[j].2 ∧ Puts B W LV[j].2 LV[j].1.2.1
theorem Bats.below {B : Nat} {W W' : World} {v : Value} {LV : List (Bt × Value)} (h : Bats B W v LV) (hb : Below B W W') : Bats B W' v LV := by
  obtain ⟨a, cap, b, off, h1, h2, h3⟩ := h
  refine ⟨a, cap, b, off, h1, h2, fun j hj => ?_⟩
  have hl := (h2 (by omega)).2
  obtain ⟨g1, g2, g3⟩ := h3 j hj
  exact ⟨(hb.cell (p := ⟨b, off + j * 2, none⟩) hl).trans g1, (hb.cell (p := ⟨b, off + j * 2 + 1, none⟩) hl).trans g2, g3.below hb⟩
theorem Bats.grow {B B' : Nat} {W W' : World} {v : Value} {LV : List (Bt × Value)} (h : Bats B W v LV) (hb : Below B W W') (hB : B ≤ B') : Bats B' W' v LV := by
  obtain ⟨a, cap, b, off, h1, h2, h3⟩ := h.below hb
  refine ⟨a, cap, b, off, h1, fun h => ⟨(h2 h).1, Nat.lt_of_lt_of_le (h2 h).2 hB⟩, fun j hj => ?_⟩
  obtain ⟨g1, g2, g3⟩ := h3 j hj
  exact ⟨g1, g2, g3.grow (Below.refl _ _) hB⟩

set_option maxRecDepth 100000 in
set_option maxHeartbeats 4000000 in
theorem samePuts_any (v1 v2 : Value) (L : List Pt) (B : Nat) (w : World) (h1 : Puts B w v1 L) (h2 : Puts B w v2 L) (hL : L.length ≤ 140737488351232) :
    Calls Try.prog 11 #[v1, v2] w fun e w' => e = .returned (.bool true) ∧ ∃ n, w' = w.drewN n := by
  obtain ⟨a1, cap1, b1, o1, rfl, ha1, hc1⟩ := h1
  obtain ⟨a2, cap2, b2, o2, rfl, ha2, hc2⟩ := h2
  have H1 := Lib.hid hc1
  have H2 := Lib.hid hc2
  clear hc1 hc2
  go_enter Try.func11, Try.ntmps11
  go_wp2_with fail
  go_loopw [5] (fun i wr => ∃ q n : Nat, q ≤ L.length ∧ i = .int .i64 (q : Int) ∧ wr = w.drewN n) (fun i _ => L.length - (intOf i).toNat)
  case atStart => exact ⟨0, 0, Nat.zero_le _, rfl, rfl⟩
  case round =>
    obtain ⟨q, n, hq, rfl, rfl⟩ := hrel
    by_cases hlt : q < L.length
    · obtain ⟨rfl, _⟩ := ha1 (by omega)
      obtain ⟨rfl, _⟩ := ha2 (by omega)
      obtain ⟨x0, x1, x2⟩ := H1.out q hlt
      obtain ⟨y0, y1, y2⟩ := H2.out q hlt
      have hi1 : (0 : Int) ≤ (q : Int) ∧ (q : Int) < (L.length : Int) := by omega
      generalize L[q] = p at *
      obtain ⟨k, vl, d, _⟩ := p
      simp only at x0 x1 x2 y0 y1 y2
      cases d <;>
      · go_wp2_with fail
        go_big_quiet (fail)
        go_wp2_with fail
        go_roundw
        case rel => exact ⟨q + 1, _, by omega, by go_num, rfl⟩
        case measure => simp [intOf]; omega
    · obtain rfl : q = L.length := by omega
      go_wp2_with fail
      go_ret
      exact ⟨rfl, n, rfl⟩

set_option maxRecDepth 100000 in
set_option maxHeartbeats 4000000 in
theorem sameBatches_any (v1 v2 : Value) (V1 V2 : List (Bt × Value)) (B : Nat) (w : World) (h1 : Bats B w v1 V1) (h2 : Bats B w v2 V2) (hV : V1.map (·.1) = V2.map (·.1)) (hL : V1.length ≤ 140737488351232) (hP : ∀ x ∈ V1, x.1.2.1.length ≤ 140737488351232) :
    Calls Try.prog 16 #[v1, v2] w fun e w' => e = .returned (.bool true) ∧ ∃ n, w' = w.drewN n := by
  obtain ⟨a1, cap1, b1, o1, rfl, ha1, hc1⟩ := h1
  obtain ⟨a2, cap2, b2, o2, rfl, ha2, hc2⟩ := h2
  have hlen : V2.length = V1.length := by have := congrArg List.length hV; simpa using this.symm
  have hget : ∀ (q : Nat) (h : q < V1.length) (h' : q < V2.length), V2[q].1 = V1[q].1 := fun q h h' => by
    have e1 : (V1.map (·.1))[q]? = some V1[q].1 := by simp [h]
    have e2 : (V2.map (·.1))[q]? = some V2[q].1 := by simp [h']
    rw [hV, e2] at e1
    exact Option.some.inj e1
  have H1 := Lib.hid hc1
  have H2 := Lib.hid (fun (q : Nat) (h : q < V1.length) => hc2 q (by omega))
  have HG := Lib.hid (fun (q : Nat) (h : q < V1.length) => hget q h (by omega))
  have HAA := Lib.hid (fun (h : 0 < V1.length) => ha2 (by omega))
  rw [hlen]
  clear hc1 hc2 hget hV
  go_enter Try.func16, Try.ntmps16
  go_wp2_with fail
  go_loopw [5] (fun i wr => ∃ q n : Nat, q ≤ V1.length ∧ i = .int .i64 (q : Int) ∧ wr = w.drewN n) (fun i _ => V1.length - (intOf i).toNat)
  case atStart => exact ⟨0, 0, Nat.zero_le _, rfl, rfl⟩
  case round =>
    obtain ⟨q, n, hq, rfl, rfl⟩ := hrel
    by_cases hlt : q < V1.length
    · obtain ⟨rfl, _⟩ := ha1 (by omega)
      obtain ⟨rfl, _⟩ := HAA.out (by omega)
      obtain ⟨x0, x1, x2⟩ := H1.out q hlt
      obtain ⟨y0, y1, y2⟩ := H2.out q hlt
      have hg := HG.out q hlt
      have hpq := hP V1[q] (List.getElem_mem hlt)
      have hi1 : (0 : Int) ≤ (q : Int) ∧ (q : Int) < (V1.length : Int) := by omega
      generalize hy : V2[q]'(by omega) = yy at *
      obtain ⟨yb, yv⟩ := yy
      simp only at hg y0 y1 y2
      subst hg
      generalize V1[q] = xx at *
      obtain ⟨⟨sq, pu, _⟩, xv⟩ := xx
      simp only at x0 x1 x2 y0 y1 y2 hpq
      have HSP := Lib.hid (fun m => samePuts_any xv yv pu B (w.drewN m) (x2.below (belowN (Below.refl _ _) m)) (y2.below (belowN (Below.refl _ _) m)) hpq)
      clear x2 y2 hy
      go_wp2_with fail
      go_big_quiet ((go_at_call 11; exact quietN (HSP.out _)))
      go_wp2_with fail
      go_big_quiet (fail)
      go_wp2_with fail
      go_roundw
      case rel => exact ⟨q + 1, _, by omega, by go_num, rfl⟩
      case measure => simp [intOf]; omega
    · obtain rfl : q = V1.length := by omega
      go_wp2_with fail
      go_ret
      exact ⟨rfl, n, rfl⟩
end Wa
end Go.Proofs.Ytmfeeampbmandaa

/-
  Plain mathematics of going through frames: each with the place behind it, each with its place.
-/
namespace Go.Proofs.Ytmfeeampbmandaa
namespace Fr

abbrev Fm := UInt8 × List UInt8
/-- the frames from a place on, each with the place behind it -/
def endsGo (l : List UInt8) (p : Nat) : List (Nat × Fm) :=
  if _h : p < l.length ∧ (take (l.drop p)).2.2 = 0 ∧ 0 < (take (l.drop p)).2.1 then
    (p + (take (l.drop p)).2.1, (take (l.drop p)).1) :: endsGo l (p + (take (l.drop p)).2.1)
  else []
termination_by l.length - p
decreasing_by all_goals omega
theorem endsGo_stop {l : List UInt8} {p : Nat} (h : ¬ (p < l.length ∧ (take (l.drop p)).2.2 = 0 ∧ 0 < (take (l.drop p)).2.1)) : endsGo l p = [] := by rw [endsGo]; rw [dif_neg h]
theorem endsGo_more {l : List UInt8} {p : Nat} (h : p < l.length ∧ (take (l.drop p)).2.2 = 0 ∧ 0 < (take (l.drop p)).2.1) :
    endsGo l p = (p + (take (l.drop p)).2.1, (take (l.drop p)).1) :: endsGo l (p + (take (l.drop p)).2.1) := by
  conv => lhs; rw [endsGo]
  rw [dif_pos h]
def shift : Nat → List (Nat × Fm) → List (Nat × Fm)
  | _, [] => []
  | p, x :: r => (p, x.2) :: shift x.1 r
def lastEnd : Nat → List (Nat × Fm) → Nat
  | p, [] => p
  | _, x :: r => lastEnd x.1 r
theorem shift_app (a b : List (Nat × Fm)) : ∀ p, shift p (a ++ b) = shift p a ++ shift (lastEnd p a) b := by
  induction a with
  | nil => intro p; rfl
  | cons x r ih => intro p; simp [shift, lastEnd, ih]
theorem lastEnd_app (a b : List (Nat × Fm)) : ∀ p, lastEnd p (a ++ b) = lastEnd (lastEnd p a) b := by
  induction a with
  | nil => intro p; rfl
  | cons x r ih => intro p; simp [lastEnd, ih]
theorem shift_snoc (p : Nat) (a : List (Nat × Fm)) (x : Nat × Fm) : shift p (a ++ [x]) = shift p a ++ [(lastEnd p a, x.2)] := by rw [shift_app]; rfl
theorem lastEnd_snoc (p : Nat) (a : List (Nat × Fm)) (x : Nat × Fm) : lastEnd p (a ++ [x]) = x.1 := by rw [lastEnd_app]; rfl
theorem shift_len (a : List (Nat × Fm)) : ∀ p, (shift p a).length = a.length := by
  induction a with
  | nil => intro p; rfl
  | cons x r ih => intro p; simp [shift, ih]
theorem allGo_shift (l : List UInt8) (p : Nat) : allGo l p = (shift p (endsGo l p), lastEnd p (endsGo l p)) := by
  by_cases h : p < l.length ∧ (take (l.drop p)).2.2 = 0 ∧ 0 < (take (l.drop p)).2.1
  · rw [allGo_more h, endsGo_more h, allGo_shift l (p + (take (l.drop p)).2.1)]; rfl
  · rw [allGo_stop h, endsGo_stop h]; rfl
termination_by l.length - p
decreasing_by all_goals omega
theorem take_load (l : List UInt8) : (take l).1.2.length ≤ 262144 := by
  obtain ⟨q1, q2, q3⟩ := takeT_len (l.drop 5) 262144
  unfold take
  split
  · simp
  · split
    · simp
    · split
      · simp
      · rename_i h
        split
        · simp
        · exact q2 (by simpa using h)
theorem endsGo_in (l : List UInt8) (p : Nat) : ∀ x ∈ endsGo l p, x.1 ≤ l.length ∧ x.2.2.length ≤ 262144 := by
  by_cases h : p < l.length ∧ (take (l.drop p)).2.2 = 0 ∧ 0 < (take (l.drop p)).2.1
  · rw [endsGo_more h]
    intro x hx
    rcases List.mem_cons.1 hx with e | hx
    · subst e
      have := (take_len (l.drop p)).1
      rw [List.length_drop] at this
      exact ⟨by simp only; omega, take_load _⟩
    · exact endsGo_in l _ x hx
  · rw [endsGo_stop h]; simp
termination_by l.length - p
decreasing_by all_goals omega
theorem lastEnd_le (N : Nat) : ∀ (a : List (Nat × Fm)) (p : Nat), p ≤ N → (∀ x ∈ a, x.1 ≤ N) → lastEnd p a ≤ N
  | [], _, h, _ => h
  | x :: r, _, _, hx => lastEnd_le N r x.1 (hx x (List.mem_cons_self ..)) (fun y hy => hx y (List.mem_cons_of_mem _ hy))
theorem shift_pre {pre L : List (Nat × Fm)} (p : Nat) (h : pre <+: L) : shift p pre <+: shift p L := by
  obtain ⟨r, rfl⟩ := h; exact ⟨_, (shift_app _ _ _).symm⟩
theorem shift_in (N : Nat) : ∀ (a : List (Nat × Fm)) (p : Nat), p ≤ N → (∀ x ∈ a, x.1 ≤ N ∧ x.2.2.length ≤ 262144) → ∀ x ∈ shift p a, x.1 ≤ N ∧ x.2.2.length ≤ 262144
  | [], _, _, _, _, h => by simp [shift] at h
  | y :: r, p, hp, ha, x, hx => by
    simp only [shift, List.mem_cons] at hx
    rcases hx with rfl | hx
    · exact ⟨hp, (ha y (List.mem_cons_self ..)).2⟩
    · exact shift_in N r y.1 (ha y (List.mem_cons_self ..)).1 (fun z hz => ha z (List.mem_cons_of_mem _ hz)) x hx
end Fr
end Go.Proofs.Ytmfeeampbmandaa

/-
  Plain mathematics of P5.5: the frames that are gone through, one by one. No program is named here.
-/
namespace Go.Proofs.Ytmfeeampbmandaa
namespace Wa
theorem repGo_stop {x : Nat × (UInt8 × List UInt8)} {r : List (Nat × (UInt8 × List UInt8))} {q : Int} {E : Nat} (h : (if x.2.1 = 2 then decode x.2.2 else none) = none ∨ ∃ b, (if x.2.1 = 2 then decode x.2.2 else none) = some b ∧ ¬ q < b.1) : repGo (x :: r) q E = ([], x.1) := by
  rw [repGo]
  rcases h with h | ⟨b, h, hb⟩
  · rw [h]
  · rw [h]; simp only; rw [if_neg hb]
theorem repGo_more {x : Nat × (UInt8 × List UInt8)} {r : List (Nat × (UInt8 × List UInt8))} {q : Int} {E : Nat} {b : Bt} (h : (if x.2.1 = 2 then decode x.2.2 else none) = some b) (hb : q < b.1) : repGo (x :: r) q E = (b :: (repGo r (last b) E).1, (repGo r (last b) E).2) := by
  rw [repGo, h]; simp only; rw [if_pos hb]

theorem allGo_facts (l : List UInt8) (p : Nat) (hp : p ≤ l.length) : (Fr.allGo l p).1.length + p ≤ l.length ∧ (∀ x ∈ (Fr.allGo l p).1, x.2.2.length ≤ 262144 ∧ x.1 ≤ l.length) ∧ (Fr.allGo l p).2 ≤ l.length := by
  by_cases h : p < l.length ∧ (Fr.take (l.drop p)).2.2 = 0 ∧ 0 < (Fr.take (l.drop p)).2.1
  · have hl := (Fr.take_len (l.drop p)).1
    rw [List.length_drop] at hl
    have ih := allGo_facts l (p + (Fr.take (l.drop p)).2.1) (by omega)
    rw [Fr.allGo_more h]
    refine ⟨?_, fun x hx => ?_, ih.2.2⟩
    · have := ih.1
      have := h.2.2
      simp only [List.length_cons]; omega
    · rcases List.mem_cons.1 hx with rfl | hx
      · exact ⟨Fr.take_load _, hp⟩
      · exact ih.2.1 x hx
  · rw [Fr.allGo_stop h]
    exact ⟨by simpa using hp, fun x hx => (by cases hx), hp⟩
termination_by l.length - p
decreasing_by omega

theorem repGo_in : ∀ (F : List (Nat × (UInt8 × List UInt8))) (q : Int) (E : Nat), (repGo F q E).1.length ≤ F.length ∧ (∀ b ∈ (repGo F q E).1, b.2.1.length ≤ 256)
  | [], q, E => ⟨Nat.le_refl _, fun b hb => (by cases hb)⟩
  | x :: r, q, E => by
    cases hd : (if x.2.1 = 2 then decode x.2.2 else none) with
    | none => rw [repGo_stop (.inl hd)]; exact ⟨Nat.zero_le _, fun b hb => (by cases hb)⟩
    | some b =>
      by_cases hq : q < b.1
      · rw [repGo_more hd hq]
        have ih := repGo_in r (last b) E
        refine ⟨by simp only [List.length_cons]; omega, fun c hc => ?_⟩
        rcases List.mem_cons.1 hc with rfl | hc
        · split at hd
          · exact (check_ok (decode_iff.1 hd).1.1).1
          · cases hd
        · exact ih.2 c hc
      · rw [repGo_stop (.inr ⟨b, hd, hq⟩)]; exact ⟨Nat.zero_le _, fun b hb => (by cases hb)⟩
theorem replay_in (l : List UInt8) (hl : l.length ≤ 1048576) : (replay l).1.length ≤ 1048576 ∧ ∀ b ∈ (replay l).1, b.2.1.length ≤ 256 := by
  have h1 := repGo_in (Fr.all l).1 0 (Fr.all l).2
  have h2 := (allGo_facts l 0 (Nat.zero_le _)).1
  rw [show Fr.allGo l 0 = Fr.all l from rfl] at h2
  exact ⟨Nat.le_trans h1.1 (by omega), h1.2⟩

end Wa
end Go.Proofs.Ytmfeeampbmandaa

/-
  The document's answers on batches (tapestryref05): Replay.
-/
namespace Go.Proofs.Ytmfeeampbmandaa
open Go.RowKit
set_option linter.unusedSimpArgs false
set_option linter.unusedVariables false
theorem info_Batch : (Try.prog.info? 25).map (fun i => (i.zero, i.size, i.bytes)) = some (some (.agg #[.int .u64 0, .slice none 0 0]), 2, 32) := by kernel_rfl
theorem cell_two_new (w : World) (a b : Value) (t : TypeId) : ∀ j u, [a, b][j]? = some u → (w.alloc (.cells #[a, b] t)).cell? ((⟨w.heap.size, 0, none⟩ : Addr).add j) = some u := by
  intro j u hj
  match j, hj with
  | 0, hj => simp at hj; subst hj; simp [Addr.add]
  | 1, hj => simp at hj; subst hj; simp [Addr.add]
  | (j + 2), hj => simp at hj
namespace Wa
def bCells (LV : List (Bt × Value)) : List Value := (LV.map fun x => [Value.int .u64 x.1.1, x.2]).flatten
theorem bCells_snoc (LV : List (Bt × Value)) (x : Bt × Value) : bCells (LV ++ [x]) = bCells LV ++ [.int .u64 x.1.1, x.2] := by simp [bCells]
theorem bCells_get : ∀ (L : List (Bt × Value)) (j : Nat) (h : j < L.length), (bCells L)[j * 2]? = some (.int .u64 L[j].1.1) ∧ (bCells L)[j * 2 + 1]? = some L[j].2
  | [], j, h => by simp at h
  | x :: r, 0, h => by simp [bCells]
  | x :: r, j + 1, h => by
    have ih := bCells_get r j (by simpa using h)
    have e : bCells (x :: r) = [.int .u64 x.1.1, x.2] ++ bCells r := by simp [bCells]
    rw [e]
    refine ⟨?_, ?_⟩
    · rw [List.getElem?_append_right (by simp; omega), show (j + 1) * 2 - _ = j * 2 by simp; omega]; simpa using ih.1
    · rw [List.getElem?_append_right (by simp; omega), show (j + 1) * 2 + 1 - _ = j * 2 + 1 by simp; omega]; simpa using ih.2
/-- batches in a row of one's own, each with its puts in a row -/
structure OwnB (B : Nat) (W : World) (v : Value) (LV : List (Bt × Value)) : Prop where
  row : W.ownsRow B 25 2 v LV.length (bCells LV)
  puts : ∀ x ∈ LV, OwnP B W x.2 x.1.2.1
theorem OwnB.bats {B : Nat} {W : World} {v : Value} {LV : List (Bt × Value)} (h : OwnB B W v LV) : Bats W.heap.size W v LV := by
  obtain ⟨ao, cap, rfl, hg⟩ := Sq.row_cases h.row
  by_cases h0 : 0 < LV.length
  · obtain ⟨g, rfl, h1, h2⟩ := hg h0
    refine ⟨_, cap, g, 0, rfl, fun _ => ⟨rfl, h2⟩, fun j hj => ?_⟩
    obtain ⟨g1, g2⟩ := bCells_get LV j hj
    rw [Nat.zero_add]
    exact ⟨(World.ownsRow.cellAt h.row (j * 2) (by omega)).trans g1, (World.ownsRow.cellAt h.row (j * 2 + 1) (by omega)).trans g2, (h.puts _ (List.getElem_mem hj)).puts⟩
  · exact ⟨ao, cap, 0, 0, rfl, fun h => absurd h h0, fun j hj => by omega⟩
theorem OwnP.lower {B B' : Nat} {W : World} {v : Value} {L : List Pt} (h : OwnP B W v L) (hB : B' ≤ B) : OwnP B' W v L := Gn.row_lower h hB
theorem OwnB.lower {B B' : Nat} {W : World} {v : Value} {LV : List (Bt × Value)} (h : OwnB B W v LV) (hB : B' ≤ B) : OwnB B' W v LV := ⟨Gn.row_lower h.row hB, fun x hx => (h.puts x hx).lower hB⟩
theorem OwnB.below {B : Nat} {W W' : World} {v : Value} {LV : List (Bt × Value)} (h : OwnB B W v LV) (hb : Below W.heap.size W W') : OwnB B W' v LV := ⟨own_below h.row hb, fun x hx => own_below (h.puts x hx) hb⟩
theorem OwnB.appended {B : Nat} {W W2 : World} {v v2 : Value} {LV : List (Bt × Value)} (h : OwnB B W v LV) (b : Bt) (pv : Value) (hp : OwnP B W pv b.2.1)
    (hown : W2.ownsRow B 25 2 v2 (LV.length + 1) (bCells LV ++ [.int .u64 b.1, pv])) (hg : W.grownBy W2 v.ownBlock) : OwnB B W2 v2 (LV ++ [(b, pv)]) := by
  have hput : ∀ u L, OwnP B W u L → OwnP B W2 u L := fun u L hu =>
    Sq.row_kept (T := fun k => u.ownBlock = some k) hu (Sq.Kept.grown hg (fun r hr hn => Ob.rows_apart hu h.row (by decide) r hn hr)) (fun _ hk => hk)
  refine ⟨?_, fun x hx => ?_⟩
  · rw [bCells_snoc, List.length_append, List.length_singleton]; exact hown
  · rcases List.mem_append.1 hx with hx | hx
    · exact hput _ _ (h.puts x hx)
    · simp only [List.mem_singleton] at hx; subst hx; exact hput _ _ hp
/-- what Replay leaves -/
def RepOut (r : List Bt × Nat) (w : World) (e : Ending) (w' : World) : Prop :=
  ∃ v LV, e = .returned (.tuple #[v, .int .i64 (r.2 : Int)]) ∧ OwnB w.heap.size w' v LV ∧ LV.map (·.1) = r.1 ∧ Below w.heap.size w w'
theorem atCells_get : ∀ (L : List (Nat × (UInt8 × List UInt8))) (j : Nat) (h : j < L.length), (atCells L)[j * 3]? = some (.int .i64 (L[j].1 : Int)) ∧ (atCells L)[j * 3 + 1]? = some (.int .u8 (L[j].2.1.toNat : Int)) ∧ (atCells L)[j * 3 + 2]? = some (.string (Cd.bs L[j].2.2))
  | [], j, h => by simp at h
  | x :: r, 0, h => by simp [atCells]
  | x :: r, j + 1, h => by
    have ih := atCells_get r j (by simpa using h)
    have e : atCells (x :: r) = [.int .i64 (x.1 : Int), .int .u8 (x.2.1.toNat : Int), .string (Cd.bs x.2.2)] ++ atCells r := by simp [atCells]
    rw [e]
    refine ⟨?_, ?_, ?_⟩
    · rw [List.getElem?_append_right (by simp; omega), show (j + 1) * 3 - _ = j * 3 by simp; omega]; simpa using ih.1
    · rw [List.getElem?_append_right (by simp; omega), show (j + 1) * 3 + 1 - _ = j * 3 + 1 by simp; omega]; simpa using ih.2.1
    · rw [List.getElem?_append_right (by simp; omega), show (j + 1) * 3 + 2 - _ = j * 3 + 2 by simp; omega]; simpa using ih.2.2
set_option maxRecDepth 100000 in
set_option maxHeartbeats 8000000 in
theorem replayR_any (l : List UInt8) (w : World) (hl : l.length ≤ 1048576) :
    Calls Try.prog 15 #[.string (Cd.bs l)] w (RepOut (replay l) w) := by
  obtain ⟨i0, hi, hz0, hz1, hz2⟩ := info_parts info_Batch
  have HALL := Lib.hid (fun W => frameAllr_any l W hl)
  have hrep : replay l = repGo (Fr.all l).1 0 (Fr.all l).2 := rfl
  have hfacts := allGo_facts l 0 (Nat.zero_le _)
  rw [show Fr.allGo l 0 = Fr.all l from rfl] at hfacts
  generalize Fr.all l = fa at *
  obtain ⟨F, E⟩ := fa
  simp only at hrep hfacts
  obtain ⟨hlen, hld, hE⟩ := hfacts
  have HREP := Lib.hid hrep
  have HLD := Lib.hid hld
  clear hrep hld
  go_enter Try.func15, Try.ntmps15
  go_wp2_with (go_at_call 32; (with_reducible refine (HALL.out _).mono ?_); rintro e w1 ⟨fv, rfl, hF, hb1⟩; obtain ⟨fa, fcap, rfl, hg0⟩ := Sq.row_cases hF)
  have HF := Lib.hid hF
  clear hF HALL
  have hw1 : w.heap.size ≤ w1.heap.size := hb1.size
  go_loopw [4, 7, 8] (fun v sq i wr => ∃ (k : Nat) (q : Int) (LV : List (Bt × Value)), k ≤ F.length ∧ i = .int .i64 (k : Int) ∧ sq = .int .u64 q ∧ (0 ≤ q ∧ q ≤ 1125899906842624) ∧ OwnB w1.heap.size wr v LV ∧ LV.length ≤ k ∧ Below w1.heap.size w1 wr ∧ Hid (repGo F 0 E = (LV.map (·.1) ++ (repGo (F.drop k) q E).1, (repGo (F.drop k) q E).2))) (fun _ _ i _ => F.length - (intOf i).toNat)
  case atStart => exact ⟨0, 0, [], Nat.zero_le _, rfl, rfl, ⟨Int.le_refl _, by omega⟩, ⟨World.ownsRow_nil _ _ _ _, fun x hx => (by cases hx)⟩, Nat.le_refl _, Below.refl _ _, by exact rfl⟩
  case round =>
    obtain ⟨k, q, LV, hk, rfl, rfl, ⟨hq0, hq1⟩, hOB, hLk, hB, hgo⟩ := hrel
    obtain ⟨oa, ocap, rfl, _⟩ := Sq.row_cases hOB.row
    have hbs := hB.size
    have hBw : Below w.heap.size w wr := hb1.trans (hB.mono hw1)
    by_cases hlt : k < F.length
    · obtain ⟨fg, rfl, hfg, hfl⟩ := hg0 (by omega)
      obtain ⟨d0, d1, d2⟩ := atCells_get F k hlt
      have E0 := Lib.hid (fun W (h : Below w1.heap.size w1 W) => (h.cell (p := ⟨fg, k * 3, none⟩) hfl).trans ((World.ownsRow.cellAt HF.out (k * 3) (by omega)).trans d0))
      have E1 := Lib.hid (fun W (h : Below w1.heap.size w1 W) => (h.cell (p := ⟨fg, k * 3 + 1, none⟩) hfl).trans ((World.ownsRow.cellAt HF.out (k * 3 + 1) (by omega)).trans d1))
      have e2 := (hB.cell (p := ⟨fg, k * 3 + 2, none⟩) hfl).trans ((World.ownsRow.cellAt HF.out (k * 3 + 2) (by omega)).trans d2)
      obtain ⟨hll, hpp⟩ := HLD.out F[k] (List.getElem_mem hlt)
      have hdr := List.drop_eq_getElem_cons hlt
      have HGO := Lib.hid (show repGo F 0 E = (LV.map (·.1) ++ (repGo (F[k] :: F.drop (k + 1)) q E).1, (repGo (F[k] :: F.drop (k + 1)) q E).2) by rw [hgo.out, hdr])
      have hi1 : (0 : Int) ≤ (k : Int) ∧ (k : Int) < (F.length : Int) := by omega
      clear d0 d1 d2 hdr hgo
      generalize F[k] = x at *
      obtain ⟨pl, kd, ld⟩ := x
      simp only at hll hpp
      have HDC := Lib.hid (fun W => decodeR5_any ld W (by omega))
      have hfw : fg < wr.heap.size := by omega
      have hstop : (if kd = 2 then decode ld else none) = none ∨ (∃ b, (if kd = 2 then decode ld else none) = some b ∧ ¬ q < b.1) → replay l = (LV.map (·.1), pl) := fun h => by
        rw [HREP.out, HGO.out, repGo_stop h, List.append_nil]
      cases hd : decode ld with
      | none =>
        have HE := Lib.hid (hstop (.inl (by rw [hd]; split <;> rfl)))
        have HD0 := Lib.hid (fun W => show Calls Try.prog 13 #[.string (Cd.bs ld)] W fun e w' => e = .returned (.tuple #[.agg #[.int .u64 0, .slice none 0 0], .int .i64 3]) ∧ Below W.heap.size W w' from by have := decodeR5_any ld W (by omega); rw [hd] at this; exact this)
        clear hstop hd HDC
        by_cases hk2 : kd.toNat = 2
        · have hkb : (((kd.toNat : Nat) : Int) != 2) = false := by simp; omega
          have hkb2 : (((kd.toNat : Nat) : Int) == 2) = true := by simp; omega
          clear hk2
          go_wp2_with (go_at_call 13; (with_reducible refine (HD0.out _).mono ?_); rintro e w2 ⟨rfl, hb2⟩; have hB2 := hB.trans (hb2.mono hbs); have e02 := E0.out w2 hB2; have e12 := E1.out w2 hB2; have hf2 : fg < w2.heap.size := Nat.lt_of_lt_of_le hfw hb2.size; have HOB2 := Lib.hid (hOB.below hb2))
          go_big_quiet (fail)
          go_wp2_with fail
          refine bodyPost_ret (results_tmp2 rfl _ _ _) rfl ?_
          rw [HE.out]
          exact ⟨_, LV, rfl, ((HOB2.out.below ((Below.refl _ _).alloc (Nat.le_refl _) (.cells #[.int .u64 0, .slice none 0 0] 25))).below (belowN (Below.refl _ _) _)).lower hw1, rfl, belowN ((hb1.trans (hB2.mono hw1)).alloc (Nat.le_trans hBw.size hb2.size) (.cells #[.int .u64 0, .slice none 0 0] 25)) _⟩
        · have hkb : (((kd.toNat : Nat) : Int) != 2) = true := by simp; omega
          have hkb2 : (((kd.toNat : Nat) : Int) == 2) = false := by simp; omega
          clear hk2
          go_wp2_with (go_at_call 13; (with_reducible refine (HD0.out _).mono ?_); rintro e w2 ⟨rfl, hb2⟩; have hB2 := hB.trans (hb2.mono hbs); have e02 := E0.out w2 hB2; have e12 := E1.out w2 hB2; have hf2 : fg < w2.heap.size := Nat.lt_of_lt_of_le hfw hb2.size; have HOB2 := Lib.hid (hOB.below hb2))
          go_big_quiet (fail)
          go_wp2_with fail
          refine bodyPost_ret (results_tmp2 rfl _ _ _) rfl ?_
          rw [HE.out]
          exact ⟨_, LV, rfl, ((HOB2.out.below ((Below.refl _ _).alloc (Nat.le_refl _) (.cells #[.int .u64 0, .slice none 0 0] 25))).below (belowN (Below.refl _ _) _)).lower hw1, rfl, belowN ((hb1.trans (hB2.mono hw1)).alloc (Nat.le_trans hBw.size hb2.size) (.cells #[.int .u64 0, .slice none 0 0] 25)) _⟩
      | some b =>
        have hRt := (decode_iff.1 hd).1
        have HD1 := Lib.hid (fun W => show Calls Try.prog 13 #[.string (Cd.bs ld)] W fun e w' => ∃ v, e = .returned (.tuple #[.agg #[.int .u64 b.1, v], .int .i64 0]) ∧ OwnP W.heap.size w' v b.2.1 ∧ Below W.heap.size W w' from by have := decodeR5_any ld W (by omega); rw [hd] at this; exact this)
        obtain ⟨bs, bp, _⟩ := b
        simp only at HD1
        have hlast : last (bs, bp, ()) = bs + bp.length - 1 := rfl
        obtain ⟨r1, r2, r3, r4, r5⟩ := hRt
        simp only at r1 r2 r3 r4 r5
        have hM : (MaxSeq : Nat) = 1125899906842624 := rfl
        have hRt2 : Right (bs, bp, ()) := ⟨r1, r2, r3, r4, r5⟩
        have hq2 : 0 ≤ bs + bp.length - 1 ∧ bs + bp.length - 1 ≤ 1125899906842624 := by omega
        clear HDC r1 r2 r5
        by_cases hk2 : kd.toNat = 2
        · have hkd : kd = 2 := by apply UInt8.toNat_inj.1; simpa using hk2
          have hkb : (((kd.toNat : Nat) : Int) != 2) = false := by simp; omega
          have hkb2 : (((kd.toNat : Nat) : Int) == 2) = true := by simp; omega
          by_cases hqs : q < bs
          · have HNX := Lib.hid (show repGo F 0 E = ((LV ++ [((bs, bp, ()), Value.pointer none)]).map (·.1) ++ (repGo (F.drop (k + 1)) (bs + bp.length - 1) E).1, (repGo (F.drop (k + 1)) (bs + bp.length - 1) E).2) by
              rw [HGO.out, repGo_more (b := (bs, bp, ())) (by simp only; rw [if_pos hkd, hd]) hqs, hlast, List.map_append, List.append_assoc]; rfl)
            have hqi : ¬ bs ≤ q := by omega
            clear hstop hd hk2 hkd hlast hM
            go_wp2_with (first
              | (go_at_call 13; (with_reducible refine (HD1.out _).mono ?_); rintro e w2 ⟨pv, rfl, hOP, hb2⟩; have hB2 := hB.trans (hb2.mono hbs); have e02 := E0.out w2 hB2; have e12 := E1.out w2 hB2; have hf2 : fg < w2.heap.size := Nat.lt_of_lt_of_le hfw hb2.size; have HOB2 := Lib.hid (hOB.below hb2); obtain ⟨pa, pcap, rfl, _⟩ := Sq.row_cases hOP; have HOP := Lib.hid (hOP.lower (Nat.le_trans (show w1.heap.size ≤ wr.heap.size from hbs) (Nat.le_refl _))); clear hOP; have HBX := Lib.hid (Ob.Obj.new w2 25 [.int .u64 bs, .slice pa bp.length pcap]); have HLS := Lib.hid (fun W => lastR_any bs bp (.slice pa bp.length pcap) W ⟨_, _, rfl⟩ hRt2))
              | (go_at_call 18; (with_reducible refine (HLS.out _).mono ?_); rintro e w3 ⟨rfl, hb3⟩; have hX3 := HBX.out.below hb3; have x0 := hX3.cell 0; have x1 := hX3.cell 1; have hx3 := hX3.lt; simp at x0 x1; clear hX3; have HOB3 := Lib.hid ((HOB2.out.below ((Below.refl _ _).alloc (Nat.le_refl _) (.cells #[.int .u64 bs, .slice pa bp.length pcap] 25))).below hb3); have HOP3 := Lib.hid (own_below (own_below HOP.out ((Below.refl _ _).alloc (Nat.le_refl _) (.cells #[.int .u64 bs, .slice pa bp.length pcap] 25))) hb3); have HB3 := Lib.hid ((hB2.alloc (Nat.le_trans hbs hb2.size) (.cells #[.int .u64 bs, .slice pa bp.length pcap] 25)).trans (hb3.mono (by have := hb2.size; simp; omega))))
              | (at_builtin; refine wpList_append_own _ rfl _ _ 35 rfl w1.heap.size 25 i0 (.agg #[.int .u64 0, .slice none 0 0]) 2 32 Try.underlying35 hi hz0 hz1 hz2 rfl (by decide) _ _ _ rfl (HOB3.out.row.alloc _) ⟨w3.heap.size, 0, none⟩ 1 1 [_, _] rfl rfl (by simpa using cell_two_new w3 _ _ _) (by simp [Value.oneCell']) (by unfold maxLen; omega) (by omega) (by have := HB3.out.size; simp; omega) ?_; intro v' w4 hown4 hgrow4 _; have HOB4 := Lib.hid ((HOB3.out.below ((Below.refl _ _).alloc (Nat.le_refl _) (.cells #[.int .u64 bs, .slice pa bp.length pcap] 25))).appended (bs, bp, ()) (.slice pa bp.length pcap) (own_below HOP3.out ((Below.refl _ _).alloc (Nat.le_refl _) _)) hown4 hgrow4); have HB4 := Lib.hid ((HB3.out.alloc HB3.out.size (.cells #[.int .u64 bs, .slice pa bp.length pcap] 25)).grown hgrow4 (by have := HB3.out.size; simp; omega) (fun j hj => (Ob.row_lt HOB3.out.row hj).1)); clear hown4 hgrow4))
            go_roundw
            case rel => exact ⟨k + 1, _, LV ++ [((bs, bp, ()), .slice pa bp.length pcap)], by omega, by go_num, rfl, hq2, HOB4.out, by rw [List.length_append, List.length_singleton]; omega, HB4.out, by rw [HNX.out, List.map_append, List.map_append]; rfl⟩
            case measure => simp [intOf]; omega
          · have HE := Lib.hid (hstop (.inr ⟨(bs, bp, ()), by rw [if_pos hkd, hd], hqs⟩))
            have hqi : bs ≤ q := by omega
            clear hstop hd hk2 hkd hlast hM hqs
            go_wp2_with (go_at_call 13; (with_reducible refine (HD1.out _).mono ?_); rintro e w2 ⟨pv, rfl, hOP, hb2⟩; have hB2 := hB.trans (hb2.mono hbs); have e02 := E0.out w2 hB2; have e12 := E1.out w2 hB2; have hf2 : fg < w2.heap.size := Nat.lt_of_lt_of_le hfw hb2.size; have HOB2 := Lib.hid (hOB.below hb2); obtain ⟨pa, pcap, rfl, _⟩ := Sq.row_cases hOP; clear hOP)
            go_big_quiet (fail)
            go_wp2_with fail
            refine bodyPost_ret (results_tmp2 rfl _ _ _) rfl ?_
            rw [HE.out]
            exact ⟨_, LV, rfl, ((HOB2.out.below ((Below.refl _ _).alloc (Nat.le_refl _) (.cells #[.int .u64 bs, .slice pa bp.length pcap] 25))).below (belowN (Below.refl _ _) _)).lower hw1, rfl, belowN ((hb1.trans (hB2.mono hw1)).alloc (Nat.le_trans hBw.size hb2.size) (.cells #[.int .u64 bs, .slice pa bp.length pcap] 25)) _⟩
        · have HE := Lib.hid (hstop (.inl (by rw [if_neg (fun h => hk2 (by rw [h]; rfl))])))
          have hkb : (((kd.toNat : Nat) : Int) != 2) = true := by simp; omega
          have hkb2 : (((kd.toNat : Nat) : Int) == 2) = false := by simp; omega
          clear hstop hd hk2 hlast hM
          go_wp2_with (go_at_call 13; (with_reducible refine (HD1.out _).mono ?_); rintro e w2 ⟨pv, rfl, hOP, hb2⟩; have hB2 := hB.trans (hb2.mono hbs); have e02 := E0.out w2 hB2; have e12 := E1.out w2 hB2; have hf2 : fg < w2.heap.size := Nat.lt_of_lt_of_le hfw hb2.size; have HOB2 := Lib.hid (hOB.below hb2); obtain ⟨pa, pcap, rfl, _⟩ := Sq.row_cases hOP; clear hOP)
          go_big_quiet (fail)
          go_wp2_with fail
          refine bodyPost_ret (results_tmp2 rfl _ _ _) rfl ?_
          rw [HE.out]
          exact ⟨_, LV, rfl, ((HOB2.out.below ((Below.refl _ _).alloc (Nat.le_refl _) (.cells #[.int .u64 bs, .slice pa bp.length pcap] 25))).below (belowN (Below.refl _ _) _)).lower hw1, rfl, belowN ((hb1.trans (hB2.mono hw1)).alloc (Nat.le_trans hBw.size hb2.size) (.cells #[.int .u64 bs, .slice pa bp.length pcap] 25)) _⟩
    · obtain rfl : k = F.length := by omega
      have HE := Lib.hid (show replay l = (LV.map (·.1), E) by rw [HREP.out, hgo.out, List.drop_eq_nil_of_le (Nat.le_refl _), repGo, List.append_nil])
      clear hgo
      go_wp2_with fail
      refine bodyPost_ret (results_tmp2 rfl _ _ _) rfl ?_
      rw [HE.out]
      exact ⟨_, LV, rfl, hOB.lower hw1, rfl, hBw⟩
end Wa
end Go.Proofs.Ytmfeeampbmandaa

/-
  What the program's wal owes; the laws WalDecodes, WalReplays over it.
-/
namespace Go.Proofs.Ytmfeeampbmandaa
open Go.RowKit
set_option linter.unusedSimpArgs false
set_option linter.unusedVariables false
namespace Wa

def CheckOk : Prop := ∀ (v : Value) (L : List Pt) (w : World), Puts w.heap.size w v L → (∀ p ∈ L, PutIn p) → L.length ≤ 1048576 → Calls Try.prog 7 #[v] w fun e w' => e = .returned (.int .i64 (check L : Nat)) ∧ Below w.heap.size w w'

def EncOk5 : Prop := ∀ (s : Int) (L : List Pt) (v : Value) (w : World), Puts w.heap.size w v L → BatchIn (s, L, ()) →
    Calls Try.prog 8 #[.agg #[.int .u64 s, v]] w fun e w' => e = .returned (.tuple #[.string (Cd.bs (encode (s, L, ())).1), .int .i64 ((encode (s, L, ())).2 : Nat)]) ∧ Below w.heap.size w w'

def DecOk5 : Prop := ∀ (l : List UInt8) (w : World), l.length ≤ 140737488351232 → Calls Try.prog 12 #[.string (Cd.bs l)] w (DecOut (decode l) w)

def RepOk : Prop := ∀ (l : List UInt8) (w : World), l.length ≤ 1073741824 → Calls Try.prog 14 #[.string (Cd.bs l)] w (RepOut (replay l) w)

set_option maxRecDepth 100000 in
set_option maxHeartbeats 2000000 in
theorem walReplays_walk (R : RepOk) (s : ByteArray) (w : World) (hs : s.size ≤ 1048576) :
    Calls Try.prog 5 #[.string s] w fun e w' => e = .returned (.bool true) ∧ Below w.heap.size w w' := by
  obtain ⟨l, rfl⟩ : ∃ l, s = Cd.bs l := ⟨s.data.toList, (Lib.mk_data s).symm⟩
  have hsl : l.length ≤ 1048576 := hs
  have HR := Lib.hid (fun W => R l W (by omega))
  have HD := Lib.hid (fun W => replayR_any l W hsl)
  have hbnd := replay_in l hsl
  generalize replay l = rp at *
  obtain ⟨rb, re⟩ := rp
  simp only at hbnd
  go_enter Try.func5, Try.ntmps5
  go_wp2_with (first
    | (go_at_call 14; (with_reducible refine (HR.out _).mono ?_); rintro e w1 ⟨v1, V1, rfl, hO1, hV1, hb1⟩; obtain ⟨a1, c1, rfl, _⟩ := Sq.row_cases hO1.row; have HO1 := Lib.hid hO1; have HV1 := Lib.hid hV1; clear hO1 hV1)
    | (go_at_call 15; (with_reducible refine (HD.out _).mono ?_); rintro e w2 ⟨v2, V2, rfl, hO2, hV2, hb2⟩; obtain ⟨a2, c2, rfl, _⟩ := Sq.row_cases hO2.row; have HS := Lib.hid (sameBatches_any (.slice a1 V1.length c1) (.slice a2 V2.length c2) V1 V2 w2.heap.size w2 ((HO1.out.bats).grow hb2 hb2.size) hO2.bats (by rw [HV1.out, hV2]) (by have := congrArg List.length HV1.out; rw [List.length_map] at this; omega) (fun x hx => by have := hbnd.2 x.1 (by rw [← HV1.out]; exact List.mem_map_of_mem hx); omega)); clear hO2 hV2)
    | (go_at_call 16; (with_reducible refine HS.out.mono ?_); rintro e w3 ⟨rfl, n3, rfl⟩))
  go_ret
  exact ⟨rfl, belowN (hb1.trans (hb2.mono hb1.size)) _⟩

set_option maxRecDepth 100000 in
set_option maxHeartbeats 2000000 in
theorem walDecodes_walk (D : DecOk5) (s : ByteArray) (w : World) (hs : s.size ≤ 1048576) :
    Calls Try.prog 4 #[.string s] w fun e w' => e = .returned (.bool true) ∧ Below w.heap.size w w' := by
  obtain ⟨l, rfl⟩ : ∃ l, s = Cd.bs l := ⟨s.data.toList, (Lib.mk_data s).symm⟩
  have hsl : l.length ≤ 1048576 := hs
  cases hx : decode l with
  | none =>
    have HD := Lib.hid (fun W => show Calls Try.prog 12 #[.string (Cd.bs l)] W fun e w' => e = .returned (.tuple #[.agg #[.int .u64 0, .slice none 0 0], .int .i64 3]) ∧ Below W.heap.size W w' from by have := D l W (by omega); rw [hx] at this; exact this)
    have HR := Lib.hid (fun W => show Calls Try.prog 13 #[.string (Cd.bs l)] W fun e w' => e = .returned (.tuple #[.agg #[.int .u64 0, .slice none 0 0], .int .i64 3]) ∧ Below W.heap.size W w' from by have := decodeR5_any l W (by omega); rw [hx] at this; exact this)
    have hnil : ∀ W : World, Puts 0 W (.slice none 0 0) [] := fun W => ⟨none, 0, 0, 0, rfl, fun h => by simp at h, fun j h => by simp at h⟩
    have HSP := Lib.hid (fun W => samePuts_any (.slice none 0 0) (.slice none 0 0) [] 0 W (hnil W) (hnil W) (by simp))
    clear hx hnil
    go_enter Try.func4, Try.ntmps4
    go_wp2_with (first
      | (go_at_call 12; (with_reducible refine (HD.out _).mono ?_); rintro e w1 ⟨rfl, hb1⟩; have bx := Ob.Obj.new w1 25 [.int .u64 0, .slice none 0 0])
      | (go_at_call 13; (with_reducible refine (HR.out _).mono ?_); rintro e w2 ⟨rfl, hb2⟩; have bx2 := bx.below hb2; have c0 := bx2.cell 0; have c1 := bx2.cell 1; have hlx := bx2.lt; simp at c0 c1)
      | (go_at_call 11; (with_reducible refine (HSP.out _).mono ?_); rintro e w3 ⟨rfl, n3, rfl⟩))
    go_ret
    have h1 : Below w.heap.size w (w1.alloc (.cells #[.int .u64 0, .slice none 0 0] 25)) := hb1.alloc hb1.size _
    have h2 : Below w.heap.size w w2 := h1.trans (hb2.mono h1.size)
    exact ⟨rfl, belowN (h2.alloc h2.size _) _⟩
  | some b =>
    have HD := Lib.hid (fun W => show Calls Try.prog 12 #[.string (Cd.bs l)] W fun e w' => ∃ v, e = .returned (.tuple #[.agg #[.int .u64 b.1, v], .int .i64 0]) ∧ OwnP W.heap.size w' v b.2.1 ∧ Below W.heap.size W w' from by have := D l W (by omega); rw [hx] at this; exact this)
    have HR := Lib.hid (fun W => show Calls Try.prog 13 #[.string (Cd.bs l)] W fun e w' => ∃ v, e = .returned (.tuple #[.agg #[.int .u64 b.1, v], .int .i64 0]) ∧ OwnP W.heap.size w' v b.2.1 ∧ Below W.heap.size W w' from by have := decodeR5_any l W (by omega); rw [hx] at this; exact this)
    have hlen : b.2.1.length ≤ 256 := (check_ok (decode_iff.1 hx).1.1).1
    obtain ⟨bs, bp, _⟩ := b
    simp only at HD HR hlen
    clear hx
    go_enter Try.func4, Try.ntmps4
    go_wp2_with (first
      | (go_at_call 12; (with_reducible refine (HD.out _).mono ?_); rintro e w1 ⟨v1, rfl, hO1, hb1⟩; obtain ⟨a1, p1, rfl, _⟩ := Sq.row_cases hO1; have HO1 := Lib.hid hO1; clear hO1; have bx := Ob.Obj.new w1 25 [.int .u64 bs, .slice a1 bp.length p1])
      | (go_at_call 13; (with_reducible refine (HR.out _).mono ?_); rintro e w2 ⟨v2, rfl, hO2, hb2⟩; obtain ⟨a2, p2, rfl, _⟩ := Sq.row_cases hO2; have bx2 := bx.below hb2; have c0 := bx2.cell 0; have c1 := bx2.cell 1; have hlx := bx2.lt; simp at c0 c1; have HSP := Lib.hid (samePuts_any (.slice a1 bp.length p1) (.slice a2 bp.length p2) bp w2.heap.size (w2.alloc (.cells #[.int .u64 bs, .slice a2 bp.length p2] 25)) (((HO1.out.puts.grow ((Below.refl _ _).alloc (Nat.le_refl _) (.cells #[.int .u64 bs, .slice a1 bp.length p1] 25)) (by simp)).grow hb2 hb2.size).below ((Below.refl _ _).alloc (Nat.le_refl _) _)) ((OwnP.puts hO2).below ((Below.refl _ _).alloc (Nat.le_refl _) _)) (by omega)); clear hO2)
      | (go_at_call 11; (with_reducible refine HSP.out.mono ?_); rintro e w3 ⟨rfl, n3, rfl⟩))
    go_ret
    have h1 : Below w.heap.size w (w1.alloc (.cells #[.int .u64 bs, .slice a1 bp.length p1] 25)) := hb1.alloc hb1.size _
    have h2 : Below w.heap.size w w2 := h1.trans (hb2.mono h1.size)
    exact ⟨rfl, belowN (h2.alloc h2.size _) _⟩
end Wa
end Go.Proofs.Ytmfeeampbmandaa
