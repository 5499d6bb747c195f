/-
  What frame.ends, frame.All owe as iterators; frame.End.
-/
import Derived.Test.YtgbfaabidplajaaFrameSeqP
import Derived.Test.YtgbfaabidplajaaSeqLaw
import Derived.Test.YtgbfaabidplajaaFrameDevB
import Derived.Shelf.Abstract
import Derived.Shelf.RegionOpen
import Derived.OwnWalkIn
import Derived.TacticsInMore
import Derived.LoopNIn
import Derived.LoopIn
namespace Go.Proofs.Ytgbfaabidplajaa
open Go.RowKit Go.Shelf
set_option linter.unusedSimpArgs false
set_option linter.unusedVariables false

attribute [local go_sem] Oper.semAt_some

/-- a place and a frame as Go hands them on -/
abbrev fEnc (x : Nat × Fr.Fm) : Array Value := #[.int .i64 (x.1 : Int), .agg #[.int .u8 (x.2.1.toNat : Int), .string (Cd.bs x.2.2)]]

set_option maxRecDepth 100000 in
set_option maxHeartbeats 2000000 in
theorem ends1_seq (n : Nat) (hn : 1 ≤ n) (l : List UInt8) (hs : l.length ≤ 140737488351232) (Bs : Nat) (w : World) (hB : Boxed w Bs 9 (.string (Cd.bs l))) :
    Sq.SeqC Fence.wide n Try.prog 34 #[.pointer (some ⟨Bs, 0, none⟩)] fEnc (· = Bs) (fun ys => ys = Fr.endsGo l 0) (fun pre => pre <+: Fr.endsGo l 0) w := by
  intro lp J Jx W hW hJ hJx hY h0
  have hBW := hW.boxed rfl hB
  refine callsIn_of_wp Try.func34 rfl trivial ?_ rfl
  simp only [Try.ntmps34, List.size_toArray, List.length_cons, List.length_nil, Nat.reduceAdd, Nat.reduceSub, Array.replicate_succ, Array.replicate_zero, List.push_toArray, List.append_toArray, List.nil_append, List.cons_append]
  gi_wp2_with fail
  gi_loopw [3] (fun i wr => ∃ (p : Nat) (pre : List (Nat × Fr.Fm)), i = .int .i64 p ∧ p ≤ l.length ∧ pre ++ Fr.endsGo l p = Fr.endsGo l 0 ∧ J (fun _ => False) pre wr ∧ Boxed wr Bs 9 (.string (Cd.bs l)))
    (fun i _ => l.length - (intOf i).toNat)
  case atStart => exact ⟨0, [], rfl, Nat.zero_le _, rfl, h0, hBW⟩
  case round =>
    obtain ⟨p, pre, rfl, hp, hpre, hJs, hb⟩ := hrel
    have HP := Lib.hid hpre
    clear hpre
    have hc := hb.cell
    obtain ⟨f, m, e, ht⟩ : ∃ f m e, Fr.take (l.drop p) = (f, m, e) := ⟨_, _, _, rfl⟩
    obtain ⟨q1, q2, q3⟩ := Fr.take_len (l.drop p)
    rw [ht] at q1 q2 q3
    simp only [List.length_drop] at q1 q2 q3
    have hT : ∀ W, Calls Try.prog 13 #[.string ((Cd.bs l).extract p l.length)] W fun e' w' => e' = .returned (frameV (f, m, e)) ∧ Below W.heap.size W w' := fun W => by
      have hx : (Cd.bs l).extract p l.length = Cd.bs (l.drop p) := by rw [ByteArray.extract_mk, List.take_of_length_le (by simp)]
      rw [hx]
      have := frameTakec_any (l.drop p) W (by rw [List.length_drop]; omega)
      rwa [ht] at this
    have HT := Lib.hid hT
    have HTT := Lib.hid ht
    clear hT ht
    have hsz : (Cd.bs l).size = l.length := rfl
    by_cases he : e = 0
    · subst he
      have h5 := q2 rfl
      clear q2 q3
      have hcond : p < l.length ∧ (Fr.take (l.drop p)).2.2 = 0 ∧ 0 < (Fr.take (l.drop p)).2.1 := by rw [HTT.out]; exact ⟨by omega, rfl, by show 0 < m; omega⟩
      have hmore := Fr.endsGo_more hcond
      rw [HTT.out] at hmore
      have HM := Lib.hid hmore
      clear hmore hcond
      have HSP := Lib.hid (show pre ++ [(p + m, f)] <+: Fr.endsGo l 0 by rw [← HP.out, HM.out]; exact ⟨Fr.endsGo l (p + m), by simp⟩)
      gi_wp2_with (first
        | (refine ⟨trivial, ?_⟩; gi_at_call 13; refine (callsIn_wide.2 (HT.out _)).mono ?_; rintro e w1 ⟨rfl, hb1⟩
           obtain ⟨fn, tmps, assign, body, hy, hR⟩ := hY (fun _ => False) pre (p + m, f) (w1.alloc (.cells #[.int .u8 f.1.toNat, .string (Cd.bs f.2)] 23)) (hJ _ _ _ _ _ hJs (Sq.Step.below (hb1.alloc hb1.size _))) (fun k h => h.elim) HSP.out
           have HR := Lib.hid hR
           have hbx := (Sq.Kept.of_below (T := fun _ => True) (hb1.alloc hb1.size (.cells #[.int .u8 f.1.toNat, .string (Cd.bs f.2)] 23))).boxed trivial hb
           clear hR
           simp only [fEnc, Int.natCast_add] at hy))
      refine HR.out.mono ?_
      rintro e W3 (⟨rfl, hJ3, hk3⟩ | ⟨rfl, hJx3, hk3⟩)
      · gi_wp2
        go_roundw
        case rel => exact ⟨p + m, pre ++ [(p + m, f)], by go_num, by omega, by rw [← HP.out, HM.out]; simp, hJ3, hk3.boxed (.inr rfl) hbx⟩
        case measure => simp [intOf]; omega
      · gi_wp2
        refine bodyPost_ret (results_none rfl _ _ _) rfl ?_
        exact ⟨⟨_, rfl⟩, .inr ⟨_, _, HSP.out, hJx3⟩⟩
    · have hbe : (((e : Nat) : Int) == 0) = false := by simp; omega
      clear q2 q3
      have hst := Fr.endsGo_stop (l := l) (p := p) (by rw [HTT.out]; rintro ⟨_, h, _⟩; exact he h)
      have HE := Lib.hid (show pre = Fr.endsGo l 0 by rw [← HP.out, hst, List.append_nil])
      clear hst
      gi_wp2_with (first
        | (refine ⟨trivial, ?_⟩; gi_at_call 13; refine (callsIn_wide.2 (HT.out _)).mono ?_; rintro e w1 ⟨rfl, hb1⟩))
      refine bodyPost_ret (results_none rfl _ _ _) rfl ?_
      exact ⟨⟨_, rfl⟩, .inl ⟨_, _, HE.out, hJ _ _ _ _ _ hJs (Sq.Step.below (hb1.alloc hb1.size _))⟩⟩
end Go.Proofs.Ytgbfaabidplajaa
