/-
  Chapter 7, the developers' side: the bits of a key, told by a range over a function.
-/
import Derived.Test.YtenjjfiojackaaaBloomDevA
import Derived.Test.YtenjjfiojackaaaSeqLaw
import Derived.Shelf.Abstract
import Derived.Shelf.RegionOpen
import Derived.OwnWalkIn
import Derived.TacticsInMore
import Derived.LoopNIn
import Derived.LoopIn
namespace Go.Proofs.Ytenjjfiojackaaa
open Go.RowKit Go.Shelf
set_option linter.unusedSimpArgs false
set_option linter.unusedVariables false
namespace Bm
attribute [local go_sem] Oper.semAt_some

set_option maxRecDepth 100000 in
set_option maxHeartbeats 2000000 in
theorem rotate_any (h : Int) (w : World) (h0 : 0 ≤ h) (h1 : h < 18446744073709551616) :
    Calls Try.prog 25 #[.int .u64 h, .int .i64 31] w fun e w' => e = .returned (.int .u64 (dOf h)) ∧ w = w' := by
  have h31 : bits BinOp.and IntKind.u64 31 63 = 31 := by decide
  go_enter Try.func25, Try.ntmps25
  go_wp2_with fail
  go_ret
  exact ⟨rfl, rfl⟩

/-- what the iterator's boxes hold -/
def PBox (w : World) (B : Nat) (key : List UInt8) (k : Nat) (m : Int) : Prop :=
  Boxed w B 9 (.string (Cd.bs key)) ∧ Boxed w (B + 1) 3 (.int .i64 (k : Int)) ∧ Boxed w (B + 2) 24 (.int .u64 m)
theorem PBox.kept {w w' : World} {B : Nat} {key : List UInt8} {k : Nat} {m : Int} {T : Sq.Blocks} (h : PBox w B key k m) (hk : Sq.Kept T w w') (hT : ∀ b, B ≤ b → b < B + 3 → T b) : PBox w' B key k m :=
  ⟨hk.boxed (hT _ (by omega) (by omega)) h.1, hk.boxed (hT _ (by omega) (by omega)) h.2.1, hk.boxed (hT _ (by omega) (by omega)) h.2.2⟩

/-- the world behind the making of the iterator -/
def placesW (w : World) (key : List UInt8) (k : Nat) (m : Int) : World :=
  ((w.alloc (.cells #[.string (Cd.bs key)] 9)).alloc (.cells #[.int .i64 (k : Int)] 3)).alloc (.cells #[.int .u64 m] 24)
abbrev placesV (B : Nat) : Value := .func (.func 24) #[] #[.pointer (some ⟨B, 0, none⟩), .pointer (some ⟨B + 1, 0, none⟩), .pointer (some ⟨B + 2, 0, none⟩)]
theorem placesW_size (w : World) (key : List UInt8) (k : Nat) (m : Int) : (placesW w key k m).heap.size = w.heap.size + 3 := by unfold placesW; simp
theorem placesW_kept (w : World) (key : List UInt8) (k : Nat) (m : Int) (T : Sq.Blocks) : Sq.Kept T w (placesW w key k m) := by
  unfold placesW; exact ((Sq.Kept.alloc _ _ _).trans (Sq.Kept.alloc _ _ _)).trans (Sq.Kept.alloc _ _ _)
theorem placesW_box (w : World) (key : List UInt8) (k : Nat) (m : Int) : PBox (placesW w key k m) w.heap.size key k m := by
  unfold placesW
  refine ⟨((Boxed.new w _ _).alloc _).alloc _, ?_, ?_⟩
  · have := Boxed.new (w.alloc (.cells #[.string (Cd.bs key)] 9)) 3 (.int .i64 (k : Int))
    rw [World.size_alloc] at this; exact this.alloc _
  · have := Boxed.new ((w.alloc (.cells #[.string (Cd.bs key)] 9)).alloc (.cells #[.int .i64 (k : Int)] 3)) 24 (.int .u64 m)
    rwa [World.size_alloc, World.size_alloc] at this

set_option maxHeartbeats 1000000 in
theorem placesDev_in (n : Nat) (key : List UInt8) (k : Nat) (m : Int) (w : World) :
    CallsIn Fence.wide n Try.prog 17 #[.string (Cd.bs key), .int .i64 (k : Int), .int .u64 m] w fun e w' => e = .returned (placesV w.heap.size) ∧ w' = placesW w key k m := by
  refine callsIn_of_wp Try.func17 rfl trivial ?_ rfl
  simp only [Try.ntmps17, List.size_toArray, List.length_cons, List.length_nil, Nat.reduceAdd, Nat.reduceSub, Array.replicate_succ, Array.replicate_zero, List.push_toArray, List.append_toArray, List.nil_append, List.cons_append]
  gi_wp2
  go_ret
  exact ⟨rfl, rfl⟩

abbrev pEnc (x : Int) : Array Value := #[.int .u64 x]

theorem placesGo_more (k : Nat) (h d m : Int) : placesGo (k + 1) h d m = (h % m) :: placesGo k (IntKind.u64.wrap (h + d)) d m := rfl

set_option maxRecDepth 100000 in
set_option maxHeartbeats 2000000 in
theorem places1_seq (n : Nat) (hn : 1 ≤ n) (key : List UInt8) (k : Nat) (m : Int) (hkl : key.length ≤ 140737488351232) (hm : 0 < m ∧ m < 18446744073709551616) (hk : k ≤ 1000) (B : Nat) (w : World) (hB : PBox w B key k m) :
    Sq.SeqC Fence.wide n Try.prog 24 #[.pointer (some ⟨B, 0, none⟩), .pointer (some ⟨B + 1, 0, none⟩), .pointer (some ⟨B + 2, 0, none⟩)] pEnc (fun b => B ≤ b ∧ b < B + 3) (fun ys => ys = places key k m) (fun pre => pre <+: places key k m) w := by
  intro lp J Jx W hW hJ hJx hY h0
  have hBW := hB.kept hW (fun b h1 h2 => ⟨h1, h2⟩)
  have hH := hash_in key
  have hD := dOf_in hH
  have HH := Lib.hid (fun W => hashOk key W hkl)
  have HR := Lib.hid (fun W => rotate_any (hash key) W hH.1 hH.2)
  have HP := Lib.hid (show places key k m = placesGo k (hash key) (dOf (hash key)) m from rfl)
  generalize dOf (hash key) = D at *
  generalize hash key = H at *
  generalize places key k m = L at *
  obtain ⟨hH0, hH1⟩ := hH
  obtain ⟨hD0, hD1⟩ := hD
  obtain ⟨hm0, hm1⟩ := hm
  have c0 := hBW.1.cell
  have c1 := hBW.2.1.cell
  have c2 := hBW.2.2.cell
  have l0 := hBW.1.lt
  have l1 := hBW.2.1.lt
  have l2 := hBW.2.2.lt
  refine callsIn_of_wp Try.func24 rfl trivial ?_ rfl
  simp only [Try.ntmps24, List.size_toArray, List.length_cons, List.length_nil, Nat.reduceAdd, Nat.reduceSub, Array.replicate_succ, Array.replicate_zero, List.push_toArray, List.append_toArray, List.nil_append, List.cons_append]
  gi_wp2_with (first
    | (refine ⟨trivial, ?_⟩; gi_at_call 8; refine (callsIn_wide.2 (HH.out _)).mono ?_; rintro e w1 ⟨rfl, hb1⟩; have c11 := (hb1.cell (p := ⟨B + 1, 0, none⟩) l1).trans c1; have hB1 := hBW.kept (Sq.Kept.of_below (T := fun _ => True) hb1) (fun _ _ _ => trivial))
    | (refine ⟨trivial, ?_⟩; gi_at_call 25; refine (callsIn_wide.2 (HR.out _)).mono ?_; rintro e w2 ⟨rfl, rfl⟩))
  have hJ1 := hJ _ _ _ _ _ h0 (Sq.Step.below hb1)
  gi_loopw [5, 12] (fun hv iv wr => ∃ (q : Nat) (h : Int) (pre : List Int), q ≤ k ∧ hv = .int .u64 h ∧ iv = .int .i64 (q : Int) ∧ (0 ≤ h ∧ h < 18446744073709551616) ∧ Hid (L = pre ++ placesGo (k - q) h D m) ∧ J (fun _ => False) pre wr ∧ PBox wr B key k m)
    (fun _ i _ => k - (intOf i).toNat)
  case atStart => exact ⟨0, H, [], Nat.zero_le _, rfl, rfl, ⟨hH0, hH1⟩, HP, hJ1, hB1⟩
  case round =>
    obtain ⟨q, h, pre, hq, rfl, rfl, ⟨hh0, hh1⟩, hpre, hJs, hb⟩ := hrel
    have x2 := hb.2.2.cell
    by_cases hlt : q < k
    · have hi1 : (q : Int) < (k : Int) := by omega
      have HL := Lib.hid (show L = (pre ++ [h % m]) ++ placesGo (k - (q + 1)) (IntKind.u64.wrap (h + D)) D m by
        rw [hpre.out, show k - q = (k - (q + 1)) + 1 by omega, placesGo, List.append_assoc]; rfl)
      have HSP := Lib.hid (show pre ++ [h % m] <+: L from ⟨_, HL.out.symm⟩)
      obtain ⟨fn, tmps, assign, body, hy, hR⟩ := hY (fun _ => False) pre (h % m) wr hJs (fun k h => h.elim) HSP.out
      have HRR := Lib.hid hR
      clear hR hpre
      simp only [pEnc] at hy
      gi_wp2
      refine HRR.out.mono ?_
      rintro e W3 (⟨rfl, hJ3, hk3⟩ | ⟨rfl, hJx3, hk3⟩)
      · gi_wp2
        go_roundw
        case rel => exact ⟨q + 1, _, _, by omega, rfl, by go_num, by rw [IntKind.wrap_u64]; omega, HL, hJ3, hb.kept hk3 (fun b h1 h2 => .inr ⟨h1, h2⟩)⟩
        case measure => simp [intOf]; omega
      · gi_wp2
        refine bodyPost_ret (results_none rfl _ _ _) rfl ?_
        exact ⟨⟨_, rfl⟩, .inr ⟨_, _, HSP.out, hJx3⟩⟩
    · obtain rfl : q = k := by omega
      have HE := Lib.hid (show pre = L by rw [hpre.out, Nat.sub_self]; simp [placesGo])
      clear hpre
      gi_wp2
      go_end0
      exact ⟨⟨_, rfl⟩, .inl ⟨_, _, HE.out, hJs⟩⟩
end Bm
end Go.Proofs.Ytenjjfiojackaaa
