import Derived.Laws.CopyOwn
import Derived.Below
import Derived.WalkKit
import Derived.Deep.LoopGhost
import Derived.LoopTactic
import Derived.BigQuiet
import Derived.Deep.QuietTactic
import Derived.Test.YtiijkneomecmiaaPart6
/-
  The program's frames and spans of a list's blocks, all of them (table.putBlocks).
-/
namespace Go.Proofs.Ytiijkneomecmiaa
open Go.RowKit Go.Shelf
set_option linter.unusedSimpArgs false
set_option linter.unusedVariables false
namespace Tb
open Mt (Ver mayB lessB placeB VerIn verV)
open Vs (Vers At)
open Bo (Bd Md)
attribute [local go_sem] Oper.semAt_some

/-- what is left when the first builder has been read -/
structure St7 (Q : Sq.Blocks) (b7 b8 : Nat) (S : List UInt8) (m : Nat) (W : World) : Prop where
  ex : ∃ S7 p a c, Bd S7 W b7 p a c S ∧ ∀ k, S7 k → ¬ Q k
  x8 : W.cell? ⟨b8, 0, none⟩ = some (.int .i64 (m : Int)) ∧ b8 < W.heap.size
theorem St7.below {Q : Sq.Blocks} {b7 b8 m : Nat} {S : List UInt8} {W W' : World} (h : St7 Q b7 b8 S m W) (hb : Below W.heap.size W W') : St7 Q b7 b8 S m W' := by
  obtain ⟨S7, p, a, c, h7, hn⟩ := h.ex
  exact ⟨⟨S7, p, a, c, h7.below hb, hn⟩, (hb.cell (p := ⟨b8, 0, none⟩) h.x8.2).trans h.x8.1, Nat.lt_of_lt_of_le h.x8.2 hb.size⟩
theorem Stt.str6 {R T : Sq.Blocks} {b6 b7 b8 b9 : Nat} {D S : List UInt8} {m seen : Nat} {W : World} (h : Stt R T b6 b7 b8 b9 D S m seen W) (h0 : D ≠ []) :
    Calls Try.prog 53 #[.pointer (some ⟨b6, 0, none⟩)] W fun e w' => e = .returned (.string (Cd.bs D)) ∧ St7 (fun k => R k ∨ T k) b7 b8 S m w' ∧ Sq.Kept (fun k => R k ∨ T k) W w' := by
  obtain ⟨S6, p6, a6, c6, S7, p7, a7, c7, h6, h7, hd, hn⟩ := h.ex
  refine (Bo.string_own h6 h0).mono ?_
  rintro e w' ⟨rfl, st⟩
  have n8 : ¬ S6 b8 := fun hk => (hn b8 (.inl hk)).1 rfl
  have hb := st.kept.boxed n8 h.x8
  refine ⟨rfl, ⟨⟨S7, p7, a7, c7, h7.kept st.kept (fun k hk hs => hd k hs hk), fun k hk => ?_⟩, hb.cell, hb.lt⟩, st.kept.less fun k hk _ hs => ?_⟩
  · rintro (e | e)
    · exact (hn k (.inr hk)).2.2.1 e
    · exact (hn k (.inr hk)).2.2.2 e
  · obtain ⟨_, _, q3, q4⟩ := hn k (.inl hs)
    rcases hk with hk | hk
    · exact q3 hk
    · exact q4 hk
theorem St7.str {Q : Sq.Blocks} {b7 b8 m : Nat} {S : List UInt8} {W : World} (h : St7 Q b7 b8 S m W) (h0 : S ≠ []) :
    Calls Try.prog 53 #[.pointer (some ⟨b7, 0, none⟩)] W fun e w' => e = .returned (.string (Cd.bs S)) ∧ Sq.Kept Q W w' := by
  obtain ⟨S7, p, a, c, h7, hn⟩ := h.ex
  refine (Bo.string_own h7 h0).mono ?_
  rintro e w' ⟨rfl, st⟩
  exact ⟨rfl, st.kept.less fun k hk _ hs => hn k hs hk⟩

/-- what the range over the blocks keeps -/
def bsI (L : List Ver) (ps : List (Nat × Nat)) (T : Sq.Blocks) (b6 b7 b8 b9 : Nat) (W0 : World) (R : Sq.Blocks) (pre : List (Nat × List UInt8)) (X : World) : Prop :=
  Stt R T b6 b7 b8 b9 (bodyP L ps pre.length).1 (bodyP L ps pre.length).2 pre.length (seenN ps pre.length) X ∧ (Sq.Kept T W0 X ∧ ∀ k, T k → k < W0.heap.size → ¬ R k)
theorem bsI_steady (L : List Ver) (ps : List (Nat × Nat)) (T : Sq.Blocks) (b6 b7 b8 b9 : Nat) (W0 : World) : Sq.Steady (bsI L ps T b6 b7 b8 b9 W0) :=
  (stt_steady (fun pre : List (Nat × List UInt8) => ((bodyP L ps pre.length).1, (bodyP L ps pre.length).2, pre.length, seenN ps pre.length)) T b6 b7 b8 b9).and (Sq.Steady.kept _ _)
theorem bodyP_len {L : List Ver} (h : ∀ x ∈ L, x.val.length ≤ 16384) (ps : List (Nat × Nat)) (hp : ∀ p ∈ ps, p.2 ≤ 1048576) : ∀ n, n ≤ ps.length → (bodyP L ps n).1.length ≤ 16700 * seenN ps n + 20 * n ∧ (n ≤ 1048576 → (bodyP L ps n).2.length ≤ 260 * n)
  | 0, _ => ⟨Nat.le_refl _, fun _ => Nat.le_refl _⟩
  | n + 1, hle => by
    obtain ⟨k1, k2⟩ := bodyP_len h ps hp n (by omega)
    rw [bodyP_succ L ps n (by omega), seenN_succ (by omega)]
    have h1 := dataF_len h ps[n]
    have h2 := hp ps[n] (List.getElem_mem _)
    unfold bodyStep
    simp only [List.length_append]
    refine ⟨by omega, fun hn => ?_⟩
    have hs : seenN ps n ≤ 1048576 * n := by
      clear k1 k2 h1 h2
      have : ∀ m, m ≤ ps.length → seenN ps m ≤ 1048576 * m := by
        intro m
        induction m with
        | zero => intro _; simp [seenN]
        | succ m ih => intro hm; rw [seenN_succ (by omega)]; have := ih (by omega); have := hp ps[m] (List.getElem_mem _); omega
      exact this n (by omega)
    have h3 := spanB_len (bodyP L ps n).1.length L ps[n] (by omega) (by omega) (by omega)
    have := k2 (by omega)
    omega
theorem frame_ne (c : UInt8) (l : List UInt8) (hc : c.toNat ≠ 0) (h : l.length ≤ 262144) : (Fr.put c l).1 ≠ [] := by
  rw [Fr.put_ok hc h]
  intro e
  have := congrArg List.length e
  simp at this
theorem putU_some (n : Nat) : Cd.putU n ≠ [] := by
  intro e
  by_cases h : n < 128
  · rw [Cd.putU_last h] at e; cases e
  · rw [Cd.putU_more (by omega)] at e; cases e
theorem bodyP_some {L : List Ver} {ps : List (Nat × Nat)} (hs : ∀ p ∈ ps, (blk (part L p)).length ≤ 20800) {n : Nat} (h0 : 0 < n) (hn : n ≤ ps.length) : (bodyP L ps n).1 ≠ [] ∧ (bodyP L ps n).2 ≠ [] := by
  obtain ⟨k, rfl⟩ : ∃ k, n = k + 1 := ⟨n - 1, by omega⟩
  rw [bodyP_succ L ps k (by omega)]
  have h1 : dataF L ps[k] ≠ [] := frame_ne 3 _ (by decide) (by have := hs ps[k] (List.getElem_mem _); omega)
  unfold bodyStep
  refine ⟨fun e => h1 (List.append_eq_nil_iff.1 e).2, fun e => ?_⟩
  have := (List.append_eq_nil_iff.1 e).2
  unfold spanB at this
  simp only [List.append_eq_nil_iff] at this
  exact putU_some _ this.1.1.1

/-- the world ahead of the range -/
def pbW (w : World) (block : Int) (a : Option Addr) (n cap : Nat) : World :=
  cutW (((((w.alloc (.cells #[.slice a n cap] 31)).alloc (.cells #[.pointer none, .slice none 0 0] 79)).alloc (.cells #[.pointer none, .slice none 0 0] 79)).alloc (.cells #[.int .i64 0] 3)).alloc (.cells #[.int .i64 0] 3)) block a n cap
theorem pbW_size (w : World) (block : Int) (a : Option Addr) (n cap : Nat) : (pbW w block a n cap).heap.size = w.heap.size + 7 := by unfold pbW; rw [cutW_size]; simp
theorem pbW_kept (w : World) (block : Int) (a : Option Addr) (n cap : Nat) (T : Sq.Blocks) : Sq.Kept T w (pbW w block a n cap) := by
  unfold pbW
  exact (((((Sq.Kept.alloc _ _ _).trans (Sq.Kept.alloc _ _ _)).trans (Sq.Kept.alloc _ _ _)).trans (Sq.Kept.alloc _ _ _)).trans (Sq.Kept.alloc _ _ _)).trans (cutW_kept _ _ _ _ _ _)
abbrev pbT (A : Nat) : Sq.Blocks := fun k => k < A + 1 ∨ k = A + 5 ∨ k = A + 6
theorem pbW_start (w : World) (block : Int) (a : Option Addr) (n cap : Nat) (A : Nat) (hA : w.heap.size = A) :
    Stt (fun _ => False) (pbT A) (A + 1) (A + 2) (A + 3) (A + 4) [] [] 0 0 (pbW w block a n cap) ∧ Boxed (pbW w block a n cap) A 31 (.slice a n cap) ∧ CBox (pbW w block a n cap) (A + 5) block a n cap := by
  subst hA
  have hs := pbW_size w block a n cap
  unfold pbW at *
  generalize hw1 : w.alloc (.cells #[.slice a n cap] 31) = w1 at *
  have s1 : w1.heap.size = w.heap.size + 1 := by rw [← hw1]; simp
  have x1 : Boxed w1 w.heap.size 31 (.slice a n cap) := by rw [← hw1]; exact Boxed.new w _ _
  have b6 := Bd.new (S := fun k => k = w.heap.size + 1) (W := w1) (by intro k; rw [s1])
  rw [s1] at b6
  generalize hw2 : w1.alloc (.cells #[.pointer none, .slice none 0 0] 79) = w2 at *
  have s2 : w2.heap.size = w.heap.size + 2 := by rw [← hw2]; simp [s1]
  have x2 : Boxed w2 w.heap.size 31 (.slice a n cap) := by rw [← hw2]; exact x1.alloc _
  have b7 := Bd.new (S := fun k => k = w.heap.size + 2) (W := w2) (by intro k; rw [s2])
  rw [s2] at b7
  have b6' := b6.below ((Below.refl _ _).alloc (Nat.le_refl _) (.cells #[.pointer none, .slice none 0 0] 79))
  generalize hw3 : w2.alloc (.cells #[.pointer none, .slice none 0 0] 79) = w3 at *
  have s3 : w3.heap.size = w.heap.size + 3 := by rw [← hw3]; simp [s2]
  have k3 : Sq.Kept (fun _ => True) w3 (cutW ((w3.alloc (.cells #[.int .i64 0] 3)).alloc (.cells #[.int .i64 0] 3)) block a n cap) :=
    ((Sq.Kept.alloc _ _ _).trans (Sq.Kept.alloc _ _ _)).trans (cutW_kept _ _ _ _ _ _)
  have x3 : Boxed w3 w.heap.size 31 (.slice a n cap) := by rw [← hw3]; exact x2.alloc _
  have y8 : Boxed (w3.alloc (.cells #[.int .i64 0] 3)) (w.heap.size + 3) 3 (.int .i64 0) := by have := Boxed.new w3 3 (.int .i64 0); rwa [s3] at this
  have y9 : Boxed ((w3.alloc (.cells #[.int .i64 0] 3)).alloc (.cells #[.int .i64 0] 3)) (w.heap.size + 4) 3 (.int .i64 0) := by
    have := Boxed.new (w3.alloc (.cells #[.int .i64 0] 3)) 3 (.int .i64 0); rwa [World.size_alloc, s3] at this
  have cb := cutW_box ((w3.alloc (.cells #[.int .i64 0] 3)).alloc (.cells #[.int .i64 0] 3)) block a n cap
  rw [show ((w3.alloc (.cells #[.int .i64 0] 3)).alloc (.cells #[.int .i64 0] 3)).heap.size = w.heap.size + 5 by simp [s3]] at cb
  refine ⟨⟨⟨fun k => k = w.heap.size + 1, _, _, _, fun k => k = w.heap.size + 2, _, _, _, b6'.kept k3 (fun _ _ => trivial), b7.kept k3 (fun _ _ => trivial), fun k h1 h2 => ?_, fun k hk => ?_⟩, ?_, ?_, ⟨fun h => h, ?_⟩, ⟨fun h => h, ?_⟩, by omega, fun k hk => ?_⟩, k3.boxed trivial x3, cb⟩
  · simp only at h1 h2; omega
  · simp only at hk
    refine ⟨by omega, by omega, fun h => h, ?_⟩
    simp only [pbT]; omega
  · exact ((cutW_kept _ _ _ _ _ (fun _ => True)).boxed trivial (y8.alloc _))
  · exact ((cutW_kept _ _ _ _ _ (fun _ => True)).boxed trivial y9)
  · simp only [pbT]; omega
  · simp only [pbT]; omega
  · simp only [pbT] at hk; omega

set_option maxRecDepth 100000 in
set_option maxHeartbeats 4000000 in
theorem putBlocks_any (block : Int) (hb0 : -9223372036854775808 ≤ block) (hb1 : block ≤ 4096) (a : Option Addr) (cap fb fo : Nat) (L : List Ver) (w : World) (h0 : L ≠ []) (hm : ∀ y ∈ L, mayB y = true) (hL : L.length ≤ 1048576)
    (ha : a = some ⟨fb, fo, none⟩ ∧ fb < w.heap.size) (hcells : ∀ j (h : j < L.length), At w fb (fo + j * 4) L[j]) :
    Calls Try.prog 30 #[.int .i64 block, .slice a L.length cap] w fun e w' => e = .returned (.tuple #[.string (Cd.bs (bodyN L (cuts block L) (cuts block L).length).1), .string (Cd.bs (bodyN L (cuts block L) (cuts block L).length).2)]) ∧ Below w.heap.size w w' := by
  refine (callsIn_wide (n := 12)).1 ?_
  refine callsIn_of_wp_marks Try.func30 rfl trivial ?_ rfl
  refine wpIn_wide.2 ?_
  simp only [Try.ntmps30, List.size_toArray, List.length_cons, List.length_nil, Nat.reduceAdd, Nat.reduceSub, Array.replicate_succ, Array.replicate_zero, List.push_toArray, List.append_toArray, List.nil_append, List.cons_append]
  go_wp2_with (go_at_call 50; refine (callsIn_wide.1 (cut_in 12 _ _ _ _ _)).mono ?_; rintro e w' ⟨rfl, rfl⟩)
  obtain ⟨rfl, hfb⟩ := ha
  obtain ⟨A, hA⟩ : ∃ A, w.heap.size = A := ⟨_, rfl⟩
  obtain ⟨hst, hbx, hcb⟩ := pbW_start w block (some ⟨fb, fo, none⟩) L.length cap A hA
  have hsz := pbW_size w block (some ⟨fb, fo, none⟩) L.length cap
  have hkw := pbW_kept w block (some ⟨fb, fo, none⟩) L.length cap (fun k => k < A)
  rw [hA] at hsz
  change Code.wp _ _ _ _ (pbW w block (some ⟨fb, fo, none⟩) L.length cap)
  generalize pbW w block (some ⟨fb, fo, none⟩) L.length cap = W0 at *
  have hcW : ∀ j (h : j < L.length), At W0 fb (fo + j * 4) L[j] := fun j h => At.kept (hcells j h) hkw (by omega)
  have HSQ := cut1_seq 11 (by omega) block ⟨hb0, by omega⟩ (some ⟨fb, fo, none⟩) cap fb fo L hm hL (pbT A) (A + 5) W0 hcb (.inr (.inl rfl)) (.inr (.inr rfl)) (fun k hk => by simp only [pbT] at hk; omega) (fun _ => ⟨rfl, by simp only [pbT]; omega⟩) hcW
  have hct := cuts_contig block L
  have hsm := cuts_small hb1 (fun x hx => (may_seq (hm x hx)).2.2.2.2.1)
  have hps := cuts_some (block := block) h0
  rw [show w.heap.size + 1 + 1 + 1 + 1 + 1 = A + 5 by omega, show w.heap.size + 1 + 1 + 1 + 1 = A + 4 by omega, show w.heap.size + 1 + 1 + 1 = A + 3 by omega, show w.heap.size + 1 + 1 = A + 2 by omega, hA]
  refine (wpIn_wide (n := 12)).1 ?_
  have HCW := Lib.hid hcW
  have HCT := Lib.hid hct
  have HSM := Lib.hid hsm
  have HM := Lib.hid hm
  have HKW := Lib.hid hkw
  have hlp : ∀ p ∈ cuts block L, p.2 ≤ 1048576 := fun p hp => by
    obtain ⟨i, hi, rfl⟩ := List.getElem_of_mem hp
    have e1 := seenN_succ hi
    have e2 := cuts_seen block L (i + 1) (by omega)
    omega
  have hps2 : (cuts block L).length ≤ L.length := by
    have : ∀ n, n ≤ (cuts block L).length → n ≤ seenN (cuts block L) n := by
      intro n
      induction n with
      | zero => intro _; exact Nat.zero_le _
      | succ n ih => intro hn; rw [seenN_succ (by omega)]; have := ih (by omega); have := (hct.1 n (by omega)).2; omega
    have := this _ (Nat.le_refl _)
    omega
  have HBL := Lib.hid (bodyP_len (L := L) (fun x hx => (may_seq (hm x hx)).2.2.2.2.1) (cuts block L) hlp)
  have HSO := Lib.hid (bodyP_some (L := L) hsm hps (Nat.le_refl _))
  have HBN := Lib.hid (bodyN_eq L (cuts block L) (cuts block L).length)
  clear hkw hct hcW hsm hcells hlp
  refine Sq.wp_range rfl (by omega) (gf := 64) (lb := #[.pointer (some ⟨A + 6, 0, none⟩), .pointer (some ⟨A + 5, 0, none⟩)]) rfl trivial (enters_of Try.func64 (by kernel_rfl) rfl)
    HSQ (fun k hk => by simp only [pbT] at hk; omega) (fun _ => rfl)
    (bsI L (cuts block L) (pbT A) (A + 1) (A + 2) (A + 3) (A + 4) W0) (fun c R pre X => False)
    (fun a' x R pre X => bsI L (cuts block L) (pbT A) (A + 1) (A + 2) (A + 3) (A + 4) W0 R pre X ∧ a' = { tmps := #[.int .i64 block, .slice (some ⟨fb, fo, none⟩) L.length cap, undef, .pointer (some ⟨A, 0, none⟩), .string ⟨#[]⟩, .string ⟨#[]⟩, .pointer (some ⟨A + 1, 0, none⟩), .pointer (some ⟨A + 2, 0, none⟩), .pointer (some ⟨A + 3, 0, none⟩), .pointer (some ⟨A + 4, 0, none⟩), .int .i64 (x.1 : Int), .string (Cd.bs x.2), undef, undef, undef, .int .i64 block, .slice (some ⟨fb, fo, none⟩) L.length cap, cutV (A + 5), .int .i64 (x.1 : Int), .string (Cd.bs x.2), undef, undef, undef, undef, undef, undef, undef, undef, undef, undef, undef, undef, undef, undef, undef, undef, undef, undef, undef, undef, undef, undef, undef, undef, undef, undef, undef, undef, undef, undef, undef, undef, undef, undef, undef, undef, undef, undef], defers := [] })
    (bsI_steady _ _ _ _ _ _ _ _) (fun c => Sq.Steady.no) (fun a' x => (bsI_steady _ _ _ _ _ _ _ _).and (fun _ _ _ _ _ hs _ => hs))
    ⟨hst, Sq.Kept.refl _ _, fun _ _ _ h => h⟩ ?assign ?body ?done ?stop
  case assign =>
    intro lp R pre x X hbd hsp hi
    gi_wp2
    exact ⟨Sq.Kept.refl _ _, hi, by first | rfl | trivial⟩
  case body =>
    rintro lp R pre x a' X hRl hrec hbd hsp ⟨⟨hI, hK, hnR⟩, rfl⟩
    have hln : (pre ++ [x]).length ≤ (pieces block L).length := hsp.length_le
    rw [List.length_append] at hln
    simp only [List.length_cons, List.length_nil] at hln
    have hpl : (pieces block L).length = (cuts block L).length := by unfold pieces; simp
    have hn : pre.length < (cuts block L).length := by omega
    have hx : x = piece L (cuts block L)[pre.length] := by
      have h1 := hsp.getElem (i := pre.length) (by simp)
      rw [List.getElem_append_right (Nat.le_refl _)] at h1
      simp only [Nat.sub_self, List.getElem_cons_zero] at h1
      rw [h1]; unfold pieces; rw [List.getElem_map]
    obtain ⟨p, hp⟩ : ∃ p, p = (cuts block L)[pre.length] := ⟨_, rfl⟩
    rw [← hp] at hx
    have hsucc := bodyP_succ L (cuts block L) pre.length hn
    have hseen := seenN_succ hn
    have hcs := cuts_seen block L (pre.length + 1) (by omega)
    obtain ⟨hc1, hc2⟩ := HCT.out.1 pre.length hn
    obtain ⟨hbl1, hbl2⟩ := HBL.out pre.length (by omega)
    have hbl3 := hbl2 (by omega)
    have hcs0 := cuts_seen block L pre.length (by omega)
    rw [← hp] at hsucc hseen hc1 hc2
    subst hx
    have hkx : Boxed X A 31 (.slice (some ⟨fb, fo, none⟩) L.length cap) := hK.boxed (by simp only [pbT]; omega) hbx
    have hcx : ∀ j (h : j < L.length), At X fb (fo + j * 4) L[j] := fun j h => At.kept (HCW.out j h) hK (by simp only [pbT]; omega)
    refine span_body lp R (pbT A) pre (piece L p) (bsI L (cuts block L) (pbT A) (A + 1) (A + 2) (A + 3) (A + 4) W0) _ A (A + 1) (A + 2) (A + 3) (A + 4) _ _ pre.length (seenN (cuts block L) pre.length) (seenN (cuts block L) (pre.length + 1)) X L p (some ⟨fb, fo, none⟩) cap fb fo hI (fun k hk => (hbd k hk).2) hkx (by simp only [pbT]; omega) ⟨rfl, by simp only [pbT]; omega⟩ hcx HM.out hL hseen (by omega) hcs (by omega) (by omega) (by omega) ?_
    intro W' hst' hk'
    refine ⟨?_, hK.trans (hk'.less fun k hk _ => .inr hk), fun k hk hl hr => hnR k hk hl hr⟩
    rw [List.length_append, List.length_cons, List.length_nil, hsucc]
    unfold bodyStep
    have hsp2 : spanB (bodyP L (cuts block L) pre.length).1.length L p = Cd.putU (bodyP L (cuts block L) pre.length).1.length ++ Cd.putU (dataF L p).length ++ Cd.putU p.2 ++ Cd.putT (encKey (L.getD (seenN (cuts block L) (pre.length + 1) - 1) ver0)) := by
      unfold spanB lastOf
      rw [encKey_val, hc1, ← hseen]
      rw [hc1, ← hseen, getD_at (by omega)]
      exact HM.out _ (List.getElem_mem _)
    rw [hsp2]
    exact hst'
  case done =>
    rintro D R ys X hD hRD rfl ⟨hI, hK, hnR⟩ hdf
    have hpl : (pieces block L).length = (cuts block L).length := by unfold pieces; simp
    rw [hpl] at hI
    obtain ⟨hso1, hso2⟩ := HSO.out
    have hl := HBL.out (cuts block L).length (Nat.le_refl _)
    have hl2 := hl.2 (by omega)
    have hcs := cuts_seen block L (cuts block L).length (Nat.le_refl _)
    have hl1 : (bodyP L (cuts block L) (cuts block L).length).1.length ≤ 17592186044416 := by omega
    have HFIN := Lib.hid (show Value.tuple #[.string (Cd.bs (bodyP L (cuts block L) (cuts block L).length).1), .string (Cd.bs (Cd.putU (cuts block L).length ++ (bodyP L (cuts block L) (cuts block L).length).2))] = .tuple #[.string (Cd.bs (bodyN L (cuts block L) (cuts block L).length).1), .string (Cd.bs (bodyN L (cuts block L) (cuts block L).length).2)] by rw [HBN.out])
    clear hl HBL HSO HBN HSQ HCW HCT HSM HM hpl
    obtain ⟨r, hr⟩ : ∃ r, r = Value.tuple #[.string (Cd.bs (bodyN L (cuts block L) (cuts block L).length).1), .string (Cd.bs (bodyN L (cuts block L) (cuts block L).length).2)] := ⟨_, rfl⟩
    rw [← hr] at HFIN
    have HRV := Lib.hid hr
    clear hr
    obtain ⟨bp, hbp⟩ : ∃ bp, bp = bodyP L (cuts block L) (cuts block L).length := ⟨_, rfl⟩
    rw [← hbp] at hI hso1 hso2 hl1 hl2 HFIN
    clear hbp
    obtain ⟨dt, sp⟩ := bp
    simp only at hI hso1 hso2 hl1 hl2 HFIN
    obtain ⟨nb, hnb⟩ : ∃ nb, nb = (cuts block L).length := ⟨_, rfl⟩
    rw [← hnb] at hI hl2 hps2 HFIN
    clear hnb hcs hps
    have HP := Lib.hid (fun W => putUc_at (nb : Int) nb W rfl (by omega))
    have l1 := Cd.putU_len10 nb (by omega)
    have hw1 : IntKind.u64.wrap (nb : Int) = (nb : Int) := Cd.wrapU_nat (by omega)
    generalize Cd.putU nb = un at *
    have HRR := Lib.hid (show Value.string (Cd.bs un ++ Cd.bs sp) = .string (Cd.bs (un ++ sp)) from congrArg Value.string (ByteArray.mk_append_mk _ _))
    have H := Lib.hid hI
    obtain ⟨x8, x9, _, _, l8, l9⟩ := hI.cells
    have HX := Lib.hid (hI.below (Below.refl _ _).drew)
    have tok6 : Hid True := trivial
    have hlr : (Cd.bs un).size + (Cd.bs sp).size ≤ 9223372036854775807 := by show un.length + sp.length ≤ _; omega
    have q1 : ¬ 9223372036854775807 < un.length + sp.length := by omega
    go_wp2_with fail
    go_cut [4, 5] from 52 to 57 (fun r1 r2 wx => r1 = .string (Cd.bs dt) ∧ r2 = .string (Cd.bs (un ++ sp)) ∧ Sq.Kept (fun k => R k ∨ pbT A k) X wx)
    case first =>
      refine wp_region_noPanic ?_
      go_region_law (first
        | (go_simp; (have _t := tok6; clear _t tok6); go_at_call 53; refine (HX.out.str6 hso1).mono ?_; rintro e w1 ⟨rfl, hs7, hk1⟩; have HS7 := Lib.hid hs7; have HK1 := Lib.hid ((Sq.Kept.drew _ _).trans hk1); have y8 := hs7.x8.1; have yl := hs7.x8.2; clear hs7 hk1)
        | (go_simp; go_at_call 47; refine (HP.out _).mono ?_; rintro e w2 ⟨rfl, hb2⟩; have HS8 := Lib.hid (HS7.out.below hb2); have HK2 := Lib.hid (HK1.out.trans (Sq.Kept.of_below hb2)); clear hb2)
        | (go_simp; go_at_call 53; refine (HS8.out.str hso2).mono ?_; rintro e w3 ⟨rfl, hk3⟩; have HK3 := Lib.hid (HK2.out.trans hk3); clear hk3))
      all_goals (refine NoPanic.normal ?_; go_wp2_with fail)
      all_goals go_meet
      all_goals exact ⟨rfl, HRR.out, HK3.out⟩
    case rest =>
      obtain ⟨rfl, rfl, hkf⟩ := hcut
      go_wp2_with fail
      have hdw : wc.heap[D]? = some (.deferred (some [])) := (hkf.block D (.inl hRD) (Array.getElem?_eq_some_iff.1 hdf).1).trans hdf
      refine Sq.leaves_marks [D] _ (by simp) (fun E hE => by simp only [List.mem_cons, List.not_mem_nil, or_false] at hE; subst hE; exact hdw) (fun W' hk' => ⟨_, results_tmp2 rfl _ _ _, ?_, ?_⟩)
      · rw [← HRV.out, ← HFIN.out]; rfl
      · have k1 : Below A w W0 := HKW.out.below (fun k hk => hk) (Nat.le_of_eq hA.symm)
        have k2 : Below A W0 X := hK.below (fun k hk => by simp only [pbT]; omega) (by omega)
        have k3 : Below A X wc := hkf.below (fun k hk => .inr (by simp only [pbT]; omega)) (by have := hK.size; omega)
        have k4 : Below A wc W' := hk'.below (fun k hk hm => by simp only [List.mem_cons, List.not_mem_nil, or_false] at hm; omega) (by have := hK.size; have := hkf.size; omega)
        rw [hA]
        exact ((k1.trans k2).trans k3).trans k4
  case stop =>
    intro D R c pre X _ _ _ h _
    exact h.elim
end Tb
end Go.Proofs.Ytiijkneomecmiaa

/-
  Plain data that a call has made itself, in rows of its own at B or above: kept, read, and put together by append. (What came in: XGen.)
-/
namespace Go.Proofs.Ytiijkneomecmiaa
open Go.RowKit
set_option linter.unusedVariables false
namespace Gn

/-- a row of elements, each of so many cells -/
def OwL (W : World) (B : Nat) (te : TypeId) (sz : Nat) {α : Type} (ow : List Value → α → Prop) (v : Value) (l : List α) : Prop :=
  ∃ rows : List (List Value), rows.length = l.length ∧ W.ownsRow B te sz v l.length rows.flatten ∧ ∀ j (h : j < l.length) (h' : j < rows.length), rows[j].length = sz ∧ ow rows[j] l[j]
mutual
def OwC (P : Program) (B : Nat) (W : World) : (t : Ty) → TypeId → List Value → t.Den → Prop
  | .int k, _, cs, (a : Int) => cs = [.int k a] ∧ (Lit.int k a).wf = true
  | .bool, _, cs, (x : Bool) => cs = [.bool x]
  | .str, _, cs, (l : List UInt8) => cs = [.string ⟨l.toArray⟩] ∧ l.length ≤ maxLen
  | .slice e, ti, cs, (l : List e.Den) => ∃ te v, P.underlying ti = some (.slice te) ∧ cs = [v] ∧ OwL W B te e.size (OwC P B W e te) v l
  | .struct fs, ti, cs, d => ∃ Fs, P.underlying ti = some (.struct Fs) ∧ OwCs P B W fs Fs.toList cs d
def OwCs (P : Program) (B : Nat) (W : World) : (fs : Tys) → List Field → List Value → fs.Den → Prop
  | .nil, _, cs, _ => cs = []
  | .cons t r, l, cs, d => ∃ f l' c1 c2, l = f :: l' ∧ cs = c1 ++ c2 ∧ c1.length = t.size ∧ OwC P B W t f.type c1 d.1 ∧ OwCs P B W r l' c2 d.2
end
mutual
/-- the element types of the rows within -/
def Ty.rowsOf (P : Program) : Ty → TypeId → List TypeId
  | .slice e, ti => (match P.underlying ti with | some (.slice te) => te :: e.rowsOf P te | _ => [])
  | .struct fs, ti => (match P.underlying ti with | some (.struct Fs) => fs.rowsOf P Fs.toList | _ => [])
  | .int _, _ => []
  | .bool, _ => []
  | .str, _ => []
def Tys.rowsOf (P : Program) : Tys → List Field → List TypeId
  | .nil, _ => []
  | .cons t r, l => (match l with | f :: l' => t.rowsOf P f.type ++ r.rowsOf P l' | [] => [])
end

/-- of the rows of these types at B or above none has turned -/
def Spared (B : Nat) (X : List TypeId) (W W' : World) : Prop := ∀ k c te fz, B ≤ k → te ∈ X → W.heap[k]? = some (.cells c te fz) → W'.heap[k]? = W.heap[k]?
theorem Spared.less {B : Nat} {X Y : List TypeId} {W W' : World} (h : Spared B X W W') (hs : ∀ t ∈ Y, t ∈ X) : Spared B Y W W' := fun k c te fz hk ht => h k c te fz hk (hs te ht)
theorem Spared.of_kept {B : Nat} {X : List TypeId} {W W' : World} {T : Sq.Blocks} (h : Sq.Kept T W W') (hT : ∀ k, B ≤ k → k < W.heap.size → T k) : Spared B X W W' :=
  fun k c te fz hk _ hh => h.block k (hT k hk (Array.getElem?_eq_some_iff.1 hh).1) (Array.getElem?_eq_some_iff.1 hh).1
theorem Spared.below {B : Nat} {X : List TypeId} {W W' : World} (h : Below W.heap.size W W') : Spared B X W W' :=
  fun k c te fz hk _ hh => h.block k (Array.getElem?_eq_some_iff.1 hh).1
theorem Spared.alloc {B : Nat} {X : List TypeId} (W : World) (o : Go.Obj) : Spared B X W (W.alloc o) := Spared.below ((Below.refl _ _).alloc (Nat.le_refl _) _)
/-- an append to a row of another type -/
theorem Spared.grown {B B' : Nat} {X : List TypeId} {W W' : World} {te : TypeId} {sz m : Nat} {v : Value} {xs : List Value} (hr : W.ownsRow B' te sz v m xs) (hg : W.grownBy W' v.ownBlock) (hX : te ∉ X) : Spared B X W W' := by
  intro k c t' fz hk ht hh
  refine hg.block k (Array.getElem?_eq_some_iff.1 hh).1 (fun e => ?_)
  rcases hr.2 with ⟨rfl, _⟩ | ⟨g, cap, cur, rfl, _, hgb, _⟩
  · simp [Value.ownBlock] at e
  · obtain rfl : k = g := by simpa [Value.ownBlock] using e
    rw [hgb] at hh
    injection hh with hh
    injection hh with _ h2 _
    exact hX (h2 ▸ ht)
/-- a store into an object of another type -/
theorem Spared.set {B : Nat} {X : List TypeId} {W : World} {b : Nat} {t : TypeId} {cs : List Value} (ho : Ob.Obj W b t cs) (j : Nat) (u : Value) (hX : t ∉ X) : Spared B X W (W.setCell ⟨b, j, none⟩ u) := by
  intro k c t' fz hk ht hh
  refine Below.heap_setCell _ _ _ _ (fun e => ?_)
  simp only at e
  subst e
  have := (show W.heap[k]? = _ from ho).symm.trans hh
  injection this with h1
  injection h1 with _ h2 _
  exact hX (h2 ▸ ht)
theorem row_spared {B : Nat} {X : List TypeId} {W W' : World} {te : TypeId} {sz m : Nat} {v : Value} {xs : List Value} (h : W.ownsRow B te sz v m xs) (hs : Spared B X W W') (ht : te ∈ X) : W'.ownsRow B te sz v m xs := by
  rcases h with ⟨h0, h1 | ⟨g, cap, cur, h1, h2, h3, h4⟩⟩
  · exact ⟨h0, .inl h1⟩
  · exact ⟨h0, .inr ⟨g, cap, cur, h1, h2, (hs g _ te _ h2 ht h3).trans h3, h4⟩⟩
theorem row_lower {W : World} {B B' : Nat} {e : TypeId} {sz m : Nat} {v : Value} {xs : List Value} (h : W.ownsRow B e sz v m xs) (hB : B' ≤ B) : W.ownsRow B' e sz v m xs := by
  rcases h with ⟨h0, h1 | ⟨g, cap, cur, h1, h2, h3, h4⟩⟩
  · exact ⟨h0, .inl h1⟩
  · exact ⟨h0, .inr ⟨g, cap, cur, h1, Nat.le_trans hB h2, h3, h4⟩⟩
mutual
theorem OwC.spared {P : Program} {B : Nat} {W W' : World} : ∀ (t : Ty) {ti : TypeId} {cs : List Value} {d : t.Den}, OwC P B W t ti cs d → Spared B (t.rowsOf P ti) W W' → OwC P B W' t ti cs d
  | .int k, _, cs, d, h, _ => h
  | .bool, _, cs, d, h, _ => h
  | .str, _, cs, d, h, _ => h
  | .slice e, ti, cs, d, h, hs => by
    obtain ⟨te, v, hu, h1, rows, h2, h3, h4⟩ := h
    have hro : (Ty.slice e).rowsOf P ti = te :: e.rowsOf P te := by simp only [Ty.rowsOf, hu]
    rw [hro] at hs
    exact ⟨te, v, hu, h1, rows, h2, row_spared h3 hs (List.mem_cons_self ..), fun j hj hj' => ⟨(h4 j hj hj').1, OwC.spared e (h4 j hj hj').2 (hs.less (fun t ht => List.mem_cons_of_mem _ ht))⟩⟩
  | .struct fs, ti, cs, d, h, hs => by
    obtain ⟨Fs, hu, h⟩ := h
    have hro : (Ty.struct fs).rowsOf P ti = fs.rowsOf P Fs.toList := by simp only [Ty.rowsOf, hu]
    rw [hro] at hs
    exact ⟨Fs, hu, OwCs.spared fs h hs⟩
theorem OwCs.spared {P : Program} {B : Nat} {W W' : World} : ∀ (fs : Tys) {l : List Field} {cs : List Value} {d : fs.Den}, OwCs P B W fs l cs d → Spared B (fs.rowsOf P l) W W' → OwCs P B W' fs l cs d
  | .nil, l, cs, d, h, _ => h
  | .cons t r, l, cs, d, h, hs => by
    obtain ⟨f, l', c1, c2, rfl, h2, h3, h4, h5⟩ := h
    have hro : (Tys.cons t r).rowsOf P (f :: l') = t.rowsOf P f.type ++ r.rowsOf P l' := rfl
    rw [hro] at hs
    exact ⟨f, l', c1, c2, rfl, h2, h3, OwC.spared t h4 (hs.less (fun t ht => List.mem_append_left _ ht)), OwCs.spared r h5 (hs.less (fun t ht => List.mem_append_right _ ht))⟩
end
mutual
theorem OwC.lower {P : Program} {B B' : Nat} {W : World} (hB : B' ≤ B) : ∀ (t : Ty) {ti : TypeId} {cs : List Value} {d : t.Den}, OwC P B W t ti cs d → OwC P B' W t ti cs d
  | .int k, _, cs, d, h => h
  | .bool, _, cs, d, h => h
  | .str, _, cs, d, h => h
  | .slice e, ti, cs, d, h => by
    obtain ⟨te, v, hu, h1, rows, h2, h3, h4⟩ := h
    exact ⟨te, v, hu, h1, rows, h2, row_lower h3 hB, fun j hj hj' => ⟨(h4 j hj hj').1, OwC.lower hB e (h4 j hj hj').2⟩⟩
  | .struct fs, ti, cs, d, h => by
    obtain ⟨Fs, hu, h⟩ := h
    exact ⟨Fs, hu, OwCs.lower hB fs h⟩
theorem OwCs.lower {P : Program} {B B' : Nat} {W : World} (hB : B' ≤ B) : ∀ (fs : Tys) {l : List Field} {cs : List Value} {d : fs.Den}, OwCs P B W fs l cs d → OwCs P B' W fs l cs d
  | .nil, l, cs, d, h => h
  | .cons t r, l, cs, d, h => by
    obtain ⟨f, l', c1, c2, rfl, h2, h3, h4, h5⟩ := h
    exact ⟨f, l', c1, c2, rfl, h2, h3, OwC.lower hB t h4, OwCs.lower hB r h5⟩
end
theorem flatten_get {sz : Nat} : ∀ (rows : List (List Value)), (∀ j (h : j < rows.length), rows[j].length = sz) → ∀ j (h : j < rows.length) k, k < sz → rows.flatten[j * sz + k]? = rows[j][k]?
  | [], _, j, h, _, _ => by simp at h
  | r :: rs, hl, 0, _, k, hk => by
    have h0 := hl 0 (by simp)
    simp only [List.getElem_cons_zero] at h0
    rw [List.flatten_cons, Nat.zero_mul, Nat.zero_add, List.getElem?_append_left (by omega)]
    rfl
  | r :: rs, hl, j + 1, h, k, hk => by
    have h0 := hl 0 (by simp)
    simp only [List.getElem_cons_zero] at h0
    have := flatten_get rs (fun i hi => by have := hl (i + 1) (by simpa using hi); simpa using this) j (by simpa using h) k hk
    rw [List.flatten_cons, List.getElem?_append_right (by rw [h0, Nat.succ_mul]; omega), h0, show (j + 1) * sz + k - sz = j * sz + k by rw [Nat.succ_mul]; omega]
    exact this
theorem flatten_len {sz : Nat} : ∀ (rows : List (List Value)), (∀ j (h : j < rows.length), rows[j].length = sz) → rows.flatten.length = rows.length * sz
  | [], _ => by simp
  | r :: rs, hl => by
    have h0 := hl 0 (by simp)
    simp only [List.getElem_cons_zero] at h0
    rw [List.flatten_cons, List.length_append, h0, flatten_len rs (fun i hi => by have := hl (i + 1) (by simpa using hi); simpa using this), List.length_cons, Nat.succ_mul]
    omega
theorem row_at {W : World} {B : Nat} {te : TypeId} {sz m : Nat} {v : Value} {xs : List Value} (h : W.ownsRow B te sz v m xs) :
    ∃ (a : Option Addr) (cap b : Nat), v = .slice a m cap ∧ m ≤ cap ∧ cap ≤ maxLen ∧ (0 < m → a = some ⟨b, 0, none⟩ ∧ B ≤ b ∧ b < W.heap.size ∧ ∀ j, j < m * sz → W.cell? ⟨b, j, none⟩ = xs[j]?) := by
  have hc := h
  rcases h.2 with ⟨rfl, rfl⟩ | ⟨g, cap, cur, rfl, h2, h3, h4, h5, h6⟩
  · exact ⟨none, 0, 0, rfl, Nat.le_refl _, Nat.zero_le _, fun h => by omega⟩
  · refine ⟨_, cap, g, rfl, h4, h5, fun _ => ⟨rfl, h2, (Array.getElem?_eq_some_iff.1 h3).1, fun j hj => ?_⟩⟩
    exact hc.cellAt j hj
mutual
theorem OwC.rd {P : Program} {B : Nat} {W : World} : ∀ (t : Ty) {ti : TypeId} {cs : List Value} {d : t.Den}, OwC P B W t ti cs d → RdC W.heap.size W t cs d
  | .int k, _, cs, d, h => h
  | .bool, _, cs, d, h => h
  | .str, _, cs, d, h => h
  | .slice e, ti, cs, d, h => by
    obtain ⟨te, v, hu, rfl, rows, h2, h3, h4⟩ := h
    obtain ⟨a, cap, b, rfl, g1, g2, g3⟩ := row_at h3
    refine ⟨a, cap, b, 0, rfl, g1, g2, fun h => ⟨(g3 h).1, (g3 h).2.2.1⟩, fun j hj => ?_⟩
    have hj' : j < rows.length := by omega
    obtain ⟨k1, k2⟩ := h4 j hj hj'
    refine ⟨rows[j], k1, fun k hk => ?_, OwC.rd e k2⟩
    have hlt : j * e.size + k < d.length * e.size := by
      have : (j + 1) * e.size ≤ d.length * e.size := Nat.mul_le_mul_right _ (by omega)
      rw [Nat.succ_mul] at this; omega
    rw [Nat.zero_add, (g3 (by omega)).2.2.2 _ hlt, flatten_get rows (fun i hi => (h4 i (by omega) hi).1) j hj' k hk]
  | .struct fs, ti, cs, d, h => by
    obtain ⟨Fs, hu, h⟩ := h
    exact OwCs.rd fs h
theorem OwCs.rd {P : Program} {B : Nat} {W : World} : ∀ (fs : Tys) {l : List Field} {cs : List Value} {d : fs.Den}, OwCs P B W fs l cs d → RdCs W.heap.size W fs cs d
  | .nil, l, cs, d, h => h
  | .cons t r, l, cs, d, h => by
    obtain ⟨f, l', c1, c2, rfl, h2, h3, h4, h5⟩ := h
    exact ⟨c1, c2, h2, h3, OwC.rd t h4, OwCs.rd r h5⟩
end
theorem OwL.nil {W : World} {B : Nat} {te : TypeId} {sz : Nat} {α : Type} {ow : List Value → α → Prop} : OwL W B te sz ow (.slice none 0 0) ([] : List α) :=
  ⟨[], rfl, World.ownsRow_nil _ _ _ _, fun j h => by simp at h⟩
/-- behind the append of one element: its row may lie elsewhere now -/
theorem OwL.snoc {P : Program} {W W2 : World} {B : Nat} {te : TypeId} {e : Ty} {v v2 : Value} {l : List e.Den} {rows : List (List Value)} {cs : List Value} {x : e.Den}
    (hr : rows.length = l.length) (hel : ∀ j (h : j < l.length) (h' : j < rows.length), rows[j].length = e.size ∧ OwC P B W e te rows[j] l[j]) (hx : OwC P B W e te cs x) (hcs : cs.length = e.size)
    (hown : W2.ownsRow B te e.size v2 (l.length + 1) (rows.flatten ++ cs)) (hs : Spared B (e.rowsOf P te) W W2) : OwL W2 B te e.size (OwC P B W2 e te) v2 (l ++ [x]) := by
  refine ⟨rows ++ [cs], by simp [hr], ?_, fun j h h' => ?_⟩
  · rw [List.length_append, List.length_singleton, List.flatten_append]
    simpa using hown
  · by_cases hj : j < l.length
    · rw [List.getElem_append_left hj, List.getElem_append_left (by omega)]
      exact ⟨(hel j hj (by omega)).1, OwC.spared e (hel j hj (by omega)).2 hs⟩
    · obtain rfl : j = l.length := by simp at h; omega
      rw [List.getElem_append_right (Nat.le_refl _), List.getElem_append_right (by omega)]
      simp only [Nat.sub_self, List.getElem_cons_zero, hr]
      exact ⟨hcs, OwC.spared e hx hs⟩
end Gn
end Go.Proofs.Ytiijkneomecmiaa

/-
  Rows of versions that the call itself has made: appended to, read.
-/
namespace Go.Proofs.Ytiijkneomecmiaa
open Go.RowKit
set_option linter.unusedVariables false

theorem info_Version : (Try.prog.info? 24).map (fun i => (i.zero, i.size, i.bytes)) = some (some (.agg #[.string ⟨#[]⟩, .int .u64 0, .bool false, .string ⟨#[]⟩]), 4, 48) := by kernel_rfl
namespace Vs
open Mt (Ver VerIn verV)
theorem cell_four_new (w : World) (a b c d : Value) (t : TypeId) : ∀ j u, [a, b, c, d][j]? = some u → (w.alloc (.cells #[a, b, c, d] t)).cell? ((⟨w.heap.size, 0, none⟩ : Addr).add j) = some u := by
  intro j u hj
  match j, hj with
  | 0, hj => simp at hj; subst hj; simp [Addr.add]
  | 1, hj => simp at hj; subst hj; simp [Addr.add]
  | 2, hj => simp at hj; subst hj; simp [Addr.add]
  | 3, hj => simp at hj; subst hj; simp [Addr.add]
  | (j + 4), hj => simp at hj
def vC (x : Ver) : List Value := [.string (Cd.bs x.key), .int .u64 x.seq, .bool x.del, .string (Cd.bs x.val)]
def vcs (L : List Ver) : List Value := (L.map vC).flatten
theorem vcs_snoc (L : List Ver) (x : Ver) : vcs (L ++ [x]) = vcs L ++ [.string (Cd.bs x.key), .int .u64 x.seq, .bool x.del, .string (Cd.bs x.val)] := by simp [vcs, vC]
/-- such a row is read as versions -/
theorem vers_of_own {W : World} {B : Nat} {te : TypeId} {v : Value} {L : List Ver} (h : W.ownsRow B te 4 v L.length (vcs L)) : Vers W.heap.size W v L := by
  obtain ⟨a, cap, b, rfl, _, _, h3⟩ := Gn.row_at h
  refine ⟨a, cap, b, 0, rfl, fun h => ⟨(h3 h).1, (h3 h).2.2.1⟩, fun j hj => ?_⟩
  obtain ⟨_, _, _, hc⟩ := h3 (by omega)
  have hg : ∀ k, k < 4 → W.cell? ⟨b, j * 4 + k, none⟩ = (vC L[j])[k]? := fun k hk => by
    rw [hc (j * 4 + k) (by omega)]
    have := Gn.flatten_get (sz := 4) (L.map vC) (fun i hi => by simp [vC]) j (by simpa using hj) k hk
    unfold vcs
    rw [this]
    simp
  have e : 0 + j * 4 = j * 4 := by omega
  rw [e]
  exact ⟨hg 0 (by decide), hg 1 (by decide), hg 2 (by decide), hg 3 (by decide)⟩
end Vs
end Go.Proofs.Ytiijkneomecmiaa

/-
  The builtin copy of elements of several cells, onto a row of one's own.
-/
namespace Go.Proofs.Ytiijkneomecmiaa
open Go.RowKit
namespace Cw
variable {P : Program}
theorem run_copy_wide (w : World) (dT sT ty elem : TypeId) (g n dCap : Nat) (a : Addr) (sCap sz : Nat) (cur : Array Value) (t : TypeId) (cs : List Value)
    (hu : P.underlying dT = some (.slice elem)) (hs : (P.info? elem).map (·.size) = some sz)
    (hg : w.heap[g]? = some (.cells cur t (0, 0))) (hn : cs.length = n * sz)
    (hsrc : ∀ j v, cs[j]? = some v → w.cell? (a.add j) = some v) (hfit : cs.length ≤ cur.size) (h1 : ∀ v ∈ cs, v.oneCell' = true) :
    (Builtin.copy_ #[dT, sT] ty #[.slice (some ⟨g, 0, none⟩) n dCap, .slice (some a) n sCap]).run P w =
      .ok (goInt n) (w.setRow g (cs ++ cur.toList.drop cs.length).toArray) := by
  have hl := run_loadCells_list (P := P) w a cs hsrc
  have hst := run_storeCells_at P g 0 t cs 0 cur w hg (by simpa using hfit) h1
  cases hq : P.info? elem with
  | none => simp [hq] at hs
  | some i =>
    have hi : i.size = sz := by simpa [hq] using hs
    simp [Builtin.copy_, run_underlying hu, Builtin.lenOf, Builtin.firstCells, sizeOf, typeInfo, hq, hi, ← hn, hl, hst]
theorem run_copy_zero (w : World) (dT sT ty elem : TypeId) (d a : Option Addr) (dCap sCap : Nat) (sz : Nat) (hu : P.underlying dT = some (.slice elem)) (hs : (P.info? elem).map (·.size) = some sz) :
    (Builtin.copy_ #[dT, sT] ty #[.slice d 0 dCap, .slice a 0 sCap]).run P w = .ok (goInt 0) w := by
  cases hq : P.info? elem with
  | none => simp [hq] at hs
  | some i =>
    have hl : ∀ (x : Addr), (loadCells x 0).run P w = .ok #[] w := fun x => by simpa using run_loadCells_list (P := P) w x [] (by simp)
    cases d <;> cases a <;> simp [Builtin.copy_, run_underlying hu, Builtin.lenOf, Builtin.firstCells, sizeOf, typeInfo, hq, storeCells, hl]
/-- a whole list of n elements onto a row of as many -/
theorem wpList_copy_wide {w : World} {ops : Array Oper} {rest : List Oper} {o : Oper} {a : Act} {Q : Exit → Act → World → Prop} (hgd : o.guard = none) (d s : Operand) (dT sT : TypeId)
    (ho : o.op = .call { callee := .builtin .copy, args := #[d, s], argTypes := #[dT, sT] }) (elem : TypeId) (sz : Nat) (hu : P.underlying dT = some (.slice elem)) (hsz : (P.info? elem).map (·.size) = some sz)
    (sp : Option Addr) (n dCap sCap : Nat) (g : Nat) (hd : a.eval d = .slice (some ⟨g, 0, none⟩) n dCap) (hs : a.eval s = .slice sp n sCap)
    (cur : List Value) (t : TypeId) (hg : w.heap[g]? = some (.cells cur.toArray t (0, 0))) (cs : List Value) (hn : cs.length = n * sz) (hcur : cur.length = n * sz)
    (hpos : 0 < n → ∃ ad, sp = some ad ∧ ∀ j v, cs[j]? = some v → w.cell? (ad.add j) = some v) (h1 : ∀ v ∈ cs, v.oneCell' = true) (B : Nat) (w0 : World) (hb : Below B w0 w) (hBg : B ≤ g)
    (h : ∀ w', Hid (w'.heap[g]? = some (.cells cs.toArray t (0, 0))) → Below B w0 w' → wpList P ops Q rest (a.put o.dst (goInt n)) w') :
    wpList P ops Q (o :: rest) a w := by
  by_cases h0 : n = 0
  · subst h0
    rw [Nat.zero_mul] at hn hcur
    obtain rfl := List.eq_nil_of_length_eq_zero hn
    obtain rfl := List.eq_nil_of_length_eq_zero hcur
    have hrun := run_copy_zero (P := P) w dT sT o.type elem (some ⟨g, 0, none⟩) sp dCap sCap sz hu hsz
    refine wpList_plain hgd fun K hK => ?_
    unfold Oper.wp
    simp [execOp, ho, resolve, invoke, builtin, hd, hs, hrun, Result.andThen]
    exact hK _ _ (h w hg hb)
  · obtain ⟨ad, rfl, hsrc⟩ := hpos (by omega)
    have hrun := run_copy_wide (P := P) w dT sT o.type elem g n dCap ad sCap sz cur.toArray t cs hu hsz hg hn hsrc (by simp; omega) h1
    have hdrop : cur.drop cs.length = [] := List.drop_eq_nil_of_le (by omega)
    refine wpList_plain hgd fun K hK => ?_
    unfold Oper.wp
    simp [execOp, ho, resolve, invoke, builtin, hd, hs, hrun, Result.andThen, hdrop]
    exact hK _ _ (h _ (show _ = _ from setRow_heap w g _ _ t _ hg) (below_setRow hb hBg _))
end Cw
end Go.Proofs.Ytiijkneomecmiaa

/-
  The document's looks at rows of versions (tapestryref06): Same, Bytes, Newest, From.
-/
namespace Go.Proofs.Ytiijkneomecmiaa
open Go.RowKit
set_option linter.unusedSimpArgs false
set_option linter.unusedVariables false
namespace Mt
open Vs (Vers At)

set_option maxRecDepth 100000 in
set_option maxHeartbeats 4000000 in
theorem sameR_eq (u v : Value) (L : List Ver) (w : World) (hU : Vers w.heap.size w u L) (hV : Vers w.heap.size w v L) (hL : L.length ≤ 4611686018427387904) :
    Calls Try.prog 15 #[u, v] w fun e w' => e = .returned (.bool true) ∧ Below w.heap.size w w' := by
  obtain ⟨a, cap, fb, fo, rfl, ha, hcells⟩ := hU
  obtain ⟨a', cap', gb, go', rfl, ha', hcells'⟩ := hV
  have HC := Lib.hid hcells
  have HD := Lib.hid hcells'
  clear hcells hcells'
  go_enter Try.func15, Try.ntmps15
  go_wp2_with fail
  go_loopw [5] (fun i wr => ∃ q : Nat, q ≤ L.length ∧ i = .int .i64 (q : Int) ∧ Below w.heap.size w wr) (fun i _ => L.length - (intOf i).toNat)
  case atStart => exact ⟨0, Nat.zero_le _, rfl, Below.refl _ _⟩
  case round =>
    obtain ⟨q, hq, rfl, hB⟩ := hrel
    by_cases hlt : q < L.length
    · obtain ⟨rfl, hfb⟩ := ha (by omega)
      obtain ⟨rfl, hgb⟩ := ha' (by omega)
      obtain ⟨e0, e1, e2, e3⟩ := (HC.out q hlt).below hB hfb
      obtain ⟨d0, d1, d2, d3⟩ := (HD.out q hlt).below hB hgb
      have hi1 : (0 : Int) ≤ (q : Int) ∧ (q : Int) < (L.length : Int) := by omega
      generalize L[q] = x at *
      obtain ⟨k, sq, d, val⟩ := x
      simp only at e0 e1 e2 e3 d0 d1 d2 d3
      go_wp2_with fail
      go_big_quiet (fail)
      go_wp2_with fail
      go_roundw
      case rel => exact ⟨q + 1, by omega, by go_num, belowN hB _⟩
      case measure => simp [intOf]; omega
    · obtain rfl : q = L.length := by omega
      go_wp2_with fail
      go_ret
      exact ⟨rfl, hB⟩

theorem bytes_take (L : List Ver) (q : Nat) (h : q < L.length) : ((L.take (q + 1)).map fun x => x.key.length + x.val.length + 16).sum = ((L.take q).map fun x => x.key.length + x.val.length + 16).sum + (L[q].key.length + L[q].val.length + 16) := by
  rw [List.take_succ_eq_append_getElem h, List.map_append, List.sum_append]
  simp
theorem bytes_le (L : List Ver) (h : ∀ x ∈ L, VerIn x) : ∀ q, ((L.take q).map fun x => x.key.length + x.val.length + 16).sum ≤ 2097168 * q := by
  intro q
  induction q with
  | zero => simp
  | succ q ih =>
    by_cases hq : q < L.length
    · rw [bytes_take L q hq]
      obtain ⟨h1, h2, _, _⟩ := h L[q] (List.getElem_mem hq)
      omega
    · rw [List.take_of_length_le (by omega), ← List.take_of_length_le (l := L) (i := q) (by omega)]
      omega

end Mt
end Go.Proofs.Ytiijkneomecmiaa
/-
  Chapter 8: what the program owes of tables, and the law TableBuilds over it.
-/
namespace Go.Proofs.Ytiijkneomecmiaa
open Go.RowKit
set_option linter.unusedSimpArgs false
set_option linter.unusedVariables false
namespace Tb
open Mt (Ver mayB lessB placeB VerIn verV)
open Vs (Vers At VersIn vcs)

/-- versions that lie in a slice with room -/
structure VersK (W : World) (a : Option Addr) (cap fb fo : Nat) (L : List Ver) : Prop where
  fits : L.length ≤ cap
  most : cap ≤ 9223372036854775807
  at0 : 0 < L.length → a = some ⟨fb, fo, none⟩ ∧ fb < W.heap.size
  cells : ∀ j (h : j < L.length), At W fb (fo + j * 4) L[j]
  each : ∀ x ∈ L, VerIn x
  many : L.length ≤ 1048576
  sum : (L.map Vs.nv).sum ≤ 1048576
theorem VersK.grow {W W' : World} {a : Option Addr} {cap fb fo : Nat} {L : List Ver} (h : VersK W a cap fb fo L) (hb : Below W.heap.size W W') : VersK W' a cap fb fo L :=
  ⟨h.fits, h.most, fun h0 => ⟨(h.at0 h0).1, Nat.lt_of_lt_of_le (h.at0 h0).2 hb.size⟩, fun j hj => (h.cells j hj).below hb (h.at0 (by omega)).2, h.each, h.many, h.sum⟩
theorem VersK.vers {W : World} {a : Option Addr} {cap fb fo : Nat} {L : List Ver} (h : VersK W a cap fb fo L) : Vers W.heap.size W (.slice a L.length cap) L := ⟨a, cap, fb, fo, rfl, h.at0, h.cells⟩

def BuildTOk : Prop := ∀ (block bits : Int) (a : Option Addr) (cap fb fo : Nat) (L : List Ver) (w : World), VersK w a cap fb fo L → (-9223372036854775808 ≤ block ∧ block ≤ 9223372036854775807) → (-9223372036854775808 ≤ bits ∧ bits ≤ 9223372036854775807) →
    Calls Try.prog 13 #[.int .i64 block, .int .i64 bits, .slice a L.length cap] w fun e w' => e = .returned (encBlkV (buildT block bits L)) ∧ Below w.heap.size w w'

theorem info_ver8 : (Try.prog.info? 24).map (fun i => (i.zero, i.size, i.bytes)) = some (some (.agg #[.string ⟨#[]⟩, .int .u64 0, .bool false, .string ⟨#[]⟩]), 4, 48) := by kernel_rfl
theorem row_cells8 {W : World} {B g n cap sz : Nat} {e : TypeId} {xs : List Value} (h : W.ownsRow B e sz (.slice (some ⟨g, 0, none⟩) n cap) n xs) : ∃ cur : List Value, W.heap[g]? = some (.cells cur.toArray e (0, 0)) ∧ cur.length = cap * sz := by
  rcases h.2 with ⟨h1, _⟩ | ⟨g', cap', cur, h1, h2, h3, h4, h5, h6, h7⟩
  · cases h1
  · injection h1 with e1 e2 e3
    injection e1 with e1
    injection e1 with e1 _ _
    subst e1; subst e3
    exact ⟨cur.toList, by simpa using h3, by simpa using h6⟩
theorem vcs_len8 (L : List Ver) : (vcs L).length = L.length * 4 := by
  induction L with
  | nil => rfl
  | cons x r ih => rw [show vcs (x :: r) = Vs.vC x ++ vcs r from rfl, List.length_append, ih]; simp [Vs.vC]; omega
theorem vcs_get8 (L : List Ver) (j : Nat) (hj : j < L.length) (k : Nat) (hk : k < 4) : (vcs L)[j * 4 + k]? = (Vs.vC L[j])[k]? := by
  have := Gn.flatten_get (sz := 4) (L.map Vs.vC) (fun i hi => by simp [Vs.vC]) j (by simpa using hj) k hk
  unfold vcs
  rw [this]
  simp
theorem vcs_one (L : List Ver) : ∀ v ∈ vcs L, v.oneCell' = true := by
  intro v hv
  unfold vcs at hv
  obtain ⟨r, hr, hv⟩ := List.mem_flatten.1 hv
  obtain ⟨p, _, rfl⟩ := List.mem_map.1 hr
  simp only [Vs.vC, List.mem_cons, List.not_mem_nil, or_false] at hv
  rcases hv with rfl | rfl | rfl | rfl <;> rfl
theorem vers_src {W : World} {a : Option Addr} {cap fb fo : Nat} {L : List Ver} (h : VersK W a cap fb fo L) : 0 < L.length → ∃ ad, a = some ad ∧ ∀ j v, (vcs L)[j]? = some v → W.cell? (ad.add j) = some v := by
  intro h0
  refine ⟨⟨fb, fo, none⟩, (h.at0 h0).1, fun j v hj => ?_⟩
  have hlt : j < L.length * 4 := by
    have := (List.getElem?_eq_some_iff.1 hj).1
    rwa [vcs_len8] at this
  have hq : j / 4 < L.length := by omega
  obtain ⟨k1, k2, k3, k4⟩ := h.cells (j / 4) hq
  have hadd : (⟨fb, fo, none⟩ : Addr).add j = ⟨fb, fo + j, none⟩ := by unfold Addr.add; split <;> simp_all
  rw [hadd]
  have hg := vcs_get8 L (j / 4) hq (j % 4) (Nat.mod_lt _ (by omega))
  rw [show j / 4 * 4 + j % 4 = j by omega, hj] at hg
  have hr : j % 4 = 0 ∨ j % 4 = 1 ∨ j % 4 = 2 ∨ j % 4 = 3 := by omega
  rcases hr with hr | hr | hr | hr
  · rw [hr] at hg; rw [show fo + j = fo + j / 4 * 4 by omega, k1]; exact hg.symm
  · rw [hr] at hg; rw [show fo + j = fo + j / 4 * 4 + 1 by omega, k2]; exact hg.symm
  · rw [hr] at hg; rw [show fo + j = fo + j / 4 * 4 + 2 by omega, k3]; exact hg.symm
  · rw [hr] at hg; rw [show fo + j = fo + j / 4 * 4 + 3 by omega, k4]; exact hg.symm
theorem versK_of_cells {W : World} {g : Nat} {t : TypeId} {fz : Nat × Nat} {L : List Ver} (h : W.heap[g]? = some (.cells (vcs L).toArray t fz)) (h1 : ∀ x ∈ L, VerIn x) (h2 : L.length ≤ 1048576) (h3 : (L.map Vs.nv).sum ≤ 1048576) : VersK W (some ⟨g, 0, none⟩) L.length g 0 L := by
  refine ⟨Nat.le_refl _, by omega, fun _ => ⟨rfl, (Array.getElem?_eq_some_iff.1 h).1⟩, fun j hj => ?_, h1, h2, h3⟩
  have key : ∀ k, W.cell? ⟨g, k, none⟩ = (vcs L)[k]? := fun k => by simp [World.cell?, h]
  rw [Nat.zero_add]
  exact ⟨(key _).trans (vcs_get8 L j hj 0 (by omega)), (key _).trans (vcs_get8 L j hj 1 (by omega)), (key _).trans (vcs_get8 L j hj 2 (by omega)), (key _).trans (vcs_get8 L j hj 3 (by omega))⟩

set_option maxRecDepth 100000 in
set_option maxHeartbeats 4000000 in
theorem tableBuilds_walk (BB : BuildTOk) (block bits : Int) (a : Option Addr) (cap fb fo : Nat) (L : List Ver) (w : World) (hk0 : -9223372036854775808 ≤ block) (hk1 : block ≤ 9223372036854775807) (hc0 : -9223372036854775808 ≤ bits) (hc1 : bits ≤ 9223372036854775807) (hV : VersK w a cap fb fo L) :
    Calls Try.prog 5 #[.int .i64 block, .int .i64 bits, .slice a L.length cap] w fun e w' => e = .returned (.bool true) ∧ Below w.heap.size w w' := by
  obtain ⟨i0, hi, hz0, hz1, hz2⟩ := info_parts info_ver8
  have hmany := hV.many
  have HV := Lib.hid hV
  have HBD := Lib.hid (fun W (h : Below w.heap.size w W) => BB block bits a cap fb fo L W (hV.grow h) ⟨hk0, hk1⟩ ⟨hc0, hc1⟩)
  have HBR := Lib.hid (fun a cap fb fo W (h : VersK W a cap fb fo L) => buildR8_any block bits a cap fb fo L W h.fits h.at0 h.cells h.each h.many h.most)
  have HSM := Lib.hid (fun u v W (h1 : Vers W.heap.size W u L) (h2 : Vers W.heap.size W v L) => Mt.sameR_eq u v L W h1 h2 (by omega))
  unfold encBlkV at HBD HBR
  generalize buildT block bits L = r at *
  obtain ⟨rb, re⟩ := r
  simp only at HBD HBR
  clear hV
  go_enter Try.func5, Try.ntmps5
  go_wp2_with (first
    | (refine wpList_make_full _ (by rfl) _ _ 31 (by rfl) w.heap.size 24 i0 (.agg #[.string ⟨#[]⟩, .int .u64 0, .bool false, .string ⟨#[]⟩]) 4 Try.underlying31 hi hz0 hz1 .i64 .i64 (L.length : Int) (L.length : Int) L.length (by rfl) (by rfl) rfl rfl (by rw [hz2]; omega) (by unfold maxLen; omega) (Nat.le_refl _) ?_; intro w1 hown hgrow; obtain ⟨cur, hgc, hcc⟩ := row_cells8 hown; have HGC := Lib.hid hgc; have HCC := Lib.hid hcc; have HB1 := Lib.hid (show Below w.heap.size w w1 from (Below.refl _ _).grown hgrow (Nat.le_refl _) (fun k hk => by cases hk)); clear hown hgrow hgc hcc)
    | (refine Cw.wpList_copy_wide (by rfl) _ _ _ _ (by rfl) 24 4 Try.underlying31 (by kernel_rfl) a L.length L.length cap w.heap.size (by rfl) (by rfl) cur 24 HGC.out (vcs L) (vcs_len8 L) HCC.out (vers_src (HV.out.grow HB1.out)) (vcs_one L) w.heap.size _ HB1.out (Nat.le_refl _) ?_; intro w2 hg2 b2; have HB2 := Lib.hid b2; have HH2 := Lib.hid (versK_of_cells hg2.out HV.out.each HV.out.many HV.out.sum); clear hg2 b2)
    | (go_at_call 13; (with_reducible refine (HBD.out _ HB2.out).mono ?_); rintro e w3 ⟨rfl, hb3⟩; have HB3 := Lib.hid (HB2.out.trans (hb3.mono HB2.out.size)); have HH3 := Lib.hid (HH2.out.grow hb3))
    | (go_at_call 14; (with_reducible refine (HBR.out _ _ _ _ _ HH3.out).mono ?_); rintro e w4 ⟨rfl, hb4⟩; have HB4 := Lib.hid (HB3.out.trans (hb4.mono HB3.out.size)); have HH4 := Lib.hid (HH3.out.grow hb4))
    | (go_at_call 15; (with_reducible refine (HSM.out _ _ _ (HV.out.grow HB4.out).vers HH4.out.vers).mono ?_); rintro e w5 ⟨rfl, hb5⟩))
  go_ret
  exact ⟨rfl, HB4.out.trans (hb5.mono HB4.out.size)⟩

open Gn in
set_option maxRecDepth 100000 in
theorem open_versK {H : Type} {enc : TypeId × Value → H} {W : World} {B : Nat} {v : Value} {d : DataW H} {p : List MemPlace} {base : Nat} (hv : Value.okWide Try.prog W .any base 31 v)
    (h : DataW.Trod enc Try.prog W 0 (fun _ => true) true 31 v d p) (hlt : ∀ x ∈ p, x.block < W.heap.size) (hB : Rows.uptoBulk d ≤ B) (hB2 : B ≤ 1048576 := by omega) :
    ∃ (a : Option Addr) (cap fb fo : Nat) (L : List Ver), v = .slice a L.length cap ∧ VersK W a cap fb fo L := by
  obtain ⟨cs, l, rfl, hx, hb⟩ := open_val (.slice Vs.verT) (by kernel_rfl) hv h hB
  replace hb : ((show List Vs.VD from l).map Vs.vbulk).sum + 1 ≤ B := hb
  change List Vs.VD at l
  have hx2 : RdC W.heap.size W (.slice Vs.verT) cs l := hx
  obtain ⟨a, cap, b, off, h1, hc, hm, h2, h3⟩ := hx
  have hs : ∀ x ∈ l, 0 ≤ (Vs.toV x).seq ∧ (Vs.toV x).seq < 18446744073709551616 := fun x hx => by
    obtain ⟨j, hj, rfl⟩ := List.getElem_of_mem hx
    obtain ⟨cs', g1, g2, g3⟩ := h3 j hj
    exact (Vs.rd_ver g3).2
  obtain ⟨k1, k2, k3⟩ := Vs.vers_in hb hB2 hs
  subst h1
  refine ⟨a, cap, b, off, l.map Vs.toV, by rw [List.length_map]; rfl, ⟨by rw [List.length_map]; exact hc, hm, fun h => h2 (by rwa [List.length_map] at h), fun j hj => ?_, k1, k2, k3⟩⟩
  rw [List.length_map] at hj
  obtain ⟨cs', g1, g2, g3⟩ := h3 j hj
  obtain ⟨rfl, _⟩ := Vs.rd_ver g3
  rw [List.getElem_map]
  exact ⟨g2 0 (by decide), g2 1 (by decide), g2 2 (by decide), g2 3 (by decide)⟩
end Tb
end Go.Proofs.Ytiijkneomecmiaa

/-
  The program's tables (table.Build).
-/
namespace Go.Proofs.Ytiijkneomecmiaa
open Go.RowKit
set_option linter.unusedSimpArgs false
set_option linter.unusedVariables false
namespace Tb
open Mt (Ver mayB lessB placeB VerIn verV)
open Vs (Vers At)

theorem lit_mod (n : Nat) : Fr.lit (n % 4294967296) = Fr.lit n := by
  have h : ∀ k, k < 4 → Fr.litByte (n % 4294967296) k = Fr.litByte n k := by
    intro k hk
    unfold Fr.litByte
    congr 1
    have : k = 0 ∨ k = 1 ∨ k = 2 ∨ k = 3 := by omega
    rcases this with rfl | rfl | rfl | rfl <;> simp <;> omega
  unfold Fr.lit
  simp only [List.range, List.range.loop, List.map_cons, List.map_nil]
  rw [h 0 (by omega), h 1 (by omega), h 2 (by omega), h 3 (by omega)]

set_option maxRecDepth 100000 in
set_option maxHeartbeats 4000000 in
theorem buildTOk : BuildTOk := by
  intro block bits a cap fb fo L w hV hbk hbi
  obtain ⟨hcap, hc2, ha, hcells, hI, hL, _⟩ := hV
  have hVv : Vers w.heap.size w (.slice a L.length cap) L := ⟨a, cap, fb, fo, rfl, ha, hcells⟩
  by_cases hbad : (block < 64 ∨ 4096 < block) ∨ (bits < 0 ∨ 20 < bits) ∨ L = []
  · have HE := Lib.hid (show buildT block bits L = ([], 1) from if_pos hbad)
    rw [HE.out]
    unfold encBlkV
    clear hVv hcells
    by_cases h1 : block < 64
    · go_enter Try.func13, Try.ntmps13
      go_wp2_with fail
      go_ret2
      exact ⟨rfl, Below.refl _ _⟩
    by_cases h2 : 4096 < block
    · go_enter Try.func13, Try.ntmps13
      go_wp2_with fail
      go_ret2
      exact ⟨rfl, Below.refl _ _⟩
    by_cases h3 : bits < 0
    · go_enter Try.func13, Try.ntmps13
      go_wp2_with fail
      go_ret2
      exact ⟨rfl, Below.refl _ _⟩
    by_cases h4 : 20 < bits
    · go_enter Try.func13, Try.ntmps13
      go_wp2_with fail
      go_ret2
      exact ⟨rfl, Below.refl _ _⟩
    obtain rfl : L = [] := by
      rcases hbad with h | h | h
      · omega
      · omega
      · exact h
    go_enter Try.func13, Try.ntmps13
    go_wp2_with fail
    go_ret2
    exact ⟨rfl, Below.refl _ _⟩
  · have h1 : ¬ block < 64 := fun h => hbad (.inl (.inl h))
    have h2 : ¬ 4096 < block := fun h => hbad (.inl (.inr h))
    have h3 : ¬ bits < 0 := fun h => hbad (.inr (.inl (.inl h)))
    have h4 : ¬ 20 < bits := fun h => hbad (.inr (.inl (.inr h)))
    have hne : L ≠ [] := fun h => hbad (.inr (.inr h))
    have hpos : 0 < L.length := List.length_pos_iff.2 hne
    have h5 : ((L.length : Int) == 0) = false := by simpa using hne
    obtain ⟨rfl, hfb⟩ := ha hpos
    have HCL := Lib.hid hcells
    have HR := Lib.hid (check_any _ L w hVv hI (by omega))
    have hbt : buildT block bits L = if rising L ≠ 0 then ([], rising L) else
      if 262144 < (bodyN L (cuts block L) (cuts block L).length).2.length ∨ 262144 < (Bm.build bits (keyL L)).length then ([], 5) else
      if 16777216 < (wholeB L (bodyN L (cuts block L) (cuts block L).length).1 (bodyN L (cuts block L) (cuts block L).length).2 (Bm.build bits (keyL L))).length then ([], 5) else
      (wholeB L (bodyN L (cuts block L) (cuts block L).length).1 (bodyN L (cuts block L) (cuts block L).length).2 (Bm.build bits (keyL L)), 0) := if_neg hbad
    by_cases hr : rising L = 0
    · rw [if_neg (by simpa using hr)] at hbt
      rw [hr] at HR
      have hmay := rising_may hr
      have hval : ∀ x ∈ L, x.val.length ≤ 16384 := fun x hx => (may_seq (hmay x hx)).2.2.2.2.1
      have HBL := Lib.hid (fun W (hb : Below w.heap.size w W) => putBlocks_any block (by omega) (by omega) (some ⟨fb, fo, none⟩) cap fb fo L W hne hmay hL ⟨rfl, Nat.lt_of_lt_of_le hfb hb.size⟩ (fun j hj => (hcells j hj).below hb hfb))
      obtain ⟨c1, c2, c3⟩ := cutN_in block L L.length
      have hlen := bodyN_len hval (cuts block L) (fun p hp => by have := c3 p hp; omega) (Nat.le_trans c2 hL) _ (Nat.le_refl _)
      have hcl2 : (cuts block L).length ≤ L.length := c2
      have HK := Lib.hid (fun W (hb : Below w.heap.size w W) => keysDev_any (.slice (some ⟨fb, fo, none⟩) L.length cap) L W ⟨_, _, fb, fo, rfl, fun _ => ⟨rfl, Nat.lt_of_lt_of_le hfb hb.size⟩, fun j hj => (HCL.out j hj).below hb hfb⟩ hL)
      have hkn : (keyL L).length ≤ 1048576 := by have := keyN_len L L.length; show (keyN L L.length).length ≤ _; omega
      have HF := Lib.hid (fun v W base (h : W.ownsRow base 9 1 v (keyL L).length (sc8 (keyL L))) => Bm.buildOk v bits (keyL L) W (strs_row h) (by omega) hkn (fun x hx => by obtain ⟨y, hy, rfl⟩ := keyL_mem hx; have := (may_seq (hmay y hy)).2.2.2.1; omega))
      have hbs := Bm.build_small bits (keyL L) hkn
      have hka := (may_seq (hmay _ (List.getElem_mem hpos))).2.2.2.1
      have hkb := (may_seq (hmay _ (List.getElem_mem (show L.length - 1 < L.length by omega)))).2.2.2.1
      have HA0 := Lib.hid (fun W (hb : Below w.heap.size w W) => ((HCL.out 0 hpos).below hb hfb).1)
      have HA1 := Lib.hid (fun W (hb : Below w.heap.size w W) => ((HCL.out (L.length - 1) (by omega)).below hb hfb).1)
      have hft : ∀ a b, footB L a b = footP a b L.length L[0].key L[L.length - 1].key := fun a b => by unfold footB footP; rw [getD_at hpos, getD_at (show L.length - 1 < L.length by omega)]
      rw [Nat.zero_mul, Nat.add_zero] at HA0
      have hwh : ∀ s x f, wholeB L s x f = s ++ (Fr.put 5 f).1 ++ (Fr.put 4 x).1 ++ (Fr.put 6 (footB L s.length (s ++ (Fr.put 5 f).1).length)).1 ++ Fr.lit ((s ++ (Fr.put 5 f).1 ++ (Fr.put 4 x).1).length) := fun _ _ _ => by unfold wholeB; rw [lit_mod]
      rw [hwh, hft] at hbt
      have HBT := Lib.hid hbt
      clear hbad hne hbt hmay hval hVv hcells hr hI c1 c2 c3 hft hwh
      generalize (bodyN L (cuts block L) (cuts block L).length).1 = s0 at *
      generalize (bodyN L (cuts block L) (cuts block L).length).2 = x0 at *
      generalize Bm.build bits (keyL L) = fl at *
      generalize L[0].key = ka at *
      generalize L[L.length - 1].key = kb at *
      generalize keyL L = kl at *
      obtain ⟨hl1, hl2⟩ := hlen
      have hsx : (Cd.bs x0).size = x0.length := rfl
      have hsf : (Cd.bs fl).size = fl.length := rfl
      by_cases hA2 : (262144 : Int) < (fl.length : Int)
      · have HE := Lib.hid (HBT.out.trans (if_pos (.inr (by omega))))
        clear HBT
        go_enter Try.func13, Try.ntmps13
        go_wp2_with (first
          | (go_at_call 26; (with_reducible refine HR.out.mono ?_); rintro e w1 ⟨rfl, hb1⟩)
          | (go_at_call 30; (with_reducible refine (HBL.out _ hb1).mono ?_); rintro e w2 ⟨rfl, hb2⟩; have hB2 := hb1.trans (hb2.mono hb1.size))
          | (go_at_call 32; (with_reducible refine (HK.out _ hB2).mono ?_); rintro e w4 ⟨u, rfl, hown4, hb4⟩; have hB4 := hB2.trans (hb4.mono hB2.size))
          | (go_at_call 31; (with_reducible refine (HF.out _ _ _ hown4).mono ?_); rintro e w5 ⟨rfl, hb5⟩; have hB5 := hB4.trans (hb5.mono hB4.size)))
        go_ret2
        exact ⟨by rw [HE.out]; rfl, hB5⟩
      · by_cases hA : (262144 : Int) < (x0.length : Int)
        · have HE := Lib.hid (HBT.out.trans (if_pos (.inl (by omega))))
          clear HBT
          go_enter Try.func13, Try.ntmps13
          go_wp2_with (first
            | (go_at_call 26; (with_reducible refine HR.out.mono ?_); rintro e w1 ⟨rfl, hb1⟩)
            | (go_at_call 30; (with_reducible refine (HBL.out _ hb1).mono ?_); rintro e w2 ⟨rfl, hb2⟩; have hB2 := hb1.trans (hb2.mono hb1.size))
            | (go_at_call 32; (with_reducible refine (HK.out _ hB2).mono ?_); rintro e w4 ⟨u, rfl, hown4, hb4⟩; have hB4 := hB2.trans (hb4.mono hB2.size))
            | (go_at_call 31; (with_reducible refine (HF.out _ _ _ hown4).mono ?_); rintro e w5 ⟨rfl, hb5⟩; have hB5 := hB4.trans (hb5.mono hB4.size)))
          go_ret2
          exact ⟨by rw [HE.out]; rfl, hB5⟩
        · have HT := Lib.hid (HBT.out.trans (if_neg (fun h => h.elim (fun h => hA (by omega)) (fun h => hA2 (by omega)))))
          clear HBT
          have HP5 := Lib.hid (fun W => putF_any 5 5 rfl fl W (by omega))
          have HP4 := Lib.hid (fun W => putF_any 4 4 rfl x0 W (by omega))
          have m5 := frame_len 5 fl
          have m4 := frame_len 4 x0
          generalize (Fr.put 5 fl).1 = f5 at *
          generalize (Fr.put 4 x0).1 = f4 at *
          obtain ⟨A1, hA1⟩ : ∃ A1, s0 ++ f5 = A1 := ⟨_, rfl⟩
          obtain ⟨A2, hA2'⟩ : ∃ A2, A1 ++ f4 = A2 := ⟨_, rfl⟩
          have hC1 : Cd.bs s0 ++ Cd.bs f5 = Cd.bs A1 := by rw [← hA1]; exact ByteArray.mk_append_mk _ _
          have hC2 : Cd.bs A1 ++ Cd.bs f4 = Cd.bs A2 := by rw [← hA2']; exact ByteArray.mk_append_mk _ _
          have n1 : A1.length = s0.length + f5.length := by rw [← hA1, List.length_append]
          have n2 : A2.length = A1.length + f4.length := by rw [← hA2', List.length_append]
          rw [hA1, hA2'] at HT
          have HEN := Lib.hid (fun W => putEnd_any (A2.length : Int) A2.length W rfl (by omega))
          have HFT := Lib.hid (fun W => putFoot_any (s0.length : Int) (A1.length : Int) (L.length : Int) s0.length A1.length L.length rfl rfl rfl (by omega) (by omega) (by omega) ka kb (by omega) (by omega) W)
          have hftl : (footP s0.length A1.length L.length ka kb).length ≤ 300 := by
            have e0 := Cd.putU_len10 s0.length (by omega)
            have e1 := Cd.putU_len10 A1.length (by omega)
            have e2 := Cd.putU_len10 L.length (by omega)
            have e3 := putT_len ka (by omega)
            have e4 := putT_len kb (by omega)
            unfold footP
            simp only [List.length_append]
            omega
          generalize footP s0.length A1.length L.length ka kb = ft at *
          have HP6 := Lib.hid (fun W => putF_any 6 6 rfl ft W (by omega))
          have m6 := frame_len 6 ft
          have m7 := Fr.lit_len A2.length
          generalize (Fr.put 6 ft).1 = f6 at *
          generalize Fr.lit A2.length = en at *
          obtain ⟨A3, hA3⟩ : ∃ A3, f6 ++ en = A3 := ⟨_, rfl⟩
          obtain ⟨A4, hA4⟩ : ∃ A4, A2 ++ A3 = A4 := ⟨_, rfl⟩
          have hC3 : Cd.bs f6 ++ Cd.bs en = Cd.bs A3 := by rw [← hA3]; exact ByteArray.mk_append_mk _ _
          have hC4 : Cd.bs A2 ++ Cd.bs A3 = Cd.bs A4 := by rw [← hA4]; exact ByteArray.mk_append_mk _ _
          have n3 : A3.length = f6.length + en.length := by rw [← hA3, List.length_append]
          have n4 : A4.length = A2.length + A3.length := by rw [← hA4, List.length_append]
          rw [List.append_assoc A2 f6 en, hA3, hA4] at HT
          have q1 : ¬ 9223372036854775807 < s0.length + f5.length := by omega
          have q2 : ¬ 9223372036854775807 < A1.length + f4.length := by omega
          have q3 : ¬ 9223372036854775807 < f6.length + en.length := by omega
          have q4 : ¬ 9223372036854775807 < A2.length + A3.length := by omega
          have z0 : (Cd.bs s0).size = s0.length := rfl
          have z1 : (Cd.bs A1).size = A1.length := rfl
          have z2 : (Cd.bs A2).size = A2.length := rfl
          have z4 : (Cd.bs A4).size = A4.length := rfl
          have hwS0 : IntKind.u64.wrap (s0.length : Int) = (s0.length : Int) := Cd.wrapU_nat (by omega)
          have hwS1 : IntKind.u64.wrap (A1.length : Int) = (A1.length : Int) := Cd.wrapU_nat (by omega)
          have hwS2 : IntKind.u64.wrap (L.length : Int) = (L.length : Int) := Cd.wrapU_nat (by omega)
          have hi2 : IntKind.i64.wrap ((L.length : Int) - 1) = (L.length : Int) - 1 := by rw [IntKind.wrap_i64]; omega
          have hi3 : (0 : Int) ≤ (L.length : Int) - 1 ∧ (L.length : Int) - 1 < (L.length : Int) := by omega
          have hi4 : ((L.length : Int) - 1).toNat = L.length - 1 := by omega
          have hi5 : (0 : Int) < (L.length : Int) := by omega
          have hA4l : A4.length ≤ 36028797018963968 := by omega
          clear n1 n2 n3 n4 hA1 hA2' hA3 hA4 m4 m5 m6 m7
          go_enter Try.func13, Try.ntmps13
          go_wp2_with (first
            | (go_at_call 26; (with_reducible refine HR.out.mono ?_); rintro e w1 ⟨rfl, hb1⟩)
            | (go_at_call 30; (with_reducible refine (HBL.out _ hb1).mono ?_); rintro e w2 ⟨rfl, hb2⟩; have hB2 := hb1.trans (hb2.mono hb1.size))
            | (go_at_call 32; (with_reducible refine (HK.out _ hB2).mono ?_); rintro e w4 ⟨u, rfl, hown4, hb4⟩; have hB4 := hB2.trans (hb4.mono hB2.size))
            | (go_at_call 31; (with_reducible refine (HF.out _ _ _ hown4).mono ?_); rintro e w5 ⟨rfl, hb5⟩; have hB5 := hB4.trans (hb5.mono hB4.size))
            | (go_at_call 33; (with_reducible refine (HP5.out _).mono ?_); rintro e w6 ⟨rfl, hb6⟩; have hB6 := hB5.trans (hb6.mono hB5.size))
            | (go_at_call 33; (with_reducible refine (HP4.out _).mono ?_); rintro e w7 ⟨rfl, hb7⟩; have hB7 := hB6.trans (hb7.mono hB6.size))
            | (go_at_call 34; (with_reducible refine (HEN.out _).mono ?_); rintro e w8 ⟨rfl, hb8⟩; have hB8 := hB7.trans (hb8.mono hB7.size); have ca := HA0.out _ hB8; have cb := HA1.out _ hB8; have hfl8 : fb < w8.heap.size := (Nat.lt_of_lt_of_le hfb hB8.size)))
          go_cut [13] (fun r wx => r = .string (Cd.bs A4) ∧ Below w8.heap.size w8 wx)
          case first =>
            go_region_with (first
              | (go_at_call 35; (with_reducible refine (HFT.out _).mono ?_); rintro e w9 ⟨rfl, hb9⟩)
              | (go_at_call 33; (with_reducible refine (HP6.out _).mono ?_); rintro e w10 ⟨rfl, hb10⟩))
            all_goals (try go_wp2_with fail)
            all_goals go_meet
            all_goals exact ⟨rfl, ((Below.refl _ _).drew.trans hb9).trans (hb10.mono hb9.size)⟩
          case rest =>
            obtain ⟨rfl, hb9⟩ := hcut
            have hB9 := hB8.trans (hb9.mono hB8.size)
            by_cases hbig : (16777216 : Int) < (A4.length : Int)
            · have HE := Lib.hid (HT.out.trans (if_pos (by omega)))
              go_wp2_with fail
              go_ret2
              exact ⟨by rw [HE.out]; rfl, hB9⟩
            · have HE := Lib.hid (HT.out.trans (if_neg (by omega)))
              go_wp2_with fail
              go_ret2
              exact ⟨by rw [HE.out]; rfl, hB9⟩
    · have HE := Lib.hid (hbt.trans (if_pos (by simpa using hr)))
      rw [HE.out]
      unfold encBlkV
      simp only
      generalize rising L = r at *
      have hri : ((r : Int) == 0) = false := by simp; omega
      clear hbt hr hVv hcells hI HE hbad hne
      go_enter Try.func13, Try.ntmps13
      go_wp2_with (go_at_call 26; (with_reducible refine HR.out.mono ?_); rintro e w1 ⟨rfl, hb1⟩)
      go_ret2
      exact ⟨rfl, hb1⟩
end Tb
end Go.Proofs.Ytiijkneomecmiaa

/-
  Chapter 8: the three laws over the landed table.
-/
namespace Go.Proofs.Ytiijkneomecmiaa
open Go.RowKit
set_option linter.unusedVariables false
theorem laidOut : laidOutB Try.prog = true := by kernel_rfl
namespace Tb
open Mt (Ver)
open Vs (VersIn)
theorem tableKeys_law (ak : ByteArray) (aq : Int) (ad : Bool) (av : ByteArray) (bk : ByteArray) (bq : Int) (bd : Bool) (bv : ByteArray) (s : ByteArray) (w : World)
    (a1 : ak.size ≤ 1048576) (a2 : 0 ≤ aq) (a3 : aq ≤ 18446744073709551615) (a4 : av.size ≤ 1048576) (b1 : bk.size ≤ 1048576) (b2 : 0 ≤ bq) (b3 : bq ≤ 18446744073709551615) (b4 : bv.size ≤ 1048576) (s1 : s.size ≤ 1048576) :
    Calls Try.prog 3 #[.agg #[.string ak, .int .u64 aq, .bool ad, .string av], .agg #[.string bk, .int .u64 bq, .bool bd, .string bv], .string s] w fun e w' => e = .returned (.bool true) ∧ Below w.heap.size w w' :=
  tableKeys_walk encKeyOk decKeyOk ak aq ad av bk bq bd bv s w a1 a2 a3 a4 b1 b2 b3 b4 s1

theorem tableBlocks_law (a : Option Addr) (cap fb fo : Nat) (L : List Ver) (w : World) (hV : VersK w a cap fb fo L) :
    Calls Try.prog 4 #[.slice a L.length cap] w fun e w' => e = .returned (.bool true) ∧ Below w.heap.size w w' :=
  tableBlocks_walk encBlkOk _ L w ⟨hV.vers, hV.each, hV.many, hV.sum⟩

theorem tableBuilds_law (block bits : Int) (a : Option Addr) (cap fb fo : Nat) (L : List Ver) (w : World) (hk0 : -9223372036854775808 ≤ block) (hk1 : block ≤ 9223372036854775807) (hc0 : -9223372036854775808 ≤ bits) (hc1 : bits ≤ 9223372036854775807) (hV : VersK w a cap fb fo L) :
    Calls Try.prog 5 #[.int .i64 block, .int .i64 bits, .slice a L.length cap] w fun e w' => e = .returned (.bool true) ∧ Below w.heap.size w w' :=
  tableBuilds_walk buildTOk block bits a cap fb fo L w hk0 hk1 hc0 hc1 hV
end Tb
end Go.Proofs.Ytiijkneomecmiaa
