/-
  tapestrylaw06.from: what a range over From tells.
-/
import Derived.Test.YtgfpkbdinfdkfaaMemFromDev
import Derived.Test.YtgfpkbdinfdkfaaMemFromR
import Derived.Deep.AppendLies
namespace Go.Proofs.Ytgfpkbdinfdkfaa
open Go.RowKit Go.Shelf
set_option linter.unusedSimpArgs false
set_option linter.unusedVariables false
namespace Md
open Op (bytesLess)
open Mt (Ver VerIn VerW verV lessB mayB)
open Vs (vcs)

attribute [local go_sem] Oper.semAt_some
theorem wpListIn_append_lies {F : Fence} {n : Nat} {P : Program} (w : World) {ops : Array Oper} {rest : List Oper} {o : Oper} {a : Act} {Q : Exit → Act → World → Prop}
    (hg : o.guard = none) (s x : Operand) (t : TypeId) (hop : o.op = Op.call { callee := Callee.builtin Builtin.append, args := #[s, x], argTypes := #[t, t] })
    (base : Nat) (e : TypeId) (i : TypeInfo) (z : Value) (size bytes : Nat) (h1 : P.underlying t = some (.slice e)) (h2 : P.info? e = some i) (h3 : i.zero = some z) (h4 : i.size = size) (h5 : i.bytes = bytes) (h6 : z.cells.size = size) (h7 : 0 < size)
    (v : Value) (k : Nat) (xs : List Value) (hs : a.eval s = v) (hown : w.ownsRow base e size v k xs) (ad : Addr) (m c : Nat) (news : List Value) (hx : a.eval x = .slice (some ad) m c) (hn : news.length = m * size)
    (hc : ∀ j u, news[j]? = some u → w.cell? (ad.add j) = some u) (h1c : ∀ u ∈ news, u.oneCell' = true) (hm : 0 < m) (b1 : k + m ≤ maxLen) (b2 : (k + m) * bytes ≤ 140737488355328) (b3 : base ≤ w.heap.size) (H : Nat) (hH : w.heap.size = H)
    (hK : ∀ g cap w', w'.ownsRow base e size (.slice (some ⟨g, 0, none⟩) (k + m) cap) (k + m) (xs ++ news) → w.grownBy w' v.ownBlock → (v.ownBlock = some g ∨ g = H) → g < w'.heap.size → wpListIn F n P ops Q rest (a.put o.dst (.slice (some ⟨g, 0, none⟩) (k + m) cap)) w') :
    wpListIn F n P ops Q (o :: rest) a w := by
  refine wpListIn_plain hg fun K hK' => ?_
  obtain ⟨g, cap, w', hrun, r1, r2, r3, r4⟩ := run_append_lies (P := P) w t o.type base e i z size bytes h1 h2 h3 h4 h5 h6 h7 v k xs hown ad m c news hn hc h1c hm b1 b2 b3 H hH
  unfold Oper.wpIn
  refine ⟨?_, ?_⟩
  · simp [Oper.about, hop, resolve, Target.leads, Sem.run_pure]
  · rw [Oper.semAt_plain F _ _ (by rw [hop]; intro c hc'; cases hc')]
    simp [execOp, hop, resolve, invoke, builtin, hs, hx, hrun, Result.andThen]
    exact hK' _ _ (hK g cap w' r1 r2 r3 r4)
theorem row_lower {w : World} {base base' : Nat} {e : TypeId} {size : Nat} {v : Value} {m : Nat} {xs : List Value} (h : w.ownsRow base e size v m xs) (hb : base' ≤ base) : w.ownsRow base' e size v m xs := by
  rcases h with ⟨h0, h1 | ⟨g, cap, cur, h1, h2, h3, h4⟩⟩
  · exact ⟨h0, .inl h1⟩
  · exact ⟨h0, .inr ⟨g, cap, cur, h1, Nat.le_trans hb h2, h3, h4⟩⟩
/-- what stands between the rounds of such a range -/
def frI (w : World) (most : Int) (R : Sq.Blocks) (pre : List Ver) (X : World) : Prop :=
  ∃ u, ((Boxed X (w.heap.size + 1) 26 u ∧ ¬ R (w.heap.size + 1)) ∧ (X.ownsRow (w.heap.size + 4) 33 4 u pre.length (vcs pre) ∧ ∀ g, u.ownBlock = some g → ¬ R g)) ∧
    (Boxed X w.heap.size 3 (.int .i64 most) ∧ ¬ R w.heap.size) ∧ (Sq.Kept (fun k => k < w.heap.size) w X ∧ ∀ k, k < w.heap.size → k < w.heap.size → ¬ R k)
theorem frI_steady (w : World) (most : Int) : Sq.Steady (frI w most) :=
  Sq.Steady.ex fun u => ((Sq.Steady.box _ _ _).and (Sq.Steady.row _ _ _ (fun _ => u) _ _)).and ((Sq.Steady.box _ _ _).and (Sq.Steady.kept _ _))
/-- one more is told -/
theorem frI_next {w X X1 X2 : World} {most : Int} {R : Sq.Blocks} {pre : List Ver} {x : Ver} {u : Value} {g cap : Nat}
    (hb : Boxed X (w.heap.size + 1) 26 u) (hnb : ¬ R (w.heap.size + 1)) (hrow : X.ownsRow (w.heap.size + 4) 33 4 u pre.length (vcs pre)) (hnr : ∀ g, u.ownBlock = some g → ¬ R g)
    (hbn : Boxed X w.heap.size 3 (.int .i64 most)) (hnn : ¬ R w.heap.size) (hk : Sq.Kept (fun k => k < w.heap.size) w X) (hnk : ∀ k, k < w.heap.size → k < w.heap.size → ¬ R k)
    (hbd : ∀ k, R k → k < X.heap.size) (hX1 : Sq.Kept (fun _ => True) X X1) (hs1 : X1.heap.size = X.heap.size + 1)
    (hown2 : X2.ownsRow (w.heap.size + 4) 33 4 (.slice (some ⟨g, 0, none⟩) (pre.length + 1) cap) (pre.length + 1) (vcs pre ++ [.string (Cd.bs x.key), .int .u64 x.seq, .bool x.del, .string (Cd.bs x.val)]))
    (hgrow : X1.grownBy X2 u.ownBlock) (hat : u.ownBlock = some g ∨ g = X.heap.size + 1) :
    Boxed X2 (w.heap.size + 1) 26 u ∧ Boxed X2 w.heap.size 3 (.int .i64 most) ∧
    frI w most R (pre ++ [x]) (X2.setCell ⟨w.heap.size + 1, 0, none⟩ (.slice (some ⟨g, 0, none⟩) (pre.length + 1) cap)) ∧
    Sq.Kept (fun k => R k ∨ (k = w.heap.size + 2 ∨ k = w.heap.size + 3)) X (X2.setCell ⟨w.heap.size + 1, 0, none⟩ (.slice (some ⟨g, 0, none⟩) (pre.length + 1) cap)) := by
  have hge : ∀ r, u.ownBlock = some r → w.heap.size + 4 ≤ r := fun r hr => (Ob.row_lt hrow hr).1
  have hKg : Sq.Kept (fun k => ∀ r, u.ownBlock = some r → k ≠ r) X1 X2 := Sq.Kept.grown hgrow (fun r hr h => h r hr rfl)
  have hK2 : Sq.Kept (fun k => ∀ r, u.ownBlock = some r → k ≠ r) X X2 := (hX1.less (fun _ _ _ => trivial)).trans hKg
  have hb2 := hK2.boxed (fun r hr e => by have := hge r hr; omega) hb
  have hbn2 := hK2.boxed (fun r hr e => by have := hge r hr; omega) hbn
  have hk2 : Sq.Kept (fun k => k < w.heap.size) w X2 := hk.trans (hK2.less (fun k hk _ r hr e => by have := hge r hr; have : k < w.heap.size := hk; omega))
  refine ⟨hb2, hbn2, ?_, ?_⟩
  · refine ⟨_, ⟨⟨hb2.set _, hnb⟩, ?_, ?_⟩, ⟨hbn2.other (by simp) _, hnn⟩, hk2.trans (Sq.Kept.setCell _ _ (by simp)), hnk⟩
    · rw [Vs.vcs_snoc, List.length_append, List.length_singleton]
      refine Ob.row_other hown2 (fun e => ?_) _
      have := (Ob.row_lt hown2 e).1
      simp at this
    · intro g' hg'
      obtain rfl : g = g' := by simpa [Value.ownBlock] using hg'
      rcases hat with h | h
      · exact hnr g h
      · intro hr; have := hbd g hr; omega
  · refine (hK2.less (fun k hk hl r hr e => ?_)).trans (Sq.Kept.setCell _ _ (by
      rintro (h | h | h)
      · exact hnb h
      · simp at h
      · simp at h))
    subst e
    rcases hk with h | h | h
    · exact hnr k hr h
    · have := hge k hr; omega
    · have := hge k hr; omega
/-- what is told, left behind so many -/
def cutL (L : List Ver) (most : Int) : List Ver := if 0 < most then L.take most.toNat else L

theorem cutL_all {L : List Ver} {most : Int} (h : most ≤ 0 ∨ (L.length : Int) < most) : cutL L most = L := by
  unfold cutL
  rcases h with h | h
  · rw [if_neg (by omega)]
  · rw [if_pos (by omega), List.take_of_length_le (by omega)]
theorem cutL_some {L pre : List Ver} {most : Int} (h : pre <+: L) (h0 : 0 < most) (hm : (pre.length : Int) = most) : cutL L most = pre := by
  unfold cutL
  rw [if_pos h0, show most.toNat = pre.length by omega]
  exact (List.prefix_iff_eq_take.1 h).symm

set_option maxRecDepth 100000 in
set_option maxHeartbeats 4000000 in
theorem fromLaw_any (Held : Sq.Blocks → World → Prop) (hless : ∀ {R R' : Sq.Blocks} {W : World}, (∀ k, R k → R' k) → Held R' W → Held R W) (tv : Option Addr) (key : List UInt8) (most : Int) (L : List Ver) (w : World) (hk : key.length ≤ 140737488351232) (hm : -9223372036854775808 ≤ most ∧ most ≤ 9223372036854775807) (hL : L.length ≤ 1099511627776) (hLW : ∀ x ∈ L, VerW x)
    (hH : ∀ (W : World) (R : Sq.Blocks), Below w.heap.size w W → (∀ k, R k → w.heap.size ≤ k) → Held R W)
    (hseq : ∀ (W : World) (Bt Bk : Nat), Below w.heap.size w W → Boxed W Bt 23 (.pointer tv) → Boxed W Bk 9 (.string (Cd.bs key)) → Sq.SeqH Held Fence.wide 11 Try.prog 37 #[.pointer (some ⟨Bt, 0, none⟩), .pointer (some ⟨Bk, 0, none⟩)] vEnc (fun k => k = Bt ∨ k = Bk) (fun ys => ys = L) (fun pre => pre <+: L) W) :
    Calls Try.prog 10 #[.pointer tv, .string (Cd.bs key), .int .i64 most] w fun e w' => ∃ u, e = .returned u ∧ w'.ownsRow w.heap.size 33 4 u (cutL L most).length (vcs (cutL L most)) ∧ Below w.heap.size w w' := by
  obtain ⟨i0, hi, hz0, hz1, hz2⟩ := info_parts info_Version
  refine (callsIn_wide (n := 12)).1 ?_
  refine callsIn_of_wp_marks Try.func10 rfl trivial ?_ rfl
  refine wpIn_wide.2 ?_
  simp only [Try.ntmps10, List.size_toArray, List.length_cons, List.length_nil, Nat.reduceAdd, Nat.reduceSub, Array.replicate_succ, Array.replicate_zero, List.push_toArray, List.append_toArray, List.nil_append, List.cons_append]
  have HF := Lib.hid (fun W => from_any tv key W hk)
  go_wp2_with (go_at_call 22; (with_reducible refine (HF.out _).mono ?_); rintro e w1 ⟨rfl, hbt, hbk, hb1⟩)
  have hB0 : Below w.heap.size w ((w.alloc (.cells #[.int .i64 most] 3)).alloc (.cells #[.slice none 0 0] 26)) := ((Below.refl _ _).alloc (Nat.le_refl _) _).alloc (by simp) _
  have hB1 := hB0.trans (hb1.mono hB0.size)
  have bN : Boxed w1 w.heap.size 3 (.int .i64 most) := (Sq.Kept.of_below (T := fun _ => True) hb1).boxed trivial ((Boxed.new w _ _).alloc _)
  have bL : Boxed w1 (w.heap.size + 1) 26 (.slice none 0 0) := by
    have := Boxed.new (w.alloc (.cells #[.int .i64 most] 3)) 26 (.slice none 0 0)
    rw [World.size_alloc] at this
    exact (Sq.Kept.of_below (T := fun _ => True) hb1).boxed trivial this
  simp only [World.size_alloc, Nat.add_assoc, Nat.reduceAdd] at hbt hbk hb1
  have hsz1 := hbk.lt
  clear hB0 hb1
  refine (wpIn_wide (n := 12)).1 ?_
  refine Sq.wp_rangeH (Held := Held) hless rfl (by omega) (gf := 37) (lb := #[.pointer (some ⟨w.heap.size + 2, 0, none⟩), .pointer (some ⟨w.heap.size + 3, 0, none⟩)]) rfl trivial (enters_of Try.func37 (by kernel_rfl) rfl)
    (hseq w1 (w.heap.size + 2) (w.heap.size + 3) hB1 hbt hbk) (by rintro k (rfl | rfl) <;> omega) (fun _ => rfl)
    (fun R pre X => frI w most R pre X ∧ (most ≤ 0 ∨ (pre.length : Int) < most))
    (fun c R pre X => frI w most R pre X ∧ (c = .exit 0 ∧ 0 < most ∧ (pre.length : Int) = most))
    (fun a' x R pre X => (frI w most R pre X ∧ (most ≤ 0 ∨ (pre.length : Int) < most)) ∧ ∃ Bf, (X.heap[Bf]? = some (.cells #[.string (Cd.bs x.key), .int .u64 x.seq, .bool x.del, .string (Cd.bs x.val)] 33 (0, 0)) ∧ ¬ R Bf) ∧
      a' = { tmps := #[.pointer tv, .string (Cd.bs key), .int .i64 most, undef, undef, .pointer (some ⟨w.heap.size, 0, none⟩), .slice none 0 0, .pointer (some ⟨w.heap.size + 1, 0, none⟩), .pointer (some ⟨Bf, 0, none⟩), .pointer tv, .string (Cd.bs key), .func (.func 37) #[] #[.pointer (some ⟨w.heap.size + 2, 0, none⟩), .pointer (some ⟨w.heap.size + 3, 0, none⟩)], .agg #[.string (Cd.bs x.key), .int .u64 x.seq, .bool x.del, .string (Cd.bs x.val)], undef, undef, undef, undef, undef, undef, undef, undef, undef], defers := [] })
    ((frI_steady w most).and (Sq.Steady.pure _))
    (fun R pre X h => hH X R ((h.1.elim fun u hu => hu.2.2.1).below (fun _ h => h) (Nat.le_refl _)) (fun k hk => by
      obtain ⟨u, _, _, _, hn⟩ := h.1
      rcases Nat.lt_or_ge k w.heap.size with hl | hl
      · exact absurd hk (hn k hl hl)
      · exact hl))
    (fun c => (frI_steady w most).and (Sq.Steady.pure _))
    (fun a' x => ((frI_steady w most).and (Sq.Steady.pure _)).and (Sq.Steady.ex fun Bf => (Sq.Steady.obj _ _).and (fun _ _ _ _ _ hs _ => hs)))
    ⟨⟨_, ⟨⟨bL, fun h => h⟩, World.ownsRow_nil _ _ _ _, fun _ h => by simp [Value.ownBlock] at h⟩, ⟨bN, fun h => h⟩, ⟨hB1.os, hB1.tape, hB1.output, hB1.size, fun k hk _ => hB1.block k hk⟩, fun _ _ _ h => h⟩, by
      by_cases h : 0 < most
      · exact .inr h
      · exact .inl (by omega)⟩ ?assign ?body ?done ?stop
  case assign =>
    rintro lr R pre x X hbd hsp ⟨hI, hm⟩
    gi_wp2
    refine ⟨Sq.Kept.alloc _ _ _, ⟨frI_steady w most _ _ _ _ _ hI (Sq.Step.alloc0 _ _ _), hm⟩, X.heap.size, ⟨World.alloc_heap_new X _, fun h => by have := hbd _ h; omega⟩, ?_⟩
    first | rfl | trivial
  case body =>
    rintro lr R pre x a' X hRl hrec hbd hsp ⟨⟨hI, hm⟩, Bf, ⟨hf, hnf⟩, rfl⟩
    obtain ⟨u, ⟨⟨hb, hnb⟩, hrow, hnr⟩, ⟨hbn, hnn⟩, hk, hnk⟩ := hI
    have hcf0 : X.cell? ⟨Bf, 0, none⟩ = some (.string (Cd.bs x.key)) := by simp [World.cell?, hf]
    have hcf1 : X.cell? ⟨Bf, 1, none⟩ = some (.int .u64 x.seq) := by simp [World.cell?, hf]
    have hcf2 : X.cell? ⟨Bf, 2, none⟩ = some (.bool x.del) := by simp [World.cell?, hf]
    have hcf3 : X.cell? ⟨Bf, 3, none⟩ = some (.string (Cd.bs x.val)) := by simp [World.cell?, hf]
    have hc0 := hb.cell
    have hfl : pre.length + 1 ≤ L.length := by have := hsp.length_le; simpa using this
    have hX4 : w.heap.size + 4 ≤ X.heap.size := by have := (hbd lr hRl).1; have := (hbd lr hRl).2; omega
    have hPL : Hid (pre.length + 1 = (pre ++ [x]).length) := Lib.hid (by simp)
    have HNX := Lib.hid (fun X1 X2 g cap (h1 : Sq.Kept (fun _ => True) X X1) (h2 : X1.heap.size = X.heap.size + 1) h3 h4 h5 => frI_next (x := x) (X1 := X1) (X2 := X2) (g := g) (cap := cap) hb hnb hrow hnr hbn hnn hk hnk (fun k hk => (hbd k hk).2) h1 h2 h3 h4 h5)
    have hrow' := hrow.alloc (.cells #[.string (Cd.bs x.key), .int .u64 x.seq, .bool x.del, .string (Cd.bs x.val)] 33)
    have HM := Lib.hid hm
    clear hb hnb hrow hnr hbn hnn hk hnk hm hsp
    by_cases hlast : (pre.length : Int) + 1 = most
    · have hl1 : ((pre.length : Int) + 1 == most) = true := by simpa using hlast
      have HL := Lib.hid hlast
      clear hlast
      gi_wp2_with (refine wpListIn_append_lies _ rfl _ _ 26 rfl (w.heap.size + 4) 33 i0 (.agg #[.string ⟨#[]⟩, .int .u64 0, .bool false, .string ⟨#[]⟩]) 4 48 Try.underlying26 hi hz0 hz1 hz2 rfl (by decide) _ _ _ rfl hrow' ⟨X.heap.size, 0, none⟩ 1 1 [_, _, _, _] rfl rfl (by simpa using Vs.cell_four_new X _ _ _ _ _) (by simp [Value.oneCell']) (by decide) (by unfold maxLen; omega) (by omega) (by simp; omega) (X.heap.size + 1) (by simp) ?_; intro g cap X2 hown2 hgrow hat hlt2; obtain ⟨z1, z2, z3, z4⟩ := HNX.out _ X2 g cap (Sq.Kept.alloc _ _ _) (by simp) hown2 hgrow hat; have Z3 := Lib.hid z3; have Z4 := Lib.hid z4; have q1 := z1.cell; have q2 := z1.frozen; have q3 := z1.lt; have q4 := z2.cell; clear z1 z2 z3 z4 hown2 hgrow hat)
      exact ⟨Z4.out, Z3.out, rfl, by have := HL.out; omega, by rw [← hPL.out]; have := HL.out; omega⟩
    · have hl1 : ((pre.length : Int) + 1 == most) = false := by simpa using hlast
      have HL := Lib.hid hlast
      clear hlast
      gi_wp2_with (refine wpListIn_append_lies _ rfl _ _ 26 rfl (w.heap.size + 4) 33 i0 (.agg #[.string ⟨#[]⟩, .int .u64 0, .bool false, .string ⟨#[]⟩]) 4 48 Try.underlying26 hi hz0 hz1 hz2 rfl (by decide) _ _ _ rfl hrow' ⟨X.heap.size, 0, none⟩ 1 1 [_, _, _, _] rfl rfl (by simpa using Vs.cell_four_new X _ _ _ _ _) (by simp [Value.oneCell']) (by decide) (by unfold maxLen; omega) (by omega) (by simp; omega) (X.heap.size + 1) (by simp) ?_; intro g cap X2 hown2 hgrow hat hlt2; obtain ⟨z1, z2, z3, z4⟩ := HNX.out _ X2 g cap (Sq.Kept.alloc _ _ _) (by simp) hown2 hgrow hat; have Z3 := Lib.hid z3; have Z4 := Lib.hid z4; have q1 := z1.cell; have q2 := z1.frozen; have q3 := z1.lt; have q4 := z2.cell; clear z1 z2 z3 z4 hown2 hgrow hat)
      exact ⟨Z4.out, Z3.out, by rw [← hPL.out]; have := HL.out; rcases HM.out with h | h; exact .inl h; exact .inr (by omega)⟩
  case done =>
    rintro D R ys X hD hRD rfl ⟨hI, hm⟩ hdf
    obtain ⟨u, ⟨⟨hb, hnb⟩, hrow, hnr⟩, ⟨hbn, hnn⟩, hk, hnk⟩ := hI
    have HC := Lib.hid (cutL_all hm)
    have hc0 := hb.cell
    have HR := Lib.hid (Sq.row_kept (row_lower hrow (by omega : w.heap.size ≤ w.heap.size + 4)) (Sq.Kept.putObj (T := fun k => k ≠ D) X (l := D) (.deferred none) (by simp)) (fun g hg e => hnr g hg (e ▸ hRD)))
    have HB := Lib.hid ((hk.trans (Sq.Kept.putObj X (l := D) (.deferred none) (by omega))).below (fun _ h => h) (Nat.le_refl _))
    clear hb hrow hk hnk hbn hm hnr
    gi_wp2
    go_wp2_with fail
    refine ⟨by simp, .inl ⟨_, _, rfl, run_takeDeferred hdf, ?_⟩⟩
    exact ⟨_, results_tmp rfl _ _ _, u, rfl, by rw [HC.out]; exact HR.out, HB.out⟩
  case stop =>
    rintro D R c pre X hD hRD hsp ⟨hI, rfl, hm0, hm⟩ hdf
    obtain ⟨u, ⟨⟨hb, hnb⟩, hrow, hnr⟩, ⟨hbn, hnn⟩, hk, hnk⟩ := hI
    have HC := Lib.hid (cutL_some hsp hm0 hm)
    have hc0 := hb.cell
    have HR := Lib.hid (Sq.row_kept (row_lower hrow (by omega : w.heap.size ≤ w.heap.size + 4)) (Sq.Kept.putObj (T := fun k => k ≠ D) X (l := D) (.deferred none) (by simp)) (fun g hg e => hnr g hg (e ▸ hRD)))
    have HB := Lib.hid ((hk.trans (Sq.Kept.putObj X (l := D) (.deferred none) (by omega))).below (fun _ h => h) (Nat.le_refl _))
    clear hb hrow hk hnk hbn hm hnr
    gi_wp2
    go_wp2_with fail
    refine ⟨by simp, .inl ⟨_, _, rfl, run_takeDeferred hdf, ?_⟩⟩
    exact ⟨_, results_tmp rfl _ _ _, u, rfl, by rw [HC.out]; exact HR.out, HB.out⟩
end Md
end Go.Proofs.Ytgfpkbdinfdkfaa
