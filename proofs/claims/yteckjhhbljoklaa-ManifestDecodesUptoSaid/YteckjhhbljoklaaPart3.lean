import Derived.RangeFuncBox
import Derived.RangeFuncLeaves
import Derived.RangeFuncNested
import Derived.Shelf.Abstract
import Derived.WalkKit
import Derived.OwnWalkIn
import Derived.TacticsInMore
import Derived.LoopNIn
import Derived.LoopIn
import Derived.Lib.AppendStr
import Derived.Lib.BufStepsIn
import Derived.Deep.RegionWith
import Derived.Deep.DeepCutAuto
import Derived.Deep.Cut
import Derived.Deep.CutRange
import Derived.Deep.RegionHeld3
import Derived.Deep.LoopGhost
import Derived.Deep.CutBlock
import Derived.Shelf.Strings.Builder1
import Derived.Shelf.Strings.BuilderF
import Derived.Shelf.Strings.BuilderK
import Derived.Test.YteckjhhbljoklaaProg
import Derived.WalkLawsBesides
import Derived.Below
import Derived.Lib.Hide
import Derived.Test.YteckjhhbljoklaaPart2
/-
  codec.join: a range over a function that collects texts.
-/
namespace Go.Proofs.Yteckjhhbljoklaa
open Go.RowKit Go.Shelf
set_option linter.unusedSimpArgs false
set_option linter.unusedVariables false

attribute [local go_sem] Oper.semAt_some

theorem wpListIn_append_own_string {F : Fence} {n' : Nat} {P : Program} {ops : Array Oper} {rest : List Oper} {o : Oper} {a : Act} {Q : Exit → Act → World → Prop} (w : World) (hgd : o.guard = none) (sl x : Operand) (t u : TypeId)
    (ho : o.op = .call { callee := .builtin .append, args := #[sl, x], argTypes := #[t, u] })
    (base : Nat) (e : TypeId) (i : TypeInfo) (ht : P.underlying t = some (.slice e)) (hu : P.underlying u = some .string) (hi : P.info? e = some i) (hz : i.zero = some (.int .u8 0))
    (hsize : i.size = 1) (hby : i.bytes = 1)
    (v : Value) (n : Nat) (xs : List Value) (hs : a.eval sl = v) (hown : w.ownsRow base e 1 v n xs) (s : ByteArray) (hx : a.eval x = .string s)
    (h63 : n + s.size ≤ maxLen) (hbytes : n + s.size ≤ 140737488355328) (hbase : base ≤ w.heap.size)
    (h : ∀ v' w', w'.ownsRow base e 1 v' (n + s.size) (xs ++ Lib.strCells s) → w.grownBy w' v.ownBlock → wpListIn F n' P ops Q rest (a.put o.dst v') w') : wpListIn F n' P ops Q (o :: rest) a w := by
  refine wpListIn_plain hgd fun K hK => ?_
  obtain ⟨v', w', hr, h2, h3, h4⟩ := Lib.run_append_own_string (P := P) w base t u o.type e i ht hu hi hz hsize hby v n xs hown s h63 hbytes hbase
  unfold Oper.wpIn
  refine ⟨?_, ?_⟩
  · simp [Oper.about, ho, resolve, Target.leads, Sem.run_pure]
  · rw [Oper.semAt_plain F _ _ (by rw [ho]; intro c hc'; cases hc')]
    simp [execOp, ho, resolve, invoke, builtin, hs, hx, hr, Result.andThen]
    exact hK _ _ (h v' w' h2 h3)

/-- a text that a range hands on: of at most so many bytes -/
abbrev Piece := { x : List UInt8 // x.length ≤ 1048576 }
def flat (pre : List Piece) : List UInt8 := (pre.map (·.1)).flatten
theorem flat_snoc (pre : List Piece) (x : Piece) : flat (pre ++ [x]) = flat pre ++ x.1 := by simp [flat]
theorem flat_len (pre : List Piece) : (flat pre).length ≤ pre.length * 1048576 := by
  induction pre with
  | nil => simp [flat]
  | cons x r ih =>
    have : flat (x :: r) = x.1 ++ flat r := by simp [flat]
    rw [this, List.length_append, List.length_cons]
    have := x.2
    omega
theorem ownsRow_slice {W : World} {base : Nat} {e : TypeId} {size : Nat} {v : Value} {k : Nat} {xs : List Value} (h : W.ownsRow base e size v k xs) : ∃ ao l cap, v = .slice ao l cap := by
  rcases h.2 with ⟨rfl, _⟩ | ⟨g, cap, _, rfl, _⟩
  · exact ⟨_, _, _, rfl⟩
  · exact ⟨_, _, _, rfl⟩
theorem stops_mono {α : Type} {F : Fence} {n : Nat} {P : Program} {g : Nat} {lb : Array Value} {encs : α → Array Value} {Kp : World → World → Prop} {S Sp : List α → Prop} {N : Nat} {w w0 : World}
    (h : SeqStopsK F n P g lb encs Kp S Sp N w) (hb : Below w.heap.size w w0) : SeqStopsK F n P g lb encs Kp S Sp N w0 :=
  fun l J Jx W hW => h l J Jx W (hb.trans (hW.mono hb.size))

/-- 'Boxed.appended' where the append laid no block of its own ahead -/
theorem Boxed_appended' {W w1 : World} {n₀ B : Nat} {t e : TypeId} {size : Nat} {v v' : Value} {k m : Nat} {xs ys : List Value}
    (hv : Boxed W B t v) (hte : t ≠ e) (hrow : W.ownsRow n₀ e size v k xs) (hn₀ : n₀ ≤ W.heap.size) (hB : n₀ ≤ B)
    (hown' : w1.ownsRow n₀ e size v' m ys) (hgrow : W.grownBy w1 v.ownBlock) :
    Boxed w1 B t v ∧ Boxed (w1.setCell ⟨B, 0, none⟩ v') B t v' ∧ (w1.setCell ⟨B, 0, none⟩ v').ownsRow n₀ e size v' m ys ∧ KeepsOthers W (w1.setCell ⟨B, 0, none⟩ v') ∧ Below n₀ W (w1.setCell ⟨B, 0, none⟩ v') := by
  have hv1 : Boxed w1 B t v := hv.kept hgrow (hv.not_row hte hrow)
  refine ⟨hv1, hv1.set v', hown'.kept (grownBy_setCell' w1 B v') (.inr (hv1.not_row hte hown').symm), ?_, ?_⟩
  · refine (KeepsOthers.of_grownBy hgrow fun j o ej hj => ?_).trans (KeepsOthers.setCell _ _ _)
    rcases hrow.2 with ⟨rfl, _⟩ | ⟨g, cap, cur, rfl, _, hgb, _⟩
    · simp [Value.ownBlock] at ej
    · obtain rfl : g = j := by simpa [Value.ownBlock] using ej
      rw [hgb] at hj; cases hj; rfl
  · refine ((Below.refl n₀ W).grown hgrow hn₀ fun j ej => ?_).setCell (p := ⟨B, 0, none⟩) hB v'
    rcases hrow.2 with ⟨rfl, _⟩ | ⟨g, cap, cur, rfl, hb, _, _⟩
    · simp [Value.ownBlock] at ej
    · obtain rfl : g = j := by simpa [Value.ownBlock] using ej
      exact hb

set_option maxRecDepth 100000 in
set_option maxHeartbeats 2000000 in
/-- join: the pieces one behind the other -/
theorem join_in (F : Fence) (n : Nat) (hf : F.fn 70) (hro : F.round = none) (hn : 3 ≤ n) (gf : Nat) (hgf : F.fn gf) (eg : ∀ args w, (callFunc gf args).run Try.prog w = .ok (.enter gf args) w) (lb : Array Value)
    (N : Nat) (hN : N ≤ 4194304) (w : World) {S Sp : List Piece → Prop}
    (hseq : SeqStopsK F (n - 1) Try.prog gf lb (fun x : Piece => #[Value.string (Cd.bs x.1)]) (Below w.heap.size) S Sp N w) :
    CallsIn F n Try.prog 70 #[.func (.func gf) #[] lb] w fun e W' => ∃ ys, S ys ∧ e = .returned (.string (Cd.bs (flat ys))) ∧ Below w.heap.size w W' := by
  have h1 : 1 ≤ n := by omega
  obtain ⟨i0, hi, hz0, hz1, hz2⟩ := info_parts info_u8
  refine callsIn_of_wp_marks Try.func70 rfl hf ?_ hro
  simp only [Try.ntmps70, List.size_toArray, List.length_cons, List.length_nil, Nat.reduceAdd, Nat.reduceSub, Array.replicate_succ, Array.replicate_zero, List.push_toArray, List.append_toArray, List.nil_append, List.cons_append]
  gi_wp2
  have bO := Boxed.new w 86 (.slice none 0 0)
  have hB0 : Below w.heap.size w (w.alloc (.cells #[.slice none 0 0] 86)) := (Below.refl _ w).alloc (Nat.le_refl _) _
  refine wpIn_rangeFunc_ownG hro h1 (gf := gf) (lb := lb) rfl hgf eg
    (stops_mono hseq hB0) belowK_t (belowK_b (by simp)) (Below.refl _ _) (fun _ => rfl)
    (fun pre W => (∃ v, Boxed W w.heap.size 86 v ∧ W.ownsRow w.heap.size 5 1 v (flat pre).length (Cd.cs (flat pre)) ∧ True) ∧ Below w.heap.size w W)
    (fun _ _ _ => False)
    (OwnFrom.and (Own.from (holdsRow_own w.heap.size w.heap.size 86 5 1 (fun pre => (flat pre).length) (fun pre => Cd.cs (flat pre)) (fun _ _ => True)) _) (ownFrom_below (Nat.le_refl _) (by simp)))
    (fun _ _ _ _ _ hs _ _ => hs)
    ⟨⟨_, bO, World.ownsRow_nil _ _ _ _, trivial⟩, hB0⟩
    (fun x => { tmps := #[.func (.func gf) #[] lb, undef, .string ⟨#[]⟩, .pointer (some ⟨w.heap.size, 0, none⟩), .string (Cd.bs x.1), .func (.func gf) #[] lb, .string (Cd.bs x.1), undef, undef, undef, undef, undef], defers := [] }) ?assign ?body ?done ?stop
  case assign =>
    intro l x W K hK
    gi_wp2
    exact hK
  case body =>
    rintro l pre x W ⟨⟨v, hv, hrow, _⟩, hB⟩ hlt
    have hc := hv.cell
    have hf := hv.frozen
    have hpl := flat_len pre
    have hx := x.2
    have hsz : (Cd.bs x.1).size = x.1.length := rfl
    have HSZ := Lib.hid hsz
    clear hsz
    have hBs := hB.size
    gi_wp2_with (gi_at_builtin; refine wpListIn_append_own_string _ rfl _ _ 86 9 rfl w.heap.size 5 i0 Try.underlying86 Try.underlying9 hi hz0 hz1 hz2 _ _ _ rfl hrow (Cd.bs x.1) rfl (by rw [HSZ.out]; unfold maxLen; omega) (by rw [HSZ.out]; omega) hBs ?_; intro v' w1 hown' hgrow; obtain ⟨ao, l', cap', rfl⟩ := ownsRow_slice hown'; obtain ⟨hv1, hv2, hr2, hk2, hb2⟩ := Boxed_appended' hv (by decide) hrow hBs (Nat.le_refl _) hown' hgrow; have hc1 := hv1.cell; have hf1 := hv1.frozen)
    exact ⟨hk2.from _, hb2, ⟨_, hv2, by rw [flat_snoc]; exact Cd.own_app (l' := x.1) rfl rfl hr2, trivial⟩, hB.trans hb2⟩
  case done =>
    rintro D ys W hD hS ⟨⟨v, hv, hrow, _⟩, hB⟩ hK
    have hc := hv.cell
    have hcv := conv_any hrow
    gi_wp2
    refine ⟨by simp, .inl ⟨_, _, rfl, run_takeDeferred hK, ?_⟩⟩
    exact ⟨_, results_tmp rfl _ _ _, ys, hS, rfl, hB.trans (belowK_b (w := w) (Nat.le_refl _) W D _ _ (by simp at hD; omega) hK rfl rfl)⟩
  case stop =>
    rintro D c pre W _ _ h _
    exact h.elim
end Go.Proofs.Yteckjhhbljoklaa

/-
  slices.Values over texts, and PutText, which joins two of them.
-/
namespace Go.Proofs.Yteckjhhbljoklaa
open Go.RowKit Go.Shelf
set_option linter.unusedSimpArgs false
set_option linter.unusedVariables false

attribute [local go_sem] Oper.semAt_some

/-- what has come when k rounds are over: f 0, .., f (k - 1) -/
def upto {α : Type} (f : Nat → α) (k : Nat) : List α := (List.range k).map f
theorem upto_succ {α : Type} (f : Nat → α) (k : Nat) : upto f (k + 1) = upto f k ++ [f k] := by simp [upto, List.range_succ]
theorem upto_length {α : Type} (f : Nat → α) (k : Nat) : (upto f k).length = k := by simp [upto]

set_option maxRecDepth 100000 in
set_option maxHeartbeats 2000000 in
theorem values1_in (F : Fence) (n : Nat) (h7 : F.fn 81) (hro : F.round = none) (hn : 1 ≤ n) (l Bs n₀ b len cap : Nat) (f : Nat → Piece) (hreach : len ≤ 1000000) (hb : b < n₀) (J Jx : List Piece → World → Prop)
    (hY : ∀ pre x W, J pre W → pre.length < len → YieldAt F (n - 1) Try.prog l #[.string (Cd.bs x.1)] W fun e W' =>
      (e = .returned (.bool true) ∧ J (pre ++ [x]) W' ∧ Below n₀ W W') ∨ (e = .returned (.bool false) ∧ Jx (pre ++ [x]) W'))
    (W : World) (hBs : W.cell? ⟨Bs, 0, none⟩ = some (.slice (some ⟨b, 0, none⟩) len cap)) (hc : ∀ j, j < len → W.cell? ⟨b, j, none⟩ = some (.string (Cd.bs (f j).1))) (h0 : J [] W) :
    CallsIn F n Try.prog 81 #[.func (.yield l) #[] #[], .pointer (some ⟨Bs, 0, none⟩)] W fun e W' => (∃ v, e = .returned v) ∧
      ((∃ ys, ys = upto f len ∧ J ys W') ∨ (∃ pre, True ∧ Jx pre W')) := by
  refine callsIn_of_wp Try.func81 rfl h7 ?_ hro
  simp only [Try.ntmps81, List.size_toArray, List.length_cons, List.length_nil, Nat.reduceAdd, Nat.reduceSub, Array.replicate_succ, Array.replicate_zero, List.push_toArray, List.append_toArray, List.nil_append, List.cons_append]
  gi_wp2
  gi_loopw [7] (fun i wr => ∃ k : Nat, k ≤ len ∧ i = .int .i64 k ∧ J (upto f k) wr ∧ Below n₀ W wr)
    (fun i _ => len - (intOf i).toNat)
  case atStart => exact ⟨0, Nat.zero_le _, rfl, h0, Below.refl _ _⟩
  case round =>
    obtain ⟨k, hk, rfl, hJs, hnx⟩ := hrel
    have hcx : k < len → wr.cell? ⟨b, k, none⟩ = some (.string (Cd.bs (f k).1)) := fun h => (hnx.cell (p := ⟨b, k, none⟩) hb).trans (hc k h)
    by_cases hlt : k < len
    · obtain ⟨fn, tmps, assign, body, hy, hR⟩ := hY _ (f k) wr hJs (by rw [upto_length]; exact hlt)
      have hcx' := hcx hlt
      gi_wp2
      refine hR.mono ?_
      rintro e W3 (⟨rfl, hJ3, hk3⟩ | ⟨rfl, hJx3⟩)
      · gi_wp2
        go_roundw
        case rel => exact ⟨k + 1, by omega, by simp, by rw [upto_succ]; exact hJ3, hnx.trans hk3⟩
        case measure => simp [intOf]; omega
      · gi_wp2
        refine bodyPost_ret (results_none rfl _ _ _) rfl ?_
        exact ⟨⟨_, rfl⟩, .inr ⟨_, trivial, hJx3⟩⟩
    · obtain rfl : k = len := by omega
      gi_wp2
      go_end0
      exact ⟨⟨_, rfl⟩, .inl ⟨_, rfl, hJs⟩⟩

set_option maxHeartbeats 1000000 in
theorem values_in (F : Fence) (n : Nat) (h5 : F.fn 71) (hro : F.round = none) (a : Option Addr) (len cap : Nat) (w : World) :
    CallsIn F n Try.prog 71 #[.slice a len cap] w fun e w' => e = .returned (.func (.func 81) #[] #[.pointer (some ⟨w.heap.size, 0, none⟩)]) ∧ w' = w.alloc (.cells #[.slice a len cap] 121) := by
  refine callsIn_of_wp Try.func71 rfl h5 ?_ hro
  simp only [Try.ntmps71, List.size_toArray, List.length_cons, List.length_nil, Nat.reduceAdd, Nat.reduceSub, Array.replicate_succ, Array.replicate_zero, List.push_toArray, List.append_toArray, List.nil_append, List.cons_append]
  gi_wp2
  go_ret
  exact ⟨rfl, rfl⟩

theorem values_stops (F : Fence) (n : Nat) (h7 : F.fn 81) (hro : F.round = none) (hn : 1 ≤ n) (Bs n₀ b len cap : Nat) (f : Nat → Piece) (hreach : len ≤ 1000000) (w : World) (hBs : Bs < w.heap.size) (hn₀ : n₀ ≤ w.heap.size) (hb : b < n₀)
    (hc : w.cell? ⟨Bs, 0, none⟩ = some (.slice (some ⟨b, 0, none⟩) len cap)) (hI : ∀ j, j < len → w.cell? ⟨b, j, none⟩ = some (.string (Cd.bs (f j).1))) :
    SeqStopsK F n Try.prog 81 #[.pointer (some ⟨Bs, 0, none⟩)] (fun x : Piece => #[Value.string (Cd.bs x.1)]) (Below n₀) (fun ys => ys = upto f len) (fun _ => True) len w := fun l J Jx W hW _ _ hY h0 => by
  have hc' := (hW.cell (p := ⟨Bs, 0, none⟩) hBs).trans hc
  exact values1_in F n h7 hro hn l Bs n₀ b len cap f hreach hb J Jx hY W hc' (fun j hj => (hW.cell (p := ⟨b, j, none⟩) (by show b < _; omega)).trans (hI j hj)) h0

theorem put_join (w1 : World) (p q : Piece) (l : List UInt8) (hq : q.1 = l) :
    Calls Try.prog 70 #[.func (.func 81) #[] #[.pointer (some ⟨w1.heap.size + 1, 0, none⟩)]]
      ((w1.alloc (.cells #[.string (Cd.bs p.1), .string (Cd.bs l)] 9)).alloc (.cells #[.slice (some ⟨w1.heap.size, 0, none⟩) 2 2] 121)) fun e w' =>
      e = .returned (.string (Cd.bs (flat (upto (fun j => if j = 0 then p else q) 2)))) ∧ Below w1.heap.size w1 w' := by
  subst hq
  have hst := values_stops Fence.wide 2 trivial rfl (by omega) (w1.heap.size + 1) (w1.heap.size + 2) w1.heap.size 2 2 (fun j => if j = 0 then p else q) (by omega)
    ((w1.alloc (.cells #[.string (Cd.bs p.1), .string (Cd.bs q.1)] 9)).alloc (.cells #[.slice (some ⟨w1.heap.size, 0, none⟩) 2 2] 121))
    (by simp) (by simp) (by omega) (by go_simp) (by
      intro j hj
      match j, hj with
      | 0, _ => go_simp
      | 1, _ => go_simp)
  have h := join_in Fence.wide 3 trivial rfl (by omega) 81 trivial (enters_of Try.func81 (by kernel_rfl) rfl) #[.pointer (some ⟨w1.heap.size + 1, 0, none⟩)]
    2 (by omega)
    ((w1.alloc (.cells #[.string (Cd.bs p.1), .string (Cd.bs q.1)] 9)).alloc (.cells #[.slice (some ⟨w1.heap.size, 0, none⟩) 2 2] 121)) (by simpa using hst)
  refine (callsIn_wide.1 h).mono ?_
  rintro e w' ⟨ys, rfl, he, hb⟩
  refine ⟨he, ?_⟩
  exact (((Below.refl w1.heap.size w1).alloc (Nat.le_refl _) _).alloc (by simp) _).trans (hb.mono (by simp; omega))

set_option maxRecDepth 100000 in
set_option maxHeartbeats 2000000 in
theorem putTc_any (s : ByteArray) (w : World) (hs : s.size ≤ 1048576) :
    Calls Try.prog 44 #[.string s] w fun e w' => e = .returned (.string (Cd.bs (Cd.putT s.data.toList))) ∧ Below w.heap.size w w' := by
  obtain ⟨l, rfl⟩ : ∃ l, s = Cd.bs l := ⟨s.data.toList, (Lib.mk_data s).symm⟩
  have hl : l.length ≤ 1048576 := hs
  have hU := fun W => putUc_at (l.length : Int) l.length W rfl (by omega)
  have hul := Cd.putU_len10 l.length (by omega)
  have hw : IntKind.u64.wrap (l.length : Int) = l.length := Cd.wrapU_nat (by omega)
  obtain ⟨p, hp⟩ : ∃ p : Piece, p.1 = Cd.putU l.length := ⟨⟨Cd.putU l.length, by omega⟩, rfl⟩
  obtain ⟨q, hq⟩ : ∃ q : Piece, q.1 = l := ⟨⟨l, hl⟩, rfl⟩
  have HE := Lib.hid (show Cd.putT (Cd.bs l).data.toList = flat (upto (fun j => if j = 0 then p else q) 2) by
    simp [upto, List.range, List.range.loop, flat, hp, hq, Cd.putT])
  rw [← hp] at hU
  have HU := Lib.hid hU
  have HQ := Lib.hid hq
  clear hU hp hq hul
  go_enter Try.func44, Try.ntmps44
  go_wp2_with (first
    | (go_at_call 49; refine (HU.out _).mono ?_; rintro e w1 ⟨rfl, hb1⟩)
    | (go_at_call 71; refine (callsIn_wide.1 (values_in Fence.wide 3 trivial rfl _ 2 2 _)).mono ?_; rintro e w' ⟨rfl, rfl⟩)
    | (go_at_call 70; refine (put_join w1 p q l HQ.out).mono ?_; rintro e w3 ⟨rfl, hb3⟩))
  go_ret
  exact ⟨by rw [HE.out]; rfl, hb1.trans (hb3.mono hb1.size)⟩
end Go.Proofs.Yteckjhhbljoklaa

namespace Go.Proofs.Yteckjhhbljoklaa
open Go.RowKit
set_option linter.unusedSimpArgs false
set_option linter.unusedVariables false

set_option maxRecDepth 100000 in
set_option maxHeartbeats 1000000 in
theorem sumr_any (s : ByteArray) (w : World) (hs : s.size ≤ maxLen) :
    Calls Try.prog 54 #[.string s] w fun e w' => e = .returned (.int .u32 (Fr.sum s.data.toList)) ∧ w = w' := by
  unfold maxLen at hs
  go_enter Try.func54, Try.ntmps54
  go_wp2_with fail
  go_loop [3, 4] (fun n i => ∃ k m : Nat, k ≤ s.size ∧ i = .int .i64 k ∧ n = .int .u32 m ∧ m = Fr.run 4294967295 (s.data.toList.take k)) (fun _ i => s.size - (intOf i).toNat)
  case atStart => exact ⟨0, _, Nat.zero_le _, rfl, rfl, rfl⟩
  case round =>
    obtain ⟨k, m, hk, rfl, rfl, hm⟩ := hrel
    have hlt0 : m < 4294967296 := by rw [hm]; exact Fr.run_lt _ (by omega)
    have HM := Lib.hid hm
    have HL := Lib.hid hlt0
    clear hm hlt0
    by_cases hlt : k < s.size
    · have hx := Fr.walk_in HL.out s[k]
      have hw := Fr.wrap32_byte s[k]
      have HT := Lib.hid (Cd.take_s s k hlt)
      go_wp2_with fail
      clear hw
      go_loop [3, 5] (fun n j => ∃ i q : Nat, i ≤ 8 ∧ j = .int .i64 i ∧ n = .int .u32 q ∧ q = Fr.steps i (m ^^^ s[k].toNat)) (fun _ j => 8 - (intOf j).toNat)
      case atStart => exact ⟨0, _, Nat.zero_le _, rfl, by first | rfl | rw [hx], rfl⟩
      case round =>
        obtain ⟨i, q, hi, rfl, rfl, hq⟩ := hrel
        have hlq : q < 4294967296 := by rw [hq]; exact Fr.steps_lt (Fr.xor_lt32 HL.out (by have := s[k].toNat_lt; omega)) _
        have HQ := Lib.hid hq
        have HLQ := Lib.hid hlq
        clear hq hlq hx
        by_cases h8 : i < 8
        · by_cases ho : q % 2 = 1
          · have hob : (((q : Int) % 2) == 1) = true := by simp; omega
            have hs1 := Fr.walk_odd HLQ.out ho
            go_wp2
            go_round
            case rel => exact ⟨i + 1, Fr.step q, by omega, by go_num, by first | rfl | rw [hs1], by rw [HQ.out]; rfl⟩
            case measure => simp [intOf]; omega
          · have hob : (((q : Int) % 2) == 1) = false := by simp; omega
            have HO := Lib.hid ho
            clear ho
            go_wp2
            go_round
            case rel => exact ⟨i + 1, Fr.step q, by omega, by go_num, by rw [← Fr.walk_even HLQ.out HO.out], by rw [HQ.out]; rfl⟩
            case measure => simp [intOf]; omega
        · obtain rfl : i = 8 := by omega
          go_wp2
          go_round
          case rel => exact ⟨k + 1, q, by omega, by go_num, rfl, by rw [HT.out, Fr.run_snoc, ← HM.out]; exact HQ.out⟩
          case measure => simp [intOf]; omega
    · obtain rfl : k = s.size := by omega
      go_wp2
      go_ret
      exact ⟨by rw [Fr.sum, ← Cd.take_all s, ← HM.out, ← Fr.walk_out HL.out]; rfl, rfl⟩

/-- the world of a row of four bytes, written one by one -/
def Row4 (w : World) (g : Nat) (l : List UInt8) : Prop := ∀ j, j < 4 → w.cell? ⟨g, j, none⟩ = some (.int .u8 ((l.getD j 0).toNat : Int)) ∧ w.frozen? ⟨g, j, none⟩ = false
theorem Row4.store {w : World} {g n k : Nat} {x : Value} (h : Row4 w g (Fr.litPart n k)) (hk : k < 4) (hx : x = .int .u8 ((Fr.litByte n k).toNat : Int)) :
    Row4 (w.setCell ⟨g, k, none⟩ x) g (Fr.litPart n (k + 1)) := by
  intro j hj
  rw [World.frozen?_setCell]
  refine ⟨?_, (h j hj).2⟩
  rw [Fr.litPart_get _ _ _ hj]
  by_cases hjk : j = k
  · subst hjk
    rw [World.cell?_setCell_same (h := (h j hj).1), hx, if_pos (by omega)]
  · rw [World.cell?_setCell_other (h := by simp only [ne_eq, Addr.mk.injEq, true_and, and_true]; omega), (h j hj).1, Fr.litPart_get _ _ _ hj]
    by_cases h1 : j < k
    · rw [if_pos h1, if_pos (by omega)]
    · rw [if_neg h1, if_neg (by omega)]
theorem Row4.conv {w : World} {g c : Nat} {l : List UInt8} (h : Row4 w g l) (hl : l.length = 4) : (convert 86 9 (.slice (some ⟨g, 0, none⟩) 4 c)).run Try.prog w = .ok (.string (Cd.bs l)) w := by
  have := run_convert_bytes_back (P := Try.prog) w 86 9 5 ⟨g, 0, none⟩ c l Try.underlying86 Try.underlying5 Try.underlying9 (fun j hj => by
    have := (h j (by omega)).1
    rw [List.getD_eq_getElem?_getD, List.getElem?_eq_getElem hj] at this
    have hp : (⟨g, 0, none⟩ : Addr).add j = ⟨g, j, none⟩ := by unfold Addr.add; split <;> simp_all
    rw [hp]; simpa using this)
  rwa [hl] at this
theorem Row4.new (w : World) (n : Nat) (T : TypeId) : Row4 (w.alloc (.cells #[.int .u8 0, .int .u8 0, .int .u8 0, .int .u8 0] T)) w.heap.size (Fr.litPart n 0) := by
  intro j hj
  rw [Fr.litPart_zero]
  match j, hj with
  | 0, _ => exact ⟨by go_simp, by go_simp⟩
  | 1, _ => exact ⟨by go_simp, by go_simp⟩
  | 2, _ => exact ⟨by go_simp, by go_simp⟩
  | 3, _ => exact ⟨by go_simp, by go_simp⟩

set_option maxRecDepth 100000 in
set_option maxHeartbeats 1000000 in
theorem littler_any (N : Int) (n : Nat) (w : World) (hN : N = n) (h1 : n < 4294967296) :
    Calls Try.prog 53 #[.int .u32 N] w fun e w' => e = .returned (.string (Cd.bs (Fr.lit n))) ∧ Below w.heap.size w w' := by
  have hmk : ∀ w, (Instr.makeSlice 86 (.int .i64 4) (.int .i64 4)).run Try.prog w = .ok (.slice (some ⟨w.heap.size, 0, none⟩) 4 4) (w.alloc (.cells #[.int .u8 0, .int .u8 0, .int .u8 0, .int .u8 0] 5)) := fun _ => by kernel_rfl
  subst hN
  have HN := Lib.hid h1
  clear h1
  go_enter Try.func53, Try.ntmps53
  go_wp2_with fail
  go_loopw [0, 4] (fun u i wr => ∃ (k m : Nat), k ≤ 4 ∧ i = .int .i64 k ∧ u = .int .u32 m ∧ m = n / 256 ^ k ∧ Row4 wr w.heap.size (Fr.litPart n k) ∧ Below w.heap.size w wr) (fun _ i _ => 4 - (intOf i).toNat)
  case atStart => exact ⟨0, n, Nat.zero_le _, rfl, rfl, by simp, Row4.new _ _ _, (Below.refl _ _).alloc (Nat.le_refl _) _⟩
  case round =>
    obtain ⟨k, m, hk, rfl, rfl, hm, hr, hb⟩ := hrel
    have HM := Lib.hid hm
    clear hm
    by_cases hk4 : k < 4
    · have hc := (hr k hk4).1
      have hf := (hr k hk4).2
      have HR := Lib.hid hr
      clear hr
      go_wp2
      go_roundw
      case rel => exact ⟨k + 1, m / 256, by omega, by go_num, by rw [Fr.lit_wrap n k m HN.out HM.out], Fr.lit_down n k m HM.out, HR.out.store hk4 (Fr.litByte_val n k m HM.out), hb.setCell (p := ⟨w.heap.size, k, none⟩) (Nat.le_refl _) _⟩
      case measure => simp [intOf]; omega
    · obtain rfl : k = 4 := by omega
      have hcv := hr.conv (c := 4) (Fr.litPart_len _ _)
      go_wp2
      go_ret
      exact ⟨by rw [Fr.litPart_done]; rfl, hb⟩
end Go.Proofs.Yteckjhhbljoklaa

namespace Go.Proofs.Yteckjhhbljoklaa
open Go.RowKit
set_option linter.unusedSimpArgs false
set_option linter.unusedVariables false

/-- string(b) of one byte that lies in a cell -/
theorem conv_cell (W : World) (g : Nat) (x : Int) (c : UInt8) (hx : x = (c.toNat : Int)) (h : W.cell? ⟨g, 0, none⟩ = some (.int .u8 x)) :
    (convert 86 9 (.slice (some ⟨g, 0, none⟩) 1 1)).run Try.prog W = .ok (.string (Cd.bs [c])) W := by
  have := run_convert_bytes_back (P := Try.prog) W 86 9 5 ⟨g, 0, none⟩ 1 [c] Try.underlying86 Try.underlying5 Try.underlying9 (fun j hj => by
    simp at hj; subst hj
    rw [show (⟨g, 0, none⟩ : Addr).add 0 = ⟨g, 0, none⟩ from by simp [Addr.add], h, hx]; rfl)
  simpa using this

theorem bcell {W w1 : World} (hb : Below W.heap.size W w1) : (∀ b o, b < W.heap.size → w1.cell? ⟨b, o, none⟩ = W.cell? ⟨b, o, none⟩) ∧ (∀ b o, b < W.heap.size → w1.frozen? ⟨b, o, none⟩ = W.frozen? ⟨b, o, none⟩) :=
  ⟨fun b o h => hb.cell (p := ⟨b, o, none⟩) h, fun b o h => hb.frozen (p := ⟨b, o, none⟩) h⟩

set_option maxRecDepth 100000 in
set_option maxHeartbeats 1000000 in
theorem framePutr_any (K : Int) (c : UInt8) (hK : K = (c.toNat : Int)) (l : List UInt8) (w : World) (hs : l.length ≤ 140737488351232) :
    Calls Try.prog 27 #[.agg #[.int .u8 K, .string (Cd.bs l)]] w fun e w' => e = .returned (.tuple #[.string (Cd.bs (Fr.put c l).1), .int .i64 (Fr.put c l).2]) ∧ Below w.heap.size w w' := by
  have hsz : (Cd.bs l).size = l.length := rfl
  have HSZ := Lib.hid hsz
  clear hsz
  by_cases h0 : c.toNat = 0
  · have hb : (K == 0) = true := by subst hK; simp [h0]
    rw [Fr.put_zero h0]
    clear hK h0
    go_enter Try.func27, Try.ntmps27
    go_wp2
    go_ret2
    exact ⟨rfl, (Below.refl _ _).alloc (Nat.le_refl _) _⟩
  · have hb : (K == 0) = false := by subst hK; simp; omega
    by_cases hl : l.length ≤ 262144
    · rw [Fr.put_ok h0 hl]
      have HK := Lib.hid hK
      have hcv := fun W g h => conv_cell W g K c hK h
      clear hK h0
      have hT := fun W => putTr_any (Cd.bs l) W (by rw [HSZ.out]; omega)
      have HT := Lib.hid hT
      clear hT
      have hlen : (Cd.putT l).length ≤ 262154 := by have := Cd.putU_len10 l.length (by omega); rw [Cd.putT, List.length_append]; omega
      go_enter Try.func27, Try.ntmps27
      go_wp2_with fail
      go_cut [4] (fun r wx => r = .string (Cd.bs (c :: Cd.putT l)) ∧ Below w.heap.size w wx)
      case first =>
        go_region_with (go_at_call 26; refine (HT.out _).mono ?_; rintro e w1 ⟨rfl, hb1⟩; obtain ⟨hkc, hkf⟩ := bcell hb1; have hsz1 := hb1.size; simp at hsz1)
        all_goals (try go_wp2_with fail)
        all_goals go_meet
        all_goals refine ⟨by rw [ByteArray.mk_append_mk]; rfl, ?_⟩
        all_goals repeat (first
          | exact Below.refl _ _
          | (refine Below.trans ?_ (hb1.mono ?_))
          | apply Below.drew
          | (refine Below.alloc ?_ ?_ _)
          | exact Nat.le_refl _
          | omega
          | (focus (simp; done))
          | (focus (simp; omega)))
      case rest =>
        obtain ⟨rfl, hbc⟩ := hcut
        have hS := fun W => sumr_any (Cd.bs (c :: Cd.putT l)) W (by show (c :: Cd.putT l).length ≤ maxLen; unfold maxLen; rw [List.length_cons]; omega)
        have HS := Lib.hid hS
        have HL := Lib.hid (fun W => littler_any (Fr.sum (c :: Cd.putT l) : Int) (Fr.sum (c :: Cd.putT l)) W rfl (Fr.sum_lt _))
        clear hS hcv
        have hll : (Fr.lit (Fr.sum (c :: Cd.putT l))).length ≤ 4 := by rw [Fr.lit_len]; omega
        have hsl : (Cd.bs (c :: Cd.putT l)).size ≤ 262155 := by show (c :: Cd.putT l).length ≤ 262155; rw [List.length_cons]; omega
        go_wp2_with (first
          | (go_at_call 54; refine (HS.out _).mono ?_; rintro e w' ⟨rfl, rfl⟩)
          | (go_at_call 53; refine (HL.out _).mono ?_; rintro e w3 ⟨rfl, hb3⟩))
        go_ret2
        exact ⟨by rw [ByteArray.mk_append_mk]; rfl, hbc.trans (hb3.mono hbc.size)⟩
    · have hlb : (262144 : Int) < l.length := by omega
      rw [Fr.put_long (by omega)]
      clear hK h0
      go_enter Try.func27, Try.ntmps27
      go_wp2
      go_ret2
      exact ⟨rfl, (Below.refl _ _).alloc (Nat.le_refl _) _⟩
end Go.Proofs.Yteckjhhbljoklaa

/-
  The document's answers of chapter 10: Encode.
-/
namespace Go.Proofs.Yteckjhhbljoklaa
open Go.RowKit
set_option linter.unusedSimpArgs false
set_option linter.unusedVariables false
namespace Mf

set_option maxRecDepth 100000 in
set_option maxHeartbeats 2000000 in
theorem numFn_any (N : Int) (n : Nat) (w : World) (h : N = n) (h1 : n < 18446744073709551616) :
    Calls Try.prog 25 #[.int .u64 N] w fun e w' => e = .returned (.string (Cd.bs (Cd.putU n))) ∧ Below w.heap.size w w' := by
  have HP := Lib.hid (fun W => putUr_at N n W h h1)
  clear h
  go_enter Try.func25, Try.ntmps25
  go_wp2_with (go_at_call 52; (with_reducible refine (HP.out _).mono ?_); rintro e w1 ⟨rfl, hb1⟩)
  go_ret
  exact ⟨rfl, hb1⟩
/-- amid a region whose calls make memory: the heads of an edit -/
def HdS (w1 : World) (o : Nat) (v0 v1 v2 v3 : Value) (W : World) : Prop :=
  Below w1.heap.size w1 W ∧ W.cell? ⟨o, 0, none⟩ = some v0 ∧ W.cell? ⟨o, 1, none⟩ = some v1 ∧ W.cell? ⟨o, 2, none⟩ = some v2 ∧ W.cell? ⟨o, 3, none⟩ = some v3
theorem HdS.next {w1 W W' : World} {o : Nat} {v0 v1 v2 v3 : Value} (ho : o < w1.heap.size) (h : HdS w1 o v0 v1 v2 v3 W) (hb : Below W.heap.size W W') : HdS w1 o v0 v1 v2 v3 W' :=
  have hl : o < W.heap.size := Nat.lt_of_lt_of_le ho h.1.size
  ⟨h.1.trans (hb.mono h.1.size), (hb.cell (p := ⟨o, 0, none⟩) hl).trans h.2.1, (hb.cell (p := ⟨o, 1, none⟩) hl).trans h.2.2.1, (hb.cell (p := ⟨o, 2, none⟩) hl).trans h.2.2.2.1, (hb.cell (p := ⟨o, 3, none⟩) hl).trans h.2.2.2.2⟩
theorem HdS.cells {w1 W : World} {o : Nat} {v0 v1 v2 v3 : Value} (h : HdS w1 o v0 v1 v2 v3 W) : Below w1.heap.size w1 W ∧ W.cell? ⟨o, 0, none⟩ = some v0 ∧ W.cell? ⟨o, 1, none⟩ = some v1 ∧ W.cell? ⟨o, 2, none⟩ = some v2 ∧ W.cell? ⟨o, 3, none⟩ = some v3 := h
/-- the same, of a table's box -/
def TbS (w1 : World) (o : Nat) (x : Tbl) (W : World) : Prop :=
  Below w1.heap.size w1 W ∧ W.cell? ⟨o, 0, none⟩ = some (.int .u64 x.num) ∧ W.cell? ⟨o, 1, none⟩ = some (.int .i64 x.lev) ∧ W.cell? ⟨o, 2, none⟩ = some (.int .i64 x.siz) ∧ W.cell? ⟨o, 3, none⟩ = some (.int .i64 x.cnt) ∧ W.cell? ⟨o, 4, none⟩ = some (.string (Cd.bs x.lo)) ∧ W.cell? ⟨o, 5, none⟩ = some (.string (Cd.bs x.hi))
theorem TbS.next {w1 W W' : World} {o : Nat} {x : Tbl} (ho : o < w1.heap.size) (h : TbS w1 o x W) (hb : Below W.heap.size W W') : TbS w1 o x W' :=
  have hl : o < W.heap.size := Nat.lt_of_lt_of_le ho h.1.size
  ⟨h.1.trans (hb.mono h.1.size), (hb.cell (p := ⟨o, 0, none⟩) hl).trans h.2.1, (hb.cell (p := ⟨o, 1, none⟩) hl).trans h.2.2.1, (hb.cell (p := ⟨o, 2, none⟩) hl).trans h.2.2.2.1, (hb.cell (p := ⟨o, 3, none⟩) hl).trans h.2.2.2.2.1, (hb.cell (p := ⟨o, 4, none⟩) hl).trans h.2.2.2.2.2.1, (hb.cell (p := ⟨o, 5, none⟩) hl).trans h.2.2.2.2.2.2⟩
theorem str2 (a b : List UInt8) : Cd.bs a ++ Cd.bs b = Cd.bs (a ++ b) := ByteArray.mk_append_mk ..
theorem wrapT {x : Int} (h0 : 0 ≤ x) (h1 : x ≤ 1073741824) : IntKind.u64.wrap x = x := by rw [show IntKind.u64.wrap x = x % 18446744073709551616 from rfl]; omega

set_option maxRecDepth 100000 in
set_option maxHeartbeats 8000000 in
theorem encodeR10_any (e : Ed) (av dv : Value) (w : World) (hE : EdIn w.heap.size w e av dv) :
    Calls Try.prog 10 #[edV e av dv] w fun r w' => r = .returned (.tuple #[.string (Cd.bs (encE e).1), .int .i64 ((encE e).2 : Nat)]) ∧ Below w.heap.size w w' := by
  have hW : Below w.heap.size w (w.alloc (.cells #[.int .u64 e.next, .int .u64 e.seq, .int .u64 e.log, av, dv] 26)) := (Below.refl _ _).alloc (Nat.le_refl _) _
  have hMay := mayR10_any e av dv (w.alloc (.cells #[.int .u64 e.next, .int .u64 e.seq, .int .u64 e.log, av, dv] 26)) ⟨hE.add.grow hW hW.size, hE.drop.grow hW hW.size, hE.each, hE.ds, hE.n0, hE.n1, hE.s0, hE.s1, hE.l0, hE.l1, hE.many, hE.few⟩
  have bx := Ob.Obj.new w 26 [.int .u64 e.next, .int .u64 e.seq, .int .u64 e.log, av, dv]
  obtain ⟨⟨aa, acap, fb, fo, rfl, ha, hac⟩, ⟨da, dcap, gb, go', rfl, hd, hdc⟩, each, ds, n0, n1, s0, s1, l0, l1, many, few⟩ := hE
  cases hm : mayE e with
  | false =>
    have HE := Lib.hid (show encE e = ([], 1) by unfold encE; rw [hm]; rfl)
    rw [hm] at hMay
    have HM := Lib.hid hMay
    clear hMay hm hac hdc each ds
    obtain ⟨next, seq, log, add, drop⟩ := e
    unfold edV
    simp only [edV] at *
    go_enter Try.func10, Try.ntmps10
    go_wp2_with (go_at_call 24; (with_reducible refine HM.out.mono ?_); rintro e w1 ⟨rfl, hb1⟩)
    go_ret2
    exact ⟨by rw [HE.out]; rfl, hW.trans (hb1.mono (by simp))⟩
  | true =>
    have HE := Lib.hid (show encE e = Fr.put 7 (loadE e) by unfold encE; rw [hm]; rfl)
    have ok := eok hm
    rw [hm] at hMay
    have HM := Lib.hid hMay
    have HOK := Lib.hid ok
    have hhd := headE_len ok
    have hdh : headE e = Cd.putU e.next.toNat ++ Cd.putU e.seq.toNat ++ Cd.putU e.log.toNat ++ Cd.putU e.add.length := rfl
    have hdl : loadE e = headE e ++ e.add.flatMap putTab ++ Cd.putU e.drop.length ++ e.drop.flatMap putD := rfl
    have hll := loadE_len ok
    have HAC := Lib.hid hac
    have HDC := Lib.hid hdc
    have k1 := ok.next
    have k2 := ok.seq
    have k3 := ok.log
    have k4 := ok.add
    have k5 := ok.drop
    have hpl1 := Cd.putU_len10 e.next.toNat (by omega)
    have hpl2 := Cd.putU_len10 e.seq.toNat (by omega)
    have hpl3 := Cd.putU_len10 e.log.toNat (by omega)
    have hpl4 := Cd.putU_len10 e.add.length (by omega)
    have hpl5 := Cd.putU_len10 e.drop.length (by omega)
    have HP1 := Lib.hid (fun W => numFn_any e.next e.next.toNat W (by omega) (by omega))
    have HP2 := Lib.hid (fun W => numFn_any e.seq e.seq.toNat W (by omega) (by omega))
    have HP3 := Lib.hid (fun W => numFn_any e.log e.log.toNat W (by omega) (by omega))
    have HP4 := Lib.hid (fun W => numFn_any (e.add.length : Int) e.add.length W rfl (by omega))
    have HP5 := Lib.hid (fun W => numFn_any (e.drop.length : Int) e.drop.length W rfl (by omega))
    have HPUT := Lib.hid (fun W => framePutr_any 7 7 rfl (loadE e) W (by omega))
    have HDH := Lib.hid hdh
    have HDL := Lib.hid hdl
    have HTL := Lib.hid (putTabs_len)
    clear hMay hm hac hdc ok hdh hdl n1 s1 l1 hll each ds
    generalize loadE e = ld at *
    generalize hHE : headE e = HD at *
    clear hHE
    obtain ⟨next, seq, log, add, drop⟩ := e
    unfold edV
    simp only [edV] at *
    go_enter Try.func10, Try.ntmps10
    go_wp2_with (go_at_call 24; (with_reducible refine HM.out.mono ?_); rintro e w1 ⟨rfl, hb1⟩; have bx1 := bx.below hb1; have c10 := bx1.cell 0; have c11 := bx1.cell 1; have c12 := bx1.cell 2; have c13 := bx1.cell 3; simp at c10 c11 c12 c13; have hz1 : w.heap.size < w1.heap.size := bx1.lt)
    go_cut [5] (fun r wx => r = .string (Cd.bs HD) ∧ Below w1.heap.size w1 wx)
    case first =>
      have hwL : IntKind.u64.wrap (add.length : Int) = (add.length : Int) := Cd.wrapU_nat (by omega)
      have q1 : ¬ 9223372036854775807 < (Cd.putU next.toNat).length + (Cd.putU seq.toNat).length := by omega
      have q2 : ¬ 9223372036854775807 < (Cd.putU next.toNat).length + (Cd.putU seq.toNat).length + (Cd.putU log.toNat).length := by omega
      have q3 : ¬ 9223372036854775807 < (Cd.putU next.toNat).length + (Cd.putU seq.toNat).length + (Cd.putU log.toNat).length + (Cd.putU add.length).length := by omega
      have NX := Lib.hid (fun W W' (h : Below w1.heap.size w1 W ∧ W.cell? ⟨w.heap.size, 0, none⟩ = some (.int .u64 next) ∧ W.cell? ⟨w.heap.size, 1, none⟩ = some (.int .u64 seq) ∧ W.cell? ⟨w.heap.size, 2, none⟩ = some (.int .u64 log) ∧ W.cell? ⟨w.heap.size, 3, none⟩ = some (.slice aa add.length acap)) (hb : Below W.heap.size W W') => (HdS.next hz1 h hb).cells)
      have HS0 := Lib.hid (show Below w1.heap.size w1 w1 ∧ w1.cell? ⟨w.heap.size, 0, none⟩ = some (.int .u64 next) ∧ w1.cell? ⟨w.heap.size, 1, none⟩ = some (.int .u64 seq) ∧ w1.cell? ⟨w.heap.size, 2, none⟩ = some (.int .u64 log) ∧ w1.cell? ⟨w.heap.size, 3, none⟩ = some (.slice aa add.length acap) from ⟨Below.refl _ _, c10, c11, c12, c13⟩)
      have HS1 := Lib.hid (show Below w1.heap.size w1 w1.drew ∧ w1.drew.cell? ⟨w.heap.size, 0, none⟩ = some (.int .u64 next) ∧ w1.drew.cell? ⟨w.heap.size, 1, none⟩ = some (.int .u64 seq) ∧ w1.drew.cell? ⟨w.heap.size, 2, none⟩ = some (.int .u64 log) ∧ w1.drew.cell? ⟨w.heap.size, 3, none⟩ = some (.slice aa add.length acap) from ⟨(Below.refl _ _).drew, c10, c11, c12, c13⟩)
      go_region_held3 (fun w' => Below w1.heap.size w1 w' ∧ w'.cell? ⟨w.heap.size, 0, none⟩ = some (.int .u64 next) ∧ w'.cell? ⟨w.heap.size, 1, none⟩ = some (.int .u64 seq) ∧ w'.cell? ⟨w.heap.size, 2, none⟩ = some (.int .u64 log) ∧ w'.cell? ⟨w.heap.size, 3, none⟩ = some (.slice aa add.length acap))
        (first | exact HS0.out | exact HS1.out | exact NX.out _ _ (by assumption) hb2)
        (first
        | (go_at_call 25; (with_reducible refine (HP1.out _).mono ?_); rintro e w2 ⟨rfl, hb2⟩)
        | (go_at_call 25; (with_reducible refine (HP2.out _).mono ?_); rintro e w2 ⟨rfl, hb2⟩)
        | (go_at_call 25; (with_reducible refine (HP3.out _).mono ?_); rintro e w2 ⟨rfl, hb2⟩)
        | (go_at_call 25; (with_reducible refine (HP4.out _).mono ?_); rintro e w2 ⟨rfl, hb2⟩))
      clear hwL q1 q2 q3
      go_wp2_with fail
      go_meet
      exact ⟨by rw [HDH.out, str2, str2, str2], (show Below w1.heap.size w1 _ ∧ _ from by assumption).1⟩
    case rest =>
      obtain ⟨rfl, hbc⟩ := hcut
      have hbxc := bx1.below hbc
      have hBc : Below w.heap.size w wc := hW.trans ((hb1.mono (by simp)).trans (hbc.mono (by omega)))
      clear c10 c11 c12 c13 hz1 bx bx1 hb1 hbc HM HP1 HP2 HP3 HP4 hpl1 hpl2 hpl3 hpl4
      go_wp2_with fail
      go_loopg [5, 6] add.length (fun gh s i wr => ∃ q : Nat, gh = add.length - q ∧ q ≤ add.length ∧ i = .int .i64 q ∧ s = .string (Cd.bs (HD ++ (add.take q).flatMap putTab)) ∧ Ob.Obj wr w.heap.size 26 [.int .u64 next, .int .u64 seq, .int .u64 log, .slice aa add.length acap, .slice da drop.length dcap] ∧ Below w.heap.size w wr)
      case atStart => exact ⟨0, rfl, Nat.zero_le _, rfl, by simp, hbxc, hBc⟩
      case round =>
        obtain ⟨q, rfl, hq, rfl, rfl, hbx, hB⟩ := hrel
        obtain ⟨wo, rfl⟩ : ∃ wo : World, wo = wr := ⟨_, rfl⟩
        have c3 := hbx.cell 3
        simp at c3
        have hwl : w.heap.size < wo.heap.size := hbx.lt
        by_cases hlt : q < add.length
        · obtain ⟨rfl, hfb⟩ := ha (by omega)
          obtain ⟨d0, d1, d2, d3, d4, d5⟩ := HAC.out q hlt
          have e0 := (hB.cell (p := ⟨fb, fo + q * 6, none⟩) hfb).trans d0
          have e1 := (hB.cell (p := ⟨fb, fo + q * 6 + 1, none⟩) hfb).trans d1
          have e2 := (hB.cell (p := ⟨fb, fo + q * 6 + 2, none⟩) hfb).trans d2
          have e3 := (hB.cell (p := ⟨fb, fo + q * 6 + 3, none⟩) hfb).trans d3
          have e4 := (hB.cell (p := ⟨fb, fo + q * 6 + 4, none⟩) hfb).trans d4
          have e5 := (hB.cell (p := ⟨fb, fo + q * 6 + 5, none⟩) hfb).trans d5
          have hmt := HOK.out.adds add[q] (List.getElem_mem hlt)
          have ht := tok hmt
          have htl := putTab_len hmt
          have hsl : (HD ++ (add.take q).flatMap putTab).length ≤ 300000 := by
            rw [List.length_append]
            have := putTabs_len (add.take q) (fun p hp => HOK.out.adds p (List.mem_of_mem_take hp))
            have : (add.take q).length ≤ 1000 := by simp; omega
            omega
          have hts : HD ++ (add.take (q + 1)).flatMap putTab = (HD ++ (add.take q).flatMap putTab) ++ putTab add[q] := by rw [tabs_snoc hlt, List.append_assoc]
          have HTS := Lib.hid hts
          have hi1 : (0 : Int) ≤ (q : Int) ∧ (q : Int) < (add.length : Int) := by omega
          clear hts hmt d0 d1 d2 d3 d4 d5
          generalize add[q] = x at *
          obtain ⟨x1, x2, x3, x4, x5, x6⟩ := x
          obtain ⟨t1, t2, t3, t4, t5, t6, t7, t8, t9, t10, t11, t12⟩ := ht
          have HDB := Lib.hid (show putTab ⟨x1, x2, x3, x4, x5, x6⟩ = Cd.putU x1.toNat ++ Cd.putU x2.toNat ++ Cd.putU x3.toNat ++ Cd.putU x4.toNat ++ Cd.putT x5 ++ Cd.putT x6 from rfl)
          simp only at e0 e1 e2 e3 e4 e5 t1 t2 t3 t4 t5 t6 t7 t8 t9 t10 t11 t12
          have HQ1 := Lib.hid (fun W => numFn_any x1 x1.toNat W (by omega) (by omega))
          have HQ2 := Lib.hid (fun W => numFn_any x2 x2.toNat W (by omega) (by omega))
          have HQ3 := Lib.hid (fun W => numFn_any x3 x3.toNat W (by omega) (by omega))
          have HQ4 := Lib.hid (fun W => numFn_any x4 x4.toNat W (by omega) (by omega))
          have HQ5 := Lib.hid (fun W => show Calls Try.prog 26 #[.string (Cd.bs x5)] W fun e w' => e = .returned (.string (Cd.bs (Cd.putT x5))) ∧ Below W.heap.size W w' from putTr_any (Cd.bs x5) W (by show x5.length ≤ _; omega))
          have HQ6 := Lib.hid (fun W => show Calls Try.prog 26 #[.string (Cd.bs x6)] W fun e w' => e = .returned (.string (Cd.bs (Cd.putT x6))) ∧ Below W.heap.size W w' from putTr_any (Cd.bs x6) W (by show x6.length ≤ _; omega))
          have p1 := Cd.putU_len10 x1.toNat (by omega)
          have p2 := Cd.putU_len10 x2.toNat (by omega)
          have p3 := Cd.putU_len10 x3.toNat (by omega)
          have p4 := Cd.putU_len10 x4.toNat (by omega)
          have p5 := putT_len t10
          have p6 := putT_len t12
          have hwx2 := wrapT (x := x2) (by omega) (by omega)
          have hwx3 := wrapT (x := x3) (by omega) (by omega)
          have hwx4 := wrapT (x := x4) (by omega) (by omega)
          have hwb : fb < wo.heap.size := by have := hB.size; omega
          clear htl t1 t2 t3 t4 t5 t6 t7 t8 t9 t10 t11 t12
          generalize HD ++ (add.take q).flatMap putTab = S1 at *
          obtain ⟨wA, hwA⟩ : ∃ wA, wo.alloc (.cells #[.int .u64 x1, .int .i64 x2, .int .i64 x3, .int .i64 x4, .string (Cd.bs x5), .string (Cd.bs x6)] 44) = wA := ⟨_, rfl⟩
          have bA : Below w.heap.size w wA := by rw [← hwA]; exact hB.alloc hB.size _
          have hoA : Ob.Obj wA wo.heap.size 44 [.int .u64 x1, .int .i64 x2, .int .i64 x3, .int .i64 x4, .string (Cd.bs x5), .string (Cd.bs x6)] := by rw [← hwA]; exact Ob.Obj.new wo _ _
          have hbA : Ob.Obj wA w.heap.size 26 [.int .u64 next, .int .u64 seq, .int .u64 log, .slice (some ⟨fb, fo, none⟩) add.length acap, .slice da drop.length dcap] := by rw [← hwA]; exact hbx.alloc _
          have a0 := hoA.cell 0
          have a1 := hoA.cell 1
          have a2 := hoA.cell 2
          have a3 := hoA.cell 3
          have a4 := hoA.cell 4
          have a5 := hoA.cell 5
          simp at a0 a1 a2 a3 a4 a5
          have hlA := hoA.lt
          have HWA := Lib.hid hwA
          clear hwA
          go_upto_block 1 with fail
          go_cut [5] from 37 to 69 (fun r wx => r = .string (Cd.bs (S1 ++ putTab ⟨x1, x2, x3, x4, x5, x6⟩)) ∧ Below wA.heap.size wA wx)
          case first =>
            go_wp2_with fail
            rw [HWA.out]
            have q1 : ¬ 9223372036854775807 < S1.length + (Cd.putU x1.toNat).length := by omega
            have q2 : ¬ 9223372036854775807 < S1.length + (Cd.putU x1.toNat).length + (Cd.putU x2.toNat).length := by omega
            have q3 : ¬ 9223372036854775807 < S1.length + (Cd.putU x1.toNat).length + (Cd.putU x2.toNat).length + (Cd.putU x3.toNat).length := by omega
            have q4 : ¬ 9223372036854775807 < S1.length + (Cd.putU x1.toNat).length + (Cd.putU x2.toNat).length + (Cd.putU x3.toNat).length + (Cd.putU x4.toNat).length := by omega
            have q5 : ¬ 9223372036854775807 < S1.length + (Cd.putU x1.toNat).length + (Cd.putU x2.toNat).length + (Cd.putU x3.toNat).length + (Cd.putU x4.toNat).length + (Cd.putT x5).length := by omega
            have q6 : ¬ 9223372036854775807 < S1.length + (Cd.putU x1.toNat).length + (Cd.putU x2.toNat).length + (Cd.putU x3.toNat).length + (Cd.putU x4.toNat).length + (Cd.putT x5).length + (Cd.putT x6).length := by omega
            have NX := Lib.hid (fun W W' (h : TbS wA wo.heap.size ⟨x1, x2, x3, x4, x5, x6⟩ W) (hb : Below W.heap.size W W') => TbS.next hlA h hb)
            have HS0 := Lib.hid (show TbS wA wo.heap.size ⟨x1, x2, x3, x4, x5, x6⟩ wA from ⟨Below.refl _ _, a0, a1, a2, a3, a4, a5⟩)
            have HS1 := Lib.hid (show TbS wA wo.heap.size ⟨x1, x2, x3, x4, x5, x6⟩ wA.drew from ⟨(Below.refl _ _).drew, a0, a1, a2, a3, a4, a5⟩)
            unfold TbS at NX HS0 HS1
            simp only at NX HS0 HS1
            clear p1 p2 p3 p4 p5 p6 hsl
            go_region_held3 (fun w' => Below wA.heap.size wA w' ∧ w'.cell? ⟨wo.heap.size, 0, none⟩ = some (.int .u64 x1) ∧ w'.cell? ⟨wo.heap.size, 1, none⟩ = some (.int .i64 x2) ∧ w'.cell? ⟨wo.heap.size, 2, none⟩ = some (.int .i64 x3) ∧ w'.cell? ⟨wo.heap.size, 3, none⟩ = some (.int .i64 x4) ∧ w'.cell? ⟨wo.heap.size, 4, none⟩ = some (.string (Cd.bs x5)) ∧ w'.cell? ⟨wo.heap.size, 5, none⟩ = some (.string (Cd.bs x6)))
              (first | exact HS0.out | exact HS1.out | exact NX.out _ _ (by assumption) hb2)
              (first
              | (go_at_call 25; (with_reducible refine (HQ1.out _).mono ?_); rintro e w2 ⟨rfl, hb2⟩)
              | (go_at_call 25; (with_reducible refine (HQ2.out _).mono ?_); rintro e w2 ⟨rfl, hb2⟩)
              | (go_at_call 25; (with_reducible refine (HQ3.out _).mono ?_); rintro e w2 ⟨rfl, hb2⟩)
              | (go_at_call 25; (with_reducible refine (HQ4.out _).mono ?_); rintro e w2 ⟨rfl, hb2⟩)
              | (go_at_call 26; (with_reducible refine (HQ5.out _).mono ?_); rintro e w2 ⟨rfl, hb2⟩)
              | (go_at_call 26; (with_reducible refine (HQ6.out _).mono ?_); rintro e w2 ⟨rfl, hb2⟩))
            clear q1 q2 q3 q4 q5 q6 hwx2 hwx3 hwx4
            go_wp2_with fail
            go_meet
            exact ⟨by rw [HDB.out, str2, str2, str2, str2, str2, str2]; simp only [List.append_assoc], (show Below wA.heap.size wA _ ∧ _ from by assumption).1⟩
          case rest =>
            obtain ⟨rfl, hbd⟩ := hcut
            have hbx3 := hbA.below hbd
            have hB3 := bA.trans (hbd.mono bA.size)
            clear a0 a1 a2 a3 a4 a5 HQ1 HQ2 HQ3 HQ4 HQ5 HQ6
            go_wp2_with fail
            go_roundg (add.length - (q + 1))
            case rel => exact ⟨q + 1, rfl, by omega, by go_num, by rw [HTS.out], hbx3, hB3⟩
            case measure => omega
        · obtain rfl : q = add.length := by omega
          have hsl : (HD ++ (add.take add.length).flatMap putTab).length ≤ 300000 := by
            rw [List.length_append]
            have := putTabs_len (add.take add.length) (fun p hp => HOK.out.adds p (List.mem_of_mem_take hp))
            have : (add.take add.length).length ≤ 1000 := by simp; omega
            omega
          rw [List.take_length] at hsl ⊢
          have HT2 := Lib.hid (show ld = (HD ++ add.flatMap putTab) ++ Cd.putU drop.length ++ drop.flatMap putD from HDL.out)
          generalize HD ++ add.flatMap putTab = S1 at *
          have c4 := hbx.cell 4
          simp at c4
          have hwD : IntKind.u64.wrap (drop.length : Int) = (drop.length : Int) := Cd.wrapU_nat (by omega)
          obtain ⟨S2, hS2⟩ : ∃ S2, S2 = S1 ++ Cd.putU drop.length := ⟨_, rfl⟩
          have hsl2 : S2.length ≤ 300010 := by rw [hS2, List.length_append]; omega
          have HS2 := Lib.hid hS2
          clear hS2
          go_wp2_with (go_at_call 25; (with_reducible refine (HP5.out _).mono ?_); rintro e w2 ⟨rfl, hb2⟩; have hbx2 := hbx.below hb2; have hB2 := hB.trans (hb2.mono hB.size))
          clear hwD
          go_loopg [5, 8] drop.length (fun gh s i wr => ∃ q : Nat, gh = drop.length - q ∧ q ≤ drop.length ∧ i = .int .i64 q ∧ s = .string (Cd.bs (S2 ++ (drop.take q).flatMap putD)) ∧ Ob.Obj wr w.heap.size 26 [.int .u64 next, .int .u64 seq, .int .u64 log, .slice aa add.length acap, .slice da drop.length dcap] ∧ Below w.heap.size w wr)
          case atStart => exact ⟨0, rfl, Nat.zero_le _, rfl, by rw [HS2.out, str2]; simp, hbx2, hB2⟩
          case round =>
            obtain ⟨q, rfl, hq2, rfl, rfl, hbx3, hB3⟩ := hrel
            obtain ⟨wo, rfl⟩ : ∃ wo : World, wo = wr := ⟨_, rfl⟩
            have c4 := hbx3.cell 4
            simp at c4
            have hwl : w.heap.size < wo.heap.size := hbx3.lt
            by_cases hlt : q < drop.length
            · obtain ⟨rfl, hfb⟩ := hd (by omega)
              have e0 := (hB3.cell (p := ⟨gb, go' + q, none⟩) hfb).trans (HDC.out q hlt)
              have hmt := HOK.out.drops drop[q] (List.getElem_mem hlt)
              have hsl : (S2 ++ (drop.take q).flatMap putD).length ≤ 320000 := by
                rw [List.length_append]
                have := putDs_len (drop.take q) (fun p hp => HOK.out.drops p (List.mem_of_mem_take hp))
                have : (drop.take q).length ≤ 1000 := by simp; omega
                omega
              have HTS := Lib.hid (show S2 ++ (drop.take (q + 1)).flatMap putD = (S2 ++ (drop.take q).flatMap putD) ++ putD drop[q] by rw [drops_snoc hlt, List.append_assoc])
              have hi1 : (0 : Int) ≤ (q : Int) ∧ (q : Int) < (drop.length : Int) := by omega
              generalize drop[q] = d at *
              have HQ := Lib.hid (fun W => numFn_any d d.toNat W (by omega) (by omega))
              have p1 := Cd.putU_len10 d.toNat (by omega)
              generalize S2 ++ (drop.take q).flatMap putD = S3 at *
              go_wp2_with (go_at_call 25; (with_reducible refine (HQ.out _).mono ?_); rintro e w3 ⟨rfl, hb3⟩; have hbx4 := hbx3.below hb3; have hB4 := hB3.trans (hb3.mono hB3.size))
              go_roundg (drop.length - (q + 1))
              case rel => exact ⟨q + 1, rfl, by omega, by go_num, by rw [HTS.out, str2]; rfl, hbx4, hB4⟩
              case measure => omega
            · obtain rfl : q = drop.length := by omega
              have HL := Lib.hid (show S2 ++ (drop.take drop.length).flatMap putD = ld by rw [List.take_length, HS2.out, HT2.out])
              rw [HL.out]
              generalize Fr.put 7 ld = pr at *
              obtain ⟨pb, pe⟩ := pr
              go_wp2_with (go_at_call 27; (with_reducible refine (HPUT.out _).mono ?_); rintro e w5 ⟨rfl, hb5⟩)
              go_ret2
              exact ⟨by rw [HE.out]; rfl, hB3.trans (hb5.mono hB3.size)⟩
end Mf
end Go.Proofs.Yteckjhhbljoklaa

/-
  The document's answer of chapter 10: are two edits alike?
-/
namespace Go.Proofs.Yteckjhhbljoklaa
open Go.RowKit
set_option linter.unusedSimpArgs false
set_option linter.unusedVariables false
namespace Mf

set_option maxRecDepth 100000 in
set_option maxHeartbeats 4000000 in
theorem sameEdit_eq (e : Ed) (av dv bv ev : Value) (w : World) (hU : EdIn w.heap.size w e av dv) (hV : EdIn w.heap.size w e bv ev) :
    Calls Try.prog 11 #[edV e av dv, edV e bv ev] w fun r w' => r = .returned (.bool true) ∧ Below w.heap.size w w' := by
  have HS := Lib.hid (fun W (h : Below w.heap.size w W) => sameTables_eq av bv e.add W (hU.add.grow h h.size) (hV.add.grow h h.size) (by have := hU.many; omega))
  have few := hU.few
  obtain ⟨aa, acap, _, _, rfl, _⟩ := hU.add
  obtain ⟨ba, bcap, _, _, rfl, _⟩ := hV.add
  obtain ⟨da, dcap, fb, fo, rfl, hd, hdc⟩ := hU.drop
  obtain ⟨ea, ecap, gb, go', rfl, he, hec⟩ := hV.drop
  have HDC := Lib.hid hdc
  have HEC := Lib.hid hec
  clear hU hV hdc hec
  obtain ⟨next, seq, log, add, drop⟩ := e
  unfold edV
  simp only at *
  go_enter Try.func11, Try.ntmps11
  go_wp2_with fail
  obtain ⟨w1, hw1⟩ : ∃ w1, (w.alloc (.cells #[.int .u64 next, .int .u64 seq, .int .u64 log, .slice aa add.length acap, .slice da drop.length dcap] 26)).alloc (.cells #[.int .u64 next, .int .u64 seq, .int .u64 log, .slice ba add.length bcap, .slice ea drop.length ecap] 26) = w1 := ⟨_, rfl⟩
  have hb1 : Below w.heap.size w w1 := by rw [← hw1]; exact ((Below.refl _ _).alloc (Nat.le_refl _) _).alloc (by simp) _
  have hs1 : w.heap.size + 2 ≤ w1.heap.size := by rw [← hw1]; simp
  have hA : w1.heap[w.heap.size]? = some (.cells #[.int .u64 next, .int .u64 seq, .int .u64 log, .slice aa add.length acap, .slice da drop.length dcap] 26 (0, 0)) := by rw [← hw1]; exact (Below.heap_alloc _ _ _ (by simp)).trans (World.alloc_heap_new w _)
  have hE : w1.heap[w.heap.size + 1]? = some (.cells #[.int .u64 next, .int .u64 seq, .int .u64 log, .slice ba add.length bcap, .slice ea drop.length ecap] 26 (0, 0)) := by rw [← hw1]; have := World.alloc_heap_new (w.alloc (.cells #[.int .u64 next, .int .u64 seq, .int .u64 log, .slice aa add.length acap, .slice da drop.length dcap] 26)) (.cells #[.int .u64 next, .int .u64 seq, .int .u64 log, .slice ba add.length bcap, .slice ea drop.length ecap] 26); rw [World.size_alloc] at this; exact this
  rw [hw1]
  clear hw1
  go_loopw [5] (fun i wr => ∃ q : Nat, q ≤ drop.length ∧ i = .int .i64 (q : Int) ∧ Below w1.heap.size w1 wr) (fun i _ => drop.length - (intOf i).toNat)
  case atStart => exact ⟨0, Nat.zero_le _, rfl, Below.refl _ _⟩
  case round =>
    obtain ⟨q, hq, rfl, hB⟩ := hrel
    have hBB := hb1.trans (hB.mono hb1.size)
    have gA := (hB.block _ (by omega)).trans hA
    have gE := (hB.block _ (by omega)).trans hE
    have x0 : wr.cell? ⟨w.heap.size, 0, none⟩ = some (.int .u64 next) := by simp [World.cell?, gA]
    have x1 : wr.cell? ⟨w.heap.size, 1, none⟩ = some (.int .u64 seq) := by simp [World.cell?, gA]
    have x2 : wr.cell? ⟨w.heap.size, 2, none⟩ = some (.int .u64 log) := by simp [World.cell?, gA]
    have x3 : wr.cell? ⟨w.heap.size, 3, none⟩ = some (.slice aa add.length acap) := by simp [World.cell?, gA]
    have x4 : wr.cell? ⟨w.heap.size, 4, none⟩ = some (.slice da drop.length dcap) := by simp [World.cell?, gA]
    have y0 : wr.cell? ⟨w.heap.size + 1, 0, none⟩ = some (.int .u64 next) := by simp [World.cell?, gE]
    have y1 : wr.cell? ⟨w.heap.size + 1, 1, none⟩ = some (.int .u64 seq) := by simp [World.cell?, gE]
    have y2 : wr.cell? ⟨w.heap.size + 1, 2, none⟩ = some (.int .u64 log) := by simp [World.cell?, gE]
    have y3 : wr.cell? ⟨w.heap.size + 1, 3, none⟩ = some (.slice ba add.length bcap) := by simp [World.cell?, gE]
    have y4 : wr.cell? ⟨w.heap.size + 1, 4, none⟩ = some (.slice ea drop.length ecap) := by simp [World.cell?, gE]
    clear gA gE
    by_cases hlt : q < drop.length
    · obtain ⟨rfl, hfb⟩ := hd (by omega)
      obtain ⟨rfl, hgb⟩ := he (by omega)
      have e0 := (hBB.cell (p := ⟨fb, fo + q, none⟩) hfb).trans (HDC.out q hlt)
      have d0 := (hBB.cell (p := ⟨gb, go' + q, none⟩) hgb).trans (HEC.out q hlt)
      have hi1 : (0 : Int) ≤ (q : Int) ∧ (q : Int) < (drop.length : Int) := by omega
      generalize drop[q] = d at *
      go_wp2_with fail
      try go_big_quiet (fail)
      try go_wp2_with fail
      go_roundw
      case rel => first | exact ⟨q + 1, by omega, by go_num, hB⟩ | exact ⟨q + 1, by omega, by go_num, belowN hB _⟩
      case measure => simp [intOf]; omega
    · obtain rfl : q = drop.length := by omega
      have HBQ := Lib.hid hBB
      have hz0 : w.heap.size < wr.heap.size := Nat.lt_of_lt_of_le (show w.heap.size < w1.heap.size by omega) hB.size
      have hz := Nat.lt_of_lt_of_le (show w.heap.size + 1 < w1.heap.size by omega) hB.size
      go_wp2_with (go_at_call 28; (with_reducible refine (HS.out _ HBQ.out).mono ?_); rintro r w2 ⟨rfl, hb2⟩; have x0' := (hb2.cell (p := ⟨w.heap.size, 0, none⟩) hz0).trans x0; have x1' := (hb2.cell (p := ⟨w.heap.size, 1, none⟩) hz0).trans x1; have x2' := (hb2.cell (p := ⟨w.heap.size, 2, none⟩) hz0).trans x2; have y0' := (hb2.cell (p := ⟨w.heap.size + 1, 0, none⟩) hz).trans y0; have y1' := (hb2.cell (p := ⟨w.heap.size + 1, 1, none⟩) hz).trans y1; have y2' := (hb2.cell (p := ⟨w.heap.size + 1, 2, none⟩) hz).trans y2)
      go_ret
      exact ⟨rfl, HBQ.out.trans (hb2.mono HBQ.out.size)⟩
end Mf
end Go.Proofs.Yteckjhhbljoklaa

/-
  The law ManifestEncodes, over what the program's manifest owes.
-/
namespace Go.Proofs.Yteckjhhbljoklaa
open Go.RowKit
set_option linter.unusedSimpArgs false
set_option linter.unusedVariables false
namespace Mf
def EncOk10 : Prop := ∀ (e : Ed) (av dv : Value) (w : World), EdIn w.heap.size w e av dv →
    Calls Try.prog 9 #[edV e av dv] w fun r w' => r = .returned (.tuple #[.string (Cd.bs (encE e).1), .int .i64 ((encE e).2 : Nat)]) ∧ Below w.heap.size w w'
theorem EdIn.grow {B : Nat} {w W : World} {e : Ed} {av dv : Value} (hE : EdIn B w e av dv) (hb : Below B w W) (hs : B ≤ W.heap.size) : EdIn W.heap.size W e av dv :=
  ⟨hE.add.grow hb hs, hE.drop.grow hb hs, hE.each, hE.ds, hE.n0, hE.n1, hE.s0, hE.s1, hE.l0, hE.l1, hE.many, hE.few⟩
/-- an edit in rows of its own -/
theorem EdIn.held {B : Nat} {w W : World} {e : Ed} {av dv : Value} {g1 g2 : Nat} (hE : EdIn B w e av dv) (h1 : Ob.Obj W g1 44 (tcs e.add)) (h2 : Ob.Obj W g2 22 (nC e.drop)) : EdIn W.heap.size W e (.slice (some ⟨g1, 0, none⟩) e.add.length e.add.length) (.slice (some ⟨g2, 0, none⟩) e.drop.length e.drop.length) :=
  ⟨tbs_of_obj h1, ns_of_obj h2, hE.each, hE.ds, hE.n0, hE.n1, hE.s0, hE.s1, hE.l0, hE.l1, hE.many, hE.few⟩

set_option maxRecDepth 100000 in
set_option maxHeartbeats 4000000 in
theorem manifestEncodes_walk (EO : EncOk10) (e : Ed) (av dv : Value) (w : World) (hE : EdIn w.heap.size w e av dv) :
    Calls Try.prog 3 #[edV e av dv] w fun r w' => r = .returned (.bool true) ∧ Below w.heap.size w w' := by
  have hW : Below w.heap.size w (w.alloc (.cells #[.int .u64 e.next, .int .u64 e.seq, .int .u64 e.log, av, dv] 26)) := (Below.refl _ _).alloc (Nat.le_refl _) _
  have bx := Ob.Obj.new w 26 [.int .u64 e.next, .int .u64 e.seq, .int .u64 e.log, av, dv]
  have HH := Lib.hid (held_any e av dv _ (hE.grow hW hW.size))
  have HE1 := Lib.hid (fun W bv ev (h : EdIn W.heap.size W e bv ev) => EO e bv ev W h)
  have HE2 := Lib.hid (fun W bv ev (h : EdIn W.heap.size W e bv ev) => encodeR10_any e bv ev W h)
  have HSE := Lib.hid (fun W bv ev cv fv (h1 : EdIn W.heap.size W e bv ev) (h2 : EdIn W.heap.size W e cv fv) => sameEdit_eq e bv ev cv fv W h1 h2)
  have HX := Lib.hid (fun W1 W g1 g2 (h1 : Ob.Obj W1 g1 44 (tcs e.add)) (h2 : Ob.Obj W1 g2 22 (nC e.drop)) (hb : Below W1.heap.size W1 W) => (hE.held h1 h2).grow hb hb.size)
  have HE := Lib.hid (fun W (hb : Below w.heap.size w W) => hE.grow hb hb.size)
  unfold HeldOut at HH
  generalize encE e = r at *
  obtain ⟨rb, re⟩ := r
  obtain ⟨⟨aa, acap, _, _, rfl, _⟩, ⟨da, dcap, _, _, rfl, _⟩, _⟩ := hE
  obtain ⟨next, seq, log, add, drop⟩ := e
  unfold edV at *
  simp only at *
  go_enter Try.func3, Try.ntmps3
  go_wp2_with (first
    | (go_at_call 8; (with_reducible refine HH.out.mono ?_); rintro e w1 ⟨g1, g2, rfl, ho1, ho2, hg1, hg2, hgn, hb1⟩; have bx1 := (bx.below hb1).alloc (.cells #[.int .u64 next, .int .u64 seq, .int .u64 log, .slice (some ⟨g1, 0, none⟩) add.length add.length, .slice (some ⟨g2, 0, none⟩) drop.length drop.length] 26); have bo1 := Ob.Obj.new w1 26 [.int .u64 next, .int .u64 seq, .int .u64 log, .slice (some ⟨g1, 0, none⟩) add.length add.length, .slice (some ⟨g2, 0, none⟩) drop.length drop.length]; have hb1a := (Below.refl w1.heap.size w1).alloc (Nat.le_refl _) (.cells #[.int .u64 next, .int .u64 seq, .int .u64 log, .slice (some ⟨g1, 0, none⟩) add.length add.length, .slice (some ⟨g2, 0, none⟩) drop.length drop.length] 26); have HB1 := Lib.hid (hW.trans (hb1.mono (by simp))))
    | (go_at_call 9; (with_reducible refine (HE1.out _ _ _ (HX.out _ _ _ _ ho1 ho2 hb1a)).mono ?_); rintro e w2 ⟨rfl, hb2⟩; have bx2 := bx1.below hb2; have bo2 := bo1.below hb2; have hb2a := hb1a.trans (hb2.mono hb1a.size); have p20 := bx2.cell 0; have p21 := bx2.cell 1; have p22 := bx2.cell 2; have p23 := bx2.cell 3; have p24 := bx2.cell 4; have q20 := bo2.cell 0; have q21 := bo2.cell 1; have q22 := bo2.cell 2; have q23 := bo2.cell 3; have q24 := bo2.cell 4; simp at p20 p21 p22 p23 p24 q20 q21 q22 q23 q24; have z20 := bx2.lt; have z21 := bo2.lt; have HB2 := Lib.hid (HB1.out.trans (hb2a.mono HB1.out.size)))
    | (go_at_call 10; (with_reducible refine (HE2.out _ _ _ (HE.out _ HB2.out)).mono ?_); rintro e w3 ⟨rfl, hb3⟩; have bx3 := bx2.below hb3; have bo3 := bo2.below hb3; have hb3a := hb2a.trans (hb3.mono hb2a.size); have p30 := bx3.cell 0; have p31 := bx3.cell 1; have p32 := bx3.cell 2; have p33 := bx3.cell 3; have p34 := bx3.cell 4; have q30 := bo3.cell 0; have q31 := bo3.cell 1; have q32 := bo3.cell 2; have q33 := bo3.cell 3; have q34 := bo3.cell 4; simp at p30 p31 p32 p33 p34 q30 q31 q32 q33 q34; have z30 := bx3.lt; have z31 := bo3.lt; have HB3 := Lib.hid (HB1.out.trans (hb3a.mono HB1.out.size)))
    | (go_at_call 11; (with_reducible refine (HSE.out _ _ _ _ _ (HX.out _ _ _ _ ho1 ho2 hb3a) (HE.out _ HB3.out)).mono ?_); rintro e w4 ⟨rfl, hb4⟩))
  go_ret
  exact ⟨rfl, HB3.out.trans (hb4.mono HB3.out.size)⟩
end Mf
end Go.Proofs.Yteckjhhbljoklaa

/-
  The program's manifest: may a number, a table, an edit be?
-/
namespace Go.Proofs.Yteckjhhbljoklaa
open Go.RowKit
set_option linter.unusedSimpArgs false
set_option linter.unusedVariables false
namespace Md10
open Mf
open Op (bytesLess)
def mayS (n : Int) : Bool := decide (1 ≤ n) && decide (n ≤ 1073741824)
def mayK (k : List UInt8) : Bool := decide (1 ≤ k.length) && decide (k.length ≤ 96)
theorem mayT_parts (x : Tbl) : mayT x = (mayD x.num && (decide (0 ≤ x.lev) && (decide (x.lev < 4) && (mayS x.siz && (mayS x.cnt && (mayK x.lo && (mayK x.hi && !bytesLess x.hi x.lo))))))) := by
  unfold mayT mayD mayS mayK
  simp only [Bool.and_assoc]

set_option maxRecDepth 100000 in
theorem numberMayBe_any (n : Int) (w : World) : Calls Try.prog 43 #[.int .u64 n] w fun e w' => e = .returned (.bool (mayD n)) ∧ w = w' := by
  unfold mayD
  by_cases h1 : 1 ≤ n
  · by_cases h2 : n ≤ 4611686018427387904
    · simp only [h1, h2, decide_true, Bool.and_true]
      go_enter Try.func43, Try.ntmps43
      go_wp2_with fail
      go_ret
      exact ⟨rfl, rfl⟩
    · simp only [h1, h2, decide_true, decide_false, Bool.and_false]
      go_enter Try.func43, Try.ntmps43
      go_wp2_with fail
      go_ret
      exact ⟨rfl, rfl⟩
  · simp only [h1, decide_false, Bool.false_and]
    go_enter Try.func43, Try.ntmps43
    go_wp2_with fail
    go_ret
    exact ⟨rfl, rfl⟩

set_option maxRecDepth 100000 in
theorem sizeMayBe_any (n : Int) (w : World) : Calls Try.prog 68 #[.int .i64 n] w fun e w' => e = .returned (.bool (mayS n)) ∧ w = w' := by
  unfold mayS
  by_cases h1 : 1 ≤ n
  · by_cases h2 : n ≤ 1073741824
    · simp only [h1, h2, decide_true, Bool.and_true]
      go_enter Try.func68, Try.ntmps68
      go_wp2_with fail
      go_ret
      exact ⟨rfl, rfl⟩
    · simp only [h1, h2, decide_true, decide_false, Bool.and_false]
      go_enter Try.func68, Try.ntmps68
      go_wp2_with fail
      go_ret
      exact ⟨rfl, rfl⟩
  · simp only [h1, decide_false, Bool.false_and]
    go_enter Try.func68, Try.ntmps68
    go_wp2_with fail
    go_ret
    exact ⟨rfl, rfl⟩

set_option maxRecDepth 100000 in
theorem keyMayBe_any (k : List UInt8) (w : World) : Calls Try.prog 69 #[.string (Cd.bs k)] w fun e w' => e = .returned (.bool (mayK k)) ∧ w = w' := by
  unfold mayK
  have hsk : (Cd.bs k).size = k.length := rfl
  have hvl : (Cd.bs k).toList = k := by rw [ByteArray.toList_mk]
  cases k with
  | nil =>
    go_enter Try.func69, Try.ntmps69
    go_wp2_with fail
    go_ret
    exact ⟨rfl, rfl⟩
  | cons c r =>
    have h1 : 1 ≤ (c :: r).length := by simp
    have h5 : ((c :: r) == []) = false := rfl
    by_cases h2 : (c :: r).length ≤ 96
    · have h2i : ((c :: r).length : Int) ≤ 96 := by omega
      simp only [h1, h2, decide_true, Bool.and_true]
      generalize c :: r = k at *
      have h6 : k.isEmpty = false := by simpa using h5
      clear h1 h2
      go_enter Try.func69, Try.ntmps69
      go_wp2_with fail
      go_ret
      exact ⟨rfl, rfl⟩
    · have h2i : ¬ ((c :: r).length : Int) ≤ 96 := by omega
      simp only [h1, h2, decide_true, decide_false, Bool.and_false]
      generalize c :: r = k at *
      have h6 : k.isEmpty = false := by simpa using h5
      clear h1 h2
      go_enter Try.func69, Try.ntmps69
      go_wp2_with fail
      go_ret
      exact ⟨rfl, rfl⟩

theorem eight (a b c d e f g h : Bool) : a = false ∨ (a = true ∧ b = false) ∨ (a = true ∧ b = true ∧ c = false) ∨ (a = true ∧ b = true ∧ c = true ∧ d = false) ∨ (a = true ∧ b = true ∧ c = true ∧ d = true ∧ e = false) ∨ (a = true ∧ b = true ∧ c = true ∧ d = true ∧ e = true ∧ f = false) ∨ (a = true ∧ b = true ∧ c = true ∧ d = true ∧ e = true ∧ f = true ∧ g = false) ∨ (a = true ∧ b = true ∧ c = true ∧ d = true ∧ e = true ∧ f = true ∧ g = true ∧ h = h) := by
  cases a <;> cases b <;> cases c <;> cases d <;> cases e <;> cases f <;> cases g <;> simp

set_option maxRecDepth 100000 in
set_option maxHeartbeats 4000000 in
theorem tableMayBe_any (x : Tbl) (w : World) :
    Calls Try.prog 42 #[tblV x] w fun e w' => e = .returned (.bool (mayT x)) ∧ Below w.heap.size w w' := by
  have hmt := mayT_parts x
  obtain ⟨n, l, s, c, lo, hi⟩ := x
  unfold tblV
  simp only at hmt ⊢
  have hkl : (Cd.bs lo).toList = lo := by rw [ByteArray.toList_mk]
  have hvl : (Cd.bs hi).toList = hi := by rw [ByteArray.toList_mk]
  have HN := Lib.hid (fun W => numberMayBe_any n W)
  have HS := Lib.hid (fun W => sizeMayBe_any s W)
  have HC := Lib.hid (fun W => sizeMayBe_any c W)
  have HL := Lib.hid (fun W => keyMayBe_any lo W)
  have HH := Lib.hid (fun W => keyMayBe_any hi W)
  have h8 := eight (mayD n) (decide (0 ≤ l)) (decide (l < 4)) (mayS s) (mayS c) (mayK lo) (mayK hi) true
  rw [hmt]
  clear hmt
  generalize mayD n = b1 at *
  generalize mayS s = b2 at *
  generalize mayS c = b3 at *
  generalize mayK lo = b4 at *
  generalize mayK hi = b5 at *
  rcases h8 with rfl | ⟨rfl, h1⟩ | ⟨rfl, h1, h2⟩ | ⟨rfl, h1, h2, rfl⟩ | ⟨rfl, h1, h2, rfl, rfl⟩ | ⟨rfl, h1, h2, rfl, rfl, rfl⟩ | ⟨rfl, h1, h2, rfl, rfl, rfl, rfl⟩ | ⟨rfl, h1, h2, rfl, rfl, rfl, rfl, _⟩
  all_goals (try rw [h1])
  all_goals (try rw [h2])
  all_goals (try simp only [decide_eq_true_eq, decide_eq_false_iff_not] at h1)
  all_goals (try simp only [decide_eq_true_eq, decide_eq_false_iff_not] at h2)
  all_goals go_enter Try.func42, Try.ntmps42
  all_goals (go_wp2_with (first
    | (go_at_call 43; (with_reducible refine (HN.out _).mono ?_); rintro e w1 ⟨rfl, rfl⟩)
    | (go_at_call 68; (with_reducible refine (HS.out _).mono ?_); rintro e w1 ⟨rfl, rfl⟩)
    | (go_at_call 68; (with_reducible refine (HC.out _).mono ?_); rintro e w1 ⟨rfl, rfl⟩)
    | (go_at_call 69; (with_reducible refine (HL.out _).mono ?_); rintro e w1 ⟨rfl, rfl⟩)
    | (go_at_call 69; (with_reducible refine (HH.out _).mono ?_); rintro e w1 ⟨rfl, rfl⟩)))
  all_goals go_ret
  all_goals refine ⟨congrArg (fun b => Ending.returned (.bool b)) ?_, (Below.refl _ _).alloc (Nat.le_refl _) _⟩
  all_goals (try rw [bl_le])
  all_goals (first | rfl | (simp_all; done) | skip)

set_option maxRecDepth 100000 in
set_option maxHeartbeats 4000000 in
theorem editMayBe_any (e : Ed) (av dv : Value) (w : World) (hE : EdIn w.heap.size w e av dv) :
    Calls Try.prog 21 #[edV e av dv] w fun r w' => r = .returned (.bool (mayE e)) ∧ Below w.heap.size w w' := by
  obtain ⟨⟨aa, acap, fb, fo, rfl, ha, hac⟩, ⟨da, dcap, gb, go', rfl, hd, hdc⟩, each, ds, n0, n1, s0, s1, l0, l1, many, few⟩ := hE
  have HMT := Lib.hid (fun (W : World) (x : Tbl) => show Calls Try.prog 42 #[.agg #[.int .u64 x.num, .int .i64 x.lev, .int .i64 x.siz, .int .i64 x.cnt, .string (Cd.bs x.lo), .string (Cd.bs x.hi)]] W fun e w' => e = .returned (.bool (mayT x)) ∧ Below W.heap.size W w' from tableMayBe_any x W)
  have HAC := Lib.hid hac
  have HDC := Lib.hid hdc
  clear hac hdc each ds
  by_cases hh : mayHead e
  · have HRW := Lib.hid (mayE_rows hh)
    obtain ⟨h1, h2, h3, h4, h5⟩ := hh
    obtain ⟨next, seq, log, add, drop⟩ := e
    unfold edV
    simp only at *
    go_enter Try.func21, Try.ntmps21
    go_upto_region 1 with fail
    go_cut [24] from 7 to 24 (fun r wx => r = .bool false ∧ wx = w.alloc (.cells #[.int .u64 next, .int .u64 seq, .int .u64 log, .slice aa add.length acap, .slice da drop.length dcap] 26))
    case first =>
      go_wp2_with fail
      all_goals go_meet
      all_goals exact ⟨congrArg Value.bool (by first | (simp; done) | (simp; omega) | (simp_all; done)), rfl⟩
    case rest =>
    obtain ⟨rfl, rfl⟩ := hcut
    clear h1 h2 h3 h4 h5
    go_wp2_with fail
    obtain ⟨w1, hw1⟩ : ∃ w1, w.alloc (.cells #[.int .u64 next, .int .u64 seq, .int .u64 log, .slice aa add.length acap, .slice da drop.length dcap] 26) = w1 := ⟨_, rfl⟩
    have hb1 : Below w.heap.size w w1 := by rw [← hw1]; exact (Below.refl _ _).alloc (Nat.le_refl _) _
    have hs1 : w.heap.size < w1.heap.size := by rw [← hw1]; simp
    have hc1 : w1.heap[w.heap.size]? = some (.cells #[.int .u64 next, .int .u64 seq, .int .u64 log, .slice aa add.length acap, .slice da drop.length dcap] 26 (0, 0)) := by rw [← hw1]; exact World.alloc_heap_new w _
    have c4 : w1.cell? ⟨w.heap.size, 4, none⟩ = some (.slice da drop.length dcap) := by simp [World.cell?, hc1]
    rw [hw1]
    clear hw1 hc1
    go_loopw [28] (fun i wr => ∃ q : Nat, q ≤ add.length ∧ i = .int .i64 (q : Int) ∧ (add.take q).all mayT = true ∧ Below w1.heap.size w1 wr) (fun i _ => add.length - (intOf i).toNat)
    case atStart => exact ⟨0, Nat.zero_le _, rfl, rfl, Below.refl _ _⟩
    case round =>
      obtain ⟨q, hq, rfl, hall, hB⟩ := hrel
      have b4 := (hB.cell (p := ⟨w.heap.size, 4, none⟩) hs1).trans c4
      have hBB := hb1.trans (hB.mono hb1.size)
      by_cases hlt : q < add.length
      · obtain ⟨rfl, hfb⟩ := ha (by omega)
        obtain ⟨e0, e1, e2, e3, e4, e5⟩ := (HAC.out q hlt).below hBB hfb
        have hi1 : (0 : Int) ≤ (q : Int) ∧ (q : Int) < (add.length : Int) := by omega
        have hmem := List.getElem_mem hlt
        have hsn := List.take_succ_eq_append_getElem hlt
        have HM := Lib.hid (fun W => HMT.out W add[q])
        have hwb : fb < wr.heap.size := by have := hBB.size; omega
        generalize add[q] = x at *
        obtain ⟨x1, x2, x3, x4, x5, x6⟩ := x
        simp only at e0 e1 e2 e3 e4 e5 HM
        cases hm : mayT ⟨x1, x2, x3, x4, x5, x6⟩ with
        | true =>
          have HX := Lib.hid (show (add.take (q + 1)).all mayT = true by rw [hsn, List.all_append, hall, List.all_cons, hm]; rfl)
          rw [hm] at HM
          clear hm hmem hsn hall HMT
          go_wp2_with (go_at_call 42; (with_reducible refine (HM.out _).mono ?_); rintro e w2 ⟨rfl, hb2⟩)
          go_roundw
          case rel => exact ⟨q + 1, by omega, by go_num, HX.out, by repeat (first | exact hB | (refine Below.trans ?_ (hb2.mono ?_)) | (refine Below.setCell ?_ ?_ _) | (refine Below.alloc ?_ ?_ _) | exact hB.size | omega | (focus (simp; omega)) | (focus (simp; have := hB.size; omega)))⟩
          case measure => simp [intOf]; omega
        | false =>
          have HX := Lib.hid (show (add.all mayT && drop.all mayD) = false by
            have : add.all mayT = false := by
              rw [List.all_eq_false]
              exact ⟨_, hmem, by rw [hm]; simp⟩
            rw [this]; rfl)
          rw [hm] at HM
          clear hm hmem hsn hall HMT
          go_wp2_with (go_at_call 42; (with_reducible refine (HM.out _).mono ?_); rintro e w2 ⟨rfl, hb2⟩)
          go_ret
          exact ⟨by rw [HRW.out, HX.out]; rfl, by repeat (first | exact hBB | (refine Below.trans ?_ (hb2.mono ?_)) | (refine Below.setCell ?_ ?_ _) | (refine Below.alloc ?_ ?_ _) | exact hBB.size | omega | (focus (simp; omega)) | (focus (simp; have := hBB.size; omega)))⟩
      · obtain rfl : q = add.length := by omega
        rw [List.take_length] at hall
        have HAL := Lib.hid hall
        obtain ⟨w5, rfl⟩ : ∃ w5 : World, w5 = wr := ⟨_, rfl⟩
        clear hall hlt hq
        go_wp2_with fail
        go_loopw [39] (fun i wr => ∃ q : Nat, q ≤ drop.length ∧ i = .int .i64 (q : Int) ∧ (drop.take q).all mayD = true ∧ Below w5.heap.size w5 wr) (fun i _ => drop.length - (intOf i).toNat)
        case atStart => exact ⟨0, Nat.zero_le _, rfl, rfl, Below.refl _ _⟩
        case round =>
          obtain ⟨q, hq, rfl, hall, hB6⟩ := hrel
          have hBB6 := hBB.trans (hB6.mono hBB.size)
          by_cases hlt : q < drop.length
          · obtain ⟨rfl, hgb⟩ := hd (by omega)
            have e0 := (hBB6.cell (p := ⟨gb, go' + q, none⟩) hgb).trans (HDC.out q hlt)
            have hi1 : (0 : Int) ≤ (q : Int) ∧ (q : Int) < (drop.length : Int) := by omega
            have hmem := List.getElem_mem hlt
            have hsn := List.take_succ_eq_append_getElem hlt
            generalize drop[q] = d at *
            have HN := Lib.hid (fun W => numberMayBe_any d W)
            cases hm : mayD d with
            | true =>
              have HX := Lib.hid (show (drop.take (q + 1)).all mayD = true by rw [hsn, List.all_append, hall, List.all_cons, hm]; rfl)
              rw [hm] at HN
              clear hm hmem hsn hall
              go_wp2_with (go_at_call 43; (with_reducible refine (HN.out _).mono ?_); rintro e w2 ⟨rfl, rfl⟩)
              go_roundw
              case rel => exact ⟨q + 1, by omega, by go_num, HX.out, hB6⟩
              case measure => simp [intOf]; omega
            | false =>
              have HX := Lib.hid (show (add.all mayT && drop.all mayD) = false by
                have : drop.all mayD = false := by
                  rw [List.all_eq_false]
                  exact ⟨_, hmem, by rw [hm]; simp⟩
                rw [this, Bool.and_false])
              rw [hm] at HN
              clear hm hmem hsn hall
              go_wp2_with (go_at_call 43; (with_reducible refine (HN.out _).mono ?_); rintro e w2 ⟨rfl, rfl⟩)
              go_ret
              exact ⟨by rw [HRW.out, HX.out]; rfl, hBB6⟩
          · obtain rfl : q = drop.length := by omega
            rw [List.take_length] at hall
            have HDL := Lib.hid hall
            clear hall hlt hq
            go_wp2_with fail
            go_ret
            exact ⟨by rw [HRW.out, HAL.out, HDL.out]; rfl, hBB6⟩
  · have HRW := Lib.hid (mayE_head hh)
    obtain ⟨next, seq, log, add, drop⟩ := e
    unfold edV
    unfold mayHead at hh
    simp only at *
    go_enter Try.func21, Try.ntmps21
    go_upto_region 1 with fail
    go_cut [24] from 7 to 24 (fun r wx => r = .bool true ∧ wx = w.alloc (.cells #[.int .u64 next, .int .u64 seq, .int .u64 log, .slice aa add.length acap, .slice da drop.length dcap] 26))
    case first =>
      go_wp2_with fail
      all_goals go_meet
      all_goals exact ⟨congrArg Value.bool (by first | (simp; done) | (simp; omega) | (simp_all; done)), rfl⟩
    case rest =>
    obtain ⟨rfl, rfl⟩ := hcut
    go_wp2_with fail
    all_goals go_ret
    all_goals exact ⟨by rw [HRW.out]; rfl, (Below.refl _ _).alloc (Nat.le_refl _) _⟩
end Md10
end Go.Proofs.Yteckjhhbljoklaa

/-
  What the library's functions answer at this dump: the library's contracts, one application each.
-/
namespace Go.Proofs
open Go.Shelf
def Try.lays169_ren : Go.Shelf.Ren := ⟨fun | 169 => 50 | n => n, fun | 70 => 90 | 9 => 9 | 0 => 0 | 72 => 92 | 37 => 86 | 127 => 124 | 3 => 3 | 5 => 5 | n => n, fun | n => n⟩
theorem Try.lays169 : Go.Proofs.Lays.n169 Try.prog Try.lays169_ren := {
  mixed := by kernel_rfl
  f169 := Try.func50.trans (congrArg some (by kernel_rfl))
  t0 := Try.underlying0
  a0 := Try.isAgg0
  z0 := Try.sizeOf0
  v0 := Try.zeroValue0
  t3 := Try.underlying3
  a3 := Try.isAgg3
  z3 := Try.sizeOf3
  v3 := Try.zeroValue3
  t9 := Try.underlying9
  a9 := Try.isAgg9
  z9 := Try.sizeOf9
  v9 := Try.zeroValue9
  t37 := Try.underlying86
  a37 := Try.isAgg86
  z37 := Try.sizeOf86
  v37 := Try.zeroValue86
  t70 := Try.underlying90
  a70 := Try.isAgg90
  z70 := Try.sizeOf90
  v70 := Try.zeroValue90
  t72 := Try.underlying92
  a72 := Try.isAgg92
  z72 := Try.sizeOf92
  v72 := Try.zeroValue92
  t127 := Try.underlying124
  a127 := Try.isAgg124
  z127 := Try.sizeOf124
  v127 := Try.zeroValue124 }
theorem Try.Builder_Extra_169 : Builder.Extra Try.prog Try.lays169_ren := {
  sizeBuilder := by kernel_rfl
  liesBuilder := by kernel_rfl
  t5 := Try.underlying5
  a5 := Try.isAgg5
  z5 := Try.sizeOf5
  v5 := Try.zeroValue5
  infoByte := by kernel_rfl
  cellsByte := by kernel_rfl
  sizeByte := by kernel_rfl
  neB5 := by decide }
open Go.RowKit in
theorem Try.Builder_String_any_k (B b : Nat) (l : List UInt8) (w : World) (h : Lib.IsBuilderF 92 5 B b (Lib.byteCells l) w) (hBw : B ≤ w.heap.size) :
    Calls Try.prog 50 #[.pointer (some ⟨b, 0, none⟩)] w fun e w' => e = .returned (.string ⟨l.toArray⟩) ∧ (Lib.IsBuilderF 92 5 B b (Lib.byteCells l) w' ∧ Below B w w' ∧ Lib.OthersKept 5 (some b) w w') := Any.Builder_String_any_k Try.lays169 Try.Builder_Extra_169 B b l w h hBw
end Go.Proofs

/-
  strings.Builder as this dump has it: the copy check, WriteString, String, on a builder that the call itself has made.
-/
namespace Go.Proofs.Yteckjhhbljoklaa
open Go.RowKit
set_option linter.unusedSimpArgs false
set_option linter.unusedVariables false
namespace Sb
/-- block b is a builder that holds these bytes; all of it lies at B or above -/
def Is (B b : Nat) (l : List UInt8) (W : World) : Prop := Lib.IsBuilderF 92 5 B b (Lib.byteCells l) W
/-- all but the builder's own stands -/
def Rest (b : Nat) (W W' : World) : Prop := Lib.OthersKept 5 (some b) W W'
theorem Rest.refl (b : Nat) (W : World) : Rest b W W := Lib.OthersKept.refl _ _ _
theorem Rest.trans {b : Nat} {W W1 W2 : World} (h : Rest b W W1) (k : Rest b W1 W2) : Rest b W W2 := Lib.OthersKept.trans h k
theorem Rest.below {b : Nat} {W W' : World} (h : Below W.heap.size W W') : Rest b W W' := fun k o hk hb ho => (h.block k (Array.getElem?_eq_some_iff.1 hk).1).trans hk
theorem Rest.obj {b k : Nat} {W W' : World} {t : TypeId} {cs : List Value} (h : Rest b W W') (ho : Ob.Obj W k t cs) (hk : k ≠ b) (ht : t ≠ 5) : Ob.Obj W' k t cs :=
  h k _ ho (fun e => hk (Option.some.inj e)) (fun c fz e => ht (by injection e))
theorem Is.lt {B b : Nat} {l : List UInt8} {W : World} (h : Is B b l W) : b < W.heap.size := h.elim (·.lt) (·.lt)
theorem Is.ge {B b : Nat} {l : List UInt8} {W : World} (h : Is B b l W) : B ≤ b := h.elim (·.1) (·.1)
theorem Is.below {B b : Nat} {l : List UInt8} {W W' : World} (h : Is B b l W) (hb : Below W.heap.size W W') : Is B b l W' := by
  have key : ∀ p, Lib.BuilderAtF 92 5 B b p (Lib.byteCells l) W → Lib.BuilderAtF 92 5 B b p (Lib.byteCells l) W' := fun p ⟨h0, v, h1, h2, h3⟩ => by
    refine ⟨h0, v, (hb.block b (Array.getElem?_eq_some_iff.1 h1).1).trans h1, ?_, h3⟩
    rcases h2 with ⟨h4, h5 | ⟨g, cap, cur, fz, e1, e2, e3, e4⟩⟩
    · exact ⟨h4, .inl h5⟩
    · exact ⟨h4, .inr ⟨g, cap, cur, fz, e1, e2, (hb.block g (Array.getElem?_eq_some_iff.1 e3).1).trans e3, e4⟩⟩
  exact h.imp (key _) (key _)
theorem Is.alloc {B b : Nat} {l : List UInt8} {W : World} (h : Is B b l W) (o : Go.Obj) : Is B b l (W.alloc o) := h.below ((Below.refl _ _).alloc (Nat.le_refl _) _)
theorem Is.drew {B b : Nat} {l : List UInt8} {W : World} (h : Is B b l W) : Is B b l W.drew := h.below (Below.refl _ _).drew
theorem Is.new (W : World) : Is W.heap.size W.heap.size [] (W.alloc (.cells #[.pointer none, .slice none 0 0] 92)) :=
  .inl ⟨Nat.le_refl _, .slice none 0 0, World.alloc_heap_new W _, ⟨by first | decide | simp, .inl ⟨rfl, rfl⟩⟩, by simp [Value.ownBlock]⟩

theorem strCells_bytes (s : List UInt8) : Lib.strCells ⟨s.toArray⟩ = Lib.byteCells s := by
  simp [Lib.strCells, Lib.byteCells]

theorem sizeBuilder : (Try.prog.info? 92).map (·.size) = some 2 := by kernel_rfl

set_option maxHeartbeats 2000000 in
set_option maxRecDepth 100000 in
theorem copyCheck_any (B b : Nat) (bs : List Value) (w : World) (h : Lib.IsBuilderF 92 5 B b bs w) :
    Calls Try.prog 72 #[.pointer (some ⟨b, 0, none⟩)] w fun e w' => e = .returned (.tuple #[]) ∧ (Lib.BuilderAtF 92 5 B b (.pointer (some ⟨b, 0, none⟩)) bs w' ∧ Below B w w' ∧ Rest b w w') := by
  rcases h with h | h
  · have c0 := h.cell0
    have f0 := h.frozen0
    have hl := h.lt
    have hB := h.1
    have hsh := h.shape
    obtain ⟨j, hj, hjs⟩ := Option.map_eq_some_iff.1 sizeBuilder
    have HU := Lib.hid (h.used (.pointer (some ⟨b, 0, none⟩)))
    clear h
    go_enter Try.func72, Try.ntmps72
    go_wp2
    rw [Lib.run_to_unsafe w ⟨b, 0, none⟩ Try.underlying90 Try.underlying132 hj (by rw [hjs]; decide) hsh (Nat.zero_lt_succ 1)]
    simp only [Result.andThen]
    rw [Oper.upon_value]
    go_wp2
    rw [run_callFunc_extern Try.func82 (by kernel_rfl) (by kernel_rfl) (by kernel_rfl) (e := Extern.AbiNoEscape.same) (by kernel_rfl)]
    rw [Lib.run_noEscape]
    simp only [Result.andThen]
    rw [Oper.upon_value]
    go_wp2
    rw [Lib.run_from_unsafe w ⟨b, 0, none⟩ Try.underlying132 Try.underlying90 hj hsh (by kernel_rfl)]
    simp only [Result.andThen]
    rw [Oper.upon_value]
    go_wp2
    go_end0
    exact ⟨rfl, HU.out, (Below.refl B w).setCell (p := ⟨b, 0, none⟩) hB _, (Lib.OthersKept.refl _ _ w).setCell ⟨b, 0, none⟩ rfl _⟩
  · have c0 := h.cell0
    obtain ⟨j, hj, hjs⟩ := Option.map_eq_some_iff.1 sizeBuilder
    have H := Lib.hid h
    clear h
    go_enter Try.func72, Try.ntmps72
    go_wp2
    rw [Lib.run_neq_ptr_same w _ Try.underlying90 hj]
    go_wp2
    go_end0
    exact ⟨rfl, H.out, Below.refl B _, Lib.OthersKept.refl _ _ _⟩

theorem info_u8 : (Try.prog.info? 5).map (fun i => (i.zero, i.size, i.bytes)) = some (some (.int .u8 0), 1, 1) := by kernel_rfl

set_option maxHeartbeats 2000000 in
set_option maxRecDepth 100000 in
theorem writeString_any (B b : Nat) (l s : List UInt8) (w : World) (h : Is B b l w) (hlen : l.length + s.length ≤ 140737488355328) (hBw : B ≤ w.heap.size) :
    Calls Try.prog 48 #[.pointer (some ⟨b, 0, none⟩), .string ⟨s.toArray⟩] w fun e w' => e = .returned (.tuple #[.int .i64 (s.length : Nat), .nilIface]) ∧ Is B b (l ++ s) w' ∧ Below B w w' ∧ Rest b w w' := by
  obtain ⟨i0, hi, hz0, hz1, hz2⟩ := info_parts info_u8
  have hsz : (⟨s.toArray⟩ : ByteArray).size = s.length := rfl
  have HSZ := Lib.hid hsz
  have hbl : (Lib.byteCells l).length = l.length := Lib.byteCells_length l
  have HBL := Lib.hid hbl
  clear hsz hbl
  go_enter Try.func48, Try.ntmps48
  go_wp2_with (go_at_call 72; refine (copyCheck_any B b (Lib.byteCells l) _ h).mono ?_)
  rintro e w1 ⟨rfl, h1, hb1, hk1⟩
  obtain ⟨hB, v, hbk, hown, hne⟩ := h1
  have c0 : w1.cell? ⟨b, 0, none⟩ = some (.pointer (some ⟨b, 0, none⟩)) := by rw [Lib.cell_of_heap hbk]; rfl
  have c1 : w1.cell? ⟨b, 1, none⟩ = some v := by rw [Lib.cell_of_heap hbk]; rfl
  go_wp2_with (at_builtin; refine Lib.wpList_append_own_stringF _ rfl _ _ 86 9 rfl B 5 i0 Try.underlying86 Try.underlying9 hi hz0 hz1 hz2 _ _ _ rfl hown ⟨s.toArray⟩ rfl ?c3 ?c4 ?c5 ?_)
  case c3 => rw [HSZ.out, HBL.out]; unfold maxLen; omega
  case c4 => rw [HSZ.out, HBL.out]; omega
  case c5 => have := hb1.size; omega
  intro v' w2 hown' hgrow _
  have hlt : b < w1.heap.size := (Array.getElem?_eq_some_iff.1 hbk).1
  have hb2 : w2.heap[b]? = some (.cells #[.pointer (some ⟨b, 0, none⟩), v] 92 (0, 0)) := by
    rw [hgrow.block b hlt (fun e => hne e.symm)]
    exact hbk
  have d0 : w2.cell? ⟨b, 0, none⟩ = some (.pointer (some ⟨b, 0, none⟩)) := by rw [Lib.cell_of_heap hb2]; rfl
  have d1 : w2.cell? ⟨b, 1, none⟩ = some v := by rw [Lib.cell_of_heap hb2]; rfl
  have f1 : w2.frozen? ⟨b, 1, none⟩ = false := Lib.frozen_of_heap hb2 1
  obtain ⟨ao, n', cap, rfl⟩ : ∃ ao n' cap, v' = .slice ao n' cap := by
    rcases hown'.2 with ⟨hv, _⟩ | ⟨g, cap, cur, fz, hv, _⟩
    · exact ⟨_, _, _, hv⟩
    · exact ⟨_, _, _, hv⟩
  go_wp2
  go_ret2
  refine ⟨rfl, ?_, ?_, (hk1.grown hgrow (Lib.ownsRowF_kind hown)).setCell ⟨b, 1, none⟩ rfl _⟩
  · have := Lib.BuilderAtF.put (T := 92) (e := 5) hB hb2 (bs' := Lib.byteCells l ++ Lib.strCells ⟨s.toArray⟩) (by rw [List.length_append, Lib.strCells_length]; exact hown') (by decide)
    rw [strCells_bytes] at this
    refine .inr ?_
    rw [show Lib.byteCells (l ++ s) = Lib.byteCells l ++ Lib.byteCells s by simp [Lib.byteCells]]
    exact this
  · exact (hb1.grown hgrow (by have := hb1.size; omega) (fun k hk => (hown.lt k hk).1)).setCell (p := ⟨b, 1, none⟩) hB _

theorem string_any (B b : Nat) (l : List UInt8) (w : World) (h : Is B b l w) (hBw : B ≤ w.heap.size) :
    Calls Try.prog 50 #[.pointer (some ⟨b, 0, none⟩)] w fun e w' => e = .returned (.string ⟨l.toArray⟩) ∧ Is B b l w' ∧ Below B w w' ∧ Rest b w w' :=
  (Try.Builder_String_any_k B b l w h hBw).mono fun e w' ⟨h1, h2, h3, h4⟩ => ⟨h1, h2, h3, h4⟩
end Sb
end Go.Proofs.Yteckjhhbljoklaa

namespace Go.Proofs.Yteckjhhbljoklaa
open Go.RowKit
set_option linter.unusedSimpArgs false
set_option linter.unusedVariables false

/-- a frame's answer as Go hands it back -/
abbrev frameV (r : (UInt8 × List UInt8) × Nat × Nat) : Value := .tuple #[.agg #[.int .u8 (r.1.1.toNat : Int), .string (Cd.bs r.1.2)], .int .i64 r.2.1, .int .i64 r.2.2]

set_option maxRecDepth 100000 in
set_option maxHeartbeats 1000000 in
theorem frameTaker_any (l : List UInt8) (w : World) (hs : l.length ≤ 140737488351232) :
    Calls Try.prog 66 #[.string (Cd.bs l)] w fun e w' => e = .returned (frameV (Fr.take l)) ∧ Below w.heap.size w w' := by
  by_cases h5 : l.length < 5
  · rw [Fr.take_few h5]
    go_enter Try.func66, Try.ntmps66
    go_wp2_with fail
    exact bodyPost_ret (v := frameV ((0, []), 0, 2)) (by simp [results, Try.results66, go_sem]) rfl ⟨rfl, by repeat (first | exact Below.refl _ _ | (refine Below.setCell ?_ ?_ _) | (refine Below.alloc ?_ ?_ _) | exact Nat.le_refl _ | (focus (simp; done)))⟩
  · have h5' : 5 ≤ l.length := by omega
    have hg : l.getD 4 0 = (Cd.bs l)[4]'(by show 4 < l.length; omega) := by rw [List.getD_eq_getElem?_getD, List.getElem?_eq_getElem (by omega)]; rfl
    obtain ⟨c, hc⟩ : ∃ c, c = l.getD 4 0 := ⟨_, rfl⟩
    have hidx : ((Cd.bs l)[4]'(by show 4 < l.length; omega)) = c := by rw [hc, hg]
    by_cases h0 : c.toNat = 0
    · have hb : ((c.toNat : Int) == 0) = true := by simp [h0]
      rw [Fr.take_zero h5' (by rw [← hc]; exact h0)]
      clear hg hc
      go_enter Try.func66, Try.ntmps66
      go_wp2_with fail
      exact bodyPost_ret (v := frameV ((0, []), 0, 3)) (by simp [results, Try.results66, go_sem]) rfl ⟨rfl, by repeat (first | exact Below.refl _ _ | (refine Below.setCell ?_ ?_ _) | (refine Below.alloc ?_ ?_ _) | exact Nat.le_refl _ | (focus (simp; done)))⟩
    · have hb : ((c.toNat : Int) == 0) = false := by simp; omega
      obtain ⟨t, n, e, ht⟩ : ∃ t n e, Cd.takeT (l.drop 5) 262144 = (t, n, e) := ⟨_, _, _, rfl⟩
      obtain ⟨q1, q2, q3⟩ := Fr.takeT_len (l.drop 5) 262144
      rw [ht] at q1 q2 q3
      simp only [List.length_drop] at q1 q2 q3
      have hex : ((Cd.bs l).extract 5 l.length).data.toList = l.drop 5 := by
        rw [Lib.extract_data]; exact List.take_of_length_le (by simp)
      have hT : ∀ W, Calls Try.prog 59 #[.string ((Cd.bs l).extract 5 l.length), .int .i64 262144] W fun e' w' => e' = .returned (.tuple #[.string (Cd.bs t), .int .i64 n, .int .i64 e]) ∧ Below W.heap.size W w' := fun W => by
        have := takeTr_any ((Cd.bs l).extract 5 l.length) 262144 W (by rw [Lib.size_eq, hex, List.length_drop]; omega) (by omega) (by omega)
        rw [hex, ht] at this
        exact this
      have HT := Lib.hid hT
      clear hT hex
      by_cases he : e = 0
      · subst he
        have hS : ∀ W, Calls Try.prog 54 #[.string ((Cd.bs l).extract 4 (5 + n))] W fun e' w' => e' = .returned (.int .u32 (Fr.sum ((l.drop 4).take (n + 1)))) ∧ W = w' := fun W => by
          have hx : ((Cd.bs l).extract 4 (5 + n)).data.toList = (l.drop 4).take (n + 1) := by rw [Lib.extract_data]; congr 1; omega
          have := sumr_any ((Cd.bs l).extract 4 (5 + n)) W (by rw [Lib.size_eq, hx, List.length_take]; unfold maxLen; omega)
          rwa [hx] at this
        have HS := Lib.hid hS
        have HL := Lib.hid (fun W => littler_any (Fr.sum ((l.drop 4).take (n + 1)) : Int) (Fr.sum ((l.drop 4).take (n + 1))) W rfl (Fr.sum_lt _))
        clear hS
        have h4 : ((Cd.bs l).extract 0 4).toList = l.take 4 := by rw [Lib.extract_toList]; rfl
        have HQ2 := Lib.hid q2
        clear q2 q3
        have hn5 : 5 + n ≤ l.length := by omega
        generalize hsm : Fr.lit (Fr.sum ((l.drop 4).take (n + 1))) = m at *
        have HSM := Lib.hid hsm
        clear hsm
        have HTT := Lib.hid ht
        have HC := Lib.hid hc
        have HG := Lib.hid hg
        clear ht hc hg
        obtain ⟨sm, hsm2⟩ : ∃ sm, sm = Fr.sum ((l.drop 4).take (n + 1)) := ⟨_, rfl⟩
        rw [← hsm2] at HS HL HSM
        have HSM2 := Lib.hid hsm2
        clear hsm2
        have hml : (Cd.bs m).toList = m := by rw [ByteArray.toList_mk]
        by_cases hm : m = l.take 4
        · have hmb : (m == l.take 4) = true := by simp [hm]
          rw [Fr.take_ok h5' (by rw [← HC.out]; exact h0) HTT.out (by rw [← HSM2.out, HSM.out]; exact hm), ← HC.out]
          clear hm
          go_enter Try.func66, Try.ntmps66
          go_wp2_with (go_at_call 59; refine (HT.out _).mono ?_; rintro e w1 ⟨rfl, hb1⟩; obtain ⟨hkc, hkf⟩ := bcell hb1; have hz : w.heap.size < w1.heap.size := (by have := hb1.size; simp at this; omega))
          go_cut [35] (fun r wx => r = .bool false ∧ Below w1.heap.size w1 wx)
          case first =>
            have hw : IntKind.i64.wrap (5 + (n : Int)) = 5 + n := by rw [IntKind.wrap_i64]; omega
            have hw0 : (0 : Int) ≤ 5 + (n : Int) ∧ (4 : Int) ≤ 5 + (n : Int) ∧ 5 + (n : Int) ≤ (l.length : Int) := by omega
            have hw1 : (5 + (n : Int)).toNat = 5 + n := by omega
            go_region_with (first
              | (go_at_call 54; refine (HS.out _).mono ?_; rintro e w' ⟨rfl, rfl⟩)
              | (go_at_call 53; refine (HL.out _).mono ?_; rintro e w3 ⟨rfl, hb3⟩))
            all_goals clear hw hw0 hw1
            all_goals (try go_wp2_with fail)
            all_goals go_meet
            all_goals refine ⟨rfl, ?_⟩
            all_goals repeat (first | exact Below.refl _ _ | (refine Below.trans ?_ (hb3.mono ?_)) | apply Below.drew | exact Nat.le_refl _ | omega | (focus (simp; done)))
          case rest =>
            obtain ⟨rfl, hbc⟩ := hcut
            obtain ⟨hkc2, hkf2⟩ := bcell hbc
            have hz2 : w.heap.size < wc.heap.size := Nat.lt_of_lt_of_le hz hbc.size
            go_wp2_with fail
            exact bodyPost_ret (v := frameV ((c, t), 5 + n, 0)) (by simp [results, Try.results66, go_sem, hkc, hkc2, hz, hz2]) rfl ⟨rfl, by repeat (first | exact Below.refl _ _ | (refine Below.trans ?_ (hbc.mono ?_)) | (refine Below.trans ?_ (hb1.mono ?_)) | apply Below.drew | (refine Below.setCell ?_ ?_ _) | (refine Below.alloc ?_ ?_ _) | exact Nat.le_refl _ | omega | (focus (simp; done)) | (focus (simp; omega)))⟩
        · have hmb : (m == l.take 4) = false := by simpa using hm
          rw [Fr.take_bad h5' (by rw [← HC.out]; exact h0) HTT.out (by rw [← HSM2.out, HSM.out]; exact hm)]
          clear hm
          go_enter Try.func66, Try.ntmps66
          go_wp2_with (go_at_call 59; refine (HT.out _).mono ?_; rintro e w1 ⟨rfl, hb1⟩; obtain ⟨hkc, hkf⟩ := bcell hb1; have hz : w.heap.size < w1.heap.size := (by have := hb1.size; simp at this; omega))
          go_cut [35] (fun r wx => r = .bool true ∧ Below w1.heap.size w1 wx)
          case first =>
            have hw : IntKind.i64.wrap (5 + (n : Int)) = 5 + n := by rw [IntKind.wrap_i64]; omega
            have hw0 : (0 : Int) ≤ 5 + (n : Int) ∧ (4 : Int) ≤ 5 + (n : Int) ∧ 5 + (n : Int) ≤ (l.length : Int) := by omega
            have hw1 : (5 + (n : Int)).toNat = 5 + n := by omega
            go_region_with (first
              | (go_at_call 54; refine (HS.out _).mono ?_; rintro e w' ⟨rfl, rfl⟩)
              | (go_at_call 53; refine (HL.out _).mono ?_; rintro e w3 ⟨rfl, hb3⟩))
            all_goals clear hw hw0 hw1
            all_goals (try go_wp2_with fail)
            all_goals go_meet
            all_goals refine ⟨rfl, ?_⟩
            all_goals repeat (first | exact Below.refl _ _ | (refine Below.trans ?_ (hb3.mono ?_)) | apply Below.drew | exact Nat.le_refl _ | omega | (focus (simp; done)))
          case rest =>
            obtain ⟨rfl, hbc⟩ := hcut
            obtain ⟨hkc2, hkf2⟩ := bcell hbc
            have hz2 : w.heap.size < wc.heap.size := Nat.lt_of_lt_of_le hz hbc.size
            go_wp2_with fail
            exact bodyPost_ret (v := frameV ((0, []), 0, 3)) (by simp [results, Try.results66, go_sem, hkc, hkc2, hz, hz2]) rfl ⟨rfl, by repeat (first | exact Below.refl _ _ | (refine Below.trans ?_ (hbc.mono ?_)) | (refine Below.trans ?_ (hb1.mono ?_)) | apply Below.drew | (refine Below.setCell ?_ ?_ _) | (refine Below.alloc ?_ ?_ _) | exact Nat.le_refl _ | omega | (focus (simp; done)) | (focus (simp; omega)))⟩
      · rw [Fr.take_err h5' (by rw [← hc]; exact h0) ht he]
        have hbe : (((e : Nat) : Int) == 0) = false := by simp; omega
        clear hg hc ht q2
        go_enter Try.func66, Try.ntmps66
        go_wp2_with (go_at_call 59; refine (HT.out _).mono ?_; rintro e w1 ⟨rfl, hb1⟩; obtain ⟨hkc, hkf⟩ := bcell hb1; have hz : w.heap.size < w1.heap.size := (by have := hb1.size; simp at this; omega))
        exact bodyPost_ret (v := frameV ((0, []), 0, e)) (by simp [results, Try.results66, go_sem, hkc, hz]) rfl ⟨rfl, by repeat (first | exact Below.refl _ _ | (refine Below.trans ?_ (hb1.mono ?_)) | (refine Below.trans ?_ (hb3.mono ?_)) | apply Below.drew | (refine Below.setCell ?_ ?_ _) | (refine Below.alloc ?_ ?_ _) | exact Nat.le_refl _ | omega | (focus (simp; done)) | (focus (simp; omega)))⟩
end Go.Proofs.Yteckjhhbljoklaa

namespace Go.Proofs.Yteckjhhbljoklaa
open Go.RowKit
set_option linter.unusedSimpArgs false
set_option linter.unusedVariables false

theorem info_At : (Try.prog.info? 81).map (fun i => (i.zero, i.size, i.bytes)) = some (some (.agg #[.int .i64 0, .int .u8 0, .string ⟨#[]⟩]), 3, 32) := by kernel_rfl

/-- frames with their places, as cells -/
def atCells (out : List (Nat × (UInt8 × List UInt8))) : List Value := (out.map fun x => [Value.int .i64 x.1, .int .u8 x.2.1.toNat, .string (Cd.bs x.2.2)]).flatten
theorem atCells_snoc (out : List (Nat × (UInt8 × List UInt8))) (x : Nat × (UInt8 × List UInt8)) : atCells (out ++ [x]) = atCells out ++ [.int .i64 x.1, .int .u8 x.2.1.toNat, .string (Cd.bs x.2.2)] := by simp [atCells]
theorem cell_three_new (w : World) (a b c : Value) (t : TypeId) : ∀ j u, [a, b, c][j]? = some u → (w.alloc (.cells #[a, b, c] t)).cell? ((⟨w.heap.size, 0, none⟩ : Addr).add j) = some u := by
  intro j u hj
  match j, hj with
  | 0, hj => simp at hj; subst hj; simp [Addr.add]
  | 1, hj => simp at hj; subst hj; simp [Addr.add]
  | 2, hj => simp at hj; subst hj; simp [Addr.add]
  | (j + 3), hj => simp at hj

/-- what is owned stays owned behind whatever keeps the blocks that there are -/
theorem own_below {W w : World} {base : Nat} {e : TypeId} {size : Nat} {v : Value} {n : Nat} {xs : List Value} (h : W.ownsRow base e size v n xs) (hb : Below W.heap.size W w) : w.ownsRow base e size v n xs := by
  refine ⟨h.1, ?_⟩
  rcases h.2 with h | ⟨g, cap, cur, h1, h2, h3, h4⟩
  · exact .inl h
  · exact .inr ⟨g, cap, cur, h1, h2, (hb.block g (Array.getElem?_eq_some_iff.1 h3).1).trans h3, h4⟩

set_option maxRecDepth 100000 in
set_option maxHeartbeats 2000000 in
theorem frameAllr_any (l : List UInt8) (w : World) (hs : l.length ≤ 1048576) :
    Calls Try.prog 40 #[.string (Cd.bs l)] w fun e w' => ∃ v, e = .returned (.tuple #[v, .int .i64 (Fr.all l).2]) ∧ w'.ownsRow w.heap.size 81 3 v (Fr.all l).1.length (atCells (Fr.all l).1) ∧ Below w.heap.size w w' := by
  obtain ⟨i0, hi, hz0, hz1, hz2⟩ := info_parts info_At
  go_enter Try.func40, Try.ntmps40
  go_wp2_with fail
  go_loopw [4, 5] (fun v i wr => ∃ (p : Nat) (out : List (Nat × (UInt8 × List UInt8))), p ≤ l.length ∧ i = .int .i64 p ∧ out.length ≤ p ∧ wr.ownsRow w.heap.size 81 3 v out.length (atCells out) ∧ Below w.heap.size w wr ∧ Fr.all l = (out ++ (Fr.allGo l p).1, (Fr.allGo l p).2)) (fun _ i _ => l.length - (intOf i).toNat)
  case atStart => exact ⟨0, [], Nat.zero_le _, rfl, Nat.zero_le _, World.ownsRow_nil _ _ _ _, Below.refl _ _, rfl⟩
  case round =>
    obtain ⟨p, out, hp, rfl, hol, hown, hb, hgo⟩ := hrel
    have HG := Lib.hid hgo
    clear hgo
    have hbs := hb.size
    by_cases hlt : p < l.length
    · obtain ⟨f, n, e, ht⟩ : ∃ f n e, Fr.take (l.drop p) = (f, n, e) := ⟨_, _, _, rfl⟩
      obtain ⟨q1, q2, q3⟩ := Fr.take_len (l.drop p)
      rw [ht] at q1 q2 q3
      simp only [List.length_drop] at q1 q2 q3
      have hT : ∀ W, Calls Try.prog 66 #[.string ((Cd.bs l).extract p l.length)] W fun e' w' => e' = .returned (frameV (f, n, e)) ∧ Below W.heap.size W w' := fun W => by
        have hx : (Cd.bs l).extract p l.length = Cd.bs (l.drop p) := by rw [ByteArray.extract_mk, List.take_of_length_le (by simp)]
        rw [hx]
        have := frameTaker_any (l.drop p) W (by rw [List.length_drop]; omega)
        rwa [ht] at this
      have HT := Lib.hid hT
      have HTT := Lib.hid ht
      clear hT ht
      by_cases he : e = 0
      · subst he
        have h5 := q2 rfl
        clear q2 q3
        go_wp2_with (first
          | (go_at_call 66; refine (HT.out _).mono ?_; rintro e w1 ⟨rfl, hb1⟩; have hown1 := own_below hown hb1; have hb1' := hb.trans (hb1.mono hbs); have hs1 := hb1'.size)
          | (at_builtin; refine wpList_append_own _ rfl _ _ 77 rfl w.heap.size 81 i0 (.agg #[.int .i64 0, .int .u8 0, .string ⟨#[]⟩]) 3 32 Try.underlying77 hi hz0 hz1 hz2 rfl (by decide) _ _ _ rfl ((hown1.alloc _).alloc _) ⟨w1.heap.size + 1, 0, none⟩ 1 1 [_, _, _] rfl rfl (by simpa using cell_three_new (w1.alloc (.cells #[.int .u8 f.1.toNat, .string (Cd.bs f.2)] 55)) _ _ _ _) (by simp [Value.oneCell']) (by unfold maxLen; omega) (by omega) (by simp; omega) ?_; intro v' w2 hown2 hgrow _; have hb2 := ((hb1'.alloc hs1 _).alloc (by simp; omega) _).grown hgrow (by simp; omega) (fun j hj => (hown1.lt j hj).1); clear hgrow))
        go_roundw
        case rel => exact ⟨p + n, out ++ [(p, f)], by omega, by go_num, by simp; omega, by rw [atCells_snoc, List.length_append, List.length_singleton]; exact hown2, hb2, by
          rw [HG.out, Fr.allGo_more (l := l) (p := p) (by rw [HTT.out]; exact ⟨hlt, rfl, by show 0 < n; omega⟩), HTT.out]; simp⟩
        case measure => simp [intOf]; omega
      · have hbe : (((e : Nat) : Int) == 0) = false := by simp; omega
        clear q2 q3
        go_wp2_with (first
          | (go_at_call 66; refine (HT.out _).mono ?_; rintro e w1 ⟨rfl, hb1⟩; have hown1 := own_below hown hb1; have hb1' := hb.trans (hb1.mono hbs); have hs1 := hb1'.size))
        have hst := Fr.allGo_stop (l := l) (p := p) (by rw [HTT.out]; rintro ⟨_, h, _⟩; exact he h)
        have hg := HG.out
        rw [hst, List.append_nil] at hg
        go_ret2
        exact ⟨_, by rw [hg]; rfl, by rw [hg]; exact hown1.alloc _, hb1'.alloc hs1 _⟩
    · obtain rfl : p = l.length := by omega
      have hst := Fr.allGo_stop (l := l) (p := l.length) (by rintro ⟨h, _⟩; omega)
      have hg := HG.out
      rw [hst, List.append_nil] at hg
      have HGG := Lib.hid hg
      clear hst hg
      go_wp2_with fail
      go_ret2
      exact ⟨_, by rw [HGG.out]; rfl, by rw [HGG.out]; exact hown, hb⟩
end Go.Proofs.Yteckjhhbljoklaa
