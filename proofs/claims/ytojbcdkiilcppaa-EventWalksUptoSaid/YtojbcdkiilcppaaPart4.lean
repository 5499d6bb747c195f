import Derived.Deep.RegionHeld3
import Derived.Deep.DeepCutAuto
import Derived.Deep.Cut
import Derived.Deep.CutRange
import Derived.Deep.CutBlock
import Derived.RangeFuncBox
import Derived.RangeFuncLeaves
import Derived.RangeFuncNested
import Derived.Shelf.Abstract
import Derived.WalkKit
import Derived.OwnWalkIn
import Derived.TacticsInMore
import Derived.LoopNIn
import Derived.LoopIn
import Derived.Lib.AppendStr
import Derived.Lib.BufStepsIn
import Derived.Deep.RegionWith
import Derived.Deep.AppendLies
import Derived.Below
import Derived.Deep.LoopGhost
import Derived.LoopTactic
import Derived.Test.YtojbcdkiilcppaaPart3
/-
  The document's answer of P14.3 (tapestryref14.Encode).
-/
namespace Go.Proofs.Ytojbcdkiilcppaa
open Go.RowKit
set_option linter.unusedSimpArgs false
set_option linter.unusedVariables false
namespace Ev
theorem putV_len {d : Int} (h : 0 ≤ d ∧ d ≤ 1099511627776) : (putV d).length ≤ 10 := Cd.putU_len10 _ (by omega)
theorem putI_len {a : Int} (h : W64 a) : (putI a).length ≤ 10 := Cd.putU_len10 _ (Cd.zig_lt a h.1 h.2)
theorem flat_snoc {α : Type} (f : α → Dat) {L : List α} {q : Nat} (h : q < L.length) : (L.take (q + 1)).flatMap f = (L.take q).flatMap f ++ f L[q] := by
  rw [List.take_add_one, List.flatMap_append, List.getElem?_eq_getElem h]; simp
theorem wrap_at {d : Int} (h : 0 ≤ d ∧ d ≤ 1099511627776) : IntKind.u64.wrap d = d := by rw [show IntKind.u64.wrap d = d % 18446744073709551616 from rfl]; omega
theorem load_cut (x : Evt) : load x = ((putV x.id ++ putV x.time) ++ putV x.kind) ++ ((nums x).take (many x)).flatMap putI := rfl

theorem add_at (a b c : Dat) (h : c = a ++ b) (hl : c.length ≤ 140737488355328) : ∀ W : World, (Op.stringOp .add (Cd.bs a) (Cd.bs b)).run Try.prog W = .ok (.string (Cd.bs c)) W := fun W => by
  subst h
  rw [List.length_append] at hl
  rw [run_string_add_sum W _ _ (by show a.length + b.length ≤ _; omega), ByteArray.mk_append_mk]

theorem putV_at (d : Int) (W : World) (h : 0 ≤ d ∧ d ≤ 1099511627776) : Calls Try.prog 34 #[.int .u64 d] W fun e w' => e = .returned (.string (Cd.bs (putV d))) ∧ Below W.heap.size W w' := putUr_at d d.toNat W (by omega) (by omega)

theorem putIV_at (a : Int) (W : World) (h : W64 a) : Calls Try.prog 35 #[.int .i64 a] W fun e w' => e = .returned (.string (Cd.bs (putI a))) ∧ Below W.heap.size W w' := putIr_any a W h.1 h.2

/-- amid the head of an event -/
def HdE (w1 : World) (o : Nat) (v0 v1 v2 : Value) (W : World) : Prop :=
  Below w1.heap.size w1 W ∧ W.cell? ⟨o, 0, none⟩ = some v0 ∧ W.cell? ⟨o, 1, none⟩ = some v1 ∧ W.cell? ⟨o, 2, none⟩ = some v2
theorem HdE.next {w1 W W' : World} {o : Nat} {v0 v1 v2 : Value} (ho : o < w1.heap.size) (h : HdE w1 o v0 v1 v2 W) (hb : Below W.heap.size W W') : Below w1.heap.size w1 W' ∧ W'.cell? ⟨o, 0, none⟩ = some v0 ∧ W'.cell? ⟨o, 1, none⟩ = some v1 ∧ W'.cell? ⟨o, 2, none⟩ = some v2 :=
  have hl : o < W.heap.size := Nat.lt_of_lt_of_le ho h.1.size
  ⟨h.1.trans (hb.mono h.1.size), (hb.cell (p := ⟨o, 0, none⟩) hl).trans h.2.1, (hb.cell (p := ⟨o, 1, none⟩) hl).trans h.2.2.1, (hb.cell (p := ⟨o, 2, none⟩) hl).trans h.2.2.2⟩

set_option maxRecDepth 100000 in
set_option maxHeartbeats 16000000 in
theorem encR_any (x : Evt) (hI : EvIn x) (w : World) :
    Calls Try.prog 19 #[evV x] w fun r w' => r = .returned (.tuple #[.string (Cd.bs (enc x).1), .int .i64 ((enc x).2 : Nat)]) ∧ Below w.heap.size w w' := by
  have HV := Lib.hid (fun W => validR_any x W)
  have HN := Lib.hid (fun W => numbersR_any x W)
  have HF := Lib.hid (fun W => fieldsR_any x.kind W)
  have HNC := Lib.hid (fun W b (h : Ob.Obj W b 2 (numV x)) q hq => num_cell h q hq)
  have HIN := Lib.hid (fun (q : Nat) (hq : q < 6) => show W64 ((nums x).getD q 0) from by
    rw [List.getD_eq_getElem?_getD, List.getElem?_eq_getElem (show q < (nums x).length from hq)]
    exact nums_in hI _ (List.getElem_mem _))
  have HLL := load_len hI
  cases hv : validB x with
  | false =>
    have HE := Lib.hid (show enc x = ([], 54) by unfold enc; rw [if_neg (by rw [hv]; decide)])
    rw [hv] at HV
    obtain ⟨i, t, k, a, b, c, d, e, f⟩ := x
    unfold evV at *
    simp only at *
    have oE := Ob.Obj.new w 26 [.int .i64 i, .int .i64 t, .int .i64 k, .int .i64 a, .int .i64 b, .int .i64 c, .int .i64 d, .int .i64 e, .int .i64 f]
    have hA : Below w.heap.size w (w.alloc (.cells #[.int .i64 i, .int .i64 t, .int .i64 k, .int .i64 a, .int .i64 b, .int .i64 c, .int .i64 d, .int .i64 e, .int .i64 f] 26)) := (Below.refl _ _).alloc (Nat.le_refl _) _
    have c0 := oE.cell 0
    have c1 := oE.cell 1
    have c2 := oE.cell 2
    have c3 := oE.cell 3
    have c4 := oE.cell 4
    have c5 := oE.cell 5
    have c6 := oE.cell 6
    have c7 := oE.cell 7
    have c8 := oE.cell 8
    simp at c0 c1 c2 c3 c4 c5 c6 c7 c8
    clear hv
    go_enter Try.func19, Try.ntmps19
    go_wp2_with (go_at_call 17; (with_reducible refine (HV.out _).mono ?_); rintro e w1 ⟨rfl, hb1⟩)
    go_ret2
    exact ⟨by rw [HE.out]; rfl, hA.trans (hb1.mono hA.size)⟩
  | true =>
    have HE := Lib.hid (show enc x = (load x, 0) by unfold enc; rw [if_pos hv])
    rw [hv] at HV
    obtain ⟨hf0, hi1, hi2, ht1, ht2, _⟩ := valid_at hv
    obtain ⟨hk1, hk2⟩ := kind_in hf0
    have hf6 := (fields_in x.kind).2
    obtain ⟨M, hM⟩ : ∃ M : Nat, fields x.kind = (M : Int) := ⟨(fields x.kind).toNat, by omega⟩
    have hmy : many x = M := by unfold many; omega
    have HLC := load_cut x
    rw [hmy] at HLC
    have hM6 : M ≤ 6 := by omega
    rw [hM] at HF
    clear hv hf0 hf6 hM hmy
    have HSN := Lib.hid (fun (q : Nat) (hq : q < 6) => show ((nums x).take (q + 1)).flatMap putI = ((nums x).take q).flatMap putI ++ putI ((nums x).getD q 0) from by
      rw [flat_snoc putI (show q < (nums x).length from hq), List.getD_eq_getElem?_getD, List.getElem?_eq_getElem (show q < (nums x).length from hq)]; rfl)
    obtain ⟨l1, hl1⟩ : ∃ l1, l1 = putV x.id := ⟨_, rfl⟩
    obtain ⟨l2, hl2⟩ : ∃ l2, l2 = l1 ++ putV x.time := ⟨_, rfl⟩
    obtain ⟨l3, hl3⟩ : ∃ l3, l3 = l2 ++ putV x.kind := ⟨_, rfl⟩
    have HLE : load x = l3 ++ ((nums x).take M).flatMap putI := by rw [hl3, hl2, hl1, HLC]
    have y3 : l3.length ≤ 90 := by rw [HLE, List.length_append] at HLL; omega
    have y4 : l2.length ≤ l3.length := by rw [hl3, List.length_append]; omega
    have a1 := add_at l1 (putV x.time) l2 hl2 (by omega)
    have a2 := add_at l2 (putV x.kind) l3 hl3 (by omega)
    have HQ1 := Lib.hid (fun W => putV_at x.id W ⟨by omega, by omega⟩)
    have HQ2 := Lib.hid (fun W => putV_at x.time W ⟨ht1, ht2⟩)
    have HQ3 := Lib.hid (fun W => putV_at x.kind W ⟨by omega, by omega⟩)
    have w1' := wrap_at (d := x.id) ⟨by omega, by omega⟩
    have w2' := wrap_at (d := x.time) ⟨ht1, ht2⟩
    have w3' := wrap_at (d := x.kind) ⟨by omega, by omega⟩
    rw [← hl1] at HQ1
    generalize putV x.time = p2 at *
    generalize putV x.kind = p3 at *
    have HLE2 := Lib.hid HLE
    have HLL2 := Lib.hid HLL
    clear hl1 hl2 hl3 HLC HLE HLL hi1 hi2 ht1 ht2 hk1 hk2 hI
    generalize load x = LO at *
    generalize (nums x) = NU at *
    obtain ⟨i, t, k, a, b, c, d, e, f⟩ := x
    unfold evV at *
    simp only at *
    have oE := Ob.Obj.new w 26 [.int .i64 i, .int .i64 t, .int .i64 k, .int .i64 a, .int .i64 b, .int .i64 c, .int .i64 d, .int .i64 e, .int .i64 f]
    have hA : Below w.heap.size w (w.alloc (.cells #[.int .i64 i, .int .i64 t, .int .i64 k, .int .i64 a, .int .i64 b, .int .i64 c, .int .i64 d, .int .i64 e, .int .i64 f] 26)) := (Below.refl _ _).alloc (Nat.le_refl _) _
    have c0 := oE.cell 0
    have c1 := oE.cell 1
    have c2 := oE.cell 2
    have c3 := oE.cell 3
    have c4 := oE.cell 4
    have c5 := oE.cell 5
    have c6 := oE.cell 6
    have c7 := oE.cell 7
    have c8 := oE.cell 8
    simp at c0 c1 c2 c3 c4 c5 c6 c7 c8
    go_enter Try.func19, Try.ntmps19
    go_upto_region 4 with (go_at_call 17; (with_reducible refine (HV.out _).mono ?_); rintro e wv ⟨rfl, hb2⟩; have hB2 := hA.trans (hb2.mono hA.size); have oE2 := oE.below hb2; have g0 := oE2.cell 0; have g1 := oE2.cell 1; have g2 := oE2.cell 2; have hfz := oE2.lt; simp at g0 g1 g2)
    clear c0 c1 c2 c3 c4 c5 c6 c7 c8 oE hA hb2
    go_cut [5] from 13 to 26 (fun r wx => r = .string (Cd.bs l3) ∧ Below wv.heap.size wv wx)
    case first =>
      have NX := Lib.hid (fun W W' (h : Below wv.heap.size wv W ∧ W.cell? ⟨w.heap.size, 0, none⟩ = some (.int .i64 i) ∧ W.cell? ⟨w.heap.size, 1, none⟩ = some (.int .i64 t) ∧ W.cell? ⟨w.heap.size, 2, none⟩ = some (.int .i64 k)) (hb : Below W.heap.size W W') => HdE.next hfz h hb)
      have HS0 := Lib.hid (show Below wv.heap.size wv wv ∧ wv.cell? ⟨w.heap.size, 0, none⟩ = some (.int .i64 i) ∧ wv.cell? ⟨w.heap.size, 1, none⟩ = some (.int .i64 t) ∧ wv.cell? ⟨w.heap.size, 2, none⟩ = some (.int .i64 k) from ⟨Below.refl _ _, g0, g1, g2⟩)
      have HS1 := Lib.hid (show Below wv.heap.size wv wv.drew ∧ wv.drew.cell? ⟨w.heap.size, 0, none⟩ = some (.int .i64 i) ∧ wv.drew.cell? ⟨w.heap.size, 1, none⟩ = some (.int .i64 t) ∧ wv.drew.cell? ⟨w.heap.size, 2, none⟩ = some (.int .i64 k) from ⟨(Below.refl _ _).drew, g0, g1, g2⟩)
      have tk1 := trivial
      go_region_held3 (fun w' => Below wv.heap.size wv w' ∧ w'.cell? ⟨w.heap.size, 0, none⟩ = some (.int .i64 i) ∧ w'.cell? ⟨w.heap.size, 1, none⟩ = some (.int .i64 t) ∧ w'.cell? ⟨w.heap.size, 2, none⟩ = some (.int .i64 k))
        (first | exact HS0.out | exact HS1.out | exact NX.out _ _ (by assumption) hb2)
        (first
        | (go_at_call 34; (with_reducible refine (HQ1.out _).mono ?_); rintro e w2 ⟨rfl, hb2⟩)
        | (go_at_call 34; (with_reducible refine (HQ2.out _).mono ?_); rintro e w2 ⟨rfl, hb2⟩)
        | (go_at_call 34; (with_reducible refine (HQ3.out _).mono ?_); rintro e w2 ⟨rfl, hb2⟩))
      all_goals (try go_wp2_with fail)
      go_meet
      exact ⟨rfl, (show Below wv.heap.size wv _ ∧ _ from by assumption).1⟩
    case rest =>
    rename_i hcut
    obtain ⟨rfl, hbc⟩ := hcut
    rename_i wc
    have hB4 := hB2.trans (hbc.mono hB2.size)
    have oE4 := oE2.below hbc
    have c0 := oE4.cell 0
    have c1 := oE4.cell 1
    have c2 := oE4.cell 2
    have c3 := oE4.cell 3
    have c4 := oE4.cell 4
    have c5 := oE4.cell 5
    have c6 := oE4.cell 6
    have c7 := oE4.cell 7
    have c8 := oE4.cell 8
    simp at c0 c1 c2 c3 c4 c5 c6 c7 c8
    clear g0 g1 g2 oE2 hB2 hbc HQ1 HQ2 HQ3 a1 a2
    go_wp2_with (first
      | (go_at_call 32; (with_reducible refine (HN.out _).mono ?_); rintro e w3 ⟨g, rfl, oN, hg, hb3⟩; have hB5 := hB4.trans (hb3.mono hB4.size); have oE5 := oE4.below hb3; have g2 := oE5.cell 2; simp at g2)
      | (go_at_call 11; (with_reducible refine (HF.out _).mono ?_); rintro e w6 ⟨rfl, hb6⟩; have hB6 := Lib.hid (hB5.trans (hb6.mono hB5.size)); have oN6 := oN.below hb6))
    clear c0 c1 c2 c3 c4 c5 c6 c7 c8 hB4 oE4 hB5 oE5 g2 hg hb3 hb6 oN
    go_loopw [5, 8] (fun s n wr => ∃ (q : Nat) (l : Dat), q ≤ M ∧ n = .int .i64 (q : Int) ∧ s = .string (Cd.bs l) ∧ Hid (l = l3 ++ (NU.take q).flatMap putI) ∧ l.length ≤ 90 + 10 * q ∧ Below w.heap.size w wr ∧ Ob.Obj wr g 2 (numV ⟨i, t, k, a, b, c, d, e, f⟩)) (fun _ n _ => M - (intOf n).toNat)
    case atStart => exact ⟨0, l3, Nat.zero_le _, rfl, rfl, by show l3 = l3 ++ _; simp, by omega, hB6.out, oN6⟩
    case round =>
      clear hB6 oN6
      obtain ⟨q, l, hq, rfl, rfl, hl, hll, hB, oN⟩ := hrel
      obtain ⟨wo, rfl⟩ : ∃ wo : World, wo = wr := ⟨_, rfl⟩
      by_cases hlt : q < M
      · have hi1 : (0 : Int) ≤ (q : Int) ∧ (q : Int) < 6 := by omega
        have hi2 : (q : Int) < (M : Int) := by omega
        have e0 := HNC.out _ _ oN q (by omega)
        have hgl := oN.lt
        have hvin := HIN.out q (by omega)
        have hsn := HSN.out q (by omega)
        have HL2 := Lib.hid (show l ++ putI (NU.getD q 0) = l3 ++ (NU.take (q + 1)).flatMap putI by rw [hsn, hl.out, List.append_assoc])
        clear hsn hl
        generalize NU.getD q 0 = v at *
        obtain ⟨l4, hl4⟩ : ∃ l4, l4 = l ++ putI v := ⟨_, rfl⟩
        rw [← hl4] at HL2
        have hpl := putI_len hvin
        have hl4n : l4.length ≤ 90 + 10 * (q + 1) := by rw [hl4, List.length_append]; omega
        have hadd := add_at l (putI v) l4 hl4 (by omega)
        have HQ := Lib.hid (fun W => putIV_at v W hvin)
        generalize putI v = pv at *
        clear hl4
        go_wp2_with (go_at_call 35; (with_reducible refine (HQ.out _).mono ?_); rintro e w7 ⟨rfl, hb7⟩; have hB7 := hB.trans (hb7.mono hB.size); have oN7 := oN.below hb7)
        go_roundw
        case rel => exact ⟨q + 1, l4, by omega, by go_num, rfl, HL2.out, hl4n, hB7, oN7⟩
        case measure => simp [intOf]; omega
      · obtain rfl : q = M := by omega
        have HFIN := Lib.hid (show LO = l by rw [HLE2.out, hl.out])
        clear hl
        go_wp2_with fail
        go_ret2
        exact ⟨by rw [HE.out, HFIN.out]; rfl, hB⟩
end Ev
end Go.Proofs.Ytojbcdkiilcppaa

/-
  Chapter 13, plain: programs, which may be (P13.1 to P13.3); programs in memory.
-/
namespace Go.Proofs.Ytojbcdkiilcppaa
open Go.RowKit
set_option linter.unusedVariables false
namespace Co
structure Op2 where
  code : Int
  a : Int
structure Fn where
  kind : Int
  name : Int
  ops : List Op2
structure Opt where
  queue : Int
  start : Int
  close : Int
  total : Int
  beat : Int
  first : Int
  num : Int
  den : Int
  most : Int
  tries : Int
  never : Int
structure Prog where
  funcs : List Fn
  opts : List Opt
instance : Inhabited Op2 := ⟨⟨0, 0⟩⟩
instance : Inhabited Fn := ⟨⟨0, 0, []⟩⟩
/-- P13.1 -/
def operandB (op : Int) : Bool := op == 0 || op == 13 || op == 14 || op == 15 || op == 16 || op == 20 || op == 22 || op == 25 || op == 26 || op == 27 || op == 33 || op == 34
def pureB (op : Int) : Bool := (decide (0 ≤ op) && decide (op ≤ 15)) || op == 17 || op == 18 || op == 26 || op == 36 || op == 37
/-- an operand is 0 to below this; 0: it is none; -1: any number -/
def mostOf (nf no : Nat) (nops : Nat) (op : Int) : Int :=
  if op = 0 then -1 else if op = 13 ∨ op = 14 then nops else if op = 15 ∨ op = 16 then 16 else if op = 20 then no
  else if op = 22 ∨ op = 25 ∨ op = 26 ∨ op = 34 then 8 else if op = 27 then nf else if op = 33 then 4 else 0
/-- may a number be that of the operand? -/
def argB (n : Int) (has : Bool) (a : Int) : Bool := if has = true then (if 0 ≤ n then decide (0 ≤ a) && decide (a < n) else true) else a == 0
def lastB (c : Int) : Bool := c == 13 || c == 35 || c == 36 || c == 37
/-- P13.2: may an instruction stand at a place of a function? -/
def rightB (p : Prog) (i k : Nat) : Bool :=
  let f := p.funcs[i]!
  let o := f.ops[k]!
  decide (0 ≤ o.code) && decide (o.code ≤ 37) && argB (mostOf p.funcs.length p.opts.length f.ops.length o.code) (operandB o.code) o.a
    && (!(o.code == 27) || p.funcs[o.a.toNat]!.kind == 1)
    && (!(f.kind == 2 || f.kind == 4) || pureB o.code) && (!(o.code == 35) || i == 0) && (decide (k + 1 < f.ops.length) || lastB o.code)
def waitB (x : Int) : Bool := decide (0 ≤ x) && decide (x ≤ 1048576)
def optB (o : Opt) : Bool :=
  (waitB o.start && waitB o.close && waitB o.total && waitB o.beat && waitB o.first && waitB o.most) &&
  (decide (0 ≤ o.queue) && decide (o.queue < 8) && decide (1 ≤ o.den) && decide (o.den ≤ 1000) && decide (o.den ≤ o.num) && decide (o.num ≤ 1000) && decide (0 ≤ o.tries) && decide (o.tries ≤ 1000))
/-- P13.3 -/
def isB (kind name : Int) (f : Fn) : Bool := f.kind == kind && f.name == name
def find (L : List Fn) (kind name : Int) : Int := match L.findIdx? (isB kind name) with | some i => (i : Int) | none => -1
def namedB (p : Prog) (i : Nat) : Bool :=
  let f := p.funcs[i]!
  decide (0 ≤ f.kind) && decide (f.kind ≤ 4) && (f.kind == 0) == (i == 0) && (!decide (f.kind < 2) || f.name == 0) && decide (0 ≤ f.name) && decide (f.name ≤ 7)
    && !(decide (2 ≤ f.kind) && (p.funcs.take i).any (isB f.kind f.name)) && (!(f.kind == 4) || decide (0 ≤ find p.funcs 3 f.name))
    && decide (1 ≤ f.ops.length) && decide (f.ops.length ≤ 128)
/-- the first place that is not so, of a function's and those behind it -/
def chkGo (p : Prog) : Nat → Nat → Option (Int × Int)
  | _, 0 => none
  | i, n + 1 => if namedB p i = true then (match (List.range p.funcs[i]!.ops.length).find? (fun k => !rightB p i k) with | some k => some ((i : Int), (k : Int)) | none => chkGo p (i + 1) n) else some ((i : Int), -1)
/-- P13.2 -/
def check (p : Prog) : Int × Int × Int :=
  if p.funcs.length = 0 ∨ 16 < p.funcs.length ∨ 8 < p.opts.length then (40, -1, -1)
  else match p.opts.findIdx? (fun o => !optB o) with
    | some k => (40, -1, (k : Int))
    | none => match chkGo p 0 p.funcs.length with
      | some (i, k) => (40, i, k)
      | none => (0, 0, 0)
def I64 (x : Int) : Prop := -9223372036854775808 ≤ x ∧ x ≤ 9223372036854775807
def OptIn (o : Opt) : Prop := I64 o.queue ∧ I64 o.start ∧ I64 o.close ∧ I64 o.total ∧ I64 o.beat ∧ I64 o.first ∧ I64 o.num ∧ I64 o.den ∧ I64 o.most ∧ I64 o.tries ∧ I64 o.never
def FnIn (f : Fn) : Prop := I64 f.kind ∧ I64 f.name ∧ f.ops.length ≤ 1048576 ∧ ∀ o ∈ f.ops, I64 o.code ∧ I64 o.a
def optC (o : Opt) : List Value := [.int .i64 o.queue, .int .i64 o.start, .int .i64 o.close, .int .i64 o.total, .int .i64 o.beat, .int .i64 o.first, .int .i64 o.num, .int .i64 o.den, .int .i64 o.most, .int .i64 o.tries, .int .i64 o.never]
def optV (o : Opt) : Value := .agg #[.int .i64 o.queue, .int .i64 o.start, .int .i64 o.close, .int .i64 o.total, .int .i64 o.beat, .int .i64 o.first, .int .i64 o.num, .int .i64 o.den, .int .i64 o.most, .int .i64 o.tries, .int .i64 o.never]
/-- instructions in a row -/
def Ops (B : Nat) (W : World) (v : Value) (L : List Op2) : Prop :=
  ∃ (a : Option Addr) (cap b off : Nat), v = .slice a L.length cap ∧ (0 < L.length → a = some ⟨b, off, none⟩ ∧ b < B) ∧ ∀ j (h : j < L.length),
    W.cell? ⟨b, off + j * 2, none⟩ = some (.int .i64 L[j].code) ∧ W.cell? ⟨b, off + j * 2 + 1, none⟩ = some (.int .i64 L[j].a)
theorem Ops.below {B : Nat} {W W' : World} {v : Value} {L : List Op2} (h : Ops B W v L) (hb : Below B W W') : Ops B W' v L := by
  obtain ⟨a, cap, b, off, h1, h2, h3⟩ := h
  refine ⟨a, cap, b, off, h1, h2, fun j hj => ?_⟩
  have hl := (h2 (by omega)).2
  obtain ⟨g1, g2⟩ := h3 j hj
  exact ⟨(hb.cell (p := ⟨b, off + j * 2, none⟩) hl).trans g1, (hb.cell (p := ⟨b, off + j * 2 + 1, none⟩) hl).trans g2⟩
theorem Ops.wider {B B' : Nat} {W : World} {v : Value} {L : List Op2} (h : Ops B W v L) (hB : B ≤ B') : Ops B' W v L := by
  obtain ⟨a, cap, b, off, h1, h2, h3⟩ := h
  exact ⟨a, cap, b, off, h1, fun h => ⟨(h2 h).1, Nat.lt_of_lt_of_le (h2 h).2 hB⟩, h3⟩
/-- functions in a row -/
def Fns (B : Nat) (W : World) (v : Value) (L : List Fn) : Prop :=
  ∃ (a : Option Addr) (cap b off : Nat), v = .slice a L.length cap ∧ (0 < L.length → a = some ⟨b, off, none⟩ ∧ b < B) ∧ ∀ j (h : j < L.length),
    W.cell? ⟨b, off + j * 3, none⟩ = some (.int .i64 L[j].kind) ∧ W.cell? ⟨b, off + j * 3 + 1, none⟩ = some (.int .i64 L[j].name) ∧ ∃ u, W.cell? ⟨b, off + j * 3 + 2, none⟩ = some u ∧ Ops B W u L[j].ops
theorem Fns.below {B : Nat} {W W' : World} {v : Value} {L : List Fn} (h : Fns B W v L) (hb : Below B W W') : Fns B W' v L := by
  obtain ⟨a, cap, b, off, h1, h2, h3⟩ := h
  refine ⟨a, cap, b, off, h1, h2, fun j hj => ?_⟩
  have hl := (h2 (by omega)).2
  obtain ⟨g1, g2, u, g3, g4⟩ := h3 j hj
  exact ⟨(hb.cell (p := ⟨b, off + j * 3, none⟩) hl).trans g1, (hb.cell (p := ⟨b, off + j * 3 + 1, none⟩) hl).trans g2, u, (hb.cell (p := ⟨b, off + j * 3 + 2, none⟩) hl).trans g3, g4.below hb⟩
theorem Fns.wider {B B' : Nat} {W : World} {v : Value} {L : List Fn} (h : Fns B W v L) (hB : B ≤ B') : Fns B' W v L := by
  obtain ⟨a, cap, b, off, h1, h2, h3⟩ := h
  exact ⟨a, cap, b, off, h1, fun h => ⟨(h2 h).1, Nat.lt_of_lt_of_le (h2 h).2 hB⟩, fun j hj => by obtain ⟨g1, g2, u, g3, g4⟩ := h3 j hj; exact ⟨g1, g2, u, g3, g4.wider hB⟩⟩
/-- options in a row -/
def Opts (B : Nat) (W : World) (v : Value) (L : List Opt) : Prop :=
  ∃ (a : Option Addr) (cap b off : Nat), v = .slice a L.length cap ∧ (0 < L.length → a = some ⟨b, off, none⟩ ∧ b < B) ∧ ∀ j (h : j < L.length), ∀ m, m < 11 → W.cell? ⟨b, off + j * 11 + m, none⟩ = (optC L[j])[m]?
theorem Opts.below {B : Nat} {W W' : World} {v : Value} {L : List Opt} (h : Opts B W v L) (hb : Below B W W') : Opts B W' v L := by
  obtain ⟨a, cap, b, off, h1, h2, h3⟩ := h
  refine ⟨a, cap, b, off, h1, h2, fun j hj m hm => ?_⟩
  exact (hb.cell (p := ⟨b, off + j * 11 + m, none⟩) (h2 (by omega)).2).trans (h3 j hj m hm)
theorem Opts.wider {B B' : Nat} {W : World} {v : Value} {L : List Opt} (h : Opts B W v L) (hB : B ≤ B') : Opts B' W v L := by
  obtain ⟨a, cap, b, off, h1, h2, h3⟩ := h
  exact ⟨a, cap, b, off, h1, fun h => ⟨(h2 h).1, Nat.lt_of_lt_of_le (h2 h).2 hB⟩, h3⟩
/-- a program in memory -/
structure Pr (B : Nat) (W : World) (fv ov : Value) (p : Prog) : Prop where
  fns : Fns B W fv p.funcs
  opts : Opts B W ov p.opts
theorem Pr.below {B : Nat} {W W' : World} {fv ov : Value} {p : Prog} (h : Pr B W fv ov p) (hb : Below B W W') : Pr B W' fv ov p := ⟨h.fns.below hb, h.opts.below hb⟩
theorem Pr.wider {B B' : Nat} {W : World} {fv ov : Value} {p : Prog} (h : Pr B W fv ov p) (hB : B ≤ B') : Pr B' W fv ov p := ⟨h.fns.wider hB, h.opts.wider hB⟩
/-- what came in as a program -/
structure ProgIn (p : Prog) : Prop where
  fns : ∀ f ∈ p.funcs, FnIn f
  opts : ∀ o ∈ p.opts, OptIn o
  nf : p.funcs.length ≤ 1048576
  no : p.opts.length ≤ 1048576
end Co
end Go.Proofs.Ytojbcdkiilcppaa

/-
  Plain mathematics of P13.4, P13.5: a program's bytes, and what bytes say. No program is named here.
-/
namespace Go.Proofs.Ytojbcdkiilcppaa
set_option linter.unusedVariables false
set_option linter.unusedSimpArgs false
namespace Co
abbrev Dat : Type := List UInt8
def putI (a : Int) : Dat := Cd.putU (Cd.zig a)
def putOp (o : Op2) : Dat := Cd.putU o.code.toNat ++ (if operandB o.code = true then putI o.a else [])
def headF (f : Fn) : Dat := Cd.putU f.kind.toNat ++ Cd.putU f.name.toNat ++ Cd.putU f.ops.length
def putFn (f : Fn) : Dat := headF f ++ f.ops.flatMap putOp
def nums (o : Opt) : List Int := [o.queue, o.start, o.close, o.total, o.beat, o.first, o.num, o.den, o.most, o.tries]
def putN (d : Int) : Dat := Cd.putU d.toNat
def putOpt (o : Opt) : Dat := (nums o).flatMap putN ++ putI o.never
def loadP (p : Prog) : Dat := Cd.putU p.funcs.length ++ p.funcs.flatMap putFn ++ Cd.putU p.opts.length ++ p.opts.flatMap putOpt
/-- what Encode answers -/
def encP (p : Prog) : Dat × Nat := if (check p).1 = 0 then (loadP p, 0) else ([], 40)
theorem check_cases (p : Prog) : (check p).1 = 40 ∨ check p = (0, 0, 0) := by
  unfold check
  split
  · exact .inl rfl
  · split
    · exact .inl rfl
    · split
      · exact .inl rfl
      · exact .inr rfl
/-- an instruction, a function, options, a program whose bytes may be read -/
structure OpOk (o : Op2) : Prop where
  c0 : 0 ≤ o.code
  c1 : o.code ≤ 1099511627776
  no : operandB o.code = false → o.a = 0
  a : I64 o.a
structure FnOk (f : Fn) : Prop where
  k0 : 0 ≤ f.kind
  k1 : f.kind ≤ 1099511627776
  n0 : 0 ≤ f.name
  n1 : f.name ≤ 1099511627776
  l : f.ops.length ≤ 128
  ops : ∀ o ∈ f.ops, OpOk o
structure OptOk (o : Opt) : Prop where
  each : ∀ d ∈ nums o, 0 ≤ d ∧ d ≤ 1099511627776
  never : I64 o.never
structure POk (p : Prog) : Prop where
  nf : p.funcs.length ≤ 16
  no : p.opts.length ≤ 8
  fns : ∀ f ∈ p.funcs, FnOk f
  opts : ∀ o ∈ p.opts, OptOk o
theorem optB_ok {o : Opt} (h : optB o = true) (hn : I64 o.never) : OptOk o := by
  unfold optB waitB at h
  simp only [Bool.and_eq_true, decide_eq_true_eq] at h
  refine ⟨fun d hd => ?_, hn⟩
  unfold nums at hd
  simp only [List.mem_cons, List.not_mem_nil, or_false] at hd
  rcases hd with rfl | rfl | rfl | rfl | rfl | rfl | rfl | rfl | rfl | rfl <;> omega
theorem named_ok {p : Prog} {i : Nat} (hi : i < p.funcs.length) (h : namedB p i = true) : 0 ≤ p.funcs[i].kind ∧ p.funcs[i].kind ≤ 4 ∧ 0 ≤ p.funcs[i].name ∧ p.funcs[i].name ≤ 7 ∧ 1 ≤ p.funcs[i].ops.length ∧ p.funcs[i].ops.length ≤ 128 := by
  unfold namedB at h
  simp only [getElem!_pos p.funcs i hi, Bool.and_eq_true, decide_eq_true_eq] at h
  obtain ⟨⟨⟨⟨⟨⟨⟨⟨⟨h1, h2⟩, h3⟩, h4⟩, h5⟩, h6⟩, h7⟩, h8⟩, h9⟩, h10⟩ := h
  exact ⟨h1, h2, h5, h6, h9, h10⟩
theorem right_ok {p : Prog} {i k : Nat} (hi : i < p.funcs.length) (hk : k < p.funcs[i].ops.length) (h : rightB p i k = true) (ha : I64 p.funcs[i].ops[k].a) : OpOk p.funcs[i].ops[k] := by
  unfold rightB at h
  simp only [getElem!_pos p.funcs i hi, getElem!_pos p.funcs[i].ops k hk, Bool.and_eq_true, decide_eq_true_eq] at h
  obtain ⟨⟨⟨⟨⟨⟨h1, h2⟩, h3⟩, h4⟩, h5⟩, h6⟩, h7⟩ := h
  refine ⟨h1, by omega, fun hn => ?_, ha⟩
  unfold argB at h3
  rw [hn] at h3
  simpa using h3
theorem chkGo_none {p : Prog} : ∀ (n i : Nat), chkGo p i n = none → ∀ j, i ≤ j → j < i + n → namedB p j = true ∧ ∀ k, k < p.funcs[j]!.ops.length → rightB p j k = true
  | 0, i, _, j, h1, h2 => by omega
  | n + 1, i, h, j, h1, h2 => by
    rw [chkGo] at h
    split at h
    · rename_i hn
      split at h
      · cases h
      · rename_i hf
        rw [List.find?_eq_none] at hf
        by_cases hj : j = i
        · subst hj
          refine ⟨hn, fun k hk => ?_⟩
          have := hf k (List.mem_range.2 hk)
          simpa using this
        · exact chkGo_none n (i + 1) h j (by omega) (by omega)
    · cases h
/-- what a program that may be is -/
theorem check_pok {p : Prog} (hI : ProgIn p) (h : (check p).1 = 0) : POk p := by
  unfold check at h
  split at h
  · cases h
  · rename_i h1
    simp only [not_or] at h1
    split at h
    · cases h
    · rename_i h2
      rw [List.findIdx?_eq_none_iff] at h2
      split at h
      · cases h
      · rename_i h3
        have hg := chkGo_none p.funcs.length 0 h3
        refine ⟨by omega, by omega, fun f hf => ?_, fun o ho => optB_ok (by simpa using h2 o ho) (hI.opts o ho).2.2.2.2.2.2.2.2.2.2⟩
        obtain ⟨j, hj, rfl⟩ := List.getElem_of_mem hf
        obtain ⟨g1, g2⟩ := hg j (Nat.zero_le _) (by omega)
        obtain ⟨n1, n2, n3, n4, n5, n6⟩ := named_ok hj g1
        refine ⟨n1, by omega, n3, by omega, n6, fun o ho => ?_⟩
        obtain ⟨k, hk, rfl⟩ := List.getElem_of_mem ho
        exact right_ok hj hk (g2 k (by rw [getElem!_pos p.funcs j hj]; exact hk)) ((hI.fns _ hf).2.2.2 _ ho).2
theorem putI_len {a : Int} (h : I64 a) : (putI a).length ≤ 10 := Cd.putU_len10 _ (Cd.zig_lt a h.1 h.2)
theorem putN_len {d : Int} (h : 0 ≤ d ∧ d ≤ 1099511627776) : (putN d).length ≤ 10 := Cd.putU_len10 _ (by omega)
theorem putOp_len {o : Op2} (h : OpOk o) : (putOp o).length ≤ 20 := by
  have h1 := Cd.putU_len10 o.code.toNat (by have := h.c1; omega)
  have h2 := putI_len h.a
  unfold putOp
  rw [List.length_append]
  split
  · omega
  · simp only [List.length_nil]; omega
theorem flat_len {α : Type} (f : α → Dat) (m : Nat) : ∀ (L : List α), (∀ x ∈ L, (f x).length ≤ m) → (L.flatMap f).length ≤ m * L.length
  | [], _ => by simp
  | x :: r, h => by
    rw [List.flatMap_cons, List.length_append, List.length_cons]
    have h1 := h x (List.mem_cons_self ..)
    have h2 := flat_len f m r (fun q hq => h q (List.mem_cons_of_mem _ hq))
    rw [Nat.mul_add, Nat.mul_one]
    omega
theorem headF_len {f : Fn} (h : FnOk f) : (headF f).length ≤ 30 := by
  have h1 := Cd.putU_len10 f.kind.toNat (by have := h.k1; omega)
  have h2 := Cd.putU_len10 f.name.toNat (by have := h.n1; omega)
  have h3 := Cd.putU_len10 f.ops.length (by have := h.l; omega)
  unfold headF
  simp only [List.length_append]
  omega
theorem ops_len {L : List Op2} (h : ∀ o ∈ L, OpOk o) (hl : L.length ≤ 128) : (L.flatMap putOp).length ≤ 2560 := by
  have := flat_len putOp 20 L (fun x hx => putOp_len (h x hx))
  omega
theorem putFn_len {f : Fn} (h : FnOk f) : (putFn f).length ≤ 2590 := by
  have h1 := headF_len h
  have h2 := ops_len h.ops h.l
  unfold putFn
  rw [List.length_append]
  omega
theorem nums_len {o : Opt} (h : OptOk o) : ((nums o).flatMap putN).length ≤ 100 := by
  have := flat_len putN 10 (nums o) (fun x hx => putN_len (h.each x hx))
  have e : (nums o).length = 10 := rfl
  omega
theorem putOpt_len {o : Opt} (h : OptOk o) : (putOpt o).length ≤ 110 := by
  have h1 := nums_len h
  have h2 := putI_len h.never
  unfold putOpt
  rw [List.length_append]
  omega
theorem fns_len {L : List Fn} (h : ∀ o ∈ L, FnOk o) (hl : L.length ≤ 16) : (L.flatMap putFn).length ≤ 41440 := by
  have := flat_len putFn 2590 L (fun x hx => putFn_len (h x hx))
  omega
theorem opts_len {L : List Opt} (h : ∀ o ∈ L, OptOk o) (hl : L.length ≤ 8) : (L.flatMap putOpt).length ≤ 880 := by
  have := flat_len putOpt 110 L (fun x hx => putOpt_len (h x hx))
  omega
theorem loadP_len {p : Prog} (h : POk p) : (loadP p).length ≤ 42340 := by
  have h1 := fns_len h.fns h.nf
  have h2 := opts_len h.opts h.no
  have h3 := Cd.putU_len10 p.funcs.length (by have := h.nf; omega)
  have h4 := Cd.putU_len10 p.opts.length (by have := h.no; omega)
  unfold loadP
  simp only [List.length_append]
  omega
theorem flat_snoc {α : Type} (f : α → Dat) {L : List α} {q : Nat} (h : q < L.length) : (L.take (q + 1)).flatMap f = (L.take q).flatMap f ++ f L[q] := by
  rw [List.take_succ_eq_append_getElem h, List.flatMap_append]; simp
end Co
end Go.Proofs.Ytojbcdkiilcppaa

/-
  codec.join: a range over a function that collects texts.
-/
namespace Go.Proofs.Ytojbcdkiilcppaa
open Go.RowKit Go.Shelf
set_option linter.unusedSimpArgs false
set_option linter.unusedVariables false

attribute [local go_sem] Oper.semAt_some

theorem wpListIn_append_own_string {F : Fence} {n' : Nat} {P : Program} {ops : Array Oper} {rest : List Oper} {o : Oper} {a : Act} {Q : Exit → Act → World → Prop} (w : World) (hgd : o.guard = none) (sl x : Operand) (t u : TypeId)
    (ho : o.op = .call { callee := .builtin .append, args := #[sl, x], argTypes := #[t, u] })
    (base : Nat) (e : TypeId) (i : TypeInfo) (ht : P.underlying t = some (.slice e)) (hu : P.underlying u = some .string) (hi : P.info? e = some i) (hz : i.zero = some (.int .u8 0))
    (hsize : i.size = 1) (hby : i.bytes = 1)
    (v : Value) (n : Nat) (xs : List Value) (hs : a.eval sl = v) (hown : w.ownsRow base e 1 v n xs) (s : ByteArray) (hx : a.eval x = .string s)
    (h63 : n + s.size ≤ maxLen) (hbytes : n + s.size ≤ 140737488355328) (hbase : base ≤ w.heap.size)
    (h : ∀ v' w', w'.ownsRow base e 1 v' (n + s.size) (xs ++ Lib.strCells s) → w.grownBy w' v.ownBlock → wpListIn F n' P ops Q rest (a.put o.dst v') w') : wpListIn F n' P ops Q (o :: rest) a w := by
  refine wpListIn_plain hgd fun K hK => ?_
  obtain ⟨v', w', hr, h2, h3, h4⟩ := Lib.run_append_own_string (P := P) w base t u o.type e i ht hu hi hz hsize hby v n xs hown s h63 hbytes hbase
  unfold Oper.wpIn
  refine ⟨?_, ?_⟩
  · simp [Oper.about, ho, resolve, Target.leads, Sem.run_pure]
  · rw [Oper.semAt_plain F _ _ (by rw [ho]; intro c hc'; cases hc')]
    simp [execOp, ho, resolve, invoke, builtin, hs, hx, hr, Result.andThen]
    exact hK _ _ (h v' w' h2 h3)

/-- a text that a range hands on: of at most so many bytes -/
abbrev Piece := { x : List UInt8 // x.length ≤ 1048576 }
def flat (pre : List Piece) : List UInt8 := (pre.map (·.1)).flatten
theorem flat_snoc (pre : List Piece) (x : Piece) : flat (pre ++ [x]) = flat pre ++ x.1 := by simp [flat]
theorem flat_len (pre : List Piece) : (flat pre).length ≤ pre.length * 1048576 := by
  induction pre with
  | nil => simp [flat]
  | cons x r ih =>
    have : flat (x :: r) = x.1 ++ flat r := by simp [flat]
    rw [this, List.length_append, List.length_cons]
    have := x.2
    omega
theorem ownsRow_slice {W : World} {base : Nat} {e : TypeId} {size : Nat} {v : Value} {k : Nat} {xs : List Value} (h : W.ownsRow base e size v k xs) : ∃ ao l cap, v = .slice ao l cap := by
  rcases h.2 with ⟨rfl, _⟩ | ⟨g, cap, _, rfl, _⟩
  · exact ⟨_, _, _, rfl⟩
  · exact ⟨_, _, _, rfl⟩
theorem stops_mono {α : Type} {F : Fence} {n : Nat} {P : Program} {g : Nat} {lb : Array Value} {encs : α → Array Value} {Kp : World → World → Prop} {S Sp : List α → Prop} {N : Nat} {w w0 : World}
    (h : SeqStopsK F n P g lb encs Kp S Sp N w) (hb : Below w.heap.size w w0) : SeqStopsK F n P g lb encs Kp S Sp N w0 :=
  fun l J Jx W hW => h l J Jx W (hb.trans (hW.mono hb.size))

/-- 'Boxed.appended' where the append laid no block of its own ahead -/
theorem Boxed_appended' {W w1 : World} {n₀ B : Nat} {t e : TypeId} {size : Nat} {v v' : Value} {k m : Nat} {xs ys : List Value}
    (hv : Boxed W B t v) (hte : t ≠ e) (hrow : W.ownsRow n₀ e size v k xs) (hn₀ : n₀ ≤ W.heap.size) (hB : n₀ ≤ B)
    (hown' : w1.ownsRow n₀ e size v' m ys) (hgrow : W.grownBy w1 v.ownBlock) :
    Boxed w1 B t v ∧ Boxed (w1.setCell ⟨B, 0, none⟩ v') B t v' ∧ (w1.setCell ⟨B, 0, none⟩ v').ownsRow n₀ e size v' m ys ∧ KeepsOthers W (w1.setCell ⟨B, 0, none⟩ v') ∧ Below n₀ W (w1.setCell ⟨B, 0, none⟩ v') := by
  have hv1 : Boxed w1 B t v := hv.kept hgrow (hv.not_row hte hrow)
  refine ⟨hv1, hv1.set v', hown'.kept (grownBy_setCell' w1 B v') (.inr (hv1.not_row hte hown').symm), ?_, ?_⟩
  · refine (KeepsOthers.of_grownBy hgrow fun j o ej hj => ?_).trans (KeepsOthers.setCell _ _ _)
    rcases hrow.2 with ⟨rfl, _⟩ | ⟨g, cap, cur, rfl, _, hgb, _⟩
    · simp [Value.ownBlock] at ej
    · obtain rfl : g = j := by simpa [Value.ownBlock] using ej
      rw [hgb] at hj; cases hj; rfl
  · refine ((Below.refl n₀ W).grown hgrow hn₀ fun j ej => ?_).setCell (p := ⟨B, 0, none⟩) hB v'
    rcases hrow.2 with ⟨rfl, _⟩ | ⟨g, cap, cur, rfl, hb, _, _⟩
    · simp [Value.ownBlock] at ej
    · obtain rfl : g = j := by simpa [Value.ownBlock] using ej
      exact hb

end Go.Proofs.Ytojbcdkiilcppaa
/-
  slices.Values over texts, and PutText, which joins two of them.
-/
namespace Go.Proofs.Ytojbcdkiilcppaa
open Go.RowKit Go.Shelf
set_option linter.unusedSimpArgs false
set_option linter.unusedVariables false

attribute [local go_sem] Oper.semAt_some

/-- what has come when k rounds are over: f 0, .., f (k - 1) -/
def upto {α : Type} (f : Nat → α) (k : Nat) : List α := (List.range k).map f
theorem upto_succ {α : Type} (f : Nat → α) (k : Nat) : upto f (k + 1) = upto f k ++ [f k] := by simp [upto, List.range_succ]
theorem upto_length {α : Type} (f : Nat → α) (k : Nat) : (upto f k).length = k := by simp [upto]

end Go.Proofs.Ytojbcdkiilcppaa
namespace Go.Proofs.Ytojbcdkiilcppaa
open Go.RowKit
set_option linter.unusedSimpArgs false
set_option linter.unusedVariables false

/-- the world of a row of four bytes, written one by one -/
def Row4 (w : World) (g : Nat) (l : List UInt8) : Prop := ∀ j, j < 4 → w.cell? ⟨g, j, none⟩ = some (.int .u8 ((l.getD j 0).toNat : Int)) ∧ w.frozen? ⟨g, j, none⟩ = false
theorem Row4.store {w : World} {g n k : Nat} {x : Value} (h : Row4 w g (Fr.litPart n k)) (hk : k < 4) (hx : x = .int .u8 ((Fr.litByte n k).toNat : Int)) :
    Row4 (w.setCell ⟨g, k, none⟩ x) g (Fr.litPart n (k + 1)) := by
  intro j hj
  rw [World.frozen?_setCell]
  refine ⟨?_, (h j hj).2⟩
  rw [Fr.litPart_get _ _ _ hj]
  by_cases hjk : j = k
  · subst hjk
    rw [World.cell?_setCell_same (h := (h j hj).1), hx, if_pos (by omega)]
  · rw [World.cell?_setCell_other (h := by simp only [ne_eq, Addr.mk.injEq, true_and, and_true]; omega), (h j hj).1, Fr.litPart_get _ _ _ hj]
    by_cases h1 : j < k
    · rw [if_pos h1, if_pos (by omega)]
    · rw [if_neg h1, if_neg (by omega)]
theorem Row4.conv {w : World} {g c : Nat} {l : List UInt8} (h : Row4 w g l) (hl : l.length = 4) : (convert 74 9 (.slice (some ⟨g, 0, none⟩) 4 c)).run Try.prog w = .ok (.string (Cd.bs l)) w := by
  have := run_convert_bytes_back (P := Try.prog) w 74 9 5 ⟨g, 0, none⟩ c l Try.underlying74 Try.underlying5 Try.underlying9 (fun j hj => by
    have := (h j (by omega)).1
    rw [List.getD_eq_getElem?_getD, List.getElem?_eq_getElem hj] at this
    have hp : (⟨g, 0, none⟩ : Addr).add j = ⟨g, j, none⟩ := by unfold Addr.add; split <;> simp_all
    rw [hp]; simpa using this)
  rwa [hl] at this
theorem Row4.new (w : World) (n : Nat) (T : TypeId) : Row4 (w.alloc (.cells #[.int .u8 0, .int .u8 0, .int .u8 0, .int .u8 0] T)) w.heap.size (Fr.litPart n 0) := by
  intro j hj
  rw [Fr.litPart_zero]
  match j, hj with
  | 0, _ => exact ⟨by go_simp, by go_simp⟩
  | 1, _ => exact ⟨by go_simp, by go_simp⟩
  | 2, _ => exact ⟨by go_simp, by go_simp⟩
  | 3, _ => exact ⟨by go_simp, by go_simp⟩

end Go.Proofs.Ytojbcdkiilcppaa
namespace Go.Proofs.Ytojbcdkiilcppaa
open Go.RowKit
set_option linter.unusedSimpArgs false
set_option linter.unusedVariables false

/-- string(b) of one byte that lies in a cell -/
theorem conv_cell (W : World) (g : Nat) (x : Int) (c : UInt8) (hx : x = (c.toNat : Int)) (h : W.cell? ⟨g, 0, none⟩ = some (.int .u8 x)) :
    (convert 74 9 (.slice (some ⟨g, 0, none⟩) 1 1)).run Try.prog W = .ok (.string (Cd.bs [c])) W := by
  have := run_convert_bytes_back (P := Try.prog) W 74 9 5 ⟨g, 0, none⟩ 1 [c] Try.underlying74 Try.underlying5 Try.underlying9 (fun j hj => by
    simp at hj; subst hj
    rw [show (⟨g, 0, none⟩ : Addr).add 0 = ⟨g, 0, none⟩ from by simp [Addr.add], h, hx]; rfl)
  simpa using this

theorem bcell {W w1 : World} (hb : Below W.heap.size W w1) : (∀ b o, b < W.heap.size → w1.cell? ⟨b, o, none⟩ = W.cell? ⟨b, o, none⟩) ∧ (∀ b o, b < W.heap.size → w1.frozen? ⟨b, o, none⟩ = W.frozen? ⟨b, o, none⟩) :=
  ⟨fun b o h => hb.cell (p := ⟨b, o, none⟩) h, fun b o h => hb.frozen (p := ⟨b, o, none⟩) h⟩

end Go.Proofs.Ytojbcdkiilcppaa
namespace Go.Proofs.Ytojbcdkiilcppaa
open Go.RowKit
set_option linter.unusedSimpArgs false
set_option linter.unusedVariables false

/-- a frame's answer as Go hands it back -/
abbrev frameV (r : (UInt8 × List UInt8) × Nat × Nat) : Value := .tuple #[.agg #[.int .u8 (r.1.1.toNat : Int), .string (Cd.bs r.1.2)], .int .i64 r.2.1, .int .i64 r.2.2]

end Go.Proofs.Ytojbcdkiilcppaa
namespace Go.Proofs.Ytojbcdkiilcppaa
open Go.RowKit
set_option linter.unusedSimpArgs false
set_option linter.unusedVariables false

/-- frames with their places, as cells -/
def atCells (out : List (Nat × (UInt8 × List UInt8))) : List Value := (out.map fun x => [Value.int .i64 x.1, .int .u8 x.2.1.toNat, .string (Cd.bs x.2.2)]).flatten
theorem atCells_snoc (out : List (Nat × (UInt8 × List UInt8))) (x : Nat × (UInt8 × List UInt8)) : atCells (out ++ [x]) = atCells out ++ [.int .i64 x.1, .int .u8 x.2.1.toNat, .string (Cd.bs x.2.2)] := by simp [atCells]
theorem cell_three_new (w : World) (a b c : Value) (t : TypeId) : ∀ j u, [a, b, c][j]? = some u → (w.alloc (.cells #[a, b, c] t)).cell? ((⟨w.heap.size, 0, none⟩ : Addr).add j) = some u := by
  intro j u hj
  match j, hj with
  | 0, hj => simp at hj; subst hj; simp [Addr.add]
  | 1, hj => simp at hj; subst hj; simp [Addr.add]
  | 2, hj => simp at hj; subst hj; simp [Addr.add]
  | (j + 3), hj => simp at hj

/-- what is owned stays owned behind whatever keeps the blocks that there are -/
theorem own_below {W w : World} {base : Nat} {e : TypeId} {size : Nat} {v : Value} {n : Nat} {xs : List Value} (h : W.ownsRow base e size v n xs) (hb : Below W.heap.size W w) : w.ownsRow base e size v n xs := by
  refine ⟨h.1, ?_⟩
  rcases h.2 with h | ⟨g, cap, cur, h1, h2, h3, h4⟩
  · exact .inl h
  · exact .inr ⟨g, cap, cur, h1, h2, (hb.block g (Array.getElem?_eq_some_iff.1 h3).1).trans h3, h4⟩

end Go.Proofs.Ytojbcdkiilcppaa
/-
  append of a string's bytes onto bytes that the call owns: where the new slice lies; as one step of a region that draws its order.
-/
namespace Go.Proofs.Ytojbcdkiilcppaa
open Go.RowKit Go.Lib
set_option linter.unusedVariables false
namespace As
section
variable {P : Program} (w : World)
theorem run_lies (t u ty : TypeId) (base : Nat) (e : TypeId) (i : TypeInfo) (ht : P.underlying t = some (.slice e)) (hu : P.underlying u = some .string) (hi : P.info? e = some i) (hz : i.zero = some (.int .u8 0))
    (hsize : i.size = 1) (hby : i.bytes = 1) (v : Value) (n : Nat) (xs : List Value) (hown : w.ownsRow base e 1 v n xs) (s : ByteArray)
    (h63 : n + s.size ≤ maxLen) (hbytes : n + s.size ≤ 140737488355328) (hbase : base ≤ w.heap.size) (k : Nat) (hk : n + s.size = k) :
    ∃ ao cap w', (Builtin.append_ #[t, u] ty #[v, .string s]).run P w = .ok (.slice ao k cap) w' ∧ w'.ownsRow base e 1 (.slice ao k cap) k (xs ++ strCells s) ∧ w.grownBy w' v.ownBlock ∧
      (∀ g, (Value.slice ao k cap).ownBlock = some g → v.ownBlock = some g ∨ g = w.heap.size) := by
  obtain ⟨v', w', hr, h2, h3, h4⟩ := run_append_own_string (P := P) w base t u ty e i ht hu hi hz hsize hby v n xs hown s h63 hbytes hbase
  have hb : ∀ g, v'.ownBlock = some g → v.ownBlock = some g ∨ g = w.heap.size := by
    rcases hown.2 with ⟨hv, hn⟩ | ⟨g, cap, cur, hv, hbg, hg, hnc, hcm, hcs, htake⟩
    · subst hv; subst hn
      by_cases hm : s.size = 0
      · have := h4.2 ⟨rfl, hm⟩
        subst this
        intro g hg; simp [Value.ownBlock] at hg
      · have hr2 := run_append_nil_string (P := P) w t u ty e i (.int .u8 0) ht hu hi hz s (by omega) (by simp only [maxLen] at h63; omega) (by rw [hby]; omega)
        rw [hr2] at hr
        injection hr with e1 e2
        subst e1
        intro g hg; simp [Value.ownBlock] at hg; exact .inr hg.symm
    · subst hv
      by_cases hroom : n + s.size ≤ cap
      · have hcs' : cur.size = cap := by simpa using hcs
        have hr2 := run_append_room_string (P := P) w t u ty e i ht hu hi hsize g n cap cur hg s hroom (by omega)
        rw [hr2] at hr
        injection hr with e1 e2
        subst e1
        intro g' hg'; simp [Value.ownBlock] at hg'; subst hg'; exact .inl rfl
      · have hxl : xs.length = n := by simpa using hown.1
        have hr2 := run_append_grow_string (P := P) w t u ty e i (.int .u8 0) ht hu hi hz ⟨g, 0, none⟩ n cap xs (by rw [hsize]; simpa using hxl) (hown.cells (g := g) rfl) s (by omega) (by simp only [maxLen] at h63; omega) (by rw [hby]; exact growslice_fits (by omega) (by omega))
        rw [hr2] at hr
        injection hr with e1 e2
        subst e1
        intro g' hg'; simp [Value.ownBlock] at hg'; exact .inr hg'.symm
  have hf : ∃ ao cap, v' = .slice ao k cap := by
    rcases h2.2 with ⟨hv, h0⟩ | ⟨g, cap, cur, hv, _⟩
    · exact ⟨none, 0, by rw [hv, ← hk, h0]⟩
    · exact ⟨_, cap, by rw [hv, hk]⟩
  obtain ⟨ao, cap, rfl⟩ := hf
  rw [hk] at h2
  exact ⟨ao, cap, w', hr, h2, h3, hb⟩

/-- at a step of a region that draws its order -/
theorem step {ops : Array Oper} {o : Oper} {a : Act} {K : Act → World → Prop} {Q : Exit → Act → World → Prop} {E : Prop} (hgd : o.guard = none) (sl x : Operand) (t u : TypeId)
    (ho : o.op = .call { callee := .builtin .append, args := #[sl, x], argTypes := #[t, u] })
    (base : Nat) (e : TypeId) (i : TypeInfo) (ht : P.underlying t = some (.slice e)) (hu : P.underlying u = some .string) (hi : P.info? e = some i) (hz : i.zero = some (.int .u8 0))
    (hsize : i.size = 1) (hby : i.bytes = 1)
    (v : Value) (n : Nat) (xs : List Value) (hs : a.eval sl = v) (hown : w.ownsRow base e 1 v n xs) (s : ByteArray) (hx : a.eval x = .string s)
    (h63 : n + s.size ≤ maxLen) (hbytes : n + s.size ≤ 140737488355328) (hbase : base ≤ w.heap.size) (k : Nat) (hk : n + s.size = k)
    (h : ∀ ao cap w', w'.ownsRow base e 1 (.slice ao k cap) k (xs ++ strCells s) → w.grownBy w' v.ownBlock → (∀ g, (Value.slice ao k cap).ownBlock = some g → v.ownBlock = some g ∨ g = w.heap.size) → K (a.put o.dst (.slice ao k cap)) w') :
    if Region.wanted o (yielded ops a.tmps) = true then Oper.wp P o a w K Q else E := by
  have hw : Region.wanted o (yielded ops a.tmps) = true := by simp [Region.wanted, hgd]
  rw [if_pos hw]
  obtain ⟨ao, cap, w', hr, h2, h3, h4⟩ := run_lies (P := P) w t u o.type base e i ht hu hi hz hsize hby v n xs hown s h63 hbytes hbase k hk
  unfold Oper.wp execOp
  simp only [ho, resolve, invoke, builtin, Sem.run_bind, Sem.run_pure, Result.andThen_ok, List.map_toArray, List.map_cons, List.map_nil, hs, hx, hr]
  exact h ao cap w' h2 h3 h4

theorem wpList {ops : Array Oper} {rest : List Oper} {o : Oper} {a : Act} {Q : Exit → Act → World → Prop} (hgd : o.guard = none) (sl x : Operand) (t u : TypeId)
    (ho : o.op = .call { callee := .builtin .append, args := #[sl, x], argTypes := #[t, u] })
    (base : Nat) (e : TypeId) (i : TypeInfo) (ht : P.underlying t = some (.slice e)) (hu : P.underlying u = some .string) (hi : P.info? e = some i) (hz : i.zero = some (.int .u8 0))
    (hsize : i.size = 1) (hby : i.bytes = 1)
    (v : Value) (n : Nat) (xs : List Value) (hs : a.eval sl = v) (hown : w.ownsRow base e 1 v n xs) (s : ByteArray) (hx : a.eval x = .string s)
    (h63 : n + s.size ≤ maxLen) (hbytes : n + s.size ≤ 140737488355328) (hbase : base ≤ w.heap.size) (k : Nat) (hk : n + s.size = k)
    (h : ∀ ao cap w', w'.ownsRow base e 1 (.slice ao k cap) k (xs ++ strCells s) → w.grownBy w' v.ownBlock → (∀ g, (Value.slice ao k cap).ownBlock = some g → v.ownBlock = some g ∨ g = w.heap.size) → Go.wpList P ops Q rest (a.put o.dst (.slice ao k cap)) w') : Go.wpList P ops Q (o :: rest) a w := by
  refine wpList_plain hgd fun K hK => ?_
  obtain ⟨ao, cap, w', hr, h2, h3, h4⟩ := run_lies (P := P) w t u o.type base e i ht hu hi hz hsize hby v n xs hown s h63 hbytes hbase k hk
  unfold Oper.wp execOp
  simp only [ho, resolve, invoke, builtin, Sem.run_bind, Sem.run_pure, Result.andThen_ok, List.map_toArray, List.map_cons, List.map_nil, hs, hx, hr]
  exact hK _ _ (h ao cap w' h2 h3 h4)
end
end As
end Go.Proofs.Ytojbcdkiilcppaa

/-
  The program's putters of numbers (code.putUints): onto bytes that the call's caller owns.
-/
namespace Go.Proofs.Ytojbcdkiilcppaa
open Go.RowKit
set_option linter.unusedSimpArgs false
set_option linter.unusedVariables false
namespace Co
theorem info_u8c : (Try.prog.info? 5).map (fun i => (i.zero, i.size, i.bytes)) = some (some (.int .u8 0), 1, 1) := by kernel_rfl
/-- what stood below B, and all that is no row of bytes, stands -/
structure M8 (B : Nat) (W W' : World) : Prop where
  be : Below B W W'
  ob : ∀ b t cs, t ≠ 5 → Ob.Obj W b t cs → Ob.Obj W' b t cs
theorem M8.refl (B : Nat) (W : World) : M8 B W W := ⟨Below.refl _ _, fun _ _ _ _ h => h⟩
theorem M8.trans {B : Nat} {a b c : World} (h : M8 B a b) (k : M8 B b c) : M8 B a c := ⟨h.be.trans k.be, fun b t cs ht ho => k.ob b t cs ht (h.ob b t cs ht ho)⟩
theorem M8.below {B : Nat} {W W' : World} (hb : Below W.heap.size W W') (hB : B ≤ W.heap.size) : M8 B W W' := ⟨hb.mono hB, fun b t cs _ ho => ho.below hb⟩
theorem M8.less {B B' : Nat} {W W' : World} (h : M8 B W W') (hB : B' ≤ B) : M8 B' W W' := ⟨h.be.mono hB, h.ob⟩
theorem strCells_cs13 (s : Dat) : Lib.strCells (Cd.bs s) = Cd.cs s := by simp [Lib.strCells, Cd.cs, Lib.byteCells]
theorem cs_app (a b : Dat) : Cd.cs a ++ Cd.cs b = Cd.cs (a ++ b) := by simp [Cd.cs, Lib.byteCells]
/-- bytes that are the call's own -/
def Byt (B : Nat) (W : World) (v : Value) (l : Dat) : Prop := W.ownsRow B 5 1 v l.length (Cd.cs l)
theorem Byt.nil (B : Nat) (W : World) : Byt B W (.slice none 0 0) [] := World.ownsRow_nil _ _ _ _
theorem Byt.below {B : Nat} {W W' : World} {v : Value} {l : Dat} (h : Byt B W v l) (hb : Below W.heap.size W W') : Byt B W' v l := own_below h hb
theorem Byt.app {B : Nat} {W W2 : World} {v : Value} {l s l2 : Dat} {ao : Option Addr} {cap : Nat} (h : Byt B W v l) (hl : l2 = l ++ s) (hown : W2.ownsRow B 5 1 (.slice ao l2.length cap) l2.length (Cd.cs l ++ Lib.strCells (Cd.bs s))) (hg : W.grownBy W2 v.ownBlock) (hB : B ≤ W.heap.size) :
    Byt B W2 (.slice ao l2.length cap) l2 ∧ M8 B W W2 := by
  subst hl
  rw [strCells_cs13, cs_app] at hown
  exact ⟨hown, (Sq.Kept.grown (T := fun k => v.ownBlock ≠ some k) hg (fun r hr hn => hn hr)).below (fun k hk e => by have := (Ob.row_lt h e).1; omega) hB, fun b t cs ht ho => ho.grown hg (ho.not_row ht h)⟩
theorem Byt.drew {B : Nat} {W : World} {v : Value} {l : Dat} (h : Byt B W v l) : Byt B W.drew v l := h
theorem Byt.obj {B : Nat} {W : World} {v : Value} {l : Dat} (h : Byt B W v l) (o : Obj) : Byt B (W.alloc o) v l := World.ownsRow.alloc h o
theorem num_cells {W : World} {nb : Nat} {t : TypeId} {L : List Int} (h : Ob.Obj W nb t (L.map fun d => .int .i64 d)) (q : Nat) (hq : q < L.length) : W.cell? ⟨nb, q, none⟩ = some (.int .i64 L[q]) := by
  rw [h.cell q]; simp [hq]

end Co
end Go.Proofs.Ytojbcdkiilcppaa

/-
  The program's event.putEvent: an event's bytes onto bytes of the call's own.
-/
namespace Go.Proofs.Ytojbcdkiilcppaa
open Go.RowKit
set_option linter.unusedSimpArgs false
set_option linter.unusedVariables false
namespace Ev
open Co (Byt M8 info_u8c)
/-- what a putter leaves -/
def PutOutE (B : Nat) (w : World) (v : Value) (l2 : Dat) (e : Ending) (w' : World) : Prop := ∃ ao cap, e = .returned (.slice ao l2.length cap) ∧ Byt B w' (.slice ao l2.length cap) l2 ∧ M8 B w w' ∧ Sq.Kept (fun k => v.ownBlock ≠ some k) w w' ∧ ∀ g, (Value.slice ao l2.length cap).ownBlock = some g → v.ownBlock = some g ∨ w.heap.size ≤ g
/-- of what stood, only the row of v may have turned; the row at hand is v's or new -/
structure PK (w : World) (v s : Value) (W : World) : Prop where
  kept : Sq.Kept (fun k => k < w.heap.size ∧ v.ownBlock ≠ some k) w W
  own : ∀ g, s.ownBlock = some g → v.ownBlock = some g ∨ w.heap.size ≤ g
theorem PK.below {w : World} {v s : Value} {W W' : World} (h : PK w v s W) (hb : Below W.heap.size W W') : PK w v s W' := ⟨h.kept.trans (Sq.Kept.of_below hb), h.own⟩
theorem PK.app {w : World} {v s s2 : Value} {W W2 : World} (h : PK w v s W) (hg : W.grownBy W2 s.ownBlock) (hat : ∀ g, s2.ownBlock = some g → s.ownBlock = some g ∨ g = W.heap.size) : PK w v s2 W2 :=
  ⟨h.kept.trans (Sq.Kept.grown hg (fun r hr hn => by rcases h.own r hr with h1 | h1; exact hn.2 h1; have := hn.1; omega)), fun g hg2 => by
    rcases hat g hg2 with h1 | h1
    · exact h.own g h1
    · exact .inr (by have := h.kept.size; omega)⟩
theorem PK.out {w : World} {v s : Value} {W : World} (h : PK w v s W) : Sq.Kept (fun k => v.ownBlock ≠ some k) w W :=
  ⟨h.kept.os, h.kept.tape, h.kept.output, h.kept.size, fun k hk hl => h.kept.block k ⟨hl, hk⟩ hl⟩

theorem putVc_at (d : Int) (W : World) (h : 0 ≤ d ∧ d ≤ 1099511627776) : Calls Try.prog 48 #[.int .u64 d] W fun e w' => e = .returned (.string (Cd.bs (putV d))) ∧ Below W.heap.size W w' := putUc_at d d.toNat W (by omega) (by omega)

theorem putIc_at (a : Int) (W : World) (h : W64 a) : Calls Try.prog 49 #[.int .i64 a] W fun e w' => e = .returned (.string (Cd.bs (putI a))) ∧ Below W.heap.size W w' := putIc_any a W h.1 h.2

set_option maxRecDepth 100000 in
set_option maxHeartbeats 16000000 in
theorem putEv_any (B : Nat) (v : Value) (l l2 : Dat) (x : Evt) (w : World) (h2 : l2 = l ++ load x) (hV : Byt B w v l) (hB : B ≤ w.heap.size) (hv : validB x = true) (hI : EvIn x) (hl : l.length ≤ 100000000) :
    Calls Try.prog 41 #[v, evV x] w (PutOutE B w v l2) := by
  obtain ⟨hf0, hi1, hi2, ht1, ht2, _⟩ := valid_at hv
  obtain ⟨hk1, hk2⟩ := kind_in hf0
  have hf6 := (fields_in x.kind).2
  obtain ⟨M, hM⟩ : ∃ M : Nat, fields x.kind = (M : Int) := ⟨(fields x.kind).toNat, by omega⟩
  have hmy : many x = M := by unfold many; omega
  have HLC := load_cut x
  rw [hmy] at HLC
  have hM6 : M ≤ 6 := by omega
  have HF := Lib.hid (fun W => fields_any x.kind W)
  rw [hM] at HF
  have HC := Lib.hid (fun (W : World) (g : Nat) (h : Ob.Obj W g 26 (evC x)) (q : Nat) (hq : q < 6) => show W.cell? ⟨g, 3 + q, none⟩ = some (.int .i64 ((nums x).getD q 0)) from by
    rw [h.cell (3 + q)]
    match q, hq with
    | 0, _ => rfl
    | 1, _ => rfl
    | 2, _ => rfl
    | 3, _ => rfl
    | 4, _ => rfl
    | 5, _ => rfl
    | j + 6, h2 => exact absurd h2 (by omega))
  have HP := Lib.hid (fun (W : World) (g b : Nat) (h : Ob.Obj W g 66 (ptrC b)) (q : Nat) (hq : q < 6) => show W.cell? ⟨g, q, none⟩ = some (.pointer (some ⟨b, 3 + q, none⟩)) from by
    rw [h.cell q]
    match q, hq with
    | 0, _ => rfl
    | 1, _ => rfl
    | 2, _ => rfl
    | 3, _ => rfl
    | 4, _ => rfl
    | 5, _ => rfl
    | j + 6, h2 => exact absurd h2 (by omega))
  have HIN := Lib.hid (fun (q : Nat) (hq : q < 6) => show W64 ((nums x).getD q 0) from by
    rw [List.getD_eq_getElem?_getD, List.getElem?_eq_getElem (show q < (nums x).length from hq)]
    exact nums_in hI _ (List.getElem_mem _))
  have HSN := Lib.hid (fun (q : Nat) (hq : q < 6) => show ((nums x).take (q + 1)).flatMap putI = ((nums x).take q).flatMap putI ++ putI ((nums x).getD q 0) from by
    rw [flat_snoc putI (show q < (nums x).length from hq), List.getD_eq_getElem?_getD, List.getElem?_eq_getElem (show q < (nums x).length from hq)]; rfl)
  have HPL := Lib.hid (fun (q : Nat) (hq : q ≤ 6) => show (((nums x).take q).flatMap putI).length ≤ 60 from by
    have h1 := flat_len putI 10 ((nums x).take q) (fun v hv => putI_len (nums_in hI v (List.mem_of_mem_take hv)))
    have h2 : ((nums x).take q).length ≤ 6 := by rw [List.length_take]; exact Nat.min_le_right _ _
    omega)
  obtain ⟨l3, hl3⟩ : ∃ l3, l3 = ((l ++ putV x.id) ++ putV x.time) ++ putV x.kind := ⟨_, rfl⟩
  have HL3 := Lib.hid hl3
  have HL2 := Lib.hid (show l2 = l3 ++ ((nums x).take M).flatMap putI by rw [h2, HLC, hl3]; simp only [List.append_assoc])
  have p1 := putV_len (d := x.id) ⟨by omega, by omega⟩
  have p2 := putV_len (d := x.time) ⟨ht1, ht2⟩
  have p3 := putV_len (d := x.kind) ⟨by omega, by omega⟩
  have hl3n : l3.length ≤ 100000030 := by rw [hl3]; simp only [List.length_append]; omega
  have HQ1 := Lib.hid (fun W => putVc_at x.id W ⟨by omega, by omega⟩)
  have HQ2 := Lib.hid (fun W => putVc_at x.time W ⟨ht1, ht2⟩)
  have HQ3 := Lib.hid (fun W => putVc_at x.kind W ⟨by omega, by omega⟩)
  have w1' := wrap_at (d := x.id) ⟨by omega, by omega⟩
  have w2' := wrap_at (d := x.time) ⟨ht1, ht2⟩
  have w3' := wrap_at (d := x.kind) ⟨by omega, by omega⟩
  generalize putV x.id = q1 at *
  generalize putV x.time = q2 at *
  generalize putV x.kind = q3 at *
  clear hl3 h2 HLC hi1 hi2 ht1 ht2 hk1 hk2 hI hv hf0 hf6 hM hmy
  generalize (nums x) = NU at *
  obtain ⟨i, t, k, a, b, c, d, e, f⟩ := x
  unfold evV at *
  unfold evC at HC
  simp only at *
  obtain ⟨i0, hi, hz0, hz1, hz2⟩ := info_parts info_u8c
  obtain ⟨ao0, cap0, rfl, _⟩ := Sq.row_cases hV
  have HK1 := Lib.hid (show PK w (.slice ao0 l.length cap0) (.slice ao0 l.length cap0) (w.alloc (.cells #[.int .i64 i, .int .i64 t, .int .i64 k, .int .i64 a, .int .i64 b, .int .i64 c, .int .i64 d, .int .i64 e, .int .i64 f] 26)) from ⟨Sq.Kept.alloc _ _ _, fun g h => .inl h⟩)
  have oE := Ob.Obj.new w 26 [.int .i64 i, .int .i64 t, .int .i64 k, .int .i64 a, .int .i64 b, .int .i64 c, .int .i64 d, .int .i64 e, .int .i64 f]
  have HA1 := Lib.hid (show M8 B w (w.alloc (.cells #[.int .i64 i, .int .i64 t, .int .i64 k, .int .i64 a, .int .i64 b, .int .i64 c, .int .i64 d, .int .i64 e, .int .i64 f] 26)) from M8.below ((Below.refl _ _).alloc (Nat.le_refl _) _) hB)
  have HV1 := Lib.hid (hV.obj (.cells #[.int .i64 i, .int .i64 t, .int .i64 k, .int .i64 a, .int .i64 b, .int .i64 c, .int .i64 d, .int .i64 e, .int .i64 f] 26))
  have c0 := oE.cell 0
  have c1 := oE.cell 1
  have c2 := oE.cell 2
  simp at c0 c1 c2
  have HB := Lib.hid hB
  have hlen := hl
  clear hV
  have ix0 : ∀ w : World, (Instr.index 62 (.agg #[.int .u64 i, .int .u64 t, .int .u64 k]) (.int .i64 0)).run Try.prog w = .ok (.int .u64 i) w := fun _ => by kernel_rfl
  have ix1 : ∀ w : World, (Instr.index 62 (.agg #[.int .u64 i, .int .u64 t, .int .u64 k]) (.int .i64 1)).run Try.prog w = .ok (.int .u64 t) w := fun _ => by kernel_rfl
  have ix2 : ∀ w : World, (Instr.index 62 (.agg #[.int .u64 i, .int .u64 t, .int .u64 k]) (.int .i64 2)).run Try.prog w = .ok (.int .u64 k) w := fun _ => by kernel_rfl
  go_enter Try.func41, Try.ntmps41
  go_wp2_with fail
  go_loopw [0, 20] (fun s n wr => ∃ (q : Nat) (S3 : Dat) (ao : Option Addr) (cap : Nat), q ≤ 3 ∧ n = .int .i64 (q : Int) ∧ s = .slice ao S3.length cap ∧ S3.length ≤ 100000030 ∧ Hid ((q = 0 ∧ S3 = l) ∨ (q = 1 ∧ S3 = l ++ q1) ∨ (q = 2 ∧ S3 = (l ++ q1) ++ q2) ∨ (q = 3 ∧ S3 = l3)) ∧ Byt B wr s S3 ∧ M8 B w wr ∧ PK w (.slice ao0 l.length cap0) s wr ∧ Ob.Obj wr w.heap.size 26 [.int .i64 i, .int .i64 t, .int .i64 k, .int .i64 a, .int .i64 b, .int .i64 c, .int .i64 d, .int .i64 e, .int .i64 f]) (fun _ n _ => 3 - (intOf n).toNat)
  case atStart => exact ⟨0, l, ao0, cap0, Nat.zero_le _, rfl, rfl, by omega, .inl ⟨rfl, rfl⟩, HV1.out, HA1.out, HK1.out, oE⟩
  case round =>
    clear HA1 HV1 HK1 oE c0 c1 c2
    obtain ⟨q, S3, ao, cap, hq, rfl, rfl, hS3, hwh, hV, hM, hK, oE⟩ := hrel
    obtain ⟨wo, rfl⟩ : ∃ wo : World, wo = wr := ⟨_, rfl⟩
    have hsz : B ≤ wo.heap.size := Nat.le_trans HB.out hM.be.size
    by_cases hlt : q < 3
    · have hq3 : q = 0 ∨ q = 1 ∨ q = 2 := by omega
      rcases hq3 with rfl | rfl | rfl
      · obtain hS : S3 = l := by rcases hwh.out with ⟨h, g⟩ | ⟨h, g⟩ | ⟨h, g⟩ | ⟨h, g⟩ <;> first | omega | exact g
        have HTS := Lib.hid (show S3 ++ q1 = l ++ q1 by rw [hS])
        have hln : S3.length + q1.length ≤ 100000030 := by rw [hS]; (try simp only [List.length_append]); omega
        clear hwh hS
        have HQ := HQ1
        have p9 := p1
        clear HQ1 HQ2 HQ3 p1 p2 p3
        generalize hpd : q1 = pd at HQ HTS hln p9
        obtain ⟨S4, hS4⟩ : ∃ S4, S4 = S3 ++ pd := ⟨_, rfl⟩
        have HS4 := Lib.hid hS4
        rw [← hS4] at HTS
        have HKL := Lib.hid (show S3.length + (Cd.bs pd).size = S4.length by rw [hS4, List.length_append]; rfl)
        have hS4n : S4.length ≤ 100000030 := by rw [hS4, List.length_append]; omega
        clear hS4
        have hpsz : (Cd.bs pd).size = pd.length := rfl
        have HK := Lib.hid (show S3.length + (Cd.bs pd).size ≤ 140737488355328 ∧ S3.length + (Cd.bs pd).size ≤ maxLen by unfold maxLen; omega)
        have HV := Lib.hid hV
        have HM := Lib.hid hM
        have HKK := Lib.hid hK
        clear hV hM hK
        go_wp2_with (first
          | (go_at_call 48; (with_reducible refine (HQ.out _).mono ?_); rintro e w3 ⟨rfl, hb3⟩; have hV3 := Lib.hid (HV.out.below hb3); have hM3 := Lib.hid (HM.out.trans (M8.below hb3 hsz)); have hK3 := Lib.hid (HKK.out.below hb3); have oE3 := oE.below hb3; have hs3 := Nat.le_trans hsz hb3.size)
          | (at_builtin; go_loud (refine As.wpList _ rfl _ _ 74 9 rfl B 5 i0 Try.underlying74 Try.underlying9 hi hz0 hz1 hz2 _ S3.length _ rfl hV3.out (Cd.bs pd) rfl HK.out.2 HK.out.1 hs3 S4.length HKL.out ?_; intro ao4 cap4 w4 hown hgrow hat4; have HK4 := Lib.hid (hK3.out.app hgrow hat4); obtain ⟨hV4, hM4⟩ := hV3.out.app HS4.out hown hgrow hs3; have HV4 := Lib.hid hV4; have OE4 := Lib.hid (hM4.ob _ _ _ (by decide) oE3); have HM4 := Lib.hid (hM3.out.trans hM4); clear hown hgrow hat4 hV4 hM4)))
        go_roundw
        case rel => exact ⟨1, S4, ao4, cap4, by omega, by go_num, by rfl, by omega, .inr (.inl ⟨rfl, HTS.out⟩), HV4.out, HM4.out, HK4.out, OE4.out⟩
        case measure => simp [intOf]
      · obtain hS : S3 = l ++ q1 := by rcases hwh.out with ⟨h, g⟩ | ⟨h, g⟩ | ⟨h, g⟩ | ⟨h, g⟩ <;> first | omega | exact g
        have HTS := Lib.hid (show S3 ++ q2 = (l ++ q1) ++ q2 by rw [hS])
        have hln : S3.length + q2.length ≤ 100000030 := by rw [hS]; (try simp only [List.length_append]); omega
        clear hwh hS
        have HQ := HQ2
        have p9 := p2
        clear HQ1 HQ2 HQ3 p1 p2 p3
        generalize hpd : q2 = pd at HQ HTS hln p9
        obtain ⟨S4, hS4⟩ : ∃ S4, S4 = S3 ++ pd := ⟨_, rfl⟩
        have HS4 := Lib.hid hS4
        rw [← hS4] at HTS
        have HKL := Lib.hid (show S3.length + (Cd.bs pd).size = S4.length by rw [hS4, List.length_append]; rfl)
        have hS4n : S4.length ≤ 100000030 := by rw [hS4, List.length_append]; omega
        clear hS4
        have hpsz : (Cd.bs pd).size = pd.length := rfl
        have HK := Lib.hid (show S3.length + (Cd.bs pd).size ≤ 140737488355328 ∧ S3.length + (Cd.bs pd).size ≤ maxLen by unfold maxLen; omega)
        have HV := Lib.hid hV
        have HM := Lib.hid hM
        have HKK := Lib.hid hK
        clear hV hM hK
        go_wp2_with (first
          | (go_at_call 48; (with_reducible refine (HQ.out _).mono ?_); rintro e w3 ⟨rfl, hb3⟩; have hV3 := Lib.hid (HV.out.below hb3); have hM3 := Lib.hid (HM.out.trans (M8.below hb3 hsz)); have hK3 := Lib.hid (HKK.out.below hb3); have oE3 := oE.below hb3; have hs3 := Nat.le_trans hsz hb3.size)
          | (at_builtin; go_loud (refine As.wpList _ rfl _ _ 74 9 rfl B 5 i0 Try.underlying74 Try.underlying9 hi hz0 hz1 hz2 _ S3.length _ rfl hV3.out (Cd.bs pd) rfl HK.out.2 HK.out.1 hs3 S4.length HKL.out ?_; intro ao4 cap4 w4 hown hgrow hat4; have HK4 := Lib.hid (hK3.out.app hgrow hat4); obtain ⟨hV4, hM4⟩ := hV3.out.app HS4.out hown hgrow hs3; have HV4 := Lib.hid hV4; have OE4 := Lib.hid (hM4.ob _ _ _ (by decide) oE3); have HM4 := Lib.hid (hM3.out.trans hM4); clear hown hgrow hat4 hV4 hM4)))
        go_roundw
        case rel => exact ⟨2, S4, ao4, cap4, by omega, by go_num, by rfl, by omega, .inr (.inr (.inl ⟨rfl, HTS.out⟩)), HV4.out, HM4.out, HK4.out, OE4.out⟩
        case measure => simp [intOf]
      · obtain hS : S3 = (l ++ q1) ++ q2 := by rcases hwh.out with ⟨h, g⟩ | ⟨h, g⟩ | ⟨h, g⟩ | ⟨h, g⟩ <;> first | omega | exact g
        have HTS := Lib.hid (show S3 ++ q3 = l3 by rw [hS]; rw [HL3.out])
        have hln : S3.length + q3.length ≤ 100000030 := by rw [hS]; (try simp only [List.length_append]); omega
        clear hwh hS
        have HQ := HQ3
        have p9 := p3
        clear HQ1 HQ2 HQ3 p1 p2 p3
        generalize hpd : q3 = pd at HQ HTS hln p9
        obtain ⟨S4, hS4⟩ : ∃ S4, S4 = S3 ++ pd := ⟨_, rfl⟩
        have HS4 := Lib.hid hS4
        rw [← hS4] at HTS
        have HKL := Lib.hid (show S3.length + (Cd.bs pd).size = S4.length by rw [hS4, List.length_append]; rfl)
        have hS4n : S4.length ≤ 100000030 := by rw [hS4, List.length_append]; omega
        clear hS4
        have hpsz : (Cd.bs pd).size = pd.length := rfl
        have HK := Lib.hid (show S3.length + (Cd.bs pd).size ≤ 140737488355328 ∧ S3.length + (Cd.bs pd).size ≤ maxLen by unfold maxLen; omega)
        have HV := Lib.hid hV
        have HM := Lib.hid hM
        have HKK := Lib.hid hK
        clear hV hM hK
        go_wp2_with (first
          | (go_at_call 48; (with_reducible refine (HQ.out _).mono ?_); rintro e w3 ⟨rfl, hb3⟩; have hV3 := Lib.hid (HV.out.below hb3); have hM3 := Lib.hid (HM.out.trans (M8.below hb3 hsz)); have hK3 := Lib.hid (HKK.out.below hb3); have oE3 := oE.below hb3; have hs3 := Nat.le_trans hsz hb3.size)
          | (at_builtin; go_loud (refine As.wpList _ rfl _ _ 74 9 rfl B 5 i0 Try.underlying74 Try.underlying9 hi hz0 hz1 hz2 _ S3.length _ rfl hV3.out (Cd.bs pd) rfl HK.out.2 HK.out.1 hs3 S4.length HKL.out ?_; intro ao4 cap4 w4 hown hgrow hat4; have HK4 := Lib.hid (hK3.out.app hgrow hat4); obtain ⟨hV4, hM4⟩ := hV3.out.app HS4.out hown hgrow hs3; have HV4 := Lib.hid hV4; have OE4 := Lib.hid (hM4.ob _ _ _ (by decide) oE3); have HM4 := Lib.hid (hM3.out.trans hM4); clear hown hgrow hat4 hV4 hM4)))
        go_roundw
        case rel => exact ⟨3, S4, ao4, cap4, by omega, by go_num, by rfl, by omega, .inr (.inr (.inr ⟨rfl, HTS.out⟩)), HV4.out, HM4.out, HK4.out, OE4.out⟩
        case measure => simp [intOf]
    · obtain rfl : q = 3 := by omega
      obtain rfl : S3 = l3 := by rcases hwh.out with ⟨h, _⟩ | ⟨h, _⟩ | ⟨h, _⟩ | ⟨_, h⟩ <;> first | omega | exact h
      clear hwh hS3 HQ1 HQ2 HQ3
      have c2 := oE.cell 2
      simp at c2
      have HM := Lib.hid hM
      have HKK := Lib.hid hK
      have HV := Lib.hid hV
      have HN := Lib.hid (fun W => numbers_any w.heap.size W)
      unfold ptrC at HN
      clear hM hV hK
      have hMi : (0 : Int) ≤ (M : Int) ∧ (M : Int) ≤ 6 := by omega
      go_wp2_with (first
        | (go_at_call 37; (with_reducible refine (HN.out _).mono ?_); rintro e w1 ⟨rfl, hb1⟩; have oE1 := oE.below hb1; have oP1 := Ob.Obj.new w1 66 (ptrC w.heap.size); have oE2 := oE1.alloc (.cells (ptrC w.heap.size).toArray 66); have hb2 : Below wo.heap.size wo (w1.alloc (.cells (ptrC w.heap.size).toArray 66)) := hb1.alloc hb1.size _; have c2' := oE2.cell 2; simp [ptrC] at c2'; have HM2 := Lib.hid (HM.out.trans (M8.below hb2 hsz)); have HV2 := Lib.hid (HV.out.below hb2); have HK2 := Lib.hid (HKK.out.below hb2); have OE2 := Lib.hid oE2; have OP2 := Lib.hid oP1; have hzp := oP1.lt; have he2 := oE2.lt)
        | (go_at_call 10; (with_reducible refine (HF.out _).mono ?_); rintro e w3 ⟨rfl, rfl⟩))

      unfold ptrC at HK2 HM2 HV2 OE2 OP2 hzp he2
      clear hb2 hb1 oE oE1 oE2 oP1 c2 c2' HM HV HN HF
      go_loopw [0, 34] (fun s n wr => ∃ (q : Nat) (ao : Option Addr) (cap : Nat), q ≤ M ∧ n = .int .i64 (q : Int) ∧ s = .slice ao (S3 ++ (NU.take q).flatMap putI).length cap ∧ Byt B wr s (S3 ++ (NU.take q).flatMap putI) ∧ M8 B w wr ∧ PK w (.slice ao0 l.length cap0) s wr ∧ Ob.Obj wr w.heap.size 26 [.int .i64 i, .int .i64 t, .int .i64 k, .int .i64 a, .int .i64 b, .int .i64 c, .int .i64 d, .int .i64 e, .int .i64 f] ∧ Ob.Obj wr w1.heap.size 66 (ptrC w.heap.size)) (fun _ n _ => M - (intOf n).toNat)
      case atStart => exact ⟨0, ao, cap, Nat.zero_le _, rfl, by simp, by simpa using HV2.out, HM2.out, by simpa using HK2.out, OE2.out, OP2.out⟩
      case round =>
        clear HM2 HV2 HK2 OE2 OP2 hzp he2
        obtain ⟨q, ao, cap, hq, rfl, rfl, hV, hM, hK, oE, oP⟩ := hrel
        obtain ⟨wz, rfl⟩ : ∃ wz : World, wz = wr := ⟨_, rfl⟩
        have hsz : B ≤ wz.heap.size := Nat.le_trans HB.out hM.be.size
        by_cases hlt : q < M
        · have hi1 : (0 : Int) ≤ (q : Int) ∧ (q : Int) < (M : Int) := by omega
          have e0 := HP.out _ _ _ oP q (by omega)
          have e1 := HC.out _ _ oE q (by omega)
          have he2 := oE.lt
          have hzp := oP.lt
          have hvin := HIN.out q (by omega)
          have hsn := HSN.out q (by omega)
          have hpl := HPL.out q (by omega)
          have hsl : (S3 ++ (NU.take q).flatMap putI).length ≤ 100000090 := by rw [List.length_append]; omega
          have HTS := Lib.hid (show S3 ++ (NU.take (q + 1)).flatMap putI = (S3 ++ (NU.take q).flatMap putI) ++ putI (NU.getD q 0) by rw [hsn, List.append_assoc])
          clear hsn hpl
          generalize NU.getD q 0 = u at *
          have HQ := Lib.hid (fun W => putIc_at u W hvin)
          have p1 := putI_len hvin
          generalize S3 ++ (NU.take q).flatMap putI = S5 at *
          generalize putI u = pd at *
          obtain ⟨S4, hS4⟩ : ∃ S4, S4 = S5 ++ pd := ⟨_, rfl⟩
          have HS4 := Lib.hid hS4
          rw [← hS4] at HTS
          have HKL := Lib.hid (show S5.length + (Cd.bs pd).size = S4.length by rw [hS4, List.length_append]; rfl)
          clear hS4
          have hpsz : (Cd.bs pd).size = pd.length := rfl
          have HK := Lib.hid (show S5.length + (Cd.bs pd).size ≤ 140737488355328 ∧ S5.length + (Cd.bs pd).size ≤ maxLen by unfold maxLen; omega)
          have HV := Lib.hid hV
          have HM := Lib.hid hM
          have HKK := Lib.hid hK
          clear hV hM hK
          go_wp2_with (first
            | (go_at_call 49; (with_reducible refine (HQ.out _).mono ?_); rintro e w3 ⟨rfl, hb3⟩; have hV3 := Lib.hid (HV.out.below hb3); have hM3 := Lib.hid (HM.out.trans (M8.below hb3 hsz)); have hK3 := Lib.hid (HKK.out.below hb3); have oE3 := oE.below hb3; have oP3 := oP.below hb3; have hs3 := Nat.le_trans hsz hb3.size)
            | (at_builtin; go_loud (refine As.wpList _ rfl _ _ 74 9 rfl B 5 i0 Try.underlying74 Try.underlying9 hi hz0 hz1 hz2 _ S5.length _ rfl hV3.out (Cd.bs pd) rfl HK.out.2 HK.out.1 hs3 S4.length HKL.out ?_; intro ao4 cap4 w4 hown hgrow hat4; have HK4 := Lib.hid (hK3.out.app hgrow hat4); obtain ⟨hV4, hM4⟩ := hV3.out.app HS4.out hown hgrow hs3; have HV4 := Lib.hid hV4; have OE4 := Lib.hid (hM4.ob _ _ _ (by decide) oE3); have OP4 := Lib.hid (hM4.ob _ _ _ (by decide) oP3); have HM4 := Lib.hid (hM3.out.trans hM4); clear hown hgrow hat4 hV4 hM4)))
          go_roundw
          case rel => exact ⟨q + 1, ao4, cap4, by omega, by go_num, by rw [HTS.out], by rw [HTS.out]; exact HV4.out, HM4.out, HK4.out, OE4.out, OP4.out⟩
          case measure => simp [intOf]; omega
        · obtain rfl : q = M := by omega
          have HVf := Lib.hid (show Byt B wz (.slice ao l2.length cap) l2 from by rw [HL2.out]; exact hV)
          have HLf := Lib.hid (show (S3 ++ (NU.take q).flatMap putI).length = l2.length by rw [HL2.out])
          go_wp2_with fail
          go_ret
          exact ⟨ao, cap, by rw [← HLf.out]; rfl, HVf.out, hM, hK.out, by rw [← HLf.out]; exact hK.own⟩
end Ev
end Go.Proofs.Ytojbcdkiilcppaa

/-
  Rows of events (nine cells each): where they lie, what keeps them; events, lists of events and of kinds that came in, opened.
-/
namespace Go.Proofs.Ytojbcdkiilcppaa
open Go.RowKit
set_option linter.unusedVariables false
set_option linter.unusedSimpArgs false

theorem info_Event : (Try.prog.info? 26).map (fun i => (i.zero, i.size, i.bytes)) = some (some (.agg #[.int .i64 0, .int .i64 0, .int .i64 0, .int .i64 0, .int .i64 0, .int .i64 0, .int .i64 0, .int .i64 0, .int .i64 0]), 9, 72) := by kernel_rfl

namespace Ev
open Gn
theorem w64_lit {n : Int} (h : (Lit.int .i64 n).wf = true) : W64 n := by simpa [Lit.wf, IntKind.min, IntKind.max, IntKind.signed, IntKind.bits, W64] using h
abbrev evT : Gn.Ty := .struct (.cons (.int .i64) (.cons (.int .i64) (.cons (.int .i64) (.cons (.int .i64) (.cons (.int .i64) (.cons (.int .i64) (.cons (.int .i64) (.cons (.int .i64) (.cons (.int .i64) .nil)))))))))
abbrev ED : Type := Int × Int × Int × Int × Int × Int × Int × Int × Int × Unit
def toE (x : ED) : Evt := ⟨x.1, x.2.1, x.2.2.1, x.2.2.2.1, x.2.2.2.2.1, x.2.2.2.2.2.1, x.2.2.2.2.2.2.1, x.2.2.2.2.2.2.2.1, x.2.2.2.2.2.2.2.2.1⟩
theorem rd_ev {B : Nat} {W : World} {cs : List Value} {x : ED} (h : RdC B W evT cs x) : cs = evC (toE x) ∧ EvIn (toE x) := by
  obtain ⟨c1, d1, rfl, _, ⟨rfl, w1⟩, c2, d2, rfl, _, ⟨rfl, w2⟩, c3, d3, rfl, _, ⟨rfl, w3⟩, c4, d4, rfl, _, ⟨rfl, w4⟩, c5, d5, rfl, _, ⟨rfl, w5⟩, c6, d6, rfl, _, ⟨rfl, w6⟩, c7, d7, rfl, _, ⟨rfl, w7⟩, c8, d8, rfl, _, ⟨rfl, w8⟩, c9, d9, rfl, _, ⟨rfl, w9⟩, rfl⟩ := h
  exact ⟨rfl, w64_lit w1, w64_lit w2, w64_lit w3, w64_lit w4, w64_lit w5, w64_lit w6, w64_lit w7, w64_lit w8, w64_lit w9⟩
def ebulk (x : ED) : Nat := evT.bulk x
theorem ebulk_pos (x : ED) : 1 ≤ ebulk x := by show 1 ≤ _ + 1; omega
theorem len_sumE {α : Type} (f : α → Nat) (h1 : ∀ x, 1 ≤ f x) : ∀ l : List α, l.length ≤ (l.map f).sum
  | [] => by simp
  | x :: r => by
    have := len_sumE f h1 r
    have := h1 x
    simp; omega
/-- the nine cells of an event -/
def AtE (W : World) (b o : Nat) (x : Evt) : Prop := ∀ m, m < 9 → W.cell? ⟨b, o + m, none⟩ = (evC x)[m]?
theorem AtE.below {B : Nat} {W W' : World} {b o : Nat} {x : Evt} (h : AtE W b o x) (hb : Below B W W') (hl : b < B) : AtE W' b o x := fun m hm => (hb.cell (p := ⟨b, o + m, none⟩) hl).trans (h m hm)
/-- events in a row, in blocks below B -/
def Evs (B : Nat) (W : World) (v : Value) (L : List Evt) : Prop :=
  ∃ (a : Option Addr) (cap b off : Nat), v = .slice a L.length cap ∧ (0 < L.length → a = some ⟨b, off, none⟩ ∧ b < B) ∧ ∀ j (h : j < L.length), AtE W b (off + j * 9) L[j]
theorem Evs.below {B : Nat} {W W' : World} {v : Value} {L : List Evt} (h : Evs B W v L) (hb : Below B W W') : Evs B W' v L := by
  obtain ⟨a, cap, b, off, h1, h2, h3⟩ := h
  exact ⟨a, cap, b, off, h1, h2, fun j hj => (h3 j hj).below hb (h2 (by omega)).2⟩
theorem Evs.grow {B B' : Nat} {W W' : World} {v : Value} {L : List Evt} (h : Evs B W v L) (hb : Below B W W') (hB : B ≤ B') : Evs B' W' v L := by
  obtain ⟨a, cap, b, off, h1, h2, h3⟩ := h.below hb
  exact ⟨a, cap, b, off, h1, fun h => ⟨(h2 h).1, Nat.lt_of_lt_of_le (h2 h).2 hB⟩, h3⟩
def ecs (L : List Evt) : List Value := (L.map evC).flatten
theorem ecs_snoc (L : List Evt) (x : Evt) : ecs (L ++ [x]) = ecs L ++ evC x := by simp [ecs]
theorem cell_nine_new (w : World) (x : Evt) (t : TypeId) : ∀ j u, (evC x)[j]? = some u → (w.alloc (.cells (evC x).toArray t)).cell? ((⟨w.heap.size, 0, none⟩ : Addr).add j) = some u := by
  intro j u hj
  have h := (Ob.Obj.new w t (evC x)).cell j
  rw [hj] at h
  match j, h with
  | 0, h => simpa [Addr.add] using h
  | j + 1, h => simpa [Addr.add] using h
/-- such a row is read as events -/
theorem evs_of_own {W : World} {B : Nat} {te : TypeId} {v : Value} {L : List Evt} (h : W.ownsRow B te 9 v L.length (ecs L)) : Evs W.heap.size W v L := by
  obtain ⟨a, cap, b, rfl, _, _, h3⟩ := Gn.row_at h
  refine ⟨a, cap, b, 0, rfl, fun h => ⟨(h3 h).1, (h3 h).2.2.1⟩, fun j hj k hk => ?_⟩
  obtain ⟨_, _, _, hc⟩ := h3 (by omega)
  have e : 0 + j * 9 + k = j * 9 + k := by omega
  rw [e, hc (j * 9 + k) (by omega)]
  have := Gn.flatten_get (sz := 9) (L.map evC) (fun i hi => by simp [evC]) j (by simpa using hj) k hk
  unfold ecs
  rw [this]
  simp
/-- events that came in -/
structure EvsIn (W : World) (v : Value) (L : List Evt) : Prop where
  evs : Evs W.heap.size W v L
  each : ∀ x ∈ L, EvIn x
  many : L.length ≤ 1048576
theorem evs_of_rd {B : Nat} {W : World} {cs : List Value} {X : List ED} (h : RdC B W (.slice evT) cs X) : ∃ v, cs = [v] ∧ Evs B W v (X.map toE) ∧ ∀ x ∈ X.map toE, EvIn x := by
  obtain ⟨a, cap, b, off, h1, _, _, h2, h3⟩ := h
  refine ⟨_, h1, ⟨a, cap, b, off, by rw [List.length_map]; rfl, fun h => h2 (by rwa [List.length_map] at h), fun j hj m hm => ?_⟩, fun x hx => ?_⟩
  · rw [List.length_map] at hj
    obtain ⟨cs', g1, g2, g3⟩ := h3 j hj
    obtain ⟨rfl, _⟩ := rd_ev g3
    rw [List.getElem_map]
    exact g2 m hm
  · obtain ⟨y, hy, rfl⟩ := List.mem_map.1 hx
    obtain ⟨j, hj, rfl⟩ := List.getElem_of_mem hy
    obtain ⟨cs', g1, g2, g3⟩ := h3 j hj
    exact (rd_ev g3).2
variable {H : Type} {enc : TypeId × Value → H} {W : World}

set_option maxRecDepth 100000 in
theorem open_evs {B : Nat} {v : Value} {d : DataW H} {p : List MemPlace} {base : Nat} (hv : Value.okWide Try.prog W .any base 38 v)
    (h : DataW.Trod enc Try.prog W 0 (fun _ => true) true 38 v d p) (hlt : ∀ x ∈ p, x.block < W.heap.size) (hB : Rows.uptoBulk d ≤ B) (hB2 : B ≤ 1048576 := by omega) :
    ∃ (a : Option Addr) (n cap : Nat) (L : List Evt), v = .slice a n cap ∧ EvsIn W (.slice a n cap) L := by
  obtain ⟨cs, l, rfl, hx, hb⟩ := open_val (.slice evT) (by kernel_rfl) hv h hB
  change List ED at l
  replace hb : (l.map ebulk).sum + 1 ≤ B := hb
  obtain ⟨u, hu, hV, hs⟩ := evs_of_rd (X := l) hx
  have hl := len_sumE ebulk ebulk_pos l
  obtain ⟨a, cap, b, off, e1, e2⟩ := hV
  subst e1
  cases hu
  exact ⟨a, _, cap, _, rfl, ⟨⟨a, cap, b, off, rfl, e2⟩, hs, by rw [List.length_map]; omega⟩⟩

set_option maxRecDepth 100000 in
theorem open_ev {B : Nat} {v : Value} {d : DataW H} {p : List MemPlace} {base : Nat} (hv : Value.okWide Try.prog W .any base 26 v)
    (h : DataW.Trod enc Try.prog W 0 (fun _ => true) true 26 v d p) (hlt : ∀ x ∈ p, x.block < W.heap.size) (_ : 0 ≤ 1) :
    ∃ (x : Evt), v = evV x ∧ EvIn x := by
  obtain ⟨cs, l, rfl, hx, hb⟩ := open_val evT (by kernel_rfl) hv h (Nat.le_refl _)
  obtain ⟨rfl, q⟩ := rd_ev (x := l) hx
  exact ⟨toE l, rfl, q⟩

set_option maxRecDepth 100000 in
theorem open_kinds {B : Nat} {v : Value} {d : DataW H} {p : List MemPlace} {base : Nat} (hv : Value.okWide Try.prog W .any base 47 v)
    (h : DataW.Trod enc Try.prog W 0 (fun _ => true) true 47 v d p) (hlt : ∀ x ∈ p, x.block < W.heap.size) (hB : Rows.uptoBulk d ≤ B) (hB2 : B ≤ 1048576 := by omega) :
    ∃ (a : Option Addr) (n cap : Nat) (l : List Int), v = .slice a n cap ∧ (Fi.Ints W.heap.size W (.slice a n cap) l ∧ (∀ x ∈ l, W64 x) ∧ l.length ≤ 1048576) := by
  obtain ⟨cs, l, rfl, hx, hb⟩ := open_val (.slice (.int .i64)) (by kernel_rfl) hv h hB
  change List Int at l
  replace hb : (l.map fun _ => 1).sum + 1 ≤ B := hb
  have hl := len_sumE (fun _ : Int => 1) (fun _ => Nat.le_refl _) l
  obtain ⟨a, cap, b, off, h1, _, _, h2, h3⟩ := hx
  cases h1
  refine ⟨a, _, cap, l, rfl, ⟨a, cap, b, off, rfl, h2, fun j hj => ?_⟩, fun x hx => ?_, by omega⟩
  · obtain ⟨cs', g1, g2, g3⟩ := h3 j hj
    obtain ⟨rfl, _⟩ := g3
    have := g2 0 (by decide)
    rw [show off + j = off + j * 1 + 0 by omega]
    exact this
  · obtain ⟨j, hj, rfl⟩ := List.getElem_of_mem hx
    obtain ⟨cs', g1, g2, g3⟩ := h3 j hj
    obtain ⟨rfl, w⟩ := g3
    exact w64_lit w
end Ev
end Go.Proofs.Ytojbcdkiilcppaa

/-
  Plain mathematics of P14.3, as the readers go: the head number by number, then the others. No program is named here.
-/
namespace Go.Proofs.Ytojbcdkiilcppaa
set_option linter.unusedVariables false
set_option linter.unusedSimpArgs false
namespace Ev
def stg (l : Dat) : Nat → RS
  | 0 => (0, 0)
  | 1 => (eI l).2
  | 2 => (eT l).2
  | _ => (eK l).2
def vls (l : Dat) : Nat → List Nat
  | 0 => []
  | 1 => [(eI l).1]
  | 2 => [(eI l).1, (eT l).1]
  | _ => [(eI l).1, (eT l).1, (eK l).1]
theorem stg_step (l : Dat) {q : Nat} (hq : q < 3) : rdV l (stg l q) = ((rdV l (stg l q)).1, stg l (q + 1)) ∧ vls l (q + 1) = vls l q ++ [(rdV l (stg l q)).1] := by
  match q, hq with
  | 0, _ => exact ⟨rfl, rfl⟩
  | 1, _ => exact ⟨rfl, rfl⟩
  | 2, _ => exact ⟨rfl, rfl⟩
theorem vls_len (l : Dat) {q : Nat} (hq : q ≤ 3) : (vls l q).length = q := by
  match q, hq with
  | 0, _ => rfl
  | 1, _ => rfl
  | 2, _ => rfl
  | 3, _ => rfl
theorem stg_le (l : Dat) (q : Nat) : (stg l q).1 ≤ l.length := by
  have l1 : (eI l).2.1 ≤ l.length := rdV_rd.le l (0, 0) (Nat.zero_le _)
  have l2 : (eT l).2.1 ≤ l.length := rdV_rd.le l _ l1
  have l3 : (eK l).2.1 ≤ l.length := rdV_rd.le l _ l2
  match q with
  | 0 => exact Nat.zero_le _
  | 1 => exact l1
  | 2 => exact l2
  | _ + 3 => exact l3
theorem dec_headerr {l : Dat} (h : (eK l).2.2 ≠ 0) : dec l = (zero, 0, (eK l).2.2) := by unfold dec; rw [if_pos h]
/-- what is wrong in the head is told -/
theorem stg_err {l : Dat} {q : Nat} (hq : q ≤ 3) (h : (stg l q).2 ≠ 0) : dec l = (zero, 0, (stg l q).2) := by
  have k1 : (eT l).2.2 ≠ 0 → (eK l).2 = (eT l).2 := fun h => rdV_rd.stuck l _ h
  have k2 : (eI l).2.2 ≠ 0 → (eT l).2 = (eI l).2 := fun h => rdV_rd.stuck l _ h
  match q, hq with
  | 0, _ => exact absurd rfl h
  | 1, _ =>
    have h : (eI l).2.2 ≠ 0 := h
    have e2 := k2 h
    have e1 := k1 (by rw [e2]; exact h)
    have := dec_headerr (l := l) (by rw [e1, e2]; exact h)
    rw [e1, e2] at this
    exact this
  | 2, _ =>
    have h : (eT l).2.2 ≠ 0 := h
    have e1 := k1 h
    have := dec_headerr (l := l) (by rw [e1]; exact h)
    rw [e1] at this
    exact this
  | 3, _ => exact dec_headerr h
theorem vl_le (l : Dat) (s : RS) : (rdV l s).1 ≤ 4611686018427387904 := by
  unfold rdV
  split
  · show 0 ≤ _; omega
  · split
    · show 0 ≤ _; omega
    · split
      · show 0 ≤ _; omega
      · show (Cd.takeU _).1 ≤ _; omega
theorem eV_in (l : Dat) : (eI l).1 ≤ 4611686018427387904 ∧ (eT l).1 ≤ 4611686018427387904 ∧ (eK l).1 ≤ 4611686018427387904 := ⟨vl_le l _, vl_le l _, vl_le l _⟩
/-- one number of the head, from what was taken -/
theorem rdV_take {l : Dat} {p n k e : Nat} (h : Cd.takeU (l.drop p) = (n, k, e)) : rdV l (p, 0) = if e ≠ 0 then (0, (p, e)) else if 4611686018427387904 < n then (0, (p, 54)) else (n, (p + k, 0)) := by
  unfold rdV; simp only [ne_eq, not_true_eq_false, if_false]; rw [h]
theorem rdI_take {l : Dat} {p n k e : Nat} (h : Cd.takeU (l.drop p) = (n, k, e)) : rdI l (p, 0) = if e ≠ 0 then (0, (p, e)) else (Cd.unzig n, (p + k, 0)) := by
  unfold rdI; simp only [ne_eq, not_true_eq_false, if_false]; rw [h]
theorem dec_kind {l : Dat} (h : (eK l).2.2 = 0) (hf : fields ((eK l).1 : Int) < 0) : dec l = (zero, 0, 54) := by
  unfold dec; rw [if_neg (by rw [h]; simp), if_pos hf]
theorem dec_numerr {l : Dat} (h : (eK l).2.2 = 0) (hf : ¬ fields ((eK l).1 : Int) < 0) (he : (eN l).2.2 ≠ 0) : dec l = (zero, 0, (eN l).2.2) := by
  unfold dec; rw [if_neg (by rw [h]; simp), if_neg hf, if_pos he]
theorem dec_bad {l : Dat} (h : (eK l).2.2 = 0) (hf : ¬ fields ((eK l).1 : Int) < 0) (he : (eN l).2.2 = 0) (hv : validB (eX l) = false) : dec l = (zero, 0, 54) := by
  unfold dec; rw [if_neg (by rw [h]; simp), if_neg hf, if_neg (by rw [he]; simp), if_neg (by rw [hv]; simp)]
theorem dec_good {l : Dat} (h : (eK l).2.2 = 0) (hf : ¬ fields ((eK l).1 : Int) < 0) (he : (eN l).2.2 = 0) (hv : validB (eX l) = true) : dec l = (eX l, (eN l).2.1, 0) := by
  unfold dec; rw [if_neg (by rw [h]; simp), if_neg hf, if_neg (by rw [he]; simp), if_pos hv]
/-- a number more -/
theorem rdNs_more (l : Dat) {k : Nat} (hk : 0 < k) (V : List Int) (p : Nat) : rdNs l k V (p, 0) = rdNs l (k - 1) (V ++ [(rdI l (p, 0)).1]) (rdI l (p, 0)).2 := by
  obtain ⟨j, rfl⟩ : ∃ j, k = j + 1 := ⟨k - 1, by omega⟩
  rw [rdNs]; simp
theorem rdNs_none (l : Dat) (V : List Int) (s : RS) : rdNs l 0 V s = (V, s) := rfl
theorem rdI_w64 (l : Dat) (s : RS) : W64 (rdI l s).1 := by
  have hz : W64 0 := ⟨by decide, by decide⟩
  unfold rdI
  split
  · exact hz
  · split
    · exact hz
    · have ho := (Cd.takeU_ok (l.drop s.1)).1
      generalize (Cd.takeU (l.drop s.1)).1 = n at *
      show W64 (Cd.unzig n)
      unfold Cd.unzig W64
      split <;> omega
theorem mk_in {i t k : Nat} {V : List Int} (hi : i ≤ 4611686018427387904) (ht : t ≤ 4611686018427387904) (hk : k ≤ 4611686018427387904) (hV : ∀ v ∈ V, W64 v) : EvIn (mk i t k V) := by
  have hg : ∀ j, W64 (V.getD j 0) := fun j => by
    by_cases hj : j < V.length
    · rw [List.getD_eq_getElem?_getD, List.getElem?_eq_getElem hj]; exact hV _ (List.getElem_mem hj)
    · rw [List.getD_eq_getElem?_getD, List.getElem?_eq_none (by omega)]; exact ⟨by decide, by decide⟩
  exact ⟨⟨by show (-9223372036854775808 : Int) ≤ (i : Int); omega, by show (i : Int) ≤ 9223372036854775807; omega⟩, ⟨by show (-9223372036854775808 : Int) ≤ (t : Int); omega, by show (t : Int) ≤ 9223372036854775807; omega⟩, ⟨by show (-9223372036854775808 : Int) ≤ (k : Int); omega, by show (k : Int) ≤ 9223372036854775807; omega⟩, hg 0, hg 1, hg 2, hg 3, hg 4, hg 5⟩
end Ev
end Go.Proofs.Ytojbcdkiilcppaa
