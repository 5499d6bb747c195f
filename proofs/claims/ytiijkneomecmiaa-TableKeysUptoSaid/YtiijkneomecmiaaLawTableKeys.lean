/-
  TableKeys (tapestrylaw08): for every input of bulk at most 1048576 the law answers true, and each argument reads behind the call as it read before. Conditions: none of ours; the bound on the bulk is the statement’s own.
-/
import Derived.Test.YtiijkneomecmiaaRows
import Derived.WalkKit
import Derived.ProofKit
import Derived.OpenShut
import Derived.ShutString
import Derived.ChangeOld
import Derived.Below
import Derived.SizedLaws
import Derived.JoinedCond
import Derived.Deep.CondSized
import Derived.Lib.SmallJoins
import Derived.Lib.Strings
import Derived.Test.YtiijkneomecmiaaPart7
namespace Go.Proofs.Ytiijkneomecmiaa.lawTableKeys
open Go.ChangeShapes Go.WideShapes Go.ChangeAt Go.RowKit Go.Joins
open Go.ChangeMaps (open_string shut_string)
set_option linter.unusedVariables false

theorem own : ownKnob Try.prog.godebug = none := by kernel_rfl

set_option maxRecDepth 100000 in
theorem lifted (os : Os) (started : os.Started) (H : Type) (enc : TypeId × Value → H) (F : Stop.Interp) :
    ReturnsInHanded {} Try.checked os 3 .any ((Rows.OpenSpec.upto Rows.tableKeysSpec).pre6 enc Try.prog Try.f3 Rows.tableKeysUptoRow.domain false) (((Rows.OpenSpec.upto Rows.tableKeysSpec).at F).post enc Try.prog Try.f3 false true false false) := by
  refine returnsInHanded_of_cond (C := Try.checked) (s := Rows.OpenSpec.upto Rows.tableKeysSpec) (k := Rows.uptoSmall) rfl own started (by kernel_rfl) Try.func3
    (OpenSpec.witness (enc := enc) (C := Try.checked) (s := Rows.OpenSpec.upto Rows.tableKeysSpec) (k := Rows.uptoSmall) rfl false ⟨#[], #[.agg #[.string ByteArray.empty, .int .u64 0, .bool false, .string ByteArray.empty], .agg #[.string ByteArray.empty, .int .u64 0, .bool false, .string ByteArray.empty], .string ByteArray.empty], []⟩ 8 (by kernel_rfl) (by kernel_rfl) (by kernel_rfl)
      (x := ([.agg [.lit (.string []), .lit (.int .u64 0), .lit (.bool false), .lit (.string [])], .agg [.lit (.string []), .lit (.int .u64 0), .lit (.bool false), .lit (.string [])], .lit (.string [])], [], [])) (by kernel_rfl) rfl (by kernel_rfl)) ?_
  intro W base args ds gs before hval0 hW hcnd hk _
  have hval : ∀ (j : Nat) t v, Try.f3.params[j]? = some t → args[j]? = some v → Value.okWide Try.prog W .any base t v := hval0
  have hW' := hW
  obtain ⟨p, q, hA0, hV, rfl, hfz, hnd⟩ := hW
  have hA : DataW.TrodAll enc Try.prog W 0 (fun _ => true) true Try.f3.params.toList args.toList ds p := hA0
  rw [Try.params3] at hA hval
  obtain ⟨v0, vs0, d0, ds0, p0, q0, hargs, rfl, rfl, h0, r0⟩ := trodAll_cons hA
  obtain ⟨v1, vs1, d1, ds1, p1, q1, rfl, rfl, rfl, h1, r1⟩ := trodAll_cons r0
  obtain ⟨v2, vs2, d2, ds2, p2, q2, rfl, rfl, rfl, h2, r2⟩ := trodAll_cons r1
  obtain ⟨rfl, rfl, rfl⟩ := trodAll_nil r2
  obtain rfl : args = #[v0, v1, v2] := by cases args; simp_all
  obtain ⟨rfl, rfl⟩ := trodVars_none hV
  obtain ⟨c0_0, c0_1, c0_2, c0_3, y0_0, y0_1, y0_2, y0_3, m0, rfl, rfl, rfl, hy0_0, hy0_1, hy0_2, hy0_3⟩ := open_agg4 Try.underlying24 (by kernel_rfl) (by kernel_rfl) (hval 0 24 v0 rfl rfl) h0
  obtain ⟨a0_0, e0_0, rfl, w0_0⟩ := DataW.trod_string Try.underlying9 hy0_0
  simp only [List.cons.injEq, and_true] at e0_0; subst e0_0
  obtain ⟨a0_1, e0_1, rfl, w0_1⟩ := DataW.trod_int Try.underlying22 hy0_1
  simp only [List.cons.injEq, and_true] at e0_1; subst e0_1
  obtain ⟨a0_2, e0_2, rfl⟩ := DataW.trod_bool Try.underlying4 hy0_2
  simp only [List.cons.injEq, and_true] at e0_2; subst e0_2
  obtain ⟨a0_3, e0_3, rfl, w0_3⟩ := DataW.trod_string Try.underlying9 hy0_3
  simp only [List.cons.injEq, and_true] at e0_3; subst e0_3
  obtain ⟨c1_0, c1_1, c1_2, c1_3, y1_0, y1_1, y1_2, y1_3, m1, rfl, rfl, rfl, hy1_0, hy1_1, hy1_2, hy1_3⟩ := open_agg4 Try.underlying24 (by kernel_rfl) (by kernel_rfl) (hval 1 24 v1 rfl rfl) h1
  obtain ⟨a1_0, e1_0, rfl, w1_0⟩ := DataW.trod_string Try.underlying9 hy1_0
  simp only [List.cons.injEq, and_true] at e1_0; subst e1_0
  obtain ⟨a1_1, e1_1, rfl, w1_1⟩ := DataW.trod_int Try.underlying22 hy1_1
  simp only [List.cons.injEq, and_true] at e1_1; subst e1_1
  obtain ⟨a1_2, e1_2, rfl⟩ := DataW.trod_bool Try.underlying4 hy1_2
  simp only [List.cons.injEq, and_true] at e1_2; subst e1_2
  obtain ⟨a1_3, e1_3, rfl, w1_3⟩ := DataW.trod_string Try.underlying9 hy1_3
  simp only [List.cons.injEq, and_true] at e1_3; subst e1_3
  obtain ⟨a2, rfl, rfl, rfl, w2⟩ := open_string Try.underlying9 (hval 2 9 v2 rfl rfl) h2
  clear hA0 hval0
  have hB := of_decide_eq_true hk
  simp only [List.append_nil, Rows.uptoBulkAll, Rows.uptoBulk] at hB
  have z0_0 : a0_0.size ≤ 1048576 := by rw [Lib.size_eq]; omega
  have b0_1 : 0 ≤ a0_1 ∧ a0_1 ≤ 18446744073709551615 := by simpa [Lit.wf, IntKind.min, IntKind.max, IntKind.signed, IntKind.bits] using w0_1
  have z0_3 : a0_3.size ≤ 1048576 := by rw [Lib.size_eq]; omega
  have sh0 : ∀ (W' : World) (sp : Nat → Bool), DataW.Trod enc Try.prog W' 0 sp true 24 (.agg #[.string a0_0, .int .u64 a0_1, .bool a0_2, .string a0_3]) (.agg [.lit (.string a0_0.data.toList), .lit (.int .u64 a0_1), .lit (.bool a0_2), .lit (.string a0_3.data.toList)]) [] := fun W' sp =>
    shut_agg4 (y0 := (.lit (.string a0_0.data.toList), [])) (y1 := (.lit (.int .u64 a0_1), [])) (y2 := (.lit (.bool a0_2), [])) (y3 := (.lit (.string a0_3.data.toList), [])) Try.underlying24 (by kernel_rfl) (by kernel_rfl) ⟨1, by simp [DataW.trod, Try.underlying9, w0_0]⟩ ⟨1, by simp [DataW.trod, Try.underlying22, w0_1]⟩ ⟨1, by simp [DataW.trod, Try.underlying4]⟩ ⟨1, by simp [DataW.trod, Try.underlying9, w0_3]⟩
  have z1_0 : a1_0.size ≤ 1048576 := by rw [Lib.size_eq]; omega
  have b1_1 : 0 ≤ a1_1 ∧ a1_1 ≤ 18446744073709551615 := by simpa [Lit.wf, IntKind.min, IntKind.max, IntKind.signed, IntKind.bits] using w1_1
  have z1_3 : a1_3.size ≤ 1048576 := by rw [Lib.size_eq]; omega
  have sh1 : ∀ (W' : World) (sp : Nat → Bool), DataW.Trod enc Try.prog W' 0 sp true 24 (.agg #[.string a1_0, .int .u64 a1_1, .bool a1_2, .string a1_3]) (.agg [.lit (.string a1_0.data.toList), .lit (.int .u64 a1_1), .lit (.bool a1_2), .lit (.string a1_3.data.toList)]) [] := fun W' sp =>
    shut_agg4 (y0 := (.lit (.string a1_0.data.toList), [])) (y1 := (.lit (.int .u64 a1_1), [])) (y2 := (.lit (.bool a1_2), [])) (y3 := (.lit (.string a1_3.data.toList), [])) Try.underlying24 (by kernel_rfl) (by kernel_rfl) ⟨1, by simp [DataW.trod, Try.underlying9, w1_0]⟩ ⟨1, by simp [DataW.trod, Try.underlying22, w1_1]⟩ ⟨1, by simp [DataW.trod, Try.underlying4]⟩ ⟨1, by simp [DataW.trod, Try.underlying9, w1_3]⟩
  have z2 : a2.size ≤ 1048576 := by rw [Lib.size_eq]; omega
  simp only [List.append_nil] at hW'
  refine (Tb.tableKeys_law a0_0 a0_1 a0_2 a0_3 a1_0 a1_1 a1_2 a1_3 a2 W z0_0 b0_1.1 b0_1.2 z0_3 z1_0 b1_1.1 b1_1.2 z1_3 z2).mono fun e W' ⟨he, bel⟩ => ?_
  subst he
  exact ⟨_, rfl, _, _, _, [], _, [], hW', trodAll_mk1 (shut_bool Try.underlying4 _), (trodAll_cons_mk (sh0 _ _) (trodAll_cons_mk (sh1 _ _) (trodAll_cons_mk (shut_string Try.underlying9 w2) trodAll_mk0))), rfl, bel.frame _, fun h => by cases h⟩

theorem over : Rows.tableKeysUptoRow.holds Try.pinned (Rows.OpenSpec.upto Rows.tableKeysSpec) :=
  OpenClaim.holds_of_cond 3 Try.f3 rfl rfl rfl rfl rfl rfl rfl ⟨rfl, rfl, rfl, rfl, rfl⟩ rfl rfl rfl rfl rfl (by kernel_rfl) Try.func3 (by kernel_rfl)
    (of_decide_eq_true (by kernel_rfl)) (by unfold Func.isWrapper; first | (rw [if_pos (by decide +kernel)]; kernel_rfl) | (rw [if_neg (by decide +kernel)]; exact ⟨rfl, rfl⟩))
    (fun os started H enc _ F => lifted os started H enc F)

theorem proved : Rows.TableKeysUptoSaid := over
#print axioms proved
end Go.Proofs.Ytiijkneomecmiaa.lawTableKeys
