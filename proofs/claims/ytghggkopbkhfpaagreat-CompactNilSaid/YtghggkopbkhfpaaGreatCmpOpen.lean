/-
  Configurations that came in, opened.
-/
import Derived.Test.YtghggkopbkhfpaaGreatCmpCfg
import Derived.Test.YtghggkopbkhfpaaGreatGen
import Derived.Test.YtghggkopbkhfpaaGreatLeaving
import Derived.Test.YtghggkopbkhfpaaGreatDumpLaid
namespace Go.Proofs.YtghggkopbkhfpaaGreat
open Go.RowKit
set_option linter.unusedVariables false
namespace Cp
open Gn
theorem i64c {n : Int} (h : (Lit.int .i64 n).wf = true) : -9223372036854775808 ≤ n ∧ n ≤ 9223372036854775807 := by simpa [Lit.wf, IntKind.min, IntKind.max, IntKind.signed, IntKind.bits] using h
abbrev cfgT : Ty := .struct (.cons (.int .i64) (.cons (.int .i64) (.cons (.int .i64) (.cons (.int .i64) (.cons (.int .i64) (.cons (.int .i64) (.cons (.int .i64) (.cons (.int .u64) .nil))))))))
/-- numbers that come into sums -/
structure CfgIn (c : Cfg) : Prop where
  f0 : -9223372036854775808 ≤ c.files
  f1 : c.files ≤ 9223372036854775807
  b0 : -9223372036854775808 ≤ c.base
  b1 : c.base ≤ 9223372036854775807

variable {H : Type} {enc : TypeId × Value → H} {W : World}
set_option maxRecDepth 100000 in
theorem open_cfg {B : Nat} {v : Value} {d : DataW H} {p : List MemPlace} {base : Nat} (hv : Value.okWide Tryz.prog W .any base 24 v)
    (h : DataW.Trod enc Tryz.prog W 0 (fun _ => true) true 24 v d p) (hlt : ∀ x ∈ p, x.block < W.heap.size) (_ : 0 ≤ 1) :
    ∃ c : Cfg, v = cfgV c ∧ CfgIn c := by
  obtain ⟨cs, x, rfl, hx, _⟩ := open_val cfgT (by kernel_rfl) hv h (Nat.le_refl _)
  obtain ⟨x0, x1, x2, x3, x4, x5, x6, x7, uu⟩ := x
  obtain ⟨c1, d1, rfl, _, ⟨rfl, w1⟩, c2, d2, rfl, _, ⟨rfl, w2⟩, c3, d3, rfl, _, ⟨rfl, w3⟩, c4, d4, rfl, _, ⟨rfl, w4⟩, c5, d5, rfl, _, ⟨rfl, w5⟩, c6, d6, rfl, _, ⟨rfl, w6⟩, c7, d7, rfl, _, ⟨rfl, w7⟩, c8, d8, rfl, _, ⟨rfl, w8⟩, rfl⟩ := hx
  obtain ⟨q1, q2⟩ := i64c w5
  obtain ⟨q3, q4⟩ := i64c w6
  exact ⟨⟨x0, x1, x2, x3, x4, x5, x6, x7⟩, rfl, ⟨q1, q2, q3, q4⟩⟩
end Cp
end Go.Proofs.YtghggkopbkhfpaaGreat
