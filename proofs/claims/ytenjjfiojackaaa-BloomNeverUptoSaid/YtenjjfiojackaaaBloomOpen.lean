/-
  Chapter 7: a slice of texts that came in, opened; the walks in the frames' form.
-/
import Derived.Test.YtenjjfiojackaaaBloomBuildLaw
import Derived.Test.YtenjjfiojackaaaGen
namespace Go.Proofs.Ytenjjfiojackaaa
open Go.RowKit
set_option linter.unusedVariables false
namespace Bm
open Gn
/-- keys that came in -/
structure KeysIn (W : World) (a : Option Addr) (cap : Nat) (L : List (List UInt8)) : Prop where
  strs : Strs W.heap.size W (.slice a L.length cap) L
  cap : L.length ≤ cap
  many : L.length ≤ 1048576
  each : ∀ x ∈ L, x.length ≤ 1048576
abbrev keysT : Ty := .slice .str
theorem keys_small {L : List (List UInt8)} {b : Nat} (h : (L.map fun x => x.length + 1).sum + 1 ≤ b) : L.length ≤ b ∧ ∀ x ∈ L, x.length ≤ b := by
  have key : ∀ L : List (List UInt8), L.length ≤ (L.map fun x => x.length + 1).sum ∧ ∀ x ∈ L, x.length ≤ (L.map fun x => x.length + 1).sum := by
    intro L
    induction L with
    | nil => exact ⟨by simp, fun x hx => (by cases hx)⟩
    | cons y r ih =>
      rw [List.map_cons, List.sum_cons, List.length_cons]
      refine ⟨by have := ih.1; omega, fun x hx => ?_⟩
      rcases List.mem_cons.1 hx with rfl | hx
      · omega
      · have := ih.2 x hx; omega
  obtain ⟨k1, k2⟩ := key L
  exact ⟨by omega, fun x hx => by have := k2 x hx; omega⟩
variable {H : Type} {enc : TypeId × Value → H} {W : World}
set_option maxRecDepth 100000 in
theorem open_strs {B : Nat} {v : Value} {d : DataW H} {p : List MemPlace} {base : Nat} (hv : Value.okWide Try.prog W .any base 22 v)
    (h : DataW.Trod enc Try.prog W 0 (fun _ => true) true 22 v d p) (hlt : ∀ x ∈ p, x.block < W.heap.size) (hB : Rows.uptoBulk d ≤ B) (hB2 : B ≤ 1048576 := by omega) :
    ∃ (a : Option Addr) (cap : Nat) (L : List (List UInt8)), v = .slice a L.length cap ∧ KeysIn W a cap L := by
  obtain ⟨cs, x, rfl, hx, hb⟩ := open_val keysT (by kernel_rfl) hv h hB
  change List (List UInt8) at x
  obtain ⟨a, cap, b, off, rfl, hc, _, ha, hcells⟩ := hx
  have hb2 : (x.map fun y => y.length + 1).sum + 1 ≤ B := hb
  obtain ⟨k1, k2⟩ := keys_small hb2
  refine ⟨a, cap, x, rfl, ⟨⟨a, cap, b, off, rfl, ha, fun j hj => ?_⟩, hc, by omega, fun y hy => by have := k2 y hy; omega⟩⟩
  obtain ⟨cs', hl, hk, hr, _⟩ := hcells j hj
  have := hk 0 (by decide)
  rw [hr] at this
  have e : off + j * Ty.size .str + 0 = off + j := by simp [Ty.size]
  rw [e] at this
  exact this

theorem bloomBuilds_of (BB : BuildOk) (HH : HashOk) (b : Int) (a : Option Addr) (cap : Nat) (L : List (List UInt8)) (key : ByteArray) (w : World) (hb0 : -9223372036854775808 ≤ b) (hb1 : b ≤ 9223372036854775807) (hK : KeysIn w a cap L) (hz : key.size ≤ 1048576) :
    Calls Try.prog 3 #[.int .i64 b, .slice a L.length cap, .string key] w fun e w' => e = .returned (.bool true) ∧ Below w.heap.size w w' :=
  bloomBuilds_walk BB HH a cap b L key w hK.strs hb0 hb1 hK.many hK.each hz

theorem bloomNever_of (BB : BuildOk) (HH : HasOk) (VV : ValidOk) (LL : LoadOk) (b : Int) (a : Option Addr) (cap : Nat) (L : List (List UInt8)) (w : World) (hb0 : -9223372036854775808 ≤ b) (hb1 : b ≤ 9223372036854775807) (hK : KeysIn w a cap L) :
    Calls Try.prog 5 #[.int .i64 b, .slice a L.length cap] w fun e w' => e = .returned (.bool true) ∧ Below w.heap.size w w' :=
  bloomNever_walk BB HH VV LL _ b L w hK.strs hb0 hb1 hK.many hK.each

theorem bloomUnion_of (BB : BuildOk) (b : Int) (a : Option Addr) (cap : Nat) (L : List (List UInt8)) (more : Int) (w : World) (hb0 : -9223372036854775808 ≤ b) (hb1 : b ≤ 9223372036854775807) (hK : KeysIn w a cap L) (hm0 : -9223372036854775808 ≤ more) (hm1 : more ≤ 9223372036854775807) :
    Calls Try.prog 6 #[.int .i64 b, .slice a L.length cap, .int .i64 more] w fun e w' => e = .returned (.bool true) ∧ Below w.heap.size w w' :=
  bloomUnion_walk BB a cap b L more w hK.cap hK.strs hb0 hb1 hK.many hK.each hm0 hm1
end Bm
end Go.Proofs.Ytenjjfiojackaaa
