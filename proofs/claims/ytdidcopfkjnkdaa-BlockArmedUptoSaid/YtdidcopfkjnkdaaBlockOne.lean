/-
  one: an act, done by both disks.
-/
import Derived.Test.YtdidcopfkjnkdaaBlockAlike
namespace Go.Proofs.Ytdidcopfkjnkdaa
open Go.RowKit
set_option linter.unusedSimpArgs false
set_option linter.unusedVariables false

namespace Bl
structure Near (σ σ' : St) : Prop where
  ok : Ok σ'
  safe : σ'.safe.length = σ.safe.length
  wait : σ'.wait.length ≤ σ.wait.length + 1
  acts : σ'.acts ≤ σ.acts + 1
  epochs : σ'.epochs ≤ σ.epochs + 1
theorem Near.refl {σ : St} (h : Ok σ) : Near σ σ := ⟨h, rfl, by omega, by omega, by omega⟩
theorem Near.write {σ : St} (h : Ok σ) (i : Int) (s : Dat) : Near σ (Bl.write σ i s).1 := by
  refine ⟨h.write i s, ?_, ?_, ?_, ?_⟩ <;> unfold Bl.write <;> split <;> (try split) <;> simp only [act_safe] <;> simp
theorem Near.sync {σ : St} (h : Ok σ) : Near σ (Bl.sync σ).1 := by
  refine ⟨h.sync, ?_, ?_, ?_, ?_⟩ <;> unfold Bl.sync <;> split <;> (try split) <;> simp only [act_safe, setAll_len] <;> simp
theorem Near.arm {σ : St} (h : Ok σ) {n : Int} (hn : n ≤ 9223372036854775807) : Near σ (Bl.arm σ n) := ⟨h.arm hn, rfl, by simp [Bl.arm], by simp [Bl.arm], by simp [Bl.arm]⟩
theorem Near.crash {σ : St} (h : Ok σ) (keep : List Bool) (torn bytes : Int) : Near σ (Bl.crash σ keep torn bytes) := by
  have := keepGo_ok (keep := keep) (torn := torn) (clip_le bytes) σ.wait 0 σ.safe h.full h.inW
  exact ⟨h.crash keep torn bytes, by simp only [Bl.crash, this.1], by simp [Bl.crash], by simp [Bl.crash], by simp [Bl.crash]⟩
end Bl

theorem BoolRow.less {S S' : Sq.Blocks} {W : World} {v : Value} {l : List Bool} (h : BoolRow S W v l) (hs : ∀ k, S' k → S k) : BoolRow S' W v l := by
  obtain ⟨a, cap, b, off, hv, ha, hc⟩ := h
  exact ⟨a, cap, b, off, hv, fun h0 => ⟨(ha h0).1, fun hn => (ha h0).2 (hs _ hn)⟩, hc⟩

variable {DevAt : Nat → Nat → Sq.Blocks → Bl.St → World → Prop}
/-- what one act leaves -/
def OneOut (DevAt : Nat → Nat → Sq.Blocks → Bl.St → World → Prop) (B0 bd br : Nat) (σ : Bl.St) (W : World) (e : Ending) (w' : World) : Prop :=
  e = .returned (.bool true) ∧ ∃ Sd' Sr' σ', Two DevAt B0 bd br Sd' Sr' σ' σ' w' ∧ Below B0 W w' ∧ Bl.Near σ σ'

abbrev actV (kind i n : Int) (kv : Value) : Value := .agg #[.int .i64 kind, .int .i64 i, .int .i64 n, kv]

/-- the box of the act: its cells stay -/
structure Box4c (w : World) (b : Nat) (v0 v1 v2 v3 : Value) (B : Nat) : Prop where
  lt : b < w.heap.size
  c0 : w.cell? ⟨b, 0, none⟩ = some v0
  c1 : w.cell? ⟨b, 1, none⟩ = some v1
  c2 : w.cell? ⟨b, 2, none⟩ = some v2
  c3 : w.cell? ⟨b, 3, none⟩ = some v3
theorem Box4c.new (w : World) (v0 v1 v2 v3 : Value) (T : TypeId) (B : Nat) : Box4c (w.alloc (.cells #[v0, v1, v2, v3] T)) w.heap.size v0 v1 v2 v3 B := ⟨by simp, by go_simp, by go_simp, by go_simp, by go_simp⟩
theorem Box4c.kept {w w' : World} {b : Nat} {v0 v1 v2 v3 : Value} {B : Nat} {T : Sq.Blocks} (h : Box4c w b v0 v1 v2 v3 B) (hk : Sq.Kept T w w') (hT : T b) : Box4c w' b v0 v1 v2 v3 B :=
  ⟨Nat.lt_of_lt_of_le h.lt hk.size, hk.cell hT h.c0, hk.cell hT h.c1, hk.cell hT h.c2, hk.cell hT h.c3⟩

set_option maxRecDepth 100000 in
set_option maxHeartbeats 4000000 in
theorem one_0 (D : DevOk DevAt) {B0 bd br : Nat} {Sd Sr : Sq.Blocks} {σ : Bl.St} {W : World} (h : Two DevAt B0 bd br Sd Sr σ σ W) (hn : Bnd σ) (i n : Int) (hi : -9223372036854775808 ≤ i ∧ i ≤ 9223372036854775807) (hm : -9223372036854775808 ≤ n ∧ n ≤ 9223372036854775807) (a : Option Addr) (len cap : Nat) :
    Calls Try.prog 11 #[.pointer (some ⟨bd, 0, none⟩), .pointer (some ⟨br, 0, none⟩), actV 0 i n (.slice a len cap)] W (OneOut DevAt B0 bd br σ W) := by
  have hF := Lib.hid fun W => filled_any n 256 W hm.1 hm.2 (by omega)
  have hB0 := h.base
  go_enter Try.func11, Try.ntmps11
  have T0 := h.kept D (Sq.Kept.alloc _ _ (.cells #[.int .i64 0, .int .i64 i, .int .i64 n, .slice a len cap] 33))
  have bx0 := Box4c.new W (.int .i64 0) (.int .i64 i) (.int .i64 n) (.slice a len cap) 33 B0
  have hd0 : ¬ Sd W.heap.size := fun hs => by have := (D.lo h.dev _ hs).2; omega
  have hr0 : ¬ Sr W.heap.size := fun hs => by have := (h.ref.lo _ hs).2; omega
  go_wp2_with (first
    | (go_at_call 17; refine (hF.out _).mono ?_; rintro e w1 ⟨rfl, b1⟩; have T1 := T0.below D b1; have bx1 := bx0.kept (Sq.Kept.of_below (T := fun _ => True) b1) trivial; have e1 := bx1.c1)
    | (go_at_call 16; refine (D.write T1.dev hn i (fillD n 256) hi (by rw [fillD_len]; omega)).mono ?_; rintro e w2 ⟨rfl, S2, hd2, st2⟩; obtain ⟨T2, B2⟩ := T1.stepD D hd2 st2; have bx2 := bx1.kept st2.kept hd0; have e2 := bx2.c1)
    | (go_at_call 28; refine (refWrite_any T2.ref i hi (fillD n 256) (by rw [fillD_len]; omega) hn.wait hn.ok.blocks hn.acts hn.ok.armed).mono ?_; rintro e w3 ⟨rfl, S3, hr3, st3⟩; obtain ⟨T3, B3⟩ := T2.stepR D hr3 st3))
  go_ret
  exact ⟨by simp, S2, S3, _, T3, (((((Below.refl B0 W).alloc hB0 _).trans (b1.mono T0.base)).trans B2).trans B3), Bl.Near.write hn.ok i _⟩
end Go.Proofs.Ytdidcopfkjnkdaa
