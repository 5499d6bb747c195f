/-
  What the program's disk owes, whatever it is made of; the two disks side by side.
-/
import Derived.Test.YtdidcopfkjnkdaaBlockRefF
namespace Go.Proofs.Ytdidcopfkjnkdaa
open Go.RowKit
set_option linter.unusedSimpArgs false
set_option linter.unusedVariables false

/-- bounds on what is counted -/
structure Bnd (σ : Bl.St) : Prop where
  ok : Bl.Ok σ
  wait : σ.wait.length ≤ 1073741824
  acts : σ.acts < 4611686018427387904
  epochs : σ.epochs < 4611686018427387904

/-- WHAT THE PROGRAM's DISK OWES. DevAt B0 b S σ W: at block b lies a disk that stands as σ, in the blocks of S, from B0 on. -/
structure DevOk (DevAt : Nat → Nat → Sq.Blocks → Bl.St → World → Prop) : Prop where
  kept : ∀ {B0 b S σ W W'}, DevAt B0 b S σ W → Sq.Kept S W W' → DevAt B0 b S σ W'
  lo : ∀ {B0 b S σ W}, DevAt B0 b S σ W → ∀ k, S k → B0 ≤ k ∧ k < W.heap.size
  new : ∀ (n : Nat) W, 40 ≤ n → n ≤ 16384 → Calls Try.prog 8 #[.int .i64 (n : Int)] W fun e w' => ∃ b S, e = .returned (.tuple #[.pointer (some ⟨b, 0, none⟩), .int .i64 0]) ∧ DevAt W.heap.size b S (Bl.new n) w' ∧ Below W.heap.size W w'
  newBad : ∀ (n : Int) W, -9223372036854775808 ≤ n → n ≤ 9223372036854775807 → (n < 40 ∨ 16384 < n) → Calls Try.prog 8 #[.int .i64 n] W fun e w' => e = .returned (.tuple #[.pointer none, .int .i64 1]) ∧ Below W.heap.size W w'
  read : ∀ {B0 b S σ W}, DevAt B0 b S σ W → Bnd σ → ∀ i : Int, -9223372036854775808 ≤ i ∧ i ≤ 9223372036854775807 → Calls Try.prog 14 #[.pointer (some ⟨b, 0, none⟩), .int .i64 i] W fun e w' =>
    e = .returned (.tuple #[.string (Cd.bs (Bl.read σ i).1), .int .i64 ((Bl.read σ i).2 : Int)]) ∧ ∃ S', DevAt B0 b S' σ w' ∧ Sq.Step S S' W w'
  write : ∀ {B0 b S σ W}, DevAt B0 b S σ W → Bnd σ → ∀ (i : Int) (s : Bl.Dat), -9223372036854775808 ≤ i ∧ i ≤ 9223372036854775807 → s.length ≤ 1048576 → Calls Try.prog 16 #[.pointer (some ⟨b, 0, none⟩), .int .i64 i, .string (Cd.bs s)] W fun e w' =>
    e = .returned (.int .i64 ((Bl.write σ i s).2 : Int)) ∧ ∃ S', DevAt B0 b S' (Bl.write σ i s).1 w' ∧ Sq.Step S S' W w'
  sync : ∀ {B0 b S σ W}, DevAt B0 b S σ W → Bnd σ → Calls Try.prog 18 #[.pointer (some ⟨b, 0, none⟩)] W fun e w' =>
    e = .returned (.int .i64 ((Bl.sync σ).2 : Int)) ∧ ∃ S', DevAt B0 b S' (Bl.sync σ).1 w' ∧ Sq.Step S S' W w'
  arm : ∀ {B0 b S σ W}, DevAt B0 b S σ W → Bnd σ → ∀ n : Int, -9223372036854775808 ≤ n ∧ n ≤ 9223372036854775807 → Calls Try.prog 22 #[.pointer (some ⟨b, 0, none⟩), .int .i64 n] W fun e w' =>
    (∃ v, e = .returned v) ∧ ∃ S', DevAt B0 b S' (Bl.arm σ n) w' ∧ Sq.Step S S' W w'
  crash : ∀ {B0 b S σ W}, DevAt B0 b S σ W → Bnd σ → ∀ (kv : Value) (keep : List Bool) (torn bytes : Int), BoolRow S W kv keep → keep.length ≤ 1073741824 → -9223372036854775808 ≤ torn ∧ torn ≤ 9223372036854775807 → -9223372036854775808 ≤ bytes ∧ bytes ≤ 9223372036854775807 →
    Calls Try.prog 12 #[.pointer (some ⟨b, 0, none⟩), kv, .int .i64 torn, .int .i64 bytes] W fun e w' =>
    (∃ v, e = .returned v) ∧ ∃ S', DevAt B0 b S' (Bl.crash σ keep torn bytes) w' ∧ Sq.Step S S' W w'
  up : ∀ {B0 b S σ W}, DevAt B0 b S σ W → Bnd σ → Calls Try.prog 20 #[.pointer (some ⟨b, 0, none⟩)] W fun e w' => e = .returned (.bool (!σ.down)) ∧ ∃ S', DevAt B0 b S' σ w' ∧ Sq.Step S S' W w'
  blocks : ∀ {B0 b S σ W}, DevAt B0 b S σ W → Bnd σ → Calls Try.prog 24 #[.pointer (some ⟨b, 0, none⟩)] W fun e w' => e = .returned (.int .i64 (σ.safe.length : Int)) ∧ ∃ S', DevAt B0 b S' σ w' ∧ Sq.Step S S' W w'
  acts : ∀ {B0 b S σ W}, DevAt B0 b S σ W → Bnd σ → Calls Try.prog 23 #[.pointer (some ⟨b, 0, none⟩)] W fun e w' => e = .returned (.int .i64 (σ.acts : Int)) ∧ ∃ S', DevAt B0 b S' σ w' ∧ Sq.Step S S' W w'
  epoch : ∀ {B0 b S σ W}, DevAt B0 b S σ W → Bnd σ → Calls Try.prog 25 #[.pointer (some ⟨b, 0, none⟩)] W fun e w' => e = .returned (.int .i64 (σ.epochs : Int)) ∧ ∃ S', DevAt B0 b S' σ w' ∧ Sq.Step S S' W w'
  pending : ∀ {B0 b S σ W}, DevAt B0 b S σ W → Bnd σ → Calls Try.prog 21 #[.pointer (some ⟨b, 0, none⟩)] W fun e w' => ∃ v S', e = .returned v ∧ DevAt B0 b S' σ w' ∧ Sq.Step S S' W w' ∧
    w'.ownsRow W.heap.size 3 1 v (σ.wait.map (·.1)).length (iCells (σ.wait.map (·.1))) ∧ ∀ g, v.ownBlock = some g → ¬ S' g

/-- THE TWO DISKS, side by side -/
structure Two (DevAt : Nat → Nat → Sq.Blocks → Bl.St → World → Prop) (B0 bd br : Nat) (Sd Sr : Sq.Blocks) (σd σr : Bl.St) (W : World) : Prop where
  dev : DevAt B0 bd Sd σd W
  ref : RefAt B0 br Sr σr W
  apart : ∀ k, Sd k → ¬ Sr k
  base : B0 ≤ W.heap.size

theorem RefAt.lo {B0 b : Nat} {S : Sq.Blocks} {σ : Bl.St} {W : World} (h : RefAt B0 b S σ W) : ∀ k, S k → B0 ≤ k ∧ k < W.heap.size := by
  obtain ⟨sv, wv, h⟩ := h; exact h.lo
variable {DevAt : Nat → Nat → Sq.Blocks → Bl.St → World → Prop}
theorem Two.stepD (D : DevOk DevAt) {B0 bd br : Nat} {Sd Sr Sd' : Sq.Blocks} {σd σr σd' : Bl.St} {W W' : World} (h : Two DevAt B0 bd br Sd Sr σd σr W) (hd : DevAt B0 bd Sd' σd' W') (st : Sq.Step Sd Sd' W W') :
    Two DevAt B0 bd br Sd' Sr σd' σr W' ∧ Below B0 W W' :=
  ⟨⟨hd, h.ref.kept (st.kept.less fun k hk _ hs => h.apart k hs hk), fun k hk hr => (st.new k hk).elim (fun hs => h.apart k hs hr) (fun hl => by have := (h.ref.lo k hr).2; omega), Nat.le_trans h.base st.kept.size⟩,
    st.kept.below (fun k hk hs => by have := (D.lo h.dev k hs).1; omega) h.base⟩
theorem Two.stepR (D : DevOk DevAt) {B0 bd br : Nat} {Sd Sr Sr' : Sq.Blocks} {σd σr σr' : Bl.St} {W W' : World} (h : Two DevAt B0 bd br Sd Sr σd σr W) (hr : RefAt B0 br Sr' σr' W') (st : Sq.Step Sr Sr' W W') :
    Two DevAt B0 bd br Sd Sr' σd σr' W' ∧ Below B0 W W' :=
  ⟨⟨D.kept h.dev (st.kept.less fun k hk _ hs => h.apart k hk hs), hr, fun k hk hs => (st.new k hs).elim (fun hs => h.apart k hk hs) (fun hl => by have := (D.lo h.dev k hk).2; omega), Nat.le_trans h.base st.kept.size⟩,
    st.kept.below (fun k hk hs => by have := (h.ref.lo k hs).1; omega) h.base⟩
theorem Two.kept (D : DevOk DevAt) {B0 bd br : Nat} {Sd Sr : Sq.Blocks} {σd σr : Bl.St} {W W' : World} (h : Two DevAt B0 bd br Sd Sr σd σr W) (hk : Sq.Kept (fun k => Sd k ∨ Sr k) W W') : Two DevAt B0 bd br Sd Sr σd σr W' :=
  ⟨D.kept h.dev (hk.less fun _ h _ => .inl h), h.ref.kept (hk.less fun _ h _ => .inr h), h.apart, Nat.le_trans h.base hk.size⟩
theorem Two.below (D : DevOk DevAt) {B0 bd br : Nat} {Sd Sr : Sq.Blocks} {σd σr : Bl.St} {W W' : World} (h : Two DevAt B0 bd br Sd Sr σd σr W) (hb : Below W.heap.size W W') : Two DevAt B0 bd br Sd Sr σd σr W' := h.kept D (Sq.Kept.of_below hb)

end Go.Proofs.Ytdidcopfkjnkdaa
