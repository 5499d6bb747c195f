/-
  MemtableSame: two tables of the program's side by side; the row of what was put.
-/
import Derived.Test.YtgfpkbdinfdkfaaMemLink
import Derived.Test.YtgfpkbdinfdkfaaMemActs
import Derived.Test.YtgfpkbdinfdkfaaMemOneB
namespace Go.Proofs.Ytgfpkbdinfdkfaa
open Go.RowKit
set_option linter.unusedSimpArgs false
set_option linter.unusedVariables false
theorem info_Act6 : (Try.prog.info? 35).map (fun i => (i.zero, i.size, i.bytes)) = some (some (.agg #[.int .i64 0, .int .i64 0, .string ⟨#[]⟩, .int .u64 0, .bool false, .string ⟨#[]⟩]), 6, 64) := by kernel_rfl
namespace Md
open Op (bytesLess)
open Mt (Ver VerIn VerW verV lessB mayB placeB Tab vers put there putAll Fresh turned)
open Ma (Act6 ActsIn6)
/-- two tables of the program's -/
structure TwoD (B0 ta tb : Nat) (na nb : List Nd) (W : World) : Prop where
  a : TabAt B0 ta na W
  b : TabAt B0 tb nb W
  apart : ∀ k, Foot ta na k → ¬ Foot tb nb k
  base : B0 ≤ W.heap.size
theorem TwoD.kept {B0 ta tb : Nat} {na nb : List Nd} {W W' : World} (h : TwoD B0 ta tb na nb W) (hk : Sq.Kept (fun _ => True) W W') : TwoD B0 ta tb na nb W' :=
  ⟨h.a.kept (hk.less fun _ _ _ => trivial), h.b.kept (hk.less fun _ _ _ => trivial), h.apart, Nat.le_trans h.base hk.size⟩
theorem TwoD.below {B0 ta tb : Nat} {na nb : List Nd} {W W' : World} (h : TwoD B0 ta tb na nb W) (hb : Below W.heap.size W W') : TwoD B0 ta tb na nb W' := h.kept (Sq.Kept.of_below hb)
theorem TwoD.stepA {B0 ta tb : Nat} {na nb na' : List Nd} {W W' : World} (h : TwoD B0 ta tb na nb W) (hd : TabAt B0 ta na' W') (st : Sq.Step (Foot ta na) (Foot ta na') W W') : TwoD B0 ta tb na' nb W' ∧ Below B0 W W' :=
  ⟨⟨hd, h.b.kept (st.kept.less fun k hk _ hs => h.apart k hs hk), fun k hk hb => (st.new k hk).elim (fun hs => h.apart k hs hb) (fun hl => by have := (h.b.foot k hb).2; omega), Nat.le_trans h.base st.kept.size⟩,
    st.kept.below (fun k hk hs => by have := (h.a.foot k hs).1; omega) h.base⟩
theorem TwoD.turn {B0 ta tb : Nat} {na nb : List Nd} {W : World} (h : TwoD B0 ta tb na nb W) : TwoD B0 tb ta nb na W := ⟨h.b, h.a, fun k hb ha => h.apart k ha hb, h.base⟩
def acC (x : Act6) : List Value := [.int .i64 x.kd, .int .i64 x.n, .string (Cd.bs x.v.key), .int .u64 x.v.seq, .bool x.v.del, .string (Cd.bs x.v.val)]
def acs (L : List Act6) : List Value := (L.map acC).flatten
theorem acs_snoc (L : List Act6) (x : Act6) : acs (L ++ [x]) = acs L ++ acC x := by simp [acs]
theorem cell_six_new (w : World) (a b c d e f : Value) (t : TypeId) : ∀ j u, [a, b, c, d, e, f][j]? = some u → (w.alloc (.cells #[a, b, c, d, e, f] t)).cell? ((⟨w.heap.size, 0, none⟩ : Addr).add j) = some u := by
  intro j u hj
  match j, hj with
  | 0, hj => simp at hj; subst hj; simp [Addr.add]
  | 1, hj => simp at hj; subst hj; simp [Addr.add]
  | 2, hj => simp at hj; subst hj; simp [Addr.add]
  | 3, hj => simp at hj; subst hj; simp [Addr.add]
  | 4, hj => simp at hj; subst hj; simp [Addr.add]
  | 5, hj => simp at hj; subst hj; simp [Addr.add]
  | (j + 6), hj => simp at hj
/-- the cells of what was put -/
theorem acs_cells {w : World} {base g n cap : Nat} {L : List Act6} (h : w.ownsRow base 35 6 (.slice (some ⟨g, 0, none⟩) n cap) n (acs L)) (hn : n = L.length) (j : Nat) (hj : j < L.length) :
    w.cell? ⟨g, j * 6 + 1, none⟩ = some (.int .i64 L[j].n) ∧ w.cell? ⟨g, j * 6 + 2, none⟩ = some (.string (Cd.bs L[j].v.key)) ∧ w.cell? ⟨g, j * 6 + 3, none⟩ = some (.int .u64 L[j].v.seq) ∧ w.cell? ⟨g, j * 6 + 4, none⟩ = some (.bool L[j].v.del) ∧ w.cell? ⟨g, j * 6 + 5, none⟩ = some (.string (Cd.bs L[j].v.val)) := by
  subst hn
  have hg : ∀ k, k < 6 → w.cell? ⟨g, j * 6 + k, none⟩ = (acC L[j])[k]? := fun k hk => by
    rw [h.cellAt (j * 6 + k) (by omega)]
    have := Gn.flatten_get (sz := 6) (L.map acC) (fun i hi => by simp [acC]) j (by simpa using hj) k hk
    unfold acs
    rw [this]
    simp
  exact ⟨hg 1 (by decide), hg 2 (by decide), hg 3 (by decide), hg 4 (by decide), hg 5 (by decide)⟩
def pairs (P : List Act6) : List (Ver × Nat) := P.map fun x => (x.v, x.n.toNat)
/-- what may be put -/
structure PutOk (x : Act6) : Prop where
  v : VerIn x.v
  may : mayB x.v = true
  n : 1 ≤ x.n ∧ x.n ≤ 8
/-- what stands while the first table is filled -/
structure SameInv (B0 ta tb : Nat) (na : List Nd) (P : List Act6) (u : Value) (W : World) : Prop where
  two : TwoD B0 ta tb na [] W
  row : W.ownsRow B0 35 6 u P.length (acs P)
  out : ∀ g, u.ownBlock = some g → ¬ Foot ta na g ∧ ¬ Foot tb [] g
  tab : tabOf na = putAll [] (pairs P)
  fresh : Fresh [] (pairs P)
  ok : ∀ x ∈ P, PutOk x
theorem SameInv.kept {B0 ta tb : Nat} {na : List Nd} {P : List Act6} {u : Value} {W W' : World} (h : SameInv B0 ta tb na P u W) (hk : Sq.Kept (fun _ => True) W W') : SameInv B0 ta tb na P u W' :=
  ⟨h.two.kept hk, Sq.row_kept h.row hk (fun _ _ => trivial), h.out, h.tab, h.fresh, h.ok⟩
theorem SameInv.below {B0 ta tb : Nat} {na : List Nd} {P : List Act6} {u : Value} {W W' : World} (h : SameInv B0 ta tb na P u W) (hb : Below W.heap.size W W') : SameInv B0 ta tb na P u W' := h.kept (Sq.Kept.of_below hb)
theorem pairs_snoc (P : List Act6) (x : Act6) : pairs (P ++ [x]) = pairs P ++ [(x.v, x.n.toNat)] := by simp [pairs]
/-- one more is put, and written down -/
theorem SameInv.added {B0 ta tb nb g cap : Nat} {na : List Nd} {P : List Act6} {u : Value} {x : Act6} {W W1 W2 W3 W4 : World} (h : SameInv B0 ta tb na P u W) (hx : PutOk x) (hth : thereN na x.v = false)
    (hd : TabAt B0 ta (preOf na x.v ++ ⟨nb, x.v, x.n.toNat, na.length⟩ :: postOf na x.v) W1) (st : Sq.Step (Foot ta na) (Foot ta (preOf na x.v ++ ⟨nb, x.v, x.n.toNat, na.length⟩ :: postOf na x.v)) W W1)
    (h2 : Sq.Kept (fun _ => True) W1 W2) (h3 : Sq.Kept (fun _ => True) W2 W3) (hs3 : W3.heap.size = W2.heap.size + 1) (hown : W4.ownsRow B0 35 6 (.slice (some ⟨g, 0, none⟩) (P.length + 1) cap) (P.length + 1) (acs P ++ acC x)) (hgr : W3.grownBy W4 u.ownBlock) (hat : u.ownBlock = some g ∨ g = W2.heap.size + 1) :
    SameInv B0 ta tb (preOf na x.v ++ ⟨nb, x.v, x.n.toNat, na.length⟩ :: postOf na x.v) (P ++ [x]) (.slice (some ⟨g, 0, none⟩) (P.length + 1) cap) W4 ∧ Below B0 W W4 := by
  obtain ⟨t1, b1⟩ := h.two.stepA hd st
  have t3 := (t1.kept h2).kept h3
  have hb3 : B0 ≤ W3.heap.size := t3.base
  have uout : ∀ r, u.ownBlock = some r → ¬ Foot ta (preOf na x.v ++ ⟨nb, x.v, x.n.toNat, na.length⟩ :: postOf na x.v) r ∧ ¬ Foot tb [] r := fun r hr => by
    refine ⟨fun hf => ?_, (h.out r hr).2⟩
    rcases st.new r hf with h5 | h5
    · exact (h.out r hr).1 h5
    · have := (Ob.row_lt h.row hr).2; omega
  have ulo : ∀ r, u.ownBlock = some r → B0 ≤ r := fun r hr => (Ob.row_lt h.row hr).1
  refine ⟨⟨⟨t3.a.kept (Sq.Kept.grown hgr (fun r hr hf => (uout r hr).1 hf)), t3.b.kept (Sq.Kept.grown hgr (fun r hr hf => (uout r hr).2 hf)), t3.apart, Nat.le_trans t3.base hgr.size⟩, ?_, ?_, ?_, ?_, ?_⟩, ?_⟩
  · rw [acs_snoc, List.length_append, List.length_singleton]; exact hown
  · intro g' hg'
    obtain rfl : g = g' := by simpa [Value.ownBlock] using hg'
    rcases hat with h5 | h5
    · exact uout g h5
    · have hs1 := h2.size
      exact ⟨fun hf => by have := (t1.a.foot g hf).2; omega, fun hf => by have := (t1.b.foot g hf).2; omega⟩
  · rw [tab_put, pairs_snoc, Mt.putAll_snoc, h.tab]
  · rw [pairs_snoc]
    refine Mt.fresh_snoc h.fresh ?_
    rw [← h.tab, tab_there]
    exact hth
  · intro y hy
    rw [List.mem_append, List.mem_singleton] at hy
    rcases hy with hy | rfl
    · exact h.ok y hy
    · exact hx
  · exact ((b1.trans (h2.below (B := B0) (fun _ _ => trivial) t1.base)).trans (h3.below (B := B0) (fun _ _ => trivial) (t1.kept h2).base)).grown hgr hb3 ulo
end Md
end Go.Proofs.Ytgfpkbdinfdkfaa
