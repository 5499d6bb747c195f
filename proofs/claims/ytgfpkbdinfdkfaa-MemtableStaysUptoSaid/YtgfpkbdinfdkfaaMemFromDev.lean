/-
  The program's memtable: From, as an iterator over a table that may grow meanwhile.
-/
import Derived.Test.YtgfpkbdinfdkfaaMemReadDev
import Derived.Test.YtgfpkbdinfdkfaaSeqHeld
import Derived.Shelf.Abstract
import Derived.Shelf.RegionOpen
import Derived.OwnWalkIn
import Derived.TacticsInMore
import Derived.LoopNIn
import Derived.LoopIn
import Derived.Sort.LoopGhostIn
namespace Go.Proofs.Ytgfpkbdinfdkfaa
open Go.RowKit Go.Shelf
set_option linter.unusedSimpArgs false
set_option linter.unusedVariables false
namespace Md
open Op (bytesLess)
open Mt (Ver VerIn VerW verV lessB mayB)

attribute [local go_sem] Oper.semAt_some

set_option maxRecDepth 100000 in
set_option maxHeartbeats 2000000 in
/-- From: a function over a box of the table and a box of the key -/
theorem from_any (tv : Option Addr) (key : List UInt8) (w : World) (hk : key.length ≤ 140737488351232) :
    Calls Try.prog 22 #[.pointer tv, .string (Cd.bs key)] w fun e w' =>
      e = .returned (.func (.func 37) #[] #[.pointer (some ⟨w.heap.size, 0, none⟩), .pointer (some ⟨w.heap.size + 1, 0, none⟩)]) ∧
      Boxed w' w.heap.size 23 (.pointer tv) ∧ Boxed w' (w.heap.size + 1) 9 (.string (Cd.bs key)) ∧ Below w.heap.size w w' := by
  have hsz : (Cd.bs key).size = key.length := rfl
  have C1 := Lib.hid (fun W => clone_any (Cd.bs key) W (by rw [hsz]; omega))
  clear hsz
  have hB0 : Below w.heap.size w ((w.alloc (.cells #[.pointer tv] 23)).alloc (.cells #[.string (Cd.bs key)] 9)) := ((Below.refl _ _).alloc (Nat.le_refl _) _).alloc (by simp) _
  have b0 : Boxed ((w.alloc (.cells #[.pointer tv] 23)).alloc (.cells #[.string (Cd.bs key)] 9)) w.heap.size 23 (.pointer tv) := (Boxed.new w _ _).alloc _
  have b1 : Boxed ((w.alloc (.cells #[.pointer tv] 23)).alloc (.cells #[.string (Cd.bs key)] 9)) (w.heap.size + 1) 9 (.string (Cd.bs key)) := by
    have := Boxed.new (w.alloc (.cells #[.pointer tv] 23)) 9 (.string (Cd.bs key)); rwa [World.size_alloc] at this
  go_enter Try.func22, Try.ntmps22
  go_wp2_with (go_at_call 36; (with_reducible refine (C1.out _).mono ?_); rintro e w1 ⟨rfl, hb1⟩; have hB1 := hB0.trans (hb1.mono hB0.size); have d0 := (Sq.Kept.of_below (T := fun _ => True) hb1).boxed trivial b0; have d1 := (Sq.Kept.of_below (T := fun _ => True) hb1).boxed trivial b1; have hc := d1.cell; have hf := d1.frozen; have hlt := d1.lt)
  go_ret
  exact ⟨rfl, d0.other (by simp) _, d1.set _, hB1.setCell (by simp) _⟩
/-- the table has grown -/
def Grown (ns0 ns : List Nd) : Prop := ns.filter (fun x => decide (x.r < ns0.length)) = ns0
theorem Grown.refl {ns : List Nd} (h : ∀ x ∈ ns, x.r < ns.length) : Grown ns ns := List.filter_eq_self.2 fun x hx => by simpa using h x hx
/-- such a table stands -/
def Held (B0 tb : Nat) (ns0 : List Nd) (R : Sq.Blocks) (W : World) : Prop := ∃ ns, TabAt B0 tb ns W ∧ Grown ns0 ns ∧ (∀ k, Foot tb ns k → ¬ R k) ∧ ns.length ≤ 1099511627776
theorem Held.less {B0 tb : Nat} {ns0 : List Nd} {R R' : Sq.Blocks} {W : World} (h : ∀ k, R k → R' k) (H : Held B0 tb ns0 R' W) : Held B0 tb ns0 R W := by
  obtain ⟨ns, h1, h2, h3, h4⟩ := H
  exact ⟨ns, h1, h2, fun k hk hr => h3 k hk (h k hr), h4⟩
abbrev vEnc (x : Ver) : Array Value := #[.agg #[.string (Cd.bs x.key), .int .u64 x.seq, .bool x.del, .string (Cd.bs x.val)]]

set_option maxRecDepth 100000 in
set_option maxHeartbeats 2000000 in
theorem from1_nil (Held : Sq.Blocks → World → Prop) (n : Nat) (hn : 1 ≤ n) (Bt Bk : Nat) (w : World) (hB : Boxed w Bt 23 (.pointer none)) :
    Sq.SeqH Held Fence.wide n Try.prog 37 #[.pointer (some ⟨Bt, 0, none⟩), .pointer (some ⟨Bk, 0, none⟩)] vEnc (fun k => k = Bt ∨ k = Bk) (fun ys => ys = []) (fun _ => False) w := by
  intro lp J Jx W hW hJ hJx hH hY h0
  have hBW := hW.boxed trivial hB
  have hc := hBW.cell
  refine callsIn_of_wp Try.func37 rfl trivial ?_ rfl
  simp only [Try.ntmps37, List.size_toArray, List.length_cons, List.length_nil, Nat.reduceAdd, Nat.reduceSub, Array.replicate_succ, Array.replicate_zero, List.push_toArray, List.append_toArray, List.nil_append, List.cons_append]
  gi_wp2_with fail
  refine bodyPost_ret (results_none rfl _ _ _) rfl ?_
  exact ⟨⟨_, rfl⟩, _, h0⟩
end Md
end Go.Proofs.Ytgfpkbdinfdkfaa
