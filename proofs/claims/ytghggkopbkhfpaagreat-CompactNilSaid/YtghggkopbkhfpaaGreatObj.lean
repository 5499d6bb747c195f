/-
  An object in a block of its own: its cells, a store into one, and what keeps it.
-/
import Derived.Test.YtghggkopbkhfpaaGreatSeqLaw
namespace Go.Proofs.YtghggkopbkhfpaaGreat
open Go.RowKit
set_option linter.unusedVariables false
namespace Ob

/-- block b is an object of type t whose cells are cs -/
def Obj (W : World) (b : Nat) (t : TypeId) (cs : List Value) : Prop := W.heap[b]? = some (.cells cs.toArray t (0, 0))

theorem Obj.lt {W : World} {b : Nat} {t : TypeId} {cs : List Value} (h : Obj W b t cs) : b < W.heap.size := (Array.getElem?_eq_some_iff.1 h).1
theorem Obj.cell {W : World} {b : Nat} {t : TypeId} {cs : List Value} (h : Obj W b t cs) (j : Nat) : W.cell? ⟨b, j, none⟩ = cs[j]? := by simp [World.cell?, show W.heap[b]? = _ from h]
theorem Obj.frozen {W : World} {b : Nat} {t : TypeId} {cs : List Value} (h : Obj W b t cs) (j : Nat) : W.frozen? ⟨b, j, none⟩ = false := by simp [World.frozen?, show W.heap[b]? = _ from h]
theorem Obj.new (W : World) (t : TypeId) (cs : List Value) : Obj (W.alloc (.cells cs.toArray t)) W.heap.size t cs := World.alloc_heap_new W _
theorem Obj.alloc {W : World} {b : Nat} {t : TypeId} {cs : List Value} (h : Obj W b t cs) (o : Go.Obj) : Obj (W.alloc o) b t cs := (Below.heap_alloc W o b h.lt).trans h
theorem Obj.set {W : World} {b : Nat} {t : TypeId} {cs : List Value} (h : Obj W b t cs) (j : Nat) (v : Value) : Obj (W.setCell ⟨b, j, none⟩ v) b t (cs.set j v) := by
  obtain ⟨hlt, hk⟩ := Array.getElem?_eq_some_iff.1 h
  show (W.heap.modify b _)[b]? = _
  rw [Array.getElem?_eq_getElem (by rw [Array.size_modify]; exact hlt), Array.getElem_modify_self, hk]
  simp
theorem Obj.other {W : World} {b : Nat} {t : TypeId} {cs : List Value} (h : Obj W b t cs) {p : Addr} (hp : b ≠ p.block) (v : Value) : Obj (W.setCell p v) b t cs := (Below.heap_setCell W p v b hp).trans h
theorem Obj.kept {T : Sq.Blocks} {W W' : World} {b : Nat} {t : TypeId} {cs : List Value} (h : Obj W b t cs) (hk : Sq.Kept T W W') (hT : T b) : Obj W' b t cs := (hk.block b hT h.lt).trans h
theorem Obj.below {W W' : World} {b : Nat} {t : TypeId} {cs : List Value} (h : Obj W b t cs) (hk : Below W.heap.size W W') : Obj W' b t cs := (hk.block b h.lt).trans h
theorem Obj.grown {W W' : World} {row : Option Nat} {b : Nat} {t : TypeId} {cs : List Value} (h : Obj W b t cs) (hg : W.grownBy W' row) (hr : row ≠ some b) : Obj W' b t cs := (hg.block b h.lt (Ne.symm hr)).trans h
theorem Obj.drew {W : World} {b : Nat} {t : TypeId} {cs : List Value} (h : Obj W b t cs) : Obj W.drew b t cs := h
/-- an object is no row of another type -/
theorem Obj.not_row {W : World} {b : Nat} {t e : TypeId} {cs : List Value} (h : Obj W b t cs) (hte : t ≠ e) {base size m : Nat} {v : Value} {xs : List Value} (hr : W.ownsRow base e size v m xs) : v.ownBlock ≠ some b := by
  rcases hr.2 with ⟨rfl, _⟩ | ⟨g, cap, cur, rfl, _, hgb, _⟩
  · simp [Value.ownBlock]
  · intro e'
    obtain rfl : g = b := by simpa [Value.ownBlock] using e'
    have := (show W.heap[g]? = _ from h).symm.trans hgb
    simp at this
    exact hte this.2
/-- two rows of different types are not one -/
theorem rows_apart {W : World} {b1 b2 : Nat} {t e : TypeId} {n1 n2 m1 m2 : Nat} {u v : Value} {xs ys : List Value} (h1 : W.ownsRow b1 t n1 u m1 xs) (h2 : W.ownsRow b2 e n2 v m2 ys) (hte : t ≠ e) : ∀ g, u.ownBlock = some g → v.ownBlock ≠ some g := by
  intro g hu hv
  rcases h1.2 with ⟨rfl, _⟩ | ⟨g1, cap1, cur1, rfl, _, hg1, _⟩
  · simp [Value.ownBlock] at hu
  · rcases h2.2 with ⟨rfl, _⟩ | ⟨g2, cap2, cur2, rfl, _, hg2, _⟩
    · simp [Value.ownBlock] at hv
    · obtain rfl : g1 = g := by simpa [Value.ownBlock] using hu
      obtain rfl : g2 = g1 := by simpa [Value.ownBlock] using hv
      rw [hg1] at hg2
      simp at hg2
      exact hte hg2.2
/-- a row lies on while another block is written -/
theorem row_other {W : World} {base size m : Nat} {e : TypeId} {v : Value} {xs : List Value} (h : W.ownsRow base e size v m xs) {p : Addr} (hp : v.ownBlock ≠ some p.block) (u : Value) : (W.setCell p u).ownsRow base e size v m xs := by
  rcases h with ⟨h0, h1 | ⟨g, cap, cur, h1, h2, h3, h4⟩⟩
  · exact ⟨h0, .inl h1⟩
  · exact ⟨h0, .inr ⟨g, cap, cur, h1, h2, (Below.heap_setCell W p u g (fun e => hp (by rw [h1, ← e]; rfl))).trans h3, h4⟩⟩
theorem row_lt {W : World} {base size m : Nat} {e : TypeId} {v : Value} {xs : List Value} (h : W.ownsRow base e size v m xs) {g : Nat} (hg : v.ownBlock = some g) : base ≤ g ∧ g < W.heap.size := by
  rcases h.2 with ⟨h1, _⟩ | ⟨g', cap', cur, h1, h2, h3, _⟩
  · rw [h1] at hg; simp [Value.ownBlock] at hg
  · rw [h1] at hg
    obtain rfl : g' = g := by simpa [Value.ownBlock] using hg
    exact ⟨h2, (Array.getElem?_eq_some_iff.1 h3).1⟩
end Ob
end Go.Proofs.YtghggkopbkhfpaaGreat
