/-
  A call that could start goroutines and starts none: at its return nobody else is there, so whoever is there is only leaving.
-/
import Derived.Test.YtghggkopbkhfpaaGreatProg
import Derived.JoinedCond
namespace Go.Proofs.YtghggkopbkhfpaaGreat

namespace Lv
theorem alone_leaves {P : Program} {last : Machine} {w : World} {t : Trace} (h : aloneAtReturn P last w t) : leavingAtReturn P last w t := by
  obtain ⟨⟨h1, h2⟩, h3, h4⟩ := h
  refine ⟨h3, ⟨fun g hg => ⟨0, ?_⟩, h2⟩, h4⟩
  unfold Machine.othersDone at h1
  have := List.all_eq_true.1 h1 g hg
  simpa [Goroutine.LeavesIn] using this
theorem open_leaves {a : Assume} {st : Option Stop.Interp} {C : Checked} {os : Os} {f : FuncId} {r : Reach} {okInput : Program → World → Reach → Nat → FuncId → Input → Prop} {Pre : World → Array Value → Prop} {Post : World → Array Value → Value → World → Prop} {always : Machine → Prop}
    (h : ReturnsInOpen a st C os f r okInput Pre Post (aloneAtReturn C.prog) always) : ReturnsInOpen a st C os f r okInput Pre Post (leavingAtReturn C.prog) always := by
  obtain ⟨h1, h2, h3, h4, h5⟩ := h
  refine ⟨h1, h2, h3, h4, fun w tape i hf => ?_⟩
  obtain ⟨n, v, w', k1, k2, k3, k4, ⟨j, last, e1, e2, e3⟩, k5⟩ := h5 w tape i hf
  exact ⟨n, v, w', k1, k2, k3, k4, ⟨j, last, e1, e2, alone_leaves e3⟩, k5⟩
/-- THE ROW THAT SAYS 'leaving', from the one that says that nobody else is there. -/
theorem leaving {p : Pinned} {s : OpenSpec} (c : OpenClaim) (hst : c.start = .entering) (hss : c.stops = []) (hl : c.leaving = true) (hwf : c.wf s = true) (h : OpenClaim.holds p s { c with leaving := false }) : c.holds p s := by
  obtain ⟨_, h2, h3, h4, h5, h6, h7, h8, f, fn, k1, k2, k3, k4, k5, k6, k7, k8, k9, k10, k11, k12, k13, k14, k15, k16, k17, k18, k19, k20, k21, L, hL, hform⟩ := h
  refine ⟨hwf, h2, h3, h4, h5, h6, h7, h8, f, fn, k1, k2, k3, k4, k5, k6, k7, k8, k9, k10, k11, k12, k13, k14, k15, k16, k17, k18, k19, k20, k21, L, hL, fun os hw hq H enc inj => ?_⟩
  have hf := hform os hw hq H enc inj
  unfold OpenClaim.form at hf ⊢
  simp only [hst, hss] at hf ⊢
  intro F
  have hg := hf F
  have e1 : c.atReturn p.checked.prog = leavingAtReturn p.checked.prog := by unfold OpenClaim.atReturn; rw [hl]
  rw [e1]
  exact open_leaves hg
end Lv
end Go.Proofs.YtghggkopbkhfpaaGreat
