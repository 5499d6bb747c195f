/-
  Rows of versions that the call itself has made: appended to, read.
-/
import Derived.Test.YtgfpkbdinfdkfaaVers
import Derived.Test.YtgfpkbdinfdkfaaOwn
import Derived.Test.YtgfpkbdinfdkfaaCodecClone
namespace Go.Proofs.Ytgfpkbdinfdkfaa
open Go.RowKit
set_option linter.unusedVariables false

theorem info_Version : (Try.prog.info? 33).map (fun i => (i.zero, i.size, i.bytes)) = some (some (.agg #[.string ⟨#[]⟩, .int .u64 0, .bool false, .string ⟨#[]⟩]), 4, 48) := by kernel_rfl
namespace Vs
open Mt (Ver VerIn verV)
theorem cell_four_new (w : World) (a b c d : Value) (t : TypeId) : ∀ j u, [a, b, c, d][j]? = some u → (w.alloc (.cells #[a, b, c, d] t)).cell? ((⟨w.heap.size, 0, none⟩ : Addr).add j) = some u := by
  intro j u hj
  match j, hj with
  | 0, hj => simp at hj; subst hj; simp [Addr.add]
  | 1, hj => simp at hj; subst hj; simp [Addr.add]
  | 2, hj => simp at hj; subst hj; simp [Addr.add]
  | 3, hj => simp at hj; subst hj; simp [Addr.add]
  | (j + 4), hj => simp at hj
def vC (x : Ver) : List Value := [.string (Cd.bs x.key), .int .u64 x.seq, .bool x.del, .string (Cd.bs x.val)]
def vcs (L : List Ver) : List Value := (L.map vC).flatten
theorem vcs_snoc (L : List Ver) (x : Ver) : vcs (L ++ [x]) = vcs L ++ [.string (Cd.bs x.key), .int .u64 x.seq, .bool x.del, .string (Cd.bs x.val)] := by simp [vcs, vC]
/-- such a row is read as versions -/
theorem vers_of_own {W : World} {B : Nat} {te : TypeId} {v : Value} {L : List Ver} (h : W.ownsRow B te 4 v L.length (vcs L)) : Vers W.heap.size W v L := by
  obtain ⟨a, cap, b, rfl, _, _, h3⟩ := Gn.row_at h
  refine ⟨a, cap, b, 0, rfl, fun h => ⟨(h3 h).1, (h3 h).2.2.1⟩, fun j hj => ?_⟩
  obtain ⟨_, _, _, hc⟩ := h3 (by omega)
  have hg : ∀ k, k < 4 → W.cell? ⟨b, j * 4 + k, none⟩ = (vC L[j])[k]? := fun k hk => by
    rw [hc (j * 4 + k) (by omega)]
    have := Gn.flatten_get (sz := 4) (L.map vC) (fun i hi => by simp [vC]) j (by simpa using hj) k hk
    unfold vcs
    rw [this]
    simp
  have e : 0 + j * 4 = j * 4 := by omega
  rw [e]
  exact ⟨hg 0 (by decide), hg 1 (by decide), hg 2 (by decide), hg 3 (by decide)⟩
end Vs
end Go.Proofs.Ytgfpkbdinfdkfaa
