import Derived.Test.YtikpjaibfjcgnaaCodecBehind
import Derived.Test.YtikpjaibfjcgnaaCodecOrder
import Derived.WalkLawsBesides
namespace Go.Proofs.Ytikpjaibfjcgnaa
open Go.RowKit
set_option linter.unusedSimpArgs false
set_option linter.unusedVariables false

set_option maxRecDepth 100000 in
set_option maxHeartbeats 1000000 in
theorem codecBehind_walk (s t : ByteArray) (w : World) (hs : s.size ≤ 140737488351232) (ht : t.size ≤ 140737488351232) :
    Calls Try.prog 7 #[.string s, .string t] w fun e w' => e = .returned (.bool true) ∧ Below w.heap.size w w' := by
  have hms : s.size ≤ maxLen := by unfold maxLen; omega
  have hmt : t.size ≤ maxLen := by unfold maxLen; omega
  obtain ⟨n, hn⟩ : ∃ n, n = Cd.common s.data.toList t.data.toList := ⟨_, rfl⟩
  obtain ⟨b, hb⟩ : ∃ b, b = Cd.behind s.data.toList := ⟨_, rfl⟩
  have c1 := fun W => commonc_any s t W hms hmt
  have c2 := fun W => commonr_any s t W hms hmt
  have c3 := fun W => behindc_any s W hs
  rw [← hn] at c1 c2
  rw [← hb] at c3
  have C1 := Lib.hid c1
  have C2 := Lib.hid c2
  have C3 := Lib.hid c3
  have HN := Lib.hid hn
  have HB := Lib.hid hb
  clear hn hb c1 c2 c3
  go_enter Try.func7, Try.ntmps7
  go_wp2_with (first
    | (go_at_call 33; refine (C1.out _).mono ?_; rintro e w1 ⟨rfl, hb1⟩)
    | (go_at_call 32; refine (C2.out _).mono ?_; rintro e w2 ⟨rfl, hb2⟩)
    | (go_at_call 13; refine (C3.out _).mono ?_; rintro e w3 ⟨rfl, hb3⟩)
    | (go_at_call 34; refine (below_any s _ hms).mono ?_; rintro e w4 ⟨rfl, rfl⟩))
  all_goals have hW : Below w.heap.size w w3 := (hb1.trans (hb2.mono hb1.size)).trans (hb3.mono (Nat.le_trans hb1.size hb2.size))
  all_goals clear hb1 hb2 hb3 C1 C2 C3
  · go_ret
    exact ⟨rfl, hW⟩
  · go_ret
    exact ⟨rfl, hW⟩
  · have hbe : b.isEmpty = true := by assumption
    have hl := Cd.behind_none s.data.toList (by rw [← HB.out]; simpa using hbe)
    go_ret
    exact ⟨by simp [hl], hW⟩
  · have hbe : b.isEmpty = false := by assumption
    have hnb : ((n : Int) == (s.size : Int)) = true := by assumption
    have hf := Cd.behind_fits s.data.toList t.data.toList (by rw [← HB.out]; simpa using hbe)
    rw [← HB.out] at hf
    have := hf.1 (by rw [← HN.out, ← Lib.size_eq]; simp at hnb; omega)
    rw [← Lib.toList_data] at this
    go_ret
    exact ⟨by simpa using this, hW⟩
  · have hbe : b.isEmpty = false := by assumption
    have hnb : ((n : Int) == (s.size : Int)) = false := by assumption
    have hg : (!Op.bytesLess t.toList s.toList) = true ∧ (!t.toList == s.toList) = true := by assumption
    have hf := Cd.behind_fits s.data.toList t.data.toList (by rw [← HB.out]; simpa using hbe)
    rw [← HB.out] at hf
    have := (hf.2 (by rw [← HN.out, ← Lib.size_eq]; simp at hnb; omega)).1 (by
      unfold Cd.gt; rw [← Lib.toList_data, ← Lib.toList_data, hg.1, hg.2]; rfl)
    rw [← Lib.toList_data] at this
    go_ret
    exact ⟨by simpa using this, hW⟩
  · have hbe : b.isEmpty = false := by assumption
    have hnb : ((n : Int) == (s.size : Int)) = false := by assumption
    have hg : (!Op.bytesLess t.toList s.toList) = false ∨ (!t.toList == s.toList) = false := by assumption
    have hf := Cd.behind_fits s.data.toList t.data.toList (by rw [← HB.out]; simpa using hbe)
    rw [← HB.out] at hf
    have := (hf.2 (by rw [← HN.out, ← Lib.size_eq]; simp at hnb; omega)).2 (by
      unfold Cd.gt; rw [← Lib.toList_data, ← Lib.toList_data]; rcases hg with h | h <;> rw [h] <;> simp)
    rw [← Lib.toList_data] at this
    go_ret
    exact ⟨by simpa using this, hW⟩
end Go.Proofs.Ytikpjaibfjcgnaa
