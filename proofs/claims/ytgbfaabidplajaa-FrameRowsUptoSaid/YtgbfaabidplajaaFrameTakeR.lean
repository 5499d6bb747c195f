import Derived.Test.YtgbfaabidplajaaFramePutR
namespace Go.Proofs.Ytgbfaabidplajaa
open Go.RowKit
set_option linter.unusedSimpArgs false
set_option linter.unusedVariables false

/-- a frame's answer as Go hands it back -/
abbrev frameV (r : (UInt8 × List UInt8) × Nat × Nat) : Value := .tuple #[.agg #[.int .u8 (r.1.1.toNat : Int), .string (Cd.bs r.1.2)], .int .i64 r.2.1, .int .i64 r.2.2]

set_option maxRecDepth 100000 in
set_option maxHeartbeats 1000000 in
theorem frameTaker_any (l : List UInt8) (w : World) (hs : l.length ≤ 140737488351232) :
    Calls Try.prog 14 #[.string (Cd.bs l)] w fun e w' => e = .returned (frameV (Fr.take l)) ∧ Below w.heap.size w w' := by
  by_cases h5 : l.length < 5
  · rw [Fr.take_few h5]
    go_enter Try.func14, Try.ntmps14
    go_wp2_with fail
    exact bodyPost_ret (v := frameV ((0, []), 0, 2)) (by simp [results, Try.results14, go_sem]) rfl ⟨rfl, by repeat (first | exact Below.refl _ _ | (refine Below.setCell ?_ ?_ _) | (refine Below.alloc ?_ ?_ _) | exact Nat.le_refl _ | (focus (simp; done)))⟩
  · have h5' : 5 ≤ l.length := by omega
    have hg : l.getD 4 0 = (Cd.bs l)[4]'(by show 4 < l.length; omega) := by rw [List.getD_eq_getElem?_getD, List.getElem?_eq_getElem (by omega)]; rfl
    obtain ⟨c, hc⟩ : ∃ c, c = l.getD 4 0 := ⟨_, rfl⟩
    have hidx : ((Cd.bs l)[4]'(by show 4 < l.length; omega)) = c := by rw [hc, hg]
    by_cases h0 : c.toNat = 0
    · have hb : ((c.toNat : Int) == 0) = true := by simp [h0]
      rw [Fr.take_zero h5' (by rw [← hc]; exact h0)]
      clear hg hc
      go_enter Try.func14, Try.ntmps14
      go_wp2_with fail
      exact bodyPost_ret (v := frameV ((0, []), 0, 3)) (by simp [results, Try.results14, go_sem]) rfl ⟨rfl, by repeat (first | exact Below.refl _ _ | (refine Below.setCell ?_ ?_ _) | (refine Below.alloc ?_ ?_ _) | exact Nat.le_refl _ | (focus (simp; done)))⟩
    · have hb : ((c.toNat : Int) == 0) = false := by simp; omega
      obtain ⟨t, n, e, ht⟩ : ∃ t n e, Cd.takeT (l.drop 5) 262144 = (t, n, e) := ⟨_, _, _, rfl⟩
      obtain ⟨q1, q2, q3⟩ := Fr.takeT_len (l.drop 5) 262144
      rw [ht] at q1 q2 q3
      simp only [List.length_drop] at q1 q2 q3
      have hex : ((Cd.bs l).extract 5 l.length).data.toList = l.drop 5 := by
        rw [Lib.extract_data]; exact List.take_of_length_le (by simp)
      have hT : ∀ W, Calls Try.prog 24 #[.string ((Cd.bs l).extract 5 l.length), .int .i64 262144] W fun e' w' => e' = .returned (.tuple #[.string (Cd.bs t), .int .i64 n, .int .i64 e]) ∧ Below W.heap.size W w' := fun W => by
        have := takeTr_any ((Cd.bs l).extract 5 l.length) 262144 W (by rw [Lib.size_eq, hex, List.length_drop]; omega) (by omega) (by omega)
        rw [hex, ht] at this
        exact this
      have HT := Lib.hid hT
      clear hT hex
      by_cases he : e = 0
      · subst he
        have hS : ∀ W, Calls Try.prog 12 #[.string ((Cd.bs l).extract 4 (5 + n))] W fun e' w' => e' = .returned (.int .u32 (Fr.sum ((l.drop 4).take (n + 1)))) ∧ W = w' := fun W => by
          have hx : ((Cd.bs l).extract 4 (5 + n)).data.toList = (l.drop 4).take (n + 1) := by rw [Lib.extract_data]; congr 1; omega
          have := sumr_any ((Cd.bs l).extract 4 (5 + n)) W (by rw [Lib.size_eq, hx, List.length_take]; unfold maxLen; omega)
          rwa [hx] at this
        have HS := Lib.hid hS
        have HL := Lib.hid (fun W => littler_any (Fr.sum ((l.drop 4).take (n + 1)) : Int) (Fr.sum ((l.drop 4).take (n + 1))) W rfl (Fr.sum_lt _))
        clear hS
        have h4 : ((Cd.bs l).extract 0 4).toList = l.take 4 := by rw [Lib.extract_toList]; rfl
        have HQ2 := Lib.hid q2
        clear q2 q3
        have hn5 : 5 + n ≤ l.length := by omega
        generalize hsm : Fr.lit (Fr.sum ((l.drop 4).take (n + 1))) = m at *
        have HSM := Lib.hid hsm
        clear hsm
        have HTT := Lib.hid ht
        have HC := Lib.hid hc
        have HG := Lib.hid hg
        clear ht hc hg
        obtain ⟨sm, hsm2⟩ : ∃ sm, sm = Fr.sum ((l.drop 4).take (n + 1)) := ⟨_, rfl⟩
        rw [← hsm2] at HS HL HSM
        have HSM2 := Lib.hid hsm2
        clear hsm2
        have hml : (Cd.bs m).toList = m := by rw [ByteArray.toList_mk]
        by_cases hm : m = l.take 4
        · have hmb : (m == l.take 4) = true := by simp [hm]
          rw [Fr.take_ok h5' (by rw [← HC.out]; exact h0) HTT.out (by rw [← HSM2.out, HSM.out]; exact hm), ← HC.out]
          clear hm
          go_enter Try.func14, Try.ntmps14
          go_wp2_with (go_at_call 24; refine (HT.out _).mono ?_; rintro e w1 ⟨rfl, hb1⟩; obtain ⟨hkc, hkf⟩ := bcell hb1; have hz : w.heap.size < w1.heap.size := (by have := hb1.size; simp at this; omega))
          go_cut [35] (fun r wx => r = .bool false ∧ Below w1.heap.size w1 wx)
          case first =>
            have hw : IntKind.i64.wrap (5 + (n : Int)) = 5 + n := by rw [IntKind.wrap_i64]; omega
            have hw0 : (0 : Int) ≤ 5 + (n : Int) ∧ (4 : Int) ≤ 5 + (n : Int) ∧ 5 + (n : Int) ≤ (l.length : Int) := by omega
            have hw1 : (5 + (n : Int)).toNat = 5 + n := by omega
            go_region_with (first
              | (go_at_call 12; refine (HS.out _).mono ?_; rintro e w' ⟨rfl, rfl⟩)
              | (go_at_call 22; refine (HL.out _).mono ?_; rintro e w3 ⟨rfl, hb3⟩))
            all_goals clear hw hw0 hw1
            all_goals (try go_wp2_with fail)
            all_goals go_meet
            all_goals refine ⟨rfl, ?_⟩
            all_goals repeat (first | exact Below.refl _ _ | (refine Below.trans ?_ (hb3.mono ?_)) | apply Below.drew | exact Nat.le_refl _ | omega | (focus (simp; done)))
          case rest =>
            obtain ⟨rfl, hbc⟩ := hcut
            obtain ⟨hkc2, hkf2⟩ := bcell hbc
            have hz2 : w.heap.size < wc.heap.size := Nat.lt_of_lt_of_le hz hbc.size
            go_wp2_with fail
            exact bodyPost_ret (v := frameV ((c, t), 5 + n, 0)) (by simp [results, Try.results14, go_sem, hkc, hkc2, hz, hz2]) rfl ⟨rfl, by repeat (first | exact Below.refl _ _ | (refine Below.trans ?_ (hbc.mono ?_)) | (refine Below.trans ?_ (hb1.mono ?_)) | apply Below.drew | (refine Below.setCell ?_ ?_ _) | (refine Below.alloc ?_ ?_ _) | exact Nat.le_refl _ | omega | (focus (simp; done)) | (focus (simp; omega)))⟩
        · have hmb : (m == l.take 4) = false := by simpa using hm
          rw [Fr.take_bad h5' (by rw [← HC.out]; exact h0) HTT.out (by rw [← HSM2.out, HSM.out]; exact hm)]
          clear hm
          go_enter Try.func14, Try.ntmps14
          go_wp2_with (go_at_call 24; refine (HT.out _).mono ?_; rintro e w1 ⟨rfl, hb1⟩; obtain ⟨hkc, hkf⟩ := bcell hb1; have hz : w.heap.size < w1.heap.size := (by have := hb1.size; simp at this; omega))
          go_cut [35] (fun r wx => r = .bool true ∧ Below w1.heap.size w1 wx)
          case first =>
            have hw : IntKind.i64.wrap (5 + (n : Int)) = 5 + n := by rw [IntKind.wrap_i64]; omega
            have hw0 : (0 : Int) ≤ 5 + (n : Int) ∧ (4 : Int) ≤ 5 + (n : Int) ∧ 5 + (n : Int) ≤ (l.length : Int) := by omega
            have hw1 : (5 + (n : Int)).toNat = 5 + n := by omega
            go_region_with (first
              | (go_at_call 12; refine (HS.out _).mono ?_; rintro e w' ⟨rfl, rfl⟩)
              | (go_at_call 22; refine (HL.out _).mono ?_; rintro e w3 ⟨rfl, hb3⟩))
            all_goals clear hw hw0 hw1
            all_goals (try go_wp2_with fail)
            all_goals go_meet
            all_goals refine ⟨rfl, ?_⟩
            all_goals repeat (first | exact Below.refl _ _ | (refine Below.trans ?_ (hb3.mono ?_)) | apply Below.drew | exact Nat.le_refl _ | omega | (focus (simp; done)))
          case rest =>
            obtain ⟨rfl, hbc⟩ := hcut
            obtain ⟨hkc2, hkf2⟩ := bcell hbc
            have hz2 : w.heap.size < wc.heap.size := Nat.lt_of_lt_of_le hz hbc.size
            go_wp2_with fail
            exact bodyPost_ret (v := frameV ((0, []), 0, 3)) (by simp [results, Try.results14, go_sem, hkc, hkc2, hz, hz2]) rfl ⟨rfl, by repeat (first | exact Below.refl _ _ | (refine Below.trans ?_ (hbc.mono ?_)) | (refine Below.trans ?_ (hb1.mono ?_)) | apply Below.drew | (refine Below.setCell ?_ ?_ _) | (refine Below.alloc ?_ ?_ _) | exact Nat.le_refl _ | omega | (focus (simp; done)) | (focus (simp; omega)))⟩
      · rw [Fr.take_err h5' (by rw [← hc]; exact h0) ht he]
        have hbe : (((e : Nat) : Int) == 0) = false := by simp; omega
        clear hg hc ht q2
        go_enter Try.func14, Try.ntmps14
        go_wp2_with (go_at_call 24; refine (HT.out _).mono ?_; rintro e w1 ⟨rfl, hb1⟩; obtain ⟨hkc, hkf⟩ := bcell hb1; have hz : w.heap.size < w1.heap.size := (by have := hb1.size; simp at this; omega))
        exact bodyPost_ret (v := frameV ((0, []), 0, e)) (by simp [results, Try.results14, go_sem, hkc, hz]) rfl ⟨rfl, by repeat (first | exact Below.refl _ _ | (refine Below.trans ?_ (hb1.mono ?_)) | (refine Below.trans ?_ (hb3.mono ?_)) | apply Below.drew | (refine Below.setCell ?_ ?_ _) | (refine Below.alloc ?_ ?_ _) | exact Nat.le_refl _ | omega | (focus (simp; done)) | (focus (simp; omega)))⟩
end Go.Proofs.Ytgbfaabidplajaa
