import Derived.Deep.DeepCutAuto
import Derived.Deep.Cut
import Derived.Deep.CutRange
import Derived.Deep.CutBlock
import Derived.Test.YtfkfckohajpcfaaPart4
/-
  The document's answer whether a function may have its Kind, its Name and its number of instructions (tapestryref13.named).
-/
namespace Go.Proofs.Ytfkfckohajpcfaa
open Go.RowKit
set_option linter.unusedSimpArgs false
set_option linter.unusedVariables false
namespace Co

set_option maxRecDepth 100000 in
set_option maxHeartbeats 8000000 in
theorem namedR_any (fv ov : Value) (p : Prog) (i : Nat) (w : World) (hP : Pr w.heap.size w fv ov p) (hI : ProgIn p) (hi : i < p.funcs.length) :
    Calls Try.prog 30 #[.agg #[fv, ov], .int .i64 (i : Int)] w fun e w' => e = .returned (.bool (namedB p i)) ∧ Below w.heap.size w w' := by
  have HFD := Lib.hid (fun W (hb : Below w.heap.size w W) => fun kind name => findR_any fv ov p kind name W ((hP.below hb).wider hb.size) hI)
  obtain ⟨⟨fa, fc, fb, fo, rfl, ha, hcells⟩, ⟨oa, oc, ob, oo, rfl, _, _⟩⟩ := hP
  obtain ⟨L, LO⟩ := p
  simp only at *
  have hL := hI.nf
  simp only at hL
  obtain ⟨rfl, hfb⟩ := ha (by omega)
  obtain ⟨hz1, hz2, hops, hz3⟩ := hI.fns L[i] (List.getElem_mem hi)
  clear hz1 hz2 hz3
  obtain ⟨d0, d1, u, d2, hu⟩ := hcells i hi
  obtain ⟨pa, pc, pb, po, rfl, hpa, hpb⟩ := hu
  have HC := Lib.hid hcells
  clear hcells hI ha hpa hpb
  have hnb : namedB ⟨L, LO⟩ i = (decide (0 ≤ L[i].kind) && decide (L[i].kind ≤ 4) && (L[i].kind == 0) == (i == 0) && (!decide (L[i].kind < 2) || L[i].name == 0) && decide (0 ≤ L[i].name) && decide (L[i].name ≤ 7)
    && !(decide (2 ≤ L[i].kind) && (L.take i).any (isB L[i].kind L[i].name)) && (!(L[i].kind == 4) || decide (0 ≤ find L 3 L[i].name))
    && decide (1 ≤ L[i].ops.length) && decide (L[i].ops.length ≤ 128)) := by
    unfold namedB
    simp only [getElem!_pos L i hi]
  have hA : Below w.heap.size w (w.alloc (.cells #[.slice (some ⟨fb, fo, none⟩) L.length fc, .slice oa LO.length oc] 27)) := (Below.refl _ _).alloc (Nat.le_refl _) _
  have e0 := (hA.cell (p := ⟨fb, fo + i * 3, none⟩) hfb).trans d0
  have e1 := (hA.cell (p := ⟨fb, fo + i * 3 + 1, none⟩) hfb).trans d1
  have e2 := (hA.cell (p := ⟨fb, fo + i * 3 + 2, none⟩) hfb).trans d2
  have hi1 : (0 : Int) ≤ (i : Int) ∧ (i : Int) < (L.length : Int) := by omega
  have hfb' : ¬ fb = w.heap.size := by omega
  have hANY : (L.take i).any (isB L[i].kind L[i].name) = true → ∃ j, ∃ h : j < L.length, j < i ∧ isB L[i].kind L[i].name L[j] = true := by
    intro h
    obtain ⟨x, hx, hp⟩ := List.any_eq_true.1 h
    obtain ⟨j, hj, rfl⟩ := List.getElem_of_mem hx
    rw [List.length_take] at hj
    exact ⟨j, by omega, by omega, by rw [List.getElem_take] at hp; exact hp⟩
  have hANY2 : ∀ j (h : j < L.length), j < i → isB L[i].kind L[i].name L[j] = true → (L.take i).any (isB L[i].kind L[i].name) = true := fun j h hj hb =>
    List.any_eq_true.2 ⟨L[j], by rw [List.mem_take_iff_getElem]; exact ⟨j, by omega, rfl⟩, hb⟩
  have HFD2 := Lib.hid (fun W hb => HFD.out W hb 3 L[i].name)
  clear d0 d1 d2 HFD
  generalize (L.take i).any (isB L[i].kind L[i].name) = anyB at *
  generalize find L 3 L[i].name = fnd at *
  generalize namedB ⟨L, LO⟩ i = r at *
  generalize L[i].ops.length = nops at *
  generalize L[i].kind = kind at *
  generalize L[i].name = name at *
  generalize L[i] = fi at *
  have HA1 := Lib.hid hANY
  have HA2 := Lib.hid hANY2
  clear hANY hANY2
  by_cases hgood : 0 ≤ kind ∧ kind ≤ 4 ∧ (kind = 0 ↔ (i : Int) = 0) ∧ (kind < 2 → name = 0) ∧ 0 ≤ name ∧ name ≤ 7
  · have h3 : (kind = 0 ∧ i = 0 ∧ name = 0) ∨ (kind = 1 ∧ (i : Int) ≠ 0 ∧ name = 0) ∨ (2 ≤ kind ∧ kind ≤ 4 ∧ (i : Int) ≠ 0 ∧ 0 ≤ name ∧ name ≤ 7) := by omega
    have hnb2 : r = (!(decide (2 ≤ kind) && anyB) && (!(kind == 4) || decide (0 ≤ fnd)) && decide (1 ≤ nops) && decide (nops ≤ 128)) := by
      rw [hnb]
      obtain ⟨g1, g2, g3, g4, g5, g6⟩ := hgood
      have t3 : ((kind == 0) == (i == 0)) = true := by
        have : (kind == 0) = (i == 0) := by rw [Bool.eq_iff_iff]; simp; omega
        rw [this]; simp
      have t4 : (!decide (kind < 2) || name == 0) = true := by
        by_cases h : kind < 2
        · rw [g4 h]; simp
        · simp [h]
      rw [decide_eq_true g1, decide_eq_true g2, t3, t4, decide_eq_true g5, decide_eq_true g6]
      simp
    have HNB := Lib.hid hnb2
    clear hnb hnb2
    obtain ⟨g1, g2, g3, g4, g5, g6⟩ := hgood
    clear g3 g4
    have q1 : ¬ kind < 0 := by omega
    have q2 : ¬ 4 < kind := by omega
    have q3 : ¬ name < 0 := by omega
    have q4 : ¬ 7 < name := by omega
    obtain ⟨P, hP⟩ : ∃ P : Nat → Bool, ∀ j (h : j < L.length), isB kind name L[j] = P j := ⟨fun j => if h : j < L.length then isB kind name L[j] else false, fun j h => by simp [h]⟩
    have HL : Hid (∀ j (h : j < L.length), P j = (L[j].kind == kind && L[j].name == name)) := fun j h => (hP j h).symm
    have HA3 : Hid (anyB = true → ∃ j, j < i ∧ P j = true) := fun h => by obtain ⟨j, hj, h1, h2⟩ := HA1.out h; exact ⟨j, h1, by rw [← hP j hj]; exact h2⟩
    have HA4 : Hid (∀ j, j < i → P j = true → anyB = true) := fun j hj h => HA2.out j (by omega) hj (by rw [hP j (by omega)]; exact h)
    clear hP HA1 HA2
    obtain ⟨D, hD⟩ : ∃ D : Bool, D = decide (2 ≤ kind) := ⟨_, rfl⟩
    rw [← hD] at HNB
    have HD := Lib.hid hD
    clear hD
    have hA2 : Below w.heap.size w ((w.alloc (.cells #[.slice (some ⟨fb, fo, none⟩) L.length fc, .slice oa LO.length oc] 27)).alloc (.cells #[.int .i64 kind, .int .i64 name, .slice pa nops pc] 52)) := hA.alloc hA.size _
    have oF := Ob.Obj.new (w.alloc (.cells #[.slice (some ⟨fb, fo, none⟩) L.length fc, .slice oa LO.length oc] 27)) 52 [.int .i64 kind, .int .i64 name, .slice pa nops pc]
    rw [show (w.alloc (.cells #[.slice (some ⟨fb, fo, none⟩) L.length fc, .slice oa LO.length oc] 27)).heap.size = w.heap.size + 1 by simp] at oF
    have hfb2 : ¬ fb = w.heap.size + 1 := by omega
    have oP := (Ob.Obj.new w 27 [.slice (some ⟨fb, fo, none⟩) L.length fc, .slice oa LO.length oc]).alloc (.cells #[.int .i64 kind, .int .i64 name, .slice pa nops pc] 52)
    have HC3 := Lib.hid (fun W (hb : Below w.heap.size w W) q (hq : q < L.length) => (show _ ∧ _ from ⟨(hb.cell (p := ⟨fb, fo + q * 3, none⟩) hfb).trans (HC.out q hq).1, (hb.cell (p := ⟨fb, fo + q * 3 + 1, none⟩) hfb).trans (HC.out q hq).2.1⟩))
    have hcase : (kind = 0 ∧ ((i : Int) == 0) = true ∧ name = 0) ∨ (kind = 1 ∧ ((i : Int) == 0) = false ∧ name = 0) ∨ (((kind == 0) = false ∧ ¬ kind < 2 ∧ 2 ≤ kind) ∧ ((i : Int) == 0) = false) := by
      rcases h3 with ⟨h, h', h''⟩ | ⟨h, h', h''⟩ | ⟨h1, _, h, _⟩
      · exact .inl ⟨h, by simp [h'], h''⟩
      · exact .inr (.inl ⟨h, by simpa using h', h''⟩)
      · exact .inr (.inr ⟨⟨by simp; omega, by omega, h1⟩, by simpa using h⟩)
    clear h3
    rcases hcase with ⟨rfl, b2, rfl⟩ | ⟨rfl, b2, rfl⟩ | ⟨⟨b1, b3, b4⟩, b2⟩
    · obtain rfl : i = 0 := by simpa using b2
      clear b2
      simp only [Nat.zero_mul, Nat.add_zero] at e0 e1 e2
      have hLp : (0 : Int) < (L.length : Int) := by omega
      clear hi1
      go_enter Try.func30, Try.ntmps30
      go_wp2_with fail
      go_loopw [6] (fun k wr => ∃ q : Nat, q ≤ 0 ∧ k = .int .i64 (q : Int) ∧ Hid (∀ j, j < q → (D && P j) = false) ∧ Below w.heap.size w wr ∧ Ob.Obj wr w.heap.size 27 [.slice (some ⟨fb, fo, none⟩) L.length fc, .slice oa LO.length oc] ∧ Ob.Obj wr (w.heap.size + 1) 52 [.int .i64 0, .int .i64 0, .slice pa nops pc]) (fun k _ => 0 - (intOf k).toNat)
      case atStart => exact ⟨0, Nat.zero_le _, rfl, fun j h => absurd h (Nat.not_lt_zero _), hA2, oP, oF⟩
      case round =>
        obtain ⟨q, hq, rfl, hall, hBr, oPr, oFr⟩ := hrel
        have p0 := oPr.cell 0
        have p1 := oPr.cell 1
        have f0 := oFr.cell 0
        have f1 := oFr.cell 1
        have f2 := oFr.cell 2
        simp at p0 p1 f0 f1 f2
        by_cases hlt : q < 0
        · exfalso
          omega
        · obtain rfl : q = 0 := by omega
          have hda : (D && anyB) = false := by
            cases hd : D with
            | false => rfl
            | true =>
              cases ha : anyB with
              | false => rfl
              | true =>
                obtain ⟨j, hj, hp⟩ := HA3.out ha
                have := hall.out j (by omega)
                rw [hd, hp] at this
                cases this
          have HR := Lib.hid (show r = ((!((0 : Int) == 4) || decide (0 ≤ fnd)) && decide ((1 : Int) ≤ (nops : Int)) && decide ((nops : Int) ≤ 128)) by
            rw [HNB.out, hda, show decide ((1 : Int) ≤ (nops : Int)) = decide (1 ≤ nops) by congr 1; apply propext; omega, show decide ((nops : Int) ≤ 128) = decide (nops ≤ 128) by congr 1; apply propext; omega]; rfl)
          clear hda
          go_wp2_with (go_at_call 20; (with_reducible refine (HFD2.out _ hBr).mono ?_); rintro e w1 ⟨rfl, hb1⟩; have hB1 := hBr.trans (hb1.mono hBr.size); have o1 := oFr.below hb1; have g0 := o1.cell 0; have g2 := o1.cell 2; simp at g0 g2)
          all_goals go_ret
          all_goals refine ⟨?_, hB1⟩
          all_goals rw [HR.out]
          all_goals refine congrArg (fun b => Ending.returned (.bool b)) ?_
          all_goals (first | (simp_all; done) | (simp_all; omega) | skip)
    · go_enter Try.func30, Try.ntmps30
      go_wp2_with fail
      go_loopw [6] (fun k wr => ∃ q : Nat, q ≤ i ∧ k = .int .i64 (q : Int) ∧ Hid (∀ j, j < q → (D && P j) = false) ∧ Below w.heap.size w wr ∧ Ob.Obj wr w.heap.size 27 [.slice (some ⟨fb, fo, none⟩) L.length fc, .slice oa LO.length oc] ∧ Ob.Obj wr (w.heap.size + 1) 52 [.int .i64 1, .int .i64 0, .slice pa nops pc]) (fun k _ => i - (intOf k).toNat)
      case atStart => exact ⟨0, Nat.zero_le _, rfl, fun j h => absurd h (Nat.not_lt_zero _), hA2, oP, oF⟩
      case round =>
        obtain ⟨q, hq, rfl, hall, hBr, oPr, oFr⟩ := hrel
        have p0 := oPr.cell 0
        have p1 := oPr.cell 1
        have f0 := oFr.cell 0
        have f1 := oFr.cell 1
        have f2 := oFr.cell 2
        simp at p0 p1 f0 f1 f2
        by_cases hlt : q < i
        · have hqL : q < L.length := by omega
          obtain ⟨c0, c1⟩ := HC3.out wr hBr q hqL
          have hi2 : (0 : Int) ≤ (q : Int) ∧ (q : Int) < (L.length : Int) := by omega
          have hqi : (q : Int) < (i : Int) := by omega
          have HN : Hid ((D && P q) = false → ∀ j, j < q + 1 → (D && P j) = false) := fun h j hj => by
            rcases Nat.lt_or_ge j q with h1 | h1
            · exact hall.out j h1
            · obtain rfl : j = q := by omega
              exact h
          have hpq := HL.out q hqL
          have hd : D = false := by rw [HD.out]; decide
          have HDD := Lib.hid hd
          clear hd
          go_wp2_with fail
          go_big_quiet (fail)
          go_wp2_with fail
          go_roundw
          case rel => exact ⟨q + 1, by omega, by go_num, HN.out (by rw [HDD.out]; rfl), belowN hBr _, oPr, oFr⟩
          case measure => simp [intOf]; omega
        · have hqi : ¬ (q : Int) < (i : Int) := by omega
          have hq0 : ¬ (q : Int) < 0 := by omega
          have hda : (D && anyB) = false := by
            cases hd : D with
            | false => rfl
            | true =>
              cases ha : anyB with
              | false => rfl
              | true =>
                obtain ⟨j, hj, hp⟩ := HA3.out ha
                have := hall.out j (by omega)
                rw [hd, hp] at this
                cases this
          have HR := Lib.hid (show r = ((!((1 : Int) == 4) || decide (0 ≤ fnd)) && decide ((1 : Int) ≤ (nops : Int)) && decide ((nops : Int) ≤ 128)) by
            rw [HNB.out, hda, show decide ((1 : Int) ≤ (nops : Int)) = decide (1 ≤ nops) by congr 1; apply propext; omega, show decide ((nops : Int) ≤ 128) = decide (nops ≤ 128) by congr 1; apply propext; omega]; rfl)
          clear hda
          go_wp2_with (go_at_call 20; (with_reducible refine (HFD2.out _ hBr).mono ?_); rintro e w1 ⟨rfl, hb1⟩; have hB1 := hBr.trans (hb1.mono hBr.size); have o1 := oFr.below hb1; have g0 := o1.cell 0; have g2 := o1.cell 2; simp at g0 g2)
          all_goals go_ret
          all_goals refine ⟨?_, hB1⟩
          all_goals rw [HR.out]
          all_goals refine congrArg (fun b => Ending.returned (.bool b)) ?_
          all_goals (first | (simp_all; done) | (simp_all; omega) | skip)
    · go_enter Try.func30, Try.ntmps30
      go_wp2_with fail
      go_loopw [6] (fun k wr => ∃ q : Nat, q ≤ i ∧ k = .int .i64 (q : Int) ∧ Hid (∀ j, j < q → (D && P j) = false) ∧ Below w.heap.size w wr ∧ Ob.Obj wr w.heap.size 27 [.slice (some ⟨fb, fo, none⟩) L.length fc, .slice oa LO.length oc] ∧ Ob.Obj wr (w.heap.size + 1) 52 [.int .i64 kind, .int .i64 name, .slice pa nops pc]) (fun k _ => i - (intOf k).toNat)
      case atStart => exact ⟨0, Nat.zero_le _, rfl, fun j h => absurd h (Nat.not_lt_zero _), hA2, oP, oF⟩
      case round =>
        obtain ⟨q, hq, rfl, hall, hBr, oPr, oFr⟩ := hrel
        have p0 := oPr.cell 0
        have p1 := oPr.cell 1
        have f0 := oFr.cell 0
        have f1 := oFr.cell 1
        have f2 := oFr.cell 2
        simp at p0 p1 f0 f1 f2
        by_cases hlt : q < i
        · have hqL : q < L.length := by omega
          obtain ⟨c0, c1⟩ := HC3.out wr hBr q hqL
          have hi2 : (0 : Int) ≤ (q : Int) ∧ (q : Int) < (L.length : Int) := by omega
          have hqi : (q : Int) < (i : Int) := by omega
          have HN : Hid ((D && P q) = false → ∀ j, j < q + 1 → (D && P j) = false) := fun h j hj => by
            rcases Nat.lt_or_ge j q with h1 | h1
            · exact hall.out j h1
            · obtain rfl : j = q := by omega
              exact h
          have hpq := HL.out q hqL
          have HDD := Lib.hid (show D = true by rw [HD.out]; exact decide_eq_true b4)
          generalize L[q].kind = xk at *
          generalize L[q].name = xn at *
          have HPQ := Lib.hid hpq
          clear hpq
          cases h1 : xk == kind with
          | false =>
            rw [h1] at HPQ
            go_wp2_with fail
            go_big_quiet (fail)
            go_wp2_with fail
            go_roundw
            case rel => exact ⟨q + 1, by omega, by go_num, HN.out (by rw [HPQ.out]; simp), belowN hBr _, oPr, oFr⟩
            case measure => simp [intOf]; omega
          | true =>
            cases h2 : xn == name with
            | false =>
              rw [h1, h2] at HPQ
              go_wp2_with fail
              go_big_quiet (fail)
              go_wp2_with fail
              go_roundw
              case rel => exact ⟨q + 1, by omega, by go_num, HN.out (by rw [HPQ.out]; simp), belowN hBr _, oPr, oFr⟩
              case measure => simp [intOf]; omega
            | true =>
              rw [h1, h2] at HPQ
              have hany := HA4.out q hlt (by rw [HPQ.out]; rfl)
              have HR := Lib.hid (show r = false by rw [HNB.out, HDD.out, hany]; rfl)
              clear hany
              go_wp2_with fail
              go_big_quiet (fail)
              go_wp2_with fail
              go_ret
              exact ⟨by rw [HR.out]; rfl, belowN hBr _⟩
        · have hqi : ¬ (q : Int) < (i : Int) := by omega
          have hq0 : ¬ (q : Int) < 0 := by omega
          have hda : (D && anyB) = false := by
            cases hd : D with
            | false => rfl
            | true =>
              cases ha : anyB with
              | false => rfl
              | true =>
                obtain ⟨j, hj, hp⟩ := HA3.out ha
                have := hall.out j (by omega)
                rw [hd, hp] at this
                cases this
          have HR := Lib.hid (show r = ((!(kind == 4) || decide (0 ≤ fnd)) && decide ((1 : Int) ≤ (nops : Int)) && decide ((nops : Int) ≤ 128)) by
            rw [HNB.out, hda, show decide ((1 : Int) ≤ (nops : Int)) = decide (1 ≤ nops) by congr 1; apply propext; omega, show decide ((nops : Int) ≤ 128) = decide (nops ≤ 128) by congr 1; apply propext; omega]; rfl)
          clear hda
          go_wp2_with (go_at_call 20; (with_reducible refine (HFD2.out _ hBr).mono ?_); rintro e w1 ⟨rfl, hb1⟩; have hB1 := hBr.trans (hb1.mono hBr.size); have o1 := oFr.below hb1; have g0 := o1.cell 0; have g2 := o1.cell 2; simp at g0 g2)
          all_goals go_ret
          all_goals refine ⟨?_, hB1⟩
          all_goals rw [HR.out]
          all_goals refine congrArg (fun b => Ending.returned (.bool b)) ?_
          all_goals (first | (simp_all; done) | (simp_all; omega) | skip)
  · have hr : r = false := by
      rw [hnb, Bool.eq_false_iff]
      intro h
      apply hgood
      simp only [Bool.and_eq_true, decide_eq_true_eq, Bool.or_eq_true, Bool.not_eq_true', decide_eq_false_iff_not, beq_iff_eq] at h
      obtain ⟨⟨⟨⟨⟨⟨⟨⟨⟨h1, h2⟩, h3⟩, h4⟩, h5⟩, h6⟩, _⟩, _⟩, _⟩, _⟩ := h
      have h3' : kind = 0 ↔ i = 0 := by
        rw [Bool.eq_iff_iff] at h3
        simpa using h3
      exact ⟨h1, h2, by omega, fun h => by rcases h4 with h4 | h4; · exact absurd h h4
                                           · exact h4, h5, h6⟩
    subst hr
    clear hnb
    go_enter Try.func30, Try.ntmps30
    go_wp2_with fail
    all_goals (first
      | (exfalso; omega)
      | (exfalso; simp only [bne_eq_false_iff_eq, beq_eq_false_iff_ne, ne_eq] at *; omega)
      | (go_ret; exact ⟨rfl, hA.alloc hA.size _⟩)
      | skip)
end Co
end Go.Proofs.Ytfkfckohajpcfaa

/-
  The document's answer whether an instruction may stand at a place of a function (tapestryref13.right).
-/
namespace Go.Proofs.Ytfkfckohajpcfaa
open Go.RowKit
set_option linter.unusedSimpArgs false
set_option linter.unusedVariables false
namespace Co
theorem argB_in {n : Int} {has : Bool} {a : Int} (h : argB n has a = true) (hn : 0 ≤ n) (hh : has = true) : 0 ≤ a ∧ a < n := by
  unfold argB at h
  rw [if_pos hh, if_pos hn] at h
  simpa using h

set_option maxRecDepth 100000 in
set_option maxHeartbeats 8000000 in
theorem rightR_any (fv ov : Value) (p : Prog) (i k : Nat) (w : World) (hP : Pr w.heap.size w fv ov p) (hI : ProgIn p) (hi : i < p.funcs.length) (hk : k < p.funcs[i].ops.length) :
    Calls Try.prog 31 #[.agg #[fv, ov], .int .i64 (i : Int), .int .i64 (k : Int)] w fun e w' => e = .returned (.bool (rightB p i k)) ∧ Below w.heap.size w w' := by
  obtain ⟨⟨fa, fc, fb, fo, rfl, ha, hcells⟩, ⟨oa, oc, ob, oo, rfl, hz1, hz2⟩⟩ := hP
  obtain ⟨L, LO⟩ := p
  change i < L.length at hi
  change k < L[i].ops.length at hk
  simp only at *
  clear hz1 hz2
  have hL := hI.nf
  have hLO := hI.no
  simp only at hL hLO
  obtain ⟨rfl, hfb⟩ := ha (by omega)
  obtain ⟨iz1, iz2, hops, hio⟩ := hI.fns L[i] (List.getElem_mem hi)
  obtain ⟨ic, ia⟩ := hio L[i].ops[k] (List.getElem_mem hk)
  obtain ⟨d0, d1, u, d2, hu⟩ := hcells i hi
  obtain ⟨pa, pc, pb, po, rfl, hpa, hpb⟩ := hu
  obtain ⟨rfl, hpl⟩ := hpa (by omega)
  obtain ⟨c0, c1⟩ := hpb k hk
  have hrb : rightB ⟨L, LO⟩ i k = (decide (0 ≤ L[i].ops[k].code) && decide (L[i].ops[k].code ≤ 37) && argB (mostOf L.length LO.length L[i].ops.length L[i].ops[k].code) (operandB L[i].ops[k].code) L[i].ops[k].a
    && (!(L[i].ops[k].code == 27) || L[L[i].ops[k].a.toNat]!.kind == 1)
    && (!(L[i].kind == 2 || L[i].kind == 4) || pureB L[i].ops[k].code) && (!(L[i].ops[k].code == 35) || i == 0) && (decide (k + 1 < L[i].ops.length) || lastB L[i].ops[k].code)) := by
    unfold rightB
    simp only [getElem!_pos L i hi, getElem!_pos L[i].ops k hk]
  rw [show (i == 0) = ((i : Int) == 0) by rw [Bool.eq_iff_iff]; simp] at hrb
  have HK := Lib.hid (fun (j : Nat) (hj : j < L.length) => (hcells j hj).1)
  clear hcells hI ha hpa hpb iz1 iz2 hio ia
  have hA : Below w.heap.size w (w.alloc (.cells #[.slice (some ⟨fb, fo, none⟩) L.length fc, .slice oa LO.length oc] 27)) := (Below.refl _ _).alloc (Nat.le_refl _) _
  have e0 := (hA.cell (p := ⟨fb, fo + i * 3, none⟩) hfb).trans d0
  have e1 := (hA.cell (p := ⟨fb, fo + i * 3 + 1, none⟩) hfb).trans d1
  have e2 := (hA.cell (p := ⟨fb, fo + i * 3 + 2, none⟩) hfb).trans d2
  have hA2 := hA.alloc hA.size (.cells #[.int .i64 L[i].kind, .int .i64 L[i].name, .slice (some ⟨pb, po, none⟩) L[i].ops.length pc] 52)
  have q0 := (hA2.cell (p := ⟨pb, po + k * 2, none⟩) hpl).trans c0
  have q1 := (hA2.cell (p := ⟨pb, po + k * 2 + 1, none⟩) hpl).trans c1
  have hA3 := hA2.alloc hA2.size (.cells #[.int .i64 L[i].ops[k].code, .int .i64 L[i].ops[k].a] 59)
  have oP := ((Ob.Obj.new w 27 [.slice (some ⟨fb, fo, none⟩) L.length fc, .slice oa LO.length oc]).alloc (.cells #[.int .i64 L[i].kind, .int .i64 L[i].name, .slice (some ⟨pb, po, none⟩) L[i].ops.length pc] 52)).alloc (.cells #[.int .i64 L[i].ops[k].code, .int .i64 L[i].ops[k].a] 59)
  have oF := (Ob.Obj.new (w.alloc (.cells #[.slice (some ⟨fb, fo, none⟩) L.length fc, .slice oa LO.length oc] 27)) 52 [.int .i64 L[i].kind, .int .i64 L[i].name, .slice (some ⟨pb, po, none⟩) L[i].ops.length pc]).alloc (.cells #[.int .i64 L[i].ops[k].code, .int .i64 L[i].ops[k].a] 59)
  have oO := Ob.Obj.new ((w.alloc (.cells #[.slice (some ⟨fb, fo, none⟩) L.length fc, .slice oa LO.length oc] 27)).alloc (.cells #[.int .i64 L[i].kind, .int .i64 L[i].name, .slice (some ⟨pb, po, none⟩) L[i].ops.length pc] 52)) 59 [.int .i64 L[i].ops[k].code, .int .i64 L[i].ops[k].a]
  rw [show (w.alloc (.cells #[.slice (some ⟨fb, fo, none⟩) L.length fc, .slice oa LO.length oc] 27)).heap.size = w.heap.size + 1 by simp] at oF
  rw [show ((w.alloc (.cells #[.slice (some ⟨fb, fo, none⟩) L.length fc, .slice oa LO.length oc] 27)).alloc (.cells #[.int .i64 L[i].kind, .int .i64 L[i].name, .slice (some ⟨pb, po, none⟩) L[i].ops.length pc] 52)).heap.size = w.heap.size + 2 by simp] at oO
  have hi1 : (0 : Int) ≤ (i : Int) ∧ (i : Int) < (L.length : Int) := by omega
  have hk1 : (0 : Int) ≤ (k : Int) ∧ (k : Int) < (L[i].ops.length : Int) := by omega
  have hfb' : ¬ fb = w.heap.size := by omega
  have hpb' : ¬ pb = w.heap.size := by omega
  have hpb2 : ¬ pb = w.heap.size + 1 := by omega
  clear d0 d1 d2 c0 c1
  generalize rightB ⟨L, LO⟩ i k = r at *
  generalize L[i].ops[k].code = c at *
  generalize L[i].ops[k].a = A at *
  generalize L[i].kind = kind at *
  generalize L[i].name = name at *
  generalize L[i].ops.length = nops at *
  have HMS := Lib.hid (fun W => mostR_any (some ⟨fb, fo, none⟩) oa (some ⟨pb, po, none⟩) L.length LO.length nops fc oc pc kind name c W)
  have HOP := Lib.hid (fun W => operandR_any c W)
  have HPU := Lib.hid (fun W => pureR_any c W)
  have hm27 : c = 27 → mostOf L.length LO.length nops c = L.length ∧ operandB c = true := by rintro rfl; exact ⟨by simp [mostOf], by decide⟩
  have hLC : lastB c = (c == 13 || c == 35 || c == 36 || c == 37) := rfl
  generalize mostOf L.length LO.length nops c = n at *
  generalize operandB c = has at *
  generalize pureB c = pu at *
  generalize lastB c = la at *
  have HM27 := Lib.hid hm27
  have HLC := Lib.hid hLC
  clear hm27 hLC hA hA2
  by_cases hc : 0 ≤ c ∧ c ≤ 37
  · obtain ⟨hca, hcb⟩ := hc
    have t1 : ¬ c < 0 := by omega
    have t2 : ¬ 37 < c := by omega
    rw [decide_eq_true hca, decide_eq_true hcb, Bool.true_and, Bool.true_and] at hrb
    have HRB := Lib.hid hrb
    clear hrb
    go_enter Try.func31, Try.ntmps31
    go_upto_region 7 with (first
      | (go_at_call 47; (with_reducible refine (HMS.out _).mono ?_); rintro e w1 ⟨rfl, hb1⟩; have hB1 := hA3.trans (hb1.mono hA3.size); have oP1 := oP.below hb1; have oF1 := oF.below hb1; have oO1 := oO.below hb1; have p0 := oP1.cell 0; have p1 := oP1.cell 1; have f0 := oF1.cell 0; have f2 := oF1.cell 2; have o0 := oO1.cell 0; have o1 := oO1.cell 1; simp at p0 p1 f0 f2 o0 o1)
      | (go_at_call 12; (with_reducible refine (HOP.out _).mono ?_); rintro e w2 ⟨rfl, rfl⟩))
    clear e0 e1 e2 q0 q1 hA3 oP oF oO
    go_cut [10, 63] from 13 to 63 (fun h r wx => h = .bool has ∧ r = .bool (!argB n has A) ∧ wx = w1)
    case first =>
      go_wp2_with fail
      all_goals go_meet
      all_goals refine ⟨congrArg Value.bool (by first | rfl | (simp_all; done)), congrArg Value.bool ?_, rfl⟩
      all_goals (unfold argB; first | (simp_all; done) | (simp_all; omega) | (rw [if_pos (by assumption), if_pos (by assumption)]; by_cases h1 : A < 0 <;> by_cases h2 : n ≤ A <;> simp [h1, h2] <;> omega) | skip)
    case rest =>
      obtain ⟨rfl, rfl, rfl⟩ := hcut
      cases harg : argB n has A with
      | false =>
        have HR := Lib.hid (show r = false by rw [HRB.out, harg]; simp)
        clear harg
        simp only [Bool.not_false]
        go_wp2_with fail
        go_ret
        exact ⟨by rw [HR.out]; rfl, hB1⟩
      | true =>
        rw [harg, Bool.true_and] at HRB
        simp only [Bool.not_true]
        have hkind : (c = 27 ∧ ∃ h : A.toNat < L.length, 0 ≤ A ∧ A < L.length ∧ wc.cell? ⟨fb, fo + A.toNat * 3, none⟩ = some (.int .i64 L[A.toNat].kind)) ∨ ¬ c = 27 := by
          by_cases h : c = 27
          · obtain ⟨h1, h2⟩ := HM27.out h
            obtain ⟨h3, h4⟩ := argB_in harg (by rw [h1]; omega) h2
            rw [h1] at h4
            have h5 : A.toNat < L.length := by omega
            exact .inl ⟨h, h5, h3, h4, (hB1.cell (p := ⟨fb, fo + A.toNat * 3, none⟩) hfb).trans (HK.out _ h5)⟩
          · exact .inr h
        have hdec : (r = false ∧ ∃ h : A.toNat < L.length, c = 27 ∧ 0 ≤ A ∧ A < L.length ∧ wc.cell? ⟨fb, fo + A.toNat * 3, none⟩ = some (.int .i64 L[A.toNat].kind) ∧ (L[A.toNat].kind == 1) = false)
            ∨ (r = ((!(kind == 2 || kind == 4) || pu) && (!(c == 35) || (i : Int) == 0) && (decide (k + 1 < nops) || la)) ∧ (¬ c = 27 ∨ ∃ h : A.toNat < L.length, c = 27 ∧ 0 ≤ A ∧ A < L.length ∧ wc.cell? ⟨fb, fo + A.toNat * 3, none⟩ = some (.int .i64 1))) := by
          rcases hkind with ⟨h, h5, h3, h4, h6⟩ | h
          · have hg : (L[A.toNat]!).kind = L[A.toNat].kind := by rw [getElem!_pos L A.toNat h5]
            cases h7 : L[A.toNat].kind == 1 with
            | false =>
              refine .inl ⟨?_, h5, h, h3, h4, h6, h7⟩
              rw [HRB.out, hg, h7, h]; simp
            | true =>
              refine .inr ⟨?_, .inr ⟨h5, h, h3, h4, by rw [h6]; rw [show L[A.toNat].kind = 1 by simpa using h7]⟩⟩
              rw [HRB.out, hg, h7]; simp
          · refine .inr ⟨?_, .inl h⟩
            rw [HRB.out, show (c == 27) = false by simpa using h]; simp
        clear hkind HRB HM27 HK harg
        rcases hdec with ⟨hr, h5, rfl, h3, h4, h6, h7⟩ | ⟨hr, hcall⟩
        · have HR := Lib.hid hr
          clear hr
          generalize L[A.toNat].kind = ak at *
          have h8 : ¬ ak = 1 := by simpa using h7
          go_wp2_with fail
          go_ret
          exact ⟨by rw [HR.out]; rfl, hB1⟩
        · have HR := Lib.hid hr
          clear hr
          have hnn : ((k : Int) < (nops : Int) - 1) ↔ k + 1 < nops := by omega
          have HNN := Lib.hid hnn
          have hw1 : IntKind.i64.wrap ((nops : Int) - 1) = (nops : Int) - 1 := by rw [IntKind.wrap_i64]; omega
          clear hnn
          rcases hcall with hc27 | ⟨h5, rfl, h3, h4, h6⟩
          · have hcb27 : (c == 27) = false := by simpa using hc27
            go_upto_region 12 with (first
              | (go_at_call 14; (with_reducible refine (HPU.out _).mono ?_); rintro e w2 ⟨rfl, rfl⟩))
            go_cut [2, 3, 6, 7, 8, 100] from 1 to 100 (fun s2 s3 s6 s7 s8 x wx => s2 = .int .i64 (k : Int) ∧ s3 = .pointer (some ⟨w.heap.size, 0, none⟩) ∧ s6 = .bool false ∧ s7 = .pointer (some ⟨w.heap.size + 1, 0, none⟩) ∧ s8 = .pointer (some ⟨w.heap.size + 1 + 1, 0, none⟩) ∧ x = .bool (!((!(kind == 2 || kind == 4) || pu) && (!(c == 35) || (i : Int) == 0))) ∧ wx = wc)
            case first =>
              go_wp2_with fail
              all_goals go_meet
              all_goals refine ⟨?_, ?_, ?_, ?_, ?_, ?_, ?_⟩
              all_goals (first | rfl | refine congrArg Value.bool ?_ | skip)
              all_goals (first | (rename_i h1 h2 h3; rw [show (kind == 2) = false by simpa using h1, show (kind == 4) = false by simpa using h2, h3]; simp [bne]; done) | (rename_i h1 h2 h3; simp only [h1, h2, h3, bne]; simp; done) | (rename_i h1 h2 h3 h4; simp only [h1, h2, h3, h4, bne]; simp; done) | skip)
              all_goals (first | (simp_all; done) | (rw [decide_eq_decide.2 HNN.out]; done) | (simp_all; omega) | skip)
            case rest =>
              obtain ⟨rfl, rfl, rfl, rfl, rfl, rfl, rfl⟩ := hcut
              cases hb12 : ((!(kind == 2 || kind == 4) || pu) && (!(c == 35) || (i : Int) == 0)) with
              | false =>
                have HR2 := Lib.hid (show r = false by rw [HR.out, hb12]; rfl)
                clear hb12
                simp only [Bool.not_false]
                go_wp2_with fail
                go_ret
                exact ⟨by rw [HR2.out]; rfl, hB1⟩
              | true =>
                have HR2 := Lib.hid (show r = (decide (k + 1 < nops) || la) by rw [HR.out, hb12]; rfl)
                clear hb12
                simp only [Bool.not_true]
                go_upto_region 14 with fail
                go_cut [12] from 13 to 118 (fun x wx => x = .bool la ∧ wx = wc)
                case first =>
                  go_wp2_with fail
                  all_goals go_meet
                  all_goals refine ⟨congrArg Value.bool ?_, rfl⟩
                  all_goals rw [HLC.out]
                  all_goals (first | (simp_all; done) | skip)
                case rest =>
                  obtain ⟨rfl, rfl⟩ := hcut
                  go_wp2_with fail
                  all_goals go_ret
                  all_goals refine ⟨?_, hB1⟩
                  all_goals rw [HR2.out]
                  all_goals refine congrArg (fun b => Ending.returned (.bool b)) ?_
                  all_goals (first | (simp_all; done) | (rw [decide_eq_decide.2 HNN.out]; done) | (simp_all; omega) | skip)
          · go_upto_region 12 with (first
              | (go_at_call 14; (with_reducible refine (HPU.out _).mono ?_); rintro e w2 ⟨rfl, rfl⟩))
            go_cut [2, 3, 6, 7, 8, 100] from 1 to 100 (fun s2 s3 s6 s7 s8 x wx => s2 = .int .i64 (k : Int) ∧ s3 = .pointer (some ⟨w.heap.size, 0, none⟩) ∧ s6 = .bool false ∧ s7 = .pointer (some ⟨w.heap.size + 1, 0, none⟩) ∧ s8 = .pointer (some ⟨w.heap.size + 1 + 1, 0, none⟩) ∧ x = .bool (!((!(kind == 2 || kind == 4) || pu) && (!((27 : Int) == 35) || (i : Int) == 0))) ∧ wx = wc)
            case first =>
              go_wp2_with fail
              all_goals go_meet
              all_goals refine ⟨?_, ?_, ?_, ?_, ?_, ?_, ?_⟩
              all_goals (first | rfl | refine congrArg Value.bool ?_ | skip)
              all_goals (first | (rename_i h1 h2 h3; rw [show (kind == 2) = false by simpa using h1, show (kind == 4) = false by simpa using h2, h3]; simp [bne]; done) | (rename_i h1 h2 h3; simp only [h1, h2, h3, bne]; simp; done) | (rename_i h1 h2 h3 h4; simp only [h1, h2, h3, h4, bne]; simp; done) | skip)
              all_goals (first | (simp_all; done) | (rw [decide_eq_decide.2 HNN.out]; done) | (simp_all; omega) | skip)
            case rest =>
              obtain ⟨rfl, rfl, rfl, rfl, rfl, rfl, rfl⟩ := hcut
              cases hb12 : ((!(kind == 2 || kind == 4) || pu) && (!((27 : Int) == 35) || (i : Int) == 0)) with
              | false =>
                have HR2 := Lib.hid (show r = false by rw [HR.out, hb12]; rfl)
                clear hb12
                simp only [Bool.not_false]
                go_wp2_with fail
                go_ret
                exact ⟨by rw [HR2.out]; rfl, hB1⟩
              | true =>
                have HR2 := Lib.hid (show r = (decide (k + 1 < nops) || la) by rw [HR.out, hb12]; rfl)
                clear hb12
                simp only [Bool.not_true]
                go_upto_region 14 with fail
                go_cut [12] from 13 to 118 (fun x wx => x = .bool la ∧ wx = wc)
                case first =>
                  go_wp2_with fail
                  all_goals go_meet
                  all_goals refine ⟨congrArg Value.bool ?_, rfl⟩
                  all_goals rw [HLC.out]
                  all_goals (first | (simp_all; done) | skip)
                case rest =>
                  obtain ⟨rfl, rfl⟩ := hcut
                  go_wp2_with fail
                  all_goals go_ret
                  all_goals refine ⟨?_, hB1⟩
                  all_goals rw [HR2.out]
                  all_goals refine congrArg (fun b => Ending.returned (.bool b)) ?_
                  all_goals (first | (simp_all; done) | (rw [decide_eq_decide.2 HNN.out]; done) | (simp_all; omega) | skip)
  · have hr : r = false := by
      rw [hrb]
      have : (decide (0 ≤ c) && decide (c ≤ 37)) = false := by simp; omega
      rw [this]; rfl
    subst hr
    clear hrb
    go_enter Try.func31, Try.ntmps31
    go_wp2_with (first
      | (go_at_call 47; (exfalso; omega)))
    all_goals (first
      | (exfalso; omega)
      | (go_ret; exact ⟨rfl, hA3⟩)
      | skip)
end Co
end Go.Proofs.Ytfkfckohajpcfaa

/-
  The document's answer whether a program may be (tapestryref13.Check).
-/
namespace Go.Proofs.Ytfkfckohajpcfaa
open Go.RowKit
set_option linter.unusedSimpArgs false
set_option linter.unusedVariables false
namespace Co
theorem find_range {f : Nat → Bool} {n k : Nat} (hk : k < n) (hb : ∀ j, j < k → f j = false) (h : f k = true) : (List.range n).find? f = some k := by
  rw [List.find?_eq_some_iff_getElem]
  exact ⟨h, k, by simpa using hk, by simp, fun j hj => by rw [List.getElem_range, hb j hj]; rfl⟩
theorem find_range_none {f : Nat → Bool} {n : Nat} (hb : ∀ j, j < n → f j = false) : (List.range n).find? f = none := by
  rw [List.find?_eq_none]
  intro x hx
  rw [hb x (List.mem_range.1 hx)]
  simp
theorem chk_bad {p : Prog} {i n : Nat} (h : namedB p i = false) : chkGo p i (n + 1) = some ((i : Int), -1) := by
  rw [chkGo, if_neg (by rw [h]; simp)]
theorem chk_op {p : Prog} {i n k : Nat} (h : namedB p i = true) (hi : i < p.funcs.length) (hk : k < p.funcs[i].ops.length) (hb : ∀ j, j < k → rightB p i j = true) (hr : rightB p i k = false) : chkGo p i (n + 1) = some ((i : Int), (k : Int)) := by
  rw [chkGo, if_pos h, getElem!_pos p.funcs i hi, find_range hk (fun j hj => by rw [hb j hj]; rfl) (by rw [hr]; rfl)]
theorem chk_next {p : Prog} {i n : Nat} (h : namedB p i = true) (hi : i < p.funcs.length) (hb : ∀ j, j < p.funcs[i].ops.length → rightB p i j = true) : chkGo p i (n + 1) = chkGo p (i + 1) n := by
  rw [chkGo, if_pos h, getElem!_pos p.funcs i hi, find_range_none (fun j hj => by rw [hb j hj]; rfl)]
theorem check_big {p : Prog} (h : p.funcs.length = 0 ∨ 16 < p.funcs.length ∨ 8 < p.opts.length) : check p = (40, -1, -1) := by unfold check; rw [if_pos h]
theorem check_opt {p : Prog} (h : ¬ (p.funcs.length = 0 ∨ 16 < p.funcs.length ∨ 8 < p.opts.length)) {k : Nat} (hk : k < p.opts.length) (hb : ∀ j (hj : j < p.opts.length), j < k → optB p.opts[j] = true) (hr : optB p.opts[k] = false) : check p = (40, -1, (k : Int)) := by
  unfold check
  rw [if_neg h]
  have : p.opts.findIdx? (fun o => !optB o) = some k := by
    rw [List.findIdx?_eq_some_iff_getElem]
    exact ⟨hk, by rw [hr]; rfl, fun j hj => by rw [hb j (by omega) hj]; simp⟩
  rw [this]
theorem check_go {p : Prog} (h : ¬ (p.funcs.length = 0 ∨ 16 < p.funcs.length ∨ 8 < p.opts.length)) (hb : ∀ j (hj : j < p.opts.length), optB p.opts[j] = true) :
    check p = match chkGo p 0 p.funcs.length with | some (i, k) => (40, i, k) | none => (0, 0, 0) := by
  unfold check
  rw [if_neg h]
  have : p.opts.findIdx? (fun o => !optB o) = none := by
    rw [List.findIdx?_eq_none_iff]
    intro x hx
    obtain ⟨j, hj, rfl⟩ := List.getElem_of_mem hx
    rw [hb j hj]
    rfl
  rw [this]
  rfl
def chkV (r : Int × Int × Int) : Value := .tuple #[.int .i64 r.1, .int .i64 r.2.1, .int .i64 r.2.2]

set_option maxRecDepth 100000 in
set_option maxHeartbeats 8000000 in
theorem checkR_any (fv ov : Value) (p : Prog) (w : World) (hP : Pr w.heap.size w fv ov p) (hI : ProgIn p) :
    Calls Try.prog 17 #[.agg #[fv, ov]] w fun e w' => e = .returned (chkV (check p)) ∧ Below w.heap.size w w' := by
  have HN := Lib.hid (fun W (hb : Below w.heap.size w W) i (hi : i < p.funcs.length) => namedR_any fv ov p i W ((hP.below hb).wider hb.size) hI hi)
  have HR := Lib.hid (fun W (hb : Below w.heap.size w W) i k (hi : i < p.funcs.length) (hk : k < p.funcs[i].ops.length) => rightR_any fv ov p i k W ((hP.below hb).wider hb.size) hI hi hk)
  have HO := Lib.hid (fun W k (hk : k < p.opts.length) => optionsR_any p.opts[k] W (hI.opts _ (List.getElem_mem hk)))
  obtain ⟨⟨fa, fc, fb, fo, rfl, ha, hcells⟩, ⟨oa, oc, ob, oo, rfl, hoa, hob⟩⟩ := hP
  have hL := hI.nf
  have hLO := hI.no
  have HB := Lib.hid (fun W (hb : Below w.heap.size w W) q (hq : q < p.opts.length) m (hm : m < 11) => (hb.cell (p := ⟨ob, oo + q * 11 + m, none⟩) (hoa (by omega)).2).trans (hob q hq m hm))
  have HU := Lib.hid (fun W (hb : Below w.heap.size w W) q (hq : q < p.funcs.length) => (show ∃ (a : Option Addr) (cap : Nat), W.cell? ⟨fb, fo + q * 3 + 2, none⟩ = some (.slice a p.funcs[q].ops.length cap) from by
    obtain ⟨_, _, u, d2, pa, pc, pb, po, rfl, _, _⟩ := hcells q hq
    exact ⟨pa, pc, (hb.cell (p := ⟨fb, fo + q * 3 + 2, none⟩) (ha (by omega)).2).trans d2⟩))
  have hops : ∀ q (hq : q < p.funcs.length), p.funcs[q].ops.length ≤ 1048576 := fun q hq => (hI.fns _ (List.getElem_mem hq)).2.2.1
  have HOPS := Lib.hid hops
  clear hcells hob hI hops
  have hA : Below w.heap.size w (w.alloc (.cells #[.slice fa p.funcs.length fc, .slice oa p.opts.length oc] 27)) := (Below.refl _ _).alloc (Nat.le_refl _) _
  have oP := Ob.Obj.new w 27 [.slice fa p.funcs.length fc, .slice oa p.opts.length oc]
  by_cases hbig : p.funcs.length = 0 ∨ 16 < p.funcs.length ∨ 8 < p.opts.length
  · have HE := Lib.hid (show chkV (check p) = .tuple #[.int .i64 40, .int .i64 (-1), .int .i64 (-1)] by rw [check_big hbig]; rfl)
    by_cases h0 : p.funcs.length = 0
    · rw [h0]
      clear hbig
      go_enter Try.func17, Try.ntmps17
      go_wp2_with fail
      go_ret3
      exact ⟨by rw [HE.out]; rfl, (Below.refl _ _).alloc (Nat.le_refl _) _⟩
    · have hn0 : ¬ (p.funcs.length : Int) = 0 := by omega
      have hn0b : ((p.funcs.length : Int) == 0) = false := by simpa using hn0
      by_cases h1 : 16 < p.funcs.length
      · have hn1 : (16 : Int) < (p.funcs.length : Int) := by omega
        clear hbig h1
        go_enter Try.func17, Try.ntmps17
        go_wp2_with fail
        go_ret3
        exact ⟨by rw [HE.out]; rfl, (Below.refl _ _).alloc (Nat.le_refl _) _⟩
      · have hn1 : ¬ (16 : Int) < (p.funcs.length : Int) := by omega
        have hn2 : (8 : Int) < (p.opts.length : Int) := by omega
        clear hbig h1
        go_enter Try.func17, Try.ntmps17
        go_wp2_with fail
        go_ret3
        exact ⟨by rw [HE.out]; rfl, (Below.refl _ _).alloc (Nat.le_refl _) _⟩
  · have hn0 : ¬ (p.funcs.length : Int) = 0 := by omega
    have hn0b : ((p.funcs.length : Int) == 0) = false := by simpa using hn0
    have hn1 : ¬ (16 : Int) < (p.funcs.length : Int) := by omega
    have hn2 : ¬ (8 : Int) < (p.opts.length : Int) := by omega
    obtain ⟨rfl, hfb⟩ := ha (by omega)
    have HBIG := Lib.hid hbig
    clear hbig
    go_enter Try.func17, Try.ntmps17
    go_wp2_with fail
    go_loopw [5] (fun i wr => ∃ q : Nat, q ≤ p.opts.length ∧ i = .int .i64 (q : Int) ∧ Hid (∀ j (hj : j < p.opts.length), j < q → optB p.opts[j] = true) ∧ Below w.heap.size w wr ∧ Ob.Obj wr w.heap.size 27 [.slice (some ⟨fb, fo, none⟩) p.funcs.length fc, .slice oa p.opts.length oc]) (fun i _ => p.opts.length - (intOf i).toNat)
    case atStart => exact ⟨0, Nat.zero_le _, rfl, fun j _ h => absurd h (Nat.not_lt_zero _), hA, oP⟩
    case round =>
      obtain ⟨q, hq, rfl, hall, hB, oPr⟩ := hrel
      have p0 := oPr.cell 0
      have p1 := oPr.cell 1
      simp at p0 p1
      have hbs := hB.size
      by_cases hlt : q < p.opts.length
      · obtain ⟨rfl, hob⟩ := hoa (by omega)
        have c0 := HB.out wr hB q hlt 0 (by decide)
        have c1 := HB.out wr hB q hlt 1 (by decide)
        have c2 := HB.out wr hB q hlt 2 (by decide)
        have c3 := HB.out wr hB q hlt 3 (by decide)
        have c4 := HB.out wr hB q hlt 4 (by decide)
        have c5 := HB.out wr hB q hlt 5 (by decide)
        have c6 := HB.out wr hB q hlt 6 (by decide)
        have c7 := HB.out wr hB q hlt 7 (by decide)
        have c8 := HB.out wr hB q hlt 8 (by decide)
        have c9 := HB.out wr hB q hlt 9 (by decide)
        have c10 := HB.out wr hB q hlt 10 (by decide)
        have HOQ := Lib.hid (fun W => HO.out W q hlt)
        have HS : Hid (optB p.opts[q] = true → ∀ j (hj : j < p.opts.length), j < q + 1 → optB p.opts[j] = true) := fun h j hj hjq => by
          rcases Nat.lt_or_ge j q with h1 | h1
          · exact hall.out j hj h1
          · obtain rfl : j = q := by omega
            exact h
        have HX : Hid (optB p.opts[q] = false → check p = (40, -1, (q : Int))) := fun h => check_opt HBIG.out hlt hall.out h
        have hi1 : (0 : Int) ≤ (q : Int) ∧ (q : Int) < (p.opts.length : Int) := by omega
        generalize optB p.opts[q] = b at *
        generalize p.opts[q] = o at *
        unfold optV at HOQ
        unfold optC at c0 c1 c2 c3 c4 c5 c6 c7 c8 c9 c10
        simp only [List.getElem?_cons_zero, List.getElem?_cons_succ, Nat.add_zero] at c0 c1 c2 c3 c4 c5 c6 c7 c8 c9 c10
        cases b with
        | true =>
          go_wp2_with (go_at_call 29; (with_reducible refine (HOQ.out _).mono ?_); rintro e w1 ⟨rfl, hb1⟩; have hB1 := hB.trans (hb1.mono hbs); have o1 := oPr.below hb1)
          go_roundw
          case rel => exact ⟨q + 1, by omega, by go_num, HS.out (by trivial), hB1, o1⟩
          case measure => simp [intOf]; omega
        | false =>
          have HE := Lib.hid (show chkV (check p) = .tuple #[.int .i64 40, .int .i64 (-1), .int .i64 (q : Int)] by rw [HX.out (by trivial)]; rfl)
          go_wp2_with (go_at_call 29; (with_reducible refine (HOQ.out _).mono ?_); rintro e w1 ⟨rfl, hb1⟩; have hB1 := hB.trans (hb1.mono hbs))
          go_ret3
          exact ⟨by rw [HE.out]; rfl, hB1⟩
      · obtain rfl : q = p.opts.length := by omega
        have HC := Lib.hid (check_go HBIG.out (fun j hj => hall.out j hj hj))
        obtain ⟨wo, rfl⟩ : ∃ wo : World, wo = wr := ⟨_, rfl⟩
        go_wp2_with fail
        go_loopw [7] (fun i wr => ∃ q : Nat, q ≤ p.funcs.length ∧ i = .int .i64 (q : Int) ∧ Hid (chkGo p 0 p.funcs.length = chkGo p q (p.funcs.length - q)) ∧ Below w.heap.size w wr ∧ Ob.Obj wr w.heap.size 27 [.slice (some ⟨fb, fo, none⟩) p.funcs.length fc, .slice oa p.opts.length oc]) (fun i _ => p.funcs.length - (intOf i).toNat)
        case atStart => exact ⟨0, Nat.zero_le _, rfl, rfl, hB, oPr⟩
        case round =>
          clear hB oPr p0 p1 hbs
          obtain ⟨q, hq, rfl, hgo, hB, oPr⟩ := hrel
          have p0 := oPr.cell 0
          have p1 := oPr.cell 1
          simp at p0 p1
          have hbs := hB.size
          by_cases hlt : q < p.funcs.length
          · have HNQ := Lib.hid (fun W (hb : Below w.heap.size w W) => HN.out W hb q hlt)
            have HD : Hid (p.funcs.length - q = p.funcs.length - (q + 1) + 1) := show _ = _ by omega
            cases hnm : namedB p q with
            | false =>
              have HE := Lib.hid (show chkV (check p) = .tuple #[.int .i64 40, .int .i64 (q : Int), .int .i64 (-1)] by rw [HC.out, hgo.out, HD.out, chk_bad hnm]; rfl)
              rw [hnm] at HNQ
              clear hnm
              go_wp2_with (go_at_call 30; (with_reducible refine (HNQ.out _ hB).mono ?_); rintro e w1 ⟨rfl, hb1⟩; have hB1 := hB.trans (hb1.mono hbs))
              go_ret3
              exact ⟨by rw [HE.out]; rfl, hB1⟩
            | true =>
              have HNM := Lib.hid hnm
              rw [hnm] at HNQ
              clear hnm
              go_wp2_with (go_at_call 30; (with_reducible refine (HNQ.out _ hB).mono ?_); rintro e w1 ⟨rfl, hb1⟩; have hB1 := hB.trans (hb1.mono hbs); have oP1 := oPr.below hb1)
              clear hB oPr p0 p1 hbs
              go_loopw [9] (fun i wr => ∃ k : Nat, k ≤ p.funcs[q].ops.length ∧ i = .int .i64 (k : Int) ∧ Hid (∀ j, j < k → rightB p q j = true) ∧ Below w.heap.size w wr ∧ Ob.Obj wr w.heap.size 27 [.slice (some ⟨fb, fo, none⟩) p.funcs.length fc, .slice oa p.opts.length oc]) (fun i _ => p.funcs[q].ops.length - (intOf i).toNat)
              case atStart => exact ⟨0, Nat.zero_le _, rfl, fun j h => absurd h (Nat.not_lt_zero _), hB1, oP1⟩
              case round =>
                clear hB1 oP1 hb1
                obtain ⟨k, hk, rfl, hall2, hB, oPr⟩ := hrel
                have p0 := oPr.cell 0
                have p1 := oPr.cell 1
                simp at p0 p1
                have hbs := hB.size
                obtain ⟨ua, uc, hu⟩ := HU.out wr hB q hlt
                have hol := HOPS.out q hlt
                have hi1 : (0 : Int) ≤ (q : Int) ∧ (q : Int) < (p.funcs.length : Int) := by omega
                by_cases hkl : k < p.funcs[q].ops.length
                · have HRK := Lib.hid (fun W (hb : Below w.heap.size w W) => HR.out W hb q k hlt hkl)
                  have HS : Hid (rightB p q k = true → ∀ j, j < k + 1 → rightB p q j = true) := fun h j hjq => by
                    rcases Nat.lt_or_ge j k with h1 | h1
                    · exact hall2.out j h1
                    · obtain rfl : j = k := by omega
                      exact h
                  have HX : Hid (rightB p q k = false → chkV (check p) = .tuple #[.int .i64 40, .int .i64 (q : Int), .int .i64 (k : Int)]) := fun h => by
                    rw [HC.out, hgo.out, HD.out, chk_op HNM.out hlt hkl hall2.out h]; rfl
                  generalize rightB p q k = b at *
                  cases b with
                  | true =>
                    go_wp2_with (go_at_call 31; (with_reducible refine (HRK.out _ hB).mono ?_); rintro e w2 ⟨rfl, hb2⟩; have hB2 := hB.trans (hb2.mono hbs); have o2 := oPr.below hb2)
                    go_roundw
                    case rel => exact ⟨k + 1, by omega, by go_num, HS.out (by trivial), hB2, o2⟩
                    case measure => simp [intOf]; omega
                  | false =>
                    have HE := Lib.hid (HX.out (by trivial))
                    go_wp2_with (go_at_call 31; (with_reducible refine (HRK.out _ hB).mono ?_); rintro e w2 ⟨rfl, hb2⟩; have hB2 := hB.trans (hb2.mono hbs))
                    go_ret3
                    exact ⟨by rw [HE.out]; rfl, hB2⟩
                · obtain rfl : k = p.funcs[q].ops.length := by omega
                  have HNX := Lib.hid (show chkGo p 0 p.funcs.length = chkGo p (q + 1) (p.funcs.length - (q + 1)) by rw [hgo.out, HD.out, chk_next HNM.out hlt hall2.out])
                  go_wp2_with fail
                  go_roundw
                  case rel => exact ⟨q + 1, by omega, by go_num, HNX.out, hB, oPr⟩
                  case measure => simp [intOf]; omega
          · obtain rfl : q = p.funcs.length := by omega
            have HE := Lib.hid (show chkV (check p) = .tuple #[.int .i64 0, .int .i64 0, .int .i64 0] by rw [HC.out, hgo.out, Nat.sub_self]; rfl)
            go_wp2_with fail
            go_ret3
            exact ⟨by rw [HE.out]; rfl, hB⟩
end Co
end Go.Proofs.Ytfkfckohajpcfaa

/-
  The program's code.funcMayBe, operandMayBe, stray.
-/
namespace Go.Proofs.Ytfkfckohajpcfaa
open Go.RowKit
set_option linter.unusedSimpArgs false
set_option linter.unusedVariables false
namespace Co

set_option maxRecDepth 100000 in
set_option maxHeartbeats 8000000 in
theorem funcMayBe_any (fv ov : Value) (p : Prog) (i : Nat) (w : World) (hP : Pr w.heap.size w fv ov p) (hI : ProgIn p) (hi : i < p.funcs.length) :
    Calls Try.prog 27 #[.agg #[fv, ov], .int .i64 (i : Int)] w fun e w' => e = .returned (.bool (namedB p i)) ∧ Below w.heap.size w w' := by
  have HNM := Lib.hid (fun W (hb : Below w.heap.size w W) => nameMayBe_any fv ov p i W ((hP.below hb).wider hb.size) hI hi)
  obtain ⟨⟨fa, fc, fb, fo, rfl, ha, hcells⟩, ⟨oa, oc, ob, oo, rfl, _, _⟩⟩ := hP
  obtain ⟨L, LO⟩ := p
  simp only at *
  have hL := hI.nf
  simp only at hL
  obtain ⟨rfl, hfb⟩ := ha (by omega)
  obtain ⟨d0, d1, u, d2, hu⟩ := hcells i hi
  obtain ⟨pa, pc, pb, po, rfl, hu1, hu2⟩ := hu
  have hops := (hI.fns L[i] (List.getElem_mem hi)).2.2.1
  clear hcells hI ha hu1 hu2
  have hA : Below w.heap.size w (w.alloc (.cells #[.slice (some ⟨fb, fo, none⟩) L.length fc, .slice oa LO.length oc] 27)) := (Below.refl _ _).alloc (Nat.le_refl _) _
  have e0 := (hA.cell (p := ⟨fb, fo + i * 3, none⟩) hfb).trans d0
  have e1 := (hA.cell (p := ⟨fb, fo + i * 3 + 1, none⟩) hfb).trans d1
  have e2 := (hA.cell (p := ⟨fb, fo + i * 3 + 2, none⟩) hfb).trans d2
  have hi1 : (0 : Int) ≤ (i : Int) ∧ (i : Int) < (L.length : Int) := by omega
  obtain ⟨r, hr⟩ : ∃ r, r = namedB ⟨L, LO⟩ i := ⟨_, rfl⟩
  rw [← hr]
  rw [named_eq ⟨L, LO⟩ i hi] at hr
  simp only at hr
  have HW := Lib.hid (fun W => within_any ((L[i].ops.length : Int) - 1) 128 W)
  clear d0 d1 d2
  generalize nameB ⟨L, LO⟩ i = nb at *
  generalize L[i].ops.length = nops at *
  generalize L[i].kind = kind at *
  generalize L[i].name = name at *
  generalize L[i] = fi at *
  have hA2 : Below w.heap.size w ((w.alloc (.cells #[.slice (some ⟨fb, fo, none⟩) L.length fc, .slice oa LO.length oc] 27)).alloc (.cells #[.int .i64 kind, .int .i64 name, .slice pa nops pc] 52)) := hA.alloc hA.size _
  have oF := Ob.Obj.new (w.alloc (.cells #[.slice (some ⟨fb, fo, none⟩) L.length fc, .slice oa LO.length oc] 27)) 52 [.int .i64 kind, .int .i64 name, .slice pa nops pc]
  rw [show (w.alloc (.cells #[.slice (some ⟨fb, fo, none⟩) L.length fc, .slice oa LO.length oc] 27)).heap.size = w.heap.size + 1 by simp] at oF
  have HB2 := Lib.hid hA2
  have hwn : IntKind.i64.wrap ((nops : Int) - 1) = (nops : Int) - 1 := by rw [IntKind.wrap_i64]; omega
  generalize (decide (0 ≤ (nops : Int) - 1) && decide ((nops : Int) - 1 < 128)) = wb at *
  have HR := Lib.hid hr
  clear hr
  have h4 : ∀ (a b : Bool), (a == b) = false → (a = true ∧ b = false) ∨ (a = false ∧ b = true) := by intro a b; cases a <;> cases b <;> simp
  cases hk : (kind == 0) <;> cases hz : ((i : Int) == 0) <;> rw [hk, hz] at HR <;> cases nb <;> cases wb
  all_goals go_enter Try.func27, Try.ntmps27
  all_goals go_wp2_with (first
    | (go_at_call 43; (with_reducible refine (HW.out _).mono ?_); rintro e w1 ⟨rfl, rfl⟩)
    | (go_at_call 44; (with_reducible refine (HNM.out _ HB2.out).mono ?_); rintro e w2 ⟨rfl, hb2⟩; have hB2 := Lib.hid (HB2.out.trans (hb2.mono HB2.out.size)); have oF2 := oF.below hb2; have g2 := oF2.cell 2; simp at g2))
  all_goals go_ret
  all_goals refine ⟨by rw [HR.out]; rfl, ?_⟩
  all_goals (first | exact hB2.out | exact HB2.out)
/-- may a number be that of an opcode's operand, in that function? -/
def opB (p : Prog) (i : Nat) (code a : Int) : Bool :=
  argB (mostOf p.funcs.length p.opts.length p.funcs[i]!.ops.length code) (operandB code) a && (!(code == 27) || p.funcs[a.toNat]!.kind == 1)
theorem argB_pos {n : Nat} {a : Int} : argB (n : Int) true a = (decide (0 ≤ a) && decide (a < (n : Int))) := by unfold argB; simp

set_option maxRecDepth 100000 in
set_option maxHeartbeats 8000000 in
theorem operandMayBe_any (fv ov : Value) (p : Prog) (i : Nat) (code a : Int) (w : World) (hP : Pr w.heap.size w fv ov p) (hI : ProgIn p) (hi : i < p.funcs.length) :
    Calls Try.prog 45 #[.agg #[fv, ov], .int .i64 (i : Int), .agg #[.int .i64 code, .int .i64 a]] w fun e w' => e = .returned (.bool (opB p i code a)) ∧ Below w.heap.size w w' := by
  obtain ⟨⟨fa, fc, fb, fo, rfl, ha, hcells⟩, ⟨oa, oc, ob, oo, rfl, _, _⟩⟩ := hP
  obtain ⟨L, LO⟩ := p
  simp only at *
  have hL := hI.nf
  have hLO := hI.no
  simp only at hL hLO
  obtain ⟨rfl, hfb⟩ := ha (by omega)
  obtain ⟨d0, d1, u, d2, hu⟩ := hcells i hi
  obtain ⟨pa, pc, pb, po, rfl, hu1, hu2⟩ := hu
  have hops := (hI.fns L[i] (List.getElem_mem hi)).2.2.1
  have HC := Lib.hid (fun W (hb : Below w.heap.size w W) q (hq : q < L.length) => (hb.cell (p := ⟨fb, fo + q * 3, none⟩) hfb).trans (hcells q hq).1)
  clear hcells hI ha hu1 hu2
  have hA : Below w.heap.size w (w.alloc (.cells #[.slice (some ⟨fb, fo, none⟩) L.length fc, .slice oa LO.length oc] 27)) := (Below.refl _ _).alloc (Nat.le_refl _) _
  have hA2 : Below w.heap.size w ((w.alloc (.cells #[.slice (some ⟨fb, fo, none⟩) L.length fc, .slice oa LO.length oc] 27)).alloc (.cells #[.int .i64 code, .int .i64 a] 59)) := hA.alloc hA.size _
  have e2 := (hA2.cell (p := ⟨fb, fo + i * 3 + 2, none⟩) hfb).trans d2
  have hi1 : (0 : Int) ≤ (i : Int) ∧ (i : Int) < (L.length : Int) := by omega
  obtain ⟨r, hr⟩ : ∃ r, r = opB ⟨L, LO⟩ i code a := ⟨_, rfl⟩
  rw [← hr]
  unfold opB at hr
  simp only [getElem!_pos L i hi] at hr
  have HW := Lib.hid (fun W n b => within_any n b W)
  have HB2 := Lib.hid hA2
  clear d0 d1 d2
  generalize L[i].ops.length = nops at *
  have HR := Lib.hid hr
  clear hr hA2 hA
  have hk : code = 0 ∨ code = 13 ∨ code = 14 ∨ code = 15 ∨ code = 16 ∨ code = 20 ∨ code = 22 ∨ code = 25 ∨ code = 26 ∨ code = 34 ∨ code = 33 ∨ code = 27 ∨ (code ≠ 0 ∧ code ≠ 13 ∧ code ≠ 14 ∧ code ≠ 15 ∧ code ≠ 16 ∧ code ≠ 20 ∧ code ≠ 22 ∧ code ≠ 25 ∧ code ≠ 26 ∧ code ≠ 34 ∧ code ≠ 33 ∧ code ≠ 27) := by omega
  rcases hk with rfl | rfl | rfl | rfl | rfl | rfl | rfl | rfl | rfl | rfl | rfl | rfl | ⟨k0, k13, k14, k15, k16, k20, k22, k25, k26, k34, k33, k27⟩
  · have HQ := Lib.hid (show r = true by rw [HR.out]; simp [argB, mostOf, operandB])
    go_enter Try.func45, Try.ntmps45
    go_wp2_with (go_at_call 43; (with_reducible refine (HW.out _ _ _).mono ?_); rintro e w1 ⟨rfl, rfl⟩)
    go_ret
    exact ⟨by rw [HQ.out]; rfl, HB2.out⟩
  · have HQ := Lib.hid (show r = (decide (0 ≤ a) && decide (a < (nops : Int))) by rw [HR.out]; simp [argB, mostOf, operandB])
    go_enter Try.func45, Try.ntmps45
    go_wp2_with fail
    go_region_with (go_at_call 43; (with_reducible refine (HW.out _ _ _).mono ?_); rintro e w1 ⟨rfl, rfl⟩)
    all_goals (try go_wp2_with fail)
    all_goals go_ret
    all_goals exact ⟨by rw [HQ.out]; rfl, HB2.out.drew⟩
  · have HQ := Lib.hid (show r = (decide (0 ≤ a) && decide (a < (nops : Int))) by rw [HR.out]; simp [argB, mostOf, operandB])
    go_enter Try.func45, Try.ntmps45
    go_wp2_with fail
    go_region_with (go_at_call 43; (with_reducible refine (HW.out _ _ _).mono ?_); rintro e w1 ⟨rfl, rfl⟩)
    all_goals (try go_wp2_with fail)
    all_goals go_ret
    all_goals exact ⟨by rw [HQ.out]; rfl, HB2.out.drew⟩
  · have HQ := Lib.hid (show r = (decide (0 ≤ a) && decide (a < (16 : Int))) by rw [HR.out]; simp [argB, mostOf, operandB])
    go_enter Try.func45, Try.ntmps45
    go_wp2_with (go_at_call 43; (with_reducible refine (HW.out _ _ _).mono ?_); rintro e w1 ⟨rfl, rfl⟩)
    go_ret
    exact ⟨by rw [HQ.out]; rfl, HB2.out⟩
  · have HQ := Lib.hid (show r = (decide (0 ≤ a) && decide (a < (16 : Int))) by rw [HR.out]; simp [argB, mostOf, operandB])
    go_enter Try.func45, Try.ntmps45
    go_wp2_with (go_at_call 43; (with_reducible refine (HW.out _ _ _).mono ?_); rintro e w1 ⟨rfl, rfl⟩)
    go_ret
    exact ⟨by rw [HQ.out]; rfl, HB2.out⟩
  · have HQ := Lib.hid (show r = (decide (0 ≤ a) && decide (a < (LO.length : Int))) by rw [HR.out]; simp [argB, mostOf, operandB])
    go_enter Try.func45, Try.ntmps45
    go_wp2_with (go_at_call 43; (with_reducible refine (HW.out _ _ _).mono ?_); rintro e w1 ⟨rfl, rfl⟩)
    go_ret
    exact ⟨by rw [HQ.out]; rfl, HB2.out⟩
  · have HQ := Lib.hid (show r = (decide (0 ≤ a) && decide (a < (8 : Int))) by rw [HR.out]; simp [argB, mostOf, operandB])
    go_enter Try.func45, Try.ntmps45
    go_wp2_with (go_at_call 43; (with_reducible refine (HW.out _ _ _).mono ?_); rintro e w1 ⟨rfl, rfl⟩)
    go_ret
    exact ⟨by rw [HQ.out]; rfl, HB2.out⟩
  · have HQ := Lib.hid (show r = (decide (0 ≤ a) && decide (a < (8 : Int))) by rw [HR.out]; simp [argB, mostOf, operandB])
    go_enter Try.func45, Try.ntmps45
    go_wp2_with (go_at_call 43; (with_reducible refine (HW.out _ _ _).mono ?_); rintro e w1 ⟨rfl, rfl⟩)
    go_ret
    exact ⟨by rw [HQ.out]; rfl, HB2.out⟩
  · have HQ := Lib.hid (show r = (decide (0 ≤ a) && decide (a < (8 : Int))) by rw [HR.out]; simp [argB, mostOf, operandB])
    go_enter Try.func45, Try.ntmps45
    go_wp2_with (go_at_call 43; (with_reducible refine (HW.out _ _ _).mono ?_); rintro e w1 ⟨rfl, rfl⟩)
    go_ret
    exact ⟨by rw [HQ.out]; rfl, HB2.out⟩
  · have HQ := Lib.hid (show r = (decide (0 ≤ a) && decide (a < (8 : Int))) by rw [HR.out]; simp [argB, mostOf, operandB])
    go_enter Try.func45, Try.ntmps45
    go_wp2_with (go_at_call 43; (with_reducible refine (HW.out _ _ _).mono ?_); rintro e w1 ⟨rfl, rfl⟩)
    go_ret
    exact ⟨by rw [HQ.out]; rfl, HB2.out⟩
  · have HQ := Lib.hid (show r = (decide (0 ≤ a) && decide (a < (4 : Int))) by rw [HR.out]; simp [argB, mostOf, operandB])
    go_enter Try.func45, Try.ntmps45
    go_wp2_with (go_at_call 43; (with_reducible refine (HW.out _ _ _).mono ?_); rintro e w1 ⟨rfl, rfl⟩)
    go_ret
    exact ⟨by rw [HQ.out]; rfl, HB2.out⟩
  · have hq : r = ((decide (0 ≤ a) && decide (a < (L.length : Int))) && L[a.toNat]!.kind == 1) := by
      rw [HR.out]
      show (argB (L.length : Int) true a && _) = _
      rw [argB_pos]
      simp
    have HQ := Lib.hid hq
    clear hq HR
    by_cases hg : 0 ≤ a ∧ a < (L.length : Int)
    · obtain ⟨h0, h1⟩ := hg
      obtain ⟨k, rfl⟩ := Int.eq_ofNat_of_zero_le h0
      have hk : k < L.length := by omega
      have c0 := HC.out _ HB2.out k hk
      have HWT := Lib.hid (fun W => within_at (k : Int) (L.length : Int) true (by rw [decide_eq_true h0, decide_eq_true h1]; rfl) W)
      have HQ2 := Lib.hid (show r = (L[k].kind == 1) by rw [HQ.out, decide_eq_true h0, decide_eq_true h1, Int.toNat_natCast, getElem!_pos L k hk]; rfl)
      generalize L[k].kind = kk at *
      go_enter Try.func45, Try.ntmps45
      go_wp2_with (go_at_call 43; (with_reducible refine (HWT.out _).mono ?_); rintro e w1 ⟨rfl, rfl⟩)
      go_ret
      exact ⟨by rw [HQ2.out]; simp, HB2.out⟩
    · have hf : (decide (0 ≤ a) && decide (a < (L.length : Int))) = false := by rw [Bool.eq_false_iff]; simpa using hg
      have HWF := Lib.hid (fun W => within_at a (L.length : Int) false hf.symm W)
      have HQ2 := Lib.hid (show r = false by rw [HQ.out, hf]; rfl)
      go_enter Try.func45, Try.ntmps45
      go_wp2_with (go_at_call 43; (with_reducible refine (HWF.out _).mono ?_); rintro e w1 ⟨rfl, rfl⟩)
      go_ret
      exact ⟨by rw [HQ2.out]; rfl, HB2.out⟩
  · have HQ := Lib.hid (show r = (a == 0) by rw [HR.out]; simp [argB, mostOf, operandB, k0, k13, k14, k15, k16, k20, k22, k25, k26, k34, k33, k27])
    have b0 : (code == 0) = false := by simpa using k0
    have b13 : (code == 13) = false := by simpa using k13
    have b14 : (code == 14) = false := by simpa using k14
    have b15 : (code == 15) = false := by simpa using k15
    have b16 : (code == 16) = false := by simpa using k16
    have b20 : (code == 20) = false := by simpa using k20
    have b22 : (code == 22) = false := by simpa using k22
    have b25 : (code == 25) = false := by simpa using k25
    have b26 : (code == 26) = false := by simpa using k26
    have b34 : (code == 34) = false := by simpa using k34
    have b33 : (code == 33) = false := by simpa using k33
    have b27 : (code == 27) = false := by simpa using k27
    clear k0 k13 k14 k15 k16 k20 k22 k25 k26 k34 k33 k27
    go_enter Try.func45, Try.ntmps45
    go_wp2_with (go_at_call 43; (with_reducible refine (HW.out _ _ _).mono ?_); rintro e w1 ⟨rfl, rfl⟩)
    go_ret
    exact ⟨by rw [HQ.out]; simp, HB2.out⟩
end Co
end Go.Proofs.Ytfkfckohajpcfaa

/-
  The program's code.stray, Check.
-/
namespace Go.Proofs.Ytfkfckohajpcfaa
open Go.RowKit
set_option linter.unusedSimpArgs false
set_option linter.unusedVariables false
namespace Co
theorem right_eq (p : Prog) (i k : Nat) (hi : i < p.funcs.length) (hk : k < p.funcs[i].ops.length) : rightB p i k = ((decide (0 ≤ p.funcs[i].ops[k].code) && decide (p.funcs[i].ops[k].code < 38)) && opB p i p.funcs[i].ops[k].code p.funcs[i].ops[k].a && (!(p.funcs[i].kind == 2 || p.funcs[i].kind == 4) || pureB p.funcs[i].ops[k].code) && (!(p.funcs[i].ops[k].code == 35) || !((i : Int) != 0)) && (!((k : Int) == (p.funcs[i].ops.length : Int) - 1) || lastB p.funcs[i].ops[k].code)) := by
  unfold rightB opB
  simp only [getElem!_pos p.funcs i hi, getElem!_pos p.funcs[i].ops k hk]
  rw [show decide (p.funcs[i].ops[k].code ≤ 37) = decide (p.funcs[i].ops[k].code < 38) by congr 1; apply propext; omega]
  rw [show (i == 0) = !((i : Int) != 0) by rw [Bool.eq_iff_iff]; simp]
  rw [show decide (k + 1 < p.funcs[i].ops.length) = !((k : Int) == (p.funcs[i].ops.length : Int) - 1) by rw [Bool.eq_iff_iff]; simp; omega]
  simp only [Bool.and_assoc]
def strayP (p : Prog) (i : Nat) : Int := match (List.range p.funcs[i]!.ops.length).find? (fun k => !rightB p i k) with | some k => (k : Int) | none => -1
theorem stray_at {p : Prog} {i k : Nat} (hi : i < p.funcs.length) (hk : k < p.funcs[i].ops.length) (hb : ∀ j, j < k → rightB p i j = true) (hr : rightB p i k = false) : strayP p i = (k : Int) := by
  unfold strayP
  rw [getElem!_pos p.funcs i hi, find_range hk (fun j hj => by rw [hb j hj]; rfl) (by rw [hr]; rfl)]
theorem stray_none {p : Prog} {i : Nat} (hi : i < p.funcs.length) (hb : ∀ j, j < p.funcs[i].ops.length → rightB p i j = true) : strayP p i = -1 := by
  unfold strayP
  rw [getElem!_pos p.funcs i hi, find_range_none (fun j hj => by rw [hb j hj]; rfl)]
theorem chk_stray {p : Prog} {i n : Nat} (h : namedB p i = true) : chkGo p i (n + 1) = if 0 ≤ strayP p i then some ((i : Int), strayP p i) else chkGo p (i + 1) n := by
  rw [chkGo, if_pos h]
  unfold strayP
  cases (List.range p.funcs[i]!.ops.length).find? (fun k => !rightB p i k) with
  | none => rfl
  | some k => simp only; rw [if_pos (by omega)]

set_option maxRecDepth 100000 in
set_option maxHeartbeats 16000000 in
theorem stray_any (fv ov : Value) (p : Prog) (i : Nat) (w : World) (hP : Pr w.heap.size w fv ov p) (hI : ProgIn p) (hi : i < p.funcs.length) :
    Calls Try.prog 28 #[.agg #[fv, ov], .int .i64 (i : Int)] w fun e w' => e = .returned (.int .i64 (strayP p i)) ∧ Below w.heap.size w w' := by
  have HOP := Lib.hid (fun W (hb : Below w.heap.size w W) => fun code a => operandMayBe_any fv ov p i code a W ((hP.below hb).wider hb.size) hI hi)
  have HRE := Lib.hid (fun k hk => right_eq p i k hi hk)
  have HSA := Lib.hid (fun k hk hb hr => stray_at (p := p) (i := i) (k := k) hi hk hb hr)
  have HSN := Lib.hid (fun hb => stray_none (p := p) (i := i) hi hb)
  obtain ⟨⟨fa, fc, fb, fo, rfl, ha, hcells⟩, ⟨oa, oc, ob, oo, rfl, hx1, hx2⟩⟩ := hP
  clear hx1 hx2
  have hL := hI.nf
  obtain ⟨rfl, hfb⟩ := ha (by omega)
  obtain ⟨d0, d1, u, d2, hu⟩ := hcells i hi
  obtain ⟨pa, pc, pb, po, rfl, hu1, hu2⟩ := hu
  have hops := (hI.fns p.funcs[i] (List.getElem_mem hi)).2.2.1
  clear hcells hI ha
  have hA : Below w.heap.size w (w.alloc (.cells #[.slice (some ⟨fb, fo, none⟩) p.funcs.length fc, .slice oa p.opts.length oc] 27)) := (Below.refl _ _).alloc (Nat.le_refl _) _
  have e0 := (hA.cell (p := ⟨fb, fo + i * 3, none⟩) hfb).trans d0
  have e1 := (hA.cell (p := ⟨fb, fo + i * 3 + 1, none⟩) hfb).trans d1
  have e2 := (hA.cell (p := ⟨fb, fo + i * 3 + 2, none⟩) hfb).trans d2
  have hi1 : (0 : Int) ≤ (i : Int) ∧ (i : Int) < (p.funcs.length : Int) := by omega
  have HU := Lib.hid hu2
  have HU1 := Lib.hid hu1
  clear d0 d1 d2 hu1 hu2
  obtain ⟨nops, hn⟩ : ∃ n, n = p.funcs[i].ops.length := ⟨_, rfl⟩
  obtain ⟨kind, hkd⟩ : ∃ n, n = p.funcs[i].kind := ⟨_, rfl⟩
  obtain ⟨name, hnm⟩ : ∃ n, n = p.funcs[i].name := ⟨_, rfl⟩
  obtain ⟨OC, hOC⟩ : ∃ f : Nat → Int, ∀ k (hk : k < p.funcs[i].ops.length), f k = p.funcs[i].ops[k].code := ⟨fun k => if h : k < p.funcs[i].ops.length then p.funcs[i].ops[k].code else 0, fun k hk => by simp [hk]⟩
  obtain ⟨OA, hOA⟩ : ∃ f : Nat → Int, ∀ k (hk : k < p.funcs[i].ops.length), f k = p.funcs[i].ops[k].a := ⟨fun k => if h : k < p.funcs[i].ops.length then p.funcs[i].ops[k].a else 0, fun k hk => by simp [hk]⟩
  have HRE2 : Hid (∀ k, k < nops → rightB p i k = ((decide (0 ≤ OC k) && decide (OC k < 38)) && opB p i (OC k) (OA k) && (!(kind == 2 || kind == 4) || pureB (OC k)) && (!(OC k == 35) || !((i : Int) != 0)) && (!((k : Int) == (nops : Int) - 1) || lastB (OC k)))) := fun k hk => by
    subst hn
    subst hkd
    rw [HRE.out k hk, hOC k hk, hOA k hk]
  have HSA2 : Hid (∀ k, k < nops → (∀ j, j < k → rightB p i j = true) → rightB p i k = false → strayP p i = (k : Int)) := fun k hk => HSA.out k (by omega)
  have HSN2 : Hid ((∀ j, j < nops → rightB p i j = true) → strayP p i = -1) := fun h => HSN.out (fun j hj => h j (by omega))
  have HCL : Hid (∀ W, Below w.heap.size w W → ∀ k, k < nops → (pa = some ⟨pb, po, none⟩ ∧ pb < w.heap.size) ∧ W.cell? ⟨pb, po + k * 2, none⟩ = some (.int .i64 (OC k)) ∧ W.cell? ⟨pb, po + k * 2 + 1, none⟩ = some (.int .i64 (OA k))) := fun W hb k hk => by
    obtain ⟨g1, g2⟩ := HU1.out (by omega)
    obtain ⟨g3, g4⟩ := HU.out k (by omega)
    refine ⟨⟨g1, g2⟩, (hb.cell (p := ⟨pb, po + k * 2, none⟩) g2).trans ?_, (hb.cell (p := ⟨pb, po + k * 2 + 1, none⟩) g2).trans ?_⟩
    · rw [g3, hOC k (by omega)]
    · rw [g4, hOA k (by omega)]
  rw [← hn] at e2 hops
  rw [← hkd] at e0
  rw [← hnm] at e1
  clear HRE HSA HSN HU HU1 hOC hOA hn hkd hnm
  have HST := Lib.hid (rfl : strayP p i = strayP p i)
  generalize strayP p i = sp at *
  generalize p.funcs.length = nf at *
  generalize p.opts.length = no at *
  have hA2 : Below w.heap.size w ((w.alloc (.cells #[.slice (some ⟨fb, fo, none⟩) nf fc, .slice oa no oc] 27)).alloc (.cells #[.int .i64 kind, .int .i64 name, .slice pa nops pc] 52)) := hA.alloc hA.size _
  have oF := Ob.Obj.new (w.alloc (.cells #[.slice (some ⟨fb, fo, none⟩) nf fc, .slice oa no oc] 27)) 52 [.int .i64 kind, .int .i64 name, .slice pa nops pc]
  rw [show (w.alloc (.cells #[.slice (some ⟨fb, fo, none⟩) nf fc, .slice oa no oc] 27)).heap.size = w.heap.size + 1 by simp] at oF
  have oP := (Ob.Obj.new w 27 [.slice (some ⟨fb, fo, none⟩) nf fc, .slice oa no oc]).alloc (.cells #[.int .i64 kind, .int .i64 name, .slice pa nops pc] 52)
  have hwn : IntKind.i64.wrap ((nops : Int) - 1) = (nops : Int) - 1 := by rw [IntKind.wrap_i64]; omega
  go_enter Try.func28, Try.ntmps28
  go_wp2
  go_step3
  go_upto_region 2 with fail
  obtain ⟨pq, hpq⟩ : ∃ pq, pq = (kind == 2 || kind == 4) := ⟨_, rfl⟩
  go_cut [7] from 15 to 22 (fun r wx => r = .bool pq ∧ wx = ((w.alloc (.cells #[.slice (some ⟨fb, fo, none⟩) nf fc, .slice oa no oc] 27)).alloc (.cells #[.int .i64 kind, .int .i64 name, .slice pa nops pc] 52)))
  case first =>
    cases h2 : (kind == 2) with
    | true =>
      go_wp2_with fail
      go_meet
      exact ⟨by rw [hpq, h2]; rfl, rfl⟩
    | false =>
      go_wp2_with fail
      go_meet
      exact ⟨by rw [hpq, h2]; simp, rfl⟩
  case rest =>
  obtain ⟨rfl, rfl⟩ := hcut
  have HRE3 : Hid (∀ k, k < nops → rightB p i k = ((decide (0 ≤ OC k) && decide (OC k < 38)) && opB p i (OC k) (OA k) && (!pq || pureB (OC k)) && (!(OC k == 35) || !((i : Int) != 0)) && (!((k : Int) == (nops : Int) - 1) || lastB (OC k)))) := fun k hk => by rw [HRE2.out k hk, hpq]
  clear HRE2 hpq
  go_wp2_with fail
  go_step3
  go_wp2_with fail
  go_loopw [6, 26] (fun at' c wr => ∃ k : Nat, k ≤ nops ∧ c = .int .i64 (k : Int) ∧ at' = .int .i64 (-1) ∧ Hid (∀ j, j < k → rightB p i j = true) ∧ Below w.heap.size w wr ∧ Ob.Obj wr w.heap.size 27 [.slice (some ⟨fb, fo, none⟩) nf fc, .slice oa no oc] ∧ Ob.Obj wr (w.heap.size + 1) 52 [.int .i64 kind, .int .i64 name, .slice pa nops pc]) (fun _ c _ => nops - (intOf c).toNat)
  case atStart => exact ⟨0, Nat.zero_le _, rfl, rfl, fun j h => absurd h (Nat.not_lt_zero _), hA2, oP, oF⟩
  case round =>
    clear hA2 oP oF e0 e1 e2 hA
    obtain ⟨k, hk, rfl, rfl, hall, hB, oP, oF⟩ := hrel
    obtain ⟨wo, rfl⟩ : ∃ wo : World, wo = wr := ⟨_, rfl⟩
    have hbs := hB.size
    by_cases hlt : k < nops
    · obtain ⟨⟨rfl, hpb⟩, c0, c1⟩ := HCL.out wo hB k hlt
      have hr := HRE3.out k hlt
      have HS := Lib.hid (HSA2.out k hlt hall.out)
      have HN : Hid (rightB p i k = true → ∀ j, j < k + 1 → rightB p i j = true) := fun h j hjq => by
        rcases Nat.lt_or_ge j k with h1 | h1
        · exact hall.out j h1
        · obtain rfl : j = k := by omega
          exact h
      have HOK := Lib.hid (fun W hb => HOP.out W hb (OC k) (OA k))
      have hk1 : (0 : Int) ≤ (k : Int) ∧ (k : Int) < (nops : Int) := by omega
      have hwb : pb < wo.heap.size := by omega
      clear hall HSA2 HSN2 HCL HRE3 HOP
      generalize rightB p i k = rb at *
      generalize opB p i (OC k) (OA k) = q2 at *
      generalize OC k = code at *
      generalize OA k = oa1 at *
      have HB := Lib.hid (hB.alloc hB.size (.cells #[.int .i64 code, .int .i64 oa1] 59))
      have oP2 := oP.alloc (.cells #[.int .i64 code, .int .i64 oa1] 59)
      have oF2 := oF.alloc (.cells #[.int .i64 code, .int .i64 oa1] 59)
      have oO2 := Ob.Obj.new wo 59 [.int .i64 code, .int .i64 oa1]
      have p0 := oP.cell 0
      have p1 := oP.cell 1
      have f2 := oF.cell 2
      have p0' := oP2.cell 0
      have p1' := oP2.cell 1
      have f2' := oF2.cell 2
      simp at p0 p1 f2 p0' p1' f2'
      have HPU := Lib.hid (fun W => pure_any code W)
      have HLV := Lib.hid (fun W => leaves_any code W)
      have HW := Lib.hid (fun W => within_any code 38 W)
      obtain ⟨q1, hq1⟩ : ∃ q1, q1 = (decide (0 ≤ code) && decide (code < 38)) := ⟨_, rfl⟩
      rw [← hq1] at HW hr
      clear hq1 HST
      generalize pureB code = pb1 at *
      generalize lastB code = lb at *
      have HR := Lib.hid hr
      clear hr
      have hwb2 : wo.heap.size < (wo.alloc (.cells #[.int .i64 code, .int .i64 oa1] 59)).heap.size := by simp
      cases q1 with
      | false =>
        go_wp2_with (first
          | (go_at_call 43; (with_reducible refine (HW.out _).mono ?_); rintro e w1 ⟨rfl, rfl⟩)
          | (go_at_call 45; (with_reducible refine (HOK.out _ HB.out).mono ?_); rintro e w2 ⟨rfl, hb2⟩; have HB2 := Lib.hid (HB.out.trans (hb2.mono HB.out.size)); have oP3 := oP2.below hb2; have oF3 := oF2.below hb2; have oO3 := oO2.below hb2; have g0 := oO3.cell 0; have g1 := oO3.cell 1; have g2 := oF3.cell 2; have g3 := oP3.cell 0; have g4 := oP3.cell 1; simp at g0 g1 g2 g3 g4)
          | (go_at_call 13; (with_reducible refine (HPU.out _).mono ?_); rintro e w3 ⟨rfl, rfl⟩)
          | (go_at_call 46; (with_reducible refine (HLV.out _).mono ?_); rintro e w4 ⟨rfl, rfl⟩))
        (try rw [Exit.noGoto_ret])
        go_ret
        exact ⟨by rw [HS.out (by rw [HR.out]; rfl)]; rfl, HB.out⟩
      | true =>
        cases q2 with
        | false =>
          go_wp2_with (first
            | (go_at_call 43; (with_reducible refine (HW.out _).mono ?_); rintro e w1 ⟨rfl, rfl⟩)
            | (go_at_call 45; (with_reducible refine (HOK.out _ HB.out).mono ?_); rintro e w2 ⟨rfl, hb2⟩; have HB2 := Lib.hid (HB.out.trans (hb2.mono HB.out.size)); have oP3 := oP2.below hb2; have oF3 := oF2.below hb2; have oO3 := oO2.below hb2; have g0 := oO3.cell 0; have g1 := oO3.cell 1; have g2 := oF3.cell 2; have g3 := oP3.cell 0; have g4 := oP3.cell 1; simp at g0 g1 g2 g3 g4)
            | (go_at_call 13; (with_reducible refine (HPU.out _).mono ?_); rintro e w3 ⟨rfl, rfl⟩)
            | (go_at_call 46; (with_reducible refine (HLV.out _).mono ?_); rintro e w4 ⟨rfl, rfl⟩))
          (try rw [Exit.noGoto_ret])
          go_ret
          exact ⟨by rw [HS.out (by rw [HR.out]; rfl)]; rfl, HB2.out⟩
        | true =>
          cases pq with
          | false =>
            cases hc : (code == 35) with
            | false =>
              rw [hc] at HR
              cases hl : ((k : Int) == (nops : Int) - 1) with
              | false =>
                rw [hl] at HR
                go_wp2_with (first
                  | (go_at_call 43; (with_reducible refine (HW.out _).mono ?_); rintro e w1 ⟨rfl, rfl⟩)
                  | (go_at_call 45; (with_reducible refine (HOK.out _ HB.out).mono ?_); rintro e w2 ⟨rfl, hb2⟩; have HB2 := Lib.hid (HB.out.trans (hb2.mono HB.out.size)); have oP3 := oP2.below hb2; have oF3 := oF2.below hb2; have oO3 := oO2.below hb2; have g0 := oO3.cell 0; have g1 := oO3.cell 1; have g2 := oF3.cell 2; have g3 := oP3.cell 0; have g4 := oP3.cell 1; simp at g0 g1 g2 g3 g4)
                  | (go_at_call 13; (with_reducible refine (HPU.out _).mono ?_); rintro e w3 ⟨rfl, rfl⟩)
                  | (go_at_call 46; (with_reducible refine (HLV.out _).mono ?_); rintro e w4 ⟨rfl, rfl⟩))
                go_roundw
                case rel => exact ⟨k + 1, by omega, by go_num, rfl, HN.out (by rw [HR.out]; rfl), HB2.out, oP3, oF3⟩
                case measure => simp [intOf]; omega
              | true =>
                rw [hl] at HR
                cases lb with
                | false =>
                  go_wp2_with (first
                    | (go_at_call 43; (with_reducible refine (HW.out _).mono ?_); rintro e w1 ⟨rfl, rfl⟩)
                    | (go_at_call 45; (with_reducible refine (HOK.out _ HB.out).mono ?_); rintro e w2 ⟨rfl, hb2⟩; have HB2 := Lib.hid (HB.out.trans (hb2.mono HB.out.size)); have oP3 := oP2.below hb2; have oF3 := oF2.below hb2; have oO3 := oO2.below hb2; have g0 := oO3.cell 0; have g1 := oO3.cell 1; have g2 := oF3.cell 2; have g3 := oP3.cell 0; have g4 := oP3.cell 1; simp at g0 g1 g2 g3 g4)
                    | (go_at_call 13; (with_reducible refine (HPU.out _).mono ?_); rintro e w3 ⟨rfl, rfl⟩)
                    | (go_at_call 46; (with_reducible refine (HLV.out _).mono ?_); rintro e w4 ⟨rfl, rfl⟩))
                  (try rw [Exit.noGoto_ret])
                  go_ret
                  exact ⟨by rw [HS.out (by rw [HR.out]; rfl)]; rfl, HB2.out⟩
                | true =>
                  go_wp2_with (first
                    | (go_at_call 43; (with_reducible refine (HW.out _).mono ?_); rintro e w1 ⟨rfl, rfl⟩)
                    | (go_at_call 45; (with_reducible refine (HOK.out _ HB.out).mono ?_); rintro e w2 ⟨rfl, hb2⟩; have HB2 := Lib.hid (HB.out.trans (hb2.mono HB.out.size)); have oP3 := oP2.below hb2; have oF3 := oF2.below hb2; have oO3 := oO2.below hb2; have g0 := oO3.cell 0; have g1 := oO3.cell 1; have g2 := oF3.cell 2; have g3 := oP3.cell 0; have g4 := oP3.cell 1; simp at g0 g1 g2 g3 g4)
                    | (go_at_call 13; (with_reducible refine (HPU.out _).mono ?_); rintro e w3 ⟨rfl, rfl⟩)
                    | (go_at_call 46; (with_reducible refine (HLV.out _).mono ?_); rintro e w4 ⟨rfl, rfl⟩))
                  go_roundw
                  case rel => exact ⟨k + 1, by omega, by go_num, rfl, HN.out (by rw [HR.out]; rfl), HB2.out, oP3, oF3⟩
                  case measure => simp [intOf]; omega
            | true =>
              rw [hc] at HR
              cases hz : ((i : Int) != 0) with
              | true =>
                rw [hz] at HR
                go_wp2_with (first
                  | (go_at_call 43; (with_reducible refine (HW.out _).mono ?_); rintro e w1 ⟨rfl, rfl⟩)
                  | (go_at_call 45; (with_reducible refine (HOK.out _ HB.out).mono ?_); rintro e w2 ⟨rfl, hb2⟩; have HB2 := Lib.hid (HB.out.trans (hb2.mono HB.out.size)); have oP3 := oP2.below hb2; have oF3 := oF2.below hb2; have oO3 := oO2.below hb2; have g0 := oO3.cell 0; have g1 := oO3.cell 1; have g2 := oF3.cell 2; have g3 := oP3.cell 0; have g4 := oP3.cell 1; simp at g0 g1 g2 g3 g4)
                  | (go_at_call 13; (with_reducible refine (HPU.out _).mono ?_); rintro e w3 ⟨rfl, rfl⟩)
                  | (go_at_call 46; (with_reducible refine (HLV.out _).mono ?_); rintro e w4 ⟨rfl, rfl⟩))
                (try rw [Exit.noGoto_ret])
                go_ret
                exact ⟨by rw [HS.out (by rw [HR.out]; rfl)]; rfl, HB2.out⟩
              | false =>
                rw [hz] at HR
                cases hl : ((k : Int) == (nops : Int) - 1) with
                | false =>
                  rw [hl] at HR
                  go_wp2_with (first
                    | (go_at_call 43; (with_reducible refine (HW.out _).mono ?_); rintro e w1 ⟨rfl, rfl⟩)
                    | (go_at_call 45; (with_reducible refine (HOK.out _ HB.out).mono ?_); rintro e w2 ⟨rfl, hb2⟩; have HB2 := Lib.hid (HB.out.trans (hb2.mono HB.out.size)); have oP3 := oP2.below hb2; have oF3 := oF2.below hb2; have oO3 := oO2.below hb2; have g0 := oO3.cell 0; have g1 := oO3.cell 1; have g2 := oF3.cell 2; have g3 := oP3.cell 0; have g4 := oP3.cell 1; simp at g0 g1 g2 g3 g4)
                    | (go_at_call 13; (with_reducible refine (HPU.out _).mono ?_); rintro e w3 ⟨rfl, rfl⟩)
                    | (go_at_call 46; (with_reducible refine (HLV.out _).mono ?_); rintro e w4 ⟨rfl, rfl⟩))
                  go_roundw
                  case rel => exact ⟨k + 1, by omega, by go_num, rfl, HN.out (by rw [HR.out]; rfl), HB2.out, oP3, oF3⟩
                  case measure => simp [intOf]; omega
                | true =>
                  rw [hl] at HR
                  cases lb with
                  | false =>
                    go_wp2_with (first
                      | (go_at_call 43; (with_reducible refine (HW.out _).mono ?_); rintro e w1 ⟨rfl, rfl⟩)
                      | (go_at_call 45; (with_reducible refine (HOK.out _ HB.out).mono ?_); rintro e w2 ⟨rfl, hb2⟩; have HB2 := Lib.hid (HB.out.trans (hb2.mono HB.out.size)); have oP3 := oP2.below hb2; have oF3 := oF2.below hb2; have oO3 := oO2.below hb2; have g0 := oO3.cell 0; have g1 := oO3.cell 1; have g2 := oF3.cell 2; have g3 := oP3.cell 0; have g4 := oP3.cell 1; simp at g0 g1 g2 g3 g4)
                      | (go_at_call 13; (with_reducible refine (HPU.out _).mono ?_); rintro e w3 ⟨rfl, rfl⟩)
                      | (go_at_call 46; (with_reducible refine (HLV.out _).mono ?_); rintro e w4 ⟨rfl, rfl⟩))
                    (try rw [Exit.noGoto_ret])
                    go_ret
                    exact ⟨by rw [HS.out (by rw [HR.out]; rfl)]; rfl, HB2.out⟩
                  | true =>
                    go_wp2_with (first
                      | (go_at_call 43; (with_reducible refine (HW.out _).mono ?_); rintro e w1 ⟨rfl, rfl⟩)
                      | (go_at_call 45; (with_reducible refine (HOK.out _ HB.out).mono ?_); rintro e w2 ⟨rfl, hb2⟩; have HB2 := Lib.hid (HB.out.trans (hb2.mono HB.out.size)); have oP3 := oP2.below hb2; have oF3 := oF2.below hb2; have oO3 := oO2.below hb2; have g0 := oO3.cell 0; have g1 := oO3.cell 1; have g2 := oF3.cell 2; have g3 := oP3.cell 0; have g4 := oP3.cell 1; simp at g0 g1 g2 g3 g4)
                      | (go_at_call 13; (with_reducible refine (HPU.out _).mono ?_); rintro e w3 ⟨rfl, rfl⟩)
                      | (go_at_call 46; (with_reducible refine (HLV.out _).mono ?_); rintro e w4 ⟨rfl, rfl⟩))
                    go_roundw
                    case rel => exact ⟨k + 1, by omega, by go_num, rfl, HN.out (by rw [HR.out]; rfl), HB2.out, oP3, oF3⟩
                    case measure => simp [intOf]; omega
          | true =>
            cases pb1 with
            | false =>
              go_wp2_with (first
                | (go_at_call 43; (with_reducible refine (HW.out _).mono ?_); rintro e w1 ⟨rfl, rfl⟩)
                | (go_at_call 45; (with_reducible refine (HOK.out _ HB.out).mono ?_); rintro e w2 ⟨rfl, hb2⟩; have HB2 := Lib.hid (HB.out.trans (hb2.mono HB.out.size)); have oP3 := oP2.below hb2; have oF3 := oF2.below hb2; have oO3 := oO2.below hb2; have g0 := oO3.cell 0; have g1 := oO3.cell 1; have g2 := oF3.cell 2; have g3 := oP3.cell 0; have g4 := oP3.cell 1; simp at g0 g1 g2 g3 g4)
                | (go_at_call 13; (with_reducible refine (HPU.out _).mono ?_); rintro e w3 ⟨rfl, rfl⟩)
                | (go_at_call 46; (with_reducible refine (HLV.out _).mono ?_); rintro e w4 ⟨rfl, rfl⟩))
              (try rw [Exit.noGoto_ret])
              go_ret
              exact ⟨by rw [HS.out (by rw [HR.out]; rfl)]; rfl, HB2.out⟩
            | true =>
              cases hc : (code == 35) with
              | false =>
                rw [hc] at HR
                cases hl : ((k : Int) == (nops : Int) - 1) with
                | false =>
                  rw [hl] at HR
                  go_wp2_with (first
                    | (go_at_call 43; (with_reducible refine (HW.out _).mono ?_); rintro e w1 ⟨rfl, rfl⟩)
                    | (go_at_call 45; (with_reducible refine (HOK.out _ HB.out).mono ?_); rintro e w2 ⟨rfl, hb2⟩; have HB2 := Lib.hid (HB.out.trans (hb2.mono HB.out.size)); have oP3 := oP2.below hb2; have oF3 := oF2.below hb2; have oO3 := oO2.below hb2; have g0 := oO3.cell 0; have g1 := oO3.cell 1; have g2 := oF3.cell 2; have g3 := oP3.cell 0; have g4 := oP3.cell 1; simp at g0 g1 g2 g3 g4)
                    | (go_at_call 13; (with_reducible refine (HPU.out _).mono ?_); rintro e w3 ⟨rfl, rfl⟩)
                    | (go_at_call 46; (with_reducible refine (HLV.out _).mono ?_); rintro e w4 ⟨rfl, rfl⟩))
                  go_roundw
                  case rel => exact ⟨k + 1, by omega, by go_num, rfl, HN.out (by rw [HR.out]; rfl), HB2.out, oP3, oF3⟩
                  case measure => simp [intOf]; omega
                | true =>
                  rw [hl] at HR
                  cases lb with
                  | false =>
                    go_wp2_with (first
                      | (go_at_call 43; (with_reducible refine (HW.out _).mono ?_); rintro e w1 ⟨rfl, rfl⟩)
                      | (go_at_call 45; (with_reducible refine (HOK.out _ HB.out).mono ?_); rintro e w2 ⟨rfl, hb2⟩; have HB2 := Lib.hid (HB.out.trans (hb2.mono HB.out.size)); have oP3 := oP2.below hb2; have oF3 := oF2.below hb2; have oO3 := oO2.below hb2; have g0 := oO3.cell 0; have g1 := oO3.cell 1; have g2 := oF3.cell 2; have g3 := oP3.cell 0; have g4 := oP3.cell 1; simp at g0 g1 g2 g3 g4)
                      | (go_at_call 13; (with_reducible refine (HPU.out _).mono ?_); rintro e w3 ⟨rfl, rfl⟩)
                      | (go_at_call 46; (with_reducible refine (HLV.out _).mono ?_); rintro e w4 ⟨rfl, rfl⟩))
                    (try rw [Exit.noGoto_ret])
                    go_ret
                    exact ⟨by rw [HS.out (by rw [HR.out]; rfl)]; rfl, HB2.out⟩
                  | true =>
                    go_wp2_with (first
                      | (go_at_call 43; (with_reducible refine (HW.out _).mono ?_); rintro e w1 ⟨rfl, rfl⟩)
                      | (go_at_call 45; (with_reducible refine (HOK.out _ HB.out).mono ?_); rintro e w2 ⟨rfl, hb2⟩; have HB2 := Lib.hid (HB.out.trans (hb2.mono HB.out.size)); have oP3 := oP2.below hb2; have oF3 := oF2.below hb2; have oO3 := oO2.below hb2; have g0 := oO3.cell 0; have g1 := oO3.cell 1; have g2 := oF3.cell 2; have g3 := oP3.cell 0; have g4 := oP3.cell 1; simp at g0 g1 g2 g3 g4)
                      | (go_at_call 13; (with_reducible refine (HPU.out _).mono ?_); rintro e w3 ⟨rfl, rfl⟩)
                      | (go_at_call 46; (with_reducible refine (HLV.out _).mono ?_); rintro e w4 ⟨rfl, rfl⟩))
                    go_roundw
                    case rel => exact ⟨k + 1, by omega, by go_num, rfl, HN.out (by rw [HR.out]; rfl), HB2.out, oP3, oF3⟩
                    case measure => simp [intOf]; omega
              | true =>
                rw [hc] at HR
                cases hz : ((i : Int) != 0) with
                | true =>
                  rw [hz] at HR
                  go_wp2_with (first
                    | (go_at_call 43; (with_reducible refine (HW.out _).mono ?_); rintro e w1 ⟨rfl, rfl⟩)
                    | (go_at_call 45; (with_reducible refine (HOK.out _ HB.out).mono ?_); rintro e w2 ⟨rfl, hb2⟩; have HB2 := Lib.hid (HB.out.trans (hb2.mono HB.out.size)); have oP3 := oP2.below hb2; have oF3 := oF2.below hb2; have oO3 := oO2.below hb2; have g0 := oO3.cell 0; have g1 := oO3.cell 1; have g2 := oF3.cell 2; have g3 := oP3.cell 0; have g4 := oP3.cell 1; simp at g0 g1 g2 g3 g4)
                    | (go_at_call 13; (with_reducible refine (HPU.out _).mono ?_); rintro e w3 ⟨rfl, rfl⟩)
                    | (go_at_call 46; (with_reducible refine (HLV.out _).mono ?_); rintro e w4 ⟨rfl, rfl⟩))
                  (try rw [Exit.noGoto_ret])
                  go_ret
                  exact ⟨by rw [HS.out (by rw [HR.out]; rfl)]; rfl, HB2.out⟩
                | false =>
                  rw [hz] at HR
                  cases hl : ((k : Int) == (nops : Int) - 1) with
                  | false =>
                    rw [hl] at HR
                    go_wp2_with (first
                      | (go_at_call 43; (with_reducible refine (HW.out _).mono ?_); rintro e w1 ⟨rfl, rfl⟩)
                      | (go_at_call 45; (with_reducible refine (HOK.out _ HB.out).mono ?_); rintro e w2 ⟨rfl, hb2⟩; have HB2 := Lib.hid (HB.out.trans (hb2.mono HB.out.size)); have oP3 := oP2.below hb2; have oF3 := oF2.below hb2; have oO3 := oO2.below hb2; have g0 := oO3.cell 0; have g1 := oO3.cell 1; have g2 := oF3.cell 2; have g3 := oP3.cell 0; have g4 := oP3.cell 1; simp at g0 g1 g2 g3 g4)
                      | (go_at_call 13; (with_reducible refine (HPU.out _).mono ?_); rintro e w3 ⟨rfl, rfl⟩)
                      | (go_at_call 46; (with_reducible refine (HLV.out _).mono ?_); rintro e w4 ⟨rfl, rfl⟩))
                    go_roundw
                    case rel => exact ⟨k + 1, by omega, by go_num, rfl, HN.out (by rw [HR.out]; rfl), HB2.out, oP3, oF3⟩
                    case measure => simp [intOf]; omega
                  | true =>
                    rw [hl] at HR
                    cases lb with
                    | false =>
                      go_wp2_with (first
                        | (go_at_call 43; (with_reducible refine (HW.out _).mono ?_); rintro e w1 ⟨rfl, rfl⟩)
                        | (go_at_call 45; (with_reducible refine (HOK.out _ HB.out).mono ?_); rintro e w2 ⟨rfl, hb2⟩; have HB2 := Lib.hid (HB.out.trans (hb2.mono HB.out.size)); have oP3 := oP2.below hb2; have oF3 := oF2.below hb2; have oO3 := oO2.below hb2; have g0 := oO3.cell 0; have g1 := oO3.cell 1; have g2 := oF3.cell 2; have g3 := oP3.cell 0; have g4 := oP3.cell 1; simp at g0 g1 g2 g3 g4)
                        | (go_at_call 13; (with_reducible refine (HPU.out _).mono ?_); rintro e w3 ⟨rfl, rfl⟩)
                        | (go_at_call 46; (with_reducible refine (HLV.out _).mono ?_); rintro e w4 ⟨rfl, rfl⟩))
                      (try rw [Exit.noGoto_ret])
                      go_ret
                      exact ⟨by rw [HS.out (by rw [HR.out]; rfl)]; rfl, HB2.out⟩
                    | true =>
                      go_wp2_with (first
                        | (go_at_call 43; (with_reducible refine (HW.out _).mono ?_); rintro e w1 ⟨rfl, rfl⟩)
                        | (go_at_call 45; (with_reducible refine (HOK.out _ HB.out).mono ?_); rintro e w2 ⟨rfl, hb2⟩; have HB2 := Lib.hid (HB.out.trans (hb2.mono HB.out.size)); have oP3 := oP2.below hb2; have oF3 := oF2.below hb2; have oO3 := oO2.below hb2; have g0 := oO3.cell 0; have g1 := oO3.cell 1; have g2 := oF3.cell 2; have g3 := oP3.cell 0; have g4 := oP3.cell 1; simp at g0 g1 g2 g3 g4)
                        | (go_at_call 13; (with_reducible refine (HPU.out _).mono ?_); rintro e w3 ⟨rfl, rfl⟩)
                        | (go_at_call 46; (with_reducible refine (HLV.out _).mono ?_); rintro e w4 ⟨rfl, rfl⟩))
                      go_roundw
                      case rel => exact ⟨k + 1, by omega, by go_num, rfl, HN.out (by rw [HR.out]; rfl), HB2.out, oP3, oF3⟩
                      case measure => simp [intOf]; omega
    · obtain rfl : k = nops := by omega
      have HE := Lib.hid (HSN2.out hall.out)
      go_wp2_with fail
      (try rw [Exit.noGoto_ret])
      go_ret
      exact ⟨by rw [HE.out]; rfl, hB⟩
end Co
end Go.Proofs.Ytfkfckohajpcfaa

/-
  The program's code.Check: P13.2 whole.
-/
namespace Go.Proofs.Ytfkfckohajpcfaa
open Go.RowKit
set_option linter.unusedSimpArgs false
set_option linter.unusedVariables false
namespace Co

set_option maxRecDepth 100000 in
set_option maxHeartbeats 8000000 in
theorem check_any (fv ov : Value) (p : Prog) (w : World) (hP : Pr w.heap.size w fv ov p) (hI : ProgIn p) :
    Calls Try.prog 16 #[.agg #[fv, ov]] w fun e w' => e = .returned (chkV (check p)) ∧ Below w.heap.size w w' := by
  have HN := Lib.hid (fun W (hb : Below w.heap.size w W) i (hi : i < p.funcs.length) => funcMayBe_any fv ov p i W ((hP.below hb).wider hb.size) hI hi)
  have HR := Lib.hid (fun W (hb : Below w.heap.size w W) i (hi : i < p.funcs.length) => stray_any fv ov p i W ((hP.below hb).wider hb.size) hI hi)
  have HO := Lib.hid (fun W k (hk : k < p.opts.length) => optsMayBe_any p.opts[k] W)
  obtain ⟨⟨fa, fc, fb, fo, rfl, ha, hcells⟩, ⟨oa, oc, ob, oo, rfl, hoa, hob⟩⟩ := hP
  have hL := hI.nf
  have hLO := hI.no
  have HB := Lib.hid (fun W (hb : Below w.heap.size w W) q (hq : q < p.opts.length) m (hm : m < 11) => (hb.cell (p := ⟨ob, oo + q * 11 + m, none⟩) (hoa (by omega)).2).trans (hob q hq m hm))
  clear hcells hob hI ha
  have hA : Below w.heap.size w (w.alloc (.cells #[.slice fa p.funcs.length fc, .slice oa p.opts.length oc] 27)) := (Below.refl _ _).alloc (Nat.le_refl _) _
  have oP := Ob.Obj.new w 27 [.slice fa p.funcs.length fc, .slice oa p.opts.length oc]
  by_cases hbig : p.funcs.length = 0 ∨ 16 < p.funcs.length ∨ 8 < p.opts.length
  · have HE := Lib.hid (show chkV (check p) = .tuple #[.int .i64 40, .int .i64 (-1), .int .i64 (-1)] by rw [check_big hbig]; rfl)
    by_cases h0 : p.funcs.length = 0
    · have hn0 : (p.funcs.length : Int) < 1 := by omega
      clear hbig h0
      go_enter Try.func16, Try.ntmps16
      go_wp2_with fail
      go_ret3
      exact ⟨by rw [HE.out]; rfl, hA⟩
    · have hn0 : ¬ (p.funcs.length : Int) < 1 := by omega
      by_cases h1 : 16 < p.funcs.length
      · have hn1 : (16 : Int) < (p.funcs.length : Int) := by omega
        clear hbig h1 h0
        go_enter Try.func16, Try.ntmps16
        go_wp2_with fail
        go_ret3
        exact ⟨by rw [HE.out]; rfl, hA⟩
      · have hn1 : ¬ (16 : Int) < (p.funcs.length : Int) := by omega
        have hn2 : (8 : Int) < (p.opts.length : Int) := by omega
        clear hbig h1 h0
        go_enter Try.func16, Try.ntmps16
        go_wp2_with fail
        go_ret3
        exact ⟨by rw [HE.out]; rfl, hA⟩
  · have hn0 : ¬ (p.funcs.length : Int) < 1 := by omega
    have hn1 : ¬ (16 : Int) < (p.funcs.length : Int) := by omega
    have hn2 : ¬ (8 : Int) < (p.opts.length : Int) := by omega
    have HBIG := Lib.hid hbig
    clear hbig
    go_enter Try.func16, Try.ntmps16
    go_wp2_with fail
    go_loopw [28] (fun i wr => ∃ q : Nat, q ≤ p.opts.length ∧ i = .int .i64 (q : Int) ∧ Hid (∀ j (hj : j < p.opts.length), j < q → optB p.opts[j] = true) ∧ Below w.heap.size w wr ∧ Ob.Obj wr w.heap.size 27 [.slice fa p.funcs.length fc, .slice oa p.opts.length oc]) (fun i _ => p.opts.length - (intOf i).toNat)
    case atStart => exact ⟨0, Nat.zero_le _, rfl, fun j _ h => absurd h (Nat.not_lt_zero _), hA, oP⟩
    case round =>
      obtain ⟨q, hq, rfl, hall, hB, oPr⟩ := hrel
      obtain ⟨wo, rfl⟩ : ∃ wo : World, wo = wr := ⟨_, rfl⟩
      have p0 := oPr.cell 0
      have p1 := oPr.cell 1
      simp at p0 p1
      have hbs := hB.size
      by_cases hlt : q < p.opts.length
      · obtain ⟨rfl, hob⟩ := hoa (by omega)
        have c0 := HB.out wo hB q hlt 0 (by decide)
        have c1 := HB.out wo hB q hlt 1 (by decide)
        have c2 := HB.out wo hB q hlt 2 (by decide)
        have c3 := HB.out wo hB q hlt 3 (by decide)
        have c4 := HB.out wo hB q hlt 4 (by decide)
        have c5 := HB.out wo hB q hlt 5 (by decide)
        have c6 := HB.out wo hB q hlt 6 (by decide)
        have c7 := HB.out wo hB q hlt 7 (by decide)
        have c8 := HB.out wo hB q hlt 8 (by decide)
        have c9 := HB.out wo hB q hlt 9 (by decide)
        have c10 := HB.out wo hB q hlt 10 (by decide)
        have HOQ := Lib.hid (fun W => HO.out W q hlt)
        have HS : Hid (optB p.opts[q] = true → ∀ j (hj : j < p.opts.length), j < q + 1 → optB p.opts[j] = true) := fun h j hj hjq => by
          rcases Nat.lt_or_ge j q with h1 | h1
          · exact hall.out j hj h1
          · obtain rfl : j = q := by omega
            exact h
        have HX : Hid (optB p.opts[q] = false → check p = (40, -1, (q : Int))) := fun h => check_opt HBIG.out hlt hall.out h
        have hi1 : (0 : Int) ≤ (q : Int) ∧ (q : Int) < (p.opts.length : Int) := by omega
        have hwb : ob < wo.heap.size := by omega
        have HBN := Lib.hid (hB.alloc hB.size (.cells (optC p.opts[q]).toArray 54))
        have HPN := Lib.hid (oPr.alloc (.cells (optC p.opts[q]).toArray 54))
        generalize optB p.opts[q] = b at *
        generalize p.opts[q] = o at *
        unfold optV at HOQ
        unfold optC at c0 c1 c2 c3 c4 c5 c6 c7 c8 c9 c10 HBN HPN
        simp only [List.getElem?_cons_zero, List.getElem?_cons_succ, Nat.add_zero] at c0 c1 c2 c3 c4 c5 c6 c7 c8 c9 c10
        cases b with
        | true =>
          go_wp2_with (go_at_call 26; (with_reducible refine (HOQ.out _).mono ?_); rintro e w1 ⟨rfl, hb1⟩; have hB1 := HBN.out.trans (hb1.mono HBN.out.size); have o1 := HPN.out.below hb1)
          go_roundw
          case rel => exact ⟨q + 1, by omega, by go_num, HS.out (by trivial), hB1, o1⟩
          case measure => simp [intOf]; omega
        | false =>
          have HE := Lib.hid (show chkV (check p) = .tuple #[.int .i64 40, .int .i64 (-1), .int .i64 (q : Int)] by rw [HX.out (by trivial)]; rfl)
          go_wp2_with (go_at_call 26; (with_reducible refine (HOQ.out _).mono ?_); rintro e w1 ⟨rfl, hb1⟩; have hB1 := HBN.out.trans (hb1.mono HBN.out.size))
          go_ret3
          exact ⟨by rw [HE.out]; rfl, hB1⟩
      · obtain rfl : q = p.opts.length := by omega
        have HC := Lib.hid (check_go HBIG.out (fun j hj => hall.out j hj hj))
        go_wp2_with fail
        go_loopw [41] (fun i wr => ∃ q : Nat, q ≤ p.funcs.length ∧ i = .int .i64 (q : Int) ∧ Hid (chkGo p 0 p.funcs.length = chkGo p q (p.funcs.length - q)) ∧ Below w.heap.size w wr ∧ Ob.Obj wr w.heap.size 27 [.slice fa p.funcs.length fc, .slice oa p.opts.length oc]) (fun i _ => p.funcs.length - (intOf i).toNat)
        case atStart => exact ⟨0, Nat.zero_le _, rfl, rfl, hB, oPr⟩
        case round =>
          clear hB oPr p0 p1 hbs
          obtain ⟨q, hq, rfl, hgo, hB, oPr⟩ := hrel
          obtain ⟨wo, rfl⟩ : ∃ wo : World, wo = wr := ⟨_, rfl⟩
          have p0 := oPr.cell 0
          have p1 := oPr.cell 1
          simp at p0 p1
          have hbs := hB.size
          by_cases hlt : q < p.funcs.length
          · have HNQ := Lib.hid (fun W (hb : Below w.heap.size w W) => HN.out W hb q hlt)
            have HRQ := Lib.hid (fun W (hb : Below w.heap.size w W) => HR.out W hb q hlt)
            have HD : Hid (p.funcs.length - q = p.funcs.length - (q + 1) + 1) := show _ = _ by omega
            cases hnm : namedB p q with
            | false =>
              have HE := Lib.hid (show chkV (check p) = .tuple #[.int .i64 40, .int .i64 (q : Int), .int .i64 (-1)] by rw [HC.out, hgo.out, HD.out, chk_bad hnm]; rfl)
              rw [hnm] at HNQ
              clear hnm
              go_wp2_with (go_at_call 27; (with_reducible refine (HNQ.out _ hB).mono ?_); rintro e w1 ⟨rfl, hb1⟩; have hB1 := hB.trans (hb1.mono hbs))
              go_ret3
              exact ⟨by rw [HE.out]; rfl, hB1⟩
            | true =>
              have HST := Lib.hid (chk_stray (n := p.funcs.length - (q + 1)) hnm)
              rw [hnm] at HNQ
              clear hnm
              generalize strayP p q = sp at *
              by_cases hs : 0 ≤ sp
              · have HE := Lib.hid (show chkV (check p) = .tuple #[.int .i64 40, .int .i64 (q : Int), .int .i64 sp] by rw [HC.out, hgo.out, HD.out, HST.out, if_pos hs]; rfl)
                go_wp2_with (first
                  | (go_at_call 27; (with_reducible refine (HNQ.out _ hB).mono ?_); rintro e w1 ⟨rfl, hb1⟩; have hB1 := hB.trans (hb1.mono hbs); have oP1 := oPr.below hb1; have p2 := oP1.cell 0; have p3 := oP1.cell 1; simp at p2 p3)
                  | (go_at_call 28; (with_reducible refine (HRQ.out _ hB1).mono ?_); rintro e w2 ⟨rfl, hb2⟩; have hB2 := hB1.trans (hb2.mono hB1.size)))
                go_ret3
                exact ⟨by rw [HE.out]; rfl, hB2⟩
              · have HNX := Lib.hid (show chkGo p 0 p.funcs.length = chkGo p (q + 1) (p.funcs.length - (q + 1)) by rw [hgo.out, HD.out, HST.out, if_neg hs])
                go_wp2_with (first
                  | (go_at_call 27; (with_reducible refine (HNQ.out _ hB).mono ?_); rintro e w1 ⟨rfl, hb1⟩; have hB1 := hB.trans (hb1.mono hbs); have oP1 := oPr.below hb1; have p2 := oP1.cell 0; have p3 := oP1.cell 1; simp at p2 p3)
                  | (go_at_call 28; (with_reducible refine (HRQ.out _ hB1).mono ?_); rintro e w2 ⟨rfl, hb2⟩; have hB2 := hB1.trans (hb2.mono hB1.size); have oP2 := oP1.below hb2))
                go_roundw
                case rel => exact ⟨q + 1, by omega, by go_num, HNX.out, hB2, oP2⟩
                case measure => simp [intOf]; omega
          · obtain rfl : q = p.funcs.length := by omega
            have HE := Lib.hid (show chkV (check p) = .tuple #[.int .i64 0, .int .i64 0, .int .i64 0] by rw [HC.out, hgo.out, Nat.sub_self]; rfl)
            go_wp2_with fail
            go_ret3
            exact ⟨by rw [HE.out]; rfl, hB⟩
end Co
end Go.Proofs.Ytfkfckohajpcfaa
