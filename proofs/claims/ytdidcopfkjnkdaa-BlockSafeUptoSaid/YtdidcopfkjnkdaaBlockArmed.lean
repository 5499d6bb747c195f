/-
  The walk of the law BlockArmed.
-/
import Derived.Test.YtdidcopfkjnkdaaBlockPlays
namespace Go.Proofs.Ytdidcopfkjnkdaa
open Go.RowKit
set_option linter.unusedSimpArgs false
set_option linter.unusedVariables false
variable {DevAt : Nat → Nat → Sq.Blocks → Bl.St → World → Prop}

namespace Bl
/-- what a Write that may be, or a Sync, does to what is armed -/
structure Out (σ : St) (r : St × Nat) : Prop where
  dead : σ.down = true → r = (σ, 4)
  live : σ.down = false → r.2 = (if σ.armed = 1 then 4 else 0) ∧ r.1.acts = σ.acts + 1 ∧ r.1.down = decide (σ.armed = 1) ∧ r.1.armed = σ.armed - 1
theorem act_out (σ : St) (h : σ.down = false) : (act σ).2 = decide (σ.armed = 1) ∧ (act σ).1.acts = σ.acts + 1 ∧ (act σ).1.down = decide (σ.armed = 1) ∧ (act σ).1.armed = σ.armed - 1 := by
  unfold act
  by_cases h0 : σ.armed = 0
  · rw [if_pos h0]; simp [h0, h]
  · rw [if_neg h0]
    by_cases h1 : σ.armed = 1
    · rw [if_pos h1]; simp [h1]
    · rw [if_neg h1]; simp [h1, h]
theorem out_write (σ : St) (i : Int) (s : Dat) (hi : inR σ i) (hs : s.length = 256) : Out σ (write σ i s) := by
  refine ⟨fun h => by unfold write; rw [if_pos h], fun h => ?_⟩
  obtain ⟨a1, a2, a3, a4⟩ := act_out { σ with wait := σ.wait ++ [(i.toNat, s)] } h
  have e : (act { σ with wait := σ.wait ++ [(i.toNat, s)] }).2 = (act σ).2 := act_wait σ _
  unfold write
  rw [if_neg (by simp [h]), if_pos ⟨hi, hs⟩]
  refine ⟨?_, a2, a3, a4⟩
  rw [e] at a1
  simp only at a1
  rw [a1]
  by_cases h1 : σ.armed = 1 <;> simp [h1]
theorem out_sync (σ : St) : Out σ (sync σ) := by
  refine ⟨fun h => by unfold sync; rw [if_pos h], fun h => ?_⟩
  obtain ⟨a1, a2, a3, a4⟩ := act_out σ h
  unfold sync
  rw [if_neg (by simp [h])]
  by_cases h1 : (act σ).2 = true
  · rw [if_pos h1]
    rw [h1] at a1
    have : σ.armed = 1 := by simpa using a1.symm
    exact ⟨by simp [this], a2, a3, a4⟩
  · rw [if_neg h1]
    have h2 : (act σ).2 = false := by simpa using h1
    rw [h2] at a1
    have : ¬ σ.armed = 1 := by simpa using a1.symm
    exact ⟨by simp [this], a2, a3, a4⟩
/-- where an armed disk stands behind k acts -/
structure AInv (n : Int) (k : Nat) (σ : St) : Prop where
  ok : Ok σ
  len : σ.safe.length = 40
  wait : σ.wait.length ≤ k
  epochs : σ.epochs = 0
  acts : σ.acts ≤ k
  how : (n ≤ 0 ∧ σ.armed = 0 ∧ σ.down = false ∧ σ.acts = k) ∨ (0 < n ∧ (k : Int) < n ∧ (σ.armed : Int) = n - k ∧ σ.down = false ∧ σ.acts = k) ∨ (0 < n ∧ n ≤ k ∧ σ.down = true ∧ (σ.acts : Int) = n)
theorem AInv.next {n : Int} {k : Nat} {σ : St} (h : AInv n k σ) {r : St × Nat} (ho : Out σ r) (nr : Near σ r.1) (he : r.1.epochs = 0) :
    AInv n (k + 1) r.1 ∧ (((n ≤ 0 ∨ (k : Int) + 1 < n) ∧ r.2 = 0 ∧ r.1.down = false ∧ r.1.acts = k + 1) ∨ ((0 < n ∧ n ≤ (k : Int) + 1) ∧ r.2 = 4 ∧ r.1.down = true ∧ (r.1.acts : Int) = n)) := by
  have base : ∀ hw, AInv n (k + 1) r.1 := fun hw => ⟨nr.ok, nr.safe.trans h.len, by have := nr.wait; have := h.wait; omega, he, by have := nr.acts; have := h.acts; omega, hw⟩
  rcases h.how with ⟨h1, h2, h3, h4⟩ | ⟨h1, h2, h3, h4, h5⟩ | ⟨h1, h2, h3, h4⟩
  · obtain ⟨o1, o2, o3, o4⟩ := ho.live h3
    rw [h2] at o1 o3 o4
    simp at o1 o3 o4
    exact ⟨base (.inl ⟨h1, o4, o3, by omega⟩), .inl ⟨.inl h1, o1, o3, by omega⟩⟩
  · obtain ⟨o1, o2, o3, o4⟩ := ho.live h4
    by_cases h6 : σ.armed = 1
    · rw [h6] at o1 o3
      simp at o1 o3
      exact ⟨base (.inr (.inr ⟨h1, by omega, o3, by omega⟩)), .inr ⟨⟨h1, by omega⟩, o1, o3, by omega⟩⟩
    · rw [if_neg h6] at o1
      rw [decide_eq_false h6] at o3
      exact ⟨base (.inr (.inl ⟨h1, by omega, by omega, o3, by omega⟩)), .inl ⟨.inr (by omega), o1, o3, by omega⟩⟩
  · have e := ho.dead h3
    rw [e] at nr ⊢
    exact ⟨by have := base; rw [e] at this; exact this (.inr (.inr ⟨h1, by omega, h3, h4⟩)), .inr ⟨⟨h1, by omega⟩, rfl, h3, h4⟩⟩
end Bl

set_option maxRecDepth 100000 in
set_option maxHeartbeats 4000000 in
theorem blockArmed_walk (D : DevOk DevAt) (n : Int) (a : Option Addr) (cap b off : Nat) (L : List AAct) (w : World) (n1 : -9223372036854775808 ≤ n) (n2 : n ≤ 9223372036854775807)
    (ha : 0 < L.length → a = some ⟨b, off, none⟩ ∧ b < w.heap.size)
    (hc : ∀ k (h : k < L.length), w.cell? ⟨b, off + k * 4, none⟩ = some (.int .i64 L[k].kind) ∧ w.cell? ⟨b, off + k * 4 + 1, none⟩ = some (.int .i64 L[k].i) ∧ w.cell? ⟨b, off + k * 4 + 2, none⟩ = some (.int .i64 L[k].n) ∧ w.cell? ⟨b, off + k * 4 + 3, none⟩ = some L[k].kv)
    (hok : ∀ x ∈ L, x.Ok w) (hL : L.length ≤ 1048576) :
    Calls Try.prog 6 #[.int .i64 n, .slice a L.length cap] w fun e w' => e = .returned (.bool true) ∧ Below w.heap.size w w' := by
  have hN := Lib.hid (D.new 40 w (by omega) (by omega))
  have hb0 : Bnd (Bl.new 40) := ⟨Bl.new_ok (by omega), by simp [Bl.new], by simp [Bl.new], by simp [Bl.new]⟩
  have hI0 : Bl.AInv n 0 (Bl.arm (Bl.new 40) n) := by
    refine ⟨hb0.ok.arm n2, by simp [Bl.arm, Bl.new], by simp [Bl.arm, Bl.new], by simp [Bl.arm, Bl.new], by simp [Bl.arm, Bl.new], ?_⟩
    by_cases h : n ≤ 0
    · exact .inl ⟨h, by simp [Bl.arm]; omega, by simp [Bl.arm, Bl.new], by simp [Bl.arm, Bl.new]⟩
    · exact .inr (.inl ⟨by omega, by omega, by simp [Bl.arm]; omega, by simp [Bl.arm, Bl.new], by simp [Bl.arm, Bl.new]⟩)
  generalize hσ0 : Bl.new 40 = σ0 at hN hb0 hI0
  clear hσ0
  go_enter Try.func6, Try.ntmps6
  go_wp2_with (first
    | (go_at_call 8; refine hN.out.mono ?_; rintro e w1 ⟨bd, Sd, rfl, hd1, b1⟩)
    | (go_at_call 22; refine (D.arm hd1 hb0 n ⟨n1, n2⟩).mono ?_; rintro e w2 ⟨⟨v2, rfl⟩, S2, hd2, st2⟩; have b2 := b1.trans (st2.kept.below (B := w.heap.size) (fun k hk hs => by have := (D.lo hd1 k hs).1; omega) b1.size)))
  clear hd1 b1 st2 hN
  go_loopw [6, 7, 8] (fun ev fv j wr => ∃ (k : Nat) (S : Sq.Blocks) (σ : Bl.St) (E : Int), k ≤ L.length ∧ j = .int .i64 k ∧ ev = .int .i64 E ∧ fv = .int .i64 (if n ≤ 0 then (k : Int) else min (k : Int) (n - 1)) ∧ DevAt w.heap.size bd S σ wr ∧ Below w.heap.size w wr ∧ Bl.AInv n k σ) (fun _ _ j _ => L.length - (intOf j).toNat)
  case atStart => exact ⟨0, S2, _, 0, Nat.zero_le _, rfl, rfl, by split <;> simp; omega, hd2, b2, hI0⟩
  case round =>
    obtain ⟨k, S, σ, E, hk, rfl, rfl, rfl, hd, hb, hI⟩ := hrel
    by_cases hlt : k < L.length
    · obtain ⟨rfl, hbl⟩ := ha (by omega)
      obtain ⟨q0, q1, q2, q3⟩ := hc k hlt
      have hx := hok L[k] (List.getElem_mem hlt)
      have hbs := hb.size
      have e0 := (hb.cell (p := ⟨b, off + k * 4, none⟩) hbl).trans q0
      have e2 := (hb.cell (p := ⟨b, off + k * 4 + 2, none⟩) hbl).trans q2
      have hnn := hx.n1
      have hkk := hx.k1
      generalize L[k].kind = kd at *
      generalize L[k].n = nn at *
      have hi1 : (0 : Int) ≤ (k : Int) ∧ (k : Int) < (L.length : Int) := by omega
      have hbnd : Bnd σ := ⟨hI.ok, by have := hI.wait; omega, by have := hI.acts; omega, by rw [hI.epochs]; omega⟩
      have hF := Lib.hid (filled_any nn 256 wr hnn.1 hnn.2 (by omega))
      have hiR : Bl.inR σ 5 := ⟨by omega, by rw [hI.len]; omega⟩
      have hfl : (fillD nn 256).length = 256 := fillD_len _ _
      -- the two acts alike
      obtain ⟨hIw, hEw⟩ := hI.next (Bl.out_write σ 5 (fillD nn 256) hiR hfl) (Bl.Near.write hI.ok 5 _) (by have := hI.epochs; unfold Bl.write; split <;> (try split) <;> simp only [Bl.act_safe] <;> simp [this])
      obtain ⟨hIs, hEs⟩ := hI.next (Bl.out_sync σ) (Bl.Near.sync hI.ok) (by have := hI.epochs; unfold Bl.sync; split <;> (try split) <;> simp only [Bl.act_safe] <;> simp [this])
      have hAc : ∀ (σ' : Bl.St), Bl.AInv n (k + 1) σ' → Bnd σ' := fun σ' h => ⟨h.ok, by have := h.wait; omega, by have := h.acts; omega, by rw [h.epochs]; omega⟩
      by_cases hP : n ≤ 0 ∨ (k : Int) + 1 < n
      · skip
        have hw' := hEw.resolve_right (fun h => by have := h.1; omega)
        have hs' := hEs.resolve_right (fun h => by have := h.1; omega)
        have hW : ∀ W, DevAt w.heap.size bd S σ W → Calls Try.prog 16 #[.pointer (some ⟨bd, 0, none⟩), .int .i64 5, .string (Cd.bs (fillD nn 256))] W fun e w' => e = .returned (.int .i64 0) ∧ ∃ S', DevAt w.heap.size bd S' (Bl.write σ 5 (fillD nn 256)).1 w' ∧ Sq.Step S S' W w' := fun W hd' => by
          have := D.write (W := W) hd' hbnd 5 (fillD nn 256) (by omega) (by omega)
          rw [hw'.2.1] at this; exact this
        have hS : ∀ W, DevAt w.heap.size bd S σ W → Calls Try.prog 18 #[.pointer (some ⟨bd, 0, none⟩)] W fun e w' => e = .returned (.int .i64 0) ∧ ∃ S', DevAt w.heap.size bd S' (Bl.sync σ).1 w' ∧ Sq.Step S S' W w' := fun W hd' => by
          have := D.sync (W := W) hd' hbnd
          rw [hs'.2.1] at this; exact this
        have hA : ∀ (S : Sq.Blocks) (W : World) (σ' : Bl.St), DevAt w.heap.size bd S σ' W → Bl.AInv n (k + 1) σ' → (σ'.down = false ∧ σ'.acts = k + 1) → Calls Try.prog 23 #[.pointer (some ⟨bd, 0, none⟩)] W fun e w' => e = .returned (.int .i64 ((k : Int) + 1)) ∧ ∃ S', DevAt w.heap.size bd S' σ' w' ∧ Sq.Step S S' W w' := fun S W σ' hd' hI' he => by
          have := D.acts hd' (hAc σ' hI')
          rw [he.2] at this; exact this
        have hU : ∀ (S : Sq.Blocks) (W : World) (σ' : Bl.St), DevAt w.heap.size bd S σ' W → Bl.AInv n (k + 1) σ' → (σ'.down = false ∧ σ'.acts = k + 1) → Calls Try.prog 20 #[.pointer (some ⟨bd, 0, none⟩)] W fun e w' => e = .returned (.bool true) ∧ ∃ S', DevAt w.heap.size bd S' σ' w' ∧ Sq.Step S S' W w' := fun S W σ' hd' hI' he => by
          have := D.up hd' (hAc σ' hI')
          rw [he.1] at this; exact this
        have g1 := Lib.hid hw'.2.2
        have g2 := Lib.hid hs'.2.2
        replace hW := Lib.hid hW
        replace hS := Lib.hid hS
        replace hA := Lib.hid hA
        replace hU := Lib.hid hU
        clear hEw hEs hw' hs' hAc
        go_wp2_with (first
          | (go_at_call 17; refine hF.out.mono ?_; rintro e w1 ⟨rfl, b1⟩; have hd1 := D.kept hd (Sq.Kept.of_below (T := S) b1))
          | (go_at_call 16; refine (hW.out _ hd1).mono ?_; rintro e w3 ⟨rfl, S3, hd3, st3⟩; have b3 := (hb.trans (b1.mono hbs)).trans (st3.kept.below (B := w.heap.size) (fun x hx hs => by have := (D.lo hd1 x hs).1; omega) (Nat.le_trans hbs b1.size)); have hI3 := hIw; have g3 := g1)
          | (go_at_call 18; refine (hS.out _ hd).mono ?_; rintro e w3 ⟨rfl, S3, hd3, st3⟩; have b3 := hb.trans (st3.kept.below (B := w.heap.size) (fun x hx hs => by have := (D.lo hd x hs).1; omega) hbs); have hI3 := hIs; have g3 := g2)
          | (go_at_call 23; refine (hA.out _ _ _ hd3 hI3 g3.out).mono ?_; rintro e w4 ⟨rfl, S4, hd4, st4⟩; have b4 := b3.trans (st4.kept.below (B := w.heap.size) (fun x hx hs => by have := (D.lo hd3 x hs).1; omega) b3.size))
          | (go_at_call 20; refine (hU.out _ _ _ hd4 hI3 g3.out).mono ?_; rintro e w5 ⟨rfl, S5, hd5, st5⟩; have b5 := b4.trans (st5.kept.below (B := w.heap.size) (fun x hx hs => by have := (D.lo hd4 x hs).1; omega) b4.size)))
        all_goals (refine ⟨⟨k + 1, S5, _, 0, hlt, by push_cast; rfl, rfl, ?_, hd5, b5, hI3⟩, by simp [intOf]; omega⟩; have hfi : (if n ≤ 0 then (k : Int) else min (k : Int) (n - 1)) + 1 = (if n ≤ 0 then ((k + 1 : Nat) : Int) else min ((k + 1 : Nat) : Int) (n - 1)) := by { split <;> omega }; rw [hfi])
      · skip
        have hw' := hEw.resolve_left (fun h => by have := h.1; omega)
        have hs' := hEs.resolve_left (fun h => by have := h.1; omega)
        have hW : ∀ W, DevAt w.heap.size bd S σ W → Calls Try.prog 16 #[.pointer (some ⟨bd, 0, none⟩), .int .i64 5, .string (Cd.bs (fillD nn 256))] W fun e w' => e = .returned (.int .i64 4) ∧ ∃ S', DevAt w.heap.size bd S' (Bl.write σ 5 (fillD nn 256)).1 w' ∧ Sq.Step S S' W w' := fun W hd' => by
          have := D.write (W := W) hd' hbnd 5 (fillD nn 256) (by omega) (by omega)
          rw [hw'.2.1] at this; exact this
        have hS : ∀ W, DevAt w.heap.size bd S σ W → Calls Try.prog 18 #[.pointer (some ⟨bd, 0, none⟩)] W fun e w' => e = .returned (.int .i64 4) ∧ ∃ S', DevAt w.heap.size bd S' (Bl.sync σ).1 w' ∧ Sq.Step S S' W w' := fun W hd' => by
          have := D.sync (W := W) hd' hbnd
          rw [hs'.2.1] at this; exact this
        have hA : ∀ (S : Sq.Blocks) (W : World) (σ' : Bl.St), DevAt w.heap.size bd S σ' W → Bl.AInv n (k + 1) σ' → (σ'.down = true ∧ (σ'.acts : Int) = n) → Calls Try.prog 23 #[.pointer (some ⟨bd, 0, none⟩)] W fun e w' => e = .returned (.int .i64 (n)) ∧ ∃ S', DevAt w.heap.size bd S' σ' w' ∧ Sq.Step S S' W w' := fun S W σ' hd' hI' he => by
          have := D.acts hd' (hAc σ' hI')
          rw [he.2] at this; exact this
        have hU : ∀ (S : Sq.Blocks) (W : World) (σ' : Bl.St), DevAt w.heap.size bd S σ' W → Bl.AInv n (k + 1) σ' → (σ'.down = true ∧ (σ'.acts : Int) = n) → Calls Try.prog 20 #[.pointer (some ⟨bd, 0, none⟩)] W fun e w' => e = .returned (.bool false) ∧ ∃ S', DevAt w.heap.size bd S' σ' w' ∧ Sq.Step S S' W w' := fun S W σ' hd' hI' he => by
          have := D.up hd' (hAc σ' hI')
          rw [he.1] at this; exact this
        have g1 := Lib.hid hw'.2.2
        have g2 := Lib.hid hs'.2.2
        replace hW := Lib.hid hW
        replace hS := Lib.hid hS
        replace hA := Lib.hid hA
        replace hU := Lib.hid hU
        clear hEw hEs hw' hs' hAc
        go_wp2_with (first
          | (go_at_call 17; refine hF.out.mono ?_; rintro e w1 ⟨rfl, b1⟩; have hd1 := D.kept hd (Sq.Kept.of_below (T := S) b1))
          | (go_at_call 16; refine (hW.out _ hd1).mono ?_; rintro e w3 ⟨rfl, S3, hd3, st3⟩; have b3 := (hb.trans (b1.mono hbs)).trans (st3.kept.below (B := w.heap.size) (fun x hx hs => by have := (D.lo hd1 x hs).1; omega) (Nat.le_trans hbs b1.size)); have hI3 := hIw; have g3 := g1)
          | (go_at_call 18; refine (hS.out _ hd).mono ?_; rintro e w3 ⟨rfl, S3, hd3, st3⟩; have b3 := hb.trans (st3.kept.below (B := w.heap.size) (fun x hx hs => by have := (D.lo hd x hs).1; omega) hbs); have hI3 := hIs; have g3 := g2)
          | (go_at_call 23; refine (hA.out _ _ _ hd3 hI3 g3.out).mono ?_; rintro e w4 ⟨rfl, S4, hd4, st4⟩; have b4 := b3.trans (st4.kept.below (B := w.heap.size) (fun x hx hs => by have := (D.lo hd3 x hs).1; omega) b3.size))
          | (go_at_call 20; refine (hU.out _ _ _ hd4 hI3 g3.out).mono ?_; rintro e w5 ⟨rfl, S5, hd5, st5⟩; have b5 := b4.trans (st5.kept.below (B := w.heap.size) (fun x hx hs => by have := (D.lo hd4 x hs).1; omega) b4.size)))
        all_goals (refine ⟨⟨k + 1, S5, _, 4, hlt, by push_cast; rfl, rfl, ?_, hd5, b5, hI3⟩, by simp [intOf]; omega⟩; have hfi : (if n ≤ 0 then (k : Int) else min (k : Int) (n - 1)) = (if n ≤ 0 then ((k + 1 : Nat) : Int) else min ((k + 1 : Nat) : Int) (n - 1)) := by { split <;> omega }; rw [hfi])
    · have hkL : k = L.length := by omega
      have hl1 : (0 : Int) ≤ (L.length : Int) ∧ (L.length : Int) ≤ 1048576 := by omega
      have hl2 : ((k : Int)) = (L.length : Int) := by omega
      by_cases hn : n ≤ 0
      · have hfv : (if n ≤ 0 then (k : Int) else min (k : Int) (n - 1)) = (L.length : Int) := by rw [if_pos hn]; omega
        rw [hfv]
        go_wp2
        go_ret
        exact ⟨rfl, hb⟩
      · have hfv : (if n ≤ 0 then (k : Int) else min (k : Int) (n - 1)) = min (L.length : Int) (n - 1) := by rw [if_neg hn]; omega
        rw [hfv]
        go_wp2
        go_ret
        exact ⟨rfl, hb⟩
end Go.Proofs.Ytdidcopfkjnkdaa
