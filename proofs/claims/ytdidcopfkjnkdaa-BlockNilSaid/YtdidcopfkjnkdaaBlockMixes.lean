/-
  The walk of the law BlockMixes.
-/
import Derived.Test.YtdidcopfkjnkdaaBlockSafe
namespace Go.Proofs.Ytdidcopfkjnkdaa
open Go.RowKit
set_option linter.unusedSimpArgs false
set_option linter.unusedVariables false
variable {DevAt : Nat → Nat → Sq.Blocks → Bl.St → World → Prop}

/-- a block is one of what was written to it by the first acts, or safe from the start -/
def WholeAt (L : List AAct) (n : Nat) (j : Nat) (s : Bl.Dat) : Prop := s = Bl.noughts ∨ ∃ m, ∃ h : m < L.length, m < n ∧ (L[m]'h).i = (j : Int) ∧ s = fillD (L[m]'h).n 256
theorem WholeAt.zero (L : List AAct) (j : Nat) (s : Bl.Dat) : WholeAt L 0 j s ↔ s = Bl.noughts := ⟨fun h => h.elim id (fun ⟨m, _, h, _⟩ => by omega), .inl⟩
theorem WholeAt.succ (L : List AAct) (n : Nat) (hn : n < L.length) (j : Nat) (s : Bl.Dat) : WholeAt L (n + 1) j s ↔ WholeAt L n j s ∨ (L[n].i = (j : Int) ∧ s = fillD L[n].n 256) := by
  constructor
  · rintro (h | ⟨m, hm, h1, h2, h3⟩)
    · exact .inl (.inl h)
    · by_cases e : m = n
      · subst e; exact .inr ⟨h2, h3⟩
      · exact .inl (.inr ⟨m, hm, by omega, h2, h3⟩)
  · rintro ((h | ⟨m, hm, h1, h2, h3⟩) | ⟨h2, h3⟩)
    · exact .inl h
    · exact .inr ⟨m, hm, by omega, h2, h3⟩
    · exact .inr ⟨n, hn, by omega, h2, h3⟩

/-- what waits was written by the acts -/
structure PInv (L : List AAct) (n : Nat) (σ : Bl.St) : Prop where
  safe : σ.safe = List.replicate 40 Bl.noughts
  mem : ∀ x ∈ σ.wait, ∃ m, ∃ h : m < L.length, m < n ∧ (L[m]'h).i = (x.1 : Int) ∧ x.2 = fillD (L[m]'h).n 256
theorem PInv.write {L : List AAct} {n : Nat} {σ : Bl.St} {k : Nat} (h : PInv L n σ) (hI : Bl.WInv k σ) (hn : n < L.length) : PInv L (n + 1) (Bl.write σ L[n].i (fillD L[n].n 256)).1 :=
  ⟨(Bl.write_safe hI _ _).trans h.safe, fun x hx => (Bl.write_mem hI _ _ x hx).elim (fun hx => by obtain ⟨m, hm, h1, h2⟩ := h.mem x hx; exact ⟨m, hm, by omega, h2⟩) (fun ⟨e1, e2⟩ => ⟨n, hn, by omega, e1.symm, e2⟩)⟩
theorem PInv.crash {L : List AAct} {n : Nat} {σ : Bl.St} (h : PInv L n σ) (keep : List Bool) (torn bytes : Int) : ∃ t : Nat, ∀ j, j < 40 → j ≠ t → WholeAt L n j ((Bl.crash σ keep torn bytes).safe.getD j []) := by
  obtain ⟨t, ht⟩ := Bl.crash_whole σ keep torn bytes
  refine ⟨t, fun j hj hne => ?_⟩
  rcases ht j hne with e | ⟨x, hx, e1, e2⟩
  · refine .inl (e.trans ?_)
    rw [h.safe, List.getD_eq_getElem?_getD, List.getElem?_replicate, if_pos hj]; rfl
  · obtain ⟨m, hm, h1, h2, h3⟩ := h.mem x hx
    exact .inr ⟨m, hm, h1, by rw [h2, e1], e2.trans h3⟩

/-- the memory of a disk and the act's box -/
structure Mem1 (DevAt : Nat → Nat → Sq.Blocks → Bl.St → World → Prop) (B0 bd : Nat) (w : World) (v0 v1 v2 v3 : Value) (S : Sq.Blocks) (σ : Bl.St) (W : World) : Prop where
  dev : DevAt B0 bd S σ W
  below : Below w.heap.size w W
  box : Box4c W w.heap.size v0 v1 v2 v3 w.heap.size
  base : w.heap.size < B0
namespace Mem1
variable {B0 bd : Nat} {w : World} {v0 v1 v2 v3 : Value} {S S' : Sq.Blocks} {σ σ' : Bl.St} {W W' : World}
theorem at_below (D : DevOk DevAt) (h : Mem1 DevAt B0 bd w v0 v1 v2 v3 S σ W) (hb : Below W.heap.size W W') : Mem1 DevAt B0 bd w v0 v1 v2 v3 S σ W' :=
  ⟨D.kept h.dev (Sq.Kept.of_below hb), h.below.trans (hb.mono h.below.size), h.box.kept (Sq.Kept.of_below (T := fun _ => True) hb) trivial, h.base⟩
theorem step (D : DevOk DevAt) (h : Mem1 DevAt B0 bd w v0 v1 v2 v3 S σ W) (hd : DevAt B0 bd S' σ' W') (st : Sq.Step S S' W W') : Mem1 DevAt B0 bd w v0 v1 v2 v3 S' σ' W' :=
  ⟨hd, h.below.trans (st.kept.below (B := w.heap.size) (fun x hx hs => by have := (D.lo h.dev x hs).1; have := h.base; omega) h.below.size), h.box.kept st.kept (fun hs => by have := (D.lo h.dev _ hs).1; have := h.base; omega), h.base⟩
end Mem1

set_option maxRecDepth 100000 in
set_option maxHeartbeats 4000000 in
theorem blockMixes_walk (D : DevOk DevAt) (a1 : Option Addr) (c1 b1 o1 : Nat) (L1 : List AAct) (x : AAct) (w : World)
    (A1 : Acts w a1 b1 o1 L1) (hx : x.Ok w) :
    Calls Try.prog 5 #[.slice a1 L1.length c1, .agg #[.int .i64 x.kind, .int .i64 x.i, .int .i64 x.n, x.kv]] w fun e w' => e = .returned (.bool true) ∧ Below w.heap.size w w' := by
  obtain ⟨xk, xi, xn, kv, keep⟩ := x
  obtain ⟨ka, kcap, hkv⟩ := hx.row.form
  simp only at hkv
  subst hkv
  obtain ⟨_, hxi, hxn, hrow, hlen⟩ := hx
  simp only at hxi hxn hrow hlen
  have hN := Lib.hid fun W => D.new 40 W (by omega) (by omega)
  have hl1 := A1.len
  go_enter Try.func5, Try.ntmps5
  obtain ⟨wA, hwA⟩ : ∃ wA, w.alloc (.cells #[.int .i64 xk, .int .i64 xi, .int .i64 xn, .slice ka keep.length kcap] 33) = wA := ⟨_, rfl⟩
  have bx0 : Box4c wA w.heap.size (.int .i64 xk) (.int .i64 xi) (.int .i64 xn) (.slice ka keep.length kcap) w.heap.size := by rw [← hwA]; exact Box4c.new w _ _ _ _ _ _
  have b0 : Below w.heap.size w wA := by rw [← hwA]; exact (Below.refl _ w).alloc (Nat.le_refl _) _
  go_wp2_with (go_at_call 8; refine (hN.out _).mono ?_; rintro e w1 ⟨bd, Sd, rfl, hd1, q1⟩)
  have hBA : w.heap.size < wA.heap.size := by rw [← hwA]; simp
  have hM1 : Mem1 DevAt wA.heap.size bd w (.int .i64 xk) (.int .i64 xi) (.int .i64 xn) (.slice ka keep.length kcap) Sd (Bl.new 40) w1 := ⟨hd1, b0.trans (q1.mono b0.size), bx0.kept (Sq.Kept.of_below (T := fun _ => True) q1) trivial, hBA⟩
  generalize wA.heap.size = B0 at hM1
  have hP0 : PInv L1 0 (Bl.new 40) := ⟨rfl, fun x hx => by simp [Bl.new] at hx⟩
  clear hN q1 bx0 b0 hd1 hBA
  go_loopw [7] (fun j wr => ∃ (k : Nat) (S : Sq.Blocks) (σ : Bl.St), k ≤ L1.length ∧ j = .int .i64 k ∧ Mem1 DevAt B0 bd w (.int .i64 xk) (.int .i64 xi) (.int .i64 xn) (.slice ka keep.length kcap) S σ wr ∧ Bl.WInv k σ ∧ PInv L1 k σ) (fun j _ => L1.length - (intOf j).toNat)
  case atStart => exact ⟨0, Sd, Bl.new 40, Nat.zero_le _, rfl, hM1, Bl.WInv.new, hP0⟩
  case round =>
    clear hM1 hP0
    obtain ⟨k, S, σ, hk, rfl, hM, hI, hP⟩ := hrel
    by_cases hlt : k < L1.length
    · obtain ⟨rfl, hbl⟩ := A1.at' (by omega)
      obtain ⟨_, q1, q2, _⟩ := A1.cells k hlt
      have hy := A1.ok L1[k] (List.getElem_mem hlt)
      have hlb : b1 < wr.heap.size := Nat.lt_of_lt_of_le hbl hM.below.size
      have e1 := (hM.below.cell (p := ⟨b1, o1 + k * 4 + 1, none⟩) hbl).trans q1
      have e2 := (hM.below.cell (p := ⟨b1, o1 + k * 4 + 2, none⟩) hbl).trans q2
      have hii := hy.i1
      have hnn := hy.n1
      have HP := Lib.hid (hP.write hI hlt)
      clear q1 q2 hy hP
      generalize L1[k].i = ii at *
      generalize L1[k].n = nn at *
      have hi1 : (0 : Int) ≤ (k : Int) ∧ (k : Int) < (L1.length : Int) := by omega
      have hbnd := hI.bnd (by omega)
      have hF := Lib.hid ((filled_any nn 256 wr.drew hnn.1 hnn.2 (by omega)).mono (fun e w3 h => (⟨h.1, ((Below.refl _ wr).drew).trans h.2⟩ : e = .returned (.string (Cd.bs (fillD nn 256))) ∧ Below wr.heap.size wr w3)))
      go_wp2_with fail
      go_region_with (first
        | (go_at_call 17; refine hF.out.mono ?_; rintro e w3 ⟨rfl, p3⟩; have hM3 := hM.at_below D p3; have f1 := (p3.cell (p := ⟨b1, o1 + k * 4 + 1, none⟩) hlb).trans e1)
        | (go_at_call 16; refine (write_any D hM3.dev hbnd ii nn hii).mono ?_; rintro e w4 ⟨⟨v4, rfl⟩, S4, hd4, st4⟩; have hM4 := hM3.step D hd4 st4))
      all_goals (have hK : ∃ (k' : Nat) (S : Sq.Blocks) (σ : Bl.St), k' ≤ L1.length ∧ k + 1 = k' ∧ Mem1 DevAt B0 bd w (.int .i64 xk) (.int .i64 xi) (.int .i64 xn) (.slice ka keep.length kcap) S σ w4 ∧ Bl.WInv k' σ ∧ PInv L1 k' σ := ⟨k + 1, S4, _, by omega, rfl, hM4, hI.write _ _, HP.out⟩)
      all_goals clear hM3 f1 hd4 st4 p3 hM hI hM4 HP
      all_goals go_wp2_with fail
      all_goals (obtain ⟨k', S5, σ5, h1, h2, h3⟩ := hK)
      all_goals exact ⟨⟨k', S5, σ5, h1, by subst h2; go_num, h3⟩, by simp [intOf]; omega⟩
    · obtain rfl : k = L1.length := by omega
      have hrow' : BoolRow S wr (.slice ka keep.length kcap) keep := (hrow.later hM.below (B0 := B0) (by have := hM.base; omega)).less (fun k hs => (D.lo hM.dev k hs).1)
      have hC := Lib.hid (D.crash hM.dev (hI.bnd (by omega)) _ keep xi xn hrow' (by omega) hxi hxn)
      have g1 := hM.box.c1
      have g2 := hM.box.c2
      have g3 := hM.box.c3
      obtain ⟨t, ht⟩ := hP.crash keep xi xn
      have nr := Bl.Near.crash hI.ok keep xi xn
      have hbc : Bnd (Bl.crash σ keep xi xn) := ⟨nr.ok, by simp [Bl.crash], by have := nr.acts; have := hI.acts; omega, by have := nr.epochs; have := hI.epochs; omega⟩
      have hrd : ∀ j : Nat, j < 40 → Bl.read (Bl.crash σ keep xi xn) (j : Int) = ((Bl.crash σ keep xi xn).safe.getD j [], 0) := fun j hj => Bl.read_free rfl rfl j (by rw [nr.safe, hI.len]; exact hj)
      have hfull : ∀ j : Nat, j < 40 → ((Bl.crash σ keep xi xn).safe.getD j []).length = 256 := fun j hj => Bl.getD_len nr.ok.full (by rw [nr.safe, hI.len]; exact hj)
      have hup : (Bl.crash σ keep xi xn).down = false := rfl
      have hpe : (Bl.crash σ keep xi xn).wait = [] := rfl
      generalize Bl.crash σ keep xi xn = σ4 at hC ht hbc hrd hfull hup hpe
      have HT := Lib.hid ht
      have HR := Lib.hid hrd
      have HF := Lib.hid hfull
      have HUP := Lib.hid hup
      have HPE := Lib.hid hpe
      clear ht hrd hfull hup hpe nr hI hP
      go_wp2_with (go_at_call 12; refine hC.out.mono ?_; rintro e w5 ⟨⟨v5, rfl⟩, S5, hd5, st5⟩; have hM5 := hM.step D hd5 st5)
      clear hC hM hrow' g1 g2 g3 hd5 st5
      obtain ⟨Z, hZ⟩ : ∃ Z, Bl.noughts = Z := ⟨_, rfl⟩
      have hnou0 : ∀ W, Calls Try.prog 19 #[.int .i64 256] W fun e w' => e = .returned (.string (Cd.bs Z)) ∧ Below W.heap.size W w' := fun W => by rw [← hZ]; exact noughtsr_any 256 W (by omega)
      have hnou := Lib.hid hnou0
      have HZ := Lib.hid hZ
      clear hnou0 hZ
      go_loopw [8, 9] (fun tv j wr => ∃ (k : Nat) (T : Int) (S : Sq.Blocks), k ≤ 40 ∧ j = .int .i64 k ∧ tv = .int .i64 T ∧ (T = 0 ∨ (T = 1 ∧ t < k)) ∧ Mem1 DevAt B0 bd w (.int .i64 xk) (.int .i64 xi) (.int .i64 xn) (.slice ka keep.length kcap) S σ4 wr) (fun _ j _ => 40 - (intOf j).toNat)
      case atStart => exact ⟨0, 0, S5, Nat.zero_le _, rfl, rfl, .inl rfl, hM5⟩
      case round =>
        clear hM5
        obtain ⟨k, T, S6, hk, rfl, rfl, hT, hM⟩ := hrel
        by_cases hlt : k < 40
        · have hD := D.read hM.dev hbc (k : Int) (by omega)
          rw [HR.out k hlt] at hD
          have hi1 : (0 : Int) ≤ (k : Int) ∧ (k : Int) < 40 := by omega
          have hfl := HF.out k hlt
          have hW := HT.out k hlt
          generalize σ4.safe.getD k [] = d at hD hfl hW
          have HD := Lib.hid hD
          have HW := Lib.hid hW
          clear hD hW
          go_wp2_with (first
            | (go_at_call 14; refine HD.out.mono ?_; rintro e w6 ⟨rfl, S7, hd7, st7⟩; have hM7 := hM.step D hd7 st7)
            | (go_at_call 19; refine (hnou.out _).mono ?_; rintro e w7 ⟨rfl, p7⟩; have hM8 := hM7.at_below D p7))
          clear hd7 st7 hM7 hM p7 HD
          go_loopw [12, 13] (fun bv j wr => ∃ (n : Nat) (bb : Bool), n ≤ L1.length ∧ j = .int .i64 n ∧ bv = .bool bb ∧ (bb = true ↔ WholeAt L1 n k d) ∧ Mem1 DevAt B0 bd w (.int .i64 xk) (.int .i64 xi) (.int .i64 xn) (.slice ka keep.length kcap) S7 σ4 wr) (fun _ j _ => L1.length - (intOf j).toNat)
          case atStart => exact ⟨0, (d == Z), Nat.zero_le _, rfl, rfl, by rw [WholeAt.zero, HZ.out]; simp, hM8⟩
          case round =>
            clear hM8
            obtain ⟨n, bb, hn, rfl, rfl, hbb, hM⟩ := hrel
            by_cases hln : n < L1.length
            · obtain ⟨rfl, hbl⟩ := A1.at' (by omega)
              obtain ⟨_, q1, q2, _⟩ := A1.cells n hln
              have hy := A1.ok L1[n] (List.getElem_mem hln)
              have e1 := (hM.below.cell (p := ⟨b1, o1 + n * 4 + 1, none⟩) hbl).trans q1
              have e2 := (hM.below.cell (p := ⟨b1, o1 + n * 4 + 2, none⟩) hbl).trans q2
              have hii := hy.i1
              have hnn := hy.n1
              have hsu := WholeAt.succ L1 n hln k d
              rw [← hbb] at hsu
              clear q1 q2 hy hbb
              generalize L1[n].i = ii at *
              generalize L1[n].n = nn at *
              have hj1 : (0 : Int) ≤ (n : Int) ∧ (n : Int) < (L1.length : Int) := by omega
              have hF := filled_any nn 256 wr hnn.1 hnn.2 (by omega)
              generalize fillD nn 256 = f at hF hsu
              have HF2 := Lib.hid hF
              have HS := Lib.hid hsu
              clear hF hsu
              cases bb with
              | true =>
                go_wp2_with fail
                exact ⟨⟨n + 1, true, by omega, by go_num, rfl, by rw [HS.out]; simp, hM⟩, by simp [intOf]; omega⟩
              | false =>
                by_cases hik : ii = (k : Int)
                · subst hik
                  go_wp2_with (go_at_call 17; refine HF2.out.mono ?_; rintro e w8 ⟨rfl, p8⟩; have hM9 := hM.at_below D p8)
                  exact ⟨⟨n + 1, (d == f), by omega, by go_num, rfl, by rw [HS.out]; simp, hM9⟩, by simp [intOf]; omega⟩
                · have hikb : (ii == (k : Int)) = false := by simpa using hik
                  go_wp2_with fail
                  exact ⟨⟨n + 1, false, by omega, by go_num, rfl, by rw [HS.out]; simp [hik], hM⟩, by simp [intOf]; omega⟩
            · obtain rfl : n = L1.length := by omega
              cases bb with
              | true =>
                have hT' : T = 0 ∨ T = 1 ∧ t < k + 1 := by omega
                go_wp2_with fail
                exact ⟨⟨k + 1, T, S7, hlt, by go_num, rfl, hT', hM⟩, by simp [intOf]; omega⟩
              | false =>
                obtain rfl : k = t := by
                  by_cases e : k = t
                  · exact e
                  · exact absurd (hbb.2 (HW.out e)) (by simp)
                obtain rfl : T = 0 := by omega
                go_wp2_with fail
                exact ⟨⟨k + 1, 1, S7, hlt, by go_num, rfl, .inr ⟨rfl, by omega⟩, hM⟩, by simp [intOf]; omega⟩
        · have hU := D.up hM.dev hbc
          rw [HUP.out] at hU
          have HU := Lib.hid hU
          clear hU
          have hP : ∀ S W, DevAt B0 bd S σ4 W → Calls Try.prog 21 #[.pointer (some ⟨bd, 0, none⟩)] W fun e w' => (∃ a cap, e = .returned (.slice a 0 cap)) ∧ ∃ S', DevAt B0 bd S' σ4 w' ∧ Sq.Step S S' W w' := fun S W hd => by
            refine (D.pending hd hbc).mono fun e w' h => ?_
            obtain ⟨v, S', he, hd', st, hrow, _⟩ := h
            rw [HPE.out] at hrow
            obtain ⟨a, cap, hv, _⟩ := Sq.row_cases hrow
            exact ⟨⟨a, cap, by rw [he, hv]; rfl⟩, S', hd', st⟩
          have HP := Lib.hid hP
          clear hP
          rcases hT with rfl | ⟨rfl, _⟩
          · go_wp2_with (first
              | (go_at_call 20; refine HU.out.mono ?_; rintro e w6 ⟨rfl, S7, hd7, st7⟩; have hM7 := hM.step D hd7 st7)
              | (go_at_call 21; refine (HP.out _ _ hd7).mono ?_; rintro e w7 ⟨⟨pa, pc, rfl⟩, S8, hd8, st8⟩; have hM8 := hM7.step D hd8 st8))
            go_ret
            exact ⟨rfl, hM8.below⟩
          · go_wp2_with (first
              | (go_at_call 20; refine HU.out.mono ?_; rintro e w6 ⟨rfl, S7, hd7, st7⟩; have hM7 := hM.step D hd7 st7)
              | (go_at_call 21; refine (HP.out _ _ hd7).mono ?_; rintro e w7 ⟨⟨pa, pc, rfl⟩, S8, hd8, st8⟩; have hM8 := hM7.step D hd8 st8))
            go_ret
            exact ⟨rfl, hM8.below⟩
end Go.Proofs.Ytdidcopfkjnkdaa
