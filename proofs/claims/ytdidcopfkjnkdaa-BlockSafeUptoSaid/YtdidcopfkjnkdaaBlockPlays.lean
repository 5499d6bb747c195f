/-
  The walk of the law BlockPlays.
-/
import Derived.Test.YtdidcopfkjnkdaaBlockOneC
namespace Go.Proofs.Ytdidcopfkjnkdaa
open Go.RowKit
set_option linter.unusedSimpArgs false
set_option linter.unusedVariables false
variable {DevAt : Nat → Nat → Sq.Blocks → Bl.St → World → Prop}

/-- an act that came in -/
structure AAct where
  kind : Int
  i : Int
  n : Int
  kv : Value
  keep : List Bool
structure AAct.Ok (W : World) (a : AAct) : Prop where
  k1 : -9223372036854775808 ≤ a.kind ∧ a.kind ≤ 9223372036854775807
  i1 : -9223372036854775808 ≤ a.i ∧ a.i ≤ 9223372036854775807
  n1 : -9223372036854775808 ≤ a.n ∧ a.n ≤ 9223372036854775807
  row : BoolRow (fun k => W.heap.size ≤ k) W a.kv a.keep
  len : a.keep.length ≤ 1048576

theorem BoolRow.later {B B0 : Nat} {W W' : World} {v : Value} {l : List Bool} (h : BoolRow (fun k => B ≤ k) W v l) (hb : Below B W W') (hB : B ≤ B0) : BoolRow (fun k => B0 ≤ k) W' v l :=
  (h.kept ⟨hb.os, hb.tape, hb.output, hb.size, fun k hk _ => hb.block k (by omega)⟩).less (fun k hk => by omega)
theorem BoolRow.form {S : Sq.Blocks} {W : World} {v : Value} {l : List Bool} (h : BoolRow S W v l) : ∃ a cap, v = .slice a l.length cap := by
  obtain ⟨a, cap, b, off, hv, _⟩ := h; exact ⟨a, cap, hv⟩
theorem BoolRow.nil (S : Sq.Blocks) (W : World) : BoolRow S W (.slice none 0 0) [] := ⟨none, 0, 0, 0, rfl, fun h => by simp at h, fun j h => by simp at h⟩

theorem one_any (D : DevOk DevAt) {B0 bd br : Nat} {Sd Sr : Sq.Blocks} {σ : Bl.St} {W W0 : World} (h : Two DevAt B0 bd br Sd Sr σ σ W) (hn : Bnd σ) (a : AAct) (ha : a.Ok W0) (hb : Below W0.heap.size W0 W) (hB : W0.heap.size ≤ B0) :
    Calls Try.prog 11 #[.pointer (some ⟨bd, 0, none⟩), .pointer (some ⟨br, 0, none⟩), .agg #[.int .i64 a.kind, .int .i64 a.i, .int .i64 a.n, a.kv]] W (OneOut DevAt B0 bd br σ W) := by
  obtain ⟨kind, i, n, kv, keep⟩ := a
  obtain ⟨k1, i1, n1, row, len⟩ := ha
  have row' := row.later hb hB
  obtain ⟨ka, kc, hkv⟩ := row.form
  simp only at *
  by_cases h4 : kind = 4
  · subst h4; exact one_4 D h hn i n i1 n1 kv keep row' len
  · subst hkv
    by_cases h0 : kind = 0
    · subst h0; exact one_0 D h hn i n i1 n1 ka keep.length kc
    · by_cases h1 : kind = 1
      · subst h1; exact one_1 D h hn i n i1 n1 ka keep.length kc
      · by_cases h2 : kind = 2
        · subst h2; exact one_2 D h hn i n i1 n1 ka keep.length kc
        · by_cases h3 : kind = 3
          · subst h3; exact one_3 D h hn i n i1 n1 ka keep.length kc
          · by_cases h5 : kind = 5
            · subst h5; exact one_5 D h hn i n i1 n1 ka keep.length kc
            · exact one_r D h hn i n i1 n1 ka keep.length kc kind (by omega)

theorem RefAt.lower {B0 B1 b : Nat} {S : Sq.Blocks} {σ : Bl.St} {W : World} (h : RefAt B1 b S σ W) (hB : B0 ≤ B1) : RefAt B0 b S σ W := by
  obtain ⟨sv, wv, h⟩ := h
  have low : ∀ {e : TypeId} {size n : Nat} {v : Value} {xs : List Value}, W.ownsRow B1 e size v n xs → W.ownsRow B0 e size v n xs := by
    intro e size n v xs h
    rcases h with ⟨h0, h1 | ⟨g, cap, cur, h1, h2, h3⟩⟩
    · exact ⟨h0, .inl h1⟩
    · exact ⟨h0, .inr ⟨g, cap, cur, h1, Nat.le_trans hB h2, h3⟩⟩
  exact ⟨sv, wv, h.obj, low h.safe, low h.wait, h.inb, h.ins, h.inw, fun k hk => ⟨Nat.le_trans hB (h.lo k hk).1, (h.lo k hk).2⟩⟩

set_option maxHeartbeats 1000000 in
theorem takes_no (n : Int) (w : World) (h : n < 40 ∨ 16384 < n) : Calls Try.prog 9 #[.int .i64 n] w fun e w' => e = .returned (.bool false) ∧ w = w' := by
  rcases h with h | h
  · go_enter Try.func9, Try.ntmps9
    go_wp2_with fail
    go_ret
    exact ⟨rfl, rfl⟩
  · have h' : (40 : Int) ≤ n := by omega
    have hd : decide (n ≤ 16384) = false := by simp; omega
    go_enter Try.func9, Try.ntmps9
    go_wp2_with fail
    go_ret
    exact ⟨rfl, rfl⟩
set_option maxHeartbeats 1000000 in
theorem takes_yes (n : Int) (w : World) (h1 : 40 ≤ n) (h2 : n ≤ 16384) : Calls Try.prog 9 #[.int .i64 n] w fun e w' => e = .returned (.bool true) ∧ w = w' := by
  go_enter Try.func9, Try.ntmps9
  go_wp2_with fail
  go_ret
  exact ⟨rfl, rfl⟩

set_option maxRecDepth 100000 in
set_option maxHeartbeats 4000000 in
theorem blockPlays_walk (D : DevOk DevAt) (n : Int) (a : Option Addr) (cap b off : Nat) (L : List AAct) (w : World) (n1 : -9223372036854775808 ≤ n) (n2 : n ≤ 9223372036854775807)
    (ha : 0 < L.length → a = some ⟨b, off, none⟩ ∧ b < w.heap.size)
    (hc : ∀ k (h : k < L.length), w.cell? ⟨b, off + k * 4, none⟩ = some (.int .i64 L[k].kind) ∧ w.cell? ⟨b, off + k * 4 + 1, none⟩ = some (.int .i64 L[k].i) ∧ w.cell? ⟨b, off + k * 4 + 2, none⟩ = some (.int .i64 L[k].n) ∧ w.cell? ⟨b, off + k * 4 + 3, none⟩ = some L[k].kv)
    (hok : ∀ x ∈ L, x.Ok w) (hL : L.length ≤ 1048576) :
    Calls Try.prog 3 #[.int .i64 n, .slice a L.length cap] w fun e w' => e = .returned (.bool true) ∧ Below w.heap.size w w' := by
  by_cases hbad : n < 40 ∨ 16384 < n
  · have hN := Lib.hid fun W => D.newBad n W n1 n2 hbad
    have hT := Lib.hid fun W => takes_no n W hbad
    clear hbad
    go_enter Try.func3, Try.ntmps3
    go_wp2_with (first
      | (go_at_call 8; refine (hN.out _).mono ?_; rintro e w1 ⟨rfl, b1⟩)
      | (go_at_call 9; refine (hT.out _).mono ?_; rintro e w' ⟨rfl, rfl⟩))
    go_ret
    exact ⟨rfl, b1⟩
  · obtain ⟨m, rfl⟩ := Int.eq_ofNat_of_zero_le (show 0 ≤ n by omega)
    have hm1 : 40 ≤ m := by omega
    have hm2 : m ≤ 16384 := by omega
    have hN := Lib.hid fun W => D.new m W hm1 hm2
    have hRN := Lib.hid fun W => refNew_any m W hm2
    have hT := Lib.hid fun W => takes_yes (m : Int) W (by omega) (by omega)
    clear hbad
    go_enter Try.func3, Try.ntmps3
    go_wp2_with (first
      | (go_at_call 8; refine (hN.out _).mono ?_; rintro e w1 ⟨bd, Sd, rfl, hd1, b1⟩)
      | (go_at_call 9; refine (hT.out _).mono ?_; rintro e w' ⟨rfl, rfl⟩)
      | (go_at_call 10; refine (hRN.out _).mono ?_; rintro e w2 ⟨br, Sr, rfl, hr2, b2⟩))
    have T2 : Two DevAt w.heap.size bd br Sd Sr (Bl.new m) (Bl.new m) w2 := ⟨D.kept hd1 (Sq.Kept.of_below b2), hr2.lower b1.size, fun k hk hs => by have h1 := (D.lo hd1 k hk).2; have h2 := (hr2.lo k hs).1; omega, Nat.le_trans b1.size b2.size⟩
    have B2 : Below w.heap.size w w2 := b1.trans (b2.mono b1.size)
    clear hd1 hr2 b1 b2 hN hRN
    go_loopw [9] (fun j wr => ∃ (k : Nat) (Sd Sr : Sq.Blocks) (σ : Bl.St), k ≤ L.length ∧ j = .int .i64 k ∧ Two DevAt w.heap.size bd br Sd Sr σ σ wr ∧ Below w.heap.size w wr ∧ (Bl.Ok σ ∧ σ.safe.length = m ∧ σ.wait.length ≤ k ∧ σ.acts ≤ k ∧ σ.epochs ≤ k)) (fun j _ => L.length - (intOf j).toNat)
    case atStart => exact ⟨0, Sd, Sr, Bl.new m, Nat.zero_le _, rfl, T2, B2, Bl.new_ok hm2, by simp [Bl.new], by simp [Bl.new], by simp [Bl.new], by simp [Bl.new]⟩
    case round =>
      obtain ⟨k, S1, S2, σ, hk, rfl, T, B, hok1, hs1, hw1, ha1, he1⟩ := hrel
      have hbnd : Bnd σ := ⟨hok1, by omega, by omega, by omega⟩
      by_cases hlt : k < L.length
      · obtain ⟨rfl, hbl⟩ := ha (by omega)
        obtain ⟨q0, q1, q2, q3⟩ := hc k hlt
        have hka := hok L[k] (List.getElem_mem hlt)
        have e0 := (B.cell (p := ⟨b, off + k * 4, none⟩) hbl).trans q0
        have e1 := (B.cell (p := ⟨b, off + k * 4 + 1, none⟩) hbl).trans q1
        have e2 := (B.cell (p := ⟨b, off + k * 4 + 2, none⟩) hbl).trans q2
        have e3 := (B.cell (p := ⟨b, off + k * 4 + 3, none⟩) hbl).trans q3
        have hone := Lib.hid (one_any D T hbnd L[k] hka B (Nat.le_refl _))
        obtain ⟨ka, kc, hkv⟩ := hka.row.form
        generalize hx : L[k] = x at *
        obtain ⟨kind, i, nn, kv, keep⟩ := x
        simp only at *
        subst hkv
        have hi1 : (0 : Int) ≤ (k : Int) ∧ (k : Int) < (L.length : Int) := by omega
        clear q0 q1 q2 q3 hka hx
        go_wp2_with (go_at_call 11; refine hone.out.mono ?_; rintro e w3 ⟨rfl, S3, S4, σ', T3, B3, nr⟩)
        go_roundw
        case rel => exact ⟨k + 1, S3, S4, σ', by omega, by go_num, T3, B.trans B3, nr.ok, nr.safe.trans hs1, by have := nr.wait; omega, by have := nr.acts; omega, by have := nr.epochs; omega⟩
        case measure => simp [intOf]; omega
      · obtain rfl : k = L.length := by omega
        have hbl := hok1.blocks
        have hro : RefAt w.heap.size br S2 σ wr := T.ref
        have hcD := Lib.hid (D.crash T.dev hbnd _ [] (-1) 0 (BoolRow.nil _ _) (by simp) (by omega) (by omega))
        obtain ⟨σ', hσ'⟩ : ∃ σ', σ' = Bl.crash σ [] (-1) 0 := ⟨_, rfl⟩
        have hok' : Bl.Ok σ' := by rw [hσ']; exact hok1.crash _ _ _
        have hl' : σ'.safe.length = m := by rw [hσ', ← hs1]; exact (Bl.Near.crash hok1 [] (-1) 0).safe
        have hbnd' : Bnd σ' := ⟨hok', by rw [hσ']; simp [Bl.crash], by rw [hσ']; simp [Bl.crash]; omega, by rw [hσ']; simp [Bl.crash]; omega⟩
        have hread : ∀ j : Nat, j < m → Bl.read σ' (j : Int) = (σ'.safe.getD j [], 0) := fun j hj => by
          have hd : σ'.down = false := by rw [hσ']; rfl
          have hw0 : σ'.wait = [] := by rw [hσ']; rfl
          unfold Bl.read
          rw [hd, if_neg (by simp), if_pos ⟨by omega, by omega⟩]
          unfold Bl.readOf
          rw [hw0]; rfl
        rw [← hσ'] at hcD
        have hcR : ∀ {W : World} {S : Sq.Blocks}, RefAt w.heap.size br S σ W → Calls Try.prog 13 #[.pointer (some ⟨br, 0, none⟩), .slice none 0 0, .int .i64 (-1), .int .i64 0] W fun e w' => (∃ v, e = .returned v) ∧ RefAt w.heap.size br S σ' w' ∧ Sq.Step S S W w' := fun {W S} hr => by
          rw [hσ']
          exact refCrash_any hr hok1 hbnd.wait hbnd.epochs _ [] (BoolRow.nil _ _) (by simp) (-1) 0 (by omega) (by omega) (by omega) (by omega)
        have HR := Lib.hid hread
        clear hσ' hread
        go_wp2_with (first
          | (go_at_call 12; refine hcD.out.mono ?_; rintro e w3 ⟨⟨v3, rfl⟩, S3, hd3, st3⟩; obtain ⟨T3, B3⟩ := T.stepD D hd3 st3)
          | (go_at_call 13; refine (hcR T3.ref).mono ?_; rintro e w4 ⟨⟨v4, rfl⟩, hr4, st4⟩; obtain ⟨T4, B4⟩ := T3.stepR D hr4 st4))
        have BB : Below w.heap.size w w4 := (B.trans B3).trans B4
        clear hd3 st3 T3 hr4 st4 B3 B4 hcD hcR T B hro
        go_loopw [11] (fun j wr => ∃ (k : Nat) (Sd Sr : Sq.Blocks), k ≤ m ∧ j = .int .i64 k ∧ Two DevAt w.heap.size bd br Sd Sr σ' σ' wr ∧ Below w.heap.size w wr) (fun j _ => m - (intOf j).toNat)
        case atStart => exact ⟨0, S3, S2, Nat.zero_le _, rfl, T4, BB⟩
        case round =>
          obtain ⟨k, S5, S6, hk, rfl, T, B⟩ := hrel
          by_cases hlt : k < m
          · have hrd := HR.out k hlt
            have hD := D.read T.dev hbnd' (k : Int) (by omega)
            rw [hrd] at hD
            have HD := Lib.hid hD
            have hi1 : (0 : Int) ≤ (k : Int) ∧ (k : Int) < (σ'.safe.length : Int) := by omega
            clear hrd hD
            go_wp2_with (go_at_call 14; refine HD.out.mono ?_; rintro e w5 ⟨rfl, S7, hd7, st7⟩; obtain ⟨T7, B7⟩ := T.stepD D hd7 st7; obtain ⟨sv, wv, hr7⟩ := id T7.ref; obtain ⟨as1, caps, rfl, hgs⟩ := Sq.row_cases hr7.safe; have c0 := hr7.obj.cell 0; simp [refCells] at c0; obtain ⟨gs, rfl, _, _⟩ := hgs (by omega); have cs := (hr7.safe.cellAt k (by omega)).trans (strCells_getD σ'.safe k (by omega)))
            go_roundw
            case rel => exact ⟨k + 1, S7, S6, by omega, by go_num, T7, B.trans B7⟩
            case measure => simp [intOf]; omega
          · obtain rfl : k = m := by omega
            have hA := Lib.hid (alike_any D T hbnd')
            go_wp2_with (go_at_call 15; refine hA.out.mono ?_; rintro e w6 ⟨rfl, S8, S9, T8, B8⟩)
            go_ret
            exact ⟨rfl, B.trans B8⟩
end Go.Proofs.Ytdidcopfkjnkdaa
