/-
  The walk of the law FrameTurned.
-/
import Derived.Test.YtgbfaabidplajaaFrameLawA
namespace Go.Proofs.Ytgbfaabidplajaa
open Go.RowKit
set_option linter.unusedSimpArgs false
set_option linter.unusedVariables false

/-- the block that []byte(s) lays, and its room -/
def strRow (W : World) (P : List UInt8) : Obj := .cells (bytesRow (Cd.bs P) (grownCap W P.length 0 5)) 5 ((bytesRow (Cd.bs P) (grownCap W P.length 0 5)).size, (bytesRow (Cd.bs P) (grownCap W P.length 0 5)).size + 1)
def strCap (W : World) (P : List UInt8) : Nat := grownCap W P.length 0 5
theorem conv_str (W : World) (P : List UInt8) : (convert 9 34 (.string (Cd.bs P))).run Try.prog W = .ok (.slice (some ⟨W.heap.size, 0, none⟩) P.length (strCap W P)) (W.alloc (strRow W P)).drew :=
  run_bytes_of_string (P := Try.prog) W 9 34 5 (Cd.bs P) Try.underlying9 Try.underlying34 Try.underlying5
theorem str_row (P : List UInt8) (cap j : Nat) (hj : j < P.length) : (bytesRow (Cd.bs P) cap)[j]? = some (.int .u8 ((P.getD j 0).toNat : Int)) := by
  unfold bytesRow
  rw [Array.getElem?_append_left (by simpa using hj)]
  simp [List.getD_eq_getElem?_getD, hj]
theorem str_cell (W : World) (P : List UInt8) (j : Nat) (hj : j < P.length) : (W.alloc (strRow W P)).drew.cell? ⟨W.heap.size, j, none⟩ = some (.int .u8 ((P.getD j 0).toNat : Int)) := by
  have h := World.alloc_heap_new W (strRow W P)
  unfold strRow at h
  have hd : (W.alloc (strRow W P)).drew.cell? ⟨W.heap.size, j, none⟩ = (W.alloc (strRow W P)).cell? ⟨W.heap.size, j, none⟩ := rfl
  rw [hd]
  unfold World.cell? strRow
  rw [h]
  simpa using str_row P _ j hj
theorem str_free (W : World) (P : List UInt8) (j : Nat) (hj : j < P.length) : (W.alloc (strRow W P)).drew.frozen? ⟨W.heap.size, j, none⟩ = false := by
  have h := World.alloc_heap_new W (strRow W P)
  unfold strRow at h
  have hd : (W.alloc (strRow W P)).drew.frozen? ⟨W.heap.size, j, none⟩ = (W.alloc (strRow W P)).frozen? ⟨W.heap.size, j, none⟩ := rfl
  rw [hd]
  unfold World.frozen? strRow
  rw [h]
  have : P.length ≤ (bytesRow (Cd.bs P) (grownCap W P.length 0 5)).size := by unfold bytesRow; simp
  simp; omega
/-- string(b), one byte of b turned -/
theorem str_back (W : World) (P : List UInt8) (p cap : Nat) (x : UInt8) (v : Int) (hv : v = (x.toNat : Int)) (hp : p < P.length) :
    (convert 34 9 (.slice (some ⟨W.heap.size, 0, none⟩) P.length cap)).run Try.prog ((W.alloc (strRow W P)).setCell ⟨W.heap.size, p, none⟩ (.int .u8 v)).drew = .ok (.string (Cd.bs (P.set p x))) ((W.alloc (strRow W P)).setCell ⟨W.heap.size, p, none⟩ (.int .u8 v)).drew := by
  have h := run_convert_bytes_back (P := Try.prog) ((W.alloc (strRow W P)).setCell ⟨W.heap.size, p, none⟩ (.int .u8 v)).drew 34 9 5 ⟨W.heap.size, 0, none⟩ cap (P.set p x) Try.underlying34 Try.underlying5 Try.underlying9 (fun j hj => by
    rw [List.length_set] at hj
    have hpl : (⟨W.heap.size, 0, none⟩ : Addr).add j = ⟨W.heap.size, j, none⟩ := by unfold Addr.add; split <;> simp_all
    rw [hpl]
    have hd : ((W.alloc (strRow W P)).setCell ⟨W.heap.size, p, none⟩ (.int .u8 v)).drew.cell? ⟨W.heap.size, j, none⟩ = ((W.alloc (strRow W P)).setCell ⟨W.heap.size, p, none⟩ (.int .u8 v)).cell? ⟨W.heap.size, j, none⟩ := rfl
    rw [hd]
    have hc := str_cell W P j hj
    have hc' : (W.alloc (strRow W P)).cell? ⟨W.heap.size, j, none⟩ = some (.int .u8 ((P.getD j 0).toNat : Int)) := hc
    by_cases hjp : j = p
    · subst hjp
      rw [World.cell?_setCell_same (h := hc'), hv]; simp
    · rw [World.cell?_setCell_other (h := by simp only [ne_eq, Addr.mk.injEq, true_and, and_true]; omega), hc', List.getElem_set_ne (by omega)]
      simp [List.getD_eq_getElem?_getD, hj])
  rwa [List.length_set] at h

theorem byte_turn (a : UInt8) (k : Nat) (hk : k ≤ 7) : ∃ x : UInt8, x ≠ a ∧ bits BinOp.xor IntKind.u8 (a.toNat : Int) (2 ^ k % 256) = (x.toNat : Int) := by
  have h2 : 2 ^ k ≤ 2 ^ 7 := Nat.pow_le_pow_right (by omega) hk
  have h3 : 0 < 2 ^ k := Nat.pow_pos (by omega)
  have h7 : (2 : Nat) ^ 7 = 128 := by decide
  have ha := a.toNat_lt
  have e : ((2 : Int) ^ k % 256) = ((2 ^ k : Nat) : Int) := by
    have : ((2 : Int) ^ k) = ((2 ^ k : Nat) : Int) := by simp
    rw [this]; omega
  have hx : a.toNat ^^^ 2 ^ k < 256 := Nat.xor_lt_two_pow (n := 8) ha (by omega)
  refine ⟨UInt8.ofNat (a.toNat ^^^ 2 ^ k), ?_, ?_⟩
  · intro h
    have := congrArg UInt8.toNat h
    rw [UInt8.toNat_ofNat', Nat.mod_eq_of_lt hx] at this
    have hz := congrArg (a.toNat ^^^ ·) this
    simp [← Nat.xor_assoc] at hz
  · rw [e, u8_xor_nat _ _ ha (by omega), UInt8.toNat_ofNat', Nat.mod_eq_of_lt hx]

set_option maxRecDepth 100000 in
set_option maxHeartbeats 4000000 in
theorem frameTurned_walk (K : Int) (s : ByteArray) (place bit : Int) (w : World) (k0 : 0 ≤ K) (k1 : K ≤ 255) (hs : s.size ≤ 1048576) (u0 : -9223372036854775808 ≤ place) (u1 : place ≤ 9223372036854775807) (v0 : -9223372036854775808 ≤ bit) (v1 : bit ≤ 9223372036854775807) :
    Calls Try.prog 6 #[.agg #[.int .u8 K, .string s], .int .i64 place, .int .i64 bit] w fun e w' => e = .returned (.bool true) ∧ Below w.heap.size w w' := by
  obtain ⟨l, rfl⟩ : ∃ l, s = Cd.bs l := ⟨s.data.toList, (Lib.mk_data s).symm⟩
  have hl : l.length ≤ 1048576 := hs
  obtain ⟨c, hK⟩ : ∃ c : UInt8, K = (c.toNat : Int) := ⟨UInt8.ofNat K.toNat, by rw [UInt8.toNat_ofNat']; omega⟩
  have p2 := fun W => framePutc_any K c hK l W (by omega)
  have bx := Box2.new w (.int .u8 K) (.string (Cd.bs l)) 23
  have hW : Below w.heap.size w (w.alloc (.cells #[.int .u8 K, .string (Cd.bs l)] 23)) := (Below.refl _ _).alloc (Nat.le_refl _) _
  by_cases hbad : c.toNat = 0 ∨ 262144 < l.length
  · rw [show Fr.put c l = ([], 1) from by unfold Fr.put; rw [if_pos hbad]] at p2
    have P2 := Lib.hid p2
    clear p2
    have hb : (K == 0) = true ∨ ((K == 0) = false ∧ (262144 : Int) < l.length) := by
      subst hK
      rcases hbad with h | h
      · exact .inl (by simp [h])
      · by_cases h0 : c.toNat = 0
        · exact .inl (by simp [h0])
        · exact .inr ⟨by simp; omega, by omega⟩
    clear hbad hK
    rcases hb with hb | ⟨hb, hb2⟩
    all_goals
      go_enter Try.func6, Try.ntmps6
      go_wp2_with (go_at_call 10; refine (P2.out _).mono ?_; rintro e wa ⟨rfl, ha⟩; have bxa := bx.below ha; have ca0 := bxa.c0; have ca1 := bxa.c1)
      go_ret
      exact ⟨rfl, hW.trans (ha.mono hW.size)⟩
  · have h0 : ¬ c.toNat = 0 := by omega
    have hll : l.length ≤ 262144 := by omega
    have hb : (K == 0) = false := by subst hK; simp; omega
    obtain ⟨P, hP⟩ : ∃ P, P = (Fr.put c l).1 := ⟨_, rfl⟩
    have hPl : P.length ≤ 262160 ∧ l.length + 6 ≤ P.length := by
      rw [hP, Fr.put_ok h0 hll]; simp only; rw [Fr.litlen, Cd.putT, List.length_append]
      have := Cd.putU_len10 l.length (by omega)
      have h1 : 1 ≤ (Cd.putU l.length).length := by
        by_cases h : l.length < 128
        · rw [Cd.putU_last h]; simp
        · rw [Cd.putU_more (by omega)]; simp
      omega
    have h2 : (Fr.put c l).2 = 0 := by rw [Fr.put_ok h0 hll]
    rw [← hP, h2] at p2
    have P2 := Lib.hid p2
    have HP := Lib.hid hP
    have HK := Lib.hid hK
    have H0 := Lib.hid h0
    obtain ⟨hPl1, hPl2⟩ := hPl
    clear p2 hP h2 hbad h0 hK
    by_cases hin : (0 ≤ place ∧ place < P.length ∧ (place ≤ 4 ∨ (P.length : Int) - l.length ≤ place)) ∧ 0 ≤ bit ∧ bit ≤ 7
    · obtain ⟨⟨hp0, hp1, hp2⟩, hb0, hb7⟩ := hin
      obtain ⟨p, rfl⟩ := Int.eq_ofNat_of_zero_le hp0
      obtain ⟨k, rfl⟩ := Int.eq_ofNat_of_zero_le hb0
      have hp : p < P.length := by omega
      have hcv := fun W => conv_str W P
      have hcell := fun W => str_cell W P p hp
      have hfree := fun W => str_free W P p hp
      have hgP : P.getD p 0 = P[p] := by rw [List.getD_eq_getElem?_getD, List.getElem?_eq_getElem hp]; rfl
      obtain ⟨x, hxa, hxv⟩ := byte_turn P[p] k (by omega)
      have h3 : (Fr.take (P.set p x)).2.2 = 3 := by
        have := Fr.take_turned (c := c) (l := l) H0.out hll p x (by rw [← HP.out]; exact hp) (by rw [← HP.out]; omega) (by rw [← HP.out, hgP]; exact hxa)
        rwa [← HP.out] at this
      obtain ⟨f, n, t2⟩ : ∃ f n, ∀ W, Calls Try.prog 13 #[.string (Cd.bs (P.set p x))] W fun e w' => e = .returned (frameV (f, n, 3)) ∧ Below W.heap.size W w' := by
        have ht := fun W => frameTakec_any (P.set p x) W (by rw [List.length_set]; omega)
        generalize Fr.take (P.set p x) = z at ht h3
        obtain ⟨f, n, e⟩ := z
        simp only at h3
        subst h3
        exact ⟨f, n, ht⟩
      have T2 := Lib.hid t2
      have hback := fun W cap => str_back W P p cap x _ hxv hp
      clear t2 h3 hxa hxv hgP
      rcases hp2 with hp2 | hp2
      all_goals
        go_enter Try.func6, Try.ntmps6
        go_wp2_with (first
          | (go_at_call 10; refine (P2.out _).mono ?_; rintro e wa ⟨rfl, ha⟩; have bxa := bx.below ha; have ca0 := bxa.c0; have ca1 := bxa.c1)
          | (go_at_call 13; refine (T2.out _).mono ?_; rintro e wd ⟨rfl, hd⟩))
        go_ret
        refine ⟨rfl, ?_⟩
        have hab := hW.trans (ha.mono hW.size)
        have h3 := hd.size
        simp at h3
        have h4 : Below w.heap.size w ((wa.alloc (strRow wa P)).setCell ⟨wa.heap.size, p, none⟩ (.int .u8 (bits BinOp.xor IntKind.u8 (P[p].toNat) (2 ^ k % 256)))).drew := ((hab.alloc hab.size _).setCell hab.size _).drew
        have h5 := h4.trans (hd.mono (by have := hab.size; simp; omega))
        exact h5.alloc h5.size _
    · have hout : place < 0 ∨ (P.length : Int) ≤ place ∨ (4 < place ∧ place < (P.length : Int) - l.length) ∨ bit < 0 ∨ 7 < bit := by omega
      clear hin
      rcases hout with hout | hout | ⟨hout, hout2⟩ | hout | hout
      all_goals
        go_enter Try.func6, Try.ntmps6
        go_wp2_with (first
          | (go_at_call 10; refine (P2.out _).mono ?_; rintro e wa ⟨rfl, ha⟩; have bxa := bx.below ha; have ca0 := bxa.c0; have ca1 := bxa.c1))
        all_goals go_ret
        all_goals exact ⟨rfl, hW.trans (ha.mono hW.size)⟩
end Go.Proofs.Ytgbfaabidplajaa
