/-
  The walks of the laws FramePuts, FrameTakes and FrameBack.
-/
import Derived.Test.YtgbfaabidplajaaFrameDevB
namespace Go.Proofs.Ytgbfaabidplajaa
open Go.RowKit
set_option linter.unusedSimpArgs false
set_option linter.unusedVariables false

/-- a struct of two fields in a block that the call itself laid -/
structure Box2 (w : World) (b : Nat) (v0 v1 : Value) : Prop where
  lt : b < w.heap.size
  c0 : w.cell? ⟨b, 0, none⟩ = some v0
  c1 : w.cell? ⟨b, 1, none⟩ = some v1
theorem Box2.below {W w : World} {b : Nat} {v0 v1 : Value} (h : Box2 W b v0 v1) (hb : Below W.heap.size W w) : Box2 w b v0 v1 :=
  ⟨Nat.lt_of_lt_of_le h.lt hb.size, (hb.cell (p := ⟨b, 0, none⟩) h.lt).trans h.c0, (hb.cell (p := ⟨b, 1, none⟩) h.lt).trans h.c1⟩
theorem Box2.new (w : World) (v0 v1 : Value) (T : TypeId) : Box2 (w.alloc (.cells #[v0, v1] T)) w.heap.size v0 v1 := ⟨by simp, by go_simp, by go_simp⟩

set_option maxRecDepth 100000 in
set_option maxHeartbeats 2000000 in
theorem framePuts_walk (K : Int) (s : ByteArray) (w : World) (k0 : 0 ≤ K) (k1 : K ≤ 255) (hs : s.size ≤ 1048576) :
    Calls Try.prog 3 #[.agg #[.int .u8 K, .string s]] w fun e w' => e = .returned (.bool true) ∧ Below w.heap.size w w' := by
  obtain ⟨l, rfl⟩ : ∃ l, s = Cd.bs l := ⟨s.data.toList, (Lib.mk_data s).symm⟩
  have hl : l.length ≤ 1048576 := hs
  obtain ⟨c, hK⟩ : ∃ c : UInt8, K = (c.toNat : Int) := ⟨UInt8.ofNat K.toNat, by rw [UInt8.toNat_ofNat']; omega⟩
  have p1 := Lib.hid fun W => sumc_any (Cd.bs l) W (by unfold maxLen; omega)
  have p2 := Lib.hid fun W => framePutc_any K c hK l W (by omega)
  have p3 := Lib.hid fun W => framePutr_any K c hK l W (by omega)
  have p4 := Lib.hid fun W => sumr_any (Cd.bs l) W (by unfold maxLen; omega)
  generalize Fr.sum (Cd.bs l).data.toList = sm at *
  generalize Fr.put c l = pr at *
  clear hK
  have bx := Box2.new w (.int .u8 K) (.string (Cd.bs l)) 23
  have hW : Below w.heap.size w (w.alloc (.cells #[.int .u8 K, .string (Cd.bs l)] 23)) := (Below.refl _ _).alloc (Nat.le_refl _) _
  go_enter Try.func3, Try.ntmps3
  go_wp2_with (first
    | (go_at_call 9; refine (p1.out _).mono ?_; rintro e wa ⟨rfl, ha⟩; have bxa := bx.below ha; have ca0 := bxa.c0; have ca1 := bxa.c1)
    | (go_at_call 10; refine (p2.out _).mono ?_; rintro e wb ⟨rfl, hb⟩; have bxb := bxa.below hb; have cb0 := bxb.c0; have cb1 := bxb.c1)
    | (go_at_call 11; refine (p3.out _).mono ?_; rintro e wc ⟨rfl, hc⟩; have bxc := bxb.below hc; have cc0 := bxc.c0; have cc1 := bxc.c1)
    | (go_at_call 12; refine (p4.out _).mono ?_; rintro e w' ⟨rfl, rfl⟩))
  go_ret
  exact ⟨rfl, hW.trans ((Cd.chain (Cd.chain ha hb) hc).mono hW.size)⟩

set_option maxRecDepth 100000 in
set_option maxHeartbeats 2000000 in
theorem frameTakes_walk (s : ByteArray) (w : World) (hs : s.size ≤ 140737488351232) :
    Calls Try.prog 4 #[.string s] w fun e w' => e = .returned (.bool true) ∧ Below w.heap.size w w' := by
  obtain ⟨l, rfl⟩ : ∃ l, s = Cd.bs l := ⟨s.data.toList, (Lib.mk_data s).symm⟩
  have hl : l.length ≤ 140737488351232 := hs
  have p1 := Lib.hid fun W => frameTakec_any l W hl
  have p2 := Lib.hid fun W => frameTaker_any l W hl
  generalize Fr.take l = pr at *
  obtain ⟨⟨c, t⟩, n, e⟩ := pr
  go_enter Try.func4, Try.ntmps4
  go_wp2_with (first
    | (go_at_call 13; refine (p1.out _).mono ?_; rintro e wa ⟨rfl, ha⟩; have bxa := Box2.new wa (.int .u8 c.toNat) (.string (Cd.bs t)) 23)
    | (go_at_call 14; refine (p2.out _).mono ?_; rintro e wb ⟨rfl, hb⟩; have bxb := bxa.below hb; have cb0 := bxb.c0; have cb1 := bxb.c1; have hz := bxb.lt))
  go_ret
  exact ⟨rfl, ((ha.alloc ha.size _).trans (hb.mono (by have := ha.size; simp; omega))).alloc (by have h1 := ha.size; have h2 := hb.size; simp at h2; omega) _⟩

set_option maxRecDepth 100000 in
set_option maxHeartbeats 4000000 in
theorem frameBack_walk (K : Int) (s r : ByteArray) (cut : Int) (w : World) (k0 : 0 ≤ K) (k1 : K ≤ 255) (hs : s.size ≤ 1048576) (hr : r.size ≤ 1048576) (u0 : -9223372036854775808 ≤ cut) (u1 : cut ≤ 9223372036854775807) :
    Calls Try.prog 5 #[.agg #[.int .u8 K, .string s], .string r, .int .i64 cut] w fun e w' => e = .returned (.bool true) ∧ Below w.heap.size w w' := by
  obtain ⟨l, rfl⟩ : ∃ l, s = Cd.bs l := ⟨s.data.toList, (Lib.mk_data s).symm⟩
  obtain ⟨R, rfl⟩ : ∃ l, r = Cd.bs l := ⟨r.data.toList, (Lib.mk_data r).symm⟩
  have hl : l.length ≤ 1048576 := hs
  have hR : R.length ≤ 1048576 := hr
  obtain ⟨c, hK⟩ : ∃ c : UInt8, K = (c.toNat : Int) := ⟨UInt8.ofNat K.toNat, by rw [UInt8.toNat_ofNat']; omega⟩
  have p2 := fun W => framePutc_any K c hK l W (by omega)
  have bx := Box2.new w (.int .u8 K) (.string (Cd.bs l)) 23
  have hW : Below w.heap.size w (w.alloc (.cells #[.int .u8 K, .string (Cd.bs l)] 23)) := (Below.refl _ _).alloc (Nat.le_refl _) _
  by_cases hbad : c.toNat = 0 ∨ 262144 < l.length
  · rw [show Fr.put c l = ([], 1) from by unfold Fr.put; rw [if_pos hbad]] at p2
    have P2 := Lib.hid p2
    clear p2
    have hb : (K == 0) = true ∨ ((K == 0) = false ∧ (262144 : Int) < l.length) := by
      subst hK
      rcases hbad with h | h
      · exact .inl (by simp [h])
      · by_cases h0 : c.toNat = 0
        · exact .inl (by simp [h0])
        · exact .inr ⟨by simp; omega, by omega⟩
    clear hbad hK
    rcases hb with hb | ⟨hb, hb2⟩
    all_goals
      go_enter Try.func5, Try.ntmps5
      go_wp2_with (go_at_call 10; refine (P2.out _).mono ?_; rintro e wa ⟨rfl, ha⟩; have bxa := bx.below ha; have ca0 := bxa.c0; have ca1 := bxa.c1)
      go_ret
      exact ⟨rfl, hW.trans (ha.mono hW.size)⟩
  · have h0 : ¬ c.toNat = 0 := by omega
    have hll : l.length ≤ 262144 := by omega
    have hb : (K == 0) = false := by subst hK; simp; omega
    have ht := Fr.take_put (r := R) h0 hll
    obtain ⟨P, hP⟩ : ∃ P, P = (Fr.put c l).1 := ⟨_, rfl⟩
    have hPl : P.length ≤ 262160 := by
      rw [hP, Fr.put_ok h0 hll]; simp only; rw [Fr.litlen, Cd.putT, List.length_append]
      have := Cd.putU_len10 l.length (by omega); omega
    have h2 : (Fr.put c l).2 = 0 := by rw [Fr.put_ok h0 hll]
    rw [← hP, h2] at p2
    rw [← hP] at ht
    have t1 : ∀ W, Calls Try.prog 13 #[.string (Cd.bs P ++ Cd.bs R)] W fun e w' => e = .returned (frameV ((c, l), P.length, 0)) ∧ Below W.heap.size W w' := fun W => by
      rw [ByteArray.mk_append_mk]
      have := frameTakec_any (P ++ R) W (by rw [List.length_append]; omega)
      rwa [ht] at this
    have hcut : ∀ k : Nat, k < P.length → (Fr.take (P.take k)).2.2 = 2 := fun k hk => by rw [hP]; exact Fr.take_cut h0 hll k (by rw [← hP]; exact hk)
    have P2 := Lib.hid p2
    have T1 := Lib.hid t1
    have HC := Lib.hid hcut
    have HK := Lib.hid hK
    have hbl : ((K == (c.toNat : Int))) = true := by simp [hK]
    clear p2 t1 hcut ht hP h2 hbad h0
    subst hK
    by_cases hin : 0 ≤ cut ∧ cut < P.length
    · obtain ⟨k, rfl⟩ := Int.eq_ofNat_of_zero_le hin.1
      have hk : k < P.length := by omega
      obtain ⟨f, n, t2⟩ : ∃ f n, ∀ W, Calls Try.prog 13 #[.string ((Cd.bs P).extract 0 k)] W fun e w' => e = .returned (frameV (f, n, 2)) ∧ Below W.heap.size W w' := by
        have hx : (Cd.bs P).extract 0 k = Cd.bs (P.take k) := by rw [ByteArray.extract_mk]; simp
        rw [hx]
        have ht := fun W => frameTakec_any (P.take k) W (by rw [List.length_take]; omega)
        have h2 := HC.out k hk
        generalize Fr.take (P.take k) = x at ht h2
        obtain ⟨f, n, e⟩ := x
        simp only at h2
        subst h2
        exact ⟨f, n, ht⟩
      have T2 := Lib.hid t2
      clear t2
      have tok1 : True := trivial
      have hk0 : (0 : Int) ≤ k ∧ (k : Int) < P.length := by omega
      go_enter Try.func5, Try.ntmps5
      go_wp2_with (first
        | (go_at_call 10; refine (P2.out _).mono ?_; rintro e wa ⟨rfl, ha⟩; have bxa := bx.below ha; have ca0 := bxa.c0; have ca1 := bxa.c1)
        | (go_at_call 13; have _t := tok1; clear tok1; refine (T1.out _).mono ?_; rintro e wb ⟨rfl, hb⟩; have bxb := bxa.below hb; have cb0 := bxb.c0; have cb1 := bxb.c1; have hz := bxb.lt)
        | (go_at_call 13; refine (T2.out _).mono ?_; rintro e wd ⟨rfl, hd⟩))
      go_ret
      refine ⟨rfl, ?_⟩
      have hab := hW.trans (Below.mono (Cd.chain ha hb) hW.size)
      have h2 := hab.size
      have h3 := hd.size
      simp at h3
      exact ((hab.alloc h2 _).trans (hd.mono (by simp; omega))).alloc (by omega) _
    · have hout : cut < 0 ∨ (P.length : Int) ≤ cut := by omega
      clear hin
      rcases hout with hout | hout
      all_goals
        go_enter Try.func5, Try.ntmps5
        go_wp2_with (first
          | (go_at_call 10; refine (P2.out _).mono ?_; rintro e wa ⟨rfl, ha⟩; have bxa := bx.below ha; have ca0 := bxa.c0; have ca1 := bxa.c1)
          | (go_at_call 13; refine (T1.out _).mono ?_; rintro e wb ⟨rfl, hb⟩; have bxb := bxa.below hb; have cb0 := bxb.c0; have cb1 := bxb.c1; have hz := bxb.lt))
        go_ret
        refine ⟨rfl, ?_⟩
        have hab := hW.trans (Below.mono (Cd.chain ha hb) hW.size)
        exact hab.alloc hab.size _
end Go.Proofs.Ytgbfaabidplajaa
