/-
  Chapter 7: what the program owes; the laws BloomAsks, BloomNever, BloomUnion, BloomBuilds over it.
-/
import Derived.Test.YtenjjfiojackaaaBloomBuildR
namespace Go.Proofs.Ytenjjfiojackaaa
open Go.RowKit
set_option linter.unusedSimpArgs false
set_option linter.unusedVariables false
namespace Bm

def HashOk : Prop := ∀ (l : List UInt8) (w : World), l.length ≤ 140737488351232 → Calls Try.prog 8 #[.string (Cd.bs l)] w fun e w' => e = .returned (.int .u64 (hash l)) ∧ Below w.heap.size w w'

def ValidOk : Prop := ∀ (s : List UInt8) (w : World), s.length ≤ 140737488351232 → Calls Try.prog 12 #[.string (Cd.bs s)] w fun e w' => e = .returned (.bool (valid s)) ∧ Below w.heap.size w w'

def LoadOk : Prop := ∀ (s : List UInt8) (w : World), s.length ≤ 140737488351232 → Calls Try.prog 13 #[.string (Cd.bs s)] w fun e w' => e = .returned (.tuple #[.int .i64 ((load s).1 : Int), .int .i64 ((load s).2 : Int)]) ∧ Below w.heap.size w w'

def HasOk : Prop := ∀ (s key : List UInt8) (w : World), s.length ≤ 140737488351232 → key.length ≤ 140737488351232 → Calls Try.prog 11 #[.string (Cd.bs s), .string (Cd.bs key)] w fun e w' => e = .returned (.bool (has s key)) ∧ Below w.heap.size w w'

def BuildOk : Prop := ∀ (v : Value) (b : Int) (keys : List (List UInt8)) (w : World), Strs w.heap.size w v keys → (-9223372036854775808 ≤ b ∧ b ≤ 9223372036854775807) → keys.length ≤ 1048576 → (∀ x ∈ keys, x.length ≤ 1048576) →
    Calls Try.prog 7 #[.int .i64 b, v] w fun e w' => e = .returned (.string (Cd.bs (build b keys))) ∧ Below w.heap.size w w'

theorem build_small (b : Int) (keys : List (List UInt8)) (hk : keys.length ≤ 1048576) : (build b keys).length ≤ 4194304 := by
  by_cases h : b < 1 ∨ keys = []
  · rw [show build b keys = [] from if_pos h]; simp
  · rw [build_len h]
    unfold bytesOf
    have hb : 0 ≤ min b 20 ∧ min b 20 ≤ 20 := by omega
    have q1 : min b 20 * (keys.length : Int) ≤ 20 * (keys.length : Int) := Int.mul_le_mul_of_nonneg_right hb.2 (by omega)
    omega

set_option maxRecDepth 100000 in
set_option maxHeartbeats 4000000 in
theorem bloomAsks_walk (HH : HasOk) (VV : ValidOk) (LL : LoadOk) (s key : ByteArray) (w : World) (h1 : s.size ≤ 140737488351232) (h2 : key.size ≤ 140737488351232) :
    Calls Try.prog 4 #[.string s, .string key] w fun e w' => e = .returned (.bool true) ∧ Below w.heap.size w w' := by
  obtain ⟨s, rfl⟩ : ∃ l, s = Cd.bs l := ⟨s.data.toList, (Lib.mk_data s).symm⟩
  obtain ⟨key, rfl⟩ : ∃ l, key = Cd.bs l := ⟨key.data.toList, (Lib.mk_data key).symm⟩
  have hs : s.length ≤ 140737488351232 := h1
  have hk : key.length ≤ 140737488351232 := h2
  clear h1 h2
  have H1 := Lib.hid (fun W => HH s key W (by omega) hk)
  have H2 := Lib.hid (fun W => VV s W (by omega))
  have H3 := Lib.hid (fun W => LL s W (by omega))
  have H4 := Lib.hid (fun W => loadR_any s W (by omega))
  have H5 := Lib.hid (fun W => hasR_any s key W (by omega) (by omega))
  have H6 := Lib.hid (fun W => validR_any s W (by omega))
  generalize has s key = hb at *
  generalize valid s = vb at *
  generalize (load s).1 = l1 at *
  generalize (load s).2 = l2 at *
  clear HH VV LL hs hk
  go_enter Try.func4, Try.ntmps4
  go_wp2_with (first
    | (go_at_call 11; (with_reducible refine (H1.out _).mono ?_); rintro e w1 ⟨rfl, b1⟩)
    | (go_at_call 12; (with_reducible refine (H2.out _).mono ?_); rintro e w2 ⟨rfl, b2⟩)
    | (go_at_call 13; (with_reducible refine (H3.out _).mono ?_); rintro e w3 ⟨rfl, b3⟩)
    | (go_at_call 14; (with_reducible refine (H4.out _).mono ?_); rintro e w4 ⟨rfl, rfl⟩)
    | (go_at_call 15; (with_reducible refine (H5.out _).mono ?_); rintro e w5 ⟨rfl, b5⟩)
    | (go_at_call 16; (with_reducible refine (H6.out _).mono ?_); rintro e w6 ⟨rfl, rfl⟩))
  go_ret
  have z1 := b1.size
  have z2 := b2.size
  have z3 := b3.size
  exact ⟨rfl, b1.trans ((b2.mono z1).trans ((b3.mono (by omega)).trans (b5.mono (by omega))))⟩

set_option maxRecDepth 100000 in
set_option maxHeartbeats 4000000 in
theorem bloomNever_walk (BB : BuildOk) (HH : HasOk) (VV : ValidOk) (LL : LoadOk) (v : Value) (b : Int) (keys : List (List UInt8)) (w : World) (hv : Strs w.heap.size w v keys) (hb0 : -9223372036854775808 ≤ b) (hb1 : b ≤ 9223372036854775807) (hk : keys.length ≤ 1048576) (hkl : ∀ x ∈ keys, x.length ≤ 1048576) :
    Calls Try.prog 5 #[.int .i64 b, v] w fun e w' => e = .returned (.bool true) ∧ Below w.heap.size w w' := by
  have HV := Lib.hid hv
  obtain ⟨a, cap, fb, fo, rfl, ha, hcells⟩ := hv
  have HC := Lib.hid hcells
  clear hcells
  by_cases h2 : keys.length = 0
  · have h2b : ((keys.length : Int) == 0) = true := by simp; exact List.eq_nil_of_length_eq_zero h2
    go_enter Try.func5, Try.ntmps5
    go_wp2_with fail
    go_ret
    exact ⟨rfl, Below.refl _ _⟩
  · have hne : keys ≠ [] := fun h => h2 (by rw [h]; rfl)
    have h2b : ((keys.length : Int) == 0) = false := by simpa using hne
    have hsm := build_small b keys hk
    have H1 := Lib.hid (BB (.slice a keys.length cap) b keys w HV.out ⟨hb0, hb1⟩ hk hkl)
    have hvl := build_valid b keys
    have hnil := build_nil (b := b) hne
    have hll := load_le (build b keys)
    have hl1 : ¬ b < 1 → 1 ≤ (load (build b keys)).1 := fun h => load_build (fun h' => h'.elim h hne)
    have HHB := Lib.hid (fun key hkey => has_build b keys key hkey)
    generalize build b keys = s at *
    have H2 := Lib.hid (fun W => VV s W (by omega))
    have H3 := Lib.hid (fun W => LL s W (by omega))
    have H4 := Lib.hid (fun (key : List UInt8) W (h : key.length ≤ 1048576) => HH s key W (by omega) (by omega))
    rw [hvl] at H2
    generalize (load s).1 = l1 at *
    generalize (load s).2 = l2 at *
    have hlli : (l1 : Int) ≤ (l2 : Int) := by omega
    clear hvl hll HH VV LL BB HV
    go_enter Try.func5, Try.ntmps5
    go_wp2_with (first
      | (go_at_call 7; (with_reducible refine (H1.out).mono ?_); rintro e w1 ⟨rfl, b1⟩)
      | (go_at_call 12; (with_reducible refine (H2.out _).mono ?_); rintro e w2 ⟨rfl, b2⟩)
      | (go_at_call 13; (with_reducible refine (H3.out _).mono ?_); rintro e w3 ⟨rfl, b3⟩))
    have z1 := b1.size
    have z2 := b2.size
    have b13 := b1.trans ((b2.mono z1).trans (b3.mono (by omega)))
    clear b1 b2 b3 H1 H2 H3
    go_loopw [9] (fun iv wr => ∃ q : Nat, q ≤ keys.length ∧ iv = .int .i64 (q : Int) ∧ Below w.heap.size w wr) (fun iv _ => keys.length - (intOf iv).toNat)
    case atStart => exact ⟨0, Nat.zero_le _, rfl, b13⟩
    case round =>
      obtain ⟨q, hq, rfl, hB⟩ := hrel
      have hbs := hB.size
      by_cases hlt : q < keys.length
      · obtain ⟨rfl, hfb⟩ := ha (by omega)
        have e0 := (hB.cell (p := ⟨fb, fo + q, none⟩) hfb).trans (HC.out q hlt)
        have hi1 : (0 : Int) ≤ (q : Int) ∧ (q : Int) < (keys.length : Int) := by omega
        have H5 := Lib.hid (fun W => H4.out keys[q] W (hkl _ (List.getElem_mem hlt)))
        rw [HHB.out keys[q] (List.getElem_mem hlt)] at H5
        generalize keys[q] = key at *
        go_wp2_with (go_at_call 11; (with_reducible refine (H5.out _).mono ?_); rintro e w4 ⟨rfl, b4⟩)
        go_roundw
        case rel => exact ⟨q + 1, by omega, by go_num, hB.trans (b4.mono hbs)⟩
        case measure => simp [intOf]; omega
      · obtain rfl : q = keys.length := by omega
        by_cases hbb : b < 1
        · have hs : s.isEmpty = true := by simpa using hnil.2 hbb
          clear hnil hl1
          go_wp2_with fail
          go_ret
          exact ⟨rfl, hB⟩
        · have hs : s.isEmpty = false := by simpa using fun h => hbb (hnil.1 h)
          have hl1i : (1 : Int) ≤ (l1 : Int) := by have := hl1 (by omega); omega
          clear hnil hl1
          go_wp2_with fail
          go_ret
          exact ⟨rfl, hB⟩

theorem andNot_sub (x y : List UInt8) (q : Nat) (hx : q < x.length) (hy : q < y.length) (h : Sub (x.getD q 0) (y.getD q 0)) : bits BinOp.andNot IntKind.u8 (((Cd.bs x)[q]'hx).toNat : Int) (((Cd.bs y)[q]'hy).toNat : Int) = 0 := by
  have e1 : x.getD q 0 = x[q] := by rw [List.getD_eq_getElem?_getD, List.getElem?_eq_getElem hx, Option.getD_some]
  have e2 : y.getD q 0 = y[q] := by rw [List.getD_eq_getElem?_getD, List.getElem?_eq_getElem hy, Option.getD_some]
  rw [e1, e2] at h
  show bits BinOp.andNot IntKind.u8 (x[q].toNat : Int) (y[q].toNat : Int) = 0
  generalize x[q] = c at *
  generalize y[q] = d at *
  have hc := c.toNat_lt
  have hd := d.toNat_lt
  have ho : c.toNat ||| d.toNat = d.toNat := by rw [← UInt8.toNat_or, h]
  rw [u8_andNot_nat _ _ (by omega) (by omega)]
  have : c.toNat &&& (255 - d.toNat) = 0 := by
    apply Nat.eq_of_testBit_eq
    intro i
    rw [Nat.testBit_and, show 255 - d.toNat = 2 ^ 8 - (d.toNat + 1) by omega, Nat.testBit_two_pow_sub_succ (by omega), Nat.zero_testBit]
    have hi : (c.toNat ||| d.toNat).testBit i = d.toNat.testBit i := by rw [ho]
    rw [Nat.testBit_or] at hi
    cases h1 : c.toNat.testBit i <;> cases h2 : d.toNat.testBit i <;> simp_all
  rw [this]; rfl
theorem Strs.take {B : Nat} {W : World} {a : Option Addr} {cap : Nat} {L : List (List UInt8)} (h : Strs B W (.slice a L.length cap) L) (n : Nat) (hn : n ≤ L.length) : Strs B W (.slice a n cap) (L.take n) := by
  obtain ⟨a', cap', b, off, h1, h2, h3⟩ := h
  injection h1 with e1 e2 e3
  subst e1 e3
  have hl : (L.take n).length = n := by simp; omega
  exact ⟨_, _, b, off, by rw [hl], fun h => h2 (by omega), fun j hj => by rw [List.getElem_take]; exact h3 j (by omega)⟩

set_option maxRecDepth 100000 in
set_option maxHeartbeats 4000000 in
theorem bloomUnion_walk (BB : BuildOk) (a : Option Addr) (cap : Nat) (b : Int) (keys : List (List UInt8)) (more : Int) (w : World) (hcap : keys.length ≤ cap) (hv : Strs w.heap.size w (.slice a keys.length cap) keys) (hb0 : -9223372036854775808 ≤ b) (hb1 : b ≤ 9223372036854775807) (hk : keys.length ≤ 1048576) (hkl : ∀ x ∈ keys, x.length ≤ 1048576) (hm0 : -9223372036854775808 ≤ more) (hm1 : more ≤ 9223372036854775807) :
    Calls Try.prog 6 #[.int .i64 b, .slice a keys.length cap, .int .i64 more] w fun e w' => e = .returned (.bool true) ∧ Below w.heap.size w w' := by
  by_cases h1 : more < 0
  · go_enter Try.func6, Try.ntmps6
    go_wp2_with fail
    go_ret
    exact ⟨rfl, Below.refl _ _⟩
  · by_cases h2 : (keys.length : Int) < more
    · go_enter Try.func6, Try.ntmps6
      go_wp2_with fail
      go_ret
      exact ⟨rfl, Below.refl _ _⟩
    · obtain ⟨n, rfl⟩ := Int.eq_ofNat_of_zero_le (by omega : 0 ≤ more)
      have hn : n ≤ keys.length := by omega
      have hnc : n ≤ cap := by omega
      have hbn := build_small b (keys.take n) (by simp; omega)
      have hbk := build_small b keys hk
      have hun := fun h h' => build_union (b := b) (keys := keys) n h h'
      have hV2 := hv.take n hn
      have H1 := Lib.hid (fun W (h : Below w.heap.size w W) => BB _ b (keys.take n) W (by have := hV2.below h (Nat.le_refl _); obtain ⟨a', c', q1, q2, r1, r2, r3⟩ := this; exact ⟨a', c', q1, q2, r1, fun h' => ⟨(r2 h').1, Nat.lt_of_lt_of_le (r2 h').2 h.size⟩, r3⟩) ⟨hb0, hb1⟩ (by simp; omega) (fun x hx => hkl x (List.mem_of_mem_take hx)))
      have H2 := Lib.hid (fun W (h : Below w.heap.size w W) => BB _ b keys W (by have := hv.below h (Nat.le_refl _); obtain ⟨a', c', q1, q2, r1, r2, r3⟩ := this; exact ⟨a', c', q1, q2, r1, fun h' => ⟨(r2 h').1, Nat.lt_of_lt_of_le (r2 h').2 h.size⟩, r3⟩) ⟨hb0, hb1⟩ hk hkl)
      have H3 := Lib.hid (fun W (h : Below w.heap.size w W) => buildR_any _ b (keys.take n) W (by have := hV2.below h (Nat.le_refl _); obtain ⟨a', c', q1, q2, r1, r2, r3⟩ := this; exact ⟨a', c', q1, q2, r1, fun h' => ⟨(r2 h').1, Nat.lt_of_lt_of_le (r2 h').2 h.size⟩, r3⟩) ⟨hb0, hb1⟩ (by simp; omega) (fun x hx => hkl x (List.mem_of_mem_take hx)))
      have HUN := Lib.hid hun
      clear hv hV2 hkl BB hun
      generalize build b (keys.take n) = x at *
      generalize build b keys = y at *
      have hsx : (Cd.bs x).size = x.length := rfl
      have hsy : (Cd.bs y).size = y.length := rfl
      by_cases h3 : x.length = y.length
      · obtain ⟨m, hm⟩ : ∃ m, y.length = m := ⟨_, rfl⟩
        rw [hm] at h3
        by_cases h4 : x = []
        · subst h4
          obtain rfl : m = 0 := by simpa using h3.symm
          clear HUN h3
          go_enter Try.func6, Try.ntmps6
          go_wp2_with (first
          | (go_at_call 7; (with_reducible refine (H1.out _ (Below.refl _ _)).mono ?_); rintro e w1 ⟨rfl, b1⟩)
          | (go_at_call 7; (with_reducible refine (H2.out _ b1).mono ?_); rintro e w2 ⟨rfl, b2⟩; have b12 := b1.trans (b2.mono b1.size))
          | (go_at_call 9; (with_reducible refine (H3.out _ b12).mono ?_); rintro e w3 ⟨rfl, b3⟩))
          go_ret
          exact ⟨rfl, b12.trans (b3.mono b12.size)⟩
        · have hxe : x.isEmpty = false := by simpa using h4
          obtain ⟨hsub, hhead⟩ := HUN.out (by rw [h3, hm]) h4
          have HS := Lib.hid hsub
          have hm0 : 0 < m := by rw [← h3]; exact List.length_pos_iff.2 h4
          clear HUN hsub
          go_enter Try.func6, Try.ntmps6
          go_wp2_with (first
          | (go_at_call 7; (with_reducible refine (H1.out _ (Below.refl _ _)).mono ?_); rintro e w1 ⟨rfl, b1⟩)
          | (go_at_call 7; (with_reducible refine (H2.out _ b1).mono ?_); rintro e w2 ⟨rfl, b2⟩; have b12 := b1.trans (b2.mono b1.size))
          | (go_at_call 9; (with_reducible refine (H3.out _ b12).mono ?_); rintro e w3 ⟨rfl, b3⟩))
          go_loopw [9] (fun iv wr => ∃ q : Nat, 1 ≤ q ∧ q ≤ m ∧ iv = .int .i64 (q : Int) ∧ Below w.heap.size w wr) (fun iv _ => m - (intOf iv).toNat)
          case atStart => exact ⟨1, Nat.le_refl _, hm0, rfl, b12⟩
          case round =>
            obtain ⟨q, hq1, hq, rfl, hB⟩ := hrel
            by_cases hlt : q < m
            · have hlx : q < x.length := by omega
              have hly : q < y.length := by omega
              have hi1 : (0 : Int) ≤ (q : Int) ∧ (q : Int) < (m : Int) := by omega
              have hand : bits BinOp.andNot IntKind.u8 (((Cd.bs x)[q]'hlx).toNat : Int) (((Cd.bs y)[q]'hly).toNat : Int) = 0 := andNot_sub x y q hlx hly (HS.out.2 q hq1)
              go_wp2_with fail
              go_big_quiet (fail)
              go_wp2_with fail
              go_roundw
              case rel => exact ⟨q + 1, by omega, by omega, by go_num, belowN hB _⟩
              case measure => simp [intOf]; omega
            · obtain rfl : q = m := by omega
              have hi0 : (0 : Int) < (q : Int) := by omega
              have hlx : 0 < x.length := by omega
              have hly : 0 < y.length := by omega
              have hhd : ((((Cd.bs x)[0]'hlx).toNat : Int) == (((Cd.bs y)[0]'hly).toNat : Int)) = true := by
                have e1 : x.getD 0 0 = x[0] := by rw [List.getD_eq_getElem?_getD, List.getElem?_eq_getElem hlx, Option.getD_some]
                have e2 : y.getD 0 0 = y[0] := by rw [List.getD_eq_getElem?_getD, List.getElem?_eq_getElem hly, Option.getD_some]
                rw [e1, e2] at hhead
                show ((x[0].toNat : Int) == (y[0].toNat : Int)) = true
                rw [hhead]; simp
              go_wp2_with fail
              go_big_quiet (fail)
              go_wp2_with fail
              go_ret
              exact ⟨rfl, belowN hB _⟩
      · have hq : ((x.length : Int) == (y.length : Int)) = false := by simpa using fun h => h3 (by exact_mod_cast h)
        clear HUN
        go_enter Try.func6, Try.ntmps6
        go_wp2_with (first
          | (go_at_call 7; (with_reducible refine (H1.out _ (Below.refl _ _)).mono ?_); rintro e w1 ⟨rfl, b1⟩)
          | (go_at_call 7; (with_reducible refine (H2.out _ b1).mono ?_); rintro e w2 ⟨rfl, b2⟩; have b12 := b1.trans (b2.mono b1.size))
          | (go_at_call 9; (with_reducible refine (H3.out _ b12).mono ?_); rintro e w3 ⟨rfl, b3⟩))
        go_ret
        exact ⟨rfl, b12.trans (b3.mono b12.size)⟩
end Bm
end Go.Proofs.Ytenjjfiojackaaa
