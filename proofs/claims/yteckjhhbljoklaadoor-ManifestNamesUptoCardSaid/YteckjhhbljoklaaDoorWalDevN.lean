/-
  The program's names of logs: strconv.FormatUint at base 16.
-/
import Derived.Test.YteckjhhbljoklaaDoorWalNamesLaw
import Derived.Test.YteckjhhbljoklaaDoorWalHexB
import Derived.Test.YteckjhhbljoklaaDoorShelf
import Derived.Deep.LoopGhost
import Derived.Laws.Bits64b
import Derived.Laws.IdiomStrings
namespace Go.Proofs.YteckjhhbljoklaaDoor
open Go.RowKit
set_option linter.unusedSimpArgs false
set_option linter.unusedVariables false
namespace Wd
open Wa

set_option maxRecDepth 100000 in
set_option maxHeartbeats 2000000 in
theorem pow2_16 (w : World) : Calls Tryd.prog 90 #[.int .i64 16] w fun e w' => e = .returned (.bool true) ∧ w = w' := by
  go_enter Tryd.func90, Tryd.ntmps90
  go_wp2_with fail
  go_ret
  exact ⟨rfl, rfl⟩

set_option maxRecDepth 100000 in
set_option maxHeartbeats 2000000 in
theorem zeros64_16 (w : World) (hT : w.cell? ⟨5, 15, none⟩ = some (.int .u8 4)) : Calls Tryd.prog 97 #[.int .u64 16] w fun e w' => e = .returned (.int .i64 4) ∧ w = w' := by
  have hw1 : IntKind.u64.wrap (-16) = 18446744073709551600 := by decide
  have hb1 : bits BinOp.and IntKind.u64 16 18446744073709551600 = 16 := by decide
  have hw2 : IntKind.u64.wrap (16 * 285870213051353865) = 4573923408821661840 := by decide
  go_enter Tryd.func97, Tryd.ntmps97
  go_wp2_with fail
  go_ret
  exact ⟨rfl, rfl⟩

set_option maxRecDepth 100000 in
set_option maxHeartbeats 2000000 in
theorem zeros_16 (w : World) (hT : w.cell? ⟨5, 15, none⟩ = some (.int .u8 4)) : Calls Tryd.prog 91 #[.int .u64 16] w fun e w' => e = .returned (.int .i64 4) ∧ w = w' := by
  go_enter Tryd.func91, Tryd.ntmps91
  go_wp2_with (go_at_call 97; (with_reducible refine (zeros64_16 _ hT).mono ?_); rintro e w1 ⟨rfl, rfl⟩)
  go_ret
  exact ⟨rfl, rfl⟩
theorem hex36 (k : Nat) (h : k < 16) : (({ data := #[48, 49, 50, 51, 52, 53, 54, 55, 56, 57, 97, 98, 99, 100, 101, 102, 103, 104, 105, 106, 107, 108, 109, 110, 111, 112, 113, 114, 115, 116, 117, 118, 119, 120, 121, 122] } : ByteArray)[k]'(Nat.lt_of_lt_of_le h (by decide))).toNat = (hexd k).toNat := by
  have : ∀ j : Fin 16, (({ data := #[48, 49, 50, 51, 52, 53, 54, 55, 56, 57, 97, 98, 99, 100, 101, 102, 103, 104, 105, 106, 107, 108, 109, 110, 111, 112, 113, 114, 115, 116, 117, 118, 119, 120, 121, 122] } : ByteArray)[j.1]'(Nat.lt_of_lt_of_le j.2 (by decide))).toNat = (hexd j.1).toNat := by decide
  exact this ⟨k, h⟩
theorem and15 (x : Nat) (h : x < 18446744073709551616) : bits BinOp.and IntKind.u64 (x : Int) 15 = ((x % 16 : Nat) : Int) := by
  have := bits_and_u64_nat x 15 h (by omega)
  rw [show (((15 : Nat)) : Int) = (15 : Int) from rfl] at this
  rw [this, show x &&& 15 = x % 16 from Nat.and_two_pow_sub_one_eq_mod x 4]
theorem cell_lt {w : World} {b j : Nat} {v : Value} (h : w.cell? ⟨b, j, none⟩ = some v) : b < w.heap.size := by
  obtain ⟨o, ho, _⟩ := cells_of_cell h
  exact (Array.getElem?_eq_some_iff.1 ho).1
theorem digC_get (m : Nat) (T : List UInt8) (j : Nat) (h : j < T.length) : (digC m T)[m + j]? = some (.int .u8 (T[j].toNat : Int)) := by
  unfold digC
  rw [List.getElem?_append_right (by simp), List.length_replicate, show m + j - m = j by omega]
  simp [Lib.byteCells, h]

set_option maxRecDepth 100000 in
set_option maxHeartbeats 4000000 in
theorem formatBits_16 (n : Nat) (w : World) (hn : n < 18446744073709551616) (hT : w.cell? ⟨5, 15, none⟩ = some (.int .u8 4)) :
    Calls Tryd.prog 76 #[.slice none 0 0, .int .u64 (n : Int), .int .i64 16, .bool false, .bool false] w fun e w' => e = .returned (.tuple #[.slice none 0 0, .string (Cd.bs (hexm n))]) ∧ Below w.heap.size w w' := by
  have h5 := cell_lt hT
  have ox := Ob.Obj.new w 125 (List.replicate 65 (.int .u8 0))
  have hB0 : Below w.heap.size w (w.alloc (.cells (List.replicate 65 (Value.int .u8 0)).toArray 125)) := (Below.refl _ _).alloc (Nat.le_refl _) _
  have hT0 := (hB0.cell (p := ⟨5, 15, none⟩) h5).trans hT
  go_enter Tryd.func76, Tryd.ntmps76
  obtain ⟨wA, hwA⟩ : ∃ wA, w.alloc (.cells (List.replicate 65 (Value.int .u8 0)).toArray 125) = wA := ⟨_, rfl⟩
  rw [hwA] at ox hB0 hT0
  have hwA2 : w.alloc (.cells Tryd.zeroCells125 125) = wA := hwA
  clear hwA
  go_wp2_with (first
    | (go_at_call 90; (with_reducible refine (pow2_16 _).mono ?_); rintro e w1 ⟨rfl, rfl⟩)
    | (go_at_call 91; (with_reducible refine (zeros_16 _ hT0).mono ?_); rintro e w2 ⟨rfl, rfl⟩))
  clear hT0 hT h5
  have ox0 : Ob.Obj wA w.heap.size 125 (digC 65 []) := by
    have e : digC 65 [] = List.replicate 65 (.int .u8 0) := by unfold digC; rw [show Lib.byteCells [] = [] from rfl, List.append_nil]
    rw [e]; exact ox
  clear hwA2 ox
  have h16 : n < 16 ^ (65 - 49) := by
    have : (16 : Nat) ^ (65 - 49) = 18446744073709551616 := by decide
    omega
  go_loopw [1, 13] (fun uv iv wr => ∃ (m x : Nat) (T : List UInt8), uv = .int .u64 (x : Int) ∧ iv = .int .i64 (m : Int) ∧ x < 18446744073709551616 ∧ (T.length + m ≤ 65 ∧ 65 ≤ T.length + m) ∧ (50 ≤ m ∧ x < 16 ^ (m - 49)) ∧ Hid (hexm n = hexm x ++ T) ∧ Ob.Obj wr w.heap.size 125 (digC m T) ∧ Below w.heap.size w wr) (fun _ i _ => (intOf i).toNat)
  case atStart => exact ⟨65, n, [], rfl, rfl, hn, by simp, ⟨by omega, h16⟩, (show hexm n = hexm n ++ [] by simp), ox0, hB0⟩
  case round =>
    obtain ⟨m, x, T, rfl, rfl, hx, ⟨hT1, hT2⟩, ⟨hm, hxp⟩, hgo, ho, hB⟩ := hrel
    obtain ⟨k, rfl⟩ : ∃ k, m = k + 1 := ⟨m - 1, by omega⟩
    have hps : 16 ^ (k + 1 - 49) = 16 * 16 ^ (k - 49) := by rw [show k + 1 - 49 = (k - 49) + 1 by omega, Nat.pow_succ, Nat.mul_comm]
    have hwk : IntKind.i64.wrap (((k + 1 : Nat) : Int) - 1) = (k : Int) := by rw [IntKind.wrap_i64]; omega
    have hi65 : (0 : Int) ≤ (k : Int) ∧ (k : Int) < 65 := by omega
    have hfr := ho.frozen k
    have hcl : ∃ u, wr.cell? ⟨w.heap.size, k, none⟩ = some u := ⟨_, (ho.cell k).trans (List.getElem?_eq_getElem (by simp [digC]; omega))⟩
    obtain ⟨u, hcu⟩ := hcl
    have hol := ho.lt
    by_cases hlt : 16 ≤ x
    · have hge : (16 : Int) ≤ (x : Int) := by omega
      have hk50 : 50 ≤ k := by
        by_cases h49 : k = 49
        · subst h49; simp at hxp; omega
        · omega
      have hxp2 : x / 16 < 16 ^ (k - 49) := by rw [hps] at hxp; omega
      have hand := and15 x hx
      have hm16 : x % 16 < 16 := Nat.mod_lt _ (by omega)
      have hix : (0 : Int) ≤ ((x % 16 : Nat) : Int) ∧ ((x % 16 : Nat) : Int) < 36 := by omega
      have hst := ho.set k (.int .u8 ((hexd (x % 16)).toNat : Int))
      rw [digC_set] at hst
      have HST := Lib.hid hst
      have HGO := Lib.hid (show hexm n = hexm (x / 16) ++ (hexd (x % 16) :: T) by rw [hgo.out, hexm_big hlt, List.append_assoc]; rfl)
      have HXP := Lib.hid hxp2
      have H36 := hex36 (x % 16) hm16
      clear hgo hst ho hps hxp hxp2
      go_wp2_with fail
      go_roundw
      case rel => exact ⟨k, x / 16, hexd (x % 16) :: T, by go_num, rfl, by omega, by rw [List.length_cons]; omega, ⟨hk50, HXP.out⟩, HGO, HST.out, hB.setCell (p := ⟨w.heap.size, k, none⟩) (Nat.le_refl _) _⟩
      case measure => simp [intOf] <;> omega
    · have hge : ¬ (16 : Int) ≤ (x : Int) := by omega
      have hx16 : x < 16 := by omega
      have hix : (0 : Int) ≤ (x : Int) ∧ (x : Int) < 36 := by omega
      have hst := ho.set k (.int .u8 ((hexd x).toNat : Int))
      rw [digC_set] at hst
      have HE := Lib.hid (show hexm n = hexd x :: T by rw [hgo.out, hexm_small hx16]; rfl)
      have H36 := hex36 x hx16
      have hlen : (hexd x :: T).length = 65 - k := by rw [List.length_cons]; omega
      have hcv := run_convert_bytes_back (P := Tryd.prog) (wr.setCell ⟨w.heap.size, k, none⟩ (.int .u8 ((hexd x).toNat : Int))) 59 9 5 ⟨w.heap.size, k, none⟩ (65 - k) (hexd x :: T) Tryd.underlying59 Tryd.underlying5 Tryd.underlying9 (fun j hj => by
        have := (hst.cell (k + j)).trans (digC_get k (hexd x :: T) j hj)
        rw [show (⟨w.heap.size, k, none⟩ : Addr).add j = ⟨w.heap.size, k + j, none⟩ by unfold Addr.add; split <;> simp_all]
        exact this)
      rw [hlen] at hcv
      have hk6 : (0 : Int) ≤ (k : Int) ∧ (k : Int) ≤ 65 := by omega
      clear hgo hst ho hps hxp
      go_wp2_with fail
      go_ret2
      exact ⟨by rw [HE.out]; rfl, hB.setCell (p := ⟨w.heap.size, k, none⟩) (Nat.le_refl _) _⟩

set_option maxRecDepth 100000 in
set_option maxHeartbeats 2000000 in
theorem formatUintI_16 (n : Nat) (w : World) (hn : n < 18446744073709551616) (hT : w.cell? ⟨5, 15, none⟩ = some (.int .u8 4)) :
    Calls Tryd.prog 58 #[.int .u64 (n : Int), .int .i64 16] w fun e w' => e = .returned (.string (Cd.bs (hexm n))) ∧ Below w.heap.size w w' := by
  go_enter Tryd.func58, Tryd.ntmps58
  go_wp2_with (go_at_call 76; (with_reducible refine (formatBits_16 n _ hn hT).mono ?_); rintro e w1 ⟨rfl, hb1⟩)
  go_ret
  exact ⟨rfl, hb1⟩

set_option maxRecDepth 100000 in
set_option maxHeartbeats 2000000 in
theorem formatUint_16 (n : Nat) (w : World) (hn : n < 18446744073709551616) (hT : w.cell? ⟨5, 15, none⟩ = some (.int .u8 4)) :
    Calls Tryd.prog 41 #[.int .u64 (n : Int), .int .i64 16] w fun e w' => e = .returned (.string (Cd.bs (hexm n))) ∧ Below w.heap.size w w' := by
  go_enter Tryd.func41, Tryd.ntmps41
  go_wp2_with (go_at_call 58; (with_reducible refine (formatUintI_16 n _ hn hT).mono ?_); rintro e w1 ⟨rfl, hb1⟩)
  go_ret
  exact ⟨rfl, hb1⟩

theorem repeat_48 (c : Nat) : Lib.repeatL [48] c = List.replicate c (48 : UInt8) := by
  induction c with
  | zero => rfl
  | succ c ih => simp [Lib.repeatL, List.replicate_succ] at ih ⊢ <;> (try rw [ih]) <;> (try simp)

set_option maxRecDepth 100000 in
set_option maxHeartbeats 2000000 in
theorem nameOk : NameOk := by
  intro n w hn hL
  obtain ⟨l1, l2⟩ := hexm_in hn
  have HN := Lib.hid (show name n = logB ++ List.replicate (16 - (hexm n).length) 48 ++ hexm n by rw [name_hexm hn, List.append_assoc])
  have HF := Lib.hid (formatUint_16 n w hn hL.1)
  generalize hexm n = d at *
  have hsz : (Cd.bs d).size = d.length := rfl
  have hw : IntKind.i64.wrap (16 - (d.length : Int)) = ((16 - d.length : Nat) : Int) := by rw [IntKind.wrap_i64]; omega
  have HR := Lib.hid (fun W => show Calls Tryd.prog 42 #[.string ⟨#[48]⟩, .int .i64 ((16 - d.length : Nat) : Int)] W fun e w' => e = .returned (.string (Cd.bs (List.replicate (16 - d.length) 48))) ∧ Below W.heap.size W w' from by
    have := Tryd.strings_Repeat ⟨#[48]⟩ (16 - d.length) W (by omega) (by show 1 * (16 - d.length) ≤ _; omega)
    rw [show (⟨#[48]⟩ : ByteArray).data.toList = [48] from rfl, repeat_48] at this
    exact this)
  obtain ⟨c, hc⟩ : ∃ c, c = 16 - d.length := ⟨_, rfl⟩
  rw [← hc] at hw HR HN
  have hc16 : c ≤ 16 := by omega
  clear hc
  go_enter Tryd.func31, Tryd.ntmps31
  go_wp2_with (first
    | (go_at_call 41; (with_reducible refine HF.out.mono ?_); rintro e w1 ⟨rfl, hb1⟩)
    | (go_at_call 42; (with_reducible refine (HR.out _).mono ?_); rintro e w2 ⟨rfl, hb2⟩))
  go_ret
  refine ⟨?_, hb1.trans (hb2.mono hb1.size)⟩
  rw [HN.out]
  show Ending.returned (.string (Cd.bs logB ++ Cd.bs (List.replicate c 48) ++ Cd.bs d)) = _
  rw [ByteArray.mk_append_mk, ByteArray.mk_append_mk]
end Wd
end Go.Proofs.YteckjhhbljoklaaDoor
