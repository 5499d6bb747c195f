import Derived.Deep.LoopGhost
import Derived.Laws.Bits64b
import Derived.Laws.IdiomStrings
import Derived.Test.YtmfeeampbmandaaDoorPart1
/-
  The program's names of logs: strconv.FormatUint at base 16.
-/
namespace Go.Proofs.YtmfeeampbmandaaDoor
open Go.RowKit
set_option linter.unusedSimpArgs false
set_option linter.unusedVariables false
namespace Wd
open Wa

set_option maxRecDepth 100000 in
set_option maxHeartbeats 2000000 in
theorem pow2_16 (w : World) : Calls Tryd.prog 42 #[.int .i64 16] w fun e w' => e = .returned (.bool true) ∧ w = w' := by
  go_enter Tryd.func42, Tryd.ntmps42
  go_wp2_with fail
  go_ret
  exact ⟨rfl, rfl⟩

set_option maxRecDepth 100000 in
set_option maxHeartbeats 2000000 in
theorem zeros64_16 (w : World) (hT : w.cell? ⟨5, 15, none⟩ = some (.int .u8 4)) : Calls Tryd.prog 50 #[.int .u64 16] w fun e w' => e = .returned (.int .i64 4) ∧ w = w' := by
  have hw1 : IntKind.u64.wrap (-16) = 18446744073709551600 := by decide
  have hb1 : bits BinOp.and IntKind.u64 16 18446744073709551600 = 16 := by decide
  have hw2 : IntKind.u64.wrap (16 * 285870213051353865) = 4573923408821661840 := by decide
  go_enter Tryd.func50, Tryd.ntmps50
  go_wp2_with fail
  go_ret
  exact ⟨rfl, rfl⟩

set_option maxRecDepth 100000 in
set_option maxHeartbeats 2000000 in
theorem zeros_16 (w : World) (hT : w.cell? ⟨5, 15, none⟩ = some (.int .u8 4)) : Calls Tryd.prog 43 #[.int .u64 16] w fun e w' => e = .returned (.int .i64 4) ∧ w = w' := by
  go_enter Tryd.func43, Tryd.ntmps43
  go_wp2_with (go_at_call 50; (with_reducible refine (zeros64_16 _ hT).mono ?_); rintro e w1 ⟨rfl, rfl⟩)
  go_ret
  exact ⟨rfl, rfl⟩
theorem hex36 (k : Nat) (h : k < 16) : (({ data := #[48, 49, 50, 51, 52, 53, 54, 55, 56, 57, 97, 98, 99, 100, 101, 102, 103, 104, 105, 106, 107, 108, 109, 110, 111, 112, 113, 114, 115, 116, 117, 118, 119, 120, 121, 122] } : ByteArray)[k]'(Nat.lt_of_lt_of_le h (by decide))).toNat = (hexd k).toNat := by
  have : ∀ j : Fin 16, (({ data := #[48, 49, 50, 51, 52, 53, 54, 55, 56, 57, 97, 98, 99, 100, 101, 102, 103, 104, 105, 106, 107, 108, 109, 110, 111, 112, 113, 114, 115, 116, 117, 118, 119, 120, 121, 122] } : ByteArray)[j.1]'(Nat.lt_of_lt_of_le j.2 (by decide))).toNat = (hexd j.1).toNat := by decide
  exact this ⟨k, h⟩
theorem and15 (x : Nat) (h : x < 18446744073709551616) : bits BinOp.and IntKind.u64 (x : Int) 15 = ((x % 16 : Nat) : Int) := by
  have := bits_and_u64_nat x 15 h (by omega)
  rw [show (((15 : Nat)) : Int) = (15 : Int) from rfl] at this
  rw [this, show x &&& 15 = x % 16 from Nat.and_two_pow_sub_one_eq_mod x 4]
theorem cell_lt {w : World} {b j : Nat} {v : Value} (h : w.cell? ⟨b, j, none⟩ = some v) : b < w.heap.size := by
  obtain ⟨o, ho, _⟩ := cells_of_cell h
  exact (Array.getElem?_eq_some_iff.1 ho).1
theorem digC_get (m : Nat) (T : List UInt8) (j : Nat) (h : j < T.length) : (digC m T)[m + j]? = some (.int .u8 (T[j].toNat : Int)) := by
  unfold digC
  rw [List.getElem?_append_right (by simp), List.length_replicate, show m + j - m = j by omega]
  simp [Lib.byteCells, h]

set_option maxRecDepth 100000 in
set_option maxHeartbeats 4000000 in
theorem formatBits_16 (n : Nat) (w : World) (hn : n < 18446744073709551616) (hT : w.cell? ⟨5, 15, none⟩ = some (.int .u8 4)) :
    Calls Tryd.prog 27 #[.slice none 0 0, .int .u64 (n : Int), .int .i64 16, .bool false, .bool false] w fun e w' => e = .returned (.tuple #[.slice none 0 0, .string (Cd.bs (hexm n))]) ∧ Below w.heap.size w w' := by
  have h5 := cell_lt hT
  have ox := Ob.Obj.new w 70 (List.replicate 65 (.int .u8 0))
  have hB0 : Below w.heap.size w (w.alloc (.cells (List.replicate 65 (Value.int .u8 0)).toArray 70)) := (Below.refl _ _).alloc (Nat.le_refl _) _
  have hT0 := (hB0.cell (p := ⟨5, 15, none⟩) h5).trans hT
  go_enter Tryd.func27, Tryd.ntmps27
  obtain ⟨wA, hwA⟩ : ∃ wA, w.alloc (.cells (List.replicate 65 (Value.int .u8 0)).toArray 70) = wA := ⟨_, rfl⟩
  rw [hwA] at ox hB0 hT0
  have hwA2 : w.alloc (.cells Tryd.zeroCells70 70) = wA := hwA
  clear hwA
  go_wp2_with (first
    | (go_at_call 42; (with_reducible refine (pow2_16 _).mono ?_); rintro e w1 ⟨rfl, rfl⟩)
    | (go_at_call 43; (with_reducible refine (zeros_16 _ hT0).mono ?_); rintro e w2 ⟨rfl, rfl⟩))
  clear hT0 hT h5
  have ox0 : Ob.Obj wA w.heap.size 70 (digC 65 []) := by
    have e : digC 65 [] = List.replicate 65 (.int .u8 0) := by unfold digC; rw [show Lib.byteCells [] = [] from rfl, List.append_nil]
    rw [e]; exact ox
  clear hwA2 ox
  have h16 : n < 16 ^ (65 - 49) := by
    have : (16 : Nat) ^ (65 - 49) = 18446744073709551616 := by decide
    omega
  go_loopw [1, 13] (fun uv iv wr => ∃ (m x : Nat) (T : List UInt8), uv = .int .u64 (x : Int) ∧ iv = .int .i64 (m : Int) ∧ x < 18446744073709551616 ∧ (T.length + m ≤ 65 ∧ 65 ≤ T.length + m) ∧ (50 ≤ m ∧ x < 16 ^ (m - 49)) ∧ Hid (hexm n = hexm x ++ T) ∧ Ob.Obj wr w.heap.size 70 (digC m T) ∧ Below w.heap.size w wr) (fun _ i _ => (intOf i).toNat)
  case atStart => exact ⟨65, n, [], rfl, rfl, hn, by simp, ⟨by omega, h16⟩, (show hexm n = hexm n ++ [] by simp), ox0, hB0⟩
  case round =>
    obtain ⟨m, x, T, rfl, rfl, hx, ⟨hT1, hT2⟩, ⟨hm, hxp⟩, hgo, ho, hB⟩ := hrel
    obtain ⟨k, rfl⟩ : ∃ k, m = k + 1 := ⟨m - 1, by omega⟩
    have hps : 16 ^ (k + 1 - 49) = 16 * 16 ^ (k - 49) := by rw [show k + 1 - 49 = (k - 49) + 1 by omega, Nat.pow_succ, Nat.mul_comm]
    have hwk : IntKind.i64.wrap (((k + 1 : Nat) : Int) - 1) = (k : Int) := by rw [IntKind.wrap_i64]; omega
    have hi65 : (0 : Int) ≤ (k : Int) ∧ (k : Int) < 65 := by omega
    have hfr := ho.frozen k
    have hcl : ∃ u, wr.cell? ⟨w.heap.size, k, none⟩ = some u := ⟨_, (ho.cell k).trans (List.getElem?_eq_getElem (by simp [digC]; omega))⟩
    obtain ⟨u, hcu⟩ := hcl
    have hol := ho.lt
    by_cases hlt : 16 ≤ x
    · have hge : (16 : Int) ≤ (x : Int) := by omega
      have hk50 : 50 ≤ k := by
        by_cases h49 : k = 49
        · subst h49; simp at hxp; omega
        · omega
      have hxp2 : x / 16 < 16 ^ (k - 49) := by rw [hps] at hxp; omega
      have hand := and15 x hx
      have hm16 : x % 16 < 16 := Nat.mod_lt _ (by omega)
      have hix : (0 : Int) ≤ ((x % 16 : Nat) : Int) ∧ ((x % 16 : Nat) : Int) < 36 := by omega
      have hst := ho.set k (.int .u8 ((hexd (x % 16)).toNat : Int))
      rw [digC_set] at hst
      have HST := Lib.hid hst
      have HGO := Lib.hid (show hexm n = hexm (x / 16) ++ (hexd (x % 16) :: T) by rw [hgo.out, hexm_big hlt, List.append_assoc]; rfl)
      have HXP := Lib.hid hxp2
      have H36 := hex36 (x % 16) hm16
      clear hgo hst ho hps hxp hxp2
      go_wp2_with fail
      go_roundw
      case rel => exact ⟨k, x / 16, hexd (x % 16) :: T, by go_num, rfl, by omega, by rw [List.length_cons]; omega, ⟨hk50, HXP.out⟩, HGO, HST.out, hB.setCell (p := ⟨w.heap.size, k, none⟩) (Nat.le_refl _) _⟩
      case measure => simp [intOf] <;> omega
    · have hge : ¬ (16 : Int) ≤ (x : Int) := by omega
      have hx16 : x < 16 := by omega
      have hix : (0 : Int) ≤ (x : Int) ∧ (x : Int) < 36 := by omega
      have hst := ho.set k (.int .u8 ((hexd x).toNat : Int))
      rw [digC_set] at hst
      have HE := Lib.hid (show hexm n = hexd x :: T by rw [hgo.out, hexm_small hx16]; rfl)
      have H36 := hex36 x hx16
      have hlen : (hexd x :: T).length = 65 - k := by rw [List.length_cons]; omega
      have hcv := run_convert_bytes_back (P := Tryd.prog) (wr.setCell ⟨w.heap.size, k, none⟩ (.int .u8 ((hexd x).toNat : Int))) 40 9 5 ⟨w.heap.size, k, none⟩ (65 - k) (hexd x :: T) Tryd.underlying40 Tryd.underlying5 Tryd.underlying9 (fun j hj => by
        have := (hst.cell (k + j)).trans (digC_get k (hexd x :: T) j hj)
        rw [show (⟨w.heap.size, k, none⟩ : Addr).add j = ⟨w.heap.size, k + j, none⟩ by unfold Addr.add; split <;> simp_all]
        exact this)
      rw [hlen] at hcv
      have hk6 : (0 : Int) ≤ (k : Int) ∧ (k : Int) ≤ 65 := by omega
      clear hgo hst ho hps hxp
      go_wp2_with fail
      go_ret2
      exact ⟨by rw [HE.out]; rfl, hB.setCell (p := ⟨w.heap.size, k, none⟩) (Nat.le_refl _) _⟩

set_option maxRecDepth 100000 in
set_option maxHeartbeats 2000000 in
theorem formatUintI_16 (n : Nat) (w : World) (hn : n < 18446744073709551616) (hT : w.cell? ⟨5, 15, none⟩ = some (.int .u8 4)) :
    Calls Tryd.prog 14 #[.int .u64 (n : Int), .int .i64 16] w fun e w' => e = .returned (.string (Cd.bs (hexm n))) ∧ Below w.heap.size w w' := by
  go_enter Tryd.func14, Tryd.ntmps14
  go_wp2_with (go_at_call 27; (with_reducible refine (formatBits_16 n _ hn hT).mono ?_); rintro e w1 ⟨rfl, hb1⟩)
  go_ret
  exact ⟨rfl, hb1⟩

set_option maxRecDepth 100000 in
set_option maxHeartbeats 2000000 in
theorem formatUint_16 (n : Nat) (w : World) (hn : n < 18446744073709551616) (hT : w.cell? ⟨5, 15, none⟩ = some (.int .u8 4)) :
    Calls Tryd.prog 8 #[.int .u64 (n : Int), .int .i64 16] w fun e w' => e = .returned (.string (Cd.bs (hexm n))) ∧ Below w.heap.size w w' := by
  go_enter Tryd.func8, Tryd.ntmps8
  go_wp2_with (go_at_call 14; (with_reducible refine (formatUintI_16 n _ hn hT).mono ?_); rintro e w1 ⟨rfl, hb1⟩)
  go_ret
  exact ⟨rfl, hb1⟩

theorem repeat_48 (c : Nat) : Lib.repeatL [48] c = List.replicate c (48 : UInt8) := by
  induction c with
  | zero => rfl
  | succ c ih => simp [Lib.repeatL, List.replicate_succ] at ih ⊢ <;> (try rw [ih]) <;> (try simp)

set_option maxRecDepth 100000 in
set_option maxHeartbeats 2000000 in
theorem nameOk : NameOk := by
  intro n w hn hL
  obtain ⟨l1, l2⟩ := hexm_in hn
  have HN := Lib.hid (show name n = logB ++ List.replicate (16 - (hexm n).length) 48 ++ hexm n by rw [name_hexm hn, List.append_assoc])
  have HF := Lib.hid (formatUint_16 n w hn hL.1)
  generalize hexm n = d at *
  have hsz : (Cd.bs d).size = d.length := rfl
  have hw : IntKind.i64.wrap (16 - (d.length : Int)) = ((16 - d.length : Nat) : Int) := by rw [IntKind.wrap_i64]; omega
  have HR := Lib.hid (fun W => show Calls Tryd.prog 9 #[.string ⟨#[48]⟩, .int .i64 ((16 - d.length : Nat) : Int)] W fun e w' => e = .returned (.string (Cd.bs (List.replicate (16 - d.length) 48))) ∧ Below W.heap.size W w' from by
    have := Tryd.strings_Repeat ⟨#[48]⟩ (16 - d.length) W (by omega) (by show 1 * (16 - d.length) ≤ _; omega)
    rw [show (⟨#[48]⟩ : ByteArray).data.toList = [48] from rfl, repeat_48] at this
    exact this)
  obtain ⟨c, hc⟩ : ∃ c, c = 16 - d.length := ⟨_, rfl⟩
  rw [← hc] at hw HR HN
  have hc16 : c ≤ 16 := by omega
  clear hc
  go_enter Tryd.func4, Tryd.ntmps4
  go_wp2_with (first
    | (go_at_call 8; (with_reducible refine HF.out.mono ?_); rintro e w1 ⟨rfl, hb1⟩)
    | (go_at_call 9; (with_reducible refine (HR.out _).mono ?_); rintro e w2 ⟨rfl, hb2⟩))
  go_ret
  refine ⟨?_, hb1.trans (hb2.mono hb1.size)⟩
  rw [HN.out]
  show Ending.returned (.string (Cd.bs logB ++ Cd.bs (List.replicate c 48) ++ Cd.bs d)) = _
  rw [ByteArray.mk_append_mk, ByteArray.mk_append_mk]
end Wd
end Go.Proofs.YtmfeeampbmandaaDoor

/-
  The program's names of logs: strconv.ParseUint at base 16, as far as names need it.
-/
namespace Go.Proofs.YtmfeeampbmandaaDoor
open Go.RowKit
set_option linter.unusedSimpArgs false
set_option linter.unusedVariables false
namespace Sx
/-- the block that []byte(s) lays, and its room -/
def row (W : World) (P : List UInt8) : Obj := .cells (bytesRow (Cd.bs P) (grownCap W P.length 0 5)) 5 ((bytesRow (Cd.bs P) (grownCap W P.length 0 5)).size, (bytesRow (Cd.bs P) (grownCap W P.length 0 5)).size + 1)
theorem conv (W : World) (P : List UInt8) : (convert 9 40 (.string (Cd.bs P))).run Tryd.prog W = .ok (.slice (some ⟨W.heap.size, 0, none⟩) P.length (grownCap W P.length 0 5)) (W.alloc (row W P)).drew :=
  run_bytes_of_string (P := Tryd.prog) W 9 40 5 (Cd.bs P) Tryd.underlying9 Tryd.underlying40 Tryd.underlying5
theorem cell (W : World) (P : List UInt8) (j : Nat) (hj : j < P.length) : (W.alloc (row W P)).drew.cell? ⟨W.heap.size, j, none⟩ = some (.int .u8 (P[j].toNat : Int)) := by
  have h := World.alloc_heap_new W (row W P)
  unfold row at h
  have hd : (W.alloc (row W P)).drew.cell? ⟨W.heap.size, j, none⟩ = (W.alloc (row W P)).cell? ⟨W.heap.size, j, none⟩ := rfl
  rw [hd]
  unfold World.cell? row
  rw [h]
  have : (bytesRow (Cd.bs P) (grownCap W P.length 0 5))[j]? = some (.int .u8 (P[j].toNat : Int)) := by
    unfold bytesRow
    rw [Array.getElem?_append_left (by simpa using hj)]
    simp [hj]
  simpa using this
end Sx
namespace Wd
open Wa
/-- a small letter of a letter -/
def lw (c : UInt8) : Nat := (c ||| 32).toNat
set_option maxRecDepth 100000 in
theorem or32 (c : UInt8) : bits BinOp.or IntKind.u8 (c.toNat : Int) 32 = ((lw c : Nat) : Int) := by
  have : ∀ j : Fin 256, bits BinOp.or IntKind.u8 ((UInt8.ofNat j.1).toNat : Int) 32 = ((lw (UInt8.ofNat j.1) : Nat) : Int) := by decide
  have h := this ⟨c.toNat, c.toNat_lt⟩
  simpa using h
set_option maxRecDepth 100000 in
set_option maxHeartbeats 2000000 in
theorem hexv_cases (c : UInt8) : (48 ≤ c.toNat ∧ c.toNat ≤ 57 ∧ hexv c = some (c.toNat - 48)) ∨ (¬ (48 ≤ c.toNat ∧ c.toNat ≤ 57) ∧ 97 ≤ lw c ∧ lw c ≤ 102 ∧ (hexv c = none ∨ hexv c = some (lw c - 87))) ∨ (¬ (48 ≤ c.toNat ∧ c.toNat ≤ 57) ∧ 103 ≤ lw c ∧ lw c ≤ 122 ∧ hexv c = none) ∨ (¬ (48 ≤ c.toNat ∧ c.toNat ≤ 57) ∧ (lw c < 97 ∨ 122 < lw c) ∧ hexv c = none) := by
  have : ∀ j : Fin 256, (48 ≤ (UInt8.ofNat j.1).toNat ∧ (UInt8.ofNat j.1).toNat ≤ 57 ∧ hexv (UInt8.ofNat j.1) = some ((UInt8.ofNat j.1).toNat - 48)) ∨ (¬ (48 ≤ (UInt8.ofNat j.1).toNat ∧ (UInt8.ofNat j.1).toNat ≤ 57) ∧ 97 ≤ lw (UInt8.ofNat j.1) ∧ lw (UInt8.ofNat j.1) ≤ 102 ∧ (hexv (UInt8.ofNat j.1) = none ∨ hexv (UInt8.ofNat j.1) = some (lw (UInt8.ofNat j.1) - 87))) ∨ (¬ (48 ≤ (UInt8.ofNat j.1).toNat ∧ (UInt8.ofNat j.1).toNat ≤ 57) ∧ 103 ≤ lw (UInt8.ofNat j.1) ∧ lw (UInt8.ofNat j.1) ≤ 122 ∧ hexv (UInt8.ofNat j.1) = none) ∨ (¬ (48 ≤ (UInt8.ofNat j.1).toNat ∧ (UInt8.ofNat j.1).toNat ≤ 57) ∧ (lw (UInt8.ofNat j.1) < 97 ∨ 122 < lw (UInt8.ofNat j.1)) ∧ hexv (UInt8.ofNat j.1) = none) := by decide
  have h := this ⟨c.toNat, c.toNat_lt⟩
  simpa using h

set_option maxRecDepth 100000 in
set_option maxHeartbeats 2000000 in
theorem lower_any (c : UInt8) (w : World) : Calls Tryd.prog 33 #[.int .u8 (c.toNat : Int)] w fun e w' => e = .returned (.int .u8 ((lw c : Nat) : Int)) ∧ w = w' := by
  have h := or32 c
  go_enter Tryd.func33, Tryd.ntmps33
  go_wp2_with fail
  go_ret
  exact ⟨rfl, rfl⟩

/-- what ParseUint answers, as far as names need it -/
def PUOut (l : List UInt8) (w : World) (e : Ending) (w' : World) : Prop :=
  ∃ (n : Nat) (ev : Value), e = .returned (.tuple #[.int .u64 (n : Int), ev]) ∧ n < 18446744073709551616 ∧ (ev = .nilIface ∨ ev = .iface 61 (.int .i64 2) ∨ ev = .iface 61 (.int .i64 1)) ∧ (∀ v, l.length = 16 → hexGo l 0 = some v → n = v) ∧ Below w.heap.size w w'

set_option maxRecDepth 100000 in
set_option maxHeartbeats 8000000 in
theorem parseUintI_16 (l : List UInt8) (w : World) (hl : l.length ≤ 140737488351232) :
    Calls Tryd.prog 21 #[.string (Cd.bs l), .int .i64 16, .int .i64 64] w (PUOut l w) := by
  cases l with
  | nil =>
    go_enter Tryd.func21, Tryd.ntmps21
    go_wp2_with fail
    go_ret2
    exact ⟨0, _, rfl, by omega, .inr (.inl rfl), fun v h => by simp at h, Below.refl _ _⟩
  | cons c0 r0 =>
    have hne : ((c0 :: r0) == []) = false := rfl
    have hlen : (0 : Int) < ((c0 :: r0).length : Int) := by simp only [List.length_cons]; omega
    generalize hgl : c0 :: r0 = l at *
    have hsz : (Cd.bs l).size = l.length := rfl
    have hne2 : l.isEmpty = false := by rw [← hgl]; rfl
    have hcv := Sx.conv w l
    have HCL := Lib.hid (fun j hj => Sx.cell w l j hj)
    have hB1 : Below w.heap.size w (w.alloc (Sx.row w l)).drew := ((Below.refl _ _).alloc (Nat.le_refl _) _).drew
    obtain ⟨cap, hcap⟩ : ∃ cap, grownCap w l.length 0 5 = cap := ⟨_, rfl⟩
    rw [hcap] at hcv
    obtain ⟨W1, hW1⟩ : ∃ W1, (w.alloc (Sx.row w l)).drew = W1 := ⟨_, rfl⟩
    rw [hW1] at hcv HCL hB1
    have hw16 : IntKind.u8.wrap 16 = 16 := by decide
    have hw16b : IntKind.u64.wrap 16 = 16 := by decide
    have hmv : IntKind.u64.wrap 18446744073709551616 = 0 := by decide
    have hmv2 : IntKind.u64.wrap (-1) = 18446744073709551615 := by decide
    clear hgl hcap hW1
    go_enter Tryd.func21, Tryd.ntmps21
    go_wp2_with fail
    clear hmv hmv2
    go_loopw [12, 13, 101] (fun bv nv iv wr => wr = W1 ∧ bv = .bool false ∧ ∃ (k n : Nat), k ≤ l.length ∧ iv = .int .i64 (k : Int) ∧ nv = .int .u64 (n : Int) ∧ n < 18446744073709551616 ∧ Hid (∀ v, l.length = 16 → hexGo l 0 = some v → hexGo (l.drop k) n = some v ∧ n < 16 ^ k)) (fun _ _ i _ => l.length - (intOf i).toNat)
    case atStart => exact ⟨rfl, rfl, 0, 0, Nat.zero_le _, rfl, rfl, by omega, (show ∀ v, l.length = 16 → hexGo l 0 = some v → hexGo (l.drop 0) 0 = some v ∧ 0 < 16 ^ 0 from fun v _ h => ⟨h, by omega⟩)⟩
    case round =>
      obtain ⟨rfl, rfl, k, n, hk, rfl, rfl, hn, hgo⟩ := hrel
      by_cases hlt : k < l.length
      · have hi1 : (0 : Int) ≤ (k : Int) ∧ (k : Int) < (l.length : Int) := by omega
        have hcl := HCL.out k hlt
        have hcb := l[k].toNat_lt
        have HLW := Lib.hid (fun W => lower_any l[k] W)
        have hstep : ∀ d, hexv l[k] = some d → d < 16 → ∀ v, l.length = 16 → hexGo l 0 = some v → hexGo (l.drop (k + 1)) (16 * n + d) = some v ∧ 16 * n + d < 16 ^ (k + 1) := fun d hd hd16 v h16 hv => by
          obtain ⟨h1, h2⟩ := hgo.out v h16 hv
          rw [hexGo_some hlt hd] at h1
          exact ⟨h1, by rw [Nat.pow_succ]; omega⟩
        have hnone : hexv l[k] = none → ∀ v, l.length = 16 → hexGo l 0 = some v → False := fun hd v h16 hv => by
          have h1 := (hgo.out v h16 hv).1
          rw [hexGo_none hlt hd] at h1
          cases h1
        have HPW := Lib.hid (show ∀ v, l.length = 16 → hexGo l 0 = some v → n < 1152921504606846976 from fun v h16 hv => by
          have h2 := (hgo.out v h16 hv).2
          have h3 : 16 ^ k ≤ 16 ^ 15 := Nat.pow_le_pow_right (by omega) (by omega)
          have h4 : (16 : Nat) ^ 15 = 1152921504606846976 := by decide
          omega)
        have hcs := hexv_cases l[k]
        clear hgo
        generalize l[k] = c at *
        generalize hlwc : lw c = m at *
        rcases hcs with ⟨q1, q2, q3⟩ | ⟨q1, q2, q3, q4⟩ | ⟨q1, q2, q3, q4⟩ | ⟨q1, q2, q3⟩
        · obtain ⟨d, hd⟩ : ∃ d, c.toNat - 48 = d := ⟨_, rfl⟩
          have hd16 : d < 16 := by omega
          have HST := Lib.hid (hstep d (by rw [q3, hd]) hd16)
          have h95 : (((c.toNat : Nat) : Int) == 95) = false := by simp; omega
          have h48 : (48 : Int) ≤ ((c.toNat : Nat) : Int) := by omega
          have h57 : ((c.toNat : Nat) : Int) ≤ 57 := by omega
          have hws : IntKind.u8.wrap (((c.toNat : Nat) : Int) - 48) = ((d : Nat) : Int) := by rw [show IntKind.u8.wrap (((c.toNat : Nat) : Int) - 48) = (((c.toNat : Nat) : Int) - 48) % 256 from rfl]; omega
          have hd16i : ¬ (16 : Int) ≤ ((d : Nat) : Int) := by omega
          clear hstep hnone q1 q2 q3 hd
          by_cases hcut : n < 1152921504606846976
          · have hcui : ¬ (1152921504606846976 : Int) ≤ (n : Int) := by omega
            have hwm : IntKind.u64.wrap ((n : Int) * 16) = ((16 * n : Nat) : Int) := by rw [show IntKind.u64.wrap ((n : Int) * 16) = ((n : Int) * 16) % 18446744073709551616 from rfl]; omega
            have hwa : IntKind.u64.wrap (((16 * n : Nat) : Int) + ((d : Nat) : Int)) = ((16 * n + d : Nat) : Int) := by rw [show IntKind.u64.wrap (((16 * n : Nat) : Int) + ((d : Nat) : Int)) = (((16 * n : Nat) : Int) + ((d : Nat) : Int)) % 18446744073709551616 from rfl]; omega
            have hwd : IntKind.u64.wrap ((d : Nat) : Int) = ((d : Nat) : Int) := by rw [show IntKind.u64.wrap ((d : Nat) : Int) = ((d : Nat) : Int) % 18446744073709551616 from rfl]; omega
            have hlt2 : ¬ ((16 * n + d : Nat) : Int) < ((16 * n : Nat) : Int) := by omega
            have hmx : ¬ (18446744073709551615 : Int) < ((16 * n + d : Nat) : Int) := by omega
            obtain ⟨n16, hn16⟩ : ∃ n16, 16 * n = n16 := ⟨_, rfl⟩
            obtain ⟨n2, hn2⟩ : ∃ n2, 16 * n + d = n2 := ⟨_, rfl⟩
            rw [hn2] at hwa hlt2 hmx
            rw [hn16] at hwm hwa hlt2
            have HNX := Lib.hid (show ∀ v, l.length = 16 → hexGo l 0 = some v → hexGo (l.drop (k + 1)) n2 = some v ∧ n2 < 16 ^ (k + 1) by rw [← hn2]; exact HST.out)
            have hn2b : n2 < 18446744073709551616 := by omega
            clear hn16 hn2 hcut
            generalize hN : ((n : Nat) : Int) = N at *
            generalize hN16 : ((n16 : Nat) : Int) = N16 at *
            generalize hN2 : ((n2 : Nat) : Int) = N2 at *
            generalize hD : ((d : Nat) : Int) = D at *
            have HN2 := Lib.hid hN2
            clear hN hN16 hN2 hD
            go_wp2_with (go_at_call 33; (with_reducible refine (HLW.out _).mono ?_); rintro e w3 ⟨rfl, rfl⟩)
            go_roundw
            case rel => exact ⟨by first | rfl | trivial, by first | rfl | trivial, k + 1, n2, by omega, by go_num, by rw [HN2.out], hn2b, HNX⟩
            case measure => simp [intOf]; omega
          · have hcui : (1152921504606846976 : Int) ≤ (n : Int) := by omega
            have HCT := Lib.hid (show ∀ v, l.length = 16 → hexGo l 0 = some v → 18446744073709551615 = v from fun v h16 hv => absurd (HPW.out v h16 hv) hcut)
            clear hcut
            generalize hN : ((n : Nat) : Int) = N at *
            generalize hD : ((d : Nat) : Int) = D at *
            clear hN hD
            go_wp2_with (go_at_call 33; (with_reducible refine (HLW.out _).mono ?_); rintro e w3 ⟨rfl, rfl⟩)
            go_ret2
            exact ⟨18446744073709551615, _, rfl, by omega, .inr (.inr rfl), HCT.out, hB1⟩
        · obtain ⟨d, hd⟩ : ∃ d, m - 87 = d := ⟨_, rfl⟩
          have hd16 : d < 16 := by omega
          have HST := Lib.hid (show ∀ v, l.length = 16 → hexGo l 0 = some v → hexGo (l.drop (k + 1)) (16 * n + d) = some v ∧ 16 * n + d < 16 ^ (k + 1) by
            rcases q4 with q4 | q4
            · exact fun v h16 hv => (hnone q4 v h16 hv).elim
            · exact hstep d (by rw [q4, hd]) hd16)
          have h97 : (97 : Int) ≤ ((m : Nat) : Int) := by omega
          have h122 : ((m : Nat) : Int) ≤ 122 := by omega
          have hws : IntKind.u8.wrap (((m : Nat) : Int) - 97) = ((m : Nat) : Int) - 97 := by rw [show IntKind.u8.wrap (((m : Nat) : Int) - 97) = (((m : Nat) : Int) - 97) % 256 from rfl]; omega
          have hws2 : IntKind.u8.wrap (((m : Nat) : Int) - 97 + 10) = ((d : Nat) : Int) := by rw [show IntKind.u8.wrap (((m : Nat) : Int) - 97 + 10) = (((m : Nat) : Int) - 97 + 10) % 256 from rfl]; omega
          have hd16i : ¬ (16 : Int) ≤ ((d : Nat) : Int) := by omega
          have h4 : ¬ (48 : Int) ≤ ((c.toNat : Nat) : Int) ∨ ((48 : Int) ≤ ((c.toNat : Nat) : Int) ∧ ¬ ((c.toNat : Nat) : Int) ≤ 57) := by omega
          clear hstep hnone q1 q2 q3 q4 hd
          by_cases h95 : c.toNat = 95
          · exfalso
            have : c = 95 := UInt8.toNat_inj.1 (by simpa using h95)
            subst this
            have h1 : lw 95 = 127 := by decide
            omega
          · have h95b : (((c.toNat : Nat) : Int) == 95) = false := by simp; omega
            clear h95
            rcases h4 with h48 | ⟨h48, h57⟩
            · skip
              by_cases hcut : n < 1152921504606846976
              · have hcui : ¬ (1152921504606846976 : Int) ≤ (n : Int) := by omega
                have hwm : IntKind.u64.wrap ((n : Int) * 16) = ((16 * n : Nat) : Int) := by rw [show IntKind.u64.wrap ((n : Int) * 16) = ((n : Int) * 16) % 18446744073709551616 from rfl]; omega
                have hwa : IntKind.u64.wrap (((16 * n : Nat) : Int) + ((d : Nat) : Int)) = ((16 * n + d : Nat) : Int) := by rw [show IntKind.u64.wrap (((16 * n : Nat) : Int) + ((d : Nat) : Int)) = (((16 * n : Nat) : Int) + ((d : Nat) : Int)) % 18446744073709551616 from rfl]; omega
                have hwd : IntKind.u64.wrap ((d : Nat) : Int) = ((d : Nat) : Int) := by rw [show IntKind.u64.wrap ((d : Nat) : Int) = ((d : Nat) : Int) % 18446744073709551616 from rfl]; omega
                have hlt2 : ¬ ((16 * n + d : Nat) : Int) < ((16 * n : Nat) : Int) := by omega
                have hmx : ¬ (18446744073709551615 : Int) < ((16 * n + d : Nat) : Int) := by omega
                obtain ⟨n16, hn16⟩ : ∃ n16, 16 * n = n16 := ⟨_, rfl⟩
                obtain ⟨n2, hn2⟩ : ∃ n2, 16 * n + d = n2 := ⟨_, rfl⟩
                rw [hn2] at hwa hlt2 hmx
                rw [hn16] at hwm hwa hlt2
                have HNX := Lib.hid (show ∀ v, l.length = 16 → hexGo l 0 = some v → hexGo (l.drop (k + 1)) n2 = some v ∧ n2 < 16 ^ (k + 1) by rw [← hn2]; exact HST.out)
                have hn2b : n2 < 18446744073709551616 := by omega
                clear hn16 hn2 hcut
                generalize hN : ((n : Nat) : Int) = N at *
                generalize hN16 : ((n16 : Nat) : Int) = N16 at *
                generalize hN2 : ((n2 : Nat) : Int) = N2 at *
                generalize hD : ((d : Nat) : Int) = D at *
                have HN2 := Lib.hid hN2
                clear hN hN16 hN2 hD
                go_wp2_with (go_at_call 33; (with_reducible refine (HLW.out _).mono ?_); rintro e w3 ⟨rfl, rfl⟩)
                go_roundw
                case rel => exact ⟨by first | rfl | trivial, by first | rfl | trivial, k + 1, n2, by omega, by go_num, by rw [HN2.out], hn2b, HNX⟩
                case measure => simp [intOf]; omega
              · have hcui : (1152921504606846976 : Int) ≤ (n : Int) := by omega
                have HCT := Lib.hid (show ∀ v, l.length = 16 → hexGo l 0 = some v → 18446744073709551615 = v from fun v h16 hv => absurd (HPW.out v h16 hv) hcut)
                clear hcut
                generalize hN : ((n : Nat) : Int) = N at *
                generalize hD : ((d : Nat) : Int) = D at *
                clear hN hD
                go_wp2_with (go_at_call 33; (with_reducible refine (HLW.out _).mono ?_); rintro e w3 ⟨rfl, rfl⟩)
                go_ret2
                exact ⟨18446744073709551615, _, rfl, by omega, .inr (.inr rfl), HCT.out, hB1⟩
            · skip
              by_cases hcut : n < 1152921504606846976
              · have hcui : ¬ (1152921504606846976 : Int) ≤ (n : Int) := by omega
                have hwm : IntKind.u64.wrap ((n : Int) * 16) = ((16 * n : Nat) : Int) := by rw [show IntKind.u64.wrap ((n : Int) * 16) = ((n : Int) * 16) % 18446744073709551616 from rfl]; omega
                have hwa : IntKind.u64.wrap (((16 * n : Nat) : Int) + ((d : Nat) : Int)) = ((16 * n + d : Nat) : Int) := by rw [show IntKind.u64.wrap (((16 * n : Nat) : Int) + ((d : Nat) : Int)) = (((16 * n : Nat) : Int) + ((d : Nat) : Int)) % 18446744073709551616 from rfl]; omega
                have hwd : IntKind.u64.wrap ((d : Nat) : Int) = ((d : Nat) : Int) := by rw [show IntKind.u64.wrap ((d : Nat) : Int) = ((d : Nat) : Int) % 18446744073709551616 from rfl]; omega
                have hlt2 : ¬ ((16 * n + d : Nat) : Int) < ((16 * n : Nat) : Int) := by omega
                have hmx : ¬ (18446744073709551615 : Int) < ((16 * n + d : Nat) : Int) := by omega
                obtain ⟨n16, hn16⟩ : ∃ n16, 16 * n = n16 := ⟨_, rfl⟩
                obtain ⟨n2, hn2⟩ : ∃ n2, 16 * n + d = n2 := ⟨_, rfl⟩
                rw [hn2] at hwa hlt2 hmx
                rw [hn16] at hwm hwa hlt2
                have HNX := Lib.hid (show ∀ v, l.length = 16 → hexGo l 0 = some v → hexGo (l.drop (k + 1)) n2 = some v ∧ n2 < 16 ^ (k + 1) by rw [← hn2]; exact HST.out)
                have hn2b : n2 < 18446744073709551616 := by omega
                clear hn16 hn2 hcut
                generalize hN : ((n : Nat) : Int) = N at *
                generalize hN16 : ((n16 : Nat) : Int) = N16 at *
                generalize hN2 : ((n2 : Nat) : Int) = N2 at *
                generalize hD : ((d : Nat) : Int) = D at *
                have HN2 := Lib.hid hN2
                clear hN hN16 hN2 hD
                go_wp2_with (go_at_call 33; (with_reducible refine (HLW.out _).mono ?_); rintro e w3 ⟨rfl, rfl⟩)
                go_roundw
                case rel => exact ⟨by first | rfl | trivial, by first | rfl | trivial, k + 1, n2, by omega, by go_num, by rw [HN2.out], hn2b, HNX⟩
                case measure => simp [intOf]; omega
              · have hcui : (1152921504606846976 : Int) ≤ (n : Int) := by omega
                have HCT := Lib.hid (show ∀ v, l.length = 16 → hexGo l 0 = some v → 18446744073709551615 = v from fun v h16 hv => absurd (HPW.out v h16 hv) hcut)
                clear hcut
                generalize hN : ((n : Nat) : Int) = N at *
                generalize hD : ((d : Nat) : Int) = D at *
                clear hN hD
                go_wp2_with (go_at_call 33; (with_reducible refine (HLW.out _).mono ?_); rintro e w3 ⟨rfl, rfl⟩)
                go_ret2
                exact ⟨18446744073709551615, _, rfl, by omega, .inr (.inr rfl), HCT.out, hB1⟩
        · have HNO := Lib.hid (show ∀ v, l.length = 16 → hexGo l 0 = some v → 0 = v from fun v h16 hv => (hnone q4 v h16 hv).elim)
          have h97 : (97 : Int) ≤ ((m : Nat) : Int) := by omega
          have h122 : ((m : Nat) : Int) ≤ 122 := by omega
          have hws : IntKind.u8.wrap (((m : Nat) : Int) - 97) = ((m : Nat) : Int) - 97 := by rw [show IntKind.u8.wrap (((m : Nat) : Int) - 97) = (((m : Nat) : Int) - 97) % 256 from rfl]; omega
          have hws2 : IntKind.u8.wrap (((m : Nat) : Int) - 97 + 10) = ((m : Nat) : Int) - 87 := by rw [show IntKind.u8.wrap (((m : Nat) : Int) - 97 + 10) = (((m : Nat) : Int) - 97 + 10) % 256 from rfl]; omega
          have hd16i : (16 : Int) ≤ ((m : Nat) : Int) - 87 := by omega
          have h4 : ¬ (48 : Int) ≤ ((c.toNat : Nat) : Int) ∨ ((48 : Int) ≤ ((c.toNat : Nat) : Int) ∧ ¬ ((c.toNat : Nat) : Int) ≤ 57) := by omega
          have h95n : c.toNat ≠ 95 := fun h95 => by
            have : c = 95 := UInt8.toNat_inj.1 (by simpa using h95)
            subst this
            have h1 : lw 95 = 127 := by decide
            omega
          have h95b : (((c.toNat : Nat) : Int) == 95) = false := by simp; omega
          clear hstep hnone q1 q2 q3 q4 h95n
          rcases h4 with h48 | ⟨h48, h57⟩
          · go_wp2_with (go_at_call 33; (with_reducible refine (HLW.out _).mono ?_); rintro e w3 ⟨rfl, rfl⟩)
            go_ret2
            exact ⟨0, _, rfl, by omega, .inr (.inl rfl), HNO.out, hB1⟩
          · go_wp2_with (go_at_call 33; (with_reducible refine (HLW.out _).mono ?_); rintro e w3 ⟨rfl, rfl⟩)
            go_ret2
            exact ⟨0, _, rfl, by omega, .inr (.inl rfl), HNO.out, hB1⟩
        · have HNO := Lib.hid (show ∀ v, l.length = 16 → hexGo l 0 = some v → 0 = v from fun v h16 hv => (hnone q3 v h16 hv).elim)
          have h4 : ¬ (48 : Int) ≤ ((c.toNat : Nat) : Int) ∨ ((48 : Int) ≤ ((c.toNat : Nat) : Int) ∧ ¬ ((c.toNat : Nat) : Int) ≤ 57) := by omega
          have h5 : ¬ (97 : Int) ≤ ((m : Nat) : Int) ∨ ((97 : Int) ≤ ((m : Nat) : Int) ∧ ¬ ((m : Nat) : Int) ≤ 122) := by omega
          have h9 : (((c.toNat : Nat) : Int) == 95) = false ∨ (((c.toNat : Nat) : Int) == 95) = true := by cases (((c.toNat : Nat) : Int) == 95) <;> simp
          clear hstep hnone q1 q2 q3
          rcases h4 with h48 | ⟨h48, h57⟩ <;> rcases h5 with h97 | ⟨h97, h122⟩ <;> rcases h9 with h95b | h95b
          all_goals go_wp2_with (go_at_call 33; (with_reducible refine (HLW.out _).mono ?_); rintro e w3 ⟨rfl, rfl⟩)
          all_goals go_ret2
          all_goals exact ⟨0, _, rfl, by omega, .inr (.inl rfl), HNO.out, hB1⟩
      · obtain rfl : k = l.length := by omega
        have HE := Lib.hid (show ∀ v, l.length = 16 → hexGo l 0 = some v → n = v from fun v h16 hv => by
          have h1 := (hgo.out v h16 hv).1
          rw [List.drop_eq_nil_of_le (Nat.le_refl _), hexGo] at h1
          exact Option.some.inj h1)
        clear hgo
        go_wp2_with fail
        go_ret2
        exact ⟨n, _, rfl, hn, .inl rfl, HE.out, hB1⟩
end Wd
end Go.Proofs.YtmfeeampbmandaaDoor

/-
  The program's names of logs: Number.
-/
namespace Go.Proofs.YtmfeeampbmandaaDoor
open Go.RowKit
set_option linter.unusedSimpArgs false
set_option linter.unusedVariables false
namespace Wd
open Wa
/-- what strconv.ParseUint answers, as far as names need it -/
def PUOutP (l : List UInt8) (w : World) (e : Ending) (w' : World) : Prop :=
  ∃ (n : Nat) (ev : Value), e = .returned (.tuple #[.int .u64 (n : Int), ev]) ∧ n < 18446744073709551616 ∧ (∀ v, l.length = 16 → hexGo l 0 = some v → n = v) ∧ Below w.heap.size w w'

set_option maxRecDepth 100000 in
set_option maxHeartbeats 4000000 in
theorem parseUint_16 (l : List UInt8) (w : World) (hl : l.length ≤ 140737488351232) (hL : Laid w) :
    Calls Tryd.prog 10 #[.string (Cd.bs l), .int .i64 16, .int .i64 64] w (PUOutP l w) := by
  have HP := Lib.hid (parseUintI_16 l w hl)
  have hlim : (Cd.bs l).size ≤ 281474976710656 := by show l.length ≤ _; omega
  have HL := Lib.hid hL
  go_enter Tryd.func10, Tryd.ntmps10
  go_wp2_with (go_at_call 21; (with_reducible refine HP.out.mono ?_))
  rintro e w1 ⟨n, ev, rfl, hn, (rfl | rfl | rfl), hv, hb1⟩
  · have HV := Lib.hid hv
    clear hv
    go_wp2_with fail
    go_ret2
    exact ⟨n, _, rfl, hn, HV.out, hb1⟩
  · have HV := Lib.hid hv
    obtain ⟨_, ⟨te, pe, hc⟩, _⟩ := HL.out.below hb1
    clear hv
    go_wp2_with (go_at_call 22; (with_reducible refine (Tryd.strconv_toError_syntax _ (Cd.bs l) 16 64 (.iface te pe) _ hlim hc (.inr ⟨te, pe, rfl⟩)).mono ?_); rintro e w2 ⟨N, rfl, _, _, hb2⟩)
    go_ret2
    exact ⟨n, _, rfl, hn, HV.out, hb1.trans (hb2.mono hb1.size)⟩
  · have HV := Lib.hid hv
    obtain ⟨_, _, te, pe, hc⟩ := HL.out.below hb1
    clear hv
    go_wp2_with (go_at_call 22; (with_reducible refine (Tryd.strconv_toError_range _ (Cd.bs l) 16 64 (.iface te pe) _ hlim hc (.inr ⟨te, pe, rfl⟩)).mono ?_); rintro e w2 ⟨N, rfl, _, _, hb2⟩)
    go_ret2
    exact ⟨n, _, rfl, hn, HV.out, hb1.trans (hb2.mono hb1.size)⟩

theorem trim_name {l : List UInt8} (h : l.take 4 = logB) : Lib.trimPrefix l logB = l.drop 4 := by
  unfold Lib.trimPrefix Lib.hasPrefix
  rw [if_pos]
  · rfl
  · rw [List.isPrefixOf_iff_prefix]
    exact ⟨l.drop 4, by rw [← h, List.take_append_drop]⟩
theorem trim_len (l : List UInt8) : (Lib.trimPrefix l logB).length ≤ l.length := by
  unfold Lib.trimPrefix
  split
  · rw [List.length_drop]; omega
  · exact Nat.le_refl _

set_option maxRecDepth 100000 in
set_option maxHeartbeats 4000000 in
theorem numberOk : NumberOk := by
  intro l w hl hL
  have HT := Lib.hid (fun W => show Calls Tryd.prog 11 #[.string (Cd.bs l), .string ⟨#[108, 111, 103, 45]⟩] W fun e w' => e = .returned (.string (Cd.bs (Lib.trimPrefix l logB))) ∧ w' = W from Tryd.strings_TrimPrefix (Cd.bs l) ⟨#[108, 111, 103, 45]⟩ W)
  have htl := trim_len l
  have htn : ∀ m, m < 18446744073709551616 → l = name m → (Lib.trimPrefix l logB).length = 16 ∧ hexGo (Lib.trimPrefix l logB) 0 = some m := fun m hm h => by
    obtain ⟨h1, h2, h3⟩ := hexGo_of_name hm h
    rw [trim_name h1]
    exact ⟨h2, h3⟩
  generalize Lib.trimPrefix l logB = t at *
  have HP := Lib.hid (fun W h => parseUint_16 t W (by omega) h)
  have HTN := Lib.hid htn
  have HL := Lib.hid hL
  clear htn hL
  go_enter Tryd.func5, Tryd.ntmps5
  go_wp2_with (first
    | (go_at_call 11; (with_reducible refine (HT.out _).mono ?_); rintro e w0 ⟨rfl, rfl⟩)
    | (go_at_call 10; (with_reducible refine (HP.out _ HL.out).mono ?_); rintro e w1 ⟨n, ev, rfl, hn, hv, hb1⟩; have HV := Lib.hid hv; clear hv))
  refine (nameOk n _ hn (HL.out.below hb1)).mono ?_
  rintro e w2 ⟨rfl, hb2⟩
  have HO := Lib.hid (numOf_by (l := l) hn (fun m hm h => HV.out m (HTN.out m hm h).1 (HTN.out m hm h).2))
  have hn1 : (Cd.bs (name n)).toList = name n := by rw [ByteArray.toList_mk]
  have hn2 : (Cd.bs l).toList = l := by rw [ByteArray.toList_mk]
  have hB := hb1.trans (hb2.mono hb1.size)
  by_cases he : name n = l
  · have HE := Lib.hid (HO.out.trans (if_pos he))
    clear HO
    rw [he]
    clear he hn1
    go_wp2_with fail
    go_ret2
    exact ⟨by rw [HE.out]; rfl, hB⟩
  · have HE := Lib.hid (HO.out.trans (if_neg he))
    have heb : (name n == l) = false := by simpa using he
    have heb2 : (name n != l) = true := by simpa using he
    clear HO he
    go_wp2_with fail
    go_ret2
    exact ⟨by rw [HE.out]; rfl, hB⟩
theorem walNames_law (n : Int) (s : ByteArray) (w : World) (hL : Laid w) (n1 : 0 ≤ n) (n2 : n ≤ 18446744073709551615) (hs : s.size ≤ 140737488351232) :
    Calls Tryd.prog 3 #[.int .u64 n, .string s] w fun e w' => e = .returned (.bool true) ∧ Below w.heap.size w w' := walNames_walk nameOk numberOk n s w hL n1 n2 hs
end Wd
end Go.Proofs.YtmfeeampbmandaaDoor
