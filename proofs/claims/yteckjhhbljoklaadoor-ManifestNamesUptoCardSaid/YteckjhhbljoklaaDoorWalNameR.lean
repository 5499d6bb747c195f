/-
  The document's answers on logs' names (tapestryref05): Digits, Numbered, Name, Number.
-/
import Derived.Test.YteckjhhbljoklaaDoorProg
import Derived.Test.YteckjhhbljoklaaDoorWalHex
import Derived.Test.YteckjhhbljoklaaDoorCodecPut
import Derived.Test.YteckjhhbljoklaaDoorObj
import Derived.WalkKit
import Derived.WalkLawsBesides
import Derived.OwnWalk
import Derived.Lib.Hide
namespace Go.Proofs.YteckjhhbljoklaaDoor
open Go.RowKit
set_option linter.unusedSimpArgs false
set_option linter.unusedVariables false
namespace Wa
theorem info_u8 : (Tryd.prog.info? 5).map (fun i => (i.zero, i.size, i.bytes)) = some (some (.int .u8 0), 1, 1) := by kernel_rfl
theorem made_u8 (n : Nat) : (madeCells (Value.int .u8 0).cells (n * 1)).toList = List.replicate n (.int .u8 0) := by
  rw [show (Value.int .u8 0).cells = #[Value.int .u8 0] from rfl, Nat.mul_one, toList_madeCells_one]
/-- the cells amid Digits -/
def digC (m : Nat) (T : List UInt8) : List Value := List.replicate m (.int .u8 0) ++ Lib.byteCells T
theorem digC_set (m : Nat) (T : List UInt8) (c : UInt8) : (digC (m + 1) T).set m (.int .u8 (c.toNat : Int)) = digC m (c :: T) := by
  unfold digC
  rw [List.set_append_left _ _ (by simp), List.replicate_succ', List.set_append_right _ _ (by simp)]
  simp [Lib.byteCells]

theorem hex_at (k : Nat) (h : k < 16) : (({ data := #[48, 49, 50, 51, 52, 53, 54, 55, 56, 57, 97, 98, 99, 100, 101, 102] } : ByteArray)[k]'h).toNat = (hexd k).toNat := by
  have : ∀ j : Fin 16, (({ data := #[48, 49, 50, 51, 52, 53, 54, 55, 56, 57, 97, 98, 99, 100, 101, 102] } : ByteArray)[j.1]'j.2).toNat = (hexd j.1).toNat := by decide
  exact this ⟨k, h⟩

set_option maxRecDepth 100000 in
set_option maxHeartbeats 2000000 in
theorem digitsR_any (n : Nat) (w : World) (hn : n < 18446744073709551616) :
    Calls Tryd.prog 20 #[.int .u64 (n : Int)] w fun e w' => e = .returned (.string (Cd.bs (hexs 16 n))) ∧ Below w.heap.size w w' := by
  obtain ⟨i0, hi0, hz0, hz1, hz2⟩ := info_parts info_u8
  go_enter Tryd.func20, Tryd.ntmps20
  go_wp2_with (refine wpList_make_full _ (by rfl) _ _ 59 (by rfl) w.heap.size 5 i0 (.int .u8 0) 1 Tryd.underlying59 hi0 hz0 hz1 .i64 .i64 16 16 16 (by rfl) (by rfl) rfl rfl (by rw [hz2]; omega) (by unfold maxLen; omega) (by simp) ?_; intro w1 hown hgrow; rw [made_u8] at hown)
  have hB1 : Below w.heap.size w w1 := (Below.refl _ _).grown hgrow (by simp) (fun k hk => by cases hk)
  clear hgrow
  go_loopw [0, 4] (fun nv i wr => ∃ (m : Nat) (x : Nat) (T : List UInt8), m ≤ 16 ∧ i = .int .i64 ((m : Int) - 1) ∧ nv = .int .u64 (x : Int) ∧ x < 18446744073709551616 ∧ (T.length ≤ 16 - m ∧ 16 - m ≤ T.length) ∧ Hid (hexs 16 n = hexs m x ++ T) ∧ wr.ownsRow w.heap.size 5 1 (.slice (some ⟨w.heap.size, 0, none⟩) 16 16) 16 (digC m T) ∧ Below w.heap.size w wr) (fun _ i _ => (intOf i + 1).toNat)
  case atStart => exact ⟨16, n, [], Nat.le_refl _, rfl, rfl, hn, by simp, by exact (List.append_nil _).symm, by unfold digC; rw [show Lib.byteCells [] = [] from rfl, List.append_nil]; exact hown, hB1⟩
  case round =>
    obtain ⟨m, x, T, hm, rfl, rfl, hx, ⟨hT1, hT2⟩, hgo, hrow, hB⟩ := hrel
    by_cases hlt : 0 < m
    · obtain ⟨k, rfl⟩ : ∃ k, m = k + 1 := ⟨m - 1, by omega⟩
      have hk : ((k + 1 : Nat) : Int) - 1 = (k : Int) := by omega
      rw [hk]
      have h16 : x % 16 < 16 := Nat.mod_lt _ (by omega)
      have hix : (0 : Int) ≤ (x : Int) % 16 ∧ (x : Int) % 16 < 16 := by omega
      have hst := (World.ownsRow.stored hrow k (.int .u8 ((hexd (x % 16)).toNat : Int))).1
      rw [digC_set] at hst
      have HST := Lib.hid hst
      have hfr := hrow.frozenAt k
      have hcl : ∃ u, wr.cell? ⟨w.heap.size, k, none⟩ = some u := ⟨_, (hrow.cellAt k (by omega)).trans (List.getElem?_eq_getElem (by simp [digC]; omega))⟩
      obtain ⟨u, hcu⟩ := hcl
      have HGO := Lib.hid (show hexs 16 n = hexs k (x / 16) ++ (hexd (x % 16) :: T) by rw [hgo.out, hexs, List.append_assoc]; rfl)
      clear hgo hst hk hrow hlt
      go_wp2_with fail
      go_roundw
      case rel => exact ⟨k, x / 16, hexd (x % 16) :: T, by omega, rfl, by go_num, by omega, by rw [List.length_cons]; omega, HGO, by rw [hex_at (x % 16) h16]; exact HST.out, hB.setCell (p := ⟨w.heap.size, k, none⟩) (Nat.le_refl _) _⟩
      case measure => simp [intOf] <;> omega
    · obtain rfl : m = 0 := by omega
      have hT16 : T.length = 16 := by omega
      have HT := Lib.hid (show T = hexs 16 n by rw [hgo.out]; rfl)
      have hcv := conv_any (show wr.ownsRow w.heap.size 5 1 (.slice (some ⟨w.heap.size, 0, none⟩) 16 16) T.length (Cd.cs T) by rw [hT16]; simpa [digC, Cd.cs] using hrow)
      clear hgo hT16 hrow
      go_wp2_with fail
      go_ret
      exact ⟨by rw [← HT.out]; rfl, hB⟩

theorem num_eq {k : IntKind} {a b : Int} (h : a = b) : Value.int k a = .int k b := by rw [h]
/-- what Numbered answers -/
def numV (r : Option Nat) : Value := match r with | some n => .tuple #[.int .u64 (n : Int), .bool true] | none => .tuple #[.int .u64 0, .bool false]

set_option maxRecDepth 100000 in
set_option maxHeartbeats 4000000 in
theorem numberedR_any (l a : List UInt8) (w : World) (hl : l.length ≤ 140737488351232) (ha : a.length ≤ 1048576) :
    Calls Tryd.prog 19 #[.string (Cd.bs l), .string (Cd.bs a)] w fun e w' => e = .returned (numV (numOf a l)) ∧ w' = w := by
  have hsz : (Cd.bs l).size = l.length := rfl
  have hsa : (Cd.bs a).size = a.length := rfl
  have h4 : ((Cd.bs l).extract 0 a.length).toList = l.take a.length := by rw [Lib.extract_toList]; rfl
  have hal : (Cd.bs a).toList = a := by rw [ByteArray.toList_mk]
  by_cases h1 : l.length = a.length + 16
  · have hb1 : (((l.length : Nat) : Int) != (a.length : Int) + 16) = false := by simp; omega
    have hi1 : (0 : Int) ≤ (a.length : Int) ∧ (a.length : Int) ≤ (l.length : Int) := by omega
    by_cases h2 : l.take a.length = a
    · have hb2 : (((Cd.bs l).extract 0 a.length).toList == a) = true := by rw [h4]; simpa using h2
      have HN := Lib.hid (show numOf a l = hexGo (l.drop a.length) 0 from if_pos ⟨h1, h2⟩)
      have hlt : ∀ n, hexGo (l.drop a.length) 0 = some n → n < 18446744073709551616 := fun n h => numOf_lt (a := a) (s := l) (HN.out.trans h)
      have H4 := Lib.hid h4
      have HLT := Lib.hid hlt
      clear h4 hal hlt h2
      go_enter Tryd.func19, Tryd.ntmps19
      go_wp2_with fail
      go_loop [6, 7] (fun nv i => ∃ (k n : Nat), a.length ≤ k ∧ k ≤ l.length ∧ i = .int .i64 (k : Int) ∧ nv = .int .u64 (n : Int) ∧ n < 16 ^ (k - a.length) ∧ Hid (hexGo (l.drop a.length) 0 = hexGo (l.drop k) n)) (fun _ i => l.length - (intOf i).toNat)
      case atStart => exact ⟨a.length, 0, Nat.le_refl _, by omega, rfl, rfl, by simp, rfl⟩
      case round =>
        obtain ⟨k, n, hk1, hk2, rfl, rfl, hn, hgo⟩ := hrel
        by_cases hlt : k < l.length
        · have hi2 : (k : Int) < (l.length : Int) := by omega
          have hn2 : n < 16 ^ 15 := Nat.lt_of_lt_of_le hn (Nat.pow_le_pow_right (by omega) (by omega))
          have hn3 : n < 1152921504606846976 := by simpa using hn2
          have hcb : l[k].toNat < 256 := l[k].toNat_lt
          have hcv : hexv l[k] = if 48 ≤ l[k].toNat ∧ l[k].toNat ≤ 57 then some (l[k].toNat - 48) else if 97 ≤ l[k].toNat ∧ l[k].toNat ≤ 102 then some (l[k].toNat - 87) else none := rfl
          have hps : 16 ^ (k + 1 - a.length) = 16 * 16 ^ (k - a.length) := by rw [show k + 1 - a.length = (k - a.length) + 1 by omega, Nat.pow_succ, Nat.mul_comm]
          have HPS := Lib.hid hps
          have HN2 := Lib.hid hn
          have hgs : ∀ v, hexv l[k] = some v → hexGo (l.drop a.length) 0 = hexGo (l.drop (k + 1)) (16 * n + v) := fun v hv => hgo.out.trans (hexGo_some hlt hv n)
          have hgn : hexv l[k] = none → hexGo (l.drop a.length) 0 = none := fun hv => hgo.out.trans (hexGo_none hlt hv n)
          have hidx : ((Cd.bs l)[k]'hlt) = l[k] := rfl
          have HGS := Lib.hid hgs
          have HGN := Lib.hid hgn
          have HCV := Lib.hid hcv
          clear hgs hgn hcv hps hn hn2 hgo
          generalize l[k] = c at *
          by_cases hd : 48 ≤ c.toNat ∧ c.toNat ≤ 57
          · have HV := Lib.hid (HGS.out (c.toNat - 48) (by rw [HCV.out, if_pos hd]))
            have hd1 : (48 : Int) ≤ (c.toNat : Int) := by omega
            have hd2 : (c.toNat : Int) ≤ 57 := by omega
            clear hd
            go_wp2_with fail
            go_round
            case rel => exact ⟨k + 1, 16 * n + (c.toNat - 48), by omega, by omega, by go_num, num_eq (by omega), by rw [HPS.out]; have := HN2.out; omega, HV⟩
            case measure => simp [intOf]; omega
          · by_cases he : 97 ≤ c.toNat ∧ c.toNat ≤ 102
            · have HV := Lib.hid (HGS.out (c.toNat - 87) (by rw [HCV.out, if_neg hd, if_pos he]))
              have hd1 : (97 : Int) ≤ (c.toNat : Int) := by omega
              have hd2 : (c.toNat : Int) ≤ 102 := by omega
              clear hd he
              go_wp2_with fail
              go_round
              case rel => exact ⟨k + 1, 16 * n + (c.toNat - 87), by omega, by omega, by go_num, num_eq (by omega), by rw [HPS.out]; have := HN2.out; omega, HV⟩
              case measure => simp [intOf]; omega
            · have HE := Lib.hid ((HN.out.trans (HGN.out (by rw [HCV.out, if_neg hd, if_neg he]))))
              by_cases h5 : c.toNat < 48
              · have hd1 : ¬ (48 : Int) ≤ (c.toNat : Int) := by omega
                have hd3 : ¬ (97 : Int) ≤ (c.toNat : Int) := by omega
                clear hd he h5
                go_wp2_with fail
                go_ret2
                exact ⟨by rw [HE.out]; rfl, rfl⟩
              · by_cases h6 : c.toNat < 97
                · have hd1 : (48 : Int) ≤ (c.toNat : Int) := by omega
                  have hd2 : ¬ (c.toNat : Int) ≤ 57 := by omega
                  have hd3 : ¬ (97 : Int) ≤ (c.toNat : Int) := by omega
                  clear hd he h5 h6
                  go_wp2_with fail
                  go_ret2
                  exact ⟨by rw [HE.out]; rfl, rfl⟩
                · have hd1 : (48 : Int) ≤ (c.toNat : Int) := by omega
                  have hd2 : ¬ (c.toNat : Int) ≤ 57 := by omega
                  have hd3 : (97 : Int) ≤ (c.toNat : Int) := by omega
                  have hd4 : ¬ (c.toNat : Int) ≤ 102 := by omega
                  clear hd he h5 h6
                  go_wp2_with fail
                  go_ret2
                  exact ⟨by rw [HE.out]; rfl, rfl⟩
        · obtain rfl : k = l.length := by omega
          have HE := Lib.hid (show numOf a l = some n by rw [HN.out, hgo.out, List.drop_eq_nil_of_le (Nat.le_refl _)]; rfl)
          clear hgo
          go_wp2_with fail
          go_ret2
          exact ⟨by rw [HE.out]; rfl, rfl⟩
    · have hb2 : (((Cd.bs l).extract 0 a.length).toList == a) = false := by rw [h4]; simpa using h2
      have HE := Lib.hid (show numOf a l = none from if_neg (fun h => h2 h.2))
      clear h4 hal h2
      go_enter Tryd.func19, Tryd.ntmps19
      go_wp2_with fail
      go_ret2
      exact ⟨by rw [HE.out]; rfl, rfl⟩
  · have hb1 : (((l.length : Nat) : Int) != (a.length : Int) + 16) = true := by simp; omega
    have hb1' : (((l.length : Nat) : Int) == (a.length : Int) + 16) = false := by simp; omega
    have HE := Lib.hid (show numOf a l = none from if_neg (fun h => h1 h.1))
    clear h4 hal h1
    go_enter Tryd.func19, Tryd.ntmps19
    go_wp2_with fail
    go_ret2
    exact ⟨by rw [HE.out]; rfl, rfl⟩

theorem lit_log : (Cd.bs logB) = ({ data := #[108, 111, 103, 45] } : ByteArray) := rfl

set_option maxRecDepth 100000 in
set_option maxHeartbeats 2000000 in
theorem numberR_any (l : List UInt8) (w : World) (hl : l.length ≤ 140737488351232) :
    Calls Tryd.prog 27 #[.string (Cd.bs l)] w fun e w' => e = .returned (numV (numOf logB l)) ∧ w' = w := by
  cases hx : numOf logB l with
  | none =>
    have hN := Lib.hid (show ∀ W, Calls Tryd.prog 19 #[.string (Cd.bs l), .string { data := #[108, 111, 103, 45] }] W fun e w' => e = .returned (.tuple #[.int .u64 0, .bool false]) ∧ w' = W from fun W => by have := numberedR_any l logB W hl (by decide); rw [hx] at this; exact this)
    clear hx
    go_enter Tryd.func27, Tryd.ntmps27
    go_wp2_with (go_at_call 19; (with_reducible refine (hN.out _).mono ?_); rintro e w1 ⟨rfl, rfl⟩)
    go_ret2
    exact ⟨rfl, rfl⟩
  | some n =>
    have hN := Lib.hid (show ∀ W, Calls Tryd.prog 19 #[.string (Cd.bs l), .string { data := #[108, 111, 103, 45] }] W fun e w' => e = .returned (.tuple #[.int .u64 (n : Int), .bool true]) ∧ w' = W from fun W => by have := numberedR_any l logB W hl (by decide); rw [hx] at this; exact this)
    clear hx
    go_enter Tryd.func27, Tryd.ntmps27
    go_wp2_with (go_at_call 19; (with_reducible refine (hN.out _).mono ?_); rintro e w1 ⟨rfl, rfl⟩)
    go_ret2
    exact ⟨rfl, rfl⟩
end Wa
end Go.Proofs.YteckjhhbljoklaaDoor
