/-
  The program's names of logs: strconv.ParseUint at base 16, as far as names need it.
-/
import Derived.Test.YteckjhhbljoklaaDoorWalDevN
namespace Go.Proofs.YteckjhhbljoklaaDoor
open Go.RowKit
set_option linter.unusedSimpArgs false
set_option linter.unusedVariables false
namespace Sx
/-- the block that []byte(s) lays, and its room -/
def row (W : World) (P : List UInt8) : Obj := .cells (bytesRow (Cd.bs P) (grownCap W P.length 0 5)) 5 ((bytesRow (Cd.bs P) (grownCap W P.length 0 5)).size, (bytesRow (Cd.bs P) (grownCap W P.length 0 5)).size + 1)
theorem conv (W : World) (P : List UInt8) : (convert 9 59 (.string (Cd.bs P))).run Tryd.prog W = .ok (.slice (some ⟨W.heap.size, 0, none⟩) P.length (grownCap W P.length 0 5)) (W.alloc (row W P)).drew :=
  run_bytes_of_string (P := Tryd.prog) W 9 59 5 (Cd.bs P) Tryd.underlying9 Tryd.underlying59 Tryd.underlying5
theorem cell (W : World) (P : List UInt8) (j : Nat) (hj : j < P.length) : (W.alloc (row W P)).drew.cell? ⟨W.heap.size, j, none⟩ = some (.int .u8 (P[j].toNat : Int)) := by
  have h := World.alloc_heap_new W (row W P)
  unfold row at h
  have hd : (W.alloc (row W P)).drew.cell? ⟨W.heap.size, j, none⟩ = (W.alloc (row W P)).cell? ⟨W.heap.size, j, none⟩ := rfl
  rw [hd]
  unfold World.cell? row
  rw [h]
  have : (bytesRow (Cd.bs P) (grownCap W P.length 0 5))[j]? = some (.int .u8 (P[j].toNat : Int)) := by
    unfold bytesRow
    rw [Array.getElem?_append_left (by simpa using hj)]
    simp [hj]
  simpa using this
end Sx
namespace Wd
open Wa
/-- a small letter of a letter -/
def lw (c : UInt8) : Nat := (c ||| 32).toNat
set_option maxRecDepth 100000 in
theorem or32 (c : UInt8) : bits BinOp.or IntKind.u8 (c.toNat : Int) 32 = ((lw c : Nat) : Int) := by
  have : ∀ j : Fin 256, bits BinOp.or IntKind.u8 ((UInt8.ofNat j.1).toNat : Int) 32 = ((lw (UInt8.ofNat j.1) : Nat) : Int) := by decide
  have h := this ⟨c.toNat, c.toNat_lt⟩
  simpa using h
set_option maxRecDepth 100000 in
set_option maxHeartbeats 2000000 in
theorem hexv_cases (c : UInt8) : (48 ≤ c.toNat ∧ c.toNat ≤ 57 ∧ hexv c = some (c.toNat - 48)) ∨ (¬ (48 ≤ c.toNat ∧ c.toNat ≤ 57) ∧ 97 ≤ lw c ∧ lw c ≤ 102 ∧ (hexv c = none ∨ hexv c = some (lw c - 87))) ∨ (¬ (48 ≤ c.toNat ∧ c.toNat ≤ 57) ∧ 103 ≤ lw c ∧ lw c ≤ 122 ∧ hexv c = none) ∨ (¬ (48 ≤ c.toNat ∧ c.toNat ≤ 57) ∧ (lw c < 97 ∨ 122 < lw c) ∧ hexv c = none) := by
  have : ∀ j : Fin 256, (48 ≤ (UInt8.ofNat j.1).toNat ∧ (UInt8.ofNat j.1).toNat ≤ 57 ∧ hexv (UInt8.ofNat j.1) = some ((UInt8.ofNat j.1).toNat - 48)) ∨ (¬ (48 ≤ (UInt8.ofNat j.1).toNat ∧ (UInt8.ofNat j.1).toNat ≤ 57) ∧ 97 ≤ lw (UInt8.ofNat j.1) ∧ lw (UInt8.ofNat j.1) ≤ 102 ∧ (hexv (UInt8.ofNat j.1) = none ∨ hexv (UInt8.ofNat j.1) = some (lw (UInt8.ofNat j.1) - 87))) ∨ (¬ (48 ≤ (UInt8.ofNat j.1).toNat ∧ (UInt8.ofNat j.1).toNat ≤ 57) ∧ 103 ≤ lw (UInt8.ofNat j.1) ∧ lw (UInt8.ofNat j.1) ≤ 122 ∧ hexv (UInt8.ofNat j.1) = none) ∨ (¬ (48 ≤ (UInt8.ofNat j.1).toNat ∧ (UInt8.ofNat j.1).toNat ≤ 57) ∧ (lw (UInt8.ofNat j.1) < 97 ∨ 122 < lw (UInt8.ofNat j.1)) ∧ hexv (UInt8.ofNat j.1) = none) := by decide
  have h := this ⟨c.toNat, c.toNat_lt⟩
  simpa using h

set_option maxRecDepth 100000 in
set_option maxHeartbeats 2000000 in
theorem lower_any (c : UInt8) (w : World) : Calls Tryd.prog 81 #[.int .u8 (c.toNat : Int)] w fun e w' => e = .returned (.int .u8 ((lw c : Nat) : Int)) ∧ w = w' := by
  have h := or32 c
  go_enter Tryd.func81, Tryd.ntmps81
  go_wp2_with fail
  go_ret
  exact ⟨rfl, rfl⟩

/-- what ParseUint answers, as far as names need it -/
def PUOut (l : List UInt8) (w : World) (e : Ending) (w' : World) : Prop :=
  ∃ (n : Nat) (ev : Value), e = .returned (.tuple #[.int .u64 (n : Int), ev]) ∧ n < 18446744073709551616 ∧ (ev = .nilIface ∨ ev = .iface 114 (.int .i64 2) ∨ ev = .iface 114 (.int .i64 1)) ∧ (∀ v, l.length = 16 → hexGo l 0 = some v → n = v) ∧ Below w.heap.size w w'

set_option maxRecDepth 100000 in
set_option maxHeartbeats 8000000 in
theorem parseUintI_16 (l : List UInt8) (w : World) (hl : l.length ≤ 140737488351232) :
    Calls Tryd.prog 65 #[.string (Cd.bs l), .int .i64 16, .int .i64 64] w (PUOut l w) := by
  cases l with
  | nil =>
    go_enter Tryd.func65, Tryd.ntmps65
    go_wp2_with fail
    go_ret2
    exact ⟨0, _, rfl, by omega, .inr (.inl rfl), fun v h => by simp at h, Below.refl _ _⟩
  | cons c0 r0 =>
    have hne : ((c0 :: r0) == []) = false := rfl
    have hlen : (0 : Int) < ((c0 :: r0).length : Int) := by simp only [List.length_cons]; omega
    generalize hgl : c0 :: r0 = l at *
    have hsz : (Cd.bs l).size = l.length := rfl
    have hne2 : l.isEmpty = false := by rw [← hgl]; rfl
    have hcv := Sx.conv w l
    have HCL := Lib.hid (fun j hj => Sx.cell w l j hj)
    have hB1 : Below w.heap.size w (w.alloc (Sx.row w l)).drew := ((Below.refl _ _).alloc (Nat.le_refl _) _).drew
    obtain ⟨cap, hcap⟩ : ∃ cap, grownCap w l.length 0 5 = cap := ⟨_, rfl⟩
    rw [hcap] at hcv
    obtain ⟨W1, hW1⟩ : ∃ W1, (w.alloc (Sx.row w l)).drew = W1 := ⟨_, rfl⟩
    rw [hW1] at hcv HCL hB1
    have hw16 : IntKind.u8.wrap 16 = 16 := by decide
    have hw16b : IntKind.u64.wrap 16 = 16 := by decide
    have hmv : IntKind.u64.wrap 18446744073709551616 = 0 := by decide
    have hmv2 : IntKind.u64.wrap (-1) = 18446744073709551615 := by decide
    clear hgl hcap hW1
    go_enter Tryd.func65, Tryd.ntmps65
    go_wp2_with fail
    clear hmv hmv2
    go_loopw [12, 13, 101] (fun bv nv iv wr => wr = W1 ∧ bv = .bool false ∧ ∃ (k n : Nat), k ≤ l.length ∧ iv = .int .i64 (k : Int) ∧ nv = .int .u64 (n : Int) ∧ n < 18446744073709551616 ∧ Hid (∀ v, l.length = 16 → hexGo l 0 = some v → hexGo (l.drop k) n = some v ∧ n < 16 ^ k)) (fun _ _ i _ => l.length - (intOf i).toNat)
    case atStart => exact ⟨rfl, rfl, 0, 0, Nat.zero_le _, rfl, rfl, by omega, (show ∀ v, l.length = 16 → hexGo l 0 = some v → hexGo (l.drop 0) 0 = some v ∧ 0 < 16 ^ 0 from fun v _ h => ⟨h, by omega⟩)⟩
    case round =>
      obtain ⟨rfl, rfl, k, n, hk, rfl, rfl, hn, hgo⟩ := hrel
      by_cases hlt : k < l.length
      · have hi1 : (0 : Int) ≤ (k : Int) ∧ (k : Int) < (l.length : Int) := by omega
        have hcl := HCL.out k hlt
        have hcb := l[k].toNat_lt
        have HLW := Lib.hid (fun W => lower_any l[k] W)
        have hstep : ∀ d, hexv l[k] = some d → d < 16 → ∀ v, l.length = 16 → hexGo l 0 = some v → hexGo (l.drop (k + 1)) (16 * n + d) = some v ∧ 16 * n + d < 16 ^ (k + 1) := fun d hd hd16 v h16 hv => by
          obtain ⟨h1, h2⟩ := hgo.out v h16 hv
          rw [hexGo_some hlt hd] at h1
          exact ⟨h1, by rw [Nat.pow_succ]; omega⟩
        have hnone : hexv l[k] = none → ∀ v, l.length = 16 → hexGo l 0 = some v → False := fun hd v h16 hv => by
          have h1 := (hgo.out v h16 hv).1
          rw [hexGo_none hlt hd] at h1
          cases h1
        have HPW := Lib.hid (show ∀ v, l.length = 16 → hexGo l 0 = some v → n < 1152921504606846976 from fun v h16 hv => by
          have h2 := (hgo.out v h16 hv).2
          have h3 : 16 ^ k ≤ 16 ^ 15 := Nat.pow_le_pow_right (by omega) (by omega)
          have h4 : (16 : Nat) ^ 15 = 1152921504606846976 := by decide
          omega)
        have hcs := hexv_cases l[k]
        clear hgo
        generalize l[k] = c at *
        generalize hlwc : lw c = m at *
        rcases hcs with ⟨q1, q2, q3⟩ | ⟨q1, q2, q3, q4⟩ | ⟨q1, q2, q3, q4⟩ | ⟨q1, q2, q3⟩
        · obtain ⟨d, hd⟩ : ∃ d, c.toNat - 48 = d := ⟨_, rfl⟩
          have hd16 : d < 16 := by omega
          have HST := Lib.hid (hstep d (by rw [q3, hd]) hd16)
          have h95 : (((c.toNat : Nat) : Int) == 95) = false := by simp; omega
          have h48 : (48 : Int) ≤ ((c.toNat : Nat) : Int) := by omega
          have h57 : ((c.toNat : Nat) : Int) ≤ 57 := by omega
          have hws : IntKind.u8.wrap (((c.toNat : Nat) : Int) - 48) = ((d : Nat) : Int) := by rw [show IntKind.u8.wrap (((c.toNat : Nat) : Int) - 48) = (((c.toNat : Nat) : Int) - 48) % 256 from rfl]; omega
          have hd16i : ¬ (16 : Int) ≤ ((d : Nat) : Int) := by omega
          clear hstep hnone q1 q2 q3 hd
          by_cases hcut : n < 1152921504606846976
          · have hcui : ¬ (1152921504606846976 : Int) ≤ (n : Int) := by omega
            have hwm : IntKind.u64.wrap ((n : Int) * 16) = ((16 * n : Nat) : Int) := by rw [show IntKind.u64.wrap ((n : Int) * 16) = ((n : Int) * 16) % 18446744073709551616 from rfl]; omega
            have hwa : IntKind.u64.wrap (((16 * n : Nat) : Int) + ((d : Nat) : Int)) = ((16 * n + d : Nat) : Int) := by rw [show IntKind.u64.wrap (((16 * n : Nat) : Int) + ((d : Nat) : Int)) = (((16 * n : Nat) : Int) + ((d : Nat) : Int)) % 18446744073709551616 from rfl]; omega
            have hwd : IntKind.u64.wrap ((d : Nat) : Int) = ((d : Nat) : Int) := by rw [show IntKind.u64.wrap ((d : Nat) : Int) = ((d : Nat) : Int) % 18446744073709551616 from rfl]; omega
            have hlt2 : ¬ ((16 * n + d : Nat) : Int) < ((16 * n : Nat) : Int) := by omega
            have hmx : ¬ (18446744073709551615 : Int) < ((16 * n + d : Nat) : Int) := by omega
            obtain ⟨n16, hn16⟩ : ∃ n16, 16 * n = n16 := ⟨_, rfl⟩
            obtain ⟨n2, hn2⟩ : ∃ n2, 16 * n + d = n2 := ⟨_, rfl⟩
            rw [hn2] at hwa hlt2 hmx
            rw [hn16] at hwm hwa hlt2
            have HNX := Lib.hid (show ∀ v, l.length = 16 → hexGo l 0 = some v → hexGo (l.drop (k + 1)) n2 = some v ∧ n2 < 16 ^ (k + 1) by rw [← hn2]; exact HST.out)
            have hn2b : n2 < 18446744073709551616 := by omega
            clear hn16 hn2 hcut
            generalize hN : ((n : Nat) : Int) = N at *
            generalize hN16 : ((n16 : Nat) : Int) = N16 at *
            generalize hN2 : ((n2 : Nat) : Int) = N2 at *
            generalize hD : ((d : Nat) : Int) = D at *
            have HN2 := Lib.hid hN2
            clear hN hN16 hN2 hD
            go_wp2_with (go_at_call 81; (with_reducible refine (HLW.out _).mono ?_); rintro e w3 ⟨rfl, rfl⟩)
            go_roundw
            case rel => exact ⟨by first | rfl | trivial, by first | rfl | trivial, k + 1, n2, by omega, by go_num, by rw [HN2.out], hn2b, HNX⟩
            case measure => simp [intOf]; omega
          · have hcui : (1152921504606846976 : Int) ≤ (n : Int) := by omega
            have HCT := Lib.hid (show ∀ v, l.length = 16 → hexGo l 0 = some v → 18446744073709551615 = v from fun v h16 hv => absurd (HPW.out v h16 hv) hcut)
            clear hcut
            generalize hN : ((n : Nat) : Int) = N at *
            generalize hD : ((d : Nat) : Int) = D at *
            clear hN hD
            go_wp2_with (go_at_call 81; (with_reducible refine (HLW.out _).mono ?_); rintro e w3 ⟨rfl, rfl⟩)
            go_ret2
            exact ⟨18446744073709551615, _, rfl, by omega, .inr (.inr rfl), HCT.out, hB1⟩
        · obtain ⟨d, hd⟩ : ∃ d, m - 87 = d := ⟨_, rfl⟩
          have hd16 : d < 16 := by omega
          have HST := Lib.hid (show ∀ v, l.length = 16 → hexGo l 0 = some v → hexGo (l.drop (k + 1)) (16 * n + d) = some v ∧ 16 * n + d < 16 ^ (k + 1) by
            rcases q4 with q4 | q4
            · exact fun v h16 hv => (hnone q4 v h16 hv).elim
            · exact hstep d (by rw [q4, hd]) hd16)
          have h97 : (97 : Int) ≤ ((m : Nat) : Int) := by omega
          have h122 : ((m : Nat) : Int) ≤ 122 := by omega
          have hws : IntKind.u8.wrap (((m : Nat) : Int) - 97) = ((m : Nat) : Int) - 97 := by rw [show IntKind.u8.wrap (((m : Nat) : Int) - 97) = (((m : Nat) : Int) - 97) % 256 from rfl]; omega
          have hws2 : IntKind.u8.wrap (((m : Nat) : Int) - 97 + 10) = ((d : Nat) : Int) := by rw [show IntKind.u8.wrap (((m : Nat) : Int) - 97 + 10) = (((m : Nat) : Int) - 97 + 10) % 256 from rfl]; omega
          have hd16i : ¬ (16 : Int) ≤ ((d : Nat) : Int) := by omega
          have h4 : ¬ (48 : Int) ≤ ((c.toNat : Nat) : Int) ∨ ((48 : Int) ≤ ((c.toNat : Nat) : Int) ∧ ¬ ((c.toNat : Nat) : Int) ≤ 57) := by omega
          clear hstep hnone q1 q2 q3 q4 hd
          by_cases h95 : c.toNat = 95
          · exfalso
            have : c = 95 := UInt8.toNat_inj.1 (by simpa using h95)
            subst this
            have h1 : lw 95 = 127 := by decide
            omega
          · have h95b : (((c.toNat : Nat) : Int) == 95) = false := by simp; omega
            clear h95
            rcases h4 with h48 | ⟨h48, h57⟩
            · skip
              by_cases hcut : n < 1152921504606846976
              · have hcui : ¬ (1152921504606846976 : Int) ≤ (n : Int) := by omega
                have hwm : IntKind.u64.wrap ((n : Int) * 16) = ((16 * n : Nat) : Int) := by rw [show IntKind.u64.wrap ((n : Int) * 16) = ((n : Int) * 16) % 18446744073709551616 from rfl]; omega
                have hwa : IntKind.u64.wrap (((16 * n : Nat) : Int) + ((d : Nat) : Int)) = ((16 * n + d : Nat) : Int) := by rw [show IntKind.u64.wrap (((16 * n : Nat) : Int) + ((d : Nat) : Int)) = (((16 * n : Nat) : Int) + ((d : Nat) : Int)) % 18446744073709551616 from rfl]; omega
                have hwd : IntKind.u64.wrap ((d : Nat) : Int) = ((d : Nat) : Int) := by rw [show IntKind.u64.wrap ((d : Nat) : Int) = ((d : Nat) : Int) % 18446744073709551616 from rfl]; omega
                have hlt2 : ¬ ((16 * n + d : Nat) : Int) < ((16 * n : Nat) : Int) := by omega
                have hmx : ¬ (18446744073709551615 : Int) < ((16 * n + d : Nat) : Int) := by omega
                obtain ⟨n16, hn16⟩ : ∃ n16, 16 * n = n16 := ⟨_, rfl⟩
                obtain ⟨n2, hn2⟩ : ∃ n2, 16 * n + d = n2 := ⟨_, rfl⟩
                rw [hn2] at hwa hlt2 hmx
                rw [hn16] at hwm hwa hlt2
                have HNX := Lib.hid (show ∀ v, l.length = 16 → hexGo l 0 = some v → hexGo (l.drop (k + 1)) n2 = some v ∧ n2 < 16 ^ (k + 1) by rw [← hn2]; exact HST.out)
                have hn2b : n2 < 18446744073709551616 := by omega
                clear hn16 hn2 hcut
                generalize hN : ((n : Nat) : Int) = N at *
                generalize hN16 : ((n16 : Nat) : Int) = N16 at *
                generalize hN2 : ((n2 : Nat) : Int) = N2 at *
                generalize hD : ((d : Nat) : Int) = D at *
                have HN2 := Lib.hid hN2
                clear hN hN16 hN2 hD
                go_wp2_with (go_at_call 81; (with_reducible refine (HLW.out _).mono ?_); rintro e w3 ⟨rfl, rfl⟩)
                go_roundw
                case rel => exact ⟨by first | rfl | trivial, by first | rfl | trivial, k + 1, n2, by omega, by go_num, by rw [HN2.out], hn2b, HNX⟩
                case measure => simp [intOf]; omega
              · have hcui : (1152921504606846976 : Int) ≤ (n : Int) := by omega
                have HCT := Lib.hid (show ∀ v, l.length = 16 → hexGo l 0 = some v → 18446744073709551615 = v from fun v h16 hv => absurd (HPW.out v h16 hv) hcut)
                clear hcut
                generalize hN : ((n : Nat) : Int) = N at *
                generalize hD : ((d : Nat) : Int) = D at *
                clear hN hD
                go_wp2_with (go_at_call 81; (with_reducible refine (HLW.out _).mono ?_); rintro e w3 ⟨rfl, rfl⟩)
                go_ret2
                exact ⟨18446744073709551615, _, rfl, by omega, .inr (.inr rfl), HCT.out, hB1⟩
            · skip
              by_cases hcut : n < 1152921504606846976
              · have hcui : ¬ (1152921504606846976 : Int) ≤ (n : Int) := by omega
                have hwm : IntKind.u64.wrap ((n : Int) * 16) = ((16 * n : Nat) : Int) := by rw [show IntKind.u64.wrap ((n : Int) * 16) = ((n : Int) * 16) % 18446744073709551616 from rfl]; omega
                have hwa : IntKind.u64.wrap (((16 * n : Nat) : Int) + ((d : Nat) : Int)) = ((16 * n + d : Nat) : Int) := by rw [show IntKind.u64.wrap (((16 * n : Nat) : Int) + ((d : Nat) : Int)) = (((16 * n : Nat) : Int) + ((d : Nat) : Int)) % 18446744073709551616 from rfl]; omega
                have hwd : IntKind.u64.wrap ((d : Nat) : Int) = ((d : Nat) : Int) := by rw [show IntKind.u64.wrap ((d : Nat) : Int) = ((d : Nat) : Int) % 18446744073709551616 from rfl]; omega
                have hlt2 : ¬ ((16 * n + d : Nat) : Int) < ((16 * n : Nat) : Int) := by omega
                have hmx : ¬ (18446744073709551615 : Int) < ((16 * n + d : Nat) : Int) := by omega
                obtain ⟨n16, hn16⟩ : ∃ n16, 16 * n = n16 := ⟨_, rfl⟩
                obtain ⟨n2, hn2⟩ : ∃ n2, 16 * n + d = n2 := ⟨_, rfl⟩
                rw [hn2] at hwa hlt2 hmx
                rw [hn16] at hwm hwa hlt2
                have HNX := Lib.hid (show ∀ v, l.length = 16 → hexGo l 0 = some v → hexGo (l.drop (k + 1)) n2 = some v ∧ n2 < 16 ^ (k + 1) by rw [← hn2]; exact HST.out)
                have hn2b : n2 < 18446744073709551616 := by omega
                clear hn16 hn2 hcut
                generalize hN : ((n : Nat) : Int) = N at *
                generalize hN16 : ((n16 : Nat) : Int) = N16 at *
                generalize hN2 : ((n2 : Nat) : Int) = N2 at *
                generalize hD : ((d : Nat) : Int) = D at *
                have HN2 := Lib.hid hN2
                clear hN hN16 hN2 hD
                go_wp2_with (go_at_call 81; (with_reducible refine (HLW.out _).mono ?_); rintro e w3 ⟨rfl, rfl⟩)
                go_roundw
                case rel => exact ⟨by first | rfl | trivial, by first | rfl | trivial, k + 1, n2, by omega, by go_num, by rw [HN2.out], hn2b, HNX⟩
                case measure => simp [intOf]; omega
              · have hcui : (1152921504606846976 : Int) ≤ (n : Int) := by omega
                have HCT := Lib.hid (show ∀ v, l.length = 16 → hexGo l 0 = some v → 18446744073709551615 = v from fun v h16 hv => absurd (HPW.out v h16 hv) hcut)
                clear hcut
                generalize hN : ((n : Nat) : Int) = N at *
                generalize hD : ((d : Nat) : Int) = D at *
                clear hN hD
                go_wp2_with (go_at_call 81; (with_reducible refine (HLW.out _).mono ?_); rintro e w3 ⟨rfl, rfl⟩)
                go_ret2
                exact ⟨18446744073709551615, _, rfl, by omega, .inr (.inr rfl), HCT.out, hB1⟩
        · have HNO := Lib.hid (show ∀ v, l.length = 16 → hexGo l 0 = some v → 0 = v from fun v h16 hv => (hnone q4 v h16 hv).elim)
          have h97 : (97 : Int) ≤ ((m : Nat) : Int) := by omega
          have h122 : ((m : Nat) : Int) ≤ 122 := by omega
          have hws : IntKind.u8.wrap (((m : Nat) : Int) - 97) = ((m : Nat) : Int) - 97 := by rw [show IntKind.u8.wrap (((m : Nat) : Int) - 97) = (((m : Nat) : Int) - 97) % 256 from rfl]; omega
          have hws2 : IntKind.u8.wrap (((m : Nat) : Int) - 97 + 10) = ((m : Nat) : Int) - 87 := by rw [show IntKind.u8.wrap (((m : Nat) : Int) - 97 + 10) = (((m : Nat) : Int) - 97 + 10) % 256 from rfl]; omega
          have hd16i : (16 : Int) ≤ ((m : Nat) : Int) - 87 := by omega
          have h4 : ¬ (48 : Int) ≤ ((c.toNat : Nat) : Int) ∨ ((48 : Int) ≤ ((c.toNat : Nat) : Int) ∧ ¬ ((c.toNat : Nat) : Int) ≤ 57) := by omega
          have h95n : c.toNat ≠ 95 := fun h95 => by
            have : c = 95 := UInt8.toNat_inj.1 (by simpa using h95)
            subst this
            have h1 : lw 95 = 127 := by decide
            omega
          have h95b : (((c.toNat : Nat) : Int) == 95) = false := by simp; omega
          clear hstep hnone q1 q2 q3 q4 h95n
          rcases h4 with h48 | ⟨h48, h57⟩
          · go_wp2_with (go_at_call 81; (with_reducible refine (HLW.out _).mono ?_); rintro e w3 ⟨rfl, rfl⟩)
            go_ret2
            exact ⟨0, _, rfl, by omega, .inr (.inl rfl), HNO.out, hB1⟩
          · go_wp2_with (go_at_call 81; (with_reducible refine (HLW.out _).mono ?_); rintro e w3 ⟨rfl, rfl⟩)
            go_ret2
            exact ⟨0, _, rfl, by omega, .inr (.inl rfl), HNO.out, hB1⟩
        · have HNO := Lib.hid (show ∀ v, l.length = 16 → hexGo l 0 = some v → 0 = v from fun v h16 hv => (hnone q3 v h16 hv).elim)
          have h4 : ¬ (48 : Int) ≤ ((c.toNat : Nat) : Int) ∨ ((48 : Int) ≤ ((c.toNat : Nat) : Int) ∧ ¬ ((c.toNat : Nat) : Int) ≤ 57) := by omega
          have h5 : ¬ (97 : Int) ≤ ((m : Nat) : Int) ∨ ((97 : Int) ≤ ((m : Nat) : Int) ∧ ¬ ((m : Nat) : Int) ≤ 122) := by omega
          have h9 : (((c.toNat : Nat) : Int) == 95) = false ∨ (((c.toNat : Nat) : Int) == 95) = true := by cases (((c.toNat : Nat) : Int) == 95) <;> simp
          clear hstep hnone q1 q2 q3
          rcases h4 with h48 | ⟨h48, h57⟩ <;> rcases h5 with h97 | ⟨h97, h122⟩ <;> rcases h9 with h95b | h95b
          all_goals go_wp2_with (go_at_call 81; (with_reducible refine (HLW.out _).mono ?_); rintro e w3 ⟨rfl, rfl⟩)
          all_goals go_ret2
          all_goals exact ⟨0, _, rfl, by omega, .inr (.inl rfl), HNO.out, hB1⟩
      · obtain rfl : k = l.length := by omega
        have HE := Lib.hid (show ∀ v, l.length = 16 → hexGo l 0 = some v → n = v from fun v h16 hv => by
          have h1 := (hgo.out v h16 hv).1
          rw [List.drop_eq_nil_of_le (Nat.le_refl _), hexGo] at h1
          exact Option.some.inj h1)
        clear hgo
        go_wp2_with fail
        go_ret2
        exact ⟨n, _, rfl, hn, .inl rfl, HE.out, hB1⟩
end Wd
end Go.Proofs.YteckjhhbljoklaaDoor
