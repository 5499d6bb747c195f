/-
  The document's From: versions from a key on (tapestryref06.From).
-/
import Derived.Test.YtgfpkbdinfdkfaaMemR
import Derived.Test.YtgfpkbdinfdkfaaVersOwn
namespace Go.Proofs.Ytgfpkbdinfdkfaa
open Go.RowKit
set_option linter.unusedSimpArgs false
set_option linter.unusedVariables false
namespace Mt
open Op (bytesLess)
open Vs (Vers At vcs)
def fromL (L : List Ver) (key : List UInt8) : List Ver := L.filter fun x => !bytesLess x.key key
theorem from_take (L : List Ver) (key : List UInt8) (q : Nat) (h : q < L.length) : fromL (L.take (q + 1)) key = fromL (L.take q) key ++ (if bytesLess L[q].key key = true then [] else [L[q]]) := by
  unfold fromL
  rw [List.take_succ_eq_append_getElem h, List.filter_append]
  cases hb : bytesLess L[q].key key <;> simp [hb]
theorem from_len (L : List Ver) (key : List UInt8) (q : Nat) : (fromL (L.take q) key).length ≤ q := by
  unfold fromL
  have := List.length_filter_le (fun x : Ver => !bytesLess x.key key) (L.take q)
  have h2 : (L.take q).length ≤ q := by simp; omega
  omega

set_option maxRecDepth 100000 in
set_option maxHeartbeats 4000000 in
theorem fromR_any (v : Value) (L : List Ver) (key : List UInt8) (w : World) (hV : Vers w.heap.size w v L) (hL : L.length ≤ 1099511627776) (hk : key.length ≤ 1048576) :
    Calls Try.prog 27 #[v, .string (Cd.bs key)] w fun e w' => ∃ u, e = .returned u ∧ w'.ownsRow w.heap.size 33 4 u (fromL L key).length (vcs (fromL L key)) ∧ Below w.heap.size w w' := by
  obtain ⟨i0, hi, hz0, hz1, hz2⟩ := info_parts info_Version
  obtain ⟨a, cap, fb, fo, rfl, ha, hcells⟩ := hV
  have HC := Lib.hid hcells
  clear hcells
  go_enter Try.func27, Try.ntmps27
  go_wp2_with fail
  go_loopw [5, 6] (fun u i wr => ∃ q : Nat, q ≤ L.length ∧ i = .int .i64 (q : Int) ∧ wr.ownsRow w.heap.size 33 4 u (fromL (L.take q) key).length (vcs (fromL (L.take q) key)) ∧ Below w.heap.size w wr) (fun _ i _ => L.length - (intOf i).toNat)
  case atStart => exact ⟨0, Nat.zero_le _, rfl, World.ownsRow_nil _ _ _ _, Below.refl _ _⟩
  case round =>
    rename_i uu _ _
    obtain ⟨q, hq, rfl, hown, hB⟩ := hrel
    have hbs := hB.size
    by_cases hlt : q < L.length
    · obtain ⟨rfl, hfb⟩ := ha (by omega)
      obtain ⟨e0, e1, e2, e3⟩ := (HC.out q hlt).below hB hfb
      have hi1 : (0 : Int) ≤ (q : Int) ∧ (q : Int) < (L.length : Int) := by omega
      have HT := Lib.hid (from_take L key q hlt)
      have hfl := from_len L key q
      generalize fromL (L.take q) key = F at *
      generalize L[q] = x at *
      obtain ⟨k, sq, d, val⟩ := x
      simp only at e0 e1 e2 e3
      have HT2 : Hid (fromL (L.take (q + 1)) key = F ++ (if bytesLess k key = true then [] else [⟨k, sq, d, val⟩])) := HT
      clear HT
      cases hb : bytesLess k key with
      | true =>
        have HF := Lib.hid (show fromL (L.take (q + 1)) key = F by rw [HT2.out, hb]; simp)
        clear HT2
        go_wp2_with fail
        go_roundw
        case rel => exact ⟨q + 1, by omega, by go_num, by rw [HF.out]; exact hown, hB⟩
        case measure => simp [intOf]; omega
      | false =>
        have HF := Lib.hid (show fromL (L.take (q + 1)) key = F ++ [⟨k, sq, d, val⟩] by rw [HT2.out, hb]; simp)
        clear HT2
        go_wp2_with (at_builtin; refine wpList_append_own _ rfl _ _ 26 rfl w.heap.size 33 i0 (.agg #[.string ⟨#[]⟩, .int .u64 0, .bool false, .string ⟨#[]⟩]) 4 48 Try.underlying26 hi hz0 hz1 hz2 rfl (by decide) _ _ _ rfl (hown.alloc _) ⟨wr.heap.size, 0, none⟩ 1 1 [_, _, _, _] rfl rfl (by simpa using Vs.cell_four_new wr _ _ _ _ _) (by simp [Value.oneCell']) (by unfold maxLen; omega) (by omega) (by simp; omega) ?_; intro v' w1 hown' hgrow _)
        have hb' := (hB.alloc hbs (.cells #[.string (Cd.bs k), .int .u64 sq, .bool d, .string (Cd.bs val)] 33)).grown hgrow (by simp; omega) (fun j hj => (hown.lt j hj).1)
        clear hgrow
        go_roundw
        case rel => exact ⟨q + 1, by omega, by go_num, by rw [HF.out, List.length_append, Vs.vcs_snoc]; exact hown', hb'⟩
        case measure => simp [intOf]; omega
    · obtain rfl : q = L.length := by omega
      rw [List.take_length] at hown
      go_wp2_with fail
      go_ret
      exact ⟨_, rfl, hown, hB⟩
end Mt
end Go.Proofs.Ytgfpkbdinfdkfaa
