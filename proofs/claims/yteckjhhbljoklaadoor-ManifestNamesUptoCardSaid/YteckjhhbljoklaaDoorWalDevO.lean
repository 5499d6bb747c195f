/-
  The program's names of logs: Number.
-/
import Derived.Test.YteckjhhbljoklaaDoorWalDevM
namespace Go.Proofs.YteckjhhbljoklaaDoor
open Go.RowKit
set_option linter.unusedSimpArgs false
set_option linter.unusedVariables false
namespace Wd
open Wa
/-- what strconv.ParseUint answers, as far as names need it -/
def PUOutP (l : List UInt8) (w : World) (e : Ending) (w' : World) : Prop :=
  ∃ (n : Nat) (ev : Value), e = .returned (.tuple #[.int .u64 (n : Int), ev]) ∧ n < 18446744073709551616 ∧ (∀ v, l.length = 16 → hexGo l 0 = some v → n = v) ∧ Below w.heap.size w w'

set_option maxRecDepth 100000 in
set_option maxHeartbeats 4000000 in
theorem parseUint_16 (l : List UInt8) (w : World) (hl : l.length ≤ 140737488351232) (hL : Laid w) :
    Calls Tryd.prog 44 #[.string (Cd.bs l), .int .i64 16, .int .i64 64] w (PUOutP l w) := by
  have HP := Lib.hid (parseUintI_16 l w hl)
  have hlim : (Cd.bs l).size ≤ 281474976710656 := by show l.length ≤ _; omega
  have HL := Lib.hid hL
  go_enter Tryd.func44, Tryd.ntmps44
  go_wp2_with (go_at_call 65; (with_reducible refine HP.out.mono ?_))
  rintro e w1 ⟨n, ev, rfl, hn, (rfl | rfl | rfl), hv, hb1⟩
  · have HV := Lib.hid hv
    clear hv
    go_wp2_with fail
    go_ret2
    exact ⟨n, _, rfl, hn, HV.out, hb1⟩
  · have HV := Lib.hid hv
    obtain ⟨_, ⟨te, pe, hc⟩, _⟩ := HL.out.below hb1
    clear hv
    go_wp2_with (go_at_call 66; (with_reducible refine (Tryd.strconv_toError_syntax _ (Cd.bs l) 16 64 (.iface te pe) _ hlim hc (.inr ⟨te, pe, rfl⟩)).mono ?_); rintro e w2 ⟨N, rfl, _, _, hb2⟩)
    go_ret2
    exact ⟨n, _, rfl, hn, HV.out, hb1.trans (hb2.mono hb1.size)⟩
  · have HV := Lib.hid hv
    obtain ⟨_, _, te, pe, hc⟩ := HL.out.below hb1
    clear hv
    go_wp2_with (go_at_call 66; (with_reducible refine (Tryd.strconv_toError_range _ (Cd.bs l) 16 64 (.iface te pe) _ hlim hc (.inr ⟨te, pe, rfl⟩)).mono ?_); rintro e w2 ⟨N, rfl, _, _, hb2⟩)
    go_ret2
    exact ⟨n, _, rfl, hn, HV.out, hb1.trans (hb2.mono hb1.size)⟩

theorem trim_name {l : List UInt8} (h : l.take 4 = logB) : Lib.trimPrefix l logB = l.drop 4 := by
  unfold Lib.trimPrefix Lib.hasPrefix
  rw [if_pos]
  · rfl
  · rw [List.isPrefixOf_iff_prefix]
    exact ⟨l.drop 4, by rw [← h, List.take_append_drop]⟩
theorem trim_len (l : List UInt8) : (Lib.trimPrefix l logB).length ≤ l.length := by
  unfold Lib.trimPrefix
  split
  · rw [List.length_drop]; omega
  · exact Nat.le_refl _

set_option maxRecDepth 100000 in
set_option maxHeartbeats 4000000 in
theorem numberOk : NumberOk := by
  intro l w hl hL
  have HT := Lib.hid (fun W => show Calls Tryd.prog 30 #[.string (Cd.bs l), .string ⟨#[108, 111, 103, 45]⟩] W fun e w' => e = .returned (.string (Cd.bs (Lib.trimPrefix l logB))) ∧ w' = W from Tryd.strings_TrimPrefix (Cd.bs l) ⟨#[108, 111, 103, 45]⟩ W)
  have htl := trim_len l
  have htn : ∀ m, m < 18446744073709551616 → l = name m → (Lib.trimPrefix l logB).length = 16 ∧ hexGo (Lib.trimPrefix l logB) 0 = some m := fun m hm h => by
    obtain ⟨h1, h2, h3⟩ := hexGo_of_name hm h
    rw [trim_name h1]
    exact ⟨h2, h3⟩
  generalize Lib.trimPrefix l logB = t at *
  have HP := Lib.hid (fun W h => parseUint_16 t W (by omega) h)
  have HTN := Lib.hid htn
  have HL := Lib.hid hL
  clear htn hL
  go_enter Tryd.func33, Tryd.ntmps33
  go_wp2_with (first
    | (go_at_call 30; (with_reducible refine (HT.out _).mono ?_); rintro e w0 ⟨rfl, rfl⟩)
    | (go_at_call 44; (with_reducible refine (HP.out _ HL.out).mono ?_); rintro e w1 ⟨n, ev, rfl, hn, hv, hb1⟩; have HV := Lib.hid hv; clear hv))
  refine (nameOk n _ hn (HL.out.below hb1)).mono ?_
  rintro e w2 ⟨rfl, hb2⟩
  have HO := Lib.hid (numOf_by (l := l) hn (fun m hm h => HV.out m (HTN.out m hm h).1 (HTN.out m hm h).2))
  have hn1 : (Cd.bs (name n)).toList = name n := by rw [ByteArray.toList_mk]
  have hn2 : (Cd.bs l).toList = l := by rw [ByteArray.toList_mk]
  have hB := hb1.trans (hb2.mono hb1.size)
  by_cases he : name n = l
  · have HE := Lib.hid (HO.out.trans (if_pos he))
    clear HO
    rw [he]
    clear he hn1
    go_wp2_with fail
    go_ret2
    exact ⟨by rw [HE.out]; rfl, hB⟩
  · have HE := Lib.hid (HO.out.trans (if_neg he))
    have heb : (name n == l) = false := by simpa using he
    have heb2 : (name n != l) = true := by simpa using he
    clear HO he
    go_wp2_with fail
    go_ret2
    exact ⟨by rw [HE.out]; rfl, hB⟩

end Wd
end Go.Proofs.YteckjhhbljoklaaDoor
