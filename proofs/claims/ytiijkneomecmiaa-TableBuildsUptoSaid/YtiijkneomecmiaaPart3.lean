import Derived.Shelf.Small.Strs
import Derived.Shelf.Strings.Search1
import Derived.Test.YtiijkneomecmiaaProg
import Derived.Deep.LoopGhost
import Derived.LoopTactic
import Derived.BigQuiet
import Derived.Deep.QuietTactic
import Derived.Test.YtiijkneomecmiaaPart2
/-
  The document's answers on places of versions as bytes (tapestryref06.May, tapestryref08.EncodeKey, DecodeKey).
-/
namespace Go.Proofs.Ytiijkneomecmiaa
open Go.RowKit
set_option linter.unusedSimpArgs false
set_option linter.unusedVariables false
namespace Tb
open Mt (Ver mayB lessB placeB VerIn verV)

set_option maxRecDepth 100000 in
set_option maxHeartbeats 4000000 in
theorem mayR6_any (v : Ver) (w : World) (hv : VerIn v) :
    Calls Try.prog 23 #[verV v] w fun e w' => e = .returned (.bool (mayB v)) ∧ Below w.heap.size w w' := by
  obtain ⟨k, q, d, x⟩ := v
  obtain ⟨h1, h2, h3, h4⟩ := hv
  simp only at h1 h2 h3 h4
  unfold verV mayB
  simp only
  have hsk : (Cd.bs k).size = k.length := rfl
  have hsv : (Cd.bs x).size = x.length := rfl
  have hvl : (Cd.bs x).toList = x := by rw [ByteArray.toList_mk]
  go_enter Try.func23, Try.ntmps23
  go_wp2_with fail
  all_goals go_ret
  all_goals refine ⟨congrArg (fun b => Ending.returned (.bool b)) ?_, (Below.refl _ _).alloc (Nat.le_refl _) _⟩
  all_goals (first | (simp_all; done) | (cases d <;> cases x <;> simp_all <;> omega) | (simp_all; intros; omega) | skip)

theorem mark_lt (v : Ver) : mark v < 18446744073709551616 := by unfold mark; omega
theorem big_at (N : Int) (n : Nat) (h : N = n) (hn : n < 18446744073709551616) (w : World) :
    Calls Try.prog 25 #[.int .u64 N] w fun e w' => e = .returned (.string (Cd.bs (Cd.big n))) ∧ Below w.heap.size w w' := by
  subst h
  have := bigr_any (n : Int) w (by omega) (by omega)
  simpa using this
theorem keyTr_at (k : List UInt8) (w : World) (h : k.length ≤ 1048576) :
    Calls Try.prog 24 #[.string (Cd.bs k)] w fun e w' => e = .returned (.string (Cd.bs (Cd.keyT k))) ∧ Below w.heap.size w w' :=
  keyTr_any (Cd.bs k) w (by show k.length ≤ _; omega)

set_option maxRecDepth 100000 in
set_option maxHeartbeats 4000000 in
theorem encKeyR_any (v : Ver) (w : World) (hv : VerIn v) :
    Calls Try.prog 9 #[verV v] w fun e w' => e = .returned (.string (Cd.bs (encKey v))) ∧ Below w.heap.size w w' := by
  have HM := Lib.hid (fun W => mayR6_any v W hv)
  have hk := Lib.hid (fun W => keyTr_at v.key W hv.1)
  have hkl := Cd.keyGo_len v.key
  have hkl2 := hv.1
  have HE := Lib.hid (show encKey v = if mayB v = true then Cd.keyT v.key ++ Cd.big (mark v) else [] from rfl)
  have htl : (Cd.keyT v.key).length ≤ 3000000 := by unfold Cd.keyT; simp; omega
  have HA := Lib.hid (show Cd.bs (Cd.keyT v.key) ++ Cd.bs (Cd.big (mark v)) = Cd.bs (Cd.keyT v.key ++ Cd.big (mark v)) from ByteArray.mk_append_mk _ _)
  have hbl : (Cd.big (mark v)).length = 8 := Cd.big_len _
  have hmk : mayB v = true → 1 ≤ v.seq ∧ v.seq ≤ 1125899906842624 := fun h => ⟨(may_seq h).1, (may_seq h).2.1⟩
  have HB := Lib.hid (fun (N : Int) (h : N = mark v) (W : World) => big_at N (mark v) h (mark_lt v) W)
  have HMK := Lib.hid (show mark v = 18446744073709551615 - (2 * v.seq.toNat + if v.del then 1 else 0) from rfl)
  generalize mark v = m at *
  generalize Cd.big m = bg at *
  generalize Cd.keyT v.key = kt at *
  generalize encKey v = r at *
  obtain ⟨k, q, d, x⟩ := v
  obtain ⟨h1, h2, h3, h4⟩ := hv
  simp only at *
  unfold verV at *
  simp only at *
  have oA := Ob.Obj.new w 24 [.string (Cd.bs k), .int .u64 q, .bool d, .string (Cd.bs x)]
  have hA : Below w.heap.size w (w.alloc (.cells #[.string (Cd.bs k), .int .u64 q, .bool d, .string (Cd.bs x)] 24)) := (Below.refl _ _).alloc (Nat.le_refl _) _
  cases hb : mayB ⟨k, q, d, x⟩ with
  | false =>
    rw [hb] at HM HE
    have hr := HE.out
    simp at hr
    subst hr
    go_enter Try.func9, Try.ntmps9
    go_wp2_with (go_at_call 23; (with_reducible refine (HM.out _).mono ?_); rintro e w1 ⟨rfl, hb1⟩; have hB1 := hA.trans (hb1.mono hA.size))
    go_ret
    exact ⟨rfl, hB1⟩
  | true =>
    rw [hb] at HM HE
    obtain ⟨q1, q2⟩ := hmk hb
    have hr := HE.out
    rw [if_pos rfl] at hr
    subst hr
    have HR := Lib.hid (show (Value.string (Cd.bs kt ++ Cd.bs bg)) = .string (Cd.bs (kt ++ bg)) by rw [HA.out])
    clear HA hmk HE hb
    cases d
    · have hm := HMK.out
      simp at hm
      have hm2 : bits BinOp.xor IntKind.u64 IntKind.u64.max (2 * q) = m := by rw [turn_all _ (by omega) (by omega)]; omega
      clear HMK hm
      go_enter Try.func9, Try.ntmps9
      go_wp2_with (first
        | (go_at_call 23; (with_reducible refine (HM.out _).mono ?_); rintro e w1 ⟨rfl, hb1⟩; have hB1 := hA.trans (hb1.mono hA.size); have o1 := oA.below hb1; have c0 := o1.cell 0; have c1 := o1.cell 1; have c2 := o1.cell 2; simp at c0 c1 c2)
        | (go_at_call 24; (with_reducible refine (hk.out _).mono ?_); rintro e w2 ⟨rfl, hb2⟩; have hB2 := hB1.trans (hb2.mono hB1.size))
        | (go_at_call 25; (with_reducible refine (HB.out _ rfl _).mono ?_); rintro e w3 ⟨rfl, hb3⟩; have hB3 := hB2.trans (hb3.mono hB2.size)))
      go_ret
      exact ⟨by rw [← HR.out]; rfl, hB3⟩
    · have hm := HMK.out
      simp at hm
      have hm2 : bits BinOp.xor IntKind.u64 IntKind.u64.max (2 * q + 1) = m := by rw [turn_all _ (by omega) (by omega)]; omega
      clear HMK hm
      go_enter Try.func9, Try.ntmps9
      go_wp2_with (first
        | (go_at_call 23; (with_reducible refine (HM.out _).mono ?_); rintro e w1 ⟨rfl, hb1⟩; have hB1 := hA.trans (hb1.mono hA.size); have o1 := oA.below hb1; have c0 := o1.cell 0; have c1 := o1.cell 1; have c2 := o1.cell 2; simp at c0 c1 c2)
        | (go_at_call 24; (with_reducible refine (hk.out _).mono ?_); rintro e w2 ⟨rfl, hb2⟩; have hB2 := hB1.trans (hb2.mono hB1.size))
        | (go_at_call 25; (with_reducible refine (HB.out _ rfl _).mono ?_); rintro e w3 ⟨rfl, hb3⟩; have hB3 := hB2.trans (hb3.mono hB2.size)))
      go_ret
      exact ⟨by rw [← HR.out]; rfl, hB3⟩

/-- the document's answer on a place that is read, and its error -/
def decV (r : Ver × Nat) : Value := .tuple #[verV r.1, .int .i64 (r.2 : Nat)]
theorem word_at (l : List UInt8) (W : World) (h : l.length = 8) :
    Calls Try.prog 22 #[.string (Cd.bs l)] W fun e w' => e = .returned (.int .u64 (Cd.wordGo l : Nat)) ∧ W = w' := by
  have := word_any (Cd.bs l) W (by show 8 ≤ l.length; omega) (by show l.length ≤ _; unfold maxLen; omega)
  rwa [show (Cd.bs l).data.toList.take 8 = l from List.take_of_length_le (by show l.length ≤ 8; omega)] at this
theorem drop_str (l : List UInt8) (k : Nat) : (Cd.bs l).extract k l.length = Cd.bs (l.drop k) := by
  have : ((Cd.bs l).extract k l.length).data.toList = l.drop k := by
    rw [Lib.extract_data]; exact List.take_of_length_le (by simp)
  rw [← this]
theorem verOf_in (key : List UInt8) (w : Nat) (h : key.length ≤ 1048576) (hw : w < 18446744073709551616) : VerIn (verOf key w) := by
  unfold verOf VerIn
  simp
  omega

set_option maxRecDepth 100000 in
set_option maxHeartbeats 4000000 in
theorem decKeyR_any (s : List UInt8) (w : World) (hs : s.length ≤ 1048576) :
    Calls Try.prog 8 #[.string (Cd.bs s)] w fun e w' => e = .returned (decV (decKey s)) ∧ Below w.heap.size w w' := by
  have hT := fun W => takeKr_any (Cd.bs s) W (by show s.length ≤ _; omega)
  obtain ⟨o1, o2⟩ := takeK_ok s
  change ∀ W, Calls _ _ _ W fun e w' => e = .returned (.tuple #[.string (Cd.bs (Cd.takeK s).1), .int .i64 (Cd.takeK s).2.1, .int .i64 (Cd.takeK s).2.2]) ∧ Below W.heap.size W w' at hT
  obtain ⟨key, n, c, ht⟩ : ∃ key n c, Cd.takeK s = (key, n, c) := ⟨_, _, _, rfl⟩
  have hD := decKey_at ht
  rw [ht] at hT o1 o2
  simp only at hT o1 o2
  have hsz : (Cd.bs s).size = s.length := rfl
  have HT := Lib.hid hT
  clear hT ht
  by_cases h0 : c = 0
  · subst h0
    by_cases hl : s.length = n + 8
    · rw [if_pos ⟨rfl, hl⟩] at hD
      have hw8 : (s.drop n).length = 8 := by simp; omega
      have HX : (Cd.bs s).extract n (n + 8) = Cd.bs (s.drop n) := by rw [← hl]; exact drop_str s n
      have HW := Lib.hid (fun W => word_at (s.drop n) W hw8)
      rw [← HX] at HW
      clear HX
      have hwl : Cd.wordGo (s.drop n) < 18446744073709551616 := by have := Cd.wordGo_lt (s.drop n); rw [hw8] at this; omega
      have hin := verOf_in key (Cd.wordGo (s.drop n)) (by omega) hwl
      have HE := Lib.hid (fun W => encKeyR_any _ W hin)
      have hl2 := enc_len (verOf key (Cd.wordGo (s.drop n)))
      have HV := Lib.hid (show verV (verOf key (Cd.wordGo (s.drop n))) = .agg #[.string (Cd.bs key), .int .u64 (((18446744073709551615 - Cd.wordGo (s.drop n)) / 2 : Nat) : Int), .bool (decide ((18446744073709551615 - Cd.wordGo (s.drop n)) % 2 = 1)), .string (Cd.bs [])] from rfl)
      generalize verOf key (Cd.wordGo (s.drop n)) = vv at *
      generalize Cd.wordGo (s.drop n) = W8 at *
      have hturn : bits BinOp.xor IntKind.u64 (if IntKind.u64.signed = true then -1 else IntKind.u64.max) (W8 : Int) = 18446744073709551615 - (W8 : Int) := turn_all (W8 : Int) (by omega) (by omega)
      obtain ⟨m, hm⟩ : ∃ m : Nat, m = 18446744073709551615 - W8 := ⟨_, rfl⟩
      have hm2 : (18446744073709551615 - (W8 : Int)) = (m : Int) := by omega
      have hmb : (m : Int) < 18446744073709551616 := by omega
      rw [← hm] at HV
      rw [hm2] at hturn
      have hme : (((m / 2 : Nat)) : Int) = (m : Int) / 2 := by omega
      have hmd : decide (m % 2 = 1) = ((m : Int) % 2 == 1) := by rw [Bool.eq_iff_iff]; simp; omega
      rw [hme, hmd] at HV
      clear hm hm2 hme hmd
      generalize encKey vv = ek at *
      by_cases hek : ek = s
      · subst hek
        rw [if_pos rfl] at hD
        have HF := Lib.hid (show decV (decKey ek) = .tuple #[verV vv, .int .i64 0] by rw [hD]; rfl)
        rw [HV.out] at HE HF
        clear hD HV
        go_enter Try.func8, Try.ntmps8
        go_wp2_with (first
          | (go_at_call 21; (with_reducible refine (HT.out _).mono ?_); rintro e w1 ⟨rfl, hb1⟩; obtain ⟨hkc, hkf⟩ := bcell hb1; have hz : w.heap.size < w1.heap.size := (by have := hb1.size; simp at this; omega))
          | (go_at_call 22; (with_reducible refine (HW.out _).mono ?_); rintro e w2 ⟨rfl, rfl⟩)
          | (go_at_call 9; (with_reducible refine (HE.out _).mono ?_); rintro e w3 ⟨rfl, hb3⟩; obtain ⟨hkc3, hkf3⟩ := bcell hb3; have hz3 : w1.heap.size < w3.heap.size := (by have := hb3.size; simp at this; omega); have hz4 : w.heap.size < w3.heap.size := (by omega); have hz5 : w.heap.size < w1.heap.size + 1 := (by omega)))
        exact bodyPost_ret (v := .tuple #[.agg #[.string (Cd.bs key), .int .u64 ((m : Int) / 2), .bool ((m : Int) % 2 == 1), .string (Cd.bs [])], .int .i64 0]) (by simp [results, Try.results8, go_sem, hkc, hz, hkc3, hz3, hz4, hz5]) rfl ⟨HF.out.symm ▸ rfl, by repeat (first | exact Below.refl _ _ | (refine Below.trans ?_ (hb3.mono ?_)) | (refine Below.trans ?_ (hb1.mono ?_)) | apply Below.drew | (refine Below.setCell ?_ ?_ _) | (refine Below.alloc ?_ ?_ _) | exact Nat.le_refl _ | omega | (focus (simp; done)) | (focus (simp; omega)))⟩
      · have hne : (ek == s) = false := by simpa using hek
        rw [if_neg hek] at hD
        have HF := Lib.hid (show decV (decKey s) = .tuple #[.agg #[.string (Cd.bs []), .int .u64 0, .bool false, .string (Cd.bs [])], .int .i64 3] by rw [hD]; rfl)
        rw [HV.out] at HE
        clear hD HV hek
        go_enter Try.func8, Try.ntmps8
        go_wp2_with (first
          | (go_at_call 21; (with_reducible refine (HT.out _).mono ?_); rintro e w1 ⟨rfl, hb1⟩; obtain ⟨hkc, hkf⟩ := bcell hb1; have hz : w.heap.size < w1.heap.size := (by have := hb1.size; simp at this; omega))
          | (go_at_call 22; (with_reducible refine (HW.out _).mono ?_); rintro e w2 ⟨rfl, rfl⟩)
          | (go_at_call 9; (with_reducible refine (HE.out _).mono ?_); rintro e w3 ⟨rfl, hb3⟩; obtain ⟨hkc3, hkf3⟩ := bcell hb3; have hz3 : w1.heap.size < w3.heap.size := (by have := hb3.size; simp at this; omega); have hz4 : w.heap.size < w3.heap.size := (by omega); have hz5 : w.heap.size < w1.heap.size + 1 := (by omega)))
        exact bodyPost_ret (v := .tuple #[.agg #[.string (Cd.bs []), .int .u64 0, .bool false, .string (Cd.bs [])], .int .i64 3]) (by simp [results, Try.results8, go_sem, hkc, hz, hkc3, hz3, hz4, hz5]) rfl ⟨HF.out.symm ▸ rfl, by repeat (first | exact Below.refl _ _ | (refine Below.trans ?_ (hb3.mono ?_)) | (refine Below.trans ?_ (hb1.mono ?_)) | apply Below.drew | (refine Below.setCell ?_ ?_ _) | (refine Below.alloc ?_ ?_ _) | exact Nat.le_refl _ | omega | (focus (simp; done)) | (focus (simp; omega)))⟩
    · rw [if_neg (fun h => hl h.2)] at hD
      have HF := Lib.hid (show decV (decKey s) = .tuple #[.agg #[.string (Cd.bs []), .int .u64 0, .bool false, .string (Cd.bs [])], .int .i64 3] by rw [hD]; rfl)
      have hli : ((s.length : Int) == (n : Int) + 8) = false := by simp; omega
      clear hD hl
      go_enter Try.func8, Try.ntmps8
      go_wp2_with (go_at_call 21; (with_reducible refine (HT.out _).mono ?_); rintro e w1 ⟨rfl, hb1⟩; obtain ⟨hkc, hkf⟩ := bcell hb1; have hz : w.heap.size < w1.heap.size := (by have := hb1.size; simp at this; omega))
      exact bodyPost_ret (v := .tuple #[.agg #[.string (Cd.bs []), .int .u64 0, .bool false, .string (Cd.bs [])], .int .i64 3]) (by simp [results, Try.results8, go_sem, hkc, hz]) rfl ⟨HF.out.symm ▸ rfl, by repeat (first | exact Below.refl _ _ | (refine Below.trans ?_ (hb1.mono ?_)) | apply Below.drew | (refine Below.setCell ?_ ?_ _) | (refine Below.alloc ?_ ?_ _) | exact Nat.le_refl _ | omega | (focus (simp; done)) | (focus (simp; omega)))⟩
  · rw [if_neg (fun h => h0 h.1)] at hD
    have HF := Lib.hid (show decV (decKey s) = .tuple #[.agg #[.string (Cd.bs []), .int .u64 0, .bool false, .string (Cd.bs [])], .int .i64 3] by rw [hD]; rfl)
    have hci : ((c : Int) == 0) = false := by simpa using h0
    clear hD h0
    go_enter Try.func8, Try.ntmps8
    go_wp2_with (go_at_call 21; (with_reducible refine (HT.out _).mono ?_); rintro e w1 ⟨rfl, hb1⟩; obtain ⟨hkc, hkf⟩ := bcell hb1; have hz : w.heap.size < w1.heap.size := (by have := hb1.size; simp at this; omega))
    exact bodyPost_ret (v := .tuple #[.agg #[.string (Cd.bs []), .int .u64 0, .bool false, .string (Cd.bs [])], .int .i64 3]) (by simp [results, Try.results8, go_sem, hkc, hz]) rfl ⟨HF.out.symm ▸ rfl, by repeat (first | exact Below.refl _ _ | (refine Below.trans ?_ (hb1.mono ?_)) | apply Below.drew | (refine Below.setCell ?_ ?_ _) | (refine Below.alloc ?_ ?_ _) | exact Nat.le_refl _ | omega | (focus (simp; done)) | (focus (simp; omega)))⟩

end Tb
end Go.Proofs.Ytiijkneomecmiaa

/-
  What the program owes of chapter 8's places, and the law TableKeys over it.
-/
namespace Go.Proofs.Ytiijkneomecmiaa
open Go.RowKit
set_option linter.unusedSimpArgs false
set_option linter.unusedVariables false
namespace Tb
open Op (bytesLess)
open Mt (Ver mayB lessB placeB VerIn verV)

def EncKeyOk : Prop := ∀ (v : Ver) (w : World), VerIn v → Calls Try.prog 6 #[verV v] w fun e w' => e = .returned (.string (Cd.bs (encKey v))) ∧ Below w.heap.size w w'

def DecKeyOk : Prop := ∀ (s : List UInt8) (w : World), s.length ≤ 1048576 → Calls Try.prog 7 #[.string (Cd.bs s)] w fun e w' => e = .returned (decV (decKey s)) ∧ Below w.heap.size w w'

set_option maxRecDepth 100000 in
set_option maxHeartbeats 4000000 in
theorem tableKeys_walk (EE : EncKeyOk) (DD : DecKeyOk) (ak : ByteArray) (aq : Int) (ad : Bool) (av : ByteArray) (bk : ByteArray) (bq : Int) (bd : Bool) (bv : ByteArray) (s : ByteArray) (w : World)
    (a1 : ak.size ≤ 1048576) (a2 : 0 ≤ aq) (a3 : aq ≤ 18446744073709551615) (a4 : av.size ≤ 1048576) (b1 : bk.size ≤ 1048576) (b2 : 0 ≤ bq) (b3 : bq ≤ 18446744073709551615) (b4 : bv.size ≤ 1048576) (s1 : s.size ≤ 1048576) :
    Calls Try.prog 3 #[.agg #[.string ak, .int .u64 aq, .bool ad, .string av], .agg #[.string bk, .int .u64 bq, .bool bd, .string bv], .string s] w fun e w' => e = .returned (.bool true) ∧ Below w.heap.size w w' := by
  obtain ⟨ak, rfl⟩ : ∃ l, ak = Cd.bs l := ⟨ak.data.toList, (Lib.mk_data ak).symm⟩
  obtain ⟨av, rfl⟩ : ∃ l, av = Cd.bs l := ⟨av.data.toList, (Lib.mk_data av).symm⟩
  obtain ⟨bk, rfl⟩ : ∃ l, bk = Cd.bs l := ⟨bk.data.toList, (Lib.mk_data bk).symm⟩
  obtain ⟨bv, rfl⟩ : ∃ l, bv = Cd.bs l := ⟨bv.data.toList, (Lib.mk_data bv).symm⟩
  obtain ⟨s, rfl⟩ : ∃ l, s = Cd.bs l := ⟨s.data.toList, (Lib.mk_data s).symm⟩
  have hA : VerIn ⟨ak, aq, ad, av⟩ := ⟨a1, a4, a2, by simp only; omega⟩
  have hB : VerIn ⟨bk, bq, bd, bv⟩ := ⟨b1, b4, b2, by simp only; omega⟩
  have E1 := Lib.hid (fun W => EE _ W hA)
  have E2 := Lib.hid (fun W => EE _ W hB)
  have E3 := Lib.hid (fun W => encKeyR_any _ W hA)
  have D1 := Lib.hid (fun W => DD s W s1)
  have D2 := Lib.hid (fun W => decKeyR_any s W s1)
  have L1 := Lib.hid (fun W => Mt.lessR_any _ _ W hA.wide hB.wide)
  have hmA : mayB ⟨ak, aq, ad, av⟩ = false → encKey ⟨ak, aq, ad, av⟩ = [] := enc_ne.2
  have hmB : mayB ⟨bk, bq, bd, bv⟩ = false → encKey ⟨bk, bq, bd, bv⟩ = [] := enc_ne.2
  have hri := @enc_rises ⟨ak, aq, ad, av⟩ ⟨bk, bq, bd, bv⟩
  have l1 := enc_len ⟨ak, aq, ad, av⟩
  have l2 := enc_len ⟨bk, bq, bd, bv⟩
  simp only at hri
  generalize lessB ⟨ak, aq, ad, av⟩ ⟨bk, bq, bd, bv⟩ = le at *
  generalize encKey ⟨ak, aq, ad, av⟩ = ea at *
  generalize encKey ⟨bk, bq, bd, bv⟩ = eb at *
  generalize decKey s = dr at *
  obtain ⟨⟨dk, dq, dd, dx⟩, dc⟩ := dr
  unfold verV decV verV at *
  simp only at E1 E2 E3 D1 D2 L1
  have hW : Below w.heap.size w ((w.alloc (.cells #[.string (Cd.bs ak), .int .u64 aq, .bool ad, .string (Cd.bs av)] 24)).alloc (.cells #[.string (Cd.bs bk), .int .u64 bq, .bool bd, .string (Cd.bs bv)] 24)) := ((Below.refl _ _).alloc (Nat.le_refl _) _).alloc (by simp) _
  have oA := (Ob.Obj.new w 24 [.string (Cd.bs ak), .int .u64 aq, .bool ad, .string (Cd.bs av)]).alloc (.cells #[.string (Cd.bs bk), .int .u64 bq, .bool bd, .string (Cd.bs bv)] 24)
  have oB := Ob.Obj.new (w.alloc (.cells #[.string (Cd.bs ak), .int .u64 aq, .bool ad, .string (Cd.bs av)] 24)) 24 [.string (Cd.bs bk), .int .u64 bq, .bool bd, .string (Cd.bs bv)]
  rw [show (w.alloc (.cells #[.string (Cd.bs ak), .int .u64 aq, .bool ad, .string (Cd.bs av)] 24)).heap.size = w.heap.size + 1 by simp] at oB
  have key : ea = [] ∨ (ea ≠ [] ∧ eb = []) ∨ (ea ≠ [] ∧ eb ≠ [] ∧ ((ak = bk ∧ aq = bq) ∨ ((ak == bk) = false ∧ bytesLess ea eb = le) ∨ ((ak = bk ∧ (aq == bq) = false) ∧ bytesLess ea eb = le))) := by
    by_cases h1 : ea = []
    · exact .inl h1
    by_cases h2 : eb = []
    · exact .inr (.inl ⟨h1, h2⟩)
    refine .inr (.inr ⟨h1, h2, ?_⟩)
    by_cases h3 : ak = bk ∧ aq = bq
    · exact .inl h3
    have hr := hri (by cases h : mayB ⟨ak, aq, ad, av⟩ with | true => rfl | false => exact absurd (hmA h) h1) (by cases h : mayB ⟨bk, bq, bd, bv⟩ with | true => rfl | false => exact absurd (hmB h) h2) h3
    by_cases h4 : ak = bk
    · exact .inr (.inr ⟨⟨h4, by simpa using fun h => h3 ⟨h4, h⟩⟩, hr⟩)
    · exact .inr (.inl ⟨by simpa using h4, hr⟩)
  clear hri hmA hmB
  have ne : ∀ {l : List UInt8}, l ≠ [] → (l == []) = false ∧ l.isEmpty = false := fun h => ⟨by simpa using h, by simpa using h⟩
  rcases key with rfl | ⟨h1, rfl⟩ | ⟨h1, h2, h3⟩
  · go_enter Try.func3, Try.ntmps3
    go_wp2_with (first
      | (go_at_call 6; (with_reducible refine (E1.out _).mono ?_); rintro e w1 ⟨rfl, hb1⟩; have HB1 := Lib.hid (hW.trans (hb1.mono hW.size)); have hs1 : w.heap.size + 2 ≤ w1.heap.size := (by have := hb1.size; simp at this; omega); have oA1 := oA.below hb1; have oB1 := oB.below hb1; have x10 := oA1.cell 0; have x11 := oA1.cell 1; have x12 := oA1.cell 2; have x13 := oA1.cell 3; simp at x10 x11 x12 x13; have y10 := oB1.cell 0; have y11 := oB1.cell 1; have y12 := oB1.cell 2; have y13 := oB1.cell 3; simp at y10 y11 y12 y13)
      | (go_at_call 6; (with_reducible refine (E2.out _).mono ?_); rintro e w2 ⟨rfl, hb2⟩; have HB2 := Lib.hid (HB1.out.trans (hb2.mono HB1.out.size)); have hs2 := hb2.size; have oA2 := oA1.below hb2; have oB2 := oB1.below hb2)
      | (go_at_call 7; (with_reducible refine (D1.out _).mono ?_); rintro e w3 ⟨rfl, hb3⟩; have HB3 := Lib.hid (HB2.out.trans (hb3.mono HB2.out.size)); have hs3 := hb3.size; have k3 : w.heap.size < w3.heap.size := (by omega); have k3' : w.heap.size + 1 < w3.heap.size := (by omega); have oA3 := oA2.below hb3; have oB3 := oB2.below hb3)
      | (go_at_call 8; (with_reducible refine (D2.out _).mono ?_); rintro e w4 ⟨rfl, hb4⟩; have HB4 := Lib.hid ((HB3.out.alloc HB3.out.size _).trans (hb4.mono (by have := HB3.out.size; simp; omega))); have oA4 := (oA3.alloc _).below hb4; have oB4 := (oB3.alloc _).below hb4; have oV4 := (Ob.Obj.new w3 24 [.string (Cd.bs dk), .int .u64 dq, .bool dd, .string (Cd.bs dx)]).below hb4; have hz4 := hb4.size; simp at hz4; have k4 : w.heap.size < w4.heap.size := (by omega); have k4' : w.heap.size + 1 < w4.heap.size := (by omega); have k4'' : w3.heap.size < w4.heap.size := (by omega); have x40 := oA4.cell 0; have x41 := oA4.cell 1; have x42 := oA4.cell 2; have x43 := oA4.cell 3; simp at x40 x41 x42 x43)
      | (go_at_call 9; (with_reducible refine (E3.out _).mono ?_); rintro e w5 ⟨rfl, hb5⟩; have HB5 := Lib.hid ((HB4.out.alloc HB4.out.size _).trans (hb5.mono (by have := HB4.out.size; simp; omega))); have oA5 := (oA4.alloc _).below hb5; have oB5 := (oB4.alloc _).below hb5; have oV5 := (oV4.alloc _).below hb5; have oX5 := (Ob.Obj.new w4 24 [.string (Cd.bs dk), .int .u64 dq, .bool dd, .string (Cd.bs dx)]).below hb5; have x50 := oA5.cell 0; have x51 := oA5.cell 1; have x52 := oA5.cell 2; have x53 := oA5.cell 3; simp at x50 x51 x52 x53; have y50 := oB5.cell 0; have y51 := oB5.cell 1; have y52 := oB5.cell 2; have y53 := oB5.cell 3; simp at y50 y51 y52 y53; have v50 := oV5.cell 0; have v51 := oV5.cell 1; have v52 := oV5.cell 2; have v53 := oV5.cell 3; simp at v50 v51 v52 v53; have u50 := oX5.cell 0; have u51 := oX5.cell 1; have u52 := oX5.cell 2; have u53 := oX5.cell 3; simp at u50 u51 u52 u53)
      | (go_at_call 10; (with_reducible refine (L1.out _).mono ?_); rintro e w6 ⟨rfl, hb6⟩; have HB6 := Lib.hid (HB5.out.trans (hb6.mono HB5.out.size))))
    go_ret
    exact ⟨rfl, HB5.out⟩
  · obtain ⟨n1, n2⟩ := ne h1
    clear h1 ne
    go_enter Try.func3, Try.ntmps3
    go_wp2_with (first
      | (go_at_call 6; (with_reducible refine (E1.out _).mono ?_); rintro e w1 ⟨rfl, hb1⟩; have HB1 := Lib.hid (hW.trans (hb1.mono hW.size)); have hs1 : w.heap.size + 2 ≤ w1.heap.size := (by have := hb1.size; simp at this; omega); have oA1 := oA.below hb1; have oB1 := oB.below hb1; have x10 := oA1.cell 0; have x11 := oA1.cell 1; have x12 := oA1.cell 2; have x13 := oA1.cell 3; simp at x10 x11 x12 x13; have y10 := oB1.cell 0; have y11 := oB1.cell 1; have y12 := oB1.cell 2; have y13 := oB1.cell 3; simp at y10 y11 y12 y13)
      | (go_at_call 6; (with_reducible refine (E2.out _).mono ?_); rintro e w2 ⟨rfl, hb2⟩; have HB2 := Lib.hid (HB1.out.trans (hb2.mono HB1.out.size)); have hs2 := hb2.size; have oA2 := oA1.below hb2; have oB2 := oB1.below hb2)
      | (go_at_call 7; (with_reducible refine (D1.out _).mono ?_); rintro e w3 ⟨rfl, hb3⟩; have HB3 := Lib.hid (HB2.out.trans (hb3.mono HB2.out.size)); have hs3 := hb3.size; have k3 : w.heap.size < w3.heap.size := (by omega); have k3' : w.heap.size + 1 < w3.heap.size := (by omega); have oA3 := oA2.below hb3; have oB3 := oB2.below hb3)
      | (go_at_call 8; (with_reducible refine (D2.out _).mono ?_); rintro e w4 ⟨rfl, hb4⟩; have HB4 := Lib.hid ((HB3.out.alloc HB3.out.size _).trans (hb4.mono (by have := HB3.out.size; simp; omega))); have oA4 := (oA3.alloc _).below hb4; have oB4 := (oB3.alloc _).below hb4; have oV4 := (Ob.Obj.new w3 24 [.string (Cd.bs dk), .int .u64 dq, .bool dd, .string (Cd.bs dx)]).below hb4; have hz4 := hb4.size; simp at hz4; have k4 : w.heap.size < w4.heap.size := (by omega); have k4' : w.heap.size + 1 < w4.heap.size := (by omega); have k4'' : w3.heap.size < w4.heap.size := (by omega); have x40 := oA4.cell 0; have x41 := oA4.cell 1; have x42 := oA4.cell 2; have x43 := oA4.cell 3; simp at x40 x41 x42 x43)
      | (go_at_call 9; (with_reducible refine (E3.out _).mono ?_); rintro e w5 ⟨rfl, hb5⟩; have HB5 := Lib.hid ((HB4.out.alloc HB4.out.size _).trans (hb5.mono (by have := HB4.out.size; simp; omega))); have oA5 := (oA4.alloc _).below hb5; have oB5 := (oB4.alloc _).below hb5; have oV5 := (oV4.alloc _).below hb5; have oX5 := (Ob.Obj.new w4 24 [.string (Cd.bs dk), .int .u64 dq, .bool dd, .string (Cd.bs dx)]).below hb5; have x50 := oA5.cell 0; have x51 := oA5.cell 1; have x52 := oA5.cell 2; have x53 := oA5.cell 3; simp at x50 x51 x52 x53; have y50 := oB5.cell 0; have y51 := oB5.cell 1; have y52 := oB5.cell 2; have y53 := oB5.cell 3; simp at y50 y51 y52 y53; have v50 := oV5.cell 0; have v51 := oV5.cell 1; have v52 := oV5.cell 2; have v53 := oV5.cell 3; simp at v50 v51 v52 v53; have u50 := oX5.cell 0; have u51 := oX5.cell 1; have u52 := oX5.cell 2; have u53 := oX5.cell 3; simp at u50 u51 u52 u53)
      | (go_at_call 10; (with_reducible refine (L1.out _).mono ?_); rintro e w6 ⟨rfl, hb6⟩; have HB6 := Lib.hid (HB5.out.trans (hb6.mono HB5.out.size))))
    go_ret
    exact ⟨rfl, HB5.out⟩
  · obtain ⟨n1, n2⟩ := ne h1
    obtain ⟨n3, n4⟩ := ne h2
    clear h1 h2 ne
    rcases h3 with ⟨rfl, rfl⟩ | ⟨n5, rfl⟩ | ⟨⟨rfl, n5⟩, rfl⟩
    · go_enter Try.func3, Try.ntmps3
      go_wp2_with (first
      | (go_at_call 6; (with_reducible refine (E1.out _).mono ?_); rintro e w1 ⟨rfl, hb1⟩; have HB1 := Lib.hid (hW.trans (hb1.mono hW.size)); have hs1 : w.heap.size + 2 ≤ w1.heap.size := (by have := hb1.size; simp at this; omega); have oA1 := oA.below hb1; have oB1 := oB.below hb1; have x10 := oA1.cell 0; have x11 := oA1.cell 1; have x12 := oA1.cell 2; have x13 := oA1.cell 3; simp at x10 x11 x12 x13; have y10 := oB1.cell 0; have y11 := oB1.cell 1; have y12 := oB1.cell 2; have y13 := oB1.cell 3; simp at y10 y11 y12 y13)
      | (go_at_call 6; (with_reducible refine (E2.out _).mono ?_); rintro e w2 ⟨rfl, hb2⟩; have HB2 := Lib.hid (HB1.out.trans (hb2.mono HB1.out.size)); have hs2 := hb2.size; have oA2 := oA1.below hb2; have oB2 := oB1.below hb2)
      | (go_at_call 7; (with_reducible refine (D1.out _).mono ?_); rintro e w3 ⟨rfl, hb3⟩; have HB3 := Lib.hid (HB2.out.trans (hb3.mono HB2.out.size)); have hs3 := hb3.size; have k3 : w.heap.size < w3.heap.size := (by omega); have k3' : w.heap.size + 1 < w3.heap.size := (by omega); have oA3 := oA2.below hb3; have oB3 := oB2.below hb3)
      | (go_at_call 8; (with_reducible refine (D2.out _).mono ?_); rintro e w4 ⟨rfl, hb4⟩; have HB4 := Lib.hid ((HB3.out.alloc HB3.out.size _).trans (hb4.mono (by have := HB3.out.size; simp; omega))); have oA4 := (oA3.alloc _).below hb4; have oB4 := (oB3.alloc _).below hb4; have oV4 := (Ob.Obj.new w3 24 [.string (Cd.bs dk), .int .u64 dq, .bool dd, .string (Cd.bs dx)]).below hb4; have hz4 := hb4.size; simp at hz4; have k4 : w.heap.size < w4.heap.size := (by omega); have k4' : w.heap.size + 1 < w4.heap.size := (by omega); have k4'' : w3.heap.size < w4.heap.size := (by omega); have x40 := oA4.cell 0; have x41 := oA4.cell 1; have x42 := oA4.cell 2; have x43 := oA4.cell 3; simp at x40 x41 x42 x43)
      | (go_at_call 9; (with_reducible refine (E3.out _).mono ?_); rintro e w5 ⟨rfl, hb5⟩; have HB5 := Lib.hid ((HB4.out.alloc HB4.out.size _).trans (hb5.mono (by have := HB4.out.size; simp; omega))); have oA5 := (oA4.alloc _).below hb5; have oB5 := (oB4.alloc _).below hb5; have oV5 := (oV4.alloc _).below hb5; have oX5 := (Ob.Obj.new w4 24 [.string (Cd.bs dk), .int .u64 dq, .bool dd, .string (Cd.bs dx)]).below hb5; have x50 := oA5.cell 0; have x51 := oA5.cell 1; have x52 := oA5.cell 2; have x53 := oA5.cell 3; simp at x50 x51 x52 x53; have y50 := oB5.cell 0; have y51 := oB5.cell 1; have y52 := oB5.cell 2; have y53 := oB5.cell 3; simp at y50 y51 y52 y53; have v50 := oV5.cell 0; have v51 := oV5.cell 1; have v52 := oV5.cell 2; have v53 := oV5.cell 3; simp at v50 v51 v52 v53; have u50 := oX5.cell 0; have u51 := oX5.cell 1; have u52 := oX5.cell 2; have u53 := oX5.cell 3; simp at u50 u51 u52 u53)
      | (go_at_call 10; (with_reducible refine (L1.out _).mono ?_); rintro e w6 ⟨rfl, hb6⟩; have HB6 := Lib.hid (HB5.out.trans (hb6.mono HB5.out.size))))
      go_ret
      exact ⟨rfl, HB5.out⟩
    · go_enter Try.func3, Try.ntmps3
      go_wp2_with (first
      | (go_at_call 6; (with_reducible refine (E1.out _).mono ?_); rintro e w1 ⟨rfl, hb1⟩; have HB1 := Lib.hid (hW.trans (hb1.mono hW.size)); have hs1 : w.heap.size + 2 ≤ w1.heap.size := (by have := hb1.size; simp at this; omega); have oA1 := oA.below hb1; have oB1 := oB.below hb1; have x10 := oA1.cell 0; have x11 := oA1.cell 1; have x12 := oA1.cell 2; have x13 := oA1.cell 3; simp at x10 x11 x12 x13; have y10 := oB1.cell 0; have y11 := oB1.cell 1; have y12 := oB1.cell 2; have y13 := oB1.cell 3; simp at y10 y11 y12 y13)
      | (go_at_call 6; (with_reducible refine (E2.out _).mono ?_); rintro e w2 ⟨rfl, hb2⟩; have HB2 := Lib.hid (HB1.out.trans (hb2.mono HB1.out.size)); have hs2 := hb2.size; have oA2 := oA1.below hb2; have oB2 := oB1.below hb2)
      | (go_at_call 7; (with_reducible refine (D1.out _).mono ?_); rintro e w3 ⟨rfl, hb3⟩; have HB3 := Lib.hid (HB2.out.trans (hb3.mono HB2.out.size)); have hs3 := hb3.size; have k3 : w.heap.size < w3.heap.size := (by omega); have k3' : w.heap.size + 1 < w3.heap.size := (by omega); have oA3 := oA2.below hb3; have oB3 := oB2.below hb3)
      | (go_at_call 8; (with_reducible refine (D2.out _).mono ?_); rintro e w4 ⟨rfl, hb4⟩; have HB4 := Lib.hid ((HB3.out.alloc HB3.out.size _).trans (hb4.mono (by have := HB3.out.size; simp; omega))); have oA4 := (oA3.alloc _).below hb4; have oB4 := (oB3.alloc _).below hb4; have oV4 := (Ob.Obj.new w3 24 [.string (Cd.bs dk), .int .u64 dq, .bool dd, .string (Cd.bs dx)]).below hb4; have hz4 := hb4.size; simp at hz4; have k4 : w.heap.size < w4.heap.size := (by omega); have k4' : w.heap.size + 1 < w4.heap.size := (by omega); have k4'' : w3.heap.size < w4.heap.size := (by omega); have x40 := oA4.cell 0; have x41 := oA4.cell 1; have x42 := oA4.cell 2; have x43 := oA4.cell 3; simp at x40 x41 x42 x43)
      | (go_at_call 9; (with_reducible refine (E3.out _).mono ?_); rintro e w5 ⟨rfl, hb5⟩; have HB5 := Lib.hid ((HB4.out.alloc HB4.out.size _).trans (hb5.mono (by have := HB4.out.size; simp; omega))); have oA5 := (oA4.alloc _).below hb5; have oB5 := (oB4.alloc _).below hb5; have oV5 := (oV4.alloc _).below hb5; have oX5 := (Ob.Obj.new w4 24 [.string (Cd.bs dk), .int .u64 dq, .bool dd, .string (Cd.bs dx)]).below hb5; have x50 := oA5.cell 0; have x51 := oA5.cell 1; have x52 := oA5.cell 2; have x53 := oA5.cell 3; simp at x50 x51 x52 x53; have y50 := oB5.cell 0; have y51 := oB5.cell 1; have y52 := oB5.cell 2; have y53 := oB5.cell 3; simp at y50 y51 y52 y53; have v50 := oV5.cell 0; have v51 := oV5.cell 1; have v52 := oV5.cell 2; have v53 := oV5.cell 3; simp at v50 v51 v52 v53; have u50 := oX5.cell 0; have u51 := oX5.cell 1; have u52 := oX5.cell 2; have u53 := oX5.cell 3; simp at u50 u51 u52 u53)
      | (go_at_call 10; (with_reducible refine (L1.out _).mono ?_); rintro e w6 ⟨rfl, hb6⟩; have HB6 := Lib.hid (HB5.out.trans (hb6.mono HB5.out.size))))
      go_ret
      exact ⟨rfl, HB6.out⟩
    · go_enter Try.func3, Try.ntmps3
      go_wp2_with (first
      | (go_at_call 6; (with_reducible refine (E1.out _).mono ?_); rintro e w1 ⟨rfl, hb1⟩; have HB1 := Lib.hid (hW.trans (hb1.mono hW.size)); have hs1 : w.heap.size + 2 ≤ w1.heap.size := (by have := hb1.size; simp at this; omega); have oA1 := oA.below hb1; have oB1 := oB.below hb1; have x10 := oA1.cell 0; have x11 := oA1.cell 1; have x12 := oA1.cell 2; have x13 := oA1.cell 3; simp at x10 x11 x12 x13; have y10 := oB1.cell 0; have y11 := oB1.cell 1; have y12 := oB1.cell 2; have y13 := oB1.cell 3; simp at y10 y11 y12 y13)
      | (go_at_call 6; (with_reducible refine (E2.out _).mono ?_); rintro e w2 ⟨rfl, hb2⟩; have HB2 := Lib.hid (HB1.out.trans (hb2.mono HB1.out.size)); have hs2 := hb2.size; have oA2 := oA1.below hb2; have oB2 := oB1.below hb2)
      | (go_at_call 7; (with_reducible refine (D1.out _).mono ?_); rintro e w3 ⟨rfl, hb3⟩; have HB3 := Lib.hid (HB2.out.trans (hb3.mono HB2.out.size)); have hs3 := hb3.size; have k3 : w.heap.size < w3.heap.size := (by omega); have k3' : w.heap.size + 1 < w3.heap.size := (by omega); have oA3 := oA2.below hb3; have oB3 := oB2.below hb3)
      | (go_at_call 8; (with_reducible refine (D2.out _).mono ?_); rintro e w4 ⟨rfl, hb4⟩; have HB4 := Lib.hid ((HB3.out.alloc HB3.out.size _).trans (hb4.mono (by have := HB3.out.size; simp; omega))); have oA4 := (oA3.alloc _).below hb4; have oB4 := (oB3.alloc _).below hb4; have oV4 := (Ob.Obj.new w3 24 [.string (Cd.bs dk), .int .u64 dq, .bool dd, .string (Cd.bs dx)]).below hb4; have hz4 := hb4.size; simp at hz4; have k4 : w.heap.size < w4.heap.size := (by omega); have k4' : w.heap.size + 1 < w4.heap.size := (by omega); have k4'' : w3.heap.size < w4.heap.size := (by omega); have x40 := oA4.cell 0; have x41 := oA4.cell 1; have x42 := oA4.cell 2; have x43 := oA4.cell 3; simp at x40 x41 x42 x43)
      | (go_at_call 9; (with_reducible refine (E3.out _).mono ?_); rintro e w5 ⟨rfl, hb5⟩; have HB5 := Lib.hid ((HB4.out.alloc HB4.out.size _).trans (hb5.mono (by have := HB4.out.size; simp; omega))); have oA5 := (oA4.alloc _).below hb5; have oB5 := (oB4.alloc _).below hb5; have oV5 := (oV4.alloc _).below hb5; have oX5 := (Ob.Obj.new w4 24 [.string (Cd.bs dk), .int .u64 dq, .bool dd, .string (Cd.bs dx)]).below hb5; have x50 := oA5.cell 0; have x51 := oA5.cell 1; have x52 := oA5.cell 2; have x53 := oA5.cell 3; simp at x50 x51 x52 x53; have y50 := oB5.cell 0; have y51 := oB5.cell 1; have y52 := oB5.cell 2; have y53 := oB5.cell 3; simp at y50 y51 y52 y53; have v50 := oV5.cell 0; have v51 := oV5.cell 1; have v52 := oV5.cell 2; have v53 := oV5.cell 3; simp at v50 v51 v52 v53; have u50 := oX5.cell 0; have u51 := oX5.cell 1; have u52 := oX5.cell 2; have u53 := oX5.cell 3; simp at u50 u51 u52 u53)
      | (go_at_call 10; (with_reducible refine (L1.out _).mono ?_); rintro e w6 ⟨rfl, hb6⟩; have HB6 := Lib.hid (HB5.out.trans (hb6.mono HB5.out.size))))
      go_ret
      exact ⟨rfl, HB6.out⟩
end Tb
end Go.Proofs.Ytiijkneomecmiaa

/-
  Plain mathematics of chapter 8 for the program's own places: which bytes are a place; turned bits.
-/
namespace Go.Proofs.Ytiijkneomecmiaa
open Go.RowKit
namespace Tb
open Op (bytesLess)
open Mt (Ver mayB lessB placeB)
theorem takeKGo_back : ∀ (n : Nat) (l acc : List UInt8) (k : Nat) (key : List UInt8) (m : Nat), l.length ≤ n → Cd.takeKGo l acc k = (key, m, 0) → ∃ p, key = acc ++ p ∧ m = k + (Cd.keyT p).length ∧ ∃ r, l = Cd.keyT p ++ r
  | _, [], acc, k, key, m, _, h => by rw [Cd.takeKGo.eq_def] at h; simp at h
  | 0, _ :: _, _, _, _, _, h, _ => by simp at h
  | n + 1, c :: r, acc, k, key, m, hn, h => by
    simp only [List.length_cons] at hn
    by_cases hc : c.toNat = 0
    · have hc0 : c = 0 := UInt8.toNat_inj.1 (by simpa using hc)
      cases r with
      | nil => rw [Cd.tk_last hc] at h; simp at h
      | cons d r' =>
        by_cases h1 : d.toNat = 1
        · rw [Cd.tk_end hc h1] at h
          have hd1 : d = 1 := UInt8.toNat_inj.1 (by simpa using h1)
          simp only [Prod.mk.injEq, and_true] at h
          obtain ⟨rfl, rfl⟩ := h
          refine ⟨[], by simp, by simp [Cd.keyT, Cd.keyGo], r', by simp [Cd.keyT, Cd.keyGo, hc0, hd1]⟩
        · by_cases h2 : d.toNat = 255
          · rw [Cd.tk_zero hc h2] at h
            have hd2 : d = 255 := UInt8.toNat_inj.1 (by simpa using h2)
            obtain ⟨p, e1, e2, q, e3⟩ := takeKGo_back n r' (acc ++ [0]) (k + 2) key m (by simp at hn; omega) h
            refine ⟨0 :: p, by rw [e1]; simp, ?_, q, ?_⟩
            · rw [e2]; unfold Cd.keyT; rw [Cd.keyGo, if_pos (by rfl)]; simp; omega
            · rw [e3]; unfold Cd.keyT; rw [Cd.keyGo, if_pos (by rfl), hc0, hd2]; simp
          · rw [Cd.tk_bad hc h1 h2] at h; simp at h
    · rw [Cd.tk_plain hc] at h
      obtain ⟨p, e1, e2, q, e3⟩ := takeKGo_back n r (acc ++ [c]) (k + 1) key m (by omega) h
      refine ⟨c :: p, by rw [e1]; simp, ?_, q, ?_⟩
      · rw [e2]; unfold Cd.keyT; rw [Cd.keyGo, if_neg hc]; simp; omega
      · rw [e3]; unfold Cd.keyT; rw [Cd.keyGo, if_neg hc]; simp
theorem takeK_back {s key : List UInt8} {m : Nat} (h : Cd.takeK s = (key, m, 0)) : m = (Cd.keyT key).length ∧ s = Cd.keyT key ++ s.drop m := by
  obtain ⟨p, e1, e2, r, e3⟩ := takeKGo_back s.length s [] 0 key m (Nat.le_refl _) h
  rw [List.nil_append] at e1
  subst e1
  rw [Nat.zero_add] at e2
  subst e2
  refine ⟨rfl, ?_⟩
  conv => rhs; rw [e3]
  rw [List.drop_left]
  exact e3
theorem big_word {l : List UInt8} (h : l.length = 8) : Cd.big (Cd.wordGo l) = l := by
  have hlt : Cd.wordGo l < 18446744073709551616 := by have := Cd.wordGo_lt l; rw [h] at this; omega
  have e := Cd.wordGo_big _ hlt
  have h1 := Cd.bl_word (Cd.big (Cd.wordGo l)) l 0 (by rw [Cd.big_len, h])
  have h2 := Cd.bl_word l (Cd.big (Cd.wordGo l)) 0 (by rw [Cd.big_len, h])
  unfold Cd.wordGo at e h1 h2
  rw [e] at h1 h2
  unfold Cd.wordGo
  have h3 := Fi.bl_total (Cd.big (l.foldl (fun n c => 256 * n + c.toNat) 0)) l
  rw [h1, h2] at h3
  simp at h3
  exact h3.symm
theorem mark_of (key : List UInt8) {w : Nat} (h : w < 18446744073709551616) : mark (verOf key w) = w := by
  unfold mark verOf
  simp only [Int.toNat_natCast, decide_eq_true_eq]
  split <;> omega
/-- which bytes are a place -/
theorem dec_may {s key : List UInt8} {n : Nat} (ht : Cd.takeK s = (key, n, 0)) (hl : s.length = n + 8) :
    decKey s = if mayB (verOf key (Cd.wordGo (s.drop n))) = true then (verOf key (Cd.wordGo (s.drop n)), 0) else (none', 3) := by
  rw [decKey_at ht, if_pos ⟨rfl, hl⟩]
  obtain ⟨h1, h2⟩ := takeK_back ht
  have h8 : (s.drop n).length = 8 := by simp; omega
  have hw : Cd.wordGo (s.drop n) < 18446744073709551616 := by have := Cd.wordGo_lt (s.drop n); rw [h8] at this; omega
  by_cases hm : mayB (verOf key (Cd.wordGo (s.drop n))) = true
  · rw [if_pos hm, if_pos]
    unfold encKey
    rw [if_pos hm, mark_of key hw, big_word h8]
    exact h2.symm
  · rw [if_neg hm, if_neg]
    intro h
    have : encKey (verOf key (Cd.wordGo (s.drop n))) = [] := by unfold encKey; rw [if_neg hm]
    rw [this] at h
    rw [← h] at hl
    simp at hl
theorem xor_63 (n : Nat) (h : n < 9223372036854775808) : n ^^^ 9223372036854775807 = 9223372036854775807 - n := by
  have h1 := congrArg BitVec.toNat (BitVec.allOnes_xor (x := BitVec.ofNat 63 n))
  rw [BitVec.toNat_xor, BitVec.toNat_not, BitVec.toNat_allOnes, BitVec.toNat_ofNat, Nat.mod_eq_of_lt (by omega)] at h1
  rw [Nat.xor_comm]
  exact h1
theorem turn_63 (N : Int) (h0 : 0 ≤ N) (h1 : N < 9223372036854775808) : bits BinOp.xor IntKind.u64 N 9223372036854775807 = 9223372036854775807 - N := by
  obtain ⟨n, rfl⟩ := Int.eq_ofNat_of_zero_le h0
  have e : (9223372036854775807 : Int) = ((9223372036854775807 : Nat) : Int) := rfl
  rw [e, u64_xor_nat n _ (by omega) (by omega), xor_63 n (by omega)]
  omega
/-- all bits turned, by way of a signed number -/
theorem turn_key (W : Nat) (h : W < 18446744073709551616) : bits BinOp.xor IntKind.u64 (IntKind.u64.wrap (Cd.keyOf W)) 9223372036854775807 = ((18446744073709551615 - W : Nat) : Int) := by
  have e0 : (9223372036854775808 : Int) = ((9223372036854775808 : Nat) : Int) := rfl
  have e : (9223372036854775807 : Int) = ((9223372036854775807 : Nat) : Int) := rfl
  have hx : W ^^^ 9223372036854775808 < 18446744073709551616 := Nat.xor_lt_two_pow (n := 64) h (by omega)
  have hk : IntKind.u64.wrap (Cd.keyOf W) = ((W ^^^ 9223372036854775808 : Nat) : Int) := by
    unfold Cd.keyOf
    rw [e0, u64_xor_nat W _ h (by omega)]
    generalize W ^^^ 9223372036854775808 = u at *
    unfold wrap64
    simp [IntKind.wrap, IntKind.signed, IntKind.bits]
    omega
  rw [hk, e, u64_xor_nat _ _ hx (by omega), Nat.xor_assoc, show (9223372036854775808 ^^^ 9223372036854775807 : Nat) = 18446744073709551615 from rfl, Nat.xor_comm, xor_all W h]
end Tb
end Go.Proofs.Ytiijkneomecmiaa

/-
  strings.IndexByte, by the shelf's contract.
-/
namespace Go.Proofs.Ytiijkneomecmiaa
open Go.Shelf Go.RowKit
def layIndex_ren : Go.Shelf.Ren := ⟨fun | 137 => 60 | 217 => 73 | 266 => 78 | n => n, fun | 9 => 9 | 5 => 5 | 3 => 3 | n => n, fun | n => n⟩
theorem layIndex : Go.Proofs.Lays.n137 Try.prog layIndex_ren := {
  mixed := by kernel_rfl
  f137 := Try.func60.trans (congrArg some (by kernel_rfl))
  f217 := Try.func73.trans (congrArg some (by kernel_rfl))
  f266 := Try.func78.trans (congrArg some (by kernel_rfl))
  t3 := Try.underlying3
  a3 := Try.isAgg3
  z3 := Try.sizeOf3
  v3 := Try.zeroValue3
  t5 := Try.underlying5
  a5 := Try.isAgg5
  z5 := Try.sizeOf5
  v5 := Try.zeroValue5
  t9 := Try.underlying9
  a9 := Try.isAgg9
  z9 := Try.sizeOf9
  v9 := Try.zeroValue9 }
/-- strings.IndexByte: where the byte stands first, or -1 -/
theorem indexByte_any (s : ByteArray) (c : Int) (w : World) :
    Calls Try.prog 60 #[.string s, .int .u8 c] w fun e w' => e = .returned (.int .i64 (Lib.indexByte s.data.toList c.toNat.toUInt8)) ∧ w' = w := Any.strings_IndexByte layIndex s c w
end Go.Proofs.Ytiijkneomecmiaa

/-
  codec.keyParts and KeyText.
-/
namespace Go.Proofs.Ytiijkneomecmiaa
open Go.RowKit Go.Shelf
set_option linter.unusedSimpArgs false
set_option linter.unusedVariables false

theorem key_none : ∀ (l : List UInt8), Lib.indexByte l 0 < 0 → Cd.keyGo l = l
  | [], _ => rfl
  | c :: r, h => by
    rw [Lib.indexByte] at h
    by_cases hc : c = 0
    · subst hc; simp at h
    · have hc' : (c == 0) = false := by simpa using hc
      rw [hc'] at h
      have hg := Lib.indexByte_ge r 0
      have hr : Lib.indexByte r 0 < 0 := by
        by_cases e : Lib.indexByte r 0 = -1
        · omega
        · have e' : (Lib.indexByte r 0 == -1) = false := by simpa using e
          rw [e'] at h; simp at h; omega
      rw [Cd.key_plain (fun e => hc (UInt8.toNat_inj.1 (by simpa using e))), key_none r hr]
theorem key_some : ∀ (l : List UInt8) (i : Nat), Lib.indexByte l 0 = i → i < l.length ∧ Cd.keyGo l = l.take (i + 1) ++ 255 :: Cd.keyGo (l.drop (i + 1))
  | [], i, h => by rw [Lib.indexByte] at h; omega
  | c :: r, i, h => by
    rw [Lib.indexByte] at h
    by_cases hc : c = 0
    · subst hc
      obtain rfl : i = 0 := by simp at h; omega
      exact ⟨by simp, by rw [Cd.key_zero rfl]; simp⟩
    · have hc' : (c == 0) = false := by simpa using hc
      rw [hc'] at h
      have hg := Lib.indexByte_ge r 0
      by_cases e : Lib.indexByte r 0 = -1
      · exfalso; rw [e] at h; simp at h; try omega
      · have e' : (Lib.indexByte r 0 == -1) = false := by simpa using e
        rw [e'] at h
        simp at h
        obtain ⟨j, hj⟩ : ∃ j : Nat, Lib.indexByte r 0 = j := ⟨(Lib.indexByte r 0).toNat, by omega⟩
        have hij : i = j + 1 := by omega
        subst hij
        have ih := key_some r j hj
        exact ⟨by simp; omega, by rw [Cd.key_plain (fun e => hc (UInt8.toNat_inj.1 (by simpa using e))), ih.2]; simp⟩

attribute [local go_sem] Oper.semAt_some

theorem conv_bytes (w : World) (xs : Array Value) (l : List UInt8) (hx : xs.toList = Cd.cs l) :
    (convert 48 9 (.slice (some ⟨w.heap.size, 0, none⟩) l.length l.length)).run Try.prog (w.alloc (.cells xs 5)) = .ok (.string (Cd.bs l)) (w.alloc (.cells xs 5)) := by
  refine run_convert_bytes_back (P := Try.prog) _ 48 9 5 ⟨w.heap.size, 0, none⟩ l.length l Try.underlying48 Try.underlying5 Try.underlying9 ?_
  exact Lib.bytes_of_row (fr := (0, 0)) (World.alloc_heap_new w (.cells xs 5)) (by rw [hx]; rw [List.take_of_length_le (by rw [Cd.cs_len]; omega)])

def strSize (v : Value) : Nat := match v with | .string x => x.size | _ => 0

set_option maxRecDepth 100000 in
set_option maxHeartbeats 2000000 in
theorem keyParts1_in (n : Nat) (hn : 1 ≤ n) (l Bs n₀ : Nat) (s : List UInt8) (hs : s.length ≤ 1048576) (J Jx : List Piece → World → Prop) (W : World) (hn₀ : n₀ ≤ W.heap.size) (hJ : AbidesFrom W.heap.size J)
    (hY : ∀ pre x W1, J pre W1 → pre.length < 2 * s.length + 2 → YieldAt Fence.wide (n - 1) Try.prog l #[.string (Cd.bs x.1)] W1 fun e W' =>
      (e = .returned (.bool true) ∧ J (pre ++ [x]) W' ∧ Below n₀ W1 W') ∨ (e = .returned (.bool false) ∧ Jx (pre ++ [x]) W'))
    (hBs : W.cell? ⟨Bs, 0, none⟩ = some (.string (Cd.bs s))) (h0 : J [] W) :
    CallsIn Fence.wide n Try.prog 59 #[.func (.yield l) #[] #[], .pointer (some ⟨Bs, 0, none⟩)] W fun e W' => (∃ v, e = .returned v) ∧
      ((∃ ys, flat ys = Cd.keyT s ∧ J ys W') ∨ (∃ pre, True ∧ Jx pre W')) := by
  refine callsIn_of_wp Try.func59 rfl trivial ?_ rfl
  simp only [Try.ntmps59, List.size_toArray, List.length_cons, List.length_nil, Nat.reduceAdd, Nat.reduceSub, Array.replicate_succ, Array.replicate_zero, List.push_toArray, List.append_toArray, List.nil_append, List.cons_append]
  gi_wp2_with fail
  gi_loopw [3] (fun r wr => ∃ (rest : List UInt8) (pre : List Piece), r = .string (Cd.bs rest) ∧ rest.length ≤ s.length ∧ pre.length + 2 * rest.length ≤ 2 * s.length ∧ flat pre ++ Cd.keyT rest = Cd.keyT s ∧ J pre wr ∧ Below n₀ W wr)
    (fun r _ => strSize r)
  case atStart => exact ⟨s, [], rfl, Nat.le_refl _, by simp, rfl, h0, Below.refl _ _⟩
  case round =>
    obtain ⟨rest, pre, rfl, hrl, hpl, hkey, hJs, hnx⟩ := hrel
    have HK := Lib.hid hkey
    clear hkey
    have hsz : (Cd.bs rest).size = rest.length := rfl
    obtain ⟨ib, hib⟩ : ∃ ib, ib = Lib.indexByte rest 0 := ⟨_, rfl⟩
    have hI : ∀ W, Calls Try.prog 60 #[.string (Cd.bs rest), .int .u8 0] W fun e w' => e = .returned (.int .i64 ib) ∧ W = w' := fun W =>
      (indexByte_any (Cd.bs rest) 0 W).mono fun e w' ⟨he, hw⟩ => ⟨by rw [he, hib]; rfl, hw.symm⟩
    have HI := Lib.hid hI
    clear hI
    by_cases hneg : ib < 0
    · have HN := Lib.hid (key_none rest (by omega))
      clear hib
      obtain ⟨fn, tmps, assign, body, hy, hR⟩ := hY pre ⟨rest, by omega⟩ wr hJs (by omega)
      have HR := Lib.hid hR
      clear hR
      gi_wp2_with (refine ⟨trivial, ?_⟩; gi_at_call 60; refine (callsIn_wide.2 (HI.out _)).mono ?_; rintro e w' ⟨rfl, rfl⟩)
      refine HR.out.mono ?_
      rintro e W3 (⟨rfl, hJ3, hk3⟩ | ⟨rfl, hJx3⟩)
      · obtain ⟨fn2, tmps2, assign2, body2, hy2, hR2⟩ := hY (pre ++ [⟨rest, by omega⟩]) ⟨[0, 1], by simp⟩ (W3.alloc (.cells #[.int .u8 0, .int .u8 1] 5)) (hJ _ _ _ none hJ3 (World.grownBy_alloc _ _ _) (by simp)) (by simp; omega)
        have HR2 := Lib.hid hR2
        clear hR2
        have hcv : (convert 48 9 (.slice (some ⟨W3.heap.size, 0, none⟩) 2 2)).run Try.prog _ = _ := conv_bytes W3 #[.int .u8 0, .int .u8 1] [0, 1] rfl
        gi_wp2
        refine HR2.out.mono ?_
        rintro e W4 (⟨rfl, hJ4, hk4⟩ | ⟨rfl, hJx4⟩)
        · gi_wp2
          go_end0
          exact ⟨⟨_, rfl⟩, .inl ⟨_, by rw [flat_snoc, flat_snoc, ← HK.out, Cd.keyT, HN.out, List.append_assoc], hJ4⟩⟩
        · gi_wp2
          go_end0
          exact ⟨⟨_, rfl⟩, .inr ⟨_, trivial, hJx4⟩⟩
      · gi_wp2
        go_end0
        exact ⟨⟨_, rfl⟩, .inr ⟨_, trivial, hJx3⟩⟩
    · obtain ⟨i, rfl⟩ : ∃ i : Nat, ib = i := ⟨ib.toNat, by omega⟩
      have hks := key_some rest i hib.symm
      have hi := hks.1
      have HS := Lib.hid hks.2
      clear hks hib
      obtain ⟨fn, tmps, assign, body, hy, hR⟩ := hY pre ⟨rest.take (i + 1), by rw [List.length_take]; omega⟩ wr hJs (by omega)
      have HR := Lib.hid hR
      clear hR
      rw [show Cd.bs (rest.take (i + 1)) = (Cd.bs rest).extract 0 (i + 1) from by rw [ByteArray.extract_mk]; simp] at hy
      gi_wp2_with (refine ⟨trivial, ?_⟩; gi_at_call 60; refine (callsIn_wide.2 (HI.out _)).mono ?_; rintro e w' ⟨rfl, rfl⟩)
      refine HR.out.mono ?_
      rintro e W3 (⟨rfl, hJ3, hk3⟩ | ⟨rfl, hJx3⟩)
      · obtain ⟨fn2, tmps2, assign2, body2, hy2, hR2⟩ := hY (pre ++ [⟨rest.take (i + 1), by rw [List.length_take]; omega⟩]) ⟨[255], by simp⟩ (W3.alloc (.cells #[.int .u8 255] 5)) (hJ _ _ _ none hJ3 (World.grownBy_alloc _ _ _) (by simp)) (by simp; omega)
        have HR2 := Lib.hid hR2
        clear hR2
        have hcv : (convert 48 9 (.slice (some ⟨W3.heap.size, 0, none⟩) 1 1)).run Try.prog _ = _ := conv_bytes W3 #[.int .u8 255] [255] rfl
        gi_wp2
        refine HR2.out.mono ?_
        rintro e W4 (⟨rfl, hJ4, hk4⟩ | ⟨rfl, hJx4⟩)
        · gi_wp2
          have hsz3 : n₀ ≤ W3.heap.size := Nat.le_trans hn₀ (Nat.le_trans hnx.size hk3.size)
          have hlen : (rest.take (i + 1)).length = i + 1 := by rw [List.length_take]; omega
          have hex : (Cd.bs rest).extract (i + 1) rest.length = Cd.bs (rest.drop (i + 1)) := by
            rw [ByteArray.extract_mk, List.take_of_length_le (by simp)]
          rw [hex]
          go_roundw
          case rel => exact ⟨rest.drop (i + 1), _, rfl, by rw [List.length_drop]; omega, by simp; omega, by
            rw [flat_snoc, flat_snoc, ← HK.out, Cd.keyT, Cd.keyT, HS.out]; simp, hJ4, hnx.trans (hk3.trans (((Below.refl _ W3).alloc hsz3 _).trans hk4))⟩
          case measure => show (rest.drop (i + 1)).length < rest.length; rw [List.length_drop]; omega
        · gi_wp2
          refine bodyPost_ret (results_none rfl _ _ _) rfl ?_
          exact ⟨⟨_, rfl⟩, .inr ⟨_, trivial, hJx4⟩⟩
      · gi_wp2
        refine ⟨fun _ h => (by cases h), ?_⟩
        gi_wp2
        refine bodyPost_ret (results_none rfl _ _ _) rfl ?_
        exact ⟨⟨_, rfl⟩, .inr ⟨_, trivial, hJx3⟩⟩
end Go.Proofs.Ytiijkneomecmiaa

/-
  codec.KeyText; then the law CodecPuts.
-/
namespace Go.Proofs.Ytiijkneomecmiaa
open Go.RowKit Go.Shelf
set_option linter.unusedSimpArgs false
set_option linter.unusedVariables false

set_option maxHeartbeats 1000000 in
theorem keyParts_any (s : ByteArray) (w : World) :
    Calls Try.prog 44 #[.string s] w fun e w' => e = .returned (.func (.func 59) #[] #[.pointer (some ⟨w.heap.size, 0, none⟩)]) ∧ w' = w.alloc (.cells #[.string s] 9) := by
  go_enter Try.func44, Try.ntmps44
  go_wp2
  go_ret
  exact ⟨rfl, rfl⟩

theorem key_join (w : World) (s : List UInt8) (hs : s.length ≤ 1048576) :
    Calls Try.prog 43 #[.func (.func 59) #[] #[.pointer (some ⟨w.heap.size, 0, none⟩)]] (w.alloc (.cells #[.string (Cd.bs s)] 9)) fun e w' =>
      e = .returned (.string (Cd.bs (Cd.keyT s))) ∧ Below w.heap.size w w' := by
  have hst : SeqStopsK Fence.wide 2 Try.prog 59 #[.pointer (some ⟨w.heap.size, 0, none⟩)] (fun x : Piece => #[Value.string (Cd.bs x.1)]) (Below (w.heap.size + 1)) (fun ys => flat ys = Cd.keyT s) (fun _ => True) (2 * s.length + 2) (w.alloc (.cells #[.string (Cd.bs s)] 9)) :=
    fun l J Jx W hW hJ _ hY h0 =>
      keyParts1_in 2 (by omega) l w.heap.size (w.heap.size + 1) s hs J Jx W (by have := hW.size; simpa using this) hJ hY
        ((hW.cell (p := ⟨w.heap.size, 0, none⟩) (by simp)).trans (by go_simp)) h0
  have h := join_in Fence.wide 3 trivial rfl (by omega) 59 trivial (enters_of Try.func59 (by kernel_rfl) rfl) #[.pointer (some ⟨w.heap.size, 0, none⟩)]
    (2 * s.length + 2) (by omega) (w.alloc (.cells #[.string (Cd.bs s)] 9)) (by simpa using hst)
  refine (callsIn_wide.1 h).mono ?_
  rintro e w' ⟨ys, hy, he, hb⟩
  rw [hy] at he
  exact ⟨he, ((Below.refl w.heap.size w).alloc (Nat.le_refl _) _).trans (hb.mono (by simp))⟩

set_option maxHeartbeats 1000000 in
theorem keyTc_any (s : ByteArray) (w : World) (hs : s.size ≤ 1048576) :
    Calls Try.prog 17 #[.string s] w fun e w' => e = .returned (.string (Cd.bs (Cd.keyT s.data.toList))) ∧ Below w.heap.size w w' := by
  obtain ⟨l, rfl⟩ : ∃ l, s = Cd.bs l := ⟨s.data.toList, (Lib.mk_data s).symm⟩
  go_enter Try.func17, Try.ntmps17
  go_wp2_with (first
    | (go_at_call 44; refine (keyParts_any _ _).mono ?_; rintro e w' ⟨rfl, rfl⟩)
    | (go_at_call 43; refine (key_join w l hs).mono ?_; rintro e w3 ⟨rfl, hb3⟩))
  go_ret
  exact ⟨rfl, hb3⟩

end Go.Proofs.Ytiijkneomecmiaa
/-
  The program's places of versions as bytes (table.mayBe, EncodeKey, DecodeKey, shared).
-/
namespace Go.Proofs.Ytiijkneomecmiaa
open Go.RowKit
set_option linter.unusedSimpArgs false
set_option linter.unusedVariables false
namespace Tb
open Mt (Ver mayB lessB placeB VerIn verV)

set_option maxRecDepth 100000 in
set_option maxHeartbeats 4000000 in
theorem mayBe_any (v : Ver) (w : World) (hv : VerIn v) :
    Calls Try.prog 16 #[verV v] w fun e w' => e = .returned (.bool (mayB v)) ∧ Below w.heap.size w w' := by
  obtain ⟨k, q, d, x⟩ := v
  obtain ⟨h1, h2, h3, h4⟩ := hv
  simp only at h1 h2 h3 h4
  unfold verV mayB
  simp only
  have hsk : (Cd.bs k).size = k.length := rfl
  have hsv : (Cd.bs x).size = x.length := rfl
  have hvl : (Cd.bs x).toList = x := by rw [ByteArray.toList_mk]
  have hk1 : k.isEmpty = decide (k.length = 0) := by cases k <;> simp
  have hk2 : (q != 0) = decide (1 ≤ q) := by rw [Bool.eq_iff_iff]; simp; omega
  have hk3 : decide (x = []) = decide (x.length = 0) := by cases x <;> simp
  replace hk1 := Lib.hid hk1
  replace hk2 := Lib.hid hk2
  replace hk3 := Lib.hid hk3
  cases d
  all_goals
    go_enter Try.func16, Try.ntmps16
    go_wp2_with fail
    all_goals go_ret
    all_goals refine ⟨congrArg (fun b => Ending.returned (.bool b)) ?_, (Below.refl _ _).alloc (Nat.le_refl _) _⟩
    all_goals (first | (simp_all; done) | (rw [hk1.out, hk2.out, hk3.out, Bool.eq_iff_iff]; simp only [Bool.and_eq_true, Bool.or_eq_true, decide_eq_true_eq, Bool.not_eq_true', decide_eq_false_iff_not, Bool.not_false, Bool.not_true, Bool.false_eq_true, true_or, false_or, and_true]; omega) | (cases k <;> cases x <;> simp_all <;> omega) | (simp_all; intros; omega))

theorem keyTc_at (k : List UInt8) (w : World) (h : k.length ≤ 1048576) :
    Calls Try.prog 17 #[.string (Cd.bs k)] w fun e w' => e = .returned (.string (Cd.bs (Cd.keyT k))) ∧ Below w.heap.size w w' :=
  keyTc_any (Cd.bs k) w h
theorem keyIc_at (M : Int) (n : Nat) (h : M = (n : Int) - 9223372036854775808) (h0 : -9223372036854775808 ≤ M ∧ M ≤ 9223372036854775807) (w : World) :
    Calls Try.prog 18 #[.int .i64 M] w fun e w' => e = .returned (.string (Cd.bs (Cd.big n))) ∧ Below w.heap.size w w' := by
  have := keyIc_any M w h0.1 h0.2
  rwa [show Cd.turn M = n by unfold Cd.turn; omega] at this

set_option maxRecDepth 100000 in
set_option maxHeartbeats 4000000 in
theorem encKeyOk : EncKeyOk := by
  intro v w hv
  have HM := Lib.hid (fun W => mayBe_any v W hv)
  have hk := Lib.hid (fun W => keyTc_at v.key W hv.1)
  have hkl := Cd.keyGo_len v.key
  have hkl2 := hv.1
  have HE := Lib.hid (show encKey v = if mayB v = true then Cd.keyT v.key ++ Cd.big (mark v) else [] from rfl)
  have htl : (Cd.keyT v.key).length ≤ 3000000 := by unfold Cd.keyT; simp; omega
  have HA := Lib.hid (show Cd.bs (Cd.keyT v.key) ++ Cd.bs (Cd.big (mark v)) = Cd.bs (Cd.keyT v.key ++ Cd.big (mark v)) from ByteArray.mk_append_mk _ _)
  have hbl : (Cd.big (mark v)).length = 8 := Cd.big_len _
  have hmk : mayB v = true → 1 ≤ v.seq ∧ v.seq ≤ 1125899906842624 := fun h => ⟨(may_seq h).1, (may_seq h).2.1⟩
  have HB := Lib.hid (fun (M : Int) (h : M = (mark v : Int) - 9223372036854775808) (h0 : -9223372036854775808 ≤ M ∧ M ≤ 9223372036854775807) (W : World) => keyIc_at M (mark v) h h0 W)
  have HMK := Lib.hid (show mark v = 18446744073709551615 - (2 * v.seq.toNat + if v.del then 1 else 0) from rfl)
  generalize mark v = m at *
  generalize Cd.big m = bg at *
  generalize Cd.keyT v.key = kt at *
  generalize encKey v = r at *
  obtain ⟨k, q, d, x⟩ := v
  obtain ⟨h1, h2, h3, h4⟩ := hv
  simp only at *
  unfold verV at *
  simp only at *
  have oA := Ob.Obj.new w 24 [.string (Cd.bs k), .int .u64 q, .bool d, .string (Cd.bs x)]
  have hA : Below w.heap.size w (w.alloc (.cells #[.string (Cd.bs k), .int .u64 q, .bool d, .string (Cd.bs x)] 24)) := (Below.refl _ _).alloc (Nat.le_refl _) _
  cases hb : mayB ⟨k, q, d, x⟩ with
  | false =>
    rw [hb] at HM HE
    have hr := HE.out
    simp at hr
    subst hr
    go_enter Try.func6, Try.ntmps6
    go_wp2_with (go_at_call 16; (with_reducible refine (HM.out _).mono ?_); rintro e w1 ⟨rfl, hb1⟩; have hB1 := hA.trans (hb1.mono hA.size))
    go_ret
    exact ⟨rfl, hB1⟩
  | true =>
    rw [hb] at HM HE
    obtain ⟨q1, q2⟩ := hmk hb
    have hr := HE.out
    rw [if_pos rfl] at hr
    subst hr
    have HR := Lib.hid (show (Value.string (Cd.bs kt ++ Cd.bs bg)) = .string (Cd.bs (kt ++ bg)) by rw [HA.out])
    clear HA hmk HE hb
    cases d
    · have hm := HMK.out
      simp at hm
      obtain ⟨M, hM⟩ : ∃ M : Int, M = 9223372036854775807 - 2 * q := ⟨_, rfl⟩
      have hm2 : bits BinOp.xor IntKind.u64 (2 * q) 9223372036854775807 = M := by rw [turn_63 _ (by omega) (by omega)]; omega
      have HB2 := Lib.hid (HB.out M (by omega) ⟨by omega, by omega⟩)
      have hM1 : 0 ≤ M ∧ M ≤ 9223372036854775807 := by omega
      clear HMK hm HB hM
      go_enter Try.func6, Try.ntmps6
      go_wp2_with (first
        | (go_at_call 16; (with_reducible refine (HM.out _).mono ?_); rintro e w1 ⟨rfl, hb1⟩; have hB1 := hA.trans (hb1.mono hA.size); have o1 := oA.below hb1; have c0 := o1.cell 0; have c1 := o1.cell 1; have c2 := o1.cell 2; simp at c0 c1 c2)
        | (go_at_call 17; (with_reducible refine (hk.out _).mono ?_); rintro e w2 ⟨rfl, hb2⟩; have hB2 := hB1.trans (hb2.mono hB1.size))
        | (go_at_call 18; (with_reducible refine (HB2.out _).mono ?_); rintro e w3 ⟨rfl, hb3⟩; have hB3 := hB2.trans (hb3.mono hB2.size)))
      go_ret
      exact ⟨by rw [← HR.out]; rfl, hB3⟩
    · have hm := HMK.out
      simp at hm
      obtain ⟨M, hM⟩ : ∃ M : Int, M = 9223372036854775807 - (2 * q + 1) := ⟨_, rfl⟩
      have hm2 : bits BinOp.xor IntKind.u64 (2 * q + 1) 9223372036854775807 = M := by rw [turn_63 _ (by omega) (by omega)]; omega
      have HB2 := Lib.hid (HB.out M (by omega) ⟨by omega, by omega⟩)
      have hM1 : 0 ≤ M ∧ M ≤ 9223372036854775807 := by omega
      clear HMK hm HB hM
      go_enter Try.func6, Try.ntmps6
      go_wp2_with (first
        | (go_at_call 16; (with_reducible refine (HM.out _).mono ?_); rintro e w1 ⟨rfl, hb1⟩; have hB1 := hA.trans (hb1.mono hA.size); have o1 := oA.below hb1; have c0 := o1.cell 0; have c1 := o1.cell 1; have c2 := o1.cell 2; simp at c0 c1 c2)
        | (go_at_call 17; (with_reducible refine (hk.out _).mono ?_); rintro e w2 ⟨rfl, hb2⟩; have hB2 := hB1.trans (hb2.mono hB1.size))
        | (go_at_call 18; (with_reducible refine (HB2.out _).mono ?_); rintro e w3 ⟨rfl, hb3⟩; have hB3 := hB2.trans (hb3.mono hB2.size)))
      go_ret
      exact ⟨by rw [← HR.out]; rfl, hB3⟩

theorem takeKI8 (l : List UInt8) (h : l.length = 8) (W : World) :
    Calls Try.prog 20 #[.string (Cd.bs l)] W fun e w' => e = .returned (.tuple #[.int .i64 (Cd.keyOf (Cd.wordGo l)), .int .i64 8, .int .i64 0]) ∧ W = w' := by
  have := takeKIc_any (Cd.bs l) W (by show l.length ≤ _; unfold maxLen; omega)
  rwa [show Cd.takeKI (Cd.bs l).data.toList = (Cd.keyOf (Cd.wordGo l), 8, 0) by
    show Cd.takeKI l = _
    rw [Cd.takeKI_eight (by omega), List.take_of_length_le (by omega)]] at this

set_option maxRecDepth 100000 in
set_option maxHeartbeats 4000000 in
theorem decKeyOk : DecKeyOk := by
  intro s w hs
  have hT := fun W => takeKc_any (Cd.bs s) W (by show s.length ≤ _; omega)
  obtain ⟨o1, o2⟩ := takeK_ok s
  change ∀ W, Calls _ _ _ W fun e w' => e = .returned (.tuple #[.string (Cd.bs (Cd.takeK s).1), .int .i64 (Cd.takeK s).2.1, .int .i64 (Cd.takeK s).2.2]) ∧ Below W.heap.size W w' at hT
  obtain ⟨key, n, c, ht⟩ : ∃ key n c, Cd.takeK s = (key, n, c) := ⟨_, _, _, rfl⟩
  have hD := decKey_at ht
  rw [ht] at hT o1 o2
  simp only at hT o1 o2
  have hsz : (Cd.bs s).size = s.length := rfl
  have HT := Lib.hid hT
  clear hT
  by_cases h0 : c = 0
  · subst h0
    by_cases hl : s.length = n + 8
    · rw [dec_may ht hl] at hD
      have hD := dec_may ht hl
      have hw8 : (s.drop n).length = 8 := by simp; omega
      have HX : (Cd.bs s).extract n (n + 8) = Cd.bs (s.drop n) := by rw [← hl]; exact drop_str s n
      have HW := Lib.hid (fun W => takeKI8 (s.drop n) hw8 W)
      rw [← HX] at HW
      clear HX ht
      have hwl : Cd.wordGo (s.drop n) < 18446744073709551616 := by have := Cd.wordGo_lt (s.drop n); rw [hw8] at this; omega
      have hin := verOf_in key (Cd.wordGo (s.drop n)) (by omega) hwl
      have HE := Lib.hid (fun W => mayBe_any _ W hin)
      have HV := Lib.hid (show verV (verOf key (Cd.wordGo (s.drop n))) = .agg #[.string (Cd.bs key), .int .u64 (((18446744073709551615 - Cd.wordGo (s.drop n)) / 2 : Nat) : Int), .bool (decide ((18446744073709551615 - Cd.wordGo (s.drop n)) % 2 = 1)), .string (Cd.bs [])] from rfl)
      have hturn := turn_key _ hwl
      generalize verOf key (Cd.wordGo (s.drop n)) = vv at *
      generalize Cd.wordGo (s.drop n) = W8 at *
      obtain ⟨m, hm⟩ : ∃ m : Nat, m = 18446744073709551615 - W8 := ⟨_, rfl⟩
      have hmb : (m : Int) < 18446744073709551616 := by omega
      rw [← hm] at HV hturn
      have hme : (((m / 2 : Nat)) : Int) = (m : Int) / 2 := by omega
      have hmd : decide (m % 2 = 1) = ((m : Int) % 2 == 1) := by rw [Bool.eq_iff_iff]; simp; omega
      rw [hme, hmd] at HV
      clear hm hme hmd
      generalize Cd.keyOf W8 = T at *
      obtain ⟨U, hU⟩ : ∃ U : Int, IntKind.u64.wrap T = U := ⟨_, rfl⟩
      rw [hU] at hturn
      cases hmy : mayB vv with
      | true =>
        rw [hmy, if_pos rfl] at hD
        have HF := Lib.hid (show decV (decKey s) = .tuple #[verV vv, .int .i64 0] by rw [hD]; rfl)
        rw [hmy] at HE
        rw [HV.out] at HE HF
        clear hD HV hmy
        go_enter Try.func7, Try.ntmps7
        go_wp2_with (first
          | (go_at_call 19; (with_reducible refine (HT.out _).mono ?_); rintro e w1 ⟨rfl, hb1⟩; obtain ⟨hkc, hkf⟩ := bcell hb1; have hz : w.heap.size < w1.heap.size := (by have := hb1.size; simp at this; omega))
          | (go_at_call 20; (with_reducible refine (HW.out _).mono ?_); rintro e w2 ⟨rfl, rfl⟩)
          | (go_at_call 16; (with_reducible refine (HE.out _).mono ?_); rintro e w3 ⟨rfl, hb3⟩; obtain ⟨hkc3, hkf3⟩ := bcell hb3; have hz3 : w1.heap.size < w3.heap.size := (by have := hb3.size; simp at this; omega); have hz4 : w.heap.size < w3.heap.size := (by omega); have hz5 : w.heap.size < w1.heap.size + 1 := (by omega)))
        exact bodyPost_ret (v := .tuple #[.agg #[.string (Cd.bs key), .int .u64 ((m : Int) / 2), .bool ((m : Int) % 2 == 1), .string (Cd.bs [])], .int .i64 0]) (by simp [results, Try.results7, go_sem, hkc, hz, hkc3, hz3, hz4, hz5]) rfl ⟨HF.out.symm ▸ rfl, by repeat (first | exact Below.refl _ _ | (refine Below.trans ?_ (hb3.mono ?_)) | (refine Below.trans ?_ (hb1.mono ?_)) | apply Below.drew | (refine Below.setCell ?_ ?_ _) | (refine Below.alloc ?_ ?_ _) | exact Nat.le_refl _ | omega | (focus (simp; done)) | (focus (simp; omega)))⟩
      | false =>
        rw [hmy, if_neg (by simp)] at hD
        have HF := Lib.hid (show decV (decKey s) = .tuple #[.agg #[.string (Cd.bs []), .int .u64 0, .bool false, .string (Cd.bs [])], .int .i64 3] by rw [hD]; rfl)
        rw [hmy] at HE
        rw [HV.out] at HE
        clear hD HV hmy
        go_enter Try.func7, Try.ntmps7
        go_wp2_with (first
          | (go_at_call 19; (with_reducible refine (HT.out _).mono ?_); rintro e w1 ⟨rfl, hb1⟩; obtain ⟨hkc, hkf⟩ := bcell hb1; have hz : w.heap.size < w1.heap.size := (by have := hb1.size; simp at this; omega))
          | (go_at_call 20; (with_reducible refine (HW.out _).mono ?_); rintro e w2 ⟨rfl, rfl⟩)
          | (go_at_call 16; (with_reducible refine (HE.out _).mono ?_); rintro e w3 ⟨rfl, hb3⟩; obtain ⟨hkc3, hkf3⟩ := bcell hb3; have hz3 : w1.heap.size < w3.heap.size := (by have := hb3.size; simp at this; omega); have hz4 : w.heap.size < w3.heap.size := (by omega); have hz5 : w.heap.size < w1.heap.size + 1 := (by omega)))
        exact bodyPost_ret (v := .tuple #[.agg #[.string (Cd.bs []), .int .u64 0, .bool false, .string (Cd.bs [])], .int .i64 3]) (by simp [results, Try.results7, go_sem, hkc, hz, hkc3, hz3, hz4, hz5]) rfl ⟨HF.out.symm ▸ rfl, by repeat (first | exact Below.refl _ _ | (refine Below.trans ?_ (hb3.mono ?_)) | (refine Below.trans ?_ (hb1.mono ?_)) | apply Below.drew | (refine Below.setCell ?_ ?_ _) | (refine Below.alloc ?_ ?_ _) | exact Nat.le_refl _ | omega | (focus (simp; done)) | (focus (simp; omega)))⟩
    · rw [if_neg (fun h => hl h.2)] at hD
      have HF := Lib.hid (show decV (decKey s) = .tuple #[.agg #[.string (Cd.bs []), .int .u64 0, .bool false, .string (Cd.bs [])], .int .i64 3] by rw [hD]; rfl)
      have hli : ((s.length : Int) == (n : Int) + 8) = false := by simp; omega
      clear hD hl ht
      go_enter Try.func7, Try.ntmps7
      go_wp2_with (go_at_call 19; (with_reducible refine (HT.out _).mono ?_); rintro e w1 ⟨rfl, hb1⟩; obtain ⟨hkc, hkf⟩ := bcell hb1; have hz : w.heap.size < w1.heap.size := (by have := hb1.size; simp at this; omega))
      exact bodyPost_ret (v := .tuple #[.agg #[.string (Cd.bs []), .int .u64 0, .bool false, .string (Cd.bs [])], .int .i64 3]) (by simp [results, Try.results7, go_sem, hkc, hz]) rfl ⟨HF.out.symm ▸ rfl, by repeat (first | exact Below.refl _ _ | (refine Below.trans ?_ (hb1.mono ?_)) | apply Below.drew | (refine Below.setCell ?_ ?_ _) | (refine Below.alloc ?_ ?_ _) | exact Nat.le_refl _ | omega | (focus (simp; done)) | (focus (simp; omega)))⟩
  · rw [if_neg (fun h => h0 h.1)] at hD
    have HF := Lib.hid (show decV (decKey s) = .tuple #[.agg #[.string (Cd.bs []), .int .u64 0, .bool false, .string (Cd.bs [])], .int .i64 3] by rw [hD]; rfl)
    have hci : ((c : Int) == 0) = false := by simpa using h0
    clear hD h0 ht
    go_enter Try.func7, Try.ntmps7
    go_wp2_with (go_at_call 19; (with_reducible refine (HT.out _).mono ?_); rintro e w1 ⟨rfl, hb1⟩; obtain ⟨hkc, hkf⟩ := bcell hb1; have hz : w.heap.size < w1.heap.size := (by have := hb1.size; simp at this; omega))
    exact bodyPost_ret (v := .tuple #[.agg #[.string (Cd.bs []), .int .u64 0, .bool false, .string (Cd.bs [])], .int .i64 3]) (by simp [results, Try.results7, go_sem, hkc, hz]) rfl ⟨HF.out.symm ▸ rfl, by repeat (first | exact Below.refl _ _ | (refine Below.trans ?_ (hb1.mono ?_)) | apply Below.drew | (refine Below.setCell ?_ ?_ _) | (refine Below.alloc ?_ ?_ _) | exact Nat.le_refl _ | omega | (focus (simp; done)) | (focus (simp; omega)))⟩

/-- what a place is told behind, as the program asks for it -/
theorem shared_any (N : Int) (n : Nat) (hN : N = n) (hn : n ≤ 1048576) (place ahead : List UInt8) (w : World) (h1 : place.length ≤ 1048576) (h2 : ahead.length ≤ 1048576) :
    Calls Try.prog 46 #[.int .i64 N, .string (Cd.bs place), .string (Cd.bs ahead)] w fun e w' => e = .returned (.int .i64 (if n % 16 = 0 then 0 else Cd.common place ahead : Nat)) ∧ Below w.heap.size w w' := by
  subst hN
  have HC := Lib.hid (fun W => commonc_any (Cd.bs place) (Cd.bs ahead) W (by show place.length ≤ _; unfold maxLen; omega) (by show ahead.length ≤ _; unfold maxLen; omega))
  have hm16 : ((n : Int) % 16 == 0) = decide (n % 16 = 0) := by rw [Bool.eq_iff_iff]; simp; omega
  by_cases h : n % 16 = 0
  · rw [if_pos h]
    have hb : ((n : Int) % 16 == 0) = true := by rw [hm16]; simpa using h
    clear hm16 h
    go_enter Try.func46, Try.ntmps46
    go_wp2_with fail
    go_ret
    exact ⟨rfl, Below.refl _ _⟩
  · rw [if_neg h]
    have hb : ((n : Int) % 16 == 0) = false := by rw [hm16]; simpa using h
    clear hm16 h
    go_enter Try.func46, Try.ntmps46
    go_wp2_with (go_at_call 61; (with_reducible refine (HC.out _).mono ?_); rintro e w1 ⟨rfl, hb1⟩)
    go_ret
    exact ⟨rfl, hb1⟩
end Tb
end Go.Proofs.Ytiijkneomecmiaa

/-
  Rows of versions (four cells each): where they lie, what keeps them, a part of them; lists of versions that came in, opened.
-/
namespace Go.Proofs.Ytiijkneomecmiaa
open Go.RowKit
set_option linter.unusedVariables false
namespace Vs
open Gn
open Mt (Ver VerIn verV)
abbrev verT : Gn.Ty := .struct (.cons .str (.cons (.int .u64) (.cons .bool (.cons .str .nil))))
abbrev VD : Type := List UInt8 × Int × Bool × List UInt8 × Unit
def toV (x : VD) : Ver := ⟨x.1, x.2.1, x.2.2.1, x.2.2.2.1⟩
/-- the four cells of a version -/
def At (W : World) (b o : Nat) (x : Ver) : Prop :=
  W.cell? ⟨b, o, none⟩ = some (.string (Cd.bs x.key)) ∧ W.cell? ⟨b, o + 1, none⟩ = some (.int .u64 x.seq) ∧ W.cell? ⟨b, o + 2, none⟩ = some (.bool x.del) ∧ W.cell? ⟨b, o + 3, none⟩ = some (.string (Cd.bs x.val))
theorem At.below {B : Nat} {W W' : World} {b o : Nat} {x : Ver} (h : At W b o x) (hb : Below B W W') (hl : b < B) : At W' b o x := by
  obtain ⟨h1, h2, h3, h4⟩ := h
  exact ⟨(hb.cell (p := ⟨b, o, none⟩) hl).trans h1, (hb.cell (p := ⟨b, o + 1, none⟩) hl).trans h2, (hb.cell (p := ⟨b, o + 2, none⟩) hl).trans h3, (hb.cell (p := ⟨b, o + 3, none⟩) hl).trans h4⟩
/-- versions in a row, in blocks below B -/
def Vers (B : Nat) (W : World) (v : Value) (L : List Ver) : Prop :=
  ∃ (a : Option Addr) (cap b off : Nat), v = .slice a L.length cap ∧ (0 < L.length → a = some ⟨b, off, none⟩ ∧ b < B) ∧ ∀ j (h : j < L.length), At W b (off + j * 4) L[j]
theorem Vers.below {B : Nat} {W W' : World} {v : Value} {L : List Ver} (h : Vers B W v L) (hb : Below B W W') : Vers B W' v L := by
  obtain ⟨a, cap, b, off, h1, h2, h3⟩ := h
  exact ⟨a, cap, b, off, h1, h2, fun j hj => (h3 j hj).below hb (h2 (by omega)).2⟩
theorem Vers.grow {B B' : Nat} {W W' : World} {v : Value} {L : List Ver} (h : Vers B W v L) (hb : Below B W W') (hB : B ≤ B') : Vers B' W' v L := by
  obtain ⟨a, cap, b, off, h1, h2, h3⟩ := h.below hb
  exact ⟨a, cap, b, off, h1, fun h => ⟨(h2 h).1, Nat.lt_of_lt_of_le (h2 h).2 hB⟩, h3⟩
theorem rd_ver {B : Nat} {W : World} {cs : List Value} {x : VD} (h : RdC B W verT cs x) : cs = [.string (Cd.bs (toV x).key), .int .u64 (toV x).seq, .bool (toV x).del, .string (Cd.bs (toV x).val)] ∧ (0 ≤ (toV x).seq ∧ (toV x).seq < 18446744073709551616) := by
  obtain ⟨c1, d1, rfl, _, ⟨rfl, w1⟩, c2, d2, rfl, _, ⟨rfl, w2⟩, c3, d3, rfl, _, rfl, c4, d4, rfl, _, ⟨rfl, w4⟩, rfl⟩ := h
  refine ⟨rfl, ?_⟩
  have w2' : (Lit.int .u64 x.2.1).wf = true := w2
  simp [Lit.wf, IntKind.min, IntKind.max, IntKind.signed, IntKind.bits] at w2'
  exact ⟨w2'.1, by show x.2.1 < _; omega⟩
def vbulk (x : VD) : Nat := x.1.length + 1 + (1 + (1 + (x.2.2.2.1.length + 1 + 0))) + 1
/-- how much a version is -/
def nv (x : Ver) : Nat := x.key.length + x.val.length + 1
/-- versions that came in -/
structure VersIn (W : World) (v : Value) (L : List Ver) : Prop where
  vers : Vers W.heap.size W v L
  each : ∀ x ∈ L, VerIn x
  many : L.length ≤ 1048576
  sum : (L.map nv).sum ≤ 1048576
theorem vers_of_rd {B : Nat} {W : World} {cs : List Value} {X : List VD} (h : RdC B W (.slice verT) cs X) : ∃ v, cs = [v] ∧ Vers B W v (X.map toV) ∧ ∀ x ∈ X, 0 ≤ (toV x).seq ∧ (toV x).seq < 18446744073709551616 := by
  obtain ⟨a, cap, b, off, h1, _, _, h2, h3⟩ := h
  refine ⟨_, h1, ⟨a, cap, b, off, by rw [List.length_map]; rfl, fun h => h2 (by rwa [List.length_map] at h), fun j hj => ?_⟩, fun x hx => ?_⟩
  · rw [List.length_map] at hj
    obtain ⟨cs', g1, g2, g3⟩ := h3 j hj
    obtain ⟨rfl, _⟩ := rd_ver g3
    rw [List.getElem_map]
    exact ⟨g2 0 (by decide), g2 1 (by decide), g2 2 (by decide), g2 3 (by decide)⟩
  · obtain ⟨j, hj, rfl⟩ := List.getElem_of_mem hx
    obtain ⟨cs', g1, g2, g3⟩ := h3 j hj
    exact (rd_ver g3).2
theorem vers_in {X : List VD} {b : Nat} (h : (X.map vbulk).sum + 1 ≤ b) (hb : b ≤ 1048576) (hs : ∀ x ∈ X, 0 ≤ (toV x).seq ∧ (toV x).seq < 18446744073709551616) :
    (∀ x ∈ X.map toV, VerIn x) ∧ (X.map toV).length ≤ 1048576 ∧ ((X.map toV).map nv).sum ≤ 1048576 := by
  have key : ∀ (X : List VD), (∀ x ∈ X, x.1.length + x.2.2.2.1.length + 1 ≤ (X.map vbulk).sum) ∧ ((X.map toV).map nv).sum ≤ (X.map vbulk).sum ∧ X.length ≤ (X.map vbulk).sum := by
    intro X
    induction X with
    | nil => exact ⟨fun p hp => (by cases hp), by simp, by simp⟩
    | cons x r ih =>
      have hx : vbulk x = x.1.length + 1 + (1 + (1 + (x.2.2.2.1.length + 1 + 0))) + 1 := rfl
      have hn : nv (toV x) = x.1.length + x.2.2.2.1.length + 1 := rfl
      simp only [List.map_cons, List.sum_cons, List.length_cons, List.mem_cons]
      refine ⟨fun p hp => ?_, by have := ih.2.1; omega, by have := ih.2.2; omega⟩
      rcases hp with rfl | hp
      · omega
      · have := ih.1 p hp; omega
  obtain ⟨k1, k2, k3⟩ := key X
  refine ⟨fun x hx => ?_, by rw [List.length_map]; omega, by omega⟩
  obtain ⟨y, hy, rfl⟩ := List.mem_map.1 hx
  have := k1 y hy
  obtain ⟨q1, q2⟩ := hs y hy
  exact ⟨by show y.1.length ≤ _; omega, by show y.2.2.2.1.length ≤ _; omega, q1, q2⟩
variable {H : Type} {enc : TypeId × Value → H} {W : World}

set_option maxRecDepth 100000 in
theorem open_vers {B : Nat} {v : Value} {d : DataW H} {p : List MemPlace} {base : Nat} (hv : Value.okWide Try.prog W .any base 31 v)
    (h : DataW.Trod enc Try.prog W 0 (fun _ => true) true 31 v d p) (hlt : ∀ x ∈ p, x.block < W.heap.size) (hB : Rows.uptoBulk d ≤ B) (hB2 : B ≤ 1048576 := by omega) :
    ∃ (u : Value) (L : List Ver), v = u ∧ VersIn W u L := by
  obtain ⟨cs, l, rfl, hx, hb⟩ := open_val (.slice verT) (by kernel_rfl) hv h hB
  replace hb : ((show List VD from l).map vbulk).sum + 1 ≤ B := hb
  obtain ⟨u, hu, hV, hs⟩ := vers_of_rd (X := l) hx
  obtain ⟨k1, k2, k3⟩ := vers_in hb hB2 hs
  cases hu
  exact ⟨u, _, rfl, ⟨hV, k1, k2, k3⟩⟩

set_option maxRecDepth 100000 in
theorem open_ver {B : Nat} {v : Value} {d : DataW H} {p : List MemPlace} {base : Nat} (hv : Value.okWide Try.prog W .any base 24 v)
    (h : DataW.Trod enc Try.prog W 0 (fun _ => true) true 24 v d p) (hlt : ∀ x ∈ p, x.block < W.heap.size) (hB : Rows.uptoBulk d ≤ B) (hB2 : B ≤ 1048576 := by omega) :
    ∃ (x : Ver), v = verV x ∧ VerIn x := by
  obtain ⟨cs, l, rfl, hx, hb⟩ := open_val verT (by kernel_rfl) hv h hB
  obtain ⟨rfl, q⟩ := rd_ver (x := l) hx
  replace hb : vbulk l ≤ B := hb
  have hn : vbulk l = l.1.length + 1 + (1 + (1 + (l.2.2.2.1.length + 1 + 0))) + 1 := rfl
  exact ⟨toV l, rfl, ⟨by show l.1.length ≤ _; omega, by show l.2.2.2.1.length ≤ _; omega, q.1, q.2⟩⟩
/-- a part of a row -/
theorem Vers.at_ {B : Nat} {W : World} {v : Value} {L : List Ver} (h : Vers B W v L) : ∃ (a : Option Addr) (cap b off : Nat), v = .slice a L.length cap ∧ (0 < L.length → a = some ⟨b, off, none⟩ ∧ b < B) ∧ ∀ j (h : j < L.length), At W b (off + j * 4) L[j] := h
end Vs
end Go.Proofs.Ytiijkneomecmiaa

/-
  Plain mathematics of chapter 8: blocks of versions (P8.2).
-/
namespace Go.Proofs.Ytiijkneomecmiaa
open Go.RowKit
namespace Tb
open Op (bytesLess)
open Mt (Ver mayB lessB placeB VerIn verV)
def ver0 : Ver := ⟨[], 0, false, []⟩
/-- each stands behind the one ahead -/
def ordB (L : List Ver) : Bool := (List.range (L.length - 1)).all fun i => lessB (L.getD i ver0) (L.getD (i + 1) ver0)
/-- such as may be, and in order -/
def rising (L : List Ver) : Nat := if L.all mayB = true then (if ordB L = true then 0 else 8) else 1
/-- a version in a block -/
def ent (v : Ver) (ahead : List UInt8) : List UInt8 :=
  Cd.putU (Cd.common ahead (encKey v)) ++ Cd.putT ((encKey v).drop (Cd.common ahead (encKey v))) ++ (if v.del = true then [] else Cd.putT v.val)
/-- what the version at a place is told behind -/
def ahd (L : List Ver) (i : Nat) : List UInt8 := if i % 16 = 0 then [] else encKey (L.getD (i - 1) ver0)
/-- the first n versions' bytes -/
def blkN (L : List Ver) (n : Nat) : List UInt8 := (List.range n).flatMap fun i => ent (L.getD i ver0) (ahd L i)
def blk (L : List Ver) : List UInt8 := blkN L L.length
/-- P8.2 -/
def encBlk (L : List Ver) : List UInt8 × Nat := if rising L = 0 then (blk L, 0) else ([], rising L)
theorem blkN_succ (L : List Ver) (n : Nat) : blkN L (n + 1) = blkN L n ++ ent (L.getD n ver0) (ahd L n) := by
  unfold blkN
  rw [List.range_succ, List.flatMap_append]
  simp
theorem common_le : ∀ (a b : List UInt8), Cd.common a b ≤ b.length ∧ Cd.common a b ≤ a.length
  | [], b => ⟨Nat.zero_le _, Nat.zero_le _⟩
  | _ :: _, [] => ⟨Nat.zero_le _, Nat.zero_le _⟩
  | x :: a, y :: b => by
    have := common_le a b
    unfold Cd.common
    split <;> simp <;> omega
theorem ent_len {v : Ver} (h : v.val.length ≤ 16384) (ahead : List UInt8) : (ent v ahead).length ≤ 16700 := by
  unfold ent
  have h1 := enc_len v
  have h2 := common_le ahead (encKey v)
  have h3 := Cd.putU_len10 (Cd.common ahead (encKey v)) (by omega)
  have h4 := Cd.putU_len10 ((encKey v).drop (Cd.common ahead (encKey v))).length (by simp; omega)
  have h5 := Cd.putU_len10 v.val.length (by omega)
  have h6 : ((encKey v).drop (Cd.common ahead (encKey v))).length ≤ 202 := by simp; omega
  split <;> simp only [List.length_append, Cd.putT, List.length_nil] <;> omega
theorem blkN_len {L : List Ver} (h : ∀ x ∈ L, x.val.length ≤ 16384) : ∀ n, (blkN L n).length ≤ 16700 * n
  | 0 => by simp [blkN]
  | n + 1 => by
    rw [blkN_succ, List.length_append]
    have := blkN_len h n
    have h2 : (L.getD n ver0).val.length ≤ 16384 := by
      by_cases hn : n < L.length
      · rw [List.getD_eq_getElem?_getD, List.getElem?_eq_getElem hn]; exact h _ (List.getElem_mem hn)
      · rw [List.getD_eq_getElem?_getD, List.getElem?_eq_none (by omega)]; simp [ver0]
    have := ent_len h2 (ahd L n)
    omega
theorem rising_may {L : List Ver} (h : rising L = 0) : ∀ x ∈ L, mayB x = true := by
  unfold rising at h
  split at h
  · next h1 => exact fun x hx => List.all_eq_true.1 h1 x hx
  · cases h
theorem getD_at {L : List Ver} {i : Nat} (h : i < L.length) : L.getD i ver0 = L[i] := by
  rw [List.getD_eq_getElem?_getD, List.getElem?_eq_getElem h]; rfl
end Tb
end Go.Proofs.Ytiijkneomecmiaa

/-
  The document's answers on blocks of versions (tapestryref08.rising, entry, Bytes, EncodeBlock).
-/
namespace Go.Proofs.Ytiijkneomecmiaa
open Go.RowKit
set_option linter.unusedSimpArgs false
set_option linter.unusedVariables false
namespace Tb
open Mt (Ver mayB lessB placeB VerIn verV)
open Vs (Vers At)

theorem ord_step {L : List Ver} {q : Nat} (h1 : 1 ≤ q) (h2 : q < L.length) :
    ((List.range q).all fun i => lessB (L.getD i ver0) (L.getD (i + 1) ver0)) = (((List.range (q - 1)).all fun i => lessB (L.getD i ver0) (L.getD (i + 1) ver0)) && lessB (L.getD (q - 1) ver0) (L.getD q ver0)) := by
  obtain ⟨r, rfl⟩ : ∃ r, q = r + 1 := ⟨q - 1, by omega⟩
  rw [List.range_succ, List.all_append]
  simp
theorem all_take {α : Type} (p : α → Bool) (L : List α) (q : Nat) (h : q < L.length) : (L.take (q + 1)).all p = ((L.take q).all p && p L[q]) := by
  rw [List.take_succ_eq_append_getElem h, List.all_append]
  simp
theorem all_cut {α : Type} {p : α → Bool} {L : List α} {q : Nat} (h : q < L.length) (hf : p L[q] = false) : L.all p = false := by
  rw [Bool.eq_false_iff]
  intro ha
  have := List.all_eq_true.1 ha _ (List.getElem_mem h)
  rw [hf] at this
  cases this

set_option maxRecDepth 100000 in
set_option maxHeartbeats 4000000 in
theorem rising_any (v : Value) (L : List Ver) (w : World) (hV : Vers w.heap.size w v L) (hI : ∀ x ∈ L, VerIn x) (hL : L.length ≤ 4611686018427387904) :
    Calls Try.prog 28 #[v] w fun e w' => e = .returned (.int .i64 (rising L : Nat)) ∧ Below w.heap.size w w' := by
  obtain ⟨a, cap, fb, fo, rfl, ha, hcells⟩ := hV
  have HC := Lib.hid hcells
  have HI := Lib.hid hI
  clear hcells hI
  go_enter Try.func28, Try.ntmps28
  go_wp2_with fail
  go_loopw [3] (fun i wr => ∃ q : Nat, q ≤ L.length ∧ i = .int .i64 (q : Int) ∧ (L.take q).all mayB = true ∧ Below w.heap.size w wr) (fun i _ => L.length - (intOf i).toNat)
  case atStart => exact ⟨0, Nat.zero_le _, rfl, rfl, Below.refl _ _⟩
  case round =>
    obtain ⟨q, hq, rfl, hall, hB⟩ := hrel
    have hbs := hB.size
    by_cases hlt : q < L.length
    · obtain ⟨rfl, hfb⟩ := ha (by omega)
      obtain ⟨e0, e1, e2, e3⟩ := (HC.out q hlt).below hB hfb
      have hin := HI.out L[q] (List.getElem_mem hlt)
      have HM := Lib.hid (fun W => mayR6_any L[q] W hin)
      have hat := all_take mayB L q hlt
      rw [hall, Bool.true_and] at hat
      have hac := @all_cut _ mayB L q hlt
      have HR : Hid (rising L = if L.all mayB = true then (if ordB L = true then 0 else 8) else 1) := rfl
      have hi1 : (0 : Int) ≤ (q : Int) ∧ (q : Int) < (L.length : Int) := by omega
      have HA := Lib.hid hat
      have HAC := Lib.hid hac
      clear hat hac hall
      generalize L[q] = x at *
      obtain ⟨k, sq, d, val⟩ := x
      unfold verV at HM
      simp only at HM e0 e1 e2 e3
      cases hm : mayB ⟨k, sq, d, val⟩ with
      | true =>
        rw [hm] at HM HA
        clear hm
        go_wp2_with (go_at_call 23; (with_reducible refine (HM.out _).mono ?_); rintro e w1 ⟨rfl, hb1⟩; have hB1 := hB.trans (hb1.mono hbs))
        go_roundw
        case rel => exact ⟨q + 1, by omega, by go_num, HA.out, hB1⟩
        case measure => simp [intOf]; omega
      | false =>
        rw [hm] at HM
        have hF := HAC.out hm
        have HE := Lib.hid (show rising L = 1 by rw [HR.out, hF]; rfl)
        clear hm hF
        go_wp2_with (go_at_call 23; (with_reducible refine (HM.out _).mono ?_); rintro e w1 ⟨rfl, hb1⟩; have hB1 := hB.trans (hb1.mono hbs))
        go_ret
        exact ⟨by rw [HE.out]; rfl, hB1⟩
    · obtain rfl : q = L.length := by omega
      rw [List.take_length] at hall
      have HALL := Lib.hid hall
      clear hall
      obtain ⟨wo, rfl⟩ : ∃ wo : World, wo = wr := ⟨_, rfl⟩
      go_wp2_with fail
      go_loopw [5] (fun i wr => ∃ q : Nat, 1 ≤ q ∧ (q ≤ L.length ∨ q = 1) ∧ i = .int .i64 (q : Int) ∧ ((List.range (q - 1)).all fun i => lessB (L.getD i ver0) (L.getD (i + 1) ver0)) = true ∧ Below w.heap.size w wr) (fun i _ => L.length - (intOf i).toNat)
      case atStart => exact ⟨1, Nat.le_refl _, .inr rfl, rfl, rfl, hB⟩
      case round =>
        obtain ⟨q, h1, hq, rfl, hall, hB⟩ := hrel
        have hbs := hB.size
        by_cases hlt : q < L.length
        · obtain ⟨rfl, hfb⟩ := ha (by omega)
          have hlt0 : q - 1 < L.length := by omega
          obtain ⟨e0, e1, e2, e3⟩ := (HC.out q hlt).below hB hfb
          obtain ⟨d0, d1, d2, d3⟩ := (HC.out (q - 1) hlt0).below hB hfb
          have hin := HI.out L[q] (List.getElem_mem hlt)
          have hin0 := HI.out L[q - 1] (List.getElem_mem hlt0)
          have HM := Lib.hid (fun W => Mt.lessR_any L[q - 1] L[q] W hin0.wide hin.wide)
          have hos := ord_step h1 hlt
          rw [hall, Bool.true_and, getD_at hlt0, getD_at hlt] at hos
          have hfail : lessB L[q - 1] L[q] = false → ordB L = false := by
            intro hf
            rw [Bool.eq_false_iff]
            intro ho
            have := List.all_eq_true.1 ho (q - 1) (List.mem_range.2 (by omega))
            rw [show q - 1 + 1 = q by omega, getD_at hlt0, getD_at hlt, hf] at this
            cases this
          have HR : Hid (rising L = if L.all mayB = true then (if ordB L = true then 0 else 8) else 1) := rfl
          have hi1 : (0 : Int) ≤ (q : Int) ∧ (q : Int) < (L.length : Int) := by omega
          have hi2 : IntKind.i64.wrap ((q : Int) - 1) = (q : Int) - 1 := by rw [IntKind.wrap_i64]; omega
          have hi3 : (0 : Int) ≤ (q : Int) - 1 ∧ (q : Int) - 1 < (L.length : Int) := by omega
          have hi4 : ((q : Int) - 1).toNat = q - 1 := by omega
          have HOS := Lib.hid hos
          have HF := Lib.hid hfail
          clear hos hfail hall
          generalize L[q] = x at *
          generalize L[q - 1] = y at *
          obtain ⟨k, sq, d, val⟩ := x
          obtain ⟨k', sq', d', val'⟩ := y
          unfold verV at HM
          simp only at HM e0 e1 e2 e3 d0 d1 d2 d3
          go_wp2_with fail
          go_cut [6] from 20 to 37 (fun r wx => r = .bool (lessB ⟨k', sq', d', val'⟩ ⟨k, sq, d, val⟩) ∧ Below w.heap.size w wx)
          case first =>
            go_region_with (go_at_call 10; (with_reducible refine (HM.out _).mono ?_); rintro e w1 ⟨rfl, hb1⟩)
            all_goals (try go_wp2_with fail)
            all_goals go_meet
            all_goals refine ⟨rfl, ?_⟩
            all_goals exact hB.drew.trans (hb1.mono hbs)
          case rest =>
            obtain ⟨rfl, hB1⟩ := hcut
            cases hm : lessB ⟨k', sq', d', val'⟩ ⟨k, sq, d, val⟩ with
            | true =>
              rw [hm] at HOS
              clear hm
              go_wp2_with fail
              go_roundw
              case rel => exact ⟨q + 1, by omega, .inl (by omega), by go_num, HOS.out, hB1⟩
              case measure => simp [intOf]; omega
            | false =>
              have hF := HF.out hm
              have HE := Lib.hid (show rising L = 8 by rw [HR.out, HALL.out, hF]; rfl)
              clear hm hF
              go_wp2_with fail
              go_ret
              exact ⟨by rw [HE.out]; rfl, hB1⟩
        · have hO : ordB L = true := by
            unfold ordB
            rcases hq with hq | rfl
            · obtain rfl : q = L.length := by omega
              exact hall
            · have : L.length - 1 = 0 := by omega
              rw [this]; rfl
          have HE := Lib.hid (show rising L = 0 by unfold rising; rw [HALL.out, hO]; rfl)
          clear hO hall
          have hli : ¬ (q : Int) < (L.length : Int) := by omega
          go_wp2_with fail
          go_ret
          exact ⟨by rw [HE.out]; rfl, hB⟩
theorem putTr_at (k : List UInt8) (w : World) (h : k.length ≤ 1048576) :
    Calls Try.prog 39 #[.string (Cd.bs k)] w fun e w' => e = .returned (.string (Cd.bs (Cd.putT k))) ∧ Below w.heap.size w w' :=
  putTr_any (Cd.bs k) w (by show k.length ≤ _; omega)
theorem commonR_at (s t : List UInt8) (w : World) (hs : s.length ≤ 1048576) (ht : t.length ≤ 1048576) :
    Calls Try.prog 63 #[.string (Cd.bs s), .string (Cd.bs t)] w fun e w' => e = .returned (.int .i64 (Cd.common s t : Nat)) ∧ Below w.heap.size w w' :=
  commonr_any (Cd.bs s) (Cd.bs t) w (by show s.length ≤ _; unfold maxLen; omega) (by show t.length ≤ _; unfold maxLen; omega)

set_option maxRecDepth 100000 in
set_option maxHeartbeats 4000000 in
theorem entryR_any (v : Ver) (ahead : List UInt8) (w : World) (hv : VerIn v) (ha : ahead.length ≤ 1048576) :
    Calls Try.prog 49 #[verV v, .string (Cd.bs ahead)] w fun e w' => e = .returned (.string (Cd.bs (ent v ahead))) ∧ Below w.heap.size w w' := by
  have HE := Lib.hid (fun W => encKeyR_any v W hv)
  have hl := enc_len v
  have hent : ent v ahead = Cd.putU (Cd.common ahead (encKey v)) ++ Cd.putT ((encKey v).drop (Cd.common ahead (encKey v))) ++ (if v.del = true then [] else Cd.putT v.val) := rfl
  have hcl := (common_le ahead (encKey v)).1
  have HC := Lib.hid (fun W => commonR_at ahead (encKey v) W ha (by omega))
  generalize ent v ahead = r at *
  generalize encKey v = key at *
  generalize Cd.common ahead key = n at *
  have HP := Lib.hid (fun W => putUr_at (n : Int) n W rfl (by omega))
  have HX : (Cd.bs key).extract n key.length = Cd.bs (key.drop n) := drop_str key n
  have HT := Lib.hid (fun W => putTr_at (key.drop n) W (by simp; omega))
  have l1 := Cd.putU_len10 n (by omega)
  have l2 : (Cd.putT (key.drop n)).length ≤ 300 := by have := Cd.putU_len10 (key.drop n).length (by simp; omega); unfold Cd.putT; rw [List.length_append]; simp at this ⊢; omega
  have HV := Lib.hid (fun W => putTr_at v.val W hv.2.1)
  have l3 : (Cd.putT v.val).length ≤ 1048600 := by have := Cd.putU_len10 v.val.length (by have := hv.2.1; omega); have := hv.2.1; unfold Cd.putT; rw [List.length_append]; omega
  rw [← HX] at HT
  generalize Cd.putT (key.drop n) = tk at *
  generalize Cd.putU n = un at *
  generalize Cd.putT v.val = tv at *
  obtain ⟨k, sq, d, val⟩ := v
  unfold verV at *
  simp only at *
  have hwn : IntKind.u64.wrap (n : Int) = (n : Int) := Cd.wrapU_nat (by omega)
  have hsz : (Cd.bs key).size = key.length := rfl
  have hn1 : (0 : Int) ≤ (n : Int) ∧ (n : Int) ≤ (key.length : Int) := by omega
  have hUT : Cd.bs un ++ Cd.bs tk = Cd.bs (un ++ tk) := ByteArray.mk_append_mk _ _
  have HUT := Lib.hid hUT
  have oA := Ob.Obj.new w 24 [.string (Cd.bs k), .int .u64 sq, .bool d, .string (Cd.bs val)]
  have hA : Below w.heap.size w (w.alloc (.cells #[.string (Cd.bs k), .int .u64 sq, .bool d, .string (Cd.bs val)] 24)) := (Below.refl _ _).alloc (Nat.le_refl _) _
  clear HX hUT
  go_enter Try.func49, Try.ntmps49
  go_wp2_with (first
    | (go_at_call 9; (with_reducible refine (HE.out _).mono ?_); rintro e w1 ⟨rfl, hb1⟩; have hB1 := hA.trans (hb1.mono hA.size); have o1 := oA.below hb1)
    | (go_at_call 63; (with_reducible refine (HC.out _).mono ?_); rintro e w2 ⟨rfl, hb2⟩; have hB2 := hB1.trans (hb2.mono hB1.size); have o2 := o1.below hb2))
  go_cut [7] (fun r wx => r = .string (Cd.bs (un ++ tk)) ∧ Below w2.heap.size w2 wx)
  case first =>
    go_region_with (first
      | (go_at_call 37; (with_reducible refine (HP.out _).mono ?_); rintro e w3 ⟨rfl, hb3⟩)
      | (go_at_call 39; (with_reducible refine (HT.out _).mono ?_); rintro e w4 ⟨rfl, hb4⟩))
    all_goals (try go_wp2_with fail)
    all_goals go_meet
    all_goals refine ⟨by rw [HUT.out], ?_⟩
    all_goals repeat (first | exact Below.refl _ _ | (refine Below.trans ?_ (hb4.mono ?_)) | (refine Below.trans ?_ (hb3.mono ?_)) | apply Below.drew | exact Nat.le_refl _ | exact hb3.size | exact hb4.size | omega | (focus (simp; done)) | (focus (simp; omega)))
  case rest =>
    obtain ⟨rfl, hbc⟩ := hcut
    have hBc := hB2.trans (hbc.mono hB2.size)
    have oc := o2.below hbc
    have c2 := oc.cell 2
    have c3 := oc.cell 3
    simp at c2 c3
    have hll : (un ++ tk).length ≤ 310 := by rw [List.length_append]; omega
    generalize un ++ tk = ut at *
    cases d with
    | true =>
      have hr : r = ut := by rw [hent]; simp
      subst hr
      clear hent
      go_wp2_with fail
      go_ret
      exact ⟨rfl, hBc⟩
    | false =>
      have hr : r = ut ++ tv := by rw [hent]; simp
      have HR := Lib.hid (show Value.string (Cd.bs ut ++ Cd.bs tv) = .string (Cd.bs r) by rw [hr]; exact congrArg Value.string (ByteArray.mk_append_mk _ _))
      clear hent hr
      go_wp2_with (go_at_call 39; (with_reducible refine (HV.out _).mono ?_); rintro e w5 ⟨rfl, hb5⟩)
      go_ret
      exact ⟨by rw [← HR.out]; rfl, hBc.trans (hb5.mono hBc.size)⟩

set_option maxRecDepth 100000 in
set_option maxHeartbeats 4000000 in
theorem bytesR_any (v : Value) (L : List Ver) (w : World) (hV : Vers w.heap.size w v L) (hI : ∀ x ∈ L, mayB x = true) (hL : L.length ≤ 1048576) :
    Calls Try.prog 29 #[v] w fun e w' => e = .returned (.string (Cd.bs (blk L))) ∧ Below w.heap.size w w' := by
  obtain ⟨a, cap, fb, fo, rfl, ha, hcells⟩ := hV
  have HC := Lib.hid hcells
  have hIn : ∀ x ∈ L, VerIn x := fun x hx => by
    obtain ⟨h1, h2, h3, h4, h5, h6⟩ := may_seq (hI x hx)
    exact ⟨by omega, by omega, by omega, by omega⟩
  have HI := Lib.hid hIn
  have HLen := Lib.hid (blkN_len (L := L) (fun x hx => (may_seq (hI x hx)).2.2.2.2.1))
  clear hcells hI hIn
  go_enter Try.func29, Try.ntmps29
  go_wp2_with fail
  go_loopw [3, 4, 5] (fun s ah i wr => ∃ q : Nat, q ≤ L.length ∧ i = .int .i64 (q : Int) ∧ s = .string (Cd.bs (blkN L q)) ∧ ah = .string (Cd.bs (if q = 0 then [] else encKey (L.getD (q - 1) ver0))) ∧ Below w.heap.size w wr) (fun _ _ i _ => L.length - (intOf i).toNat)
  case atStart => exact ⟨0, Nat.zero_le _, rfl, rfl, rfl, Below.refl _ _⟩
  case round =>
    obtain ⟨q, hq, rfl, rfl, rfl, hB⟩ := hrel
    have hbs := hB.size
    by_cases hlt : q < L.length
    · obtain ⟨rfl, hfb⟩ := ha (by omega)
      obtain ⟨e0, e1, e2, e3⟩ := (HC.out q hlt).below hB hfb
      have hin := HI.out L[q] (List.getElem_mem hlt)
      have hsucc := blkN_succ L q
      have hK := getD_at hlt
      have hnx : (if q + 1 = 0 then [] else encKey (L.getD (q + 1 - 1) ver0)) = encKey L[q] := by rw [if_neg (by omega), Nat.add_sub_cancel, hK]
      rw [hK] at hsucc
      have hah : ahd L q = if q % 16 = 0 then [] else encKey (L.getD (q - 1) ver0) := rfl
      have hl1 := HLen.out q
      have hahl : (ahd L q).length ≤ 202 := by rw [hah]; split; · simp
                                               · exact enc_len _
      have HE := Lib.hid (fun W => entryR_any L[q] (ahd L q) W hin (by omega))
      have HK := Lib.hid (fun W => encKeyR_any L[q] W hin)
      have hent : (ent L[q] (ahd L q)).length ≤ 2000000 := by
        have := enc_len L[q]
        have h2 := (common_le (ahd L q) (encKey L[q])).1
        have h3 := Cd.putU_len10 (Cd.common (ahd L q) (encKey L[q])) (by omega)
        have h4 := Cd.putU_len10 ((encKey L[q]).drop (Cd.common (ahd L q) (encKey L[q]))).length (by simp; omega)
        have h5 := Cd.putU_len10 L[q].val.length (by have := hin.2.1; omega)
        have h6 : ((encKey L[q]).drop (Cd.common (ahd L q) (encKey L[q]))).length ≤ 202 := by simp; omega
        have h7 := hin.2.1
        unfold ent
        split <;> simp only [List.length_append, Cd.putT, List.length_nil] <;> omega
      have HS := Lib.hid (show Value.string (Cd.bs (blkN L q) ++ Cd.bs (ent L[q] (ahd L q))) = .string (Cd.bs (blkN L (q + 1))) by rw [hsucc]; exact congrArg Value.string (ByteArray.mk_append_mk _ _))
      have HNX := Lib.hid hnx
      have hi1 : (0 : Int) ≤ (q : Int) ∧ (q : Int) < (L.length : Int) := by omega
      have hm16 : ((q : Int) % 16 == 0) = decide (q % 16 = 0) := by rw [Bool.eq_iff_iff]; simp; omega
      have h0 : q % 16 ≠ 0 → ¬ q = 0 := by intro h h2; subst h2; exact h rfl
      generalize blkN L q = s1 at *
      have e5 := (HC.out q hlt)
      have HB5 := Lib.hid (fun W (h : Below w.heap.size w W) => (HC.out q hlt).below h hfb)
      clear hsucc hK hnx e5
      generalize L.getD (q - 1) ver0 = pv at *
      generalize ahd L q = ah at *
      generalize ent L[q] ah = en at *
      generalize L[q] = x at *
      have HXE : Hid (encKey x = encKey x) := rfl
      obtain ⟨k, sq, d, val⟩ := x
      unfold verV at HE HK
      simp only at HE HK e0 e1 e2 e3
      by_cases h16 : q % 16 = 0
      · rw [if_pos h16] at hah
        subst hah
        have hb16 : ((q : Int) % 16 == 0) = true := by rw [hm16]; simpa using h16
        clear hm16 h16
        go_wp2_with (first
          | (go_at_call 49; (with_reducible refine (HE.out _).mono ?_); rintro e w1 ⟨rfl, hb1⟩; have hB1 := hB.trans (hb1.mono hbs); obtain ⟨f0, f1, f2, f3⟩ := HB5.out w1 hB1; simp only at f0 f1 f2 f3)
          | (go_at_call 9; (with_reducible refine (HK.out _).mono ?_); rintro e w2 ⟨rfl, hb2⟩; have hB2 := hB1.trans (hb2.mono hB1.size)))
        go_roundw
        case rel => exact ⟨q + 1, by omega, by go_num, HS.out, by rw [HNX.out], hB2⟩
        case measure => simp [intOf]; omega
      · have hq0 := h0 h16
        rw [if_neg h16] at hah
        rw [if_neg hq0]
        subst hah
        have hb16 : ((q : Int) % 16 == 0) = false := by rw [hm16]; simpa using h16
        clear hm16 h16
        go_wp2_with (first
          | (go_at_call 49; (with_reducible refine (HE.out _).mono ?_); rintro e w1 ⟨rfl, hb1⟩; have hB1 := hB.trans (hb1.mono hbs); obtain ⟨f0, f1, f2, f3⟩ := HB5.out w1 hB1; simp only at f0 f1 f2 f3)
          | (go_at_call 9; (with_reducible refine (HK.out _).mono ?_); rintro e w2 ⟨rfl, hb2⟩; have hB2 := hB1.trans (hb2.mono hB1.size)))
        go_roundw
        case rel => exact ⟨q + 1, by omega, by go_num, HS.out, by rw [HNX.out], hB2⟩
        case measure => simp [intOf]; omega
    · obtain rfl : q = L.length := by omega
      have HBK := Lib.hid (show blkN L L.length = blk L from rfl)
      generalize (if L.length = 0 then [] else encKey (L.getD (L.length - 1) ver0)) = zz
      generalize blkN L L.length = zb at *
      go_wp2_with fail
      go_ret
      exact ⟨by rw [← HBK.out]; rfl, hB⟩

def encBlkV (r : List UInt8 × Nat) : Value := .tuple #[.string (Cd.bs r.1), .int .i64 (r.2 : Nat)]

set_option maxRecDepth 100000 in
set_option maxHeartbeats 4000000 in
theorem encBlkR_any (v : Value) (L : List Ver) (w : World) (hV : Vers w.heap.size w v L) (hI : ∀ x ∈ L, VerIn x) (hL : L.length ≤ 1048576) :
    Calls Try.prog 12 #[v] w fun e w' => e = .returned (encBlkV (encBlk L)) ∧ Below w.heap.size w w' := by
  have HR := Lib.hid (rising_any v L w hV hI (by omega))
  have hE : encBlk L = if rising L = 0 then (blk L, 0) else ([], rising L) := rfl
  have hm := @rising_may L
  by_cases h : rising L = 0
  · rw [if_pos h] at hE
    have HBy := Lib.hid (fun W (hb : Below w.heap.size w W) => bytesR_any v L W (hV.grow hb hb.size) (hm h) hL)
    rw [hE]
    unfold encBlkV
    simp only
    rw [h] at HR
    clear hE hm h hV
    go_enter Try.func12, Try.ntmps12
    go_wp2_with (first
      | (go_at_call 28; (with_reducible refine HR.out.mono ?_); rintro e w1 ⟨rfl, hb1⟩)
      | (go_at_call 29; (with_reducible refine (HBy.out _ hb1).mono ?_); rintro e w2 ⟨rfl, hb2⟩; have hB2 := hb1.trans (hb2.mono hb1.size)))
    go_ret2
    exact ⟨rfl, hB2⟩
  · rw [if_neg h] at hE
    rw [hE]
    unfold encBlkV
    simp only
    generalize rising L = r at *
    have hr : ((r : Int) == 0) = false := by simp; omega
    clear hE hm hV
    go_enter Try.func12, Try.ntmps12
    go_wp2_with (go_at_call 28; (with_reducible refine HR.out.mono ?_); rintro e w1 ⟨rfl, hb1⟩)
    go_ret2
    exact ⟨rfl, hb1⟩
end Tb
end Go.Proofs.Ytiijkneomecmiaa

/-
  The law TableBlocks over what the program owes of blocks.
-/
namespace Go.Proofs.Ytiijkneomecmiaa
open Go.RowKit
set_option linter.unusedSimpArgs false
set_option linter.unusedVariables false
namespace Tb
open Mt (Ver mayB lessB placeB VerIn verV)
open Vs (Vers At VersIn)

def EncBlkOk : Prop := ∀ (v : Value) (L : List Ver) (w : World), Vers w.heap.size w v L → (∀ x ∈ L, VerIn x) → L.length ≤ 1048576 →
    Calls Try.prog 11 #[v] w fun e w' => e = .returned (encBlkV (encBlk L)) ∧ Below w.heap.size w w'

set_option maxRecDepth 100000 in
set_option maxHeartbeats 4000000 in
theorem tableBlocks_walk (EE : EncBlkOk) (v : Value) (L : List Ver) (w : World) (hK : VersIn w v L) :
    Calls Try.prog 4 #[v] w fun e w' => e = .returned (.bool true) ∧ Below w.heap.size w w' := by
  have H1 := Lib.hid (EE v L w hK.vers hK.each hK.many)
  have H2 := Lib.hid (fun W (hb : Below w.heap.size w W) => encBlkR_any v L W (hK.vers.grow hb hb.size) hK.each hK.many)
  unfold encBlkV at H1 H2
  generalize encBlk L = r at *
  obtain ⟨s, c⟩ := r
  simp only at H1 H2
  go_enter Try.func4, Try.ntmps4
  go_wp2_with (first
    | (go_at_call 11; (with_reducible refine H1.out.mono ?_); rintro e w1 ⟨rfl, hb1⟩)
    | (go_at_call 12; (with_reducible refine (H2.out _ hb1).mono ?_); rintro e w2 ⟨rfl, hb2⟩; have hB2 := hb1.trans (hb2.mono hb1.size)))
  go_ret
  exact ⟨rfl, hB2⟩
end Tb
end Go.Proofs.Ytiijkneomecmiaa

/-
  What the program's memtable owes for MemtableOrder: Less, Height.
-/
namespace Go.Proofs.Ytiijkneomecmiaa
open Go.RowKit
set_option linter.unusedSimpArgs false
set_option linter.unusedVariables false
namespace Md
open Op (bytesLess)
open Mt (Ver VerIn verV lessB LessOk)

set_option maxRecDepth 100000 in
set_option maxHeartbeats 2000000 in
theorem lessOk : LessOk := by
  intro a b w ha hb
  obtain ⟨ak, aq, ad, av⟩ := a
  obtain ⟨bk, bq, bd, bv⟩ := b
  unfold verV
  simp only
  obtain ⟨_, _, _, _⟩ := ha
  obtain ⟨_, _, _, _⟩ := hb
  by_cases h : ak = bk
  · subst h
    have hir := Mt.bl_irrefl ak
    by_cases h1 : bq < aq
    · have e : lessB ⟨ak, aq, ad, av⟩ ⟨ak, bq, bd, bv⟩ = true := by simp [lessB, h1]
      rw [e]
      clear e
      go_enter Try.func45, Try.ntmps45
      go_wp2_with fail
      go_ret
      exact ⟨rfl, ((Below.refl _ _).alloc (Nat.le_refl _) _).alloc (by simp) _⟩
    · have e : lessB ⟨ak, aq, ad, av⟩ ⟨ak, bq, bd, bv⟩ = false := by simp [lessB, h1]
      have h2 : decide (bq < aq) = false := decide_eq_false h1
      rw [e]
      clear e
      go_enter Try.func45, Try.ntmps45
      go_wp2_with fail
      go_ret
      exact ⟨rfl, ((Below.refl _ _).alloc (Nat.le_refl _) _).alloc (by simp) _⟩
  · have hne : (ak == bk) = false := by simpa using h
    have e : lessB ⟨ak, aq, ad, av⟩ ⟨bk, bq, bd, bv⟩ = bytesLess ak bk := by simp [lessB, h]
    rw [e]
    clear e h
    cases hl : bytesLess ak bk
    all_goals
      go_enter Try.func45, Try.ntmps45
      go_wp2_with fail
      go_ret
      exact ⟨rfl, ((Below.refl _ _).alloc (Nat.le_refl _) _).alloc (by simp) _⟩

end Md
end Go.Proofs.Ytiijkneomecmiaa
/-
  The program's check of versions (table.check): such as may be, and in order.
-/
namespace Go.Proofs.Ytiijkneomecmiaa
open Go.RowKit
set_option linter.unusedSimpArgs false
set_option linter.unusedVariables false
namespace Tb
open Mt (Ver mayB lessB placeB VerIn verV)
open Vs (Vers At)

set_option maxRecDepth 100000 in
set_option maxHeartbeats 4000000 in
theorem check_any (v : Value) (L : List Ver) (w : World) (hV : Vers w.heap.size w v L) (hI : ∀ x ∈ L, VerIn x) (hL : L.length ≤ 4611686018427387904) :
    Calls Try.prog 26 #[v] w fun e w' => e = .returned (.int .i64 (rising L : Nat)) ∧ Below w.heap.size w w' := by
  obtain ⟨a, cap, fb, fo, rfl, ha, hcells⟩ := hV
  have HC := Lib.hid hcells
  have HI := Lib.hid hI
  clear hcells hI
  go_enter Try.func26, Try.ntmps26
  go_wp2_with fail
  go_loopw [8] (fun i wr => ∃ q : Nat, q ≤ L.length ∧ i = .int .i64 (q : Int) ∧ (L.take q).all mayB = true ∧ Below w.heap.size w wr) (fun i _ => L.length - (intOf i).toNat)
  case atStart => exact ⟨0, Nat.zero_le _, rfl, rfl, Below.refl _ _⟩
  case round =>
    obtain ⟨q, hq, rfl, hall, hB⟩ := hrel
    have hbs := hB.size
    by_cases hlt : q < L.length
    · obtain ⟨rfl, hfb⟩ := ha (by omega)
      obtain ⟨e0, e1, e2, e3⟩ := (HC.out q hlt).below hB hfb
      have hin := HI.out L[q] (List.getElem_mem hlt)
      have HM := Lib.hid (fun W => mayBe_any L[q] W hin)
      have hat := all_take mayB L q hlt
      rw [hall, Bool.true_and] at hat
      have hac := @all_cut _ mayB L q hlt
      have HR : Hid (rising L = if L.all mayB = true then (if ordB L = true then 0 else 8) else 1) := rfl
      have hi1 : (0 : Int) ≤ (q : Int) ∧ (q : Int) < (L.length : Int) := by omega
      have HA := Lib.hid hat
      have HAC := Lib.hid hac
      have hfr : fb < wr.heap.size := by omega
      clear hat hac hall
      generalize L[q] = x at *
      obtain ⟨k, sq, d, val⟩ := x
      unfold verV at HM
      simp only at HM e0 e1 e2 e3
      cases hm : mayB ⟨k, sq, d, val⟩ with
      | true =>
        rw [hm] at HM HA
        clear hm
        go_wp2_with (go_at_call 16; (with_reducible refine (HM.out _).mono ?_); rintro e w1 ⟨rfl, hb1⟩)
        go_roundw
        case rel => exact ⟨q + 1, by omega, by go_num, HA.out, by repeat (first | exact hB | (refine Below.trans ?_ (hb1.mono ?_)) | (refine Below.setCell ?_ ?_ _) | (refine Below.alloc ?_ ?_ _) | exact hbs | (focus (simp; done)) | (focus (simp; omega)))⟩
        case measure => simp [intOf]; omega
      | false =>
        rw [hm] at HM
        have hF := HAC.out hm
        have HE := Lib.hid (show rising L = 1 by rw [HR.out, hF]; rfl)
        clear hm hF
        go_wp2_with (go_at_call 16; (with_reducible refine (HM.out _).mono ?_); rintro e w1 ⟨rfl, hb1⟩)
        go_ret
        exact ⟨by rw [HE.out]; rfl, by repeat (first | exact hB | (refine Below.trans ?_ (hb1.mono ?_)) | (refine Below.setCell ?_ ?_ _) | (refine Below.alloc ?_ ?_ _) | exact hbs | (focus (simp; done)) | (focus (simp; omega)))⟩
    · obtain rfl : q = L.length := by omega
      rw [List.take_length] at hall
      have HALL := Lib.hid hall
      clear hall
      obtain ⟨wo, rfl⟩ : ∃ wo : World, wo = wr := ⟨_, rfl⟩
      go_wp2_with fail
      go_loopw [5] (fun i wr => ∃ q : Nat, 1 ≤ q ∧ (q ≤ L.length ∨ q = 1) ∧ i = .int .i64 (q : Int) ∧ ((List.range (q - 1)).all fun i => lessB (L.getD i ver0) (L.getD (i + 1) ver0)) = true ∧ Below w.heap.size w wr) (fun i _ => L.length - (intOf i).toNat)
      case atStart => exact ⟨1, Nat.le_refl _, .inr rfl, rfl, rfl, hB⟩
      case round =>
        obtain ⟨q, h1, hq, rfl, hall, hB⟩ := hrel
        have hbs := hB.size
        by_cases hlt : q < L.length
        · obtain ⟨rfl, hfb⟩ := ha (by omega)
          have hlt0 : q - 1 < L.length := by omega
          obtain ⟨e0, e1, e2, e3⟩ := (HC.out q hlt).below hB hfb
          obtain ⟨d0, d1, d2, d3⟩ := (HC.out (q - 1) hlt0).below hB hfb
          have hin := HI.out L[q] (List.getElem_mem hlt)
          have hin0 := HI.out L[q - 1] (List.getElem_mem hlt0)
          have HM := Lib.hid (fun W => Md.lessOk L[q - 1] L[q] W hin0.wide hin.wide)
          have hos := ord_step h1 hlt
          rw [hall, Bool.true_and, getD_at hlt0, getD_at hlt] at hos
          have hfail : lessB L[q - 1] L[q] = false → ordB L = false := by
            intro hf
            rw [Bool.eq_false_iff]
            intro ho
            have := List.all_eq_true.1 ho (q - 1) (List.mem_range.2 (by omega))
            rw [show q - 1 + 1 = q by omega, getD_at hlt0, getD_at hlt, hf] at this
            cases this
          have HR : Hid (rising L = if L.all mayB = true then (if ordB L = true then 0 else 8) else 1) := rfl
          have hi1 : (0 : Int) ≤ (q : Int) ∧ (q : Int) < (L.length : Int) := by omega
          have hi2 : IntKind.i64.wrap ((q : Int) - 1) = (q : Int) - 1 := by rw [IntKind.wrap_i64]; omega
          have hi3 : (0 : Int) ≤ (q : Int) - 1 ∧ (q : Int) - 1 < (L.length : Int) := by omega
          have hi4 : ((q : Int) - 1).toNat = q - 1 := by omega
          have HOS := Lib.hid hos
          have HF := Lib.hid hfail
          clear hos hfail hall
          generalize L[q] = x at *
          generalize L[q - 1] = y at *
          obtain ⟨k, sq, d, val⟩ := x
          obtain ⟨k', sq', d', val'⟩ := y
          unfold verV at HM
          simp only at HM e0 e1 e2 e3 d0 d1 d2 d3
          go_wp2_with fail
          go_cut [32] from 16 to 31 (fun r wx => r = .bool (!lessB ⟨k', sq', d', val'⟩ ⟨k, sq, d, val⟩) ∧ Below w.heap.size w wx)
          case first =>
            go_region_with (go_at_call 45; (with_reducible refine (HM.out _).mono ?_); rintro e w1 ⟨rfl, hb1⟩)
            all_goals (try go_wp2_with fail)
            all_goals go_meet
            all_goals refine ⟨rfl, ?_⟩
            all_goals exact hB.drew.trans (hb1.mono hbs)
          case rest =>
            obtain ⟨rfl, hB1⟩ := hcut
            cases hm : lessB ⟨k', sq', d', val'⟩ ⟨k, sq, d, val⟩ with
            | true =>
              rw [hm] at HOS
              clear hm
              go_wp2_with fail
              go_roundw
              case rel => exact ⟨q + 1, by omega, .inl (by omega), by go_num, HOS.out, hB1⟩
              case measure => simp [intOf]; omega
            | false =>
              have hF := HF.out hm
              have HE := Lib.hid (show rising L = 8 by rw [HR.out, HALL.out, hF]; rfl)
              clear hm hF
              go_wp2_with fail
              go_ret
              exact ⟨by rw [HE.out]; rfl, hB1⟩
        · have hO : ordB L = true := by
            unfold ordB
            rcases hq with hq | rfl
            · obtain rfl : q = L.length := by omega
              exact hall
            · have : L.length - 1 = 0 := by omega
              rw [this]; rfl
          have HE := Lib.hid (show rising L = 0 by unfold rising; rw [HALL.out, hO]; rfl)
          clear hO hall
          have hli : ¬ (q : Int) < (L.length : Int) := by omega
          go_wp2_with fail
          go_ret
          exact ⟨by rw [HE.out]; rfl, hB⟩
end Tb
end Go.Proofs.Ytiijkneomecmiaa
