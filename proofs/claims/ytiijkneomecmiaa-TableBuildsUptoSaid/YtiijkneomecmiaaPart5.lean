import Derived.Lib.OwnBridge
import Derived.Lib.SlicesCompact
import Derived.Shelf.Abstract
import Derived.Shelf.RegionOpen
import Derived.OwnWalkIn
import Derived.TacticsInMore
import Derived.LoopNIn
import Derived.LoopIn
import Derived.WalkKit
import Derived.WalkLawsBesides
import Derived.Below
import Derived.Lib.Hide
import Derived.Laws.CopyOwn
import Derived.Test.YtiijkneomecmiaaPart4
namespace Go.Proofs.Ytiijkneomecmiaa
open Go.RowKit
set_option linter.unusedSimpArgs false
set_option linter.unusedVariables false

theorem sumc_any (s : ByteArray) (w : World) (hs : s.size ≤ maxLen) :
    Calls Try.prog 70 #[.string s] w fun e w' => e = .returned (.int .u32 (Fr.sum s.data.toList)) ∧ Below w.heap.size w w' :=
  (sumc_same s w hs).mono fun e w' ⟨he, hw⟩ => ⟨he, by subst hw; exact Below.refl _ _⟩

set_option maxRecDepth 100000 in
set_option maxHeartbeats 1000000 in
theorem framePutc_any (K : Int) (c : UInt8) (hK : K = (c.toNat : Int)) (l : List UInt8) (w : World) (hs : l.length ≤ 140737488351232) :
    Calls Try.prog 56 #[.agg #[.int .u8 K, .string (Cd.bs l)]] w fun e w' => e = .returned (.tuple #[.string (Cd.bs (Fr.put c l).1), .int .i64 (Fr.put c l).2]) ∧ Below w.heap.size w w' := by
  have hsz : (Cd.bs l).size = l.length := rfl
  have HSZ := Lib.hid hsz
  clear hsz
  by_cases h0 : c.toNat = 0
  · have hb : (K == 0) = true := by subst hK; simp [h0]
    rw [Fr.put_zero h0]
    clear hK h0
    go_enter Try.func56, Try.ntmps56
    go_wp2
    go_ret2
    exact ⟨rfl, (Below.refl _ _).alloc (Nat.le_refl _) _⟩
  · have hb : (K == 0) = false := by subst hK; simp; omega
    by_cases hl : l.length ≤ 262144
    · rw [Fr.put_ok h0 hl]
      have HK := Lib.hid hK
      have hcv := fun W g h => conv_cell W g K c hK h
      clear hK h0
      have hT := fun W => putTc_any (Cd.bs l) W (by rw [HSZ.out]; omega)
      have HT := Lib.hid hT
      clear hT
      have hlen : (Cd.putT l).length ≤ 262154 := by have := Cd.putU_len10 l.length (by omega); rw [Cd.putT, List.length_append]; omega
      go_enter Try.func56, Try.ntmps56
      go_wp2_with fail
      go_cut [4] (fun r wx => r = .string (Cd.bs (c :: Cd.putT l)) ∧ Below w.heap.size w wx)
      case first =>
        go_region_with (go_at_call 48; refine (HT.out _).mono ?_; rintro e w1 ⟨rfl, hb1⟩; obtain ⟨hkc, hkf⟩ := bcell hb1; have hsz1 := hb1.size; simp at hsz1)
        all_goals (try go_wp2_with fail)
        all_goals go_meet
        all_goals refine ⟨by rw [ByteArray.mk_append_mk]; rfl, ?_⟩
        all_goals repeat (first
          | exact Below.refl _ _
          | (refine Below.trans ?_ (hb1.mono ?_))
          | apply Below.drew
          | (refine Below.alloc ?_ ?_ _)
          | exact Nat.le_refl _
          | omega
          | (focus (simp; done))
          | (focus (simp; omega)))
      case rest =>
        obtain ⟨rfl, hbc⟩ := hcut
        have hS := fun W => sumc_same (Cd.bs (c :: Cd.putT l)) W (by show (c :: Cd.putT l).length ≤ maxLen; unfold maxLen; rw [List.length_cons]; omega)
        have HS := Lib.hid hS
        have HL := Lib.hid (fun W => putSum_any (Fr.sum (c :: Cd.putT l) : Int) (Fr.sum (c :: Cd.putT l)) W rfl (Fr.sum_lt _))
        clear hS hcv
        have hll : (Fr.lit (Fr.sum (c :: Cd.putT l))).length ≤ 4 := by rw [Fr.lit_len]; omega
        have hsl : (Cd.bs (c :: Cd.putT l)).size ≤ 262155 := by show (c :: Cd.putT l).length ≤ 262155; rw [List.length_cons]; omega
        go_wp2_with (first
          | (go_at_call 70; refine (HS.out _).mono ?_; rintro e w' ⟨rfl, rfl⟩)
          | (go_at_call 69; refine (HL.out _).mono ?_; rintro e w3 ⟨rfl, hb3⟩))
        go_ret2
        exact ⟨by rw [ByteArray.mk_append_mk]; rfl, hbc.trans (hb3.mono hbc.size)⟩
    · have hlb : (262144 : Int) < l.length := by omega
      rw [Fr.put_long (by omega)]
      clear hK h0
      go_enter Try.func56, Try.ntmps56
      go_wp2
      go_ret2
      exact ⟨rfl, (Below.refl _ _).alloc (Nat.le_refl _) _⟩
end Go.Proofs.Ytiijkneomecmiaa

/-
  The program's keys of versions (table.keys), end (putEnd), foot (putFoot), frames (put).
-/
namespace Go.Proofs.Ytiijkneomecmiaa
open Go.RowKit
set_option linter.unusedSimpArgs false
set_option linter.unusedVariables false
namespace Tb
open Mt (Ver mayB lessB placeB VerIn verV)
open Vs (Vers At)

theorem key_get (L : List Ver) (i : Nat) (h : i < L.length) : ((L.map (·.key)).toArray)[i]! = (L.getD i ver0).key := by
  rw [getElem!_pos _ i (by simpa using h), getD_at h]
  simp
theorem compact_keys (L : List Ver) : Lib.compact (L.map (·.key)) = keyL L := by
  unfold Lib.compact Lib.compactUpTo keyL keyN
  rw [List.length_map]
  have hf : (List.range L.length).filter (Lib.keeps (L.map (·.key)).toArray) = (List.range L.length).filter (fun i => decide (i = 0) || (L.getD i ver0).key != (L.getD (i - 1) ver0).key) := by
    refine List.filter_congr fun i hi => ?_
    have hi := List.mem_range.1 hi
    unfold Lib.keeps
    rw [key_get L i hi, key_get L (i - 1) (by omega), Bool.eq_iff_iff]
    simp
  rw [hf]
  refine List.map_congr_left fun i hi => ?_
  have := List.mem_range.1 (List.mem_filter.1 hi).1
  exact key_get L i this
theorem compact_le (L : List Ver) : (Lib.compact (L.map (·.key))).length ≤ L.length := by
  rw [compact_keys]; exact keyN_len L L.length

set_option maxRecDepth 100000 in
set_option maxHeartbeats 4000000 in
theorem keysDev_any (v : Value) (L : List Ver) (w : World) (hV : Vers w.heap.size w v L) (hL : L.length ≤ 1048576) :
    Calls Try.prog 32 #[v] w fun e w' => ∃ u, e = .returned u ∧ w'.ownsRow w.heap.size 9 1 u (keyL L).length (sc8 (keyL L)) ∧ Below w.heap.size w w' := by
  obtain ⟨i0, hi0, hz0, hz1, hz2⟩ := info_parts info_str8
  obtain ⟨a, cap, fb, fo, rfl, ha, hcells⟩ := hV
  have HC := Lib.hid hcells
  clear hcells
  go_enter Try.func32, Try.ntmps32
  go_wp2_with fail
  go_loopw [3, 8] (fun o i wr => ∃ q : Nat, q ≤ L.length ∧ i = .int .i64 (q : Int) ∧ wr.ownsRow w.heap.size 9 1 o q (sc8 ((L.take q).map (·.key))) ∧ Below w.heap.size w wr) (fun _ i _ => L.length - (intOf i).toNat)
  case atStart => exact ⟨0, Nat.zero_le _, rfl, World.ownsRow_nil _ _ _ _, Below.refl _ _⟩
  case round =>
    obtain ⟨q, hq, rfl, hown, hB⟩ := hrel
    have hbs := hB.size
    by_cases hlt : q < L.length
    · obtain ⟨rfl, hfb⟩ := ha (by omega)
      obtain ⟨e0, e1, e2, e3⟩ := (HC.out q hlt).below hB hfb
      have hfr : fb < wr.heap.size := by omega
      have HS := Lib.hid (show sc8 ((L.take (q + 1)).map (·.key)) = sc8 ((L.take q).map (·.key)) ++ [.string (Cd.bs L[q].key)] by rw [List.take_succ_eq_append_getElem hlt]; simp only [sc8, List.map_append, List.map_cons, List.map_nil])
      have hi1 : (0 : Int) ≤ (q : Int) ∧ (q : Int) < (L.length : Int) := by omega
      generalize L[q] = x at *
      generalize sc8 ((L.take q).map (·.key)) = xs at *
      have HOWN := Lib.hid hown
      have HB := Lib.hid hB
      clear hown hB
      have hsa : ∀ (o : Go.Obj), (wr.alloc o).heap.size = wr.heap.size + 1 := fun o => by simp
      go_wp2_with (at_builtin; refine wpList_append_own _ rfl _ _ 56 rfl w.heap.size 9 i0 (.string ⟨#[]⟩) 1 16 Try.underlying56 hi0 hz0 hz1 hz2 rfl (by decide) _ _ _ rfl ((HOWN.out.alloc _).alloc _) ⟨wr.heap.size + 1, 0, none⟩ 1 1 [_] rfl rfl (by rw [← hsa]; exact cell_one_new _ _ _) (by simp [Value.oneCell']) (by unfold maxLen; omega) (by omega) (by simp; omega) ?_; intro v' w2 hown2 hgrow _)
      go_roundw
      case rel => exact ⟨q + 1, by omega, by go_num, by rw [HS.out]; exact hown2, ((HB.out.alloc hbs _).alloc (by simp; omega) _).grown hgrow (by simp; omega) (fun j hj => (Ob.row_lt HOWN.out hj).1)⟩
      case measure => simp [intOf]; omega
    · obtain rfl : q = L.length := by omega
      rw [List.take_length] at hown
      have hle : (keyL L).length ≤ L.length := keyN_len L L.length
      rcases hown.2 with ⟨rfl, h0⟩ | ⟨g, cp, cur, rfl, _⟩
      · have hL0 : L = [] := List.eq_nil_of_length_eq_zero h0
        have HK0 := Lib.hid (show keyL L = [] by rw [hL0]; rfl)
        have HCP := Lib.hid (fun W => Try.slices_Compact_string_empty none 0 W)
        clear hL0 h0 hle hown
        go_wp2_with (go_at_call 55; (with_reducible refine (HCP.out _).mono ?_); rintro e w2 ⟨rfl, rfl⟩)
        exact bodyPost_ret (v := .slice none 0 0) (by simp [results, Try.results32, go_sem]) rfl ⟨_, rfl, by rw [HK0.out]; exact World.ownsRow_nil _ _ _ _, hB⟩
      · have hsc : sc8 (L.map (·.key)) = (L.map (·.key)).map encStr := rfl
        rw [hsc] at hown
        obtain ⟨g', cp', e1, hbg, hgl, hnc, hcm, _, hH⟩ := Lib.holds_of_ownsRow hown (by simp)
        injection e1 with e1 _ e3
        injection e1 with e1
        injection e1 with e1 _ _
        subst e1 e3
        have hc := fun nn (h : (L.map (·.key)).length = nn) => Try.slices_Compact_string g 0 cp (L.map (·.key)) wr hH (by simp; omega) (by simpa using hnc)
        rw [compact_keys] at hc
        have hc2 := hc L.length (by simp)
        rw [List.length_map] at hc2
        have HCP := Lib.hid hc2
        have HOWN := Lib.hid hown
        have HB := Lib.hid hB
        clear hc hc2 hown hB hH hsc
        go_wp2_with (go_at_call 55; (with_reducible refine HCP.out.mono ?_); rintro e w2 ⟨rfl, nq, hw2⟩)
        have hR := Lib.ownsRow_putRow (q := nq) (k := (keyL L).length) (ys := keyL L ++ List.replicate (L.length - (keyL L).length) []) HOWN.out (by simp; omega) hle
        rw [List.take_left] at hR
        subst hw2
        exact bodyPost_ret (v := .slice (some ⟨g, 0, none⟩) (keyL L).length cp) (by simp [results, Try.results32, go_sem]) rfl ⟨_, rfl, hR, Lib.below_putRow HB.out hbg⟩

set_option maxRecDepth 100000 in
set_option maxHeartbeats 1000000 in
theorem putEnd_any (N : Int) (n : Nat) (w : World) (hN : N = n) (h1 : n < 4611686018427387904) :
    Calls Try.prog 34 #[.int .i64 N] w fun e w' => e = .returned (.string (Cd.bs (Fr.lit n))) ∧ Below w.heap.size w w' := by
  subst hN
  have HN := Lib.hid h1
  clear h1
  go_enter Try.func34, Try.ntmps34
  go_wp2_with fail
  go_loopw [5] (fun i wr => ∃ (k : Nat), k ≤ 4 ∧ i = .int .i64 k ∧ Row4 wr w.heap.size (Fr.litPart n k) ∧ Below w.heap.size w wr) (fun i _ => 4 - (intOf i).toNat)
  case atStart => exact ⟨0, Nat.zero_le _, rfl, Row4.new _ _ _, (Below.refl _ _).alloc (Nat.le_refl _) _⟩
  case round =>
    obtain ⟨k, hk, rfl, hr, hb⟩ := hrel
    by_cases hk4 : k < 4
    · have hc := (hr k hk4).1
      have hf := (hr k hk4).2
      have HR := Lib.hid hr
      clear hr
      go_wp2
      go_roundw
      case rel => exact ⟨k + 1, by omega, by go_num, HR.out.store hk4 (litByte_shr n k), hb.setCell (p := ⟨w.heap.size, k, none⟩) (Nat.le_refl _) _⟩
      case measure => simp [intOf]; omega
    · obtain rfl : k = 4 := by omega
      have hcv := hr.conv (c := 4) (Fr.litPart_len _ _)
      go_wp2
      go_ret
      exact ⟨by rw [Fr.litPart_done]; rfl, hb⟩

set_option maxRecDepth 100000 in
set_option maxHeartbeats 1000000 in
theorem putF_any (K : Int) (c : UInt8) (hK : K = (c.toNat : Int)) (l : List UInt8) (w : World) (hs : l.length ≤ 140737488351232) :
    Calls Try.prog 33 #[.int .u8 K, .string (Cd.bs l)] w fun e w' => e = .returned (.string (Cd.bs (Fr.put c l).1)) ∧ Below w.heap.size w w' := by
  have HP := Lib.hid (fun W => framePutc_any K c hK l W hs)
  clear hK
  go_enter Try.func33, Try.ntmps33
  go_wp2_with (go_at_call 56; (with_reducible refine (HP.out _).mono ?_); rintro e w1 ⟨rfl, hb1⟩)
  go_ret
  exact ⟨rfl, hb1⟩

def footP (a b n : Nat) (k1 k2 : List UInt8) : List UInt8 := Cd.putU a ++ Cd.putU b ++ Cd.putU n ++ Cd.putT k1 ++ Cd.putT k2
/-- a foot's box, what was ahead kept -/
def FtBox (w W : World) (a b n : Int) (k1 k2 : List UInt8) : Prop :=
  Ob.Obj W w.heap.size 62 [.int .u64 a, .int .u64 b, .int .u64 n, .string (Cd.bs k1), .string (Cd.bs k2)] ∧ Below w.heap.size w W
theorem FtBox.next {w W W' : World} {a b n : Int} {k1 k2 : List UInt8} (h : FtBox w W a b n k1 k2) (hb : Below W.heap.size W W') : FtBox w W' a b n k1 k2 := ⟨h.1.below hb, h.2.trans (hb.mono h.2.size)⟩
theorem FtBox.cells {w W : World} {a b n : Int} {k1 k2 : List UInt8} (h : FtBox w W a b n k1 k2) : FtBox w W a b n k1 k2 ∧ W.cell? ⟨w.heap.size, 0, none⟩ = some (.int .u64 a) ∧ W.cell? ⟨w.heap.size, 1, none⟩ = some (.int .u64 b) ∧ W.cell? ⟨w.heap.size, 2, none⟩ = some (.int .u64 n) ∧ W.cell? ⟨w.heap.size, 3, none⟩ = some (.string (Cd.bs k1)) ∧ W.cell? ⟨w.heap.size, 4, none⟩ = some (.string (Cd.bs k2)) :=
  ⟨h, h.1.cell 0, h.1.cell 1, h.1.cell 2, h.1.cell 3, h.1.cell 4⟩

set_option maxRecDepth 100000 in
set_option maxHeartbeats 4000000 in
theorem putFoot_any (A B N : Int) (a b n : Nat) (hA : A = a) (hB : B = b) (hN : N = n) (ha : a < 18446744073709551616) (hb : b < 18446744073709551616) (hn : n < 18446744073709551616) (k1 k2 : List UInt8) (h1 : k1.length ≤ 1048576) (h2 : k2.length ≤ 1048576) (w : World) :
    Calls Try.prog 35 #[.agg #[.int .u64 A, .int .u64 B, .int .u64 N, .string (Cd.bs k1), .string (Cd.bs k2)]] w fun e w' => e = .returned (.string (Cd.bs (footP a b n k1 k2))) ∧ Below w.heap.size w w' := by
  have HP1 := Lib.hid (fun W => putUc_at A a W hA ha)
  have HP2 := Lib.hid (fun W => putUc_at B b W hB hb)
  have HP3 := Lib.hid (fun W => putUc_at N n W hN hn)
  have HT1 := Lib.hid (fun W => putTc_at k1 W h1)
  have HT2 := Lib.hid (fun W => putTc_at k2 W h2)
  have l1 := Cd.putU_len10 a ha
  have l2 := Cd.putU_len10 b hb
  have l3 := Cd.putU_len10 n hn
  have l4 := putT_len k1 (by omega)
  have l5 := putT_len k2 (by omega)
  have HF := Lib.hid (show footP a b n k1 k2 = Cd.putU a ++ Cd.putU b ++ Cd.putU n ++ Cd.putT k1 ++ Cd.putT k2 from rfl)
  clear hA hB hN ha hb hn
  generalize footP a b n k1 k2 = r at *
  generalize Cd.putU a = p1 at *
  generalize Cd.putU b = p2 at *
  generalize Cd.putU n = p3 at *
  generalize Cd.putT k1 = p4 at *
  generalize Cd.putT k2 = p5 at *
  have HR := Lib.hid (show Value.string (Cd.bs p1 ++ Cd.bs p2 ++ Cd.bs p3 ++ Cd.bs p4 ++ Cd.bs p5) = .string (Cd.bs r) by rw [HF.out]; simp only [Cd.bs, ByteArray.mk_append_mk])
  have q1 : ¬ 9223372036854775807 < p1.length + p2.length := by omega
  have q2 : ¬ 9223372036854775807 < p1.length + p2.length + p3.length := by omega
  have q3 : ¬ 9223372036854775807 < p1.length + p2.length + p3.length + p4.length := by omega
  have q4 : ¬ 9223372036854775807 < p1.length + p2.length + p3.length + p4.length + p5.length := by omega
  have hX : FtBox w ((w.alloc (.cells #[.int .u64 A, .int .u64 B, .int .u64 N, .string (Cd.bs k1), .string (Cd.bs k2)] 62)).drew) A B N k1 k2 :=
    ⟨(Ob.Obj.new w 62 [.int .u64 A, .int .u64 B, .int .u64 N, .string (Cd.bs k1), .string (Cd.bs k2)]).drew, ((Below.refl _ _).alloc (Nat.le_refl _) _).drew⟩
  have HS1 := Lib.hid hX.cells
  clear hX
  go_enter Try.func35, Try.ntmps35
  go_wp2_with fail
  go_region_held3 (fun W => FtBox w W A B N k1 k2 ∧ W.cell? ⟨w.heap.size, 0, none⟩ = some (.int .u64 A) ∧ W.cell? ⟨w.heap.size, 1, none⟩ = some (.int .u64 B) ∧ W.cell? ⟨w.heap.size, 2, none⟩ = some (.int .u64 N) ∧ W.cell? ⟨w.heap.size, 3, none⟩ = some (.string (Cd.bs k1)) ∧ W.cell? ⟨w.heap.size, 4, none⟩ = some (.string (Cd.bs k2)))
    (first | exact HS1.out | exact ((show FtBox w _ A B N k1 k2 from (by assumption : _ ∧ _).1).next hb2).cells)
    (first
    | (go_at_call 47; (with_reducible refine (HP1.out _).mono ?_); rintro e w2 ⟨rfl, hb2⟩)
    | (go_at_call 47; (with_reducible refine (HP2.out _).mono ?_); rintro e w2 ⟨rfl, hb2⟩)
    | (go_at_call 47; (with_reducible refine (HP3.out _).mono ?_); rintro e w2 ⟨rfl, hb2⟩)
    | (go_at_call 48; (with_reducible refine (HT1.out _).mono ?_); rintro e w2 ⟨rfl, hb2⟩)
    | (go_at_call 48; (with_reducible refine (HT2.out _).mono ?_); rintro e w2 ⟨rfl, hb2⟩))
  all_goals go_wp2_with fail
  all_goals go_ret
  all_goals rename_i hS
  all_goals exact ⟨by rw [← HR.out]; rfl, hS.1.2⟩
end Tb
end Go.Proofs.Ytiijkneomecmiaa

/-
  The program's blocks of versions (table.EncodeBlock).
-/
namespace Go.Proofs.Ytiijkneomecmiaa
open Go.RowKit
set_option linter.unusedSimpArgs false
set_option linter.unusedVariables false
namespace Tb
open Mt (Ver mayB lessB placeB VerIn verV)
open Vs (Vers At)

/-- the place of the last of the first q versions -/
def aq (L : List Ver) (q : Nat) : List UInt8 := if q = 0 then [] else encKey (L.getD (q - 1) ver0)
theorem aq_len (L : List Ver) (q : Nat) : (aq L q).length ≤ 202 := by
  unfold aq; split
  · simp
  · exact enc_len _
theorem aq_succ {L : List Ver} {q : Nat} (h : q < L.length) : aq L (q + 1) = encKey L[q] := by unfold aq; rw [if_neg (by omega), Nat.add_sub_cancel, getD_at h]
theorem ahd_aq (L : List Ver) (q : Nat) : (if q % 16 = 0 then [] else aq L q) = ahd L q := by
  unfold aq ahd
  by_cases h : q % 16 = 0
  · rw [if_pos h, if_pos h]
  · rw [if_neg h, if_neg h, if_neg (by intro e; subst e; exact h rfl)]
theorem Wr.new (W : World) : Wr (fun k => k = W.heap.size) (W.alloc (.cells #[.slice none 0 0, .int .i64 0, .string ⟨#[]⟩] 50)) W.heap.size none 0 [] 0 [] :=
  ⟨Ob.Obj.new W 50 [.slice none 0 0, .int .i64 0, .string ⟨#[]⟩], World.ownsRow_nil _ _ _ _, rfl, fun g hg => by simp [Value.ownBlock] at hg, fun k hk => by subst hk; simp⟩
theorem Mid.below {R : Sq.Blocks} {W0 W W' : World} {b : Nat} {l : List UInt8} {many : Nat} {ahead : List UInt8} (h : Mid R W0 b l many ahead W) (hb : Below W.heap.size W W') : Mid R W0 b l many ahead W' :=
  let ⟨R', ao, cap, h1, h2⟩ := h; ⟨R', ao, cap, h1.below hb, h2.trans (Sq.Step.below hb)⟩
theorem Mid.trans {R R' : Sq.Blocks} {W0 W W' : World} {b : Nat} {l : List UInt8} {many : Nat} {ahead : List UInt8} (h : Mid R' W b l many ahead W') (hs : Sq.Step R R' W0 W) : Mid R W0 b l many ahead W' :=
  let ⟨R2, ao, cap, h1, h2⟩ := h; ⟨R2, ao, cap, h1, hs.trans h2⟩

set_option maxRecDepth 100000 in
set_option maxHeartbeats 4000000 in
theorem encBlkOk : EncBlkOk := by
  intro v L w hV hI hL
  have HK := Lib.hid (check_any v L w hV hI (by omega))
  have hE : encBlk L = if rising L = 0 then (blk L, 0) else ([], rising L) := rfl
  have hm := @rising_may L
  by_cases h : rising L = 0
  · rw [if_pos h] at hE
    rw [hE]
    unfold encBlkV
    simp only
    rw [h] at HK
    have HM := Lib.hid (hm h)
    have HLen := Lib.hid (blkN_len (L := L) (fun x hx => (may_seq (hm h x hx)).2.2.2.2.1))
    obtain ⟨a, cap, fb, fo, rfl, ha, hcells⟩ := hV
    have HC := Lib.hid hcells
    clear hcells hI hE hm h
    go_enter Try.func11, Try.ntmps11
    go_wp2_with (go_at_call 26; (with_reducible refine HK.out.mono ?_); rintro e w1 ⟨rfl, hb1⟩)
    have hN := Wr.new w1
    obtain ⟨wA, hwA⟩ : ∃ wA, wA = w1.alloc (.cells #[.slice none 0 0, .int .i64 0, .string ⟨#[]⟩] 50) := ⟨_, rfl⟩
    have hbA : Below w.heap.size w wA := by rw [hwA]; exact hb1.alloc hb1.size _
    have hzA : w1.heap.size < wA.heap.size := by rw [hwA]; simp
    rw [← hwA] at hN ⊢
    obtain ⟨bb, hbb⟩ : ∃ bb, bb = w1.heap.size := ⟨_, rfl⟩
    rw [← hbb] at hN hzA ⊢
    have hbw : w.heap.size ≤ bb := by rw [hbb]; exact hb1.size
    have HN := Lib.hid hN
    have HBA := Lib.hid hbA
    have hsA : w.heap.size ≤ wA.heap.size := hbA.size
    clear hwA hbb hb1 hN hbA
    go_loopw [15] (fun i wr => ∃ q : Nat, q ≤ L.length ∧ i = .int .i64 (q : Int) ∧ Mid (fun k => k = bb) wA bb (blkN L q) q (aq L q) wr) (fun i _ => L.length - (intOf i).toNat)
    case atStart => exact ⟨0, Nat.zero_le _, rfl, _, _, _, HN.out, Sq.Step.refl _ _⟩
    case round =>
      obtain ⟨q, hq, rfl, R', ao, capw, hw, hst⟩ := hrel
      have hbr : Below w.heap.size w wr := HBA.out.trans (hst.kept.below (fun k hk hr => by have hr2 : k = bb := hr; omega) hsA)
      have hbs := hbr.size
      have HWr := Lib.hid hw
      have HST := Lib.hid hst
      have HBR := Lib.hid hbr
      by_cases hlt : q < L.length
      · obtain ⟨rfl, hfb⟩ := ha (by omega)
        obtain ⟨e0, e1, e2, e3⟩ := (HC.out q hlt).below hbr hfb
        have hfr : fb < wr.heap.size := by omega
        have hmq := HM.out L[q] (List.getElem_mem hlt)
        have hlq := HLen.out q
        have hlo : blkN L (q + 1) = blkN L q ++ ent L[q] (if q % 16 = 0 then [] else aq L q) := by rw [blkN_succ, getD_at hlt, ahd_aq]
        have HAQ := Lib.hid (aq_succ hlt)
        have HA := Lib.hid (fun W (hb : Below wr.heap.size wr W) => add_any (hw.below hb) L[q] hmq (by omega) (by omega) (aq_len L q) (blkN L (q + 1)) hlo (q + 1) rfl)
        have hi1 : (0 : Int) ≤ (q : Int) ∧ (q : Int) < (L.length : Int) := by omega
        clear hlo hmq hw hst hbr
        generalize L[q] = x at *
        obtain ⟨k, sq, d, val⟩ := x
        unfold verV at HA
        simp only at HA e0 e1 e2 e3
        go_wp2_with (go_at_call 27; (with_reducible refine (HA.out _ (by repeat (first | exact Below.refl _ _ | (refine Below.setCell ?_ ?_ _) | (refine Below.alloc ?_ ?_ _) | exact Nat.le_refl _ | (focus (simp; done)) | (focus (simp; omega))))).mono ?_); rintro e w2 ⟨rfl, hM2⟩)
        go_roundw
        case rel =>
          refine ⟨q + 1, by omega, by go_num, ?_⟩
          rw [HAQ.out]
          refine hM2.trans (HST.out.trans (Sq.Step.below ?_))
          repeat (first | exact Below.refl _ _ | (refine Below.setCell ?_ ?_ _) | (refine Below.alloc ?_ ?_ _) | exact Nat.le_refl _ | (focus (simp; done)) | (focus (simp; omega)))
        case measure => simp [intOf]; omega
      · obtain rfl : q = L.length := by omega
        have HBK := Lib.hid (show blkN L L.length = blk L from rfl)
        have hcv := conv_any hw.row
        obtain ⟨k0, k1, k2, _, _, _⟩ := cells3 hw
        have hbl := hw.lt
        clear hw hst hbr
        generalize blkN L L.length = zb at *
        go_wp2_with fail
        go_ret2
        exact ⟨by rw [← HBK.out]; rfl, HBR.out⟩
  · rw [if_neg h] at hE
    rw [hE]
    unfold encBlkV
    simp only
    generalize rising L = r at *
    have hr : ((r : Int) == 0) = false := by simp; omega
    clear hE hm hV
    go_enter Try.func11, Try.ntmps11
    go_wp2_with (go_at_call 26; (with_reducible refine HK.out.mono ?_); rintro e w1 ⟨rfl, hb1⟩)
    go_ret2
    exact ⟨rfl, hb1⟩
end Tb
end Go.Proofs.Ytiijkneomecmiaa

/-
  Plain mathematics of chapter 8: the blocks of a list as the program cuts them, one version by one.
-/
namespace Go.Proofs.Ytiijkneomecmiaa
open Go.RowKit
namespace Tb
open Mt (Ver mayB lessB placeB VerIn verV)
set_option linter.unusedSimpArgs false
def cutP (block : Int) (L : List Ver) (st : List (Nat × Nat) × Nat) (i : Nat) : List (Nat × Nat) × Nat :=
  if block ≤ ((blk (part L (st.2, i + 1 - st.2))).length : Int) then (st.1 ++ [(st.2, i + 1 - st.2)], i + 1) else st
def cutPN (block : Int) (L : List Ver) (n : Nat) : List (Nat × Nat) × Nat := (List.range n).foldl (cutP block L) ([], 0)
theorem cutPN_succ (block : Int) (L : List Ver) (n : Nat) : cutPN block L (n + 1) = cutP block L (cutPN block L n) n := by
  unfold cutPN; rw [List.range_succ, List.foldl_append]; rfl
theorem cutPN_le (block : Int) (L : List Ver) : ∀ n, (cutPN block L n).2 ≤ n
  | 0 => Nat.le_refl _
  | n + 1 => by
    have := cutPN_le block L n
    rw [cutPN_succ]; unfold cutP
    split
    · exact Nat.le_refl _
    · omega
theorem cutN_eq (block : Int) (L : List Ver) : ∀ n, n < L.length → cutN block L n = cutPN block L n
  | 0, _ => rfl
  | n + 1, h => by
    rw [cutN_succ, cutPN_succ, cutN_eq block L n (by omega)]
    unfold cutStep cutP part
    have hn : ¬ n + 1 = L.length := by omega
    simp only [hn, or_false]
theorem cuts_eq (block : Int) (L : List Ver) : cuts block L = (cutPN block L L.length).1 ++ (if (cutPN block L L.length).2 < L.length then [((cutPN block L L.length).2, L.length - (cutPN block L L.length).2)] else []) := by
  unfold cuts
  cases hl : L.length with
  | zero => rfl
  | succ m =>
    rw [cutN_succ, cutPN_succ, cutN_eq block L m (by omega)]
    have hle := cutPN_le block L m
    generalize cutPN block L m = st at *
    unfold cutStep cutP part
    rw [if_pos (.inr hl.symm)]
    by_cases h : block ≤ ((blk ((L.drop st.2).take (m + 1 - st.2))).length : Int)
    · rw [if_pos h]; simp
    · rw [if_neg h]; simp only; rw [if_pos (by omega)]
theorem cutPN_mono (block : Int) (L : List Ver) (n : Nat) : ∀ k, (cutPN block L n).1 <+: (cutPN block L (n + k)).1
  | 0 => List.prefix_refl _
  | k + 1 => by
    refine (cutPN_mono block L n k).trans ?_
    rw [← Nat.add_assoc, cutPN_succ]
    unfold cutP
    split
    · exact ⟨_, rfl⟩
    · exact List.prefix_refl _
theorem cutPN_pre (block : Int) (L : List Ver) (n : Nat) (h : n ≤ L.length) : (cutPN block L n).1 <+: cuts block L := by
  obtain ⟨k, hk⟩ : ∃ k, L.length = n + k := ⟨L.length - n, by omega⟩
  have h1 := cutPN_mono block L n k
  rw [← hk] at h1
  rw [cuts_eq]
  exact h1.trans ⟨_, rfl⟩
/-- what a block is told as: how many versions, its bytes -/
def piece (L : List Ver) (p : Nat × Nat) : Nat × List UInt8 := (p.2, blk (part L p))
def pieces (block : Int) (L : List Ver) : List (Nat × List UInt8) := (cuts block L).map (piece L)
theorem blkN_take (L : List Ver) (m : Nat) (h : m ≤ L.length) : blk (L.take m) = blkN L m := by
  unfold blk blkN
  rw [List.length_take, Nat.min_eq_left h]
  rw [List.flatMap_def, List.flatMap_def]
  refine congrArg List.flatten (List.map_congr_left fun i hi => ?_)
  have hi := List.mem_range.1 hi
  have e : ∀ j, j < m → (L.take m).getD j ver0 = L.getD j ver0 := fun j hj => by
    rw [List.getD_eq_getElem?_getD, List.getD_eq_getElem?_getD, List.getElem?_take, if_pos hj]
  unfold ahd
  rw [e i hi, e (i - 1) (by omega)]
theorem blk_part (L : List Ver) (s m : Nat) (h : s + m ≤ L.length) : blk (part L (s, m)) = blkN (L.drop s) m := by
  unfold part
  exact blkN_take _ _ (by simp; omega)
end Tb
end Go.Proofs.Ytiijkneomecmiaa

/-
  The program's blocks of a list, told by a range over a function (table.cut).
-/
namespace Go.Proofs.Ytiijkneomecmiaa
open Go.RowKit Go.Shelf
set_option linter.unusedSimpArgs false
set_option linter.unusedVariables false
namespace Tb
open Mt (Ver mayB lessB placeB VerIn verV)
open Vs (Vers At)
attribute [local go_sem] Oper.semAt_some

/-- what the iterator's boxes hold -/
def CBox (w : World) (B : Nat) (block : Int) (a : Option Addr) (n cap : Nat) : Prop :=
  Boxed w B 3 (.int .i64 block) ∧ Boxed w (B + 1) 31 (.slice a n cap)
theorem CBox.kept {w w' : World} {B : Nat} {block : Int} {a : Option Addr} {n cap : Nat} {T : Sq.Blocks} (h : CBox w B block a n cap) (hk : Sq.Kept T w w') (h1 : T B) (h2 : T (B + 1)) : CBox w' B block a n cap :=
  ⟨hk.boxed h1 h.1, hk.boxed h2 h.2⟩
def cutW (w : World) (block : Int) (a : Option Addr) (n cap : Nat) : World :=
  (w.alloc (.cells #[.int .i64 block] 3)).alloc (.cells #[.slice a n cap] 31)
abbrev cutV (B : Nat) : Value := .func (.func 64) #[] #[.pointer (some ⟨B + 1, 0, none⟩), .pointer (some ⟨B, 0, none⟩)]
theorem cutW_size (w : World) (block : Int) (a : Option Addr) (n cap : Nat) : (cutW w block a n cap).heap.size = w.heap.size + 2 := by unfold cutW; simp
theorem cutW_kept (w : World) (block : Int) (a : Option Addr) (n cap : Nat) (T : Sq.Blocks) : Sq.Kept T w (cutW w block a n cap) := by
  unfold cutW; exact (Sq.Kept.alloc _ _ _).trans (Sq.Kept.alloc _ _ _)
theorem cutW_box (w : World) (block : Int) (a : Option Addr) (n cap : Nat) : CBox (cutW w block a n cap) w.heap.size block a n cap := by
  unfold cutW
  refine ⟨(Boxed.new w _ _).alloc _, ?_⟩
  have := Boxed.new (w.alloc (.cells #[.int .i64 block] 3)) 31 (.slice a n cap)
  rwa [World.size_alloc] at this

set_option maxHeartbeats 1000000 in
theorem cut_in (n : Nat) (block : Int) (a : Option Addr) (m cap : Nat) (w : World) :
    CallsIn Fence.wide n Try.prog 50 #[.int .i64 block, .slice a m cap] w fun e w' => e = .returned (cutV w.heap.size) ∧ w' = cutW w block a m cap := by
  refine callsIn_of_wp Try.func50 rfl trivial ?_ rfl
  simp only [Try.ntmps50, List.size_toArray, List.length_cons, List.length_nil, Nat.reduceAdd, Nat.reduceSub, Array.replicate_succ, Array.replicate_zero, List.push_toArray, List.append_toArray, List.nil_append, List.cons_append]
  gi_wp2
  go_ret
  exact ⟨rfl, rfl⟩

abbrev cEnc (x : Nat × List UInt8) : Array Value := #[.int .i64 (x.1 : Int), .string (Cd.bs x.2)]
theorem Wr.newR {R : Sq.Blocks} {W : World} (hR : ∀ k, R k ↔ k = W.heap.size) : Wr R (W.alloc (.cells #[.slice none 0 0, .int .i64 0, .string ⟨#[]⟩] 50)) W.heap.size none 0 [] 0 [] :=
  ⟨Ob.Obj.new W 50 [.slice none 0 0, .int .i64 0, .string ⟨#[]⟩], World.ownsRow_nil _ _ _ _, (hR _).2 rfl, fun g hg => by simp [Value.ownBlock] at hg, fun k hk => by have := (hR k).1 hk; subst this; simp⟩
theorem At.kept {T : Sq.Blocks} {W W' : World} {b o : Nat} {x : Ver} (h : At W b o x) (hk : Sq.Kept T W W') (hT : T b) : At W' b o x :=
  ⟨hk.cell (p := ⟨b, o, none⟩) hT h.1, hk.cell (p := ⟨b, o + 1, none⟩) hT h.2.1, hk.cell (p := ⟨b, o + 2, none⟩) hT h.2.2.1, hk.cell (p := ⟨b, o + 3, none⟩) hT h.2.2.2⟩

/-- how far the iterator is -/
structure CI (J : Sq.Blocks → List (Nat × List UInt8) → World → Prop) (T : Sq.Blocks) (W : World) (block : Int) (L : List Ver) (bw q s : Nat) (cs : List (Nat × Nat)) (R : Sq.Blocks) (ao : Option Addr) (cp : Nat) (wr : World) : Prop where
  cut : cutPN block L q = (cs, s)
  le : s ≤ q
  wri : Wr R wr bw ao cp (blkN (L.drop s) (q - s)) (q - s) (aq (L.drop s) (q - s))
  jj : J R (cs.map (piece L)) wr
  kept : Sq.Kept T W wr
  low : ∀ k, R k → W.heap.size ≤ k
theorem blkN_mono (L : List Ver) (m : Nat) : blkN L (m + 1) = blkN L m ++ ent (L.getD m ver0) (if m % 16 = 0 then [] else aq L m) := by rw [blkN_succ, ahd_aq]
theorem drop_get {L : List Ver} {s q : Nat} (hs : s ≤ q) (h : q < L.length) : (L.drop s).getD (q - s) ver0 = L[q] := by
  rw [List.getD_eq_getElem?_getD, List.getElem?_drop, show s + (q - s) = q by omega, List.getElem?_eq_getElem h]; rfl
/-- the writer is laid anew -/
theorem Wr.reset {R : Sq.Blocks} {W : World} {b : Nat} {ao : Option Addr} {cap : Nat} {l : List UInt8} {many : Nat} {ahead : List UInt8} (h : Wr R W b ao cap l many ahead) {W' : World} (hk : Sq.Step R R W W') (ho : Ob.Obj W' b 50 [.slice none 0 0, .int .i64 0, .string ⟨#[]⟩]) : Wr R W' b none 0 [] 0 [] :=
  ⟨ho, World.ownsRow_nil _ _ _ _, h.inb, fun g hg => by simp [Value.ownBlock] at hg, fun k hk' => Nat.lt_of_lt_of_le (h.lo k hk') hk.kept.size⟩

set_option maxRecDepth 100000 in
set_option maxHeartbeats 8000000 in
theorem cut1_seq (n : Nat) (hn : 1 ≤ n) (block : Int) (hb0 : -9223372036854775808 ≤ block ∧ block ≤ 9223372036854775807) (a : Option Addr) (cap fb fo : Nat) (L : List Ver) (hm : ∀ x ∈ L, mayB x = true) (hL : L.length ≤ 1048576)
    (T : Sq.Blocks) (B : Nat) (w : World) (hB : CBox w B block a L.length cap) (hT0 : T B) (hT1 : T (B + 1)) (hTl : ∀ k, T k → k < w.heap.size)
    (ha : 0 < L.length → a = some ⟨fb, fo, none⟩ ∧ T fb) (hcells : ∀ j (h : j < L.length), At w fb (fo + j * 4) L[j]) :
    Sq.SeqC Fence.wide n Try.prog 64 #[.pointer (some ⟨B + 1, 0, none⟩), .pointer (some ⟨B, 0, none⟩)] cEnc T (fun ys => ys = pieces block L) (fun pre => pre <+: pieces block L) w := by
  intro lp J Jx W hW hJ hJx hY h0
  have hBW := hB.kept hW hT0 hT1
  have HC := Lib.hid (fun j (h : j < L.length) (hT : T fb) => At.kept (hcells j h) hW hT)
  have HM := Lib.hid hm
  have HLen := Lib.hid (fun s => blkN_len (L := L.drop s) (fun x hx => (may_seq (hm x (List.mem_of_mem_drop hx))).2.2.2.2.1))
  have HTl := Lib.hid (fun k (h : T k) => Nat.lt_of_lt_of_le (hTl k h) hW.size)
  clear hcells hm hTl
  have c0 := hBW.1.cell
  have c1 := hBW.2.cell
  have l0 := hBW.1.lt
  have l1 := hBW.2.lt
  have hJ1 := hJ _ _ _ _ _ h0 (Sq.Step.alloc _ W (.cells #[.slice none 0 0, .int .i64 0, .string ⟨#[]⟩] 50))
  have hN := Wr.newR (R := fun k => False ∨ k = W.heap.size) (W := W) (by simp)
  have hKA := Sq.Kept.alloc T W (.cells #[.slice none 0 0, .int .i64 0, .string ⟨#[]⟩] 50)
  refine callsIn_of_wp Try.func64 rfl trivial ?_ rfl
  simp only [Try.ntmps64, List.size_toArray, List.length_cons, List.length_nil, Nat.reduceAdd, Nat.reduceSub, Array.replicate_succ, Array.replicate_zero, List.push_toArray, List.append_toArray, List.nil_append, List.cons_append]
  gi_wp2_with fail
  obtain ⟨bw, hbw⟩ : ∃ bw, W.heap.size = bw := ⟨_, rfl⟩
  obtain ⟨WA, hWA⟩ : ∃ WA, W.alloc (.cells #[.slice none 0 0, .int .i64 0, .string ⟨#[]⟩] 50) = WA := ⟨_, rfl⟩
  rw [hWA] at hJ1 hN hKA ⊢
  have hci : CI J T W block L bw 0 0 [] (fun k => False ∨ k = W.heap.size) none 0 WA := ⟨rfl, Nat.le_refl _, by rw [← hbw]; exact hN, hJ1, hKA, fun k hk => by rcases hk with h | h; exact h.elim; omega⟩
  have HBW := Lib.hid hBW
  rw [hbw]
  clear hJ1 hN hKA hWA hBW
  gi_loopw [9] (fun iv wr => ∃ (q s : Nat) (cs : List (Nat × Nat)) (R : Sq.Blocks) (ao : Option Addr) (cp : Nat), q ≤ L.length ∧ iv = .int .i64 (q : Int) ∧ CI J T W block L bw q s cs R ao cp wr) (fun i _ => L.length - (intOf i).toNat)
  case atStart => exact ⟨0, 0, [], _, none, 0, Nat.zero_le _, rfl, hci⟩
  case round =>
    obtain ⟨q, s, cs, R, ao, cp, hq, rfl, hc⟩ := hrel
    have HCI := Lib.hid hc
    have hsz := hc.kept.size
    have hsq := hc.le
    have c0r := (hc.kept.boxed hT0 HBW.out.1).cell
    have hwl := hc.wri.lt
    clear hc
    by_cases hlt : q < L.length
    · obtain ⟨rfl, hTf⟩ := ha (by omega)
      obtain ⟨e0, e1, e2, e3⟩ := At.kept (HC.out q hlt hTf) HCI.out.kept hTf
      have hfr : fb < wr.heap.size := Nat.lt_of_lt_of_le (HTl.out fb hTf) hsz
      have hmq := HM.out L[q] (List.getElem_mem hlt)
      have hlq := HLen.out s (q - s)
      have hlq2 := HLen.out s (q + 1 - s)
      have hlo : blkN (L.drop s) (q + 1 - s) = blkN (L.drop s) (q - s) ++ ent L[q] (if (q - s) % 16 = 0 then [] else aq (L.drop s) (q - s)) := by rw [show q + 1 - s = (q - s) + 1 by omega, blkN_mono, drop_get hsq hlt]
      have haq : aq (L.drop s) (q + 1 - s) = encKey L[q] := by rw [show q + 1 - s = (q - s) + 1 by omega, aq_succ (by simp; omega)]; congr 1; rw [List.getElem_drop]; congr 1; omega
      have HA := Lib.hid (fun W' (hb : Below wr.heap.size wr W') => add_any (HCI.out.wri.below hb) L[q] hmq (by omega) (by omega) (aq_len _ _) (blkN (L.drop s) (q + 1 - s)) hlo (q + 1 - s) (by omega))
      have hnext := cutPN_succ block L q
      rw [HCI.out.cut] at hnext
      have hbp : blk (part L (s, q + 1 - s)) = blkN (L.drop s) (q + 1 - s) := blk_part L s (q + 1 - s) (by omega)
      have hpre := cutPN_pre block L (q + 1) (by omega)
      have hRT : Hid (∀ k, T k → ¬ R k) := fun k hk hr => by have := HCI.out.low k hr; have := HTl.out k hk; omega
      have hi1 : (0 : Int) ≤ (q : Int) ∧ (q : Int) < (L.length : Int) := by omega
      -- behind the adding: the writer, what the caller says, what is kept
      have hADD : Hid (∀ wX w2, Below wr.heap.size wr wX → Mid R wX bw (blkN (L.drop s) (q + 1 - s)) (q + 1 - s) (encKey L[q]) w2 → ∃ R2 ao2 cp2, Wr R2 w2 bw ao2 cp2 (blkN (L.drop s) (q + 1 - s)) (q + 1 - s) (aq (L.drop s) (q + 1 - s)) ∧ J R2 (cs.map (piece L)) w2 ∧ Sq.Kept T W w2 ∧ (∀ k, R2 k → W.heap.size ≤ k) ∧ B < w2.heap.size ∧ w2.cell? ⟨B, 0, none⟩ = some (.int .i64 block)) := by
        rintro wX w2 hb ⟨R2, ao2, cp2, h1, h2⟩
        have st := (Sq.Step.below (R := R) hb).trans h2
        have hk2 := HCI.out.kept.trans (st.kept.less (fun k hk _ => hRT k hk))
        refine ⟨R2, ao2, cp2, by rw [haq]; exact h1, hJ _ _ _ _ _ HCI.out.jj st, hk2, fun k hk => ?_, ?_, (hk2.boxed hT0 HBW.out.1).cell⟩
        · rcases st.new k hk with h | h
          · exact HCI.out.low k h
          · omega
        · have := hk2.size; omega
      clear hlo hmq hwl
      unfold cutP at hnext
      simp only [hbp] at hnext
      have HLL := Lib.hid hlq2
      clear hlq hlq2
      have HHP := Lib.hid hpre
      clear hpre
      generalize hx : L[q] = x at *
      obtain ⟨k, sq, d, val⟩ := x
      unfold verV at HA
      simp only at HA e0 e1 e2 e3
      by_cases hblk : block ≤ ((blkN (L.drop s) (q + 1 - s)).length : Int)
      · rw [if_pos hblk] at hnext
        have HNX := Lib.hid hnext
        rw [hnext] at HHP
        have hpp : (cs.map (piece L)) ++ [(q + 1 - s, blkN (L.drop s) (q + 1 - s))] = (cs ++ [(s, q + 1 - s)]).map (piece L) := by rw [List.map_append, ← hbp]; rfl
        have HPC := Lib.hid hpp
        have hprf : (cs.map (piece L)) ++ [(q + 1 - s, blkN (L.drop s) (q + 1 - s))] <+: pieces block L := by rw [hpp]; exact HHP.out.map _
        have HPF := Lib.hid hprf
        have HQ0 := Lib.hid (show blkN (L.drop (q + 1)) (q + 1 - (q + 1)) = [] ∧ aq (L.drop (q + 1)) (q + 1 - (q + 1)) = [] by rw [Nat.sub_self]; exact ⟨rfl, rfl⟩)
        have hblk2 : ¬ ((blkN (L.drop s) (q + 1 - s)).length : Int) < block := by omega
        clear hnext haq hbp hx hpp hprf HHP hblk
        generalize blkN (L.drop s) (q + 1 - s) = lo at *
        generalize q + 1 - s = mo at *
        gi_wp2_with (refine ⟨trivial, ?_⟩; gi_at_call 27; (refine (callsIn_wide.2 (HA.out _ (by repeat (first | exact Below.refl _ _ | (refine Below.setCell ?_ ?_ _) | (refine Below.alloc ?_ ?_ _) | exact Nat.le_refl _ | (focus (simp; done)) | (focus (simp; omega)))))).mono ?_); rintro e w2 ⟨rfl, hM2⟩; obtain ⟨R2, ao2, cp2, hw2, hj2, hk2, hl2, hBl2, cB2⟩ := hADD.out _ _ (by repeat (first | exact Below.refl _ _ | (refine Below.setCell ?_ ?_ _) | (refine Below.alloc ?_ ?_ _) | exact Nat.le_refl _ | (focus (simp; done)) | (focus (simp; omega)))) hM2; obtain ⟨d0, d1, d2, fd0, fd1, fd2⟩ := cells3 hw2; have hwl2 := hw2.lt; have HW2 := Lib.hid hw2; have HJ2 := Lib.hid hj2; have HK2 := Lib.hid hk2; have HL2 := Lib.hid hl2; have hcv := conv_any hw2.row; obtain ⟨fn, tmps, assign, body, hy, hR⟩ := hY R2 _ (mo, lo) w2 hj2 (fun k hk => ⟨hl2 k hk, hw2.lo k hk⟩) HPF.out; have HRR := Lib.hid hR; simp only [cEnc] at hy; clear hM2 hw2 hj2 hk2 hl2 hR)
        refine HRR.out.mono ?_
        rintro e W3 (⟨rfl, hJ3, hk3⟩ | ⟨rfl, hJx3, hk3⟩)
        · have hw3 := HW2.out.kept hk3 (fun k hk => .inl hk)
          obtain ⟨z0, z1, z2, fz0, fz1, fz2⟩ := cells3 hw3
          have hwl3 := hw3.lt
          have hob3 := hw3.obj
          have HW3 := Lib.hid hw3
          have HK3 := Lib.hid (HK2.out.trans (hk3.less (fun k hk _ => .inr hk)))
          have HJ3 := Lib.hid hJ3
          have HOB3 := Lib.hid hob3
          clear hw3 hJ3 hob3 d0 d1 d2 fd0 fd1 fd2
          gi_wp2
          go_roundw
          case rel =>
            have st3 := (((Sq.Step.setCell W3 (p := ⟨bw, 0, none⟩) (.slice none 0 0) HW3.out.inb).trans (Sq.Step.setCell _ (p := ⟨bw, 1, none⟩) (.int .i64 0) HW3.out.inb)).trans (Sq.Step.setCell _ (p := ⟨bw, 2, none⟩) (.string ⟨#[]⟩) HW3.out.inb))
            have ho3 := ((HOB3.out.set 0 (.slice none 0 0)).set 1 (.int .i64 0)).set 2 (.string ⟨#[]⟩)
            simp only [List.set_cons_succ, List.set_cons_zero] at ho3
            refine ⟨q + 1, q + 1, _, R2, none, 0, by omega, by go_num, HNX.out, Nat.le_refl _, ?_, ?_, ?_, HL2.out⟩
            · rw [HQ0.out.1, HQ0.out.2, Nat.sub_self]
              exact HW3.out.reset st3 ho3
            · rw [← HPC.out]
              exact hJ _ _ _ _ _ HJ3.out st3
            · exact HK3.out.trans (st3.kept.less (fun k hk _ hr => by have := HL2.out k hr; have := HTl.out k hk; omega))
          case measure => simp [intOf]; omega
        · gi_wp2
          refine bodyPost_ret (results_none rfl _ _ _) rfl ?_
          exact ⟨⟨_, rfl⟩, .inr ⟨_, _, HPF.out, hJx3⟩⟩
      · rw [if_neg hblk] at hnext
        have HNX := Lib.hid hnext
        have hblk2 : ((blkN (L.drop s) (q + 1 - s)).length : Int) < block := by omega
        clear hnext haq hbp hx hblk
        generalize hlo2 : blkN (L.drop s) (q + 1 - s) = lo at *
        have HLO := Lib.hid hlo2
        clear hlo2
        gi_wp2_with (refine ⟨trivial, ?_⟩; gi_at_call 27; (refine (callsIn_wide.2 (HA.out _ (by repeat (first | exact Below.refl _ _ | (refine Below.setCell ?_ ?_ _) | (refine Below.alloc ?_ ?_ _) | exact Nat.le_refl _ | (focus (simp; done)) | (focus (simp; omega)))))).mono ?_); rintro e w2 ⟨rfl, hM2⟩; obtain ⟨R2, ao2, cp2, hw2, hj2, hk2, hl2, hBl2, cB2⟩ := hADD.out _ _ (by repeat (first | exact Below.refl _ _ | (refine Below.setCell ?_ ?_ _) | (refine Below.alloc ?_ ?_ _) | exact Nat.le_refl _ | (focus (simp; done)) | (focus (simp; omega)))) hM2; obtain ⟨d0, d1, d2, fd0, fd1, fd2⟩ := cells3 hw2; have hwl2 := hw2.lt; have HW2 := Lib.hid hw2; have HJ2 := Lib.hid hj2; have HK2 := Lib.hid hk2; have HL2 := Lib.hid hl2; clear hM2 hw2 hj2 hk2 hl2)
        go_roundw
        case rel => exact ⟨q + 1, s, cs, R2, ao2, cp2, by omega, by go_num, HNX.out, by omega, by rw [HLO.out]; exact HW2.out, HJ2.out, HK2.out, HL2.out⟩
        case measure => simp [intOf]; omega
    · obtain rfl : q = L.length := by omega
      obtain ⟨k0, k1, k2, fk0, fk1, fk2⟩ := cells3 HCI.out.wri
      have hcu := cuts_eq block L
      rw [HCI.out.cut] at hcu
      simp only at hcu
      by_cases hsl : s < L.length
      · rw [if_pos hsl] at hcu
        have hbp : blk (part L (s, L.length - s)) = blkN (L.drop s) (L.length - s) := blk_part L s (L.length - s) (by omega)
        have HPC := Lib.hid (show pieces block L = (cs.map (piece L)) ++ [(L.length - s, blkN (L.drop s) (L.length - s))] by unfold pieces; rw [hcu, List.map_append, ← hbp]; rfl)
        have hcv := conv_any HCI.out.wri.row
        have hlq2 := HLen.out s (L.length - s)
        have hmo : 0 < L.length - s := by omega
        have hwl := HCI.out.wri.lt
        have hY2 := fun mo lo (e1 : L.length - s = mo) (e2 : blkN (L.drop s) (L.length - s) = lo) => hY R (cs.map (piece L)) (mo, lo) wr HCI.out.jj (fun k hk => ⟨HCI.out.low k hk, HCI.out.wri.lo k hk⟩) (by rw [HPC.out, ← e1, ← e2]; exact List.prefix_refl _)
        have HP2 := Lib.hid (fun mo lo (e1 : L.length - s = mo) (e2 : blkN (L.drop s) (L.length - s) = lo) => show pieces block L = (cs.map (piece L)) ++ [(mo, lo)] by rw [HPC.out, e2, e1])
        clear hcu hbp HPC HCI
        generalize hlo : blkN (L.drop s) (L.length - s) = lo at *
        generalize hmo2 : L.length - s = mo at *
        have HP3 := Lib.hid (HP2.out mo lo rfl rfl)
        obtain ⟨fn, tmps, assign, body, hy, hR⟩ := hY2 mo lo rfl rfl
        have HRR := Lib.hid hR
        have hmi : (0 : Int) < (mo : Int) := by omega
        clear hlo hmo2 HP2 hY2 hR
        simp only [cEnc] at hy
        gi_wp2
        refine HRR.out.mono ?_
        rintro e W3 (⟨rfl, hJ3, hk3⟩ | ⟨rfl, hJx3, hk3⟩)
        · gi_wp2
          go_end0
          exact ⟨⟨_, rfl⟩, .inl ⟨_, _, HP3.out.symm, hJ3⟩⟩
        · gi_wp2
          go_end0
          exact ⟨⟨_, rfl⟩, .inr ⟨_, _, by rw [HP3.out]; exact List.prefix_refl _, hJx3⟩⟩
      · obtain rfl : s = L.length := by omega
        rw [if_neg hsl, List.append_nil] at hcu
        have HE := Lib.hid (show cs.map (piece L) = pieces block L by unfold pieces; rw [hcu])
        have HJJ := Lib.hid HCI.out.jj
        rw [Nat.sub_self] at k1
        clear hcu HCI
        gi_wp2
        go_end0
        exact ⟨⟨_, rfl⟩, .inl ⟨_, _, HE.out, HJJ.out⟩⟩
end Tb
end Go.Proofs.Ytiijkneomecmiaa

/-
  Plain mathematics of chapter 8: what has been put together behind the first blocks of a table, as the program does it.
-/
namespace Go.Proofs.Ytiijkneomecmiaa
open Go.RowKit
namespace Tb
open Mt (Ver mayB lessB placeB VerIn verV)
set_option linter.unusedSimpArgs false
/-- the data's frames, and the spans, of the first blocks -/
def bodyP (L : List Ver) (ps : List (Nat × Nat)) (n : Nat) : List UInt8 × List UInt8 := (ps.take n).foldl (bodyStep L) ([], [])
theorem body_shift (L : List Ver) : ∀ (ps : List (Nat × Nat)) (c d s : List UInt8), ps.foldl (bodyStep L) (d, c ++ s) = ((ps.foldl (bodyStep L) (d, s)).1, c ++ (ps.foldl (bodyStep L) (d, s)).2)
  | [], _, _, _ => rfl
  | p :: ps, c, d, s => by
    simp only [List.foldl_cons, bodyStep]
    rw [List.append_assoc, body_shift L ps c]
theorem bodyN_eq (L : List Ver) (ps : List (Nat × Nat)) (n : Nat) : bodyN L ps n = ((bodyP L ps n).1, Cd.putU ps.length ++ (bodyP L ps n).2) := by
  unfold bodyN bodyP
  have := body_shift L (ps.take n) (Cd.putU ps.length) [] []
  rwa [List.append_nil] at this
theorem bodyP_succ (L : List Ver) (ps : List (Nat × Nat)) (n : Nat) (h : n < ps.length) : bodyP L ps (n + 1) = bodyStep L (bodyP L ps n) ps[n] := by
  unfold bodyP; rw [List.take_succ_eq_append_getElem h, List.foldl_append]; rfl
/-- how many versions the first blocks have -/
def seenN (ps : List (Nat × Nat)) (n : Nat) : Nat := ((ps.take n).map (·.2)).sum
theorem seenN_succ {ps : List (Nat × Nat)} {n : Nat} (h : n < ps.length) : seenN ps (n + 1) = seenN ps n + ps[n].2 := by
  unfold seenN; rw [List.take_succ_eq_append_getElem h]; simp only [List.map_append, List.map_cons, List.map_nil, List.sum_append, List.sum_cons, List.sum_nil, Nat.add_zero]
/-- blocks one behind the other -/
def Contig (ps : List (Nat × Nat)) : Prop := ∀ i (h : i < ps.length), ps[i].1 = seenN ps i ∧ 1 ≤ ps[i].2
theorem contig_snoc {ps : List (Nat × Nat)} {s m : Nat} (h : Contig ps) (hs : s = seenN ps ps.length) (hm : 1 ≤ m) : Contig (ps ++ [(s, m)]) := by
  intro i hi
  have e : ∀ j, j ≤ ps.length → seenN (ps ++ [(s, m)]) j = seenN ps j := fun j hj => by unfold seenN; rw [List.take_append_of_le_length hj]
  by_cases h1 : i < ps.length
  · rw [List.getElem_append_left h1, e i (by omega)]; exact h i h1
  · have : i = ps.length := by simp at hi; omega
    subst this
    rw [e _ (Nat.le_refl _)]
    simp [hs, hm]
theorem seenN_snoc (ps : List (Nat × Nat)) (s m : Nat) : seenN (ps ++ [(s, m)]) (ps ++ [(s, m)]).length = seenN ps ps.length + m := by
  unfold seenN; rw [List.take_length, List.take_length]; simp only [List.map_append, List.map_cons, List.map_nil, List.sum_append, List.sum_cons, List.sum_nil, Nat.add_zero]
theorem cutPN_contig (block : Int) (L : List Ver) : ∀ n, Contig (cutPN block L n).1 ∧ seenN (cutPN block L n).1 (cutPN block L n).1.length = (cutPN block L n).2
  | 0 => ⟨fun i h => by simp [cutPN] at h, rfl⟩
  | n + 1 => by
    obtain ⟨h1, h2⟩ := cutPN_contig block L n
    have hle := cutPN_le block L n
    rw [cutPN_succ]
    unfold cutP
    split
    · exact ⟨contig_snoc h1 h2.symm (by omega), by rw [seenN_snoc, h2]; simp only; omega⟩
    · exact ⟨h1, h2⟩
theorem cuts_contig (block : Int) (L : List Ver) : Contig (cuts block L) ∧ seenN (cuts block L) (cuts block L).length = L.length := by
  obtain ⟨h1, h2⟩ := cutPN_contig block L L.length
  have hle := cutPN_le block L L.length
  rw [cuts_eq]
  split
  · exact ⟨contig_snoc h1 h2.symm (by omega), by rw [seenN_snoc, h2]; omega⟩
  · rw [List.append_nil]; exact ⟨h1, by rw [h2]; omega⟩
theorem seenN_mono (ps : List (Nat × Nat)) (n : Nat) : ∀ k, n + k ≤ ps.length → seenN ps n ≤ seenN ps (n + k)
  | 0, _ => Nat.le_refl _
  | k + 1, h => by
    have := seenN_mono ps n k (by omega)
    rw [← Nat.add_assoc, seenN_succ (by omega)]
    omega
theorem cuts_seen (block : Int) (L : List Ver) (n : Nat) (h : n ≤ (cuts block L).length) : seenN (cuts block L) n ≤ L.length := by
  obtain ⟨k, hk⟩ : ∃ k, (cuts block L).length = n + k := ⟨(cuts block L).length - n, by omega⟩
  have := seenN_mono (cuts block L) n k (by omega)
  rw [← hk, (cuts_contig block L).2] at this
  exact this
theorem encKey_val {v : Ver} (h : mayB v = true) : encKey { v with val := [] } = encKey v := by
  unfold encKey
  rw [if_pos h, if_pos (mayB_val h)]
  rfl
theorem cuts_some {block : Int} {L : List Ver} (h : L ≠ []) : 0 < (cuts block L).length := by
  have h1 := (cuts_contig block L).2
  have h2 : 0 < L.length := List.length_pos_iff.2 h
  rcases Nat.eq_zero_or_pos (cuts block L).length with h0 | h0
  · rw [h0] at h1; simp [seenN] at h1; omega
  · exact h0
theorem cutPN_small {block : Int} {L : List Ver} (hb : block ≤ 4096) (hv : ∀ x ∈ L, x.val.length ≤ 16384) : ∀ n, n ≤ L.length → (∀ p ∈ (cutPN block L n).1, (blk (part L p)).length ≤ 20800) ∧ (blkN (L.drop (cutPN block L n).2) (n - (cutPN block L n).2)).length ≤ 4096
  | 0, _ => ⟨fun p hp => by simp [cutPN] at hp, by simp [cutPN, blkN]⟩
  | n + 1, hn => by
    obtain ⟨h1, h2⟩ := cutPN_small hb hv n (by omega)
    have hle := cutPN_le block L n
    rw [cutPN_succ]
    generalize cutPN block L n = st at *
    have hval : (L.getD n ver0).val.length ≤ 16384 := by rw [getD_at (by omega)]; exact hv _ (List.getElem_mem _)
    have he := ent_len hval (ahd (L.drop st.2) (n - st.2))
    have hg : (L.drop st.2).getD (n - st.2) ver0 = L.getD n ver0 := by
      rw [List.getD_eq_getElem?_getD, List.getD_eq_getElem?_getD, List.getElem?_drop, show st.2 + (n - st.2) = n by omega]
    have hs : (blkN (L.drop st.2) (n + 1 - st.2)).length ≤ 20800 := by
      rw [show n + 1 - st.2 = (n - st.2) + 1 by omega, blkN_succ, hg, List.length_append]
      omega
    have hbp := blk_part L st.2 (n + 1 - st.2) (by omega)
    unfold cutP
    by_cases h : block ≤ ((blk (part L (st.2, n + 1 - st.2))).length : Int)
    · rw [if_pos h]
      refine ⟨fun p hp => ?_, by simp [blkN]⟩
      rcases List.mem_append.1 hp with hp | hp
      · exact h1 p hp
      · simp at hp; subst hp; rw [hbp]; exact hs
    · rw [if_neg h]
      exact ⟨h1, by rw [← hbp]; omega⟩
theorem cuts_small {block : Int} {L : List Ver} (hb : block ≤ 4096) (hv : ∀ x ∈ L, x.val.length ≤ 16384) : ∀ p ∈ cuts block L, (blk (part L p)).length ≤ 20800 := by
  obtain ⟨h1, h2⟩ := cutPN_small hb hv L.length (Nat.le_refl _)
  have hle := cutPN_le block L L.length
  rw [cuts_eq]
  intro p hp
  rcases List.mem_append.1 hp with hp | hp
  · exact h1 p hp
  · split at hp
    · simp at hp; subst hp
      rw [blk_part _ _ _ (by omega)]
      omega
    · cases hp
end Tb
end Go.Proofs.Ytiijkneomecmiaa

/-
  strings.Builder as this dump has it: the copy check, WriteString, String, on a builder that the call itself has made.
-/
namespace Go.Proofs.Ytiijkneomecmiaa
open Go.RowKit
set_option linter.unusedSimpArgs false
set_option linter.unusedVariables false
namespace Sb
/-- block b is a builder that holds these bytes; all of it lies at B or above -/
def Is (B b : Nat) (l : List UInt8) (W : World) : Prop := Lib.IsBuilderF 79 5 B b (Lib.byteCells l) W
/-- all but the builder's own stands -/
def Rest (b : Nat) (W W' : World) : Prop := Lib.OthersKept 5 (some b) W W'
theorem Rest.refl (b : Nat) (W : World) : Rest b W W := Lib.OthersKept.refl _ _ _
theorem Rest.trans {b : Nat} {W W1 W2 : World} (h : Rest b W W1) (k : Rest b W1 W2) : Rest b W W2 := Lib.OthersKept.trans h k
theorem Rest.below {b : Nat} {W W' : World} (h : Below W.heap.size W W') : Rest b W W' := fun k o hk hb ho => (h.block k (Array.getElem?_eq_some_iff.1 hk).1).trans hk
theorem Rest.obj {b k : Nat} {W W' : World} {t : TypeId} {cs : List Value} (h : Rest b W W') (ho : Ob.Obj W k t cs) (hk : k ≠ b) (ht : t ≠ 5) : Ob.Obj W' k t cs :=
  h k _ ho (fun e => hk (Option.some.inj e)) (fun c fz e => ht (by injection e))
theorem Is.lt {B b : Nat} {l : List UInt8} {W : World} (h : Is B b l W) : b < W.heap.size := h.elim (·.lt) (·.lt)
theorem Is.ge {B b : Nat} {l : List UInt8} {W : World} (h : Is B b l W) : B ≤ b := h.elim (·.1) (·.1)
theorem Is.below {B b : Nat} {l : List UInt8} {W W' : World} (h : Is B b l W) (hb : Below W.heap.size W W') : Is B b l W' := by
  have key : ∀ p, Lib.BuilderAtF 79 5 B b p (Lib.byteCells l) W → Lib.BuilderAtF 79 5 B b p (Lib.byteCells l) W' := fun p ⟨h0, v, h1, h2, h3⟩ => by
    refine ⟨h0, v, (hb.block b (Array.getElem?_eq_some_iff.1 h1).1).trans h1, ?_, h3⟩
    rcases h2 with ⟨h4, h5 | ⟨g, cap, cur, fz, e1, e2, e3, e4⟩⟩
    · exact ⟨h4, .inl h5⟩
    · exact ⟨h4, .inr ⟨g, cap, cur, fz, e1, e2, (hb.block g (Array.getElem?_eq_some_iff.1 e3).1).trans e3, e4⟩⟩
  exact h.imp (key _) (key _)
theorem Is.alloc {B b : Nat} {l : List UInt8} {W : World} (h : Is B b l W) (o : Go.Obj) : Is B b l (W.alloc o) := h.below ((Below.refl _ _).alloc (Nat.le_refl _) _)
theorem Is.drew {B b : Nat} {l : List UInt8} {W : World} (h : Is B b l W) : Is B b l W.drew := h.below (Below.refl _ _).drew
theorem Is.new (W : World) : Is W.heap.size W.heap.size [] (W.alloc (.cells #[.pointer none, .slice none 0 0] 79)) :=
  .inl ⟨Nat.le_refl _, .slice none 0 0, World.alloc_heap_new W _, ⟨by first | decide | simp, .inl ⟨rfl, rfl⟩⟩, by simp [Value.ownBlock]⟩

theorem strCells_bytes (s : List UInt8) : Lib.strCells ⟨s.toArray⟩ = Lib.byteCells s := by
  simp [Lib.strCells, Lib.byteCells]

theorem sizeBuilder : (Try.prog.info? 79).map (·.size) = some 2 := by kernel_rfl

set_option maxHeartbeats 2000000 in
set_option maxRecDepth 100000 in
theorem copyCheck_any (B b : Nat) (bs : List Value) (w : World) (h : Lib.IsBuilderF 79 5 B b bs w) :
    Calls Try.prog 65 #[.pointer (some ⟨b, 0, none⟩)] w fun e w' => e = .returned (.tuple #[]) ∧ (Lib.BuilderAtF 79 5 B b (.pointer (some ⟨b, 0, none⟩)) bs w' ∧ Below B w w' ∧ Rest b w w') := by
  rcases h with h | h
  · have c0 := h.cell0
    have f0 := h.frozen0
    have hl := h.lt
    have hB := h.1
    have hsh := h.shape
    obtain ⟨j, hj, hjs⟩ := Option.map_eq_some_iff.1 sizeBuilder
    have HU := Lib.hid (h.used (.pointer (some ⟨b, 0, none⟩)))
    clear h
    go_enter Try.func65, Try.ntmps65
    go_wp2
    rw [Lib.run_to_unsafe w ⟨b, 0, none⟩ Try.underlying77 Try.underlying108 hj (by rw [hjs]; decide) hsh (Nat.zero_lt_succ 1)]
    simp only [Result.andThen]
    rw [Oper.upon_value]
    go_wp2
    rw [run_callFunc_extern Try.func75 (by kernel_rfl) (by kernel_rfl) (by kernel_rfl) (e := Extern.AbiNoEscape.same) (by kernel_rfl)]
    rw [Lib.run_noEscape]
    simp only [Result.andThen]
    rw [Oper.upon_value]
    go_wp2
    rw [Lib.run_from_unsafe w ⟨b, 0, none⟩ Try.underlying108 Try.underlying77 hj hsh (by kernel_rfl)]
    simp only [Result.andThen]
    rw [Oper.upon_value]
    go_wp2
    go_end0
    exact ⟨rfl, HU.out, (Below.refl B w).setCell (p := ⟨b, 0, none⟩) hB _, (Lib.OthersKept.refl _ _ w).setCell ⟨b, 0, none⟩ rfl _⟩
  · have c0 := h.cell0
    obtain ⟨j, hj, hjs⟩ := Option.map_eq_some_iff.1 sizeBuilder
    have H := Lib.hid h
    clear h
    go_enter Try.func65, Try.ntmps65
    go_wp2
    rw [Lib.run_neq_ptr_same w _ Try.underlying77 hj]
    go_wp2
    go_end0
    exact ⟨rfl, H.out, Below.refl B _, Lib.OthersKept.refl _ _ _⟩

theorem info_u8 : (Try.prog.info? 5).map (fun i => (i.zero, i.size, i.bytes)) = some (some (.int .u8 0), 1, 1) := by kernel_rfl

set_option maxHeartbeats 2000000 in
set_option maxRecDepth 100000 in
theorem writeString_any (B b : Nat) (l s : List UInt8) (w : World) (h : Is B b l w) (hlen : l.length + s.length ≤ 140737488355328) (hBw : B ≤ w.heap.size) :
    Calls Try.prog 52 #[.pointer (some ⟨b, 0, none⟩), .string ⟨s.toArray⟩] w fun e w' => e = .returned (.tuple #[.int .i64 (s.length : Nat), .nilIface]) ∧ Is B b (l ++ s) w' ∧ Below B w w' ∧ Rest b w w' := by
  obtain ⟨i0, hi, hz0, hz1, hz2⟩ := info_parts info_u8
  have hsz : (⟨s.toArray⟩ : ByteArray).size = s.length := rfl
  have HSZ := Lib.hid hsz
  have hbl : (Lib.byteCells l).length = l.length := Lib.byteCells_length l
  have HBL := Lib.hid hbl
  clear hsz hbl
  go_enter Try.func52, Try.ntmps52
  go_wp2_with (go_at_call 65; refine (copyCheck_any B b (Lib.byteCells l) _ h).mono ?_)
  rintro e w1 ⟨rfl, h1, hb1, hk1⟩
  obtain ⟨hB, v, hbk, hown, hne⟩ := h1
  have c0 : w1.cell? ⟨b, 0, none⟩ = some (.pointer (some ⟨b, 0, none⟩)) := by rw [Lib.cell_of_heap hbk]; rfl
  have c1 : w1.cell? ⟨b, 1, none⟩ = some v := by rw [Lib.cell_of_heap hbk]; rfl
  go_wp2_with (at_builtin; refine Lib.wpList_append_own_stringF _ rfl _ _ 48 9 rfl B 5 i0 Try.underlying48 Try.underlying9 hi hz0 hz1 hz2 _ _ _ rfl hown ⟨s.toArray⟩ rfl ?c3 ?c4 ?c5 ?_)
  case c3 => rw [HSZ.out, HBL.out]; unfold maxLen; omega
  case c4 => rw [HSZ.out, HBL.out]; omega
  case c5 => have := hb1.size; omega
  intro v' w2 hown' hgrow _
  have hlt : b < w1.heap.size := (Array.getElem?_eq_some_iff.1 hbk).1
  have hb2 : w2.heap[b]? = some (.cells #[.pointer (some ⟨b, 0, none⟩), v] 79 (0, 0)) := by
    rw [hgrow.block b hlt (fun e => hne e.symm)]
    exact hbk
  have d0 : w2.cell? ⟨b, 0, none⟩ = some (.pointer (some ⟨b, 0, none⟩)) := by rw [Lib.cell_of_heap hb2]; rfl
  have d1 : w2.cell? ⟨b, 1, none⟩ = some v := by rw [Lib.cell_of_heap hb2]; rfl
  have f1 : w2.frozen? ⟨b, 1, none⟩ = false := Lib.frozen_of_heap hb2 1
  obtain ⟨ao, n', cap, rfl⟩ : ∃ ao n' cap, v' = .slice ao n' cap := by
    rcases hown'.2 with ⟨hv, _⟩ | ⟨g, cap, cur, fz, hv, _⟩
    · exact ⟨_, _, _, hv⟩
    · exact ⟨_, _, _, hv⟩
  go_wp2
  go_ret2
  refine ⟨rfl, ?_, ?_, (hk1.grown hgrow (Lib.ownsRowF_kind hown)).setCell ⟨b, 1, none⟩ rfl _⟩
  · have := Lib.BuilderAtF.put (T := 79) (e := 5) hB hb2 (bs' := Lib.byteCells l ++ Lib.strCells ⟨s.toArray⟩) (by rw [List.length_append, Lib.strCells_length]; exact hown') (by decide)
    rw [strCells_bytes] at this
    refine .inr ?_
    rw [show Lib.byteCells (l ++ s) = Lib.byteCells l ++ Lib.byteCells s by simp [Lib.byteCells]]
    exact this
  · exact (hb1.grown hgrow (by have := hb1.size; omega) (fun k hk => (hown.lt k hk).1)).setCell (p := ⟨b, 1, none⟩) hB _

theorem string_any (B b : Nat) (l : List UInt8) (w : World) (h : Is B b l w) (hBw : B ≤ w.heap.size) :
    Calls Try.prog 53 #[.pointer (some ⟨b, 0, none⟩)] w fun e w' => e = .returned (.string ⟨l.toArray⟩) ∧ Is B b l w' ∧ Below B w w' ∧ Rest b w w' :=
  (Try.Builder_String_any_k B b l w h hBw).mono fun e w' ⟨h1, h2, h3, h4⟩ => ⟨h1, h2, h3, h4⟩
end Sb
end Go.Proofs.Ytiijkneomecmiaa

/-
  strings.Builder, several at a time: where a builder's own blocks lie; WriteString, Len, String with a footprint.
-/
namespace Go.Proofs.Ytiijkneomecmiaa
open Go.RowKit
set_option linter.unusedSimpArgs false
set_option linter.unusedVariables false
namespace Bo
/-- a builder: its own blocks are of S -/
structure Bd (S : Sq.Blocks) (W : World) (b : Nat) (p : Value) (ao : Option Addr) (cap : Nat) (l : List UInt8) : Prop where
  obj : Ob.Obj W b 79 [p, .slice ao l.length cap]
  ptr : p = .pointer none ∨ p = .pointer (some ⟨b, 0, none⟩)
  row : W.ownsRow 0 5 1 (.slice ao l.length cap) l.length (Cd.cs l)
  inb : S b
  own : ∀ g, (Value.slice ao l.length cap).ownBlock = some g → S g
  lo : ∀ k, S k → k < W.heap.size
variable {S : Sq.Blocks} {W : World} {b : Nat} {p : Value} {ao : Option Addr} {cap : Nat} {l : List UInt8}
theorem Bd.kept {T : Sq.Blocks} {W' : World} (h : Bd S W b p ao cap l) (hk : Sq.Kept T W W') (hT : ∀ k, S k → T k) : Bd S W' b p ao cap l :=
  ⟨h.obj.kept hk (hT b h.inb), h.ptr, Sq.row_kept h.row hk (fun g hg => hT g (h.own g hg)), h.inb, h.own, fun k hk' => Nat.lt_of_lt_of_le (h.lo k hk') hk.size⟩
theorem Bd.below {W' : World} (h : Bd S W b p ao cap l) (hb : Below W.heap.size W W') : Bd S W' b p ao cap l := h.kept (T := fun _ => True) (Sq.Kept.of_below hb) (fun _ _ => trivial)
theorem Bd.not_row (h : Bd S W b p ao cap l) : (Value.slice ao l.length cap).ownBlock ≠ some b := h.obj.not_row (by decide) h.row
theorem Bd.new {S : Sq.Blocks} {W : World} (hS : ∀ k, S k ↔ k = W.heap.size) : Bd S (W.alloc (.cells #[.pointer none, .slice none 0 0] 79)) W.heap.size (.pointer none) none 0 [] :=
  ⟨Ob.Obj.new W 79 [.pointer none, .slice none 0 0], .inl rfl, World.ownsRow_nil _ _ _ _, (hS _).2 rfl, fun g hg => by simp [Value.ownBlock] at hg, fun k hk => by have := (hS k).1 hk; subst this; simp⟩
/-- a builder behind some steps of its own -/
def Md (S : Sq.Blocks) (W0 : World) (b : Nat) (l : List UInt8) (W : World) : Prop := ∃ S' p ao cap, Bd S' W b p ao cap l ∧ Sq.Step S S' W0 W

set_option maxHeartbeats 2000000 in
set_option maxRecDepth 100000 in
theorem copyCheck_own (h : Bd S W b p ao cap l) :
    Calls Try.prog 65 #[.pointer (some ⟨b, 0, none⟩)] W fun e w' => e = .returned (.tuple #[]) ∧ Bd S w' b (.pointer (some ⟨b, 0, none⟩)) ao cap l ∧ Sq.Step S S W w' := by
  have c0 := h.obj.cell 0
  simp at c0
  rcases h.ptr with rfl | rfl
  · have f0 := h.obj.frozen 0
    have hl := h.obj.lt
    have hsh : W.shape? b = some (79, 2) := by simp [World.shape?, show W.heap[b]? = _ from h.obj]
    obtain ⟨j, hj, hjs⟩ := Option.map_eq_some_iff.1 Sb.sizeBuilder
    have ho := h.obj.set 0 (.pointer (some ⟨b, 0, none⟩))
    simp only [List.set_cons_zero] at ho
    have HU := Lib.hid (show Bd S (W.setCell ⟨b, 0, none⟩ (.pointer (some ⟨b, 0, none⟩))) b (.pointer (some ⟨b, 0, none⟩)) ao cap l from ⟨ho, .inr rfl, Ob.row_other h.row h.not_row _, h.inb, h.own, fun k hk => by have := h.lo k hk; simpa [World.setCell] using this⟩)
    have HS := Lib.hid (show Sq.Step S S W (W.setCell ⟨b, 0, none⟩ (.pointer (some ⟨b, 0, none⟩))) from Sq.Step.setCell _ _ h.inb)
    clear h ho
    go_enter Try.func65, Try.ntmps65
    go_wp2
    rw [Lib.run_to_unsafe W ⟨b, 0, none⟩ Try.underlying77 Try.underlying108 hj (by rw [hjs]; decide) hsh (Nat.zero_lt_succ 1)]
    simp only [Result.andThen]
    rw [Oper.upon_value]
    go_wp2
    rw [run_callFunc_extern Try.func75 (by kernel_rfl) (by kernel_rfl) (by kernel_rfl) (e := Extern.AbiNoEscape.same) (by kernel_rfl)]
    rw [Lib.run_noEscape]
    simp only [Result.andThen]
    rw [Oper.upon_value]
    go_wp2
    rw [Lib.run_from_unsafe W ⟨b, 0, none⟩ Try.underlying108 Try.underlying77 hj hsh (by kernel_rfl)]
    simp only [Result.andThen]
    rw [Oper.upon_value]
    go_wp2
    go_end0
    exact ⟨rfl, HU.out, HS.out⟩
  · obtain ⟨j, hj, hjs⟩ := Option.map_eq_some_iff.1 Sb.sizeBuilder
    have H := Lib.hid h
    clear h
    go_enter Try.func65, Try.ntmps65
    go_wp2
    rw [Lib.run_neq_ptr_same W _ Try.underlying77 hj]
    go_wp2
    go_end0
    exact ⟨rfl, H.out, Sq.Step.refl _ _⟩

theorem Bd.put (h : Bd S W b p ao cap l) {s l2 : List UInt8} (hl : l2 = l ++ s) {ao2 : Option Addr} {cap2 : Nat} {w2 : World}
    (hown : w2.ownsRow 0 5 1 (.slice ao2 l2.length cap2) l2.length (Cd.cs l ++ Lib.strCells (Cd.bs s))) (hg : W.grownBy w2 (Value.slice ao l.length cap).ownBlock)
    (hat : ∀ g, (Value.slice ao2 l2.length cap2).ownBlock = some g → (Value.slice ao l.length cap).ownBlock = some g ∨ g = W.heap.size) :
    Md S W b l2 (w2.setCell ⟨b, 1, none⟩ (.slice ao2 l2.length cap2)) := by
  have hob := h.obj.grown hg h.not_row
  rw [show Lib.strCells (Cd.bs s) = Cd.cs s by simp [Lib.strCells, Cd.cs, Lib.byteCells], show Cd.cs l ++ Cd.cs s = Cd.cs l2 by rw [hl]; simp [Cd.cs, Lib.byteCells]] at hown
  have hnr := hob.not_row (by decide) hown
  refine ⟨fun k => S k ∨ (Value.slice ao2 l2.length cap2).ownBlock = some k, p, ao2, cap2, ⟨?_, h.ptr, Ob.row_other hown hnr _, .inl h.inb, fun g hg => .inr hg, fun k hk => ?_⟩, ⟨?_, fun k hk => .inl hk, fun k hk => ?_⟩⟩
  · have := hob.set 1 (.slice ao2 l2.length cap2)
    simpa using this
  · show k < (w2.setCell _ _).heap.size
    simp only [World.setCell, Array.size_modify]
    rcases hk with hk | hk
    · exact Nat.lt_of_lt_of_le (h.lo k hk) hg.size
    · exact (Ob.row_lt hown hk).2
  · exact (Sq.Kept.grown hg (fun r hr hn => hn (h.own r hr))).trans (Sq.Kept.setCell _ _ (fun hn => hn h.inb))
  · rcases hk with hk | hk
    · exact .inl hk
    · rcases hat k hk with e | e
      · exact .inl (h.own k e)
      · exact .inr (by omega)

set_option maxHeartbeats 2000000 in
set_option maxRecDepth 100000 in
theorem writeString_own (h : Bd S W b p ao cap l) (s l2 : List UInt8) (hl2 : l2 = l ++ s) (hlen : l.length + s.length ≤ 140737488355328) :
    Calls Try.prog 52 #[.pointer (some ⟨b, 0, none⟩), .string (Cd.bs s)] W fun e w' => e = .returned (.tuple #[.int .i64 (s.length : Nat), .nilIface]) ∧ Md S W b l2 w' := by
  obtain ⟨i0, hi, hz0, hz1, hz2⟩ := info_parts Sb.info_u8
  have hsz : (Cd.bs s).size = s.length := rfl
  have HSZ := Lib.hid hsz
  have HK := Lib.hid (show l.length + (Cd.bs s).size = l2.length ∧ l.length + (Cd.bs s).size ≤ 140737488355328 by rw [hl2, List.length_append]; exact ⟨rfl, by omega⟩)
  have HL2 := Lib.hid hl2
  have HCC := Lib.hid (copyCheck_own h)
  clear hsz hl2 h
  go_enter Try.func52, Try.ntmps52
  go_wp2_with (first
    | (go_at_call 65; (with_reducible refine HCC.out.mono ?_); rintro e w1 ⟨rfl, h1, st1⟩; have c0 := h1.obj.cell 0; have c1 := h1.obj.cell 1; simp at c0 c1; have H1 := Lib.hid h1; have ST1 := Lib.hid st1; have hbl := h1.obj.lt; clear h1 st1)
    | (at_builtin; refine As.wpList _ rfl _ _ 48 9 rfl 0 5 i0 Try.underlying48 Try.underlying9 hi hz0 hz1 hz2 (.slice ao l.length cap) l.length (Cd.cs l) (by rfl) H1.out.row (Cd.bs s) (by rfl) (by have := HK.out.2; unfold maxLen; omega) HK.out.2 (Nat.zero_le _) l2.length HK.out.1 ?_; intro ao2 cap2 w2 hown hgrow hat; have HM := Lib.hid (H1.out.put HL2.out hown hgrow hat); have hob := H1.out.obj.grown hgrow H1.out.not_row; have hgl := hob.lt; have g0 := hob.cell 0; have g1 := hob.cell 1; have gf1 := hob.frozen 1; simp at g0 g1; clear hob hown hgrow hat))
  go_ret2
  refine ⟨rfl, ?_⟩
  obtain ⟨S', p', ao', cap', k1, k2⟩ := HM.out
  exact ⟨S', p', ao', cap', k1, ST1.out.trans k2⟩

set_option maxRecDepth 100000 in
theorem len_own (h : Bd S W b p ao cap l) :
    Calls Try.prog 51 #[.pointer (some ⟨b, 0, none⟩)] W fun e w' => e = .returned (.int .i64 (l.length : Nat)) ∧ W = w' := by
  have c1 := h.obj.cell 1
  simp at c1
  have hbl := h.obj.lt
  clear h
  go_enter Try.func51, Try.ntmps51
  go_wp2_with fail
  go_ret
  exact ⟨rfl, rfl⟩

theorem kept_freeze {T : Sq.Blocks} (w : World) (p : Addr) (n : Nat) (hp : ¬ T p.block) : Sq.Kept T w (w.freeze p n) := by
  unfold World.freeze
  split
  · exact Sq.Kept.refl _ _
  · refine ⟨rfl, rfl, rfl, by simp, fun k hk hl => ?_⟩
    simp only [Array.getElem?_modify]
    rw [if_neg (fun e : p.block = k => hp (by rw [e]; exact hk))]

set_option maxHeartbeats 2000000 in
set_option maxRecDepth 100000 in
theorem string_own (h : Bd S W b p ao cap l) (h0 : l ≠ []) :
    Calls Try.prog 53 #[.pointer (some ⟨b, 0, none⟩)] W fun e w' => e = .returned (.string (Cd.bs l)) ∧ Sq.Step S S W w' := by
  have hl0 : l.length ≠ 0 := by simpa using h0
  obtain ⟨g, cur, rfl, hg, hnc, hcm, hcs, htake⟩ : ∃ g cur, ao = some ⟨g, 0, none⟩ ∧ W.heap[g]? = some (.cells cur 5 (0, 0)) ∧ l.length ≤ cap ∧ cap ≤ maxLen ∧ cur.size = cap * 1 ∧ cur.toList.take (l.length * 1) = Cd.cs l := by
    rcases h.row.2 with ⟨_, hz⟩ | ⟨g, cap', cur, hv, hb, hg, hn, hm, hs, ht⟩
    · exact absurd hz hl0
    · injection hv with e1 e2 e3
      subst e1 e3
      exact ⟨g, cur, rfl, hg, hn, hm, hs, ht⟩
  have hSg : S g := h.own g rfl
  have c1 : W.drew.cell? ⟨b, 1, none⟩ = some (.slice (some ⟨g, 0, none⟩) l.length cap) := h.obj.cell 1
  have c1' : W.cell? ⟨b, 1, none⟩ = some (.slice (some ⟨g, 0, none⟩) l.length cap) := h.obj.cell 1
  have hbl : b < W.heap.size := h.obj.lt
  have hSD : (Builtin.unsafeSliceData_ #[48] 104 #[.slice (some ⟨g, 0, none⟩) l.length cap]).run Try.prog W.drew = .ok (.pointer (some ⟨g, 0, none⟩)) W.drew :=
    Lib.run_unsafeSliceData_row _ _ _ _ _ _ (by omega)
  have hUS : (Builtin.unsafeString_ #[104, 3] 9 #[.pointer (some ⟨g, 0, none⟩), .int .i64 l.length]).run Try.prog W.drew = .ok (.string (Cd.bs l)) (W.drew.freeze ⟨g, 0, none⟩ l.length) := by
    refine Lib.run_unsafeString_row W.drew 104 3 9 5 Try.underlying104 (by kernel_rfl) g cur.size (by have hg' : W.drew.heap[g]? = some (.cells cur 5 (0, 0)) := hg; simp [World.shape?, hg']) l h0 (by omega) (by unfold maxLen at hcm; omega) ?_
    intro j x hx
    exact h.row.cells (g := g) rfl j (.int .u8 x.toNat) (by simp [Cd.cs, Lib.byteCells, hx])
  have hst : Sq.Step S S W (W.drew.freeze ⟨g, 0, none⟩ l.length) := (Sq.Step.drew S W).trans ⟨kept_freeze _ _ _ (fun hn => hn hSg), fun _ hk => hk, fun _ hk => .inl hk⟩
  have HST := Lib.hid hst
  have mixed : Try.prog.follows .mixedOrders = true := by kernel_rfl
  clear hst h hg hcs htake
  go_enter Try.func53, Try.ntmps53
  go_wp2
  go_region_o
  all_goals (go_wp2; go_ret; exact ⟨rfl, HST.out⟩)
end Bo
end Go.Proofs.Ytiijkneomecmiaa

/-
  Chapter 7: what the program owes; the laws BloomAsks, BloomNever, BloomUnion, BloomBuilds over it.
-/
namespace Go.Proofs.Ytiijkneomecmiaa
open Go.RowKit
set_option linter.unusedSimpArgs false
set_option linter.unusedVariables false
namespace Bm

def HashOk : Prop := ∀ (l : List UInt8) (w : World), l.length ≤ 140737488351232 → Calls Try.prog 67 #[.string (Cd.bs l)] w fun e w' => e = .returned (.int .u64 (hash l)) ∧ Below w.heap.size w w'

def BuildOk : Prop := ∀ (v : Value) (b : Int) (keys : List (List UInt8)) (w : World), Strs w.heap.size w v keys → (-9223372036854775808 ≤ b ∧ b ≤ 9223372036854775807) → keys.length ≤ 1048576 → (∀ x ∈ keys, x.length ≤ 1048576) →
    Calls Try.prog 31 #[.int .i64 b, v] w fun e w' => e = .returned (.string (Cd.bs (build b keys))) ∧ Below w.heap.size w w'

theorem build_small (b : Int) (keys : List (List UInt8)) (hk : keys.length ≤ 1048576) : (build b keys).length ≤ 4194304 := by
  by_cases h : b < 1 ∨ keys = []
  · rw [show build b keys = [] from if_pos h]; simp
  · rw [build_len h]
    unfold bytesOf
    have hb : 0 ≤ min b 20 ∧ min b 20 ≤ 20 := by omega
    have q1 : min b 20 * (keys.length : Int) ≤ 20 * (keys.length : Int) := Int.mul_le_mul_of_nonneg_right hb.2 (by omega)
    omega

theorem andNot_sub (x y : List UInt8) (q : Nat) (hx : q < x.length) (hy : q < y.length) (h : Sub (x.getD q 0) (y.getD q 0)) : bits BinOp.andNot IntKind.u8 (((Cd.bs x)[q]'hx).toNat : Int) (((Cd.bs y)[q]'hy).toNat : Int) = 0 := by
  have e1 : x.getD q 0 = x[q] := by rw [List.getD_eq_getElem?_getD, List.getElem?_eq_getElem hx, Option.getD_some]
  have e2 : y.getD q 0 = y[q] := by rw [List.getD_eq_getElem?_getD, List.getElem?_eq_getElem hy, Option.getD_some]
  rw [e1, e2] at h
  show bits BinOp.andNot IntKind.u8 (x[q].toNat : Int) (y[q].toNat : Int) = 0
  generalize x[q] = c at *
  generalize y[q] = d at *
  have hc := c.toNat_lt
  have hd := d.toNat_lt
  have ho : c.toNat ||| d.toNat = d.toNat := by rw [← UInt8.toNat_or, h]
  rw [u8_andNot_nat _ _ (by omega) (by omega)]
  have : c.toNat &&& (255 - d.toNat) = 0 := by
    apply Nat.eq_of_testBit_eq
    intro i
    rw [Nat.testBit_and, show 255 - d.toNat = 2 ^ 8 - (d.toNat + 1) by omega, Nat.testBit_two_pow_sub_succ (by omega), Nat.zero_testBit]
    have hi : (c.toNat ||| d.toNat).testBit i = d.toNat.testBit i := by rw [ho]
    rw [Nat.testBit_or] at hi
    cases h1 : c.toNat.testBit i <;> cases h2 : d.toNat.testBit i <;> simp_all
  rw [this]; rfl
theorem Strs.take {B : Nat} {W : World} {a : Option Addr} {cap : Nat} {L : List (List UInt8)} (h : Strs B W (.slice a L.length cap) L) (n : Nat) (hn : n ≤ L.length) : Strs B W (.slice a n cap) (L.take n) := by
  obtain ⟨a', cap', b, off, h1, h2, h3⟩ := h
  injection h1 with e1 e2 e3
  subst e1 e3
  have hl : (L.take n).length = n := by simp; omega
  exact ⟨_, _, b, off, by rw [hl], fun h => h2 (by omega), fun j hj => by rw [List.getElem_take]; exact h3 j (by omega)⟩

end Bm
end Go.Proofs.Ytiijkneomecmiaa
/-
  Chapter 7: the law BloomBuilds over what the program owes.
-/
namespace Go.Proofs.Ytiijkneomecmiaa
open Go.RowKit
set_option linter.unusedSimpArgs false
set_option linter.unusedVariables false
namespace Bm
def sc (l : List (List UInt8)) : List Value := l.map fun d => .string (Cd.bs d)
theorem sc_len (l : List (List UInt8)) : (sc l).length = l.length := by simp [sc]
theorem info_str7 : (Try.prog.info? 9).map (fun i => (i.zero, i.size, i.bytes)) = some (some (.string ⟨#[]⟩), 1, 16) := by kernel_rfl
theorem made_str7 (n : Nat) : (madeCells (Value.string ⟨#[]⟩).cells (n * 1)).toList = List.replicate n (.string ⟨#[]⟩) := by
  rw [show (Value.string ⟨#[]⟩).cells = #[Value.string ⟨#[]⟩] from rfl, Nat.mul_one, toList_madeCells_one]
theorem splice_all7 (n : Nat) (l : List Value) (h : l.length = n) : splice (List.replicate n (.string ⟨#[]⟩)) 0 l = l := by
  unfold splice
  simp [h]
theorem row_whole7 {W : World} {base g n : Nat} {e : TypeId} {xs : List Value} (h : W.ownsRow base e 1 (.slice (some ⟨g, 0, none⟩) n n) n xs) : W.heap[g]? = some (.cells xs.toArray e (0, 0)) := by
  rcases h.2 with ⟨h1, _⟩ | ⟨g', cap', cur, h1, _, h3, _, _, h6, h7⟩
  · simp at h1
  · simp at h1
    obtain ⟨rfl, rfl⟩ := h1
    have : cur.toList = xs := by rw [← h7, List.take_of_length_le (by simp [h6])]
    rw [h3, ← this]
def bCells (l : List Bool) : List Value := l.map Value.bool
theorem bCells_len (l : List Bool) : (bCells l).length = l.length := by simp [bCells]
theorem strs_src {B : Nat} {W : World} {a : Option Addr} {cap : Nat} {L : List (List UInt8)} (h : Strs B W (.slice a L.length cap) L) (g : Nat) :
    0 < (sc L).length → (some (⟨g, 0, none⟩ : Addr)) = some ⟨g, 0, none⟩ ∧ ∃ ad, a = some ad ∧ ∀ j v, (sc L)[j]? = some v → W.cell? (ad.add j) = some v := by
  intro h0
  rw [sc_len] at h0
  obtain ⟨a', cap', b, off, hv, ha, hc⟩ := h
  simp only [Value.slice.injEq, true_and] at hv
  obtain ⟨rfl, rfl⟩ := hv
  refine ⟨rfl, ⟨b, off, none⟩, (ha h0).1, fun j v hj => ?_⟩
  have hj' : j < L.length := by have := (List.getElem?_eq_some_iff.1 hj).1; rwa [sc_len] at this
  have hp : (⟨b, off, none⟩ : Addr).add j = ⟨b, off + j, none⟩ := by unfold Addr.add; split <;> simp_all
  rw [hp, hc j hj']
  simpa [sc, hj'] using hj
theorem strs_own {W : World} {g : Nat} {L : List (List UInt8)} (h : W.heap[g]? = some (.cells (sc L).toArray 9 (0, 0))) : Strs W.heap.size W (.slice (some ⟨g, 0, none⟩) L.length L.length) L := by
  have hg : g < W.heap.size := by
    rcases Nat.lt_or_ge g W.heap.size with h' | h'
    · exact h'
    · rw [Array.getElem?_eq_none h'] at h; cases h
  exact ⟨_, _, g, 0, rfl, fun _ => ⟨rfl, hg⟩, fun j hj => by simp [World.cell?, h, sc, hj]⟩
theorem Strs.later {B : Nat} {W W' : World} {v : Value} {L : List (List UInt8)} (h : Strs B W v L) (hb : Below B W W') : Strs W'.heap.size W' v L := by
  obtain ⟨a, cap, b, off, h1, h2, h3⟩ := h.below hb (Nat.le_refl _)
  by_cases h0 : 0 < L.length
  · refine ⟨a, cap, b, off, h1, fun _ => ⟨(h2 h0).1, ?_⟩, h3⟩
    have hc := h3 0 h0
    rcases Nat.lt_or_ge b W'.heap.size with h' | h'
    · exact h'
    · simp [World.cell?, Array.getElem?_eq_none h'] at hc
  · exact ⟨a, cap, b, off, h1, fun h => absurd h h0, h3⟩
theorem Strs.cells {B : Nat} {W : World} {g o n cap : Nat} {L : List (List UInt8)} (h : Strs B W (.slice (some ⟨g, o, none⟩) n cap) L) (j : Nat) (hj : j < L.length) : g < B ∧ W.cell? ⟨g, o + j, none⟩ = some (.string (Cd.bs L[j])) := by
  obtain ⟨a', cap', q1, q2, h1, h2, h3⟩ := h
  injection h1 with e1 e2 e3
  obtain ⟨e4, e5⟩ := h2 (by omega)
  rw [← e1] at e4
  injection e4 with e4
  injection e4 with e6 e7
  subst e6 e7
  exact ⟨e5, h3 j hj⟩

end Bm
end Go.Proofs.Ytiijkneomecmiaa