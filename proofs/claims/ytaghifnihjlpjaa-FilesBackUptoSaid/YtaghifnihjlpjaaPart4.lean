import Derived.Deep.RegionWith
import Derived.Deep.DeepCutAuto
import Derived.Deep.Cut
import Derived.Deep.CutRange
import Derived.Deep.RegionHeld3
import Derived.Deep.LoopGhost
import Derived.Deep.CutBlock
import Derived.Test.YtaghifnihjlpjaaPart3
/-
  slices.Values over texts, and PutText, which joins two of them.
-/
namespace Go.Proofs.Ytaghifnihjlpjaa
open Go.RowKit Go.Shelf
set_option linter.unusedSimpArgs false
set_option linter.unusedVariables false

attribute [local go_sem] Oper.semAt_some

/-- what has come when k rounds are over: f 0, .., f (k - 1) -/
def upto {α : Type} (f : Nat → α) (k : Nat) : List α := (List.range k).map f
theorem upto_succ {α : Type} (f : Nat → α) (k : Nat) : upto f (k + 1) = upto f k ++ [f k] := by simp [upto, List.range_succ]
theorem upto_length {α : Type} (f : Nat → α) (k : Nat) : (upto f k).length = k := by simp [upto]

set_option maxRecDepth 100000 in
set_option maxHeartbeats 2000000 in
theorem values1_in (F : Fence) (n : Nat) (h7 : F.fn 42) (hro : F.round = none) (hn : 1 ≤ n) (l Bs n₀ b len cap : Nat) (f : Nat → Piece) (hreach : len ≤ 1000000) (hb : b < n₀) (J Jx : List Piece → World → Prop)
    (hY : ∀ pre x W, J pre W → pre.length < len → YieldAt F (n - 1) Try.prog l #[.string (Cd.bs x.1)] W fun e W' =>
      (e = .returned (.bool true) ∧ J (pre ++ [x]) W' ∧ Below n₀ W W') ∨ (e = .returned (.bool false) ∧ Jx (pre ++ [x]) W'))
    (W : World) (hBs : W.cell? ⟨Bs, 0, none⟩ = some (.slice (some ⟨b, 0, none⟩) len cap)) (hc : ∀ j, j < len → W.cell? ⟨b, j, none⟩ = some (.string (Cd.bs (f j).1))) (h0 : J [] W) :
    CallsIn F n Try.prog 42 #[.func (.yield l) #[] #[], .pointer (some ⟨Bs, 0, none⟩)] W fun e W' => (∃ v, e = .returned v) ∧
      ((∃ ys, ys = upto f len ∧ J ys W') ∨ (∃ pre, True ∧ Jx pre W')) := by
  refine callsIn_of_wp Try.func42 rfl h7 ?_ hro
  simp only [Try.ntmps42, List.size_toArray, List.length_cons, List.length_nil, Nat.reduceAdd, Nat.reduceSub, Array.replicate_succ, Array.replicate_zero, List.push_toArray, List.append_toArray, List.nil_append, List.cons_append]
  gi_wp2
  gi_loopw [7] (fun i wr => ∃ k : Nat, k ≤ len ∧ i = .int .i64 k ∧ J (upto f k) wr ∧ Below n₀ W wr)
    (fun i _ => len - (intOf i).toNat)
  case atStart => exact ⟨0, Nat.zero_le _, rfl, h0, Below.refl _ _⟩
  case round =>
    obtain ⟨k, hk, rfl, hJs, hnx⟩ := hrel
    have hcx : k < len → wr.cell? ⟨b, k, none⟩ = some (.string (Cd.bs (f k).1)) := fun h => (hnx.cell (p := ⟨b, k, none⟩) hb).trans (hc k h)
    by_cases hlt : k < len
    · obtain ⟨fn, tmps, assign, body, hy, hR⟩ := hY _ (f k) wr hJs (by rw [upto_length]; exact hlt)
      have hcx' := hcx hlt
      gi_wp2
      refine hR.mono ?_
      rintro e W3 (⟨rfl, hJ3, hk3⟩ | ⟨rfl, hJx3⟩)
      · gi_wp2
        go_roundw
        case rel => exact ⟨k + 1, by omega, by simp, by rw [upto_succ]; exact hJ3, hnx.trans hk3⟩
        case measure => simp [intOf]; omega
      · gi_wp2
        refine bodyPost_ret (results_none rfl _ _ _) rfl ?_
        exact ⟨⟨_, rfl⟩, .inr ⟨_, trivial, hJx3⟩⟩
    · obtain rfl : k = len := by omega
      gi_wp2
      go_end0
      exact ⟨⟨_, rfl⟩, .inl ⟨_, rfl, hJs⟩⟩

set_option maxHeartbeats 1000000 in
theorem values_in (F : Fence) (n : Nat) (h5 : F.fn 29) (hro : F.round = none) (a : Option Addr) (len cap : Nat) (w : World) :
    CallsIn F n Try.prog 29 #[.slice a len cap] w fun e w' => e = .returned (.func (.func 42) #[] #[.pointer (some ⟨w.heap.size, 0, none⟩)]) ∧ w' = w.alloc (.cells #[.slice a len cap] 68) := by
  refine callsIn_of_wp Try.func29 rfl h5 ?_ hro
  simp only [Try.ntmps29, List.size_toArray, List.length_cons, List.length_nil, Nat.reduceAdd, Nat.reduceSub, Array.replicate_succ, Array.replicate_zero, List.push_toArray, List.append_toArray, List.nil_append, List.cons_append]
  gi_wp2
  go_ret
  exact ⟨rfl, rfl⟩

theorem values_stops (F : Fence) (n : Nat) (h7 : F.fn 42) (hro : F.round = none) (hn : 1 ≤ n) (Bs n₀ b len cap : Nat) (f : Nat → Piece) (hreach : len ≤ 1000000) (w : World) (hBs : Bs < w.heap.size) (hn₀ : n₀ ≤ w.heap.size) (hb : b < n₀)
    (hc : w.cell? ⟨Bs, 0, none⟩ = some (.slice (some ⟨b, 0, none⟩) len cap)) (hI : ∀ j, j < len → w.cell? ⟨b, j, none⟩ = some (.string (Cd.bs (f j).1))) :
    SeqStopsK F n Try.prog 42 #[.pointer (some ⟨Bs, 0, none⟩)] (fun x : Piece => #[Value.string (Cd.bs x.1)]) (Below n₀) (fun ys => ys = upto f len) (fun _ => True) len w := fun l J Jx W hW _ _ hY h0 => by
  have hc' := (hW.cell (p := ⟨Bs, 0, none⟩) hBs).trans hc
  exact values1_in F n h7 hro hn l Bs n₀ b len cap f hreach hb J Jx hY W hc' (fun j hj => (hW.cell (p := ⟨b, j, none⟩) (by show b < _; omega)).trans (hI j hj)) h0

theorem put_join (w1 : World) (p q : Piece) (l : List UInt8) (hq : q.1 = l) :
    Calls Try.prog 28 #[.func (.func 42) #[] #[.pointer (some ⟨w1.heap.size + 1, 0, none⟩)]]
      ((w1.alloc (.cells #[.string (Cd.bs p.1), .string (Cd.bs l)] 9)).alloc (.cells #[.slice (some ⟨w1.heap.size, 0, none⟩) 2 2] 68)) fun e w' =>
      e = .returned (.string (Cd.bs (flat (upto (fun j => if j = 0 then p else q) 2)))) ∧ Below w1.heap.size w1 w' := by
  subst hq
  have hst := values_stops Fence.wide 2 trivial rfl (by omega) (w1.heap.size + 1) (w1.heap.size + 2) w1.heap.size 2 2 (fun j => if j = 0 then p else q) (by omega)
    ((w1.alloc (.cells #[.string (Cd.bs p.1), .string (Cd.bs q.1)] 9)).alloc (.cells #[.slice (some ⟨w1.heap.size, 0, none⟩) 2 2] 68))
    (by simp) (by simp) (by omega) (by go_simp) (by
      intro j hj
      match j, hj with
      | 0, _ => go_simp
      | 1, _ => go_simp)
  have h := join_in Fence.wide 3 trivial rfl (by omega) 42 trivial (enters_of Try.func42 (by kernel_rfl) rfl) #[.pointer (some ⟨w1.heap.size + 1, 0, none⟩)]
    2 (by omega)
    ((w1.alloc (.cells #[.string (Cd.bs p.1), .string (Cd.bs q.1)] 9)).alloc (.cells #[.slice (some ⟨w1.heap.size, 0, none⟩) 2 2] 68)) (by simpa using hst)
  refine (callsIn_wide.1 h).mono ?_
  rintro e w' ⟨ys, rfl, he, hb⟩
  refine ⟨he, ?_⟩
  exact (((Below.refl w1.heap.size w1).alloc (Nat.le_refl _) _).alloc (by simp) _).trans (hb.mono (by simp; omega))

set_option maxRecDepth 100000 in
set_option maxHeartbeats 2000000 in
theorem putTc_any (s : ByteArray) (w : World) (hs : s.size ≤ 1048576) :
    Calls Try.prog 13 #[.string s] w fun e w' => e = .returned (.string (Cd.bs (Cd.putT s.data.toList))) ∧ Below w.heap.size w w' := by
  obtain ⟨l, rfl⟩ : ∃ l, s = Cd.bs l := ⟨s.data.toList, (Lib.mk_data s).symm⟩
  have hl : l.length ≤ 1048576 := hs
  have hU := fun W => putUc_at (l.length : Int) l.length W rfl (by omega)
  have hul := Cd.putU_len10 l.length (by omega)
  have hw : IntKind.u64.wrap (l.length : Int) = l.length := Cd.wrapU_nat (by omega)
  obtain ⟨p, hp⟩ : ∃ p : Piece, p.1 = Cd.putU l.length := ⟨⟨Cd.putU l.length, by omega⟩, rfl⟩
  obtain ⟨q, hq⟩ : ∃ q : Piece, q.1 = l := ⟨⟨l, hl⟩, rfl⟩
  have HE := Lib.hid (show Cd.putT (Cd.bs l).data.toList = flat (upto (fun j => if j = 0 then p else q) 2) by
    simp [upto, List.range, List.range.loop, flat, hp, hq, Cd.putT])
  rw [← hp] at hU
  have HU := Lib.hid hU
  have HQ := Lib.hid hq
  clear hU hp hq hul
  go_enter Try.func13, Try.ntmps13
  go_wp2_with (first
    | (go_at_call 11; refine (HU.out _).mono ?_; rintro e w1 ⟨rfl, hb1⟩)
    | (go_at_call 29; refine (callsIn_wide.1 (values_in Fence.wide 3 trivial rfl _ 2 2 _)).mono ?_; rintro e w' ⟨rfl, rfl⟩)
    | (go_at_call 28; refine (put_join w1 p q l HQ.out).mono ?_; rintro e w3 ⟨rfl, hb3⟩))
  go_ret
  exact ⟨by rw [HE.out]; rfl, hb1.trans (hb3.mono hb1.size)⟩
end Go.Proofs.Ytaghifnihjlpjaa

namespace Go.Proofs.Ytaghifnihjlpjaa
open Go.RowKit
set_option linter.unusedSimpArgs false
set_option linter.unusedVariables false

set_option maxRecDepth 100000 in
set_option maxHeartbeats 1000000 in
theorem sumr_any (s : ByteArray) (w : World) (hs : s.size ≤ maxLen) :
    Calls Try.prog 35 #[.string s] w fun e w' => e = .returned (.int .u32 (Fr.sum s.data.toList)) ∧ w = w' := by
  unfold maxLen at hs
  go_enter Try.func35, Try.ntmps35
  go_wp2_with fail
  go_loop [3, 4] (fun n i => ∃ k m : Nat, k ≤ s.size ∧ i = .int .i64 k ∧ n = .int .u32 m ∧ m = Fr.run 4294967295 (s.data.toList.take k)) (fun _ i => s.size - (intOf i).toNat)
  case atStart => exact ⟨0, _, Nat.zero_le _, rfl, rfl, rfl⟩
  case round =>
    obtain ⟨k, m, hk, rfl, rfl, hm⟩ := hrel
    have hlt0 : m < 4294967296 := by rw [hm]; exact Fr.run_lt _ (by omega)
    have HM := Lib.hid hm
    have HL := Lib.hid hlt0
    clear hm hlt0
    by_cases hlt : k < s.size
    · have hx := Fr.walk_in HL.out s[k]
      have hw := Fr.wrap32_byte s[k]
      have HT := Lib.hid (Cd.take_s s k hlt)
      go_wp2_with fail
      clear hw
      go_loop [3, 5] (fun n j => ∃ i q : Nat, i ≤ 8 ∧ j = .int .i64 i ∧ n = .int .u32 q ∧ q = Fr.steps i (m ^^^ s[k].toNat)) (fun _ j => 8 - (intOf j).toNat)
      case atStart => exact ⟨0, _, Nat.zero_le _, rfl, by first | rfl | rw [hx], rfl⟩
      case round =>
        obtain ⟨i, q, hi, rfl, rfl, hq⟩ := hrel
        have hlq : q < 4294967296 := by rw [hq]; exact Fr.steps_lt (Fr.xor_lt32 HL.out (by have := s[k].toNat_lt; omega)) _
        have HQ := Lib.hid hq
        have HLQ := Lib.hid hlq
        clear hq hlq hx
        by_cases h8 : i < 8
        · by_cases ho : q % 2 = 1
          · have hob : (((q : Int) % 2) == 1) = true := by simp; omega
            have hs1 := Fr.walk_odd HLQ.out ho
            go_wp2
            go_round
            case rel => exact ⟨i + 1, Fr.step q, by omega, by go_num, by first | rfl | rw [hs1], by rw [HQ.out]; rfl⟩
            case measure => simp [intOf]; omega
          · have hob : (((q : Int) % 2) == 1) = false := by simp; omega
            have HO := Lib.hid ho
            clear ho
            go_wp2
            go_round
            case rel => exact ⟨i + 1, Fr.step q, by omega, by go_num, by rw [← Fr.walk_even HLQ.out HO.out], by rw [HQ.out]; rfl⟩
            case measure => simp [intOf]; omega
        · obtain rfl : i = 8 := by omega
          go_wp2
          go_round
          case rel => exact ⟨k + 1, q, by omega, by go_num, rfl, by rw [HT.out, Fr.run_snoc, ← HM.out]; exact HQ.out⟩
          case measure => simp [intOf]; omega
    · obtain rfl : k = s.size := by omega
      go_wp2
      go_ret
      exact ⟨by rw [Fr.sum, ← Cd.take_all s, ← HM.out, ← Fr.walk_out HL.out]; rfl, rfl⟩

/-- the world of a row of four bytes, written one by one -/
def Row4 (w : World) (g : Nat) (l : List UInt8) : Prop := ∀ j, j < 4 → w.cell? ⟨g, j, none⟩ = some (.int .u8 ((l.getD j 0).toNat : Int)) ∧ w.frozen? ⟨g, j, none⟩ = false
theorem Row4.store {w : World} {g n k : Nat} {x : Value} (h : Row4 w g (Fr.litPart n k)) (hk : k < 4) (hx : x = .int .u8 ((Fr.litByte n k).toNat : Int)) :
    Row4 (w.setCell ⟨g, k, none⟩ x) g (Fr.litPart n (k + 1)) := by
  intro j hj
  rw [World.frozen?_setCell]
  refine ⟨?_, (h j hj).2⟩
  rw [Fr.litPart_get _ _ _ hj]
  by_cases hjk : j = k
  · subst hjk
    rw [World.cell?_setCell_same (h := (h j hj).1), hx, if_pos (by omega)]
  · rw [World.cell?_setCell_other (h := by simp only [ne_eq, Addr.mk.injEq, true_and, and_true]; omega), (h j hj).1, Fr.litPart_get _ _ _ hj]
    by_cases h1 : j < k
    · rw [if_pos h1, if_pos (by omega)]
    · rw [if_neg h1, if_neg (by omega)]
theorem Row4.conv {w : World} {g c : Nat} {l : List UInt8} (h : Row4 w g l) (hl : l.length = 4) : (convert 35 9 (.slice (some ⟨g, 0, none⟩) 4 c)).run Try.prog w = .ok (.string (Cd.bs l)) w := by
  have := run_convert_bytes_back (P := Try.prog) w 35 9 5 ⟨g, 0, none⟩ c l Try.underlying35 Try.underlying5 Try.underlying9 (fun j hj => by
    have := (h j (by omega)).1
    rw [List.getD_eq_getElem?_getD, List.getElem?_eq_getElem hj] at this
    have hp : (⟨g, 0, none⟩ : Addr).add j = ⟨g, j, none⟩ := by unfold Addr.add; split <;> simp_all
    rw [hp]; simpa using this)
  rwa [hl] at this
theorem Row4.new (w : World) (n : Nat) (T : TypeId) : Row4 (w.alloc (.cells #[.int .u8 0, .int .u8 0, .int .u8 0, .int .u8 0] T)) w.heap.size (Fr.litPart n 0) := by
  intro j hj
  rw [Fr.litPart_zero]
  match j, hj with
  | 0, _ => exact ⟨by go_simp, by go_simp⟩
  | 1, _ => exact ⟨by go_simp, by go_simp⟩
  | 2, _ => exact ⟨by go_simp, by go_simp⟩
  | 3, _ => exact ⟨by go_simp, by go_simp⟩

set_option maxRecDepth 100000 in
set_option maxHeartbeats 1000000 in
theorem littler_any (N : Int) (n : Nat) (w : World) (hN : N = n) (h1 : n < 4294967296) :
    Calls Try.prog 34 #[.int .u32 N] w fun e w' => e = .returned (.string (Cd.bs (Fr.lit n))) ∧ Below w.heap.size w w' := by
  have hmk : ∀ w, (Instr.makeSlice 35 (.int .i64 4) (.int .i64 4)).run Try.prog w = .ok (.slice (some ⟨w.heap.size, 0, none⟩) 4 4) (w.alloc (.cells #[.int .u8 0, .int .u8 0, .int .u8 0, .int .u8 0] 5)) := fun _ => by kernel_rfl
  subst hN
  have HN := Lib.hid h1
  clear h1
  go_enter Try.func34, Try.ntmps34
  go_wp2_with fail
  go_loopw [0, 4] (fun u i wr => ∃ (k m : Nat), k ≤ 4 ∧ i = .int .i64 k ∧ u = .int .u32 m ∧ m = n / 256 ^ k ∧ Row4 wr w.heap.size (Fr.litPart n k) ∧ Below w.heap.size w wr) (fun _ i _ => 4 - (intOf i).toNat)
  case atStart => exact ⟨0, n, Nat.zero_le _, rfl, rfl, by simp, Row4.new _ _ _, (Below.refl _ _).alloc (Nat.le_refl _) _⟩
  case round =>
    obtain ⟨k, m, hk, rfl, rfl, hm, hr, hb⟩ := hrel
    have HM := Lib.hid hm
    clear hm
    by_cases hk4 : k < 4
    · have hc := (hr k hk4).1
      have hf := (hr k hk4).2
      have HR := Lib.hid hr
      clear hr
      go_wp2
      go_roundw
      case rel => exact ⟨k + 1, m / 256, by omega, by go_num, by rw [Fr.lit_wrap n k m HN.out HM.out], Fr.lit_down n k m HM.out, HR.out.store hk4 (Fr.litByte_val n k m HM.out), hb.setCell (p := ⟨w.heap.size, k, none⟩) (Nat.le_refl _) _⟩
      case measure => simp [intOf]; omega
    · obtain rfl : k = 4 := by omega
      have hcv := hr.conv (c := 4) (Fr.litPart_len _ _)
      go_wp2
      go_ret
      exact ⟨by rw [Fr.litPart_done]; rfl, hb⟩
end Go.Proofs.Ytaghifnihjlpjaa

namespace Go.Proofs.Ytaghifnihjlpjaa
open Go.RowKit
set_option linter.unusedSimpArgs false
set_option linter.unusedVariables false

/-- string(b) of one byte that lies in a cell -/
theorem conv_cell (W : World) (g : Nat) (x : Int) (c : UInt8) (hx : x = (c.toNat : Int)) (h : W.cell? ⟨g, 0, none⟩ = some (.int .u8 x)) :
    (convert 35 9 (.slice (some ⟨g, 0, none⟩) 1 1)).run Try.prog W = .ok (.string (Cd.bs [c])) W := by
  have := run_convert_bytes_back (P := Try.prog) W 35 9 5 ⟨g, 0, none⟩ 1 [c] Try.underlying35 Try.underlying5 Try.underlying9 (fun j hj => by
    simp at hj; subst hj
    rw [show (⟨g, 0, none⟩ : Addr).add 0 = ⟨g, 0, none⟩ from by simp [Addr.add], h, hx]; rfl)
  simpa using this

theorem bcell {W w1 : World} (hb : Below W.heap.size W w1) : (∀ b o, b < W.heap.size → w1.cell? ⟨b, o, none⟩ = W.cell? ⟨b, o, none⟩) ∧ (∀ b o, b < W.heap.size → w1.frozen? ⟨b, o, none⟩ = W.frozen? ⟨b, o, none⟩) :=
  ⟨fun b o h => hb.cell (p := ⟨b, o, none⟩) h, fun b o h => hb.frozen (p := ⟨b, o, none⟩) h⟩

set_option maxRecDepth 100000 in
set_option maxHeartbeats 1000000 in
theorem framePutr_any (K : Int) (c : UInt8) (hK : K = (c.toNat : Int)) (l : List UInt8) (w : World) (hs : l.length ≤ 140737488351232) :
    Calls Try.prog 21 #[.agg #[.int .u8 K, .string (Cd.bs l)]] w fun e w' => e = .returned (.tuple #[.string (Cd.bs (Fr.put c l).1), .int .i64 (Fr.put c l).2]) ∧ Below w.heap.size w w' := by
  have hsz : (Cd.bs l).size = l.length := rfl
  have HSZ := Lib.hid hsz
  clear hsz
  by_cases h0 : c.toNat = 0
  · have hb : (K == 0) = true := by subst hK; simp [h0]
    rw [Fr.put_zero h0]
    clear hK h0
    go_enter Try.func21, Try.ntmps21
    go_wp2
    go_ret2
    exact ⟨rfl, (Below.refl _ _).alloc (Nat.le_refl _) _⟩
  · have hb : (K == 0) = false := by subst hK; simp; omega
    by_cases hl : l.length ≤ 262144
    · rw [Fr.put_ok h0 hl]
      have HK := Lib.hid hK
      have hcv := fun W g h => conv_cell W g K c hK h
      clear hK h0
      have hT := fun W => putTr_any (Cd.bs l) W (by rw [HSZ.out]; omega)
      have HT := Lib.hid hT
      clear hT
      have hlen : (Cd.putT l).length ≤ 262154 := by have := Cd.putU_len10 l.length (by omega); rw [Cd.putT, List.length_append]; omega
      go_enter Try.func21, Try.ntmps21
      go_wp2_with fail
      go_cut [4] (fun r wx => r = .string (Cd.bs (c :: Cd.putT l)) ∧ Below w.heap.size w wx)
      case first =>
        go_region_with (go_at_call 19; refine (HT.out _).mono ?_; rintro e w1 ⟨rfl, hb1⟩; obtain ⟨hkc, hkf⟩ := bcell hb1; have hsz1 := hb1.size; simp at hsz1)
        all_goals (try go_wp2_with fail)
        all_goals go_meet
        all_goals refine ⟨by rw [ByteArray.mk_append_mk]; rfl, ?_⟩
        all_goals repeat (first
          | exact Below.refl _ _
          | (refine Below.trans ?_ (hb1.mono ?_))
          | apply Below.drew
          | (refine Below.alloc ?_ ?_ _)
          | exact Nat.le_refl _
          | omega
          | (focus (simp; done))
          | (focus (simp; omega)))
      case rest =>
        obtain ⟨rfl, hbc⟩ := hcut
        have hS := fun W => sumr_any (Cd.bs (c :: Cd.putT l)) W (by show (c :: Cd.putT l).length ≤ maxLen; unfold maxLen; rw [List.length_cons]; omega)
        have HS := Lib.hid hS
        have HL := Lib.hid (fun W => littler_any (Fr.sum (c :: Cd.putT l) : Int) (Fr.sum (c :: Cd.putT l)) W rfl (Fr.sum_lt _))
        clear hS hcv
        have hll : (Fr.lit (Fr.sum (c :: Cd.putT l))).length ≤ 4 := by rw [Fr.lit_len]; omega
        have hsl : (Cd.bs (c :: Cd.putT l)).size ≤ 262155 := by show (c :: Cd.putT l).length ≤ 262155; rw [List.length_cons]; omega
        go_wp2_with (first
          | (go_at_call 35; refine (HS.out _).mono ?_; rintro e w' ⟨rfl, rfl⟩)
          | (go_at_call 34; refine (HL.out _).mono ?_; rintro e w3 ⟨rfl, hb3⟩))
        go_ret2
        exact ⟨by rw [ByteArray.mk_append_mk]; rfl, hbc.trans (hb3.mono hbc.size)⟩
    · have hlb : (262144 : Int) < l.length := by omega
      rw [Fr.put_long (by omega)]
      clear hK h0
      go_enter Try.func21, Try.ntmps21
      go_wp2
      go_ret2
      exact ⟨rfl, (Below.refl _ _).alloc (Nat.le_refl _) _⟩
end Go.Proofs.Ytaghifnihjlpjaa

/-
  The document's answers on roots (tapestryref04): EncodeRoot.
-/
namespace Go.Proofs.Ytaghifnihjlpjaa
open Go.RowKit
set_option linter.unusedSimpArgs false
set_option linter.unusedVariables false

namespace Fi
theorem Ints.grow {B B' : Nat} {W W' : World} {v : Value} {l : List Int} (h : Ints B W v l) (hb : Below B W W') (hB : B ≤ B') : Ints B' W' v l := by
  obtain ⟨a, cap, b, off, h1, h2, h3⟩ := h
  exact ⟨a, cap, b, off, h1, fun h => ⟨(h2 h).1, Nat.lt_of_lt_of_le (h2 h).2 hB⟩, fun j hj => (hb.cell (p := ⟨b, off + j, none⟩) (h2 (by omega)).2).trans (h3 j hj)⟩
theorem Files.grow {B B' : Nat} {W W' : World} {v : Value} {L : List (File × Value)} (h : Files B W v L) (hb : Below B W W') (hB : B ≤ B') : Files B' W' v L := by
  obtain ⟨a, cap, b, off, h1, h2, h3⟩ := h
  refine ⟨a, cap, b, off, h1, fun h => ⟨(h2 h).1, Nat.lt_of_lt_of_le (h2 h).2 hB⟩, fun j hj => ?_⟩
  have hl := (h2 (by omega)).2
  obtain ⟨g1, g2, g3, g4⟩ := h3 j hj
  exact ⟨(hb.cell (p := ⟨b, off + j * 3, none⟩) hl).trans g1, (hb.cell (p := ⟨b, off + j * 3 + 1, none⟩) hl).trans g2, (hb.cell (p := ⟨b, off + j * 3 + 2, none⟩) hl).trans g3, g4.grow hb hB⟩
theorem runBytes_len (l : List Int) (h : ∀ b ∈ l, b < 2097152) (hl : l.length ≤ 1048576) : (runBytes l).length ≤ 6291466 := by
  unfold runBytes
  rw [List.length_append]
  have h1 := runs_len l
  have h2 := flat_len (runs l) (runs_small l h (by omega))
  have h3 := Cd.putU_len10 (runs l).length (by omega)
  omega
theorem fileBytes_len (f : File) (h : FileIn f) (hb : ∀ b ∈ f.blocks, b < 2097152) : (fileBytes f).length ≤ 8388608 := by
  unfold fileBytes Cd.putT
  rw [List.length_append, List.length_append, List.length_append]
  have h1 := runBytes_len f.blocks hb h.many
  have h2 := Cd.putU_len10 f.name.length (by have := h.name; omega)
  have h3 := Cd.putU_len10 f.size.toNat (by have := h.size.2; omega)
  have := h.name
  omega
theorem files_len : ∀ (L : List File), (∀ f ∈ L, FileIn f ∧ ∀ b ∈ f.blocks, b < 2097152) → (L.flatMap fileBytes).length ≤ 8388608 * L.length
  | [], _ => by simp
  | f :: r, h => by
    rw [List.flatMap_cons, List.length_append, List.length_cons]
    have := fileBytes_len f (h f (List.mem_cons_self ..)).1 (h f (List.mem_cons_self ..)).2
    have := files_len r (fun y hy => h y (List.mem_cons_of_mem _ hy))
    omega
/-- amid a region whose calls make memory -/
def EncS (w wA W : World) : Prop := Below w.heap.size w W ∧ Below wA.heap.size wA W
theorem EncS.b {w wA W : World} (h : EncS w wA W) : Below w.heap.size w W := h.1
theorem EncS.next {w wA W W' : World} (hle : w.heap.size ≤ wA.heap.size) {o : Nat} (ho : o < wA.heap.size) {v0 v1 v2 : Value} (a0 : wA.cell? ⟨o, 0, none⟩ = some v0) (a1 : wA.cell? ⟨o, 1, none⟩ = some v1) (a2 : wA.cell? ⟨o, 2, none⟩ = some v2) (h : EncS w wA W) (hb : Below W.heap.size W W') :
    EncS w wA W' ∧ W'.cell? ⟨o, 0, none⟩ = some v0 ∧ W'.cell? ⟨o, 1, none⟩ = some v1 ∧ W'.cell? ⟨o, 2, none⟩ = some v2 := by
  have h2 : Below wA.heap.size wA W' := h.2.trans (hb.mono h.2.size)
  exact ⟨⟨h.1.trans (hb.mono (Nat.le_trans hle h.2.size)), h2⟩, (h2.cell (p := ⟨o, 0, none⟩) ho).trans a0, (h2.cell (p := ⟨o, 1, none⟩) ho).trans a1, (h2.cell (p := ⟨o, 2, none⟩) ho).trans a2⟩
theorem encode_bad {r : Root} {n : Int} (h : may r (min n 16384) = false) : encode r n = ([], 1) := by unfold encode; rw [h]; rfl
end Fi

set_option maxRecDepth 100000 in
set_option maxHeartbeats 8000000 in
theorem encodeR_any (g : Nat) (fv : Value) (L : List (Fi.File × Value)) (n : Int) (w : World) (hg : g < 18446744073709551616) (hn : Fi.inI64 n) (hF : Fi.Files w.heap.size w fv L) (hin : ∀ x ∈ L, Fi.FileIn x.1) (hL : L.length ≤ 1048576) :
    Calls Try.prog 6 #[.agg #[.int .u64 (g : Int), fv], .int .i64 n] w fun e w' =>
      e = .returned (.tuple #[.string (Cd.bs (Fi.encode ⟨g, L.map (·.1)⟩ n).1), .int .i64 ((Fi.encode ⟨g, L.map (·.1)⟩ n).2 : Int)]) ∧ Below w.heap.size w w' := by
  obtain ⟨hn1, hn2⟩ := hn
  obtain ⟨m, hm⟩ : ∃ m, min n 16384 = m := ⟨_, rfl⟩
  have hF0 := hF
  obtain ⟨a, cap, fb, fo, rfl, ha, hcells⟩ := hF
  have hFw := hF0.grow ((Below.refl w.heap.size w).alloc (Nat.le_refl _) (.cells #[.int .u64 (g : Int), .slice a L.length cap] 25)) (B' := w.heap.size + 1) (by omega)
  have hMay := mayR_any g (.slice a L.length cap) L m (w.alloc (.cells #[.int .u64 (g : Int), .slice a L.length cap] 25)) hg (by constructor <;> omega) (by omega) (by simpa using hFw) hin hL
  have bx := Ob.Obj.new w 25 [.int .u64 (g : Int), .slice a L.length cap]
  have hW : Below w.heap.size w (w.alloc (.cells #[.int .u64 (g : Int), .slice a L.length cap] 25)) := (Below.refl _ _).alloc (Nat.le_refl _) _
  cases hmay : Fi.may ⟨g, L.map (·.1)⟩ m with
  | false =>
    rw [Fi.encode_bad (by rw [hm]; exact hmay)]
    rw [hmay] at hMay
    have HM := Lib.hid hMay
    clear hMay hmay hF0 hFw hcells
    go_enter Try.func6, Try.ntmps6
    go_wp2_with (go_at_call 17; refine HM.out.mono ?_; rintro e w1 ⟨rfl, hb1⟩)
    go_ret2
    exact ⟨rfl, hW.trans (hb1.mono (by simp))⟩
  | true =>
    rw [hmay] at hMay
    have HM := Lib.hid hMay
    obtain ⟨g1, g2, g3, hfi⟩ := Fi.may_in hmay
    have hfi2 : ∀ (q : Nat) (h : q < L.length), (∀ b ∈ L[q].1.blocks, 32 ≤ b ∧ b < m) ∧ 0 ≤ L[q].1.size ∧ L[q].1.name.length ≤ 32 := fun q h => hfi L[q].1 (List.mem_map_of_mem (List.getElem_mem h))
    have HFI := Lib.hid hfi2
    have hL64 : L.length ≤ 64 := by simpa using g3
    have HENC := Lib.hid (show Fi.encode ⟨g, L.map (·.1)⟩ n = if (Fr.put 1 (Fi.rootLoad ⟨g, L.map (·.1)⟩)).2 = 0 ∧ (Fr.put 1 (Fi.rootLoad ⟨g, L.map (·.1)⟩)).1.length ≤ 3840 then ((Fr.put 1 (Fi.rootLoad ⟨g, L.map (·.1)⟩)).1, 0) else ([], 5) by
      unfold Fi.encode; rw [hm, hmay]; rfl)
    have HC := Lib.hid hcells
    have HP1 := Lib.hid (fun W => putUr_at (g : Int) g W rfl hg)
    have HP2 := Lib.hid (fun W => putUr_at (L.length : Int) L.length W rfl (by omega))
    have hpl1 := Cd.putU_len10 g (by omega)
    have hpl2 := Cd.putU_len10 L.length (by omega)
    clear hMay hmay hfi hfi2 g3 hcells
    go_enter Try.func6, Try.ntmps6
    go_wp2_with (go_at_call 17; refine HM.out.mono ?_; rintro e w1 ⟨rfl, hb1⟩; have bx1 := bx.below hb1; have c10 := bx1.cell 0; have c11 := bx1.cell 1; simp at c10 c11; have hz1 : w.heap.size < w1.heap.size := bx1.lt)
    go_cut [7] (fun r wx => r = .string (Cd.bs (Cd.putU g ++ Cd.putU L.length)) ∧ Below w1.heap.size w1 wx)
    case first =>
      have hwL : IntKind.u64.wrap (L.length : Int) = (L.length : Int) := Cd.wrapU_nat (by omega)
      go_region_with (first
        | (go_at_call 18; (with_reducible refine (HP1.out _).mono ?_); rintro e w2 ⟨rfl, hb2⟩; have hz2 := hb2.size; (try simp at hz2); have hz2' : w.heap.size < w2.heap.size := (by omega); have k20 : w2.cell? ⟨w.heap.size, 0, none⟩ = some (.int .u64 (g : Int)) := (hb2.cell (p := ⟨w.heap.size, 0, none⟩) (by show w.heap.size < _; first | omega | (simp; omega))).trans (by first | exact c10 | exact k30); have k21 : w2.cell? ⟨w.heap.size, 1, none⟩ = some (.slice a L.length cap) := (hb2.cell (p := ⟨w.heap.size, 1, none⟩) (by show w.heap.size < _; first | omega | (simp; omega))).trans (by first | exact c11 | exact k31))
        | (go_at_call 18; (with_reducible refine (HP2.out _).mono ?_); rintro e w3 ⟨rfl, hb3⟩; have hz3 := hb3.size; (try simp at hz3); have hz3' : w.heap.size < w3.heap.size := (by omega); have k30 : w3.cell? ⟨w.heap.size, 0, none⟩ = some (.int .u64 (g : Int)) := (hb3.cell (p := ⟨w.heap.size, 0, none⟩) (by show w.heap.size < _; first | omega | (simp; omega))).trans (by first | exact c10 | exact k20); have k31 : w3.cell? ⟨w.heap.size, 1, none⟩ = some (.slice a L.length cap) := (hb3.cell (p := ⟨w.heap.size, 1, none⟩) (by show w.heap.size < _; first | omega | (simp; omega))).trans (by first | exact c11 | exact k21)))
      all_goals clear hwL
      all_goals (try go_wp2_with fail)
      all_goals go_meet
      all_goals refine ⟨by rw [ByteArray.mk_append_mk], ?_⟩
      all_goals repeat (first
        | exact Below.refl _ _
        | (refine Below.trans ?_ (hb2.mono ?_))
        | (refine Below.trans ?_ (hb3.mono ?_))
        | apply Below.drew
        | (refine Below.alloc ?_ ?_ _)
        | exact Nat.le_refl _
        | omega
        | (focus (simp; done))
        | (focus (simp; omega)))
    case rest =>
      obtain ⟨rfl, hbc⟩ := hcut
      have hbxc := bx1.below hbc
      have hBc : Below w.heap.size w wc := hW.trans ((hb1.mono (by simp)).trans (hbc.mono (by omega)))
      have hhd : (Cd.putU g ++ Cd.putU L.length).length ≤ 20 := by rw [List.length_append]; omega
      have hcc1 := hbxc.cell 1
      simp at hcc1
      obtain ⟨HD, hHD⟩ : ∃ HD, HD = Cd.putU g ++ Cd.putU L.length := ⟨_, rfl⟩
      rw [← hHD] at hhd ⊢
      have HHD := Lib.hid hHD
      clear hHD c10 c11 hz1 bx bx1 hb1 hbc HM
      go_wp2_with fail
      go_loopg [7, 8] L.length (fun gh s i wr => ∃ q : Nat, gh = L.length - q ∧ q ≤ L.length ∧ i = .int .i64 q ∧ s = .string (Cd.bs (HD ++ ((L.map (·.1)).take q).flatMap Fi.fileBytes)) ∧ Ob.Obj wr w.heap.size 25 [.int .u64 (g : Int), .slice a L.length cap] ∧ Below w.heap.size w wr)
      case atStart => exact ⟨0, rfl, Nat.zero_le _, rfl, by simp, hbxc, hBc⟩
      case round =>
        obtain ⟨q, rfl, hq, rfl, rfl, hbx, hB⟩ := hrel
        obtain ⟨wo, rfl⟩ : ∃ wo : World, wo = wr := ⟨_, rfl⟩
        have c1 := hbx.cell 1
        simp at c1
        have hwl : w.heap.size < wo.heap.size := hbx.lt
        by_cases hlt : q < L.length
        · obtain ⟨rfl, hfb⟩ := ha (by omega)
          obtain ⟨d0, d1, d2, d3⟩ := HC.out q hlt
          have e0 := (hB.cell (p := ⟨fb, fo + q * 3, none⟩) hfb).trans d0
          have e1 := (hB.cell (p := ⟨fb, fo + q * 3 + 1, none⟩) hfb).trans d1
          have e2 := (hB.cell (p := ⟨fb, fo + q * 3 + 2, none⟩) hfb).trans d2
          have hx := hin L[q] (List.getElem_mem hlt)
          obtain ⟨f1, f2, f3⟩ := HFI.out q hlt
          have hsl : (HD ++ ((L.map (·.1)).take q).flatMap Fi.fileBytes).length ≤ 600000000 := by
            rw [List.length_append]
            have := Fi.files_len ((L.map (·.1)).take q) (fun f hf => by
              obtain ⟨y, hy, rfl⟩ := List.mem_map.1 (List.mem_of_mem_take hf)
              obtain ⟨k, hk, rfl⟩ := List.getElem_of_mem hy
              exact ⟨hin L[k] (List.getElem_mem hk), fun b hb => by have := (HFI.out k hk).1 b hb; omega⟩)
            have h2 : ((L.map (·.1)).take q).length ≤ 64 := by simp; omega
            omega
          have hts : HD ++ ((L.map (·.1)).take (q + 1)).flatMap Fi.fileBytes = (HD ++ ((L.map (·.1)).take q).flatMap Fi.fileBytes) ++ Fi.fileBytes L[q].1 := by
            rw [List.take_succ_eq_append_getElem (by simpa using hlt), List.flatMap_append, List.append_assoc]; simp
          have HTS := Lib.hid hts
          have hfbl := Fi.fileBytes_len L[q].1 hx (fun b hb => by have := f1 b hb; omega)
          have hdb : Fi.fileBytes L[q].1 = Cd.putT L[q].1.name ++ Cd.putU L[q].1.size.toNat ++ Fi.runBytes L[q].1.blocks := rfl
          have hi1 : (0 : Int) ≤ (q : Int) ∧ (q : Int) < (L.length : Int) := by omega
          clear hts
          generalize L[q].1 = f at *
          generalize L[q].2 = bv at *
          obtain ⟨hx1, ⟨hx2, hx3⟩, hx4, hx5⟩ := hx
          have HRU := Lib.hid (fun W (hW' : Below w.heap.size w W) => runsR_any bv f.blocks W (d3.grow hW' hW'.size) (fun b hb => ⟨by have := f1 b hb; omega, by have := f1 b hb; omega⟩) hx4)
          obtain ⟨a2, cap2, b2, o2, rfl, hb2', hc2⟩ := d3
          have HPT := Lib.hid (fun W => show Calls Try.prog 19 #[.string (Cd.bs f.name)] W fun e w' => e = .returned (.string (Cd.bs (Cd.putT f.name))) ∧ Below W.heap.size W w' from putTr_any (Cd.bs f.name) W (by show f.name.length ≤ _; omega))
          have HPS := Lib.hid (fun W => putUr_at f.size f.size.toNat W (by omega) (by omega))
          have hwb : fb < wo.heap.size := by have := hB.size; omega
          have HDB := Lib.hid hdb
          have l1 : (Cd.putT f.name).length ≤ 8388608 := by rw [hdb] at hfbl; simp only [List.length_append] at hfbl; omega
          have l2 : (Cd.putU f.size.toNat).length ≤ 8388608 := by rw [hdb] at hfbl; simp only [List.length_append] at hfbl; omega
          have l3 : (Fi.runBytes f.blocks).length ≤ 8388608 := by rw [hdb] at hfbl; simp only [List.length_append] at hfbl; omega
          clear hc2 hdb hb2' hfbl f1
          generalize HD ++ ((L.map (·.1)).take q).flatMap Fi.fileBytes = S1 at *
          obtain ⟨wA, hwA⟩ : ∃ wA, wo.alloc (.cells #[.string (Cd.bs f.name), .int .i64 f.size, .slice a2 f.blocks.length cap2] 46) = wA := ⟨_, rfl⟩
          have bA : Below w.heap.size w wA := by rw [← hwA]; exact hB.alloc hB.size _
          have hoA : Ob.Obj wA wo.heap.size 46 [.string (Cd.bs f.name), .int .i64 f.size, .slice a2 f.blocks.length cap2] := by rw [← hwA]; exact Ob.Obj.new wo _ _
          have hbA : Ob.Obj wA w.heap.size 25 [.int .u64 (g : Int), .slice (some ⟨fb, fo, none⟩) L.length cap] := by rw [← hwA]; exact hbx.alloc _
          have a0 := hoA.cell 0
          have a1 := hoA.cell 1
          have a2' := hoA.cell 2
          simp at a0 a1 a2'
          have hlA := hoA.lt
          have HWA := Lib.hid hwA
          clear hwA
          go_upto_block 1 with fail
          go_cut [7] from 34 to 52 (fun r wx => r = .string (Cd.bs (S1 ++ Fi.fileBytes f)) ∧ Below wA.heap.size wA wx)
          case first =>
            go_wp2_with fail
            rw [HWA.out]
            have hwS : IntKind.u64.wrap f.size = f.size := by rw [show IntKind.u64.wrap f.size = f.size % 18446744073709551616 from rfl]; omega
            have q1 : ¬ 9223372036854775807 < S1.length + (Cd.putT f.name).length := by omega
            have q2 : ¬ 9223372036854775807 < S1.length + (Cd.putT f.name).length + (Cd.putU f.size.toNat).length := by omega
            have q3 : ¬ 9223372036854775807 < S1.length + (Cd.putT f.name).length + (Cd.putU f.size.toNat).length + (Fi.runBytes f.blocks).length := by omega
            have NX := Lib.hid (fun W W' (h : Fi.EncS w wA W ∧ W.cell? ⟨wo.heap.size, 0, none⟩ = some (.string (Cd.bs f.name)) ∧ W.cell? ⟨wo.heap.size, 1, none⟩ = some (.int .i64 f.size) ∧ W.cell? ⟨wo.heap.size, 2, none⟩ = some (.slice a2 f.blocks.length cap2)) (hb : Below W.heap.size W W') => Fi.EncS.next bA.size hlA a0 a1 a2' h.1 hb)
            have HRV := Lib.hid (fun W (h : Fi.EncS w wA W ∧ W.cell? ⟨wo.heap.size, 0, none⟩ = some (.string (Cd.bs f.name)) ∧ W.cell? ⟨wo.heap.size, 1, none⟩ = some (.int .i64 f.size) ∧ W.cell? ⟨wo.heap.size, 2, none⟩ = some (.slice a2 f.blocks.length cap2)) => HRU.out W h.1.1)
            have hS0 : Fi.EncS w wA wA ∧ wA.cell? ⟨wo.heap.size, 0, none⟩ = some (.string (Cd.bs f.name)) ∧ wA.cell? ⟨wo.heap.size, 1, none⟩ = some (.int .i64 f.size) ∧ wA.cell? ⟨wo.heap.size, 2, none⟩ = some (.slice a2 f.blocks.length cap2) := ⟨⟨bA, Below.refl _ _⟩, a0, a1, a2'⟩
            have hS1 : Fi.EncS w wA wA.drew ∧ wA.drew.cell? ⟨wo.heap.size, 0, none⟩ = some (.string (Cd.bs f.name)) ∧ wA.drew.cell? ⟨wo.heap.size, 1, none⟩ = some (.int .i64 f.size) ∧ wA.drew.cell? ⟨wo.heap.size, 2, none⟩ = some (.slice a2 f.blocks.length cap2) := ⟨⟨bA.drew, (Below.refl _ _).drew⟩, a0, a1, a2'⟩
            have HS0 := Lib.hid hS0
            have HS1 := Lib.hid hS1
            clear hS0 hS1
            go_region_held3 (fun w' => Fi.EncS w wA w' ∧ w'.cell? ⟨wo.heap.size, 0, none⟩ = some (.string (Cd.bs f.name)) ∧ w'.cell? ⟨wo.heap.size, 1, none⟩ = some (.int .i64 f.size) ∧ w'.cell? ⟨wo.heap.size, 2, none⟩ = some (.slice a2 f.blocks.length cap2))
              (first | exact HS0.out | exact HS1.out | exact NX.out _ _ (by assumption) hb2)
              (first
              | (go_at_call 19; (with_reducible refine (HPT.out _).mono ?_); rintro e w2 ⟨rfl, hb2⟩)
              | (go_at_call 18; (with_reducible refine (HPS.out _).mono ?_); rintro e w2 ⟨rfl, hb2⟩)
              | (go_at_call 20; (with_reducible refine (HRV.out _ (by assumption)).mono ?_); rintro e w2 ⟨rfl, hb2⟩))
            clear hwS q1 q2 q3
            go_wp2_with fail
            go_meet
            exact ⟨by rw [HDB.out, ByteArray.mk_append_mk, ByteArray.mk_append_mk, ByteArray.mk_append_mk, List.append_assoc, List.append_assoc, List.append_assoc], (show Fi.EncS w wA _ ∧ _ from by assumption).1.2⟩
          case rest =>
            obtain ⟨rfl, hbd⟩ := hcut
            have hbx3 := hbA.below hbd
            have hB3 := bA.trans (hbd.mono bA.size)
            clear a0 a1 a2' HPT HPS HRU
            go_wp2_with fail
            go_roundg (L.length - (q + 1))
            case rel => exact ⟨q + 1, rfl, by omega, by go_num, by rw [HTS.out], hbx3, hB3⟩
            case measure => omega
        · obtain rfl : q = L.length := by omega
          have HLOAD := Lib.hid (show HD ++ ((L.map (·.1)).take L.length).flatMap Fi.fileBytes = Fi.rootLoad ⟨g, L.map (·.1)⟩ by
            unfold Fi.rootLoad
            rw [HHD.out, List.take_of_length_le (by simp)]; simp)
          rw [HLOAD.out]
          have hll : (Fi.rootLoad ⟨g, L.map (·.1)⟩).length ≤ 600000000 := by
            rw [← HLOAD.out, List.length_append]
            have := Fi.files_len ((L.map (·.1)).take L.length) (fun f hf => by
              obtain ⟨y, hy, rfl⟩ := List.mem_map.1 (List.mem_of_mem_take hf)
              obtain ⟨k, hk, rfl⟩ := List.getElem_of_mem hy
              exact ⟨hin L[k] (List.getElem_mem hk), fun b hb => by have := (HFI.out k hk).1 b hb; omega⟩)
            have h2 : ((L.map (·.1)).take L.length).length ≤ 64 := by simp; omega
            omega
          have hPut := fun W => framePutr_any 1 1 rfl (Fi.rootLoad ⟨g, L.map (·.1)⟩) W (by omega)
          have HPUT := Lib.hid hPut
          clear hPut
          generalize Fi.rootLoad ⟨g, L.map (·.1)⟩ = ld at *
          generalize Fr.put 1 ld = pr at *
          obtain ⟨pb, pe⟩ := pr
          by_cases he : pe = 0
          · subst he
            by_cases hlp : pb.length ≤ 3840
            · have HEN := Lib.hid (HENC.out.trans (if_pos ⟨rfl, hlp⟩))
              have hsz : (Cd.bs pb).size = pb.length := rfl
              have hlpi : ¬ (3840 : Int) < (pb.length : Int) := by omega
              clear hlp
              go_wp2_with (go_at_call 21; refine (HPUT.out _).mono ?_; rintro e w5 ⟨rfl, hb5⟩)
              go_ret2
              exact ⟨by rw [HEN.out]; rfl, hB.trans (hb5.mono hB.size)⟩
            · have HEN := Lib.hid (HENC.out.trans (if_neg (fun h => hlp h.2)))
              have hsz : (Cd.bs pb).size = pb.length := rfl
              have hlpi : (3840 : Int) < (pb.length : Int) := by omega
              clear hlp
              go_wp2_with (go_at_call 21; refine (HPUT.out _).mono ?_; rintro e w5 ⟨rfl, hb5⟩)
              go_ret2
              exact ⟨by rw [HEN.out]; rfl, hB.trans (hb5.mono hB.size)⟩
          · have HEN := Lib.hid (HENC.out.trans (if_neg (fun h => he h.1)))
            have heb : (((pe : Nat) : Int) != 0) = true := by simp; omega
            have heb2 : (((pe : Nat) : Int) == 0) = false := by simp; omega
            have HE := Lib.hid he
            clear he
            go_wp2_with (go_at_call 21; refine (HPUT.out _).mono ?_; rintro e w5 ⟨rfl, hb5⟩)
            go_ret2
            exact ⟨by rw [HEN.out]; rfl, hB.trans (hb5.mono hB.size)⟩
end Go.Proofs.Ytaghifnihjlpjaa

/-
  Roots that came in, opened.
-/
namespace Go.Proofs.Ytaghifnihjlpjaa
open Go.RowKit
set_option linter.unusedVariables false

namespace Gn
theorem mem_sum {α : Type} (f : α → Nat) : ∀ (l : List α) (j : Nat) (h : j < l.length), f l[j] ≤ (l.map f).sum
  | x :: r, 0, _ => by simp
  | x :: r, j + 1, h => by
    have := mem_sum f r j (by simpa using h)
    simp; omega
theorem len_sum {α : Type} (f : α → Nat) (h1 : ∀ x, 1 ≤ f x) : ∀ l : List α, l.length ≤ (l.map f).sum
  | [] => by simp
  | x :: r => by
    have := len_sum f h1 r
    have := h1 x
    simp; omega
/-- a row of numbers -/
theorem rd_ints {B : Nat} {W : World} {k : IntKind} {cs : List Value} {l : List Int} (h : RdL B W 1 (RdC B W (.int k)) cs l) :
    ∃ (a : Option Addr) (cap b off : Nat), cs = [.slice a l.length cap] ∧ (0 < l.length → a = some ⟨b, off, none⟩ ∧ b < B) ∧ ∀ j (h : j < l.length), W.cell? ⟨b, off + j, none⟩ = some (.int k l[j]) ∧ (Lit.int k l[j]).wf = true := by
  obtain ⟨a, cap, b, off, h1, _, _, h2, h3⟩ := h
  refine ⟨a, cap, b, off, h1, h2, fun j hj => ?_⟩
  obtain ⟨cs', g1, g2, rfl, g4⟩ := h3 j hj
  have := g2 0 (by omega)
  simp at this
  exact ⟨this, g4⟩
end Gn

namespace Fi
open Gn
abbrev fileT : Ty := .struct (.cons .str (.cons (.int .i64) (.cons (.slice (.int .i64)) .nil)))
abbrev rootT : Ty := .struct (.cons (.int .u64) (.cons (.slice fileT) .nil))
abbrev FD := List UInt8 × Int × List Int × Unit
def FD.file (x : FD) : File := ⟨x.1, x.2.1, x.2.2.1⟩
theorem i64_of {n : Int} (h : (Lit.int .i64 n).wf = true) : inI64 n := by
  simpa [Lit.wf, IntKind.min, IntKind.max, IntKind.signed, IntKind.bits, inI64] using h
theorem u64_of {n : Int} (h : (Lit.int .u64 n).wf = true) : 0 ≤ n ∧ n < 18446744073709551616 := by
  have : 0 ≤ n ∧ n ≤ 18446744073709551615 := by simpa [Lit.wf, IntKind.min, IntKind.max, IntKind.signed, IntKind.bits] using h
  omega
theorem rd_file {B : Nat} {W : World} {cs : List Value} {x : FD} (h : RdC B W fileT cs x) :
    ∃ bv, cs = [.string (Cd.bs x.1), .int .i64 x.2.1, bv] ∧ Ints B W bv x.2.2.1 ∧ inI64 x.2.1 ∧ ∀ b ∈ x.2.2.1, inI64 b := by
  obtain ⟨c1, c2, rfl, _, ⟨rfl, _⟩, c3, c4, rfl, _, ⟨rfl, hw⟩, c5, c6, rfl, _, h5, rfl⟩ := h
  obtain ⟨a, cap, b, off, rfl, g2, g3⟩ := rd_ints (l := x.2.2.1) h5
  refine ⟨_, rfl, ⟨a, cap, b, off, rfl, g2, fun j hj => (g3 j hj).1⟩, i64_of hw, fun y hy => ?_⟩
  obtain ⟨k, hk, rfl⟩ := List.getElem_of_mem hy
  exact i64_of (g3 k hk).2
/-- a root that came in -/
structure RootIn (W : World) (g : Nat) (fv : Value) (L : List (File × Value)) : Prop where
  gen : g < 18446744073709551616
  files : Files W.heap.size W fv L
  ok : ∀ x ∈ L, FileIn x.1
  len : L.length ≤ 1048576
theorem rd_files {B : Nat} {W : World} {cs : List Value} {l : List FD} (h : RdL B W 3 (RdC B W fileT) cs l) (hb : (Ty.slice fileT).bulk l ≤ 1048576) :
    ∃ fv, ∃ L : List (File × Value), cs = [fv] ∧ Files B W fv L ∧ (∀ x ∈ L, FileIn x.1) ∧ L.length ≤ 1048576 ∧ L.map (·.1) = l.map FD.file := by
  obtain ⟨a, cap, b, off, h1, _, _, h2, h3⟩ := h
  have hbs : ((l.map fun d => fileT.bulk d).sum) + 1 ≤ 1048576 := hb
  obtain ⟨L, hL, hq⟩ := list_of (len := l.length) (Q := fun j (F : File × Value) => ∃ h : j < l.length, F.1 = FD.file l[j] ∧ FileIn F.1 ∧
      W.cell? ⟨b, off + j * 3, none⟩ = some (.string (Cd.bs F.1.name)) ∧ W.cell? ⟨b, off + j * 3 + 1, none⟩ = some (.int .i64 F.1.size) ∧ W.cell? ⟨b, off + j * 3 + 2, none⟩ = some F.2 ∧ Ints B W F.2 F.1.blocks) (fun j hj => by
    obtain ⟨cs', g1, g2, g3⟩ := h3 j hj
    obtain ⟨bv, rfl, k1, k2, k3⟩ := rd_file g3
    have hm : fileT.bulk l[j] ≤ (l.map fun d => fileT.bulk d).sum := mem_sum (fun d => fileT.bulk d) l j hj
    have e : fileT.bulk l[j] = l[j].1.length + 1 + (1 + ((l[j].2.2.1.map fun _ => 1).sum + 1 + 0)) + 1 := rfl
    have hl := len_sum (fun _ : Int => 1) (fun _ => Nat.le_refl _) l[j].2.2.1
    rw [e] at hm
    refine ⟨(FD.file l[j], bv), hj, rfl, ⟨?_, k2, ?_, k3⟩, ?_, ?_, ?_, k1⟩
    · show l[j].1.length ≤ _; omega
    · show l[j].2.2.1.length ≤ _; omega
    · have := g2 0 (by omega); simp at this; exact this
    · have := g2 1 (by omega); simp at this; exact this
    · have := g2 2 (by omega); simp at this; exact this)
  have hll : l.length ≤ (l.map fun d => fileT.bulk d).sum := len_sum (fun d => fileT.bulk d) (fun d => by show 1 ≤ _ + 1; omega) l
  refine ⟨.slice a l.length cap, L, h1, ⟨a, cap, b, off, by rw [hL], fun h => h2 (by rw [hL] at h; exact h), fun j hj => ?_⟩, fun x hx => ?_, by omega, ?_⟩
  · obtain ⟨_, _, _, k⟩ := hq j hj; exact k
  · obtain ⟨j, hj, rfl⟩ := List.getElem_of_mem hx
    obtain ⟨_, _, k, _⟩ := hq j hj; exact k
  · apply List.ext_getElem
    · simp [hL]
    · intro j h1' h2'
      obtain ⟨_, k, _⟩ := hq j (by simpa using h1')
      simpa using k

variable {H : Type} {enc : TypeId × Value → H} {W : World}
set_option maxRecDepth 100000 in
theorem open_root {B : Nat} {v : Value} {d : DataW H} {p : List MemPlace} {base : Nat} (hv : Value.okWide Try.prog W .any base 25 v)
    (h : DataW.Trod enc Try.prog W 0 (fun _ => true) true 25 v d p) (hlt : ∀ x ∈ p, x.block < W.heap.size) (hB : Rows.uptoBulk d ≤ B) (hB2 : B ≤ 1048576 := by omega) :
    ∃ (g : Nat) (fv : Value) (L : List (File × Value)), v = .agg #[.int .u64 (g : Int), fv] ∧ RootIn W g fv L := by
  obtain ⟨cs, x, rfl, hx, hb⟩ := open_val rootT (by kernel_rfl) hv h hB
  obtain ⟨c1, c2, rfl, _, ⟨rfl, hw⟩, c3, c4, rfl, _, h5, rfl⟩ := hx
  obtain ⟨fv, L, rfl, k1, k2, k3, _⟩ := rd_files (l := x.2.1) h5 (by
    have e : rootT.bulk x = 1 + ((Ty.slice fileT).bulk x.2.1 + 0) + 1 := rfl
    omega)
  obtain ⟨w1, w2⟩ := u64_of hw
  obtain ⟨g, hg⟩ := Int.eq_ofNat_of_zero_le w1
  refine ⟨g, fv, L, ?_, ⟨by omega, k1, k2, k3⟩⟩
  show Value.agg #[.int .u64 x.1, fv] = _
  rw [show x.1 = (g : Int) from hg]
end Fi
end Go.Proofs.Ytaghifnihjlpjaa

/-
  The law FilesRoots, over what the program's EncodeRoot owes.
-/
namespace Go.Proofs.Ytaghifnihjlpjaa
open Go.RowKit
set_option linter.unusedSimpArgs false
set_option linter.unusedVariables false

/-- what the program's EncodeRoot owes -/
def EncOk : Prop := ∀ (g : Nat) (fv : Value) (L : List (Fi.File × Value)) (n : Int) (w : World), Fi.inI64 n → Fi.RootIn w g fv L →
  Calls Try.prog 5 #[.agg #[.int .u64 (g : Int), fv], .int .i64 n] w fun e w' =>
      e = .returned (.tuple #[.string (Cd.bs (Fi.encode ⟨g, L.map (·.1)⟩ n).1), .int .i64 ((Fi.encode ⟨g, L.map (·.1)⟩ n).2 : Int)]) ∧ Below w.heap.size w w'

theorem Fi.RootIn.grow {w w' : World} {g : Nat} {fv : Value} {L : List (Fi.File × Value)} (h : Fi.RootIn w g fv L) (hb : Below w.heap.size w w') : Fi.RootIn w' g fv L :=
  ⟨h.gen, h.files.grow hb hb.size, h.ok, h.len⟩

set_option maxRecDepth 100000 in
set_option maxHeartbeats 2000000 in
theorem filesRoots_walk (E : EncOk) (g : Nat) (fv : Value) (L : List (Fi.File × Value)) (n : Int) (w : World) (R : Fi.RootIn w g fv L) (n1 : -9223372036854775808 ≤ n) (n2 : n ≤ 9223372036854775807) :
    Calls Try.prog 3 #[.agg #[.int .u64 (g : Int), fv], .int .i64 n] w fun e w' => e = .returned (.bool true) ∧ Below w.heap.size w w' := by
  have R0 := R
  obtain ⟨hg, ⟨a, cap, fb, fo, rfl, ha, hcells⟩, hok, hlen⟩ := R
  have bx := Ob.Obj.new w 25 [.int .u64 (g : Int), .slice a L.length cap]
  have hW : Below w.heap.size w (w.alloc (.cells #[.int .u64 (g : Int), .slice a L.length cap] 25)) := (Below.refl _ _).alloc (Nat.le_refl _) _
  have R1 := R0.grow hW
  have h1 := E g (.slice a L.length cap) L n _ ⟨n1, n2⟩ R1
  have h2 := Lib.hid (fun W (R : Fi.RootIn W g (.slice a L.length cap) L) => encodeR_any g (.slice a L.length cap) L n W R.gen ⟨n1, n2⟩ R.files R.ok R.len)
  generalize Fi.encode ⟨g, L.map (·.1)⟩ n = pr at *
  obtain ⟨pb, pe⟩ := pr
  have H1 := Lib.hid h1
  have HR1 := Lib.hid R1
  clear h1 hcells R0 R1 ha
  go_enter Try.func3, Try.ntmps3
  go_wp2_with (first
    | (go_at_call 5; (with_reducible refine H1.out.mono ?_); rintro e w1 ⟨rfl, hb1⟩; have bx1 := bx.below hb1; have c0 := bx1.cell 0; have c1 := bx1.cell 1; simp at c0 c1; have hlb := bx1.lt)
    | (go_at_call 6; (with_reducible refine (h2.out _ (HR1.out.grow hb1)).mono ?_); rintro e w2 ⟨rfl, hb2⟩))
  go_ret
  exact ⟨rfl, hW.trans ((hb1.mono (by simp)).trans (hb2.mono (by have := hb1.size; simp at this; omega)))⟩
end Go.Proofs.Ytaghifnihjlpjaa

namespace Go.Proofs.Ytaghifnihjlpjaa
open Go.RowKit
set_option linter.unusedSimpArgs false
set_option linter.unusedVariables false

/-- a frame's answer as Go hands it back -/
abbrev frameV (r : (UInt8 × List UInt8) × Nat × Nat) : Value := .tuple #[.agg #[.int .u8 (r.1.1.toNat : Int), .string (Cd.bs r.1.2)], .int .i64 r.2.1, .int .i64 r.2.2]

end Go.Proofs.Ytaghifnihjlpjaa
namespace Go.Proofs.Ytaghifnihjlpjaa
open Go.RowKit
set_option linter.unusedSimpArgs false
set_option linter.unusedVariables false

/-- frames with their places, as cells -/
def atCells (out : List (Nat × (UInt8 × List UInt8))) : List Value := (out.map fun x => [Value.int .i64 x.1, .int .u8 x.2.1.toNat, .string (Cd.bs x.2.2)]).flatten
theorem atCells_snoc (out : List (Nat × (UInt8 × List UInt8))) (x : Nat × (UInt8 × List UInt8)) : atCells (out ++ [x]) = atCells out ++ [.int .i64 x.1, .int .u8 x.2.1.toNat, .string (Cd.bs x.2.2)] := by simp [atCells]
theorem cell_three_new (w : World) (a b c : Value) (t : TypeId) : ∀ j u, [a, b, c][j]? = some u → (w.alloc (.cells #[a, b, c] t)).cell? ((⟨w.heap.size, 0, none⟩ : Addr).add j) = some u := by
  intro j u hj
  match j, hj with
  | 0, hj => simp at hj; subst hj; simp [Addr.add]
  | 1, hj => simp at hj; subst hj; simp [Addr.add]
  | 2, hj => simp at hj; subst hj; simp [Addr.add]
  | (j + 3), hj => simp at hj

/-- what is owned stays owned behind whatever keeps the blocks that there are -/
theorem own_below {W w : World} {base : Nat} {e : TypeId} {size : Nat} {v : Value} {n : Nat} {xs : List Value} (h : W.ownsRow base e size v n xs) (hb : Below W.heap.size W w) : w.ownsRow base e size v n xs := by
  refine ⟨h.1, ?_⟩
  rcases h.2 with h | ⟨g, cap, cur, h1, h2, h3, h4⟩
  · exact .inl h
  · exact .inr ⟨g, cap, cur, h1, h2, (hb.block g (Array.getElem?_eq_some_iff.1 h3).1).trans h3, h4⟩

end Go.Proofs.Ytaghifnihjlpjaa
namespace Go.Proofs.Ytaghifnihjlpjaa
open Go.RowKit
set_option linter.unusedSimpArgs false
set_option linter.unusedVariables false

theorem and_one {q : Nat} (h : q < 4294967296) : bits BinOp.and IntKind.u32 (q : Int) 1 = ((q % 2 : Nat) : Int) := by
  rw [show (1 : Int) = ((1 : Nat) : Int) from rfl, u32_and_nat _ _ h (by omega), Nat.and_one_is_mod]
theorem walk_oddc {n : Nat} (hn : n < 4294967296) (h : n % 2 = 1) : bits BinOp.xor IntKind.u32 ((n : Int) / 2) 3988292384 = (Fr.step n : Int) := by
  rw [← Fr.walk_odd hn h]; congr 1; omega

set_option maxRecDepth 100000 in
set_option maxHeartbeats 1000000 in
theorem sumc_same (s : ByteArray) (w : World) (hs : s.size ≤ maxLen) :
    Calls Try.prog 31 #[.string s] w fun e w' => e = .returned (.int .u32 (Fr.sum s.data.toList)) ∧ w = w' := by
  unfold maxLen at hs
  go_enter Try.func31, Try.ntmps31
  go_wp2_with fail
  go_loop [3, 8] (fun n i => ∃ k m : Nat, k ≤ s.size ∧ i = .int .i64 k ∧ n = .int .u32 m ∧ m = Fr.run 4294967295 (s.data.toList.take k)) (fun _ i => s.size - (intOf i).toNat)
  case atStart => exact ⟨0, _, Nat.zero_le _, rfl, rfl, rfl⟩
  case round =>
    obtain ⟨k, m, hk, rfl, rfl, hm⟩ := hrel
    have hlt0 : m < 4294967296 := by rw [hm]; exact Fr.run_lt _ (by omega)
    have HM := Lib.hid hm
    have HL := Lib.hid hlt0
    clear hm hlt0
    by_cases hlt : k < s.size
    · have hx := Fr.walk_in HL.out s[k]
      have hw := Fr.wrap32_byte s[k]
      have HT := Lib.hid (Cd.take_s s k hlt)
      go_wp2_with fail
      clear hw
      go_loop [3, 17] (fun n j => ∃ i q : Nat, i ≤ 8 ∧ j = .int .i64 i ∧ n = .int .u32 q ∧ q = Fr.steps i (m ^^^ s[k].toNat)) (fun _ j => 8 - (intOf j).toNat)
      case atStart => exact ⟨0, _, Nat.zero_le _, rfl, by first | rfl | rw [hx], rfl⟩
      case round =>
        obtain ⟨i, q, hi, rfl, rfl, hq⟩ := hrel
        have hlq : q < 4294967296 := by rw [hq]; exact Fr.steps_lt (Fr.xor_lt32 HL.out (by have := s[k].toNat_lt; omega)) _
        have HQ := Lib.hid hq
        have HLQ := Lib.hid hlq
        clear hq hlq hx
        by_cases h8 : i < 8
        · have hand := and_one (q := q) HLQ.out
          by_cases ho : q % 2 = 1
          · have hob : (bits BinOp.and IntKind.u32 (q : Int) 1 == 1) = true := by rw [hand]; simp; omega
            have hs1 := walk_oddc HLQ.out ho
            clear hand
            go_wp2
            go_round
            case rel => exact ⟨i + 1, Fr.step q, by omega, by go_num, by first | rfl | rw [hs1], by rw [HQ.out]; rfl⟩
            case measure => simp [intOf]; omega
          · have hob : (bits BinOp.and IntKind.u32 (q : Int) 1 == 1) = false := by rw [hand]; simp; omega
            have HO := Lib.hid ho
            clear ho hand
            go_wp2
            go_round
            case rel => exact ⟨i + 1, Fr.step q, by omega, by go_num, by rw [Fr.step_even HO.out]; simp, by rw [HQ.out]; rfl⟩
            case measure => simp [intOf]; omega
        · obtain rfl : i = 8 := by omega
          go_wp2
          go_round
          case rel => exact ⟨k + 1, q, by omega, by go_num, rfl, by rw [HT.out, Fr.run_snoc, ← HM.out]; exact HQ.out⟩
          case measure => simp [intOf]; omega
    · obtain rfl : k = s.size := by omega
      go_wp2
      go_ret
      exact ⟨by rw [Fr.sum, ← Cd.take_all s, ← HM.out, ← Fr.walk_out HL.out]; rfl, rfl⟩

theorem litByte_shr (n k : Nat) : Value.int .u8 ((n : Int) / 2 ^ (8 * k) % 256) = .int .u8 ((Fr.litByte n k).toNat : Int) := by
  congr 1; unfold Fr.litByte; rw [UInt8.toNat_ofNat', show (256 : Nat) ^ k = 2 ^ (8 * k) from by rw [Nat.pow_mul]]
  have : ((2 : Int) ^ (8 * k)) = ((2 ^ (8 * k) : Nat) : Int) := by simp
  rw [this]; omega

set_option maxRecDepth 100000 in
set_option maxHeartbeats 1000000 in
theorem putSum_any (N : Int) (n : Nat) (w : World) (hN : N = n) (h1 : n < 4294967296) :
    Calls Try.prog 30 #[.int .u32 N] w fun e w' => e = .returned (.string (Cd.bs (Fr.lit n))) ∧ Below w.heap.size w w' := by
  subst hN
  have HN := Lib.hid h1
  clear h1
  go_enter Try.func30, Try.ntmps30
  go_wp2_with fail
  go_loopw [5] (fun i wr => ∃ (k : Nat), k ≤ 4 ∧ i = .int .i64 k ∧ Row4 wr w.heap.size (Fr.litPart n k) ∧ Below w.heap.size w wr) (fun i _ => 4 - (intOf i).toNat)
  case atStart => exact ⟨0, Nat.zero_le _, rfl, Row4.new _ _ _, (Below.refl _ _).alloc (Nat.le_refl _) _⟩
  case round =>
    obtain ⟨k, hk, rfl, hr, hb⟩ := hrel
    by_cases hk4 : k < 4
    · have hc := (hr k hk4).1
      have hf := (hr k hk4).2
      have HR := Lib.hid hr
      clear hr
      go_wp2
      go_roundw
      case rel => exact ⟨k + 1, by omega, by go_num, HR.out.store hk4 (litByte_shr n k), hb.setCell (p := ⟨w.heap.size, k, none⟩) (Nat.le_refl _) _⟩
      case measure => simp [intOf]; omega
    · obtain rfl : k = 4 := by omega
      have hcv := hr.conv (c := 4) (Fr.litPart_len _ _)
      go_wp2
      go_ret
      exact ⟨by rw [Fr.litPart_done]; rfl, hb⟩
end Go.Proofs.Ytaghifnihjlpjaa

namespace Go.Proofs.Ytaghifnihjlpjaa
open Go.RowKit
set_option linter.unusedSimpArgs false
set_option linter.unusedVariables false

theorem sumc_any (s : ByteArray) (w : World) (hs : s.size ≤ maxLen) :
    Calls Try.prog 31 #[.string s] w fun e w' => e = .returned (.int .u32 (Fr.sum s.data.toList)) ∧ Below w.heap.size w w' :=
  (sumc_same s w hs).mono fun e w' ⟨he, hw⟩ => ⟨he, by subst hw; exact Below.refl _ _⟩

set_option maxRecDepth 100000 in
set_option maxHeartbeats 1000000 in
theorem framePutc_any (K : Int) (c : UInt8) (hK : K = (c.toNat : Int)) (l : List UInt8) (w : World) (hs : l.length ≤ 140737488351232) :
    Calls Try.prog 15 #[.agg #[.int .u8 K, .string (Cd.bs l)]] w fun e w' => e = .returned (.tuple #[.string (Cd.bs (Fr.put c l).1), .int .i64 (Fr.put c l).2]) ∧ Below w.heap.size w w' := by
  have hsz : (Cd.bs l).size = l.length := rfl
  have HSZ := Lib.hid hsz
  clear hsz
  by_cases h0 : c.toNat = 0
  · have hb : (K == 0) = true := by subst hK; simp [h0]
    rw [Fr.put_zero h0]
    clear hK h0
    go_enter Try.func15, Try.ntmps15
    go_wp2
    go_ret2
    exact ⟨rfl, (Below.refl _ _).alloc (Nat.le_refl _) _⟩
  · have hb : (K == 0) = false := by subst hK; simp; omega
    by_cases hl : l.length ≤ 262144
    · rw [Fr.put_ok h0 hl]
      have HK := Lib.hid hK
      have hcv := fun W g h => conv_cell W g K c hK h
      clear hK h0
      have hT := fun W => putTc_any (Cd.bs l) W (by rw [HSZ.out]; omega)
      have HT := Lib.hid hT
      clear hT
      have hlen : (Cd.putT l).length ≤ 262154 := by have := Cd.putU_len10 l.length (by omega); rw [Cd.putT, List.length_append]; omega
      go_enter Try.func15, Try.ntmps15
      go_wp2_with fail
      go_cut [4] (fun r wx => r = .string (Cd.bs (c :: Cd.putT l)) ∧ Below w.heap.size w wx)
      case first =>
        go_region_with (go_at_call 13; refine (HT.out _).mono ?_; rintro e w1 ⟨rfl, hb1⟩; obtain ⟨hkc, hkf⟩ := bcell hb1; have hsz1 := hb1.size; simp at hsz1)
        all_goals (try go_wp2_with fail)
        all_goals go_meet
        all_goals refine ⟨by rw [ByteArray.mk_append_mk]; rfl, ?_⟩
        all_goals repeat (first
          | exact Below.refl _ _
          | (refine Below.trans ?_ (hb1.mono ?_))
          | apply Below.drew
          | (refine Below.alloc ?_ ?_ _)
          | exact Nat.le_refl _
          | omega
          | (focus (simp; done))
          | (focus (simp; omega)))
      case rest =>
        obtain ⟨rfl, hbc⟩ := hcut
        have hS := fun W => sumc_same (Cd.bs (c :: Cd.putT l)) W (by show (c :: Cd.putT l).length ≤ maxLen; unfold maxLen; rw [List.length_cons]; omega)
        have HS := Lib.hid hS
        have HL := Lib.hid (fun W => putSum_any (Fr.sum (c :: Cd.putT l) : Int) (Fr.sum (c :: Cd.putT l)) W rfl (Fr.sum_lt _))
        clear hS hcv
        have hll : (Fr.lit (Fr.sum (c :: Cd.putT l))).length ≤ 4 := by rw [Fr.lit_len]; omega
        have hsl : (Cd.bs (c :: Cd.putT l)).size ≤ 262155 := by show (c :: Cd.putT l).length ≤ 262155; rw [List.length_cons]; omega
        go_wp2_with (first
          | (go_at_call 31; refine (HS.out _).mono ?_; rintro e w' ⟨rfl, rfl⟩)
          | (go_at_call 30; refine (HL.out _).mono ?_; rintro e w3 ⟨rfl, hb3⟩))
        go_ret2
        exact ⟨by rw [ByteArray.mk_append_mk]; rfl, hbc.trans (hb3.mono hbc.size)⟩
    · have hlb : (262144 : Int) < l.length := by omega
      rw [Fr.put_long (by omega)]
      clear hK h0
      go_enter Try.func15, Try.ntmps15
      go_wp2
      go_ret2
      exact ⟨rfl, (Below.refl _ _).alloc (Nat.le_refl _) _⟩
end Go.Proofs.Ytaghifnihjlpjaa

/-
  The program's roots: EncodeRoot.
-/
namespace Go.Proofs.Ytaghifnihjlpjaa
open Go.RowKit
set_option linter.unusedSimpArgs false
set_option linter.unusedVariables false
namespace Fd
/-- amid EncodeRoot: the builder, the root's own box, and all that was ahead -/
def Pre (w : World) (b : Nat) (g : Nat) (rv : Value) (D : Fi.Dat) (W : World) : Prop :=
  Sb.Is b b D W ∧ Below w.heap.size w W ∧ Ob.Obj W w.heap.size 25 [.int .u64 (g : Int), rv]
theorem Pre.next {w W W' : World} {b g : Nat} {rv : Value} {D : Fi.Dat} (h : Pre w b g rv D W) (hb : Below W.heap.size W W') : Pre w b g rv D W' :=
  ⟨h.1.below hb, h.2.1.trans (hb.mono h.2.1.size), h.2.2.below hb⟩
theorem Pre.write {w W : World} {b g : Nat} {rv : Value} {D X : Fi.Dat} (hwb : w.heap.size < b) (h : Pre w b g rv D W) (hl : D.length + X.length ≤ 140737488355328) :
    Calls Try.prog 10 #[.pointer (some ⟨b, 0, none⟩), .string (Cd.bs X)] W fun e w' => e = .returned (.tuple #[.int .i64 (X.length : Nat), .nilIface]) ∧ Pre w b g rv (D ++ X) w' ∧ Sb.Rest b W w' :=
  (Sb.writeString_any b b D X W h.1 hl (Nat.le_of_lt h.1.lt)).mono fun e w' ⟨he, h1, h2, h3⟩ =>
    ⟨he, ⟨h1, h.2.1.trans (h2.mono (Nat.le_of_lt hwb)), h3.obj h.2.2 (by omega) (by decide)⟩, h3⟩
/-- the boxes that the region reads -/
def Bx (w : World) (g : Nat) (rv : Value) (W : World) : Prop := Ob.Obj W w.heap.size 25 [.int .u64 (g : Int), rv] ∧ W.cell? ⟨w.heap.size, 0, none⟩ = some (.int .u64 (g : Int)) ∧ W.cell? ⟨w.heap.size, 1, none⟩ = some rv
theorem Bx.of {w W : World} {g : Nat} {rv : Value} (h : Ob.Obj W w.heap.size 25 [.int .u64 (g : Int), rv]) : Ob.Obj W w.heap.size 25 [.int .u64 (g : Int), rv] ∧ W.cell? ⟨w.heap.size, 0, none⟩ = some (.int .u64 (g : Int)) ∧ W.cell? ⟨w.heap.size, 1, none⟩ = some rv :=
  ⟨h, h.cell 0, h.cell 1⟩
theorem Fx.of {W : World} {k : Nat} {u0 u1 u2 : Value} (h : Ob.Obj W k 46 [u0, u1, u2]) : Ob.Obj W k 46 [u0, u1, u2] ∧ W.cell? ⟨k, 0, none⟩ = some u0 ∧ W.cell? ⟨k, 1, none⟩ = some u1 ∧ W.cell? ⟨k, 2, none⟩ = some u2 :=
  ⟨h, h.cell 0, h.cell 1, h.cell 2⟩

set_option maxRecDepth 100000 in
set_option maxHeartbeats 8000000 in
theorem encOk : EncOk := by
  intro g fv L n w hn R
  obtain ⟨hg, hF0, hin, hlen⟩ := R
  obtain ⟨a, cap, fb, fo, rfl, ha, hcells⟩ := hF0
  have hF0 : Fi.Files w.heap.size w (.slice a L.length cap) L := ⟨a, cap, fb, fo, rfl, ha, hcells⟩
  have hW : Below w.heap.size w (w.alloc (.cells #[.int .u64 (g : Int), .slice a L.length cap] 25)) := (Below.refl _ _).alloc (Nat.le_refl _) _
  have bx := Ob.Obj.new w 25 [.int .u64 (g : Int), .slice a L.length cap]
  have hFw := hF0.grow hW hW.size
  obtain ⟨m, hm⟩ : ∃ m, min n 16384 = m := ⟨_, rfl⟩
  have hMay := mayBe_any g (.slice a L.length cap) L n m _ hg hn hm hFw hin hlen
  cases hmay : Fi.may ⟨g, L.map (·.1)⟩ m with
  | false =>
    rw [Fi.encode_bad (by rw [hm]; exact hmay)]
    rw [hmay] at hMay
    have HM := Lib.hid hMay
    clear hMay hmay hF0 hFw hcells hm
    go_enter Try.func5, Try.ntmps5
    go_wp2_with (go_at_call 9; refine HM.out.mono ?_; rintro e w1 ⟨rfl, hb1⟩)
    go_ret2
    exact ⟨rfl, hW.trans (hb1.mono (by simp))⟩
  | true =>
    rw [hmay] at hMay
    have HM := Lib.hid hMay
    obtain ⟨g1, g2, g3, hfi⟩ := Fi.may_in hmay
    have hfi2 : ∀ (q : Nat) (h : q < L.length), (∀ b ∈ L[q].1.blocks, 32 ≤ b ∧ b < m) ∧ 0 ≤ L[q].1.size ∧ L[q].1.name.length ≤ 32 := fun q h => hfi L[q].1 (List.mem_map_of_mem (List.getElem_mem h))
    have HFI := Lib.hid hfi2
    have hm4 : m ≤ 16384 := by omega
    have hL64 : L.length ≤ 64 := by simpa using g3
    have HENC := Lib.hid (show Fi.encode ⟨g, L.map (·.1)⟩ n = if (Fr.put 1 (Fi.rootLoad ⟨g, L.map (·.1)⟩)).2 = 0 ∧ (Fr.put 1 (Fi.rootLoad ⟨g, L.map (·.1)⟩)).1.length ≤ 3840 then ((Fr.put 1 (Fi.rootLoad ⟨g, L.map (·.1)⟩)).1, 0) else ([], 5) by
      unfold Fi.encode; rw [hm, hmay]; rfl)
    have HC := Lib.hid hcells
    have HP1 := Lib.hid (fun W => putUc_at (g : Int) g W rfl hg)
    have HP2 := Lib.hid (fun W => putCount_any (L.length : Int) L.length W rfl (by omega))
    have hpl1 := Cd.putU_len10 g (by omega)
    have hpl2 := Cd.putU_len10 L.length (by omega)
    clear hMay hmay hfi hfi2 g3 hcells hm
    go_enter Try.func5, Try.ntmps5
    go_wp2_with (go_at_call 9; refine HM.out.mono ?_; rintro e w1 ⟨rfl, hb1⟩; have bx1 := bx.below hb1; have hz1 : w.heap.size < w1.heap.size := bx1.lt; have hB1 := hW.trans (hb1.mono (by simp)))
    have hP0 : Pre w w1.heap.size g (.slice a L.length cap) [] (w1.alloc (.cells #[.pointer none, .slice none 0 0] 37)) := ⟨Sb.Is.new w1, hB1.alloc hB1.size _, bx1.alloc _⟩
    obtain ⟨wA, hwA⟩ : ∃ wA, wA = w1.alloc (.cells #[.pointer none, .slice none 0 0] 37) := ⟨_, rfl⟩
    rw [← hwA] at hP0 ⊢
    obtain ⟨bb, hbb⟩ : ∃ bb, bb = w1.heap.size := ⟨_, rfl⟩
    rw [← hbb] at hP0 hz1 ⊢
    obtain ⟨HD, hHD⟩ : ∃ HD, HD = Cd.putU g ++ Cd.putU L.length := ⟨_, rfl⟩
    have hhd : HD.length ≤ 20 := by rw [hHD, List.length_append]; omega
    have HHD := Lib.hid hHD
    clear hwA hbb bx bx1 hb1 hB1 HM hFw hHD
    go_cut [] (fun wx => Pre w bb g (.slice a L.length cap) HD wx)
    case first =>
      have NX := Lib.hid (fun W W' (h : Ob.Obj W w.heap.size 25 [.int .u64 (g : Int), .slice a L.length cap] ∧ W.cell? ⟨w.heap.size, 0, none⟩ = some (.int .u64 (g : Int)) ∧ W.cell? ⟨w.heap.size, 1, none⟩ = some (.slice a L.length cap)) (hb : Below W.heap.size W W') => Bx.of (h.1.below hb))
      have HS1 := Lib.hid (Bx.of (w := w) (hP0.next (Below.refl _ _).drew).2.2)
      have hP1 := hP0.next (Below.refl _ _).drew
      have WR := Lib.hid (fun W (h : Pre w bb g (.slice a L.length cap) [] W) => h.write (X := Cd.putU g ++ Cd.putU L.length) hz1 (by rw [List.length_append, List.length_nil]; omega))
      have q1 : ¬ 9223372036854775807 < (Cd.putU g).length + (Cd.putU L.length).length := by omega
      go_region_held3 (fun W => Ob.Obj W w.heap.size 25 [.int .u64 (g : Int), .slice a L.length cap] ∧ W.cell? ⟨w.heap.size, 0, none⟩ = some (.int .u64 (g : Int)) ∧ W.cell? ⟨w.heap.size, 1, none⟩ = some (.slice a L.length cap))
        (first | exact HS1.out | exact NX.out _ _ (by assumption) hb2 | exact Bx.of hp3.2.2)
        (first
        | (go_at_call 11; (with_reducible refine (HP1.out _).mono ?_); rintro e w2 ⟨rfl, hb2⟩; have hp2 := (show Pre w bb g (.slice a L.length cap) [] _ by assumption).next hb2)
        | (go_at_call 12; (with_reducible refine (HP2.out _).mono ?_); rintro e w2 ⟨rfl, hb2⟩; have hp2 := (show Pre w bb g (.slice a L.length cap) [] _ by assumption).next hb2)
        | (go_at_call 10; rw [ByteArray.mk_append_mk]; (with_reducible refine (WR.out _ (by assumption)).mono ?_); rintro e w3 ⟨rfl, hp3, hr3⟩))
      all_goals clear q1
      all_goals go_wp2_with fail
      all_goals go_meet
      all_goals (rw [HHD.out]; exact hp3)
    case rest =>
      have hPc := hcut
      have HPC := Lib.hid hPc
      obtain ⟨_, k0, k1⟩ := Bx.of hPc.2.2
      have hwl0 := hPc.2.2.lt
      clear hcut hP0 hPc k0
      go_wp2_with fail
      clear k1
      go_loopw [27] (fun i wr => ∃ q : Nat, q ≤ L.length ∧ i = .int .i64 q ∧ Pre w bb g (.slice a L.length cap) (HD ++ ((L.map (·.1)).take q).flatMap Fi.fileBytes) wr) (fun i _ => L.length - (intOf i).toNat)
      case atStart => exact ⟨0, Nat.zero_le _, rfl, by simpa using HPC.out⟩
      case round =>
        obtain ⟨q, hq, rfl, hP⟩ := hrel
        obtain ⟨wo, rfl⟩ : ∃ wo : World, wo = wr := ⟨_, rfl⟩
        have hB := hP.2.1
        have hwl : bb < wo.heap.size := hP.1.lt
        by_cases hlt : q < L.length
        · obtain ⟨rfl, hfb⟩ := ha (by omega)
          obtain ⟨d0, d1, d2, d3⟩ := HC.out q hlt
          have e0 := (hB.cell (p := ⟨fb, fo + q * 3, none⟩) hfb).trans d0
          have e1 := (hB.cell (p := ⟨fb, fo + q * 3 + 1, none⟩) hfb).trans d1
          have e2 := (hB.cell (p := ⟨fb, fo + q * 3 + 2, none⟩) hfb).trans d2
          have hx := hin L[q] (List.getElem_mem hlt)
          obtain ⟨f1, f2, f3⟩ := HFI.out q hlt
          have hsl : (HD ++ ((L.map (·.1)).take q).flatMap Fi.fileBytes).length ≤ 600000000 := by
            rw [List.length_append]
            have := Fi.files_len ((L.map (·.1)).take q) (fun f hf => by
              obtain ⟨y, hy, rfl⟩ := List.mem_map.1 (List.mem_of_mem_take hf)
              obtain ⟨k, hk, rfl⟩ := List.getElem_of_mem hy
              exact ⟨hin L[k] (List.getElem_mem hk), fun b hb => by have := (HFI.out k hk).1 b hb; omega⟩)
            have h2 : ((L.map (·.1)).take q).length ≤ 64 := by simp; omega
            omega
          have hts : HD ++ ((L.map (·.1)).take (q + 1)).flatMap Fi.fileBytes = (HD ++ ((L.map (·.1)).take q).flatMap Fi.fileBytes) ++ Fi.fileBytes L[q].1 := by
            rw [List.take_succ_eq_append_getElem (by simpa using hlt), List.flatMap_append, List.append_assoc]; simp
          have HTS := Lib.hid hts
          have hfbl := Fi.fileBytes_len L[q].1 hx (fun b hb => by have := f1 b hb; omega)
          have hdb : Fi.fileBytes L[q].1 = Cd.putT L[q].1.name ++ Cd.putU L[q].1.size.toNat ++ Fi.runBytes L[q].1.blocks := rfl
          have hi1 : (0 : Int) ≤ (q : Int) ∧ (q : Int) < (L.length : Int) := by omega
          clear hts
          generalize L[q].1 = f at *
          generalize L[q].2 = bv at *
          obtain ⟨hx1, ⟨hx2, hx3⟩, hx4, hx5⟩ := hx
          have HRU := Lib.hid (fun W (hW' : Below w.heap.size w W) => putRuns_any bv f.blocks W (d3.grow hW' hW'.size) (fun b hb => ⟨by have := f1 b hb; omega, by have := f1 b hb; omega⟩) hx4)
          obtain ⟨a2, cap2, b2, o2, rfl, hb2', hc2⟩ := d3
          have HPT := Lib.hid (fun W => show Calls Try.prog 13 #[.string (Cd.bs f.name)] W fun e w' => e = .returned (.string (Cd.bs (Cd.putT f.name))) ∧ Below W.heap.size W w' from putTc_any (Cd.bs f.name) W (by show f.name.length ≤ _; omega))
          have HPS := Lib.hid (fun W => putCount_any f.size f.size.toNat W (by omega) (by omega))
          have hwb : fb < wo.heap.size := by have := hB.size; omega
          have HDB := Lib.hid hdb
          have l0 : (Fi.fileBytes f).length ≤ 8388608 := hfbl
          have l1 : (Cd.putT f.name).length ≤ 8388608 := by rw [hdb] at hfbl; simp only [List.length_append] at hfbl; omega
          have l2 : (Cd.putU f.size.toNat).length ≤ 8388608 := by rw [hdb] at hfbl; simp only [List.length_append] at hfbl; omega
          have l3 : (Fi.runBytes f.blocks).length ≤ 8388608 := by rw [hdb] at hfbl; simp only [List.length_append] at hfbl; omega
          clear hc2 hdb hb2' hfbl f1 hB
          generalize HD ++ ((L.map (·.1)).take q).flatMap Fi.fileBytes = S1 at *
          have hoA0 : Ob.Obj (wo.alloc (.cells #[.string (Cd.bs f.name), .int .i64 f.size, .slice a2 f.blocks.length cap2] 46)) wo.heap.size 46 [.string (Cd.bs f.name), .int .i64 f.size, .slice a2 f.blocks.length cap2] := Ob.Obj.new wo _ _
          have hPA0 : Pre w bb g (.slice (some ⟨fb, fo, none⟩) L.length cap) S1 (wo.alloc (.cells #[.string (Cd.bs f.name), .int .i64 f.size, .slice a2 f.blocks.length cap2] 46)) := hP.next ((Below.refl _ _).alloc (Nat.le_refl _) _)
          have WR := Lib.hid (fun W (h : Pre w bb g (.slice (some ⟨fb, fo, none⟩) L.length cap) S1 W) => h.write (X := Cd.putT f.name ++ Cd.putU f.size.toNat ++ Fi.runBytes f.blocks) hz1 (by rw [List.length_append, List.length_append]; omega))
          have HRV := Lib.hid (fun W (h : Pre w bb g (.slice (some ⟨fb, fo, none⟩) L.length cap) S1 W) => HRU.out W h.2.1)
          obtain ⟨wA, hwA⟩ : ∃ wA, wo.alloc (.cells #[.string (Cd.bs f.name), .int .i64 f.size, .slice a2 f.blocks.length cap2] 46) = wA := ⟨_, rfl⟩
          rw [hwA] at hoA0 hPA0
          have HWA := Lib.hid hwA
          have hbo : wo.heap.size ≠ bb := by omega
          clear hwA
          go_upto_block 1 with fail
          go_cut [] from 28 to 43 (fun wx => Pre w bb g (.slice (some ⟨fb, fo, none⟩) L.length cap) (S1 ++ Fi.fileBytes f) wx)
          case first =>
            go_wp2_with fail
            rw [HWA.out]
            clear e0 e1 e2
            have hwS : IntKind.u64.wrap f.size = f.size := by rw [show IntKind.u64.wrap f.size = f.size % 18446744073709551616 from rfl]; omega
            have q1 : ¬ 9223372036854775807 < (Cd.putT f.name).length + (Cd.putU f.size.toNat).length := by omega
            have q2 : ¬ 9223372036854775807 < (Cd.putT f.name).length + (Cd.putU f.size.toNat).length + (Fi.runBytes f.blocks).length := by omega
            have NX := Lib.hid (fun W W' (h : Ob.Obj W wo.heap.size 46 [.string (Cd.bs f.name), .int .i64 f.size, .slice a2 f.blocks.length cap2] ∧ W.cell? ⟨wo.heap.size, 0, none⟩ = some (.string (Cd.bs f.name)) ∧ W.cell? ⟨wo.heap.size, 1, none⟩ = some (.int .i64 f.size) ∧ W.cell? ⟨wo.heap.size, 2, none⟩ = some (.slice a2 f.blocks.length cap2)) (hb : Below W.heap.size W W') => Fx.of (h.1.below hb))
            have NY := Lib.hid (fun W W' (h : Ob.Obj W wo.heap.size 46 [.string (Cd.bs f.name), .int .i64 f.size, .slice a2 f.blocks.length cap2] ∧ W.cell? ⟨wo.heap.size, 0, none⟩ = some (.string (Cd.bs f.name)) ∧ W.cell? ⟨wo.heap.size, 1, none⟩ = some (.int .i64 f.size) ∧ W.cell? ⟨wo.heap.size, 2, none⟩ = some (.slice a2 f.blocks.length cap2)) (hb : Sb.Rest bb W W') => Fx.of (hb.obj h.1 hbo (by decide)))
            have HS1 := Lib.hid (Fx.of (hoA0.below (Below.refl _ _).drew))
            have hP1 := hPA0.next (Below.refl _ _).drew
            go_region_held3 (fun W => Ob.Obj W wo.heap.size 46 [.string (Cd.bs f.name), .int .i64 f.size, .slice a2 f.blocks.length cap2] ∧ W.cell? ⟨wo.heap.size, 0, none⟩ = some (.string (Cd.bs f.name)) ∧ W.cell? ⟨wo.heap.size, 1, none⟩ = some (.int .i64 f.size) ∧ W.cell? ⟨wo.heap.size, 2, none⟩ = some (.slice a2 f.blocks.length cap2))
              (first | exact HS1.out | exact NX.out _ _ (by assumption) hb2 | exact NY.out _ _ (by assumption) hr3)
              (first
              | (go_at_call 13; (with_reducible refine (HPT.out _).mono ?_); rintro e w2 ⟨rfl, hb2⟩; have hp2 := (show Pre w bb g (.slice (some ⟨fb, fo, none⟩) L.length cap) S1 _ by assumption).next hb2)
              | (go_at_call 12; (with_reducible refine (HPS.out _).mono ?_); rintro e w2 ⟨rfl, hb2⟩; have hp2 := (show Pre w bb g (.slice (some ⟨fb, fo, none⟩) L.length cap) S1 _ by assumption).next hb2)
              | (go_at_call 14; (with_reducible refine (HRV.out _ (by assumption)).mono ?_); rintro e w2 ⟨rfl, hb2⟩; have hp2 := (show Pre w bb g (.slice (some ⟨fb, fo, none⟩) L.length cap) S1 _ by assumption).next hb2)
              | (go_at_call 10; rw [ByteArray.mk_append_mk, ByteArray.mk_append_mk]; (with_reducible refine (WR.out _ (by assumption)).mono ?_); rintro e w3 ⟨rfl, hp3, hr3⟩))
            all_goals clear q1 q2 hwS
            all_goals go_wp2_with fail
            all_goals go_meet
            all_goals (rw [HDB.out]; exact hp3)
          case rest =>
            have HPX := Lib.hid hcut
            clear hcut hoA0 hPA0 hP e0 e1 e2
            go_wp2_with fail
            go_roundw
            case rel => exact ⟨q + 1, by omega, by go_num, by rw [HTS.out]; exact HPX.out⟩
            case measure => simp [intOf]; omega
        · obtain rfl : q = L.length := by omega
          have HLOAD := Lib.hid (show HD ++ ((L.map (·.1)).take L.length).flatMap Fi.fileBytes = Fi.rootLoad ⟨g, L.map (·.1)⟩ by
            unfold Fi.rootLoad
            rw [HHD.out, List.take_of_length_le (by simp)]; simp)
          rw [HLOAD.out] at hP
          have hll : (Fi.rootLoad ⟨g, L.map (·.1)⟩).length ≤ 600000000 := by
            rw [← HLOAD.out, List.length_append]
            have := Fi.files_len ((L.map (·.1)).take L.length) (fun f hf => by
              obtain ⟨y, hy, rfl⟩ := List.mem_map.1 (List.mem_of_mem_take hf)
              obtain ⟨k, hk, rfl⟩ := List.getElem_of_mem hy
              exact ⟨hin L[k] (List.getElem_mem hk), fun b hb => by have := (HFI.out k hk).1 b hb; omega⟩)
            have h2 : ((L.map (·.1)).take L.length).length ≤ 64 := by simp; omega
            omega
          have HPUT := Lib.hid (fun W => framePutc_any 1 1 rfl (Fi.rootLoad ⟨g, L.map (·.1)⟩) W (by omega))
          have HSTR := Lib.hid (Sb.string_any bb bb _ _ hP.1 (Nat.le_of_lt hP.1.lt))
          generalize Fi.rootLoad ⟨g, L.map (·.1)⟩ = ld at *
          generalize Fr.put 1 ld = pr at *
          obtain ⟨pb, pe⟩ := pr
          clear hP
          by_cases he : pe = 0
          · subst he
            by_cases hlp : pb.length ≤ 3840
            · have HEN := Lib.hid (HENC.out.trans (if_pos ⟨rfl, hlp⟩))
              have hsz : (Cd.bs pb).size = pb.length := rfl
              have hlpi : ¬ (3840 : Int) < (pb.length : Int) := by omega
              clear hlp
              go_wp2_with (first
                | (go_at_call 16; (with_reducible refine HSTR.out.mono ?_); rintro e w4 ⟨rfl, hI4, hb4, hr4⟩; have hB4 := hB.trans (hb4.mono (Nat.le_of_lt hz1)))
                | (go_at_call 15; refine (HPUT.out _).mono ?_; rintro e w5 ⟨rfl, hb5⟩))
              go_ret2
              exact ⟨by rw [HEN.out]; rfl, hB4.trans (hb5.mono hB4.size)⟩
            · have HEN := Lib.hid (HENC.out.trans (if_neg (fun h => hlp h.2)))
              have hsz : (Cd.bs pb).size = pb.length := rfl
              have hlpi : (3840 : Int) < (pb.length : Int) := by omega
              clear hlp
              go_wp2_with (first
                | (go_at_call 16; (with_reducible refine HSTR.out.mono ?_); rintro e w4 ⟨rfl, hI4, hb4, hr4⟩; have hB4 := hB.trans (hb4.mono (Nat.le_of_lt hz1)))
                | (go_at_call 15; refine (HPUT.out _).mono ?_; rintro e w5 ⟨rfl, hb5⟩))
              go_ret2
              exact ⟨by rw [HEN.out]; rfl, hB4.trans (hb5.mono hB4.size)⟩
          · have HEN := Lib.hid (HENC.out.trans (if_neg (fun h => he h.1)))
            have heb : (((pe : Nat) : Int) != 0) = true := by simp; omega
            have heb2 : (((pe : Nat) : Int) == 0) = false := by simp; omega
            have HE := Lib.hid he
            clear he
            go_wp2_with (first
              | (go_at_call 16; (with_reducible refine HSTR.out.mono ?_); rintro e w4 ⟨rfl, hI4, hb4, hr4⟩; have hB4 := hB.trans (hb4.mono (Nat.le_of_lt hz1)))
              | (go_at_call 15; refine (HPUT.out _).mono ?_; rintro e w5 ⟨rfl, hb5⟩))
            go_ret2
            exact ⟨by rw [HEN.out]; rfl, hB4.trans (hb5.mono hB4.size)⟩
end Fd
end Go.Proofs.Ytaghifnihjlpjaa

namespace Go.Proofs.Ytaghifnihjlpjaa
open Go.RowKit
set_option linter.unusedSimpArgs false
set_option linter.unusedVariables false

set_option maxRecDepth 100000 in
set_option maxHeartbeats 1000000 in
theorem frameTakec_any (l : List UInt8) (w : World) (hs : l.length ≤ 140737488351232) :
    Calls Try.prog 22 #[.string (Cd.bs l)] w fun e w' => e = .returned (frameV (Fr.take l)) ∧ Below w.heap.size w w' := by
  by_cases h5 : l.length < 5
  · rw [Fr.take_few h5]
    go_enter Try.func22, Try.ntmps22
    go_wp2_with fail
    exact bodyPost_ret (v := frameV ((0, []), 0, 2)) (by simp [results, Try.results22, go_sem]) rfl ⟨rfl, by repeat (first | exact Below.refl _ _ | (refine Below.setCell ?_ ?_ _) | (refine Below.alloc ?_ ?_ _) | exact Nat.le_refl _ | (focus (simp; done)))⟩
  · have h5' : 5 ≤ l.length := by omega
    have hg : l.getD 4 0 = (Cd.bs l)[4]'(by show 4 < l.length; omega) := by rw [List.getD_eq_getElem?_getD, List.getElem?_eq_getElem (by omega)]; rfl
    obtain ⟨c, hc⟩ : ∃ c, c = l.getD 4 0 := ⟨_, rfl⟩
    have hidx : ((Cd.bs l)[4]'(by show 4 < l.length; omega)) = c := by rw [hc, hg]
    by_cases h0 : c.toNat = 0
    · have hb : ((c.toNat : Int) == 0) = true := by simp [h0]
      rw [Fr.take_zero h5' (by rw [← hc]; exact h0)]
      clear hg hc
      go_enter Try.func22, Try.ntmps22
      go_wp2_with fail
      exact bodyPost_ret (v := frameV ((0, []), 0, 3)) (by simp [results, Try.results22, go_sem]) rfl ⟨rfl, by repeat (first | exact Below.refl _ _ | (refine Below.setCell ?_ ?_ _) | (refine Below.alloc ?_ ?_ _) | exact Nat.le_refl _ | (focus (simp; done)))⟩
    · have hb : ((c.toNat : Int) == 0) = false := by simp; omega
      obtain ⟨t, n, e, ht⟩ : ∃ t n e, Cd.takeT (l.drop 5) 262144 = (t, n, e) := ⟨_, _, _, rfl⟩
      obtain ⟨q1, q2, q3⟩ := Fr.takeT_len (l.drop 5) 262144
      rw [ht] at q1 q2 q3
      simp only [List.length_drop] at q1 q2 q3
      have hex : ((Cd.bs l).extract 5 l.length).data.toList = l.drop 5 := by
        rw [Lib.extract_data]; exact List.take_of_length_le (by simp)
      have hT : ∀ W, Calls Try.prog 36 #[.string ((Cd.bs l).extract 5 l.length), .int .i64 262144] W fun e' w' => e' = .returned (.tuple #[.string (Cd.bs t), .int .i64 n, .int .i64 e]) ∧ Below W.heap.size W w' := fun W => by
        have := takeTc_any ((Cd.bs l).extract 5 l.length) 262144 W (by rw [Lib.size_eq, hex, List.length_drop]; omega) (by omega) (by omega)
        rw [hex, ht] at this
        exact this
      have HT := Lib.hid hT
      clear hT hex
      by_cases he : e = 0
      · subst he
        have hS : ∀ W, Calls Try.prog 31 #[.string ((Cd.bs l).extract 4 (5 + n))] W fun e' w' => e' = .returned (.int .u32 (Fr.sum ((l.drop 4).take (n + 1)))) ∧ W = w' := fun W => by
          have hx : ((Cd.bs l).extract 4 (5 + n)).data.toList = (l.drop 4).take (n + 1) := by rw [Lib.extract_data]; congr 1; omega
          have := sumc_same ((Cd.bs l).extract 4 (5 + n)) W (by rw [Lib.size_eq, hx, List.length_take]; unfold maxLen; omega)
          rwa [hx] at this
        have HS := Lib.hid hS
        have HL := Lib.hid (fun W => putSum_any (Fr.sum ((l.drop 4).take (n + 1)) : Int) (Fr.sum ((l.drop 4).take (n + 1))) W rfl (Fr.sum_lt _))
        clear hS
        have h4 : ((Cd.bs l).extract 0 4).toList = l.take 4 := by rw [Lib.extract_toList]; rfl
        have HQ2 := Lib.hid q2
        clear q2 q3
        have hn5 : 5 + n ≤ l.length := by omega
        generalize hsm : Fr.lit (Fr.sum ((l.drop 4).take (n + 1))) = m at *
        have HSM := Lib.hid hsm
        clear hsm
        have HTT := Lib.hid ht
        have HC := Lib.hid hc
        have HG := Lib.hid hg
        clear ht hc hg
        obtain ⟨sm, hsm2⟩ : ∃ sm, sm = Fr.sum ((l.drop 4).take (n + 1)) := ⟨_, rfl⟩
        rw [← hsm2] at HS HL HSM
        have HSM2 := Lib.hid hsm2
        clear hsm2
        have hml : (Cd.bs m).toList = m := by rw [ByteArray.toList_mk]
        by_cases hm : m = l.take 4
        · have hmb : (m == l.take 4) = true := by simp [hm]
          rw [Fr.take_ok h5' (by rw [← HC.out]; exact h0) HTT.out (by rw [← HSM2.out, HSM.out]; exact hm), ← HC.out]
          clear hm
          go_enter Try.func22, Try.ntmps22
          go_wp2_with (go_at_call 36; refine (HT.out _).mono ?_; rintro e w1 ⟨rfl, hb1⟩; obtain ⟨hkc, hkf⟩ := bcell hb1; have hz : w.heap.size < w1.heap.size := (by have := hb1.size; simp at this; omega))
          go_cut [39] (fun r wx => r = .bool false ∧ Below w1.heap.size w1 wx)
          case first =>
            have hw : IntKind.i64.wrap (5 + (n : Int)) = 5 + n := by rw [IntKind.wrap_i64]; omega
            have hw0 : (0 : Int) ≤ 5 + (n : Int) ∧ (4 : Int) ≤ 5 + (n : Int) ∧ 5 + (n : Int) ≤ (l.length : Int) := by omega
            have hw1 : (5 + (n : Int)).toNat = 5 + n := by omega
            go_region_with (first
              | (go_at_call 31; refine (HS.out _).mono ?_; rintro e w' ⟨rfl, rfl⟩)
              | (go_at_call 30; refine (HL.out _).mono ?_; rintro e w3 ⟨rfl, hb3⟩))
            all_goals clear hw hw0 hw1
            all_goals (try go_wp2_with fail)
            all_goals go_meet
            all_goals refine ⟨rfl, ?_⟩
            all_goals repeat (first | exact Below.refl _ _ | (refine Below.trans ?_ (hb3.mono ?_)) | apply Below.drew | exact Nat.le_refl _ | omega | (focus (simp; done)))
          case rest =>
            obtain ⟨rfl, hbc⟩ := hcut
            obtain ⟨hkc2, hkf2⟩ := bcell hbc
            have hz2 : w.heap.size < wc.heap.size := Nat.lt_of_lt_of_le hz hbc.size
            go_wp2_with fail
            exact bodyPost_ret (v := frameV ((c, t), 5 + n, 0)) (by simp [results, Try.results22, go_sem, hkc, hkc2, hz, hz2]) rfl ⟨rfl, by repeat (first | exact Below.refl _ _ | (refine Below.trans ?_ (hbc.mono ?_)) | (refine Below.trans ?_ (hb1.mono ?_)) | apply Below.drew | (refine Below.setCell ?_ ?_ _) | (refine Below.alloc ?_ ?_ _) | exact Nat.le_refl _ | omega | (focus (simp; done)) | (focus (simp; omega)))⟩
        · have hmb : (m == l.take 4) = false := by simpa using hm
          rw [Fr.take_bad h5' (by rw [← HC.out]; exact h0) HTT.out (by rw [← HSM2.out, HSM.out]; exact hm)]
          clear hm
          go_enter Try.func22, Try.ntmps22
          go_wp2_with (go_at_call 36; refine (HT.out _).mono ?_; rintro e w1 ⟨rfl, hb1⟩; obtain ⟨hkc, hkf⟩ := bcell hb1; have hz : w.heap.size < w1.heap.size := (by have := hb1.size; simp at this; omega))
          go_cut [39] (fun r wx => r = .bool true ∧ Below w1.heap.size w1 wx)
          case first =>
            have hw : IntKind.i64.wrap (5 + (n : Int)) = 5 + n := by rw [IntKind.wrap_i64]; omega
            have hw0 : (0 : Int) ≤ 5 + (n : Int) ∧ (4 : Int) ≤ 5 + (n : Int) ∧ 5 + (n : Int) ≤ (l.length : Int) := by omega
            have hw1 : (5 + (n : Int)).toNat = 5 + n := by omega
            go_region_with (first
              | (go_at_call 31; refine (HS.out _).mono ?_; rintro e w' ⟨rfl, rfl⟩)
              | (go_at_call 30; refine (HL.out _).mono ?_; rintro e w3 ⟨rfl, hb3⟩))
            all_goals clear hw hw0 hw1
            all_goals (try go_wp2_with fail)
            all_goals go_meet
            all_goals refine ⟨rfl, ?_⟩
            all_goals repeat (first | exact Below.refl _ _ | (refine Below.trans ?_ (hb3.mono ?_)) | apply Below.drew | exact Nat.le_refl _ | omega | (focus (simp; done)))
          case rest =>
            obtain ⟨rfl, hbc⟩ := hcut
            obtain ⟨hkc2, hkf2⟩ := bcell hbc
            have hz2 : w.heap.size < wc.heap.size := Nat.lt_of_lt_of_le hz hbc.size
            go_wp2_with fail
            exact bodyPost_ret (v := frameV ((0, []), 0, 3)) (by simp [results, Try.results22, go_sem, hkc, hkc2, hz, hz2]) rfl ⟨rfl, by repeat (first | exact Below.refl _ _ | (refine Below.trans ?_ (hbc.mono ?_)) | (refine Below.trans ?_ (hb1.mono ?_)) | apply Below.drew | (refine Below.setCell ?_ ?_ _) | (refine Below.alloc ?_ ?_ _) | exact Nat.le_refl _ | omega | (focus (simp; done)) | (focus (simp; omega)))⟩
      · rw [Fr.take_err h5' (by rw [← hc]; exact h0) ht he]
        have hbe : (((e : Nat) : Int) == 0) = false := by simp; omega
        clear hg hc ht q2
        go_enter Try.func22, Try.ntmps22
        go_wp2_with (go_at_call 36; refine (HT.out _).mono ?_; rintro e w1 ⟨rfl, hb1⟩; obtain ⟨hkc, hkf⟩ := bcell hb1; have hz : w.heap.size < w1.heap.size := (by have := hb1.size; simp at this; omega))
        exact bodyPost_ret (v := frameV ((0, []), 0, e)) (by simp [results, Try.results22, go_sem, hkc, hz]) rfl ⟨rfl, by repeat (first | exact Below.refl _ _ | (refine Below.trans ?_ (hb1.mono ?_)) | (refine Below.trans ?_ (hb3.mono ?_)) | apply Below.drew | (refine Below.setCell ?_ ?_ _) | (refine Below.alloc ?_ ?_ _) | exact Nat.le_refl _ | omega | (focus (simp; done)) | (focus (simp; omega)))⟩
end Go.Proofs.Ytaghifnihjlpjaa

/-
  Two roots that read alike are alike: tapestryref04's SameRoot, tapestryref03's SameInts, over whatever slices.
-/
namespace Go.Proofs.Ytaghifnihjlpjaa
open Go.RowKit
set_option linter.unusedSimpArgs false
set_option linter.unusedVariables false

theorem Fi.Ints.drewN {B : Nat} {W : World} {v : Value} {l : List Int} (h : Fi.Ints B W v l) (n : Nat) : Fi.Ints B (W.drewN n) v l := h
theorem Fi.Ints.grow' {B B' : Nat} {W W' : World} {v : Value} {l : List Int} (h : Fi.Ints B W v l) (hb : Below B' W W') (hB : B ≤ B') : Fi.Ints B W' v l := by
  obtain ⟨a, cap, b, off, h1, h2, h3⟩ := h
  exact ⟨a, cap, b, off, h1, h2, fun j hj => (hb.cell (p := ⟨b, off + j, none⟩) (Nat.lt_of_lt_of_le (h2 (by omega)).2 hB)).trans (h3 j hj)⟩

set_option maxRecDepth 100000 in
set_option maxHeartbeats 2000000 in
theorem sameInts2_any {B1 B2 : Nat} {v1 v2 : Value} {l : List Int} (w : World) (h1 : Fi.Ints B1 w v1 l) (h2 : Fi.Ints B2 w v2 l) (hl : l.length ≤ 1073741824) :
    Calls Try.prog 24 #[v1, v2] w fun e w' => e = .returned (.bool true) ∧ ∃ m, w' = w.drewN m := by
  obtain ⟨a1, c1, b1, o1, rfl, g1, k1⟩ := h1
  obtain ⟨a2, c2, b2, o2, rfl, g2, k2⟩ := h2
  go_enter Try.func24, Try.ntmps24
  go_wp2_with fail
  go_loopw [5] (fun i wr => ∃ k m : Nat, k ≤ l.length ∧ i = .int .i64 k ∧ wr = w.drewN m) (fun i _ => l.length - (intOf i).toNat)
  case atStart => exact ⟨0, 0, Nat.zero_le _, rfl, rfl⟩
  case round =>
    obtain ⟨k, m, hk, rfl, rfl⟩ := hrel
    by_cases hlt : k < l.length
    · obtain ⟨rfl, _⟩ := g1 (by omega)
      obtain ⟨rfl, _⟩ := g2 (by omega)
      have e1 := k1 k hlt
      have e2 := k2 k hlt
      have hi1 : (0 : Int) ≤ (k : Int) ∧ (k : Int) < (l.length : Int) := by omega
      clear k1 k2
      generalize l[k] = x at e1 e2
      go_wp2_with fail
      go_quiet (fail)
      go_wp2_with fail
      go_roundw
      case rel => exact ⟨k + 1, m + nq, by omega, by go_num, rfl⟩
      case measure => simp [intOf]; omega
    · obtain rfl : k = l.length := by omega
      go_wp2_with fail
      go_ret
      exact ⟨rfl, m, rfl⟩

set_option maxRecDepth 100000 in
set_option maxHeartbeats 4000000 in
theorem sameRoot_any {B1 B2 : Nat} (g : Nat) {v1 v2 : Value} {L1 L2 : List (Fi.File × Value)} (w : World) (h1 : Fi.Files B1 w v1 L1) (h2 : Fi.Files B2 w v2 L2) (hB1 : B1 ≤ w.heap.size) (hB2 : B2 ≤ w.heap.size)
    (he : L1.map (·.1) = L2.map (·.1)) (hin : ∀ x ∈ L1, Fi.FileIn x.1) (hL : L1.length ≤ 1048576) :
    Calls Try.prog 8 #[.agg #[.int .u64 (g : Int), v1], .agg #[.int .u64 (g : Int), v2]] w fun e w' => e = .returned (.bool true) ∧ Below w.heap.size w w' := by
  obtain ⟨a1, c1, b1, o1, rfl, g1, k1⟩ := h1
  obtain ⟨a2, c2, b2, o2, rfl, g2, k2⟩ := h2
  have hll : L2.length = L1.length := by have := congrArg List.length he; simpa using this.symm
  rw [hll]
  have hb1 : Ob.Obj ((w.alloc (.cells #[.int .u64 (g : Int), .slice a1 L1.length c1] 25)).alloc (.cells #[.int .u64 (g : Int), .slice a2 L1.length c2] 25)) w.heap.size 25 [.int .u64 (g : Int), .slice a1 L1.length c1] := (Ob.Obj.new w _ [.int .u64 (g : Int), .slice a1 L1.length c1]).alloc _
  have hb2 : Ob.Obj ((w.alloc (.cells #[.int .u64 (g : Int), .slice a1 L1.length c1] 25)).alloc (.cells #[.int .u64 (g : Int), .slice a2 L1.length c2] 25)) (w.heap.size + 1) 25 [.int .u64 (g : Int), .slice a2 L1.length c2] := by
    have := Ob.Obj.new (w.alloc (.cells #[.int .u64 (g : Int), .slice a1 L1.length c1] 25)) 25 [.int .u64 (g : Int), .slice a2 L1.length c2]
    simpa using this
  have hB : Below w.heap.size w ((w.alloc (.cells #[.int .u64 (g : Int), .slice a1 L1.length c1] 25)).alloc (.cells #[.int .u64 (g : Int), .slice a2 L1.length c2] 25)) := ((Below.refl _ _).alloc (Nat.le_refl _) _).alloc (by simp) _
  have HE := Lib.hid he
  have HK1 := Lib.hid k1
  have HK2 := Lib.hid k2
  have HLL := Lib.hid hll
  clear he k1 k2 hll
  go_enter Try.func8, Try.ntmps8
  go_wp2_with fail
  go_loopw [5] (fun i wr => ∃ q : Nat, q ≤ L1.length ∧ i = .int .i64 q ∧ Ob.Obj wr w.heap.size 25 [.int .u64 (g : Int), .slice a1 L1.length c1] ∧ Ob.Obj wr (w.heap.size + 1) 25 [.int .u64 (g : Int), .slice a2 L1.length c2] ∧ Below w.heap.size w wr) (fun i _ => L1.length - (intOf i).toNat)
  case atStart => exact ⟨0, Nat.zero_le _, rfl, hb1, hb2, hB⟩
  case round =>
    obtain ⟨q, hq, rfl, hx, hy, hBr⟩ := hrel
    have x1 := hx.cell 1
    have y1 := hy.cell 1
    simp at x1 y1
    by_cases hlt : q < L1.length
    · obtain ⟨rfl, hf1⟩ := g1 (by omega)
      obtain ⟨rfl, hf2⟩ := g2 (by have := HLL.out; omega)
      have hlt2 : q < L2.length := by have := HLL.out; omega
      obtain ⟨d0, d1, d2, d3⟩ := HK1.out q hlt
      obtain ⟨e0, e1, e2, e3⟩ := HK2.out q hlt2
      have hee : L1[q].1 = L2[q].1 := by
        have := congrArg (fun l => l[q]?) HE.out
        simpa [hlt, hlt2] using this
      have hxx := hin L1[q] (List.getElem_mem hlt)
      rw [← hee] at e0 e1 e3
      have D0 := (hBr.cell (p := ⟨b1, o1 + q * 3, none⟩) (Nat.lt_of_lt_of_le hf1 hB1)).trans d0
      have D1 := (hBr.cell (p := ⟨b1, o1 + q * 3 + 1, none⟩) (Nat.lt_of_lt_of_le hf1 hB1)).trans d1
      have D2 := (hBr.cell (p := ⟨b1, o1 + q * 3 + 2, none⟩) (Nat.lt_of_lt_of_le hf1 hB1)).trans d2
      have E0 := (hBr.cell (p := ⟨b2, o2 + q * 3, none⟩) (Nat.lt_of_lt_of_le hf2 hB2)).trans e0
      have E1 := (hBr.cell (p := ⟨b2, o2 + q * 3 + 1, none⟩) (Nat.lt_of_lt_of_le hf2 hB2)).trans e1
      have E2 := (hBr.cell (p := ⟨b2, o2 + q * 3 + 2, none⟩) (Nat.lt_of_lt_of_le hf2 hB2)).trans e2
      have hm := hxx.many
      have hSI := Lib.hid (fun n => sameInts2_any (wr.drewN n) ((d3.grow' hBr hB1).drewN n) ((e3.grow' hBr hB2).drewN n) (by omega))
      have hi1 : (0 : Int) ≤ (q : Int) ∧ (q : Int) < (L1.length : Int) := by omega
      clear d0 d1 d2 d3 e0 e1 e2 e3 hee hxx
      generalize L1[q].1 = f at *
      generalize L1[q].2 = bv1 at *
      generalize L2[q].2 = bv2 at *
      go_wp2_with fail
      go_big_quiet ((go_at_call 24; exact Calls.quiet_of (hSI.out _)))
      go_wp2_with fail
      go_big_quiet (fail)
      go_wp2_with fail
      go_roundw
      case rel => exact ⟨q + 1, by omega, by go_num, hx, hy, belowN hBr _⟩
      case measure => simp [intOf]; omega
    · obtain rfl : q = L1.length := by omega
      go_wp2_with fail
      go_ret
      exact ⟨rfl, hBr⟩
end Go.Proofs.Ytaghifnihjlpjaa

/-
  The law FilesBack, over what the program's EncodeRoot and DecodeRoot owe.
-/
namespace Go.Proofs.Ytaghifnihjlpjaa
open Go.RowKit
set_option linter.unusedSimpArgs false
set_option linter.unusedVariables false

/-- what the program's DecodeRoot owes of a root's own bytes -/
def DecBackOk : Prop := ∀ (r : Fi.Root) (n : Int) (rest : List UInt8) (w : World), Fi.inI64 n → (Fi.encode r n).2 = 0 → (∀ f ∈ r.files, Fi.FileIn f) → rest.length ≤ 1048576 →
  Calls Try.prog 7 #[.string (Cd.bs ((Fi.encode r n).1 ++ rest)), .int .i64 n] w fun e w' =>
      ∃ (fv : Value) (L : List (Fi.File × Value)), e = .returned (.tuple #[.agg #[.int .u64 (r.gen : Int), fv], .int .i64 0]) ∧ Fi.Files w'.heap.size w' fv L ∧ L.map (·.1) = r.files ∧ Below w.heap.size w w'

namespace Fi
theorem encode_err {r : Root} {n : Int} (h : (encode r n).2 ≠ 0) : (encode r n).1 = [] := by
  unfold encode at h ⊢
  split at h
  · rename_i h1
    rw [if_pos h1]
    split at h
    · exact absurd rfl h
    · rename_i h2; rw [if_neg h2]
  · rename_i h1; rw [if_neg h1]
theorem encode_len {r : Root} {n : Int} : (encode r n).1.length ≤ 3840 := by
  unfold encode
  split
  · split
    · rename_i h; exact h.2
    · simp
  · simp
end Fi

set_option maxRecDepth 100000 in
set_option maxHeartbeats 4000000 in
theorem filesBack_walk (E : EncOk) (D : DecBackOk) (g : Nat) (fv : Value) (L : List (Fi.File × Value)) (n : Int) (s : ByteArray) (w : World) (R : Fi.RootIn w g fv L) (n1 : -9223372036854775808 ≤ n) (n2 : n ≤ 9223372036854775807) (hs : s.size ≤ 1048576) :
    Calls Try.prog 4 #[.agg #[.int .u64 (g : Int), fv], .int .i64 n, .string s] w fun e w' => e = .returned (.bool true) ∧ Below w.heap.size w w' := by
  obtain ⟨rest, rfl⟩ : ∃ l, s = Cd.bs l := ⟨s.data.toList, (Lib.mk_data s).symm⟩
  have hrl : rest.length ≤ 1048576 := hs
  have R0 := R
  obtain ⟨hg, ⟨a, cap, fb, fo, rfl, ha, hcells⟩, hok, hlen⟩ := R
  have bx := Ob.Obj.new w 25 [.int .u64 (g : Int), .slice a L.length cap]
  have hW : Below w.heap.size w (w.alloc (.cells #[.int .u64 (g : Int), .slice a L.length cap] 25)) := (Below.refl _ _).alloc (Nat.le_refl _) _
  have R1 := R0.grow hW
  have h1 := E g (.slice a L.length cap) L n _ ⟨n1, n2⟩ R1
  have hel := Fi.encode_len (r := ⟨g, L.map (·.1)⟩) (n := n)
  by_cases he : (Fi.encode ⟨g, L.map (·.1)⟩ n).2 = 0
  · have hdec := Lib.hid (fun W => D ⟨g, L.map (·.1)⟩ n rest W ⟨n1, n2⟩ he (fun f hf => by
      obtain ⟨y, hy, rfl⟩ := List.mem_map.1 hf
      exact hok y hy) hrl)
    rw [he] at h1
    generalize (Fi.encode ⟨g, L.map (·.1)⟩ n).1 = pb at *
    have H1 := Lib.hid h1
    have HR1 := Lib.hid R1
    have HRF := Lib.hid R0.files
    have HOK := Lib.hid (fun (L' : List (Fi.File × Value)) (h : L'.map (·.1) = L.map (·.1)) x (hx : x ∈ L') => show Fi.FileIn x.1 from by
      have : x.1 ∈ L'.map (·.1) := List.mem_map_of_mem hx
      rw [h] at this
      obtain ⟨y, hy, hyx⟩ := List.mem_map.1 this
      rw [← hyx]; exact hok y hy)
    clear h1 hcells R0 R1 ha he
    go_enter Try.func4, Try.ntmps4
    go_wp2_with (first
      | (go_at_call 5; (with_reducible refine H1.out.mono ?_); rintro e w1 ⟨rfl, hb1⟩; have bx1 := bx.below hb1; have c0 := bx1.cell 0; have c1 := bx1.cell 1; simp at c0 c1; have hlb := bx1.lt; have HD := (show Calls Try.prog 7 #[.string (Cd.bs pb ++ Cd.bs rest), .int .i64 n] w1 _ by rw [ByteArray.mk_append_mk]; exact hdec.out w1); have HDD := Lib.hid HD; clear HD)
      | (go_at_call 7; refine HDD.out.mono ?_; rintro e w2 ⟨fv', L', rfl, hF', hL', hb2⟩; have hF2 := Lib.hid hF'; have hL2 := Lib.hid hL'; obtain ⟨a', c', b', o', rfl, ha', hc'⟩ := hF'; have bx2 := bx1.below hb2; have k0 := bx2.cell 0; have k1 := bx2.cell 1; simp at k0 k1; have hlb2 := bx2.lt; clear ha' hc' hL')
      | (go_at_call 8; refine (sameRoot_any g _ (hF2.out.below ((Below.refl _ _).alloc (Nat.le_refl _) _)) (HRF.out.below (((hW.trans (hb1.mono (by simp))).trans (hb2.mono (by have := hb1.size; simp at this; omega))).alloc (by have := hb1.size; have := hb2.size; simp at *; omega) _)) (by simp) (by have := hb1.size; have := hb2.size; simp at *; omega) (by simpa using hL2.out) (HOK.out L' hL2.out) (by have := congrArg List.length hL2.out; simp at this; omega)).mono ?_; rintro e w3 ⟨rfl, hb3⟩))
    go_ret
    exact ⟨rfl, (((hW.trans (hb1.mono (by simp))).trans (hb2.mono (by have := hb1.size; simp at this; omega))).alloc (by have := hb1.size; have := hb2.size; simp at *; omega) _).trans (hb3.mono (by have := hb1.size; have := hb2.size; simp at *; omega))⟩
  · have hp := Fi.encode_err he
    have h2 := Lib.hid (fun W (R : Fi.RootIn W g (.slice a L.length cap) L) => encodeR_any g (.slice a L.length cap) L n W R.gen ⟨n1, n2⟩ R.files R.ok R.len)
    rw [hp] at h1
    generalize (Fi.encode ⟨g, L.map (·.1)⟩ n).1 = pb at *
    generalize (Fi.encode ⟨g, L.map (·.1)⟩ n).2 = pe at *
    have heb : (((pe : Nat) : Int) != 0) = true := by simp; omega
    have heb2 : (((pe : Nat) : Int) == 0) = false := by simp; omega
    have H1 := Lib.hid h1
    have HR1 := Lib.hid R1
    have HE := Lib.hid he
    clear h1 hcells R0 R1 ha he hp
    go_enter Try.func4, Try.ntmps4
    go_wp2_with (first
      | (go_at_call 5; (with_reducible refine H1.out.mono ?_); rintro e w1 ⟨rfl, hb1⟩; have bx1 := bx.below hb1; have c0 := bx1.cell 0; have c1 := bx1.cell 1; simp at c0 c1; have hlb := bx1.lt)
      | (go_at_call 6; (with_reducible refine (h2.out _ (HR1.out.grow hb1)).mono ?_); rintro e w2 ⟨rfl, hb2⟩))
    go_ret
    exact ⟨rfl, hW.trans ((hb1.mono (by simp)).trans (hb2.mono (by have := hb1.size; simp at this; omega)))⟩
end Go.Proofs.Ytaghifnihjlpjaa

/-
  Plain mathematics of going through frames: each with the place behind it, each with its place.
-/
namespace Go.Proofs.Ytaghifnihjlpjaa
namespace Fr

abbrev Fm := UInt8 × List UInt8
/-- the frames from a place on, each with the place behind it -/
def endsGo (l : List UInt8) (p : Nat) : List (Nat × Fm) :=
  if _h : p < l.length ∧ (take (l.drop p)).2.2 = 0 ∧ 0 < (take (l.drop p)).2.1 then
    (p + (take (l.drop p)).2.1, (take (l.drop p)).1) :: endsGo l (p + (take (l.drop p)).2.1)
  else []
termination_by l.length - p
decreasing_by all_goals omega
theorem endsGo_stop {l : List UInt8} {p : Nat} (h : ¬ (p < l.length ∧ (take (l.drop p)).2.2 = 0 ∧ 0 < (take (l.drop p)).2.1)) : endsGo l p = [] := by rw [endsGo]; rw [dif_neg h]
theorem endsGo_more {l : List UInt8} {p : Nat} (h : p < l.length ∧ (take (l.drop p)).2.2 = 0 ∧ 0 < (take (l.drop p)).2.1) :
    endsGo l p = (p + (take (l.drop p)).2.1, (take (l.drop p)).1) :: endsGo l (p + (take (l.drop p)).2.1) := by
  conv => lhs; rw [endsGo]
  rw [dif_pos h]
def shift : Nat → List (Nat × Fm) → List (Nat × Fm)
  | _, [] => []
  | p, x :: r => (p, x.2) :: shift x.1 r
def lastEnd : Nat → List (Nat × Fm) → Nat
  | p, [] => p
  | _, x :: r => lastEnd x.1 r
theorem shift_app (a b : List (Nat × Fm)) : ∀ p, shift p (a ++ b) = shift p a ++ shift (lastEnd p a) b := by
  induction a with
  | nil => intro p; rfl
  | cons x r ih => intro p; simp [shift, lastEnd, ih]
theorem lastEnd_app (a b : List (Nat × Fm)) : ∀ p, lastEnd p (a ++ b) = lastEnd (lastEnd p a) b := by
  induction a with
  | nil => intro p; rfl
  | cons x r ih => intro p; simp [lastEnd, ih]
theorem shift_snoc (p : Nat) (a : List (Nat × Fm)) (x : Nat × Fm) : shift p (a ++ [x]) = shift p a ++ [(lastEnd p a, x.2)] := by rw [shift_app]; rfl
theorem lastEnd_snoc (p : Nat) (a : List (Nat × Fm)) (x : Nat × Fm) : lastEnd p (a ++ [x]) = x.1 := by rw [lastEnd_app]; rfl
theorem shift_len (a : List (Nat × Fm)) : ∀ p, (shift p a).length = a.length := by
  induction a with
  | nil => intro p; rfl
  | cons x r ih => intro p; simp [shift, ih]
theorem allGo_shift (l : List UInt8) (p : Nat) : allGo l p = (shift p (endsGo l p), lastEnd p (endsGo l p)) := by
  by_cases h : p < l.length ∧ (take (l.drop p)).2.2 = 0 ∧ 0 < (take (l.drop p)).2.1
  · rw [allGo_more h, endsGo_more h, allGo_shift l (p + (take (l.drop p)).2.1)]; rfl
  · rw [allGo_stop h, endsGo_stop h]; rfl
termination_by l.length - p
decreasing_by all_goals omega
theorem take_load (l : List UInt8) : (take l).1.2.length ≤ 262144 := by
  obtain ⟨q1, q2, q3⟩ := takeT_len (l.drop 5) 262144
  unfold take
  split
  · simp
  · split
    · simp
    · split
      · simp
      · rename_i h
        split
        · simp
        · exact q2 (by simpa using h)
theorem endsGo_in (l : List UInt8) (p : Nat) : ∀ x ∈ endsGo l p, x.1 ≤ l.length ∧ x.2.2.length ≤ 262144 := by
  by_cases h : p < l.length ∧ (take (l.drop p)).2.2 = 0 ∧ 0 < (take (l.drop p)).2.1
  · rw [endsGo_more h]
    intro x hx
    rcases List.mem_cons.1 hx with e | hx
    · subst e
      have := (take_len (l.drop p)).1
      rw [List.length_drop] at this
      exact ⟨by simp only; omega, take_load _⟩
    · exact endsGo_in l _ x hx
  · rw [endsGo_stop h]; simp
termination_by l.length - p
decreasing_by all_goals omega
theorem lastEnd_le (N : Nat) : ∀ (a : List (Nat × Fm)) (p : Nat), p ≤ N → (∀ x ∈ a, x.1 ≤ N) → lastEnd p a ≤ N
  | [], _, h, _ => h
  | x :: r, _, _, hx => lastEnd_le N r x.1 (hx x (List.mem_cons_self ..)) (fun y hy => hx y (List.mem_cons_of_mem _ hy))
theorem shift_pre {pre L : List (Nat × Fm)} (p : Nat) (h : pre <+: L) : shift p pre <+: shift p L := by
  obtain ⟨r, rfl⟩ := h; exact ⟨_, (shift_app _ _ _).symm⟩
theorem shift_in (N : Nat) : ∀ (a : List (Nat × Fm)) (p : Nat), p ≤ N → (∀ x ∈ a, x.1 ≤ N ∧ x.2.2.length ≤ 262144) → ∀ x ∈ shift p a, x.1 ≤ N ∧ x.2.2.length ≤ 262144
  | [], _, _, _, _, h => by simp [shift] at h
  | y :: r, p, hp, ha, x, hx => by
    simp only [shift, List.mem_cons] at hx
    rcases hx with rfl | hx
    · exact ⟨hp, (ha y (List.mem_cons_self ..)).2⟩
    · exact shift_in N r y.1 (ha y (List.mem_cons_self ..)).1 (fun z hz => ha z (List.mem_cons_of_mem _ hz)) x hx
end Fr
end Go.Proofs.Ytaghifnihjlpjaa
