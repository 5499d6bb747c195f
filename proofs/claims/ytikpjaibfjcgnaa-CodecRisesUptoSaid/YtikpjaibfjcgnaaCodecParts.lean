/-
  codec.keyParts and KeyText.
-/
import Derived.Test.YtikpjaibfjcgnaaCodecValues
import Derived.Test.YtikpjaibfjcgnaaCodecIndex
namespace Go.Proofs.Ytikpjaibfjcgnaa
open Go.RowKit Go.Shelf
set_option linter.unusedSimpArgs false
set_option linter.unusedVariables false

theorem key_none : ∀ (l : List UInt8), Lib.indexByte l 0 < 0 → Cd.keyGo l = l
  | [], _ => rfl
  | c :: r, h => by
    rw [Lib.indexByte] at h
    by_cases hc : c = 0
    · subst hc; simp at h
    · have hc' : (c == 0) = false := by simpa using hc
      rw [hc'] at h
      have hg := Lib.indexByte_ge r 0
      have hr : Lib.indexByte r 0 < 0 := by
        by_cases e : Lib.indexByte r 0 = -1
        · omega
        · have e' : (Lib.indexByte r 0 == -1) = false := by simpa using e
          rw [e'] at h; simp at h; omega
      rw [Cd.key_plain (fun e => hc (UInt8.toNat_inj.1 (by simpa using e))), key_none r hr]
theorem key_some : ∀ (l : List UInt8) (i : Nat), Lib.indexByte l 0 = i → i < l.length ∧ Cd.keyGo l = l.take (i + 1) ++ 255 :: Cd.keyGo (l.drop (i + 1))
  | [], i, h => by rw [Lib.indexByte] at h; omega
  | c :: r, i, h => by
    rw [Lib.indexByte] at h
    by_cases hc : c = 0
    · subst hc
      obtain rfl : i = 0 := by simp at h; omega
      exact ⟨by simp, by rw [Cd.key_zero rfl]; simp⟩
    · have hc' : (c == 0) = false := by simpa using hc
      rw [hc'] at h
      have hg := Lib.indexByte_ge r 0
      by_cases e : Lib.indexByte r 0 = -1
      · exfalso; rw [e] at h; simp at h; try omega
      · have e' : (Lib.indexByte r 0 == -1) = false := by simpa using e
        rw [e'] at h
        simp at h
        obtain ⟨j, hj⟩ : ∃ j : Nat, Lib.indexByte r 0 = j := ⟨(Lib.indexByte r 0).toNat, by omega⟩
        have hij : i = j + 1 := by omega
        subst hij
        have ih := key_some r j hj
        exact ⟨by simp; omega, by rw [Cd.key_plain (fun e => hc (UInt8.toNat_inj.1 (by simpa using e))), ih.2]; simp⟩

attribute [local go_sem] Oper.semAt_some

theorem conv_bytes (w : World) (xs : Array Value) (l : List UInt8) (hx : xs.toList = Cd.cs l) :
    (convert 44 9 (.slice (some ⟨w.heap.size, 0, none⟩) l.length l.length)).run Try.prog (w.alloc (.cells xs 5)) = .ok (.string (Cd.bs l)) (w.alloc (.cells xs 5)) := by
  refine run_convert_bytes_back (P := Try.prog) _ 44 9 5 ⟨w.heap.size, 0, none⟩ l.length l Try.underlying44 Try.underlying5 Try.underlying9 ?_
  exact Lib.bytes_of_row (fr := (0, 0)) (World.alloc_heap_new w (.cells xs 5)) (by rw [hx]; rw [List.take_of_length_le (by rw [Cd.cs_len]; omega)])

def strSize (v : Value) : Nat := match v with | .string x => x.size | _ => 0

set_option maxRecDepth 100000 in
set_option maxHeartbeats 2000000 in
theorem keyParts1_in (n : Nat) (hn : 1 ≤ n) (l Bs n₀ : Nat) (s : List UInt8) (hs : s.length ≤ 1048576) (J Jx : List Piece → World → Prop) (W : World) (hn₀ : n₀ ≤ W.heap.size) (hJ : AbidesFrom W.heap.size J)
    (hY : ∀ pre x W1, J pre W1 → pre.length < 2 * s.length + 2 → YieldAt Fence.wide (n - 1) Try.prog l #[.string (Cd.bs x.1)] W1 fun e W' =>
      (e = .returned (.bool true) ∧ J (pre ++ [x]) W' ∧ Below n₀ W1 W') ∨ (e = .returned (.bool false) ∧ Jx (pre ++ [x]) W'))
    (hBs : W.cell? ⟨Bs, 0, none⟩ = some (.string (Cd.bs s))) (h0 : J [] W) :
    CallsIn Fence.wide n Try.prog 42 #[.func (.yield l) #[] #[], .pointer (some ⟨Bs, 0, none⟩)] W fun e W' => (∃ v, e = .returned v) ∧
      ((∃ ys, flat ys = Cd.keyT s ∧ J ys W') ∨ (∃ pre, True ∧ Jx pre W')) := by
  refine callsIn_of_wp Try.func42 rfl trivial ?_ rfl
  simp only [Try.ntmps42, List.size_toArray, List.length_cons, List.length_nil, Nat.reduceAdd, Nat.reduceSub, Array.replicate_succ, Array.replicate_zero, List.push_toArray, List.append_toArray, List.nil_append, List.cons_append]
  gi_wp2_with fail
  gi_loopw [3] (fun r wr => ∃ (rest : List UInt8) (pre : List Piece), r = .string (Cd.bs rest) ∧ rest.length ≤ s.length ∧ pre.length + 2 * rest.length ≤ 2 * s.length ∧ flat pre ++ Cd.keyT rest = Cd.keyT s ∧ J pre wr ∧ Below n₀ W wr)
    (fun r _ => strSize r)
  case atStart => exact ⟨s, [], rfl, Nat.le_refl _, by simp, rfl, h0, Below.refl _ _⟩
  case round =>
    obtain ⟨rest, pre, rfl, hrl, hpl, hkey, hJs, hnx⟩ := hrel
    have HK := Lib.hid hkey
    clear hkey
    have hsz : (Cd.bs rest).size = rest.length := rfl
    obtain ⟨ib, hib⟩ : ∃ ib, ib = Lib.indexByte rest 0 := ⟨_, rfl⟩
    have hI : ∀ W, Calls Try.prog 43 #[.string (Cd.bs rest), .int .u8 0] W fun e w' => e = .returned (.int .i64 ib) ∧ W = w' := fun W =>
      (indexByte_any (Cd.bs rest) 0 W).mono fun e w' ⟨he, hw⟩ => ⟨by rw [he, hib]; rfl, hw.symm⟩
    have HI := Lib.hid hI
    clear hI
    by_cases hneg : ib < 0
    · have HN := Lib.hid (key_none rest (by omega))
      clear hib
      obtain ⟨fn, tmps, assign, body, hy, hR⟩ := hY pre ⟨rest, by omega⟩ wr hJs (by omega)
      have HR := Lib.hid hR
      clear hR
      gi_wp2_with (refine ⟨trivial, ?_⟩; gi_at_call 43; refine (callsIn_wide.2 (HI.out _)).mono ?_; rintro e w' ⟨rfl, rfl⟩)
      refine HR.out.mono ?_
      rintro e W3 (⟨rfl, hJ3, hk3⟩ | ⟨rfl, hJx3⟩)
      · obtain ⟨fn2, tmps2, assign2, body2, hy2, hR2⟩ := hY (pre ++ [⟨rest, by omega⟩]) ⟨[0, 1], by simp⟩ (W3.alloc (.cells #[.int .u8 0, .int .u8 1] 5)) (hJ _ _ _ none hJ3 (World.grownBy_alloc _ _ _) (by simp)) (by simp; omega)
        have HR2 := Lib.hid hR2
        clear hR2
        have hcv : (convert 44 9 (.slice (some ⟨W3.heap.size, 0, none⟩) 2 2)).run Try.prog _ = _ := conv_bytes W3 #[.int .u8 0, .int .u8 1] [0, 1] rfl
        gi_wp2
        refine HR2.out.mono ?_
        rintro e W4 (⟨rfl, hJ4, hk4⟩ | ⟨rfl, hJx4⟩)
        · gi_wp2
          go_end0
          exact ⟨⟨_, rfl⟩, .inl ⟨_, by rw [flat_snoc, flat_snoc, ← HK.out, Cd.keyT, HN.out, List.append_assoc], hJ4⟩⟩
        · gi_wp2
          go_end0
          exact ⟨⟨_, rfl⟩, .inr ⟨_, trivial, hJx4⟩⟩
      · gi_wp2
        go_end0
        exact ⟨⟨_, rfl⟩, .inr ⟨_, trivial, hJx3⟩⟩
    · obtain ⟨i, rfl⟩ : ∃ i : Nat, ib = i := ⟨ib.toNat, by omega⟩
      have hks := key_some rest i hib.symm
      have hi := hks.1
      have HS := Lib.hid hks.2
      clear hks hib
      obtain ⟨fn, tmps, assign, body, hy, hR⟩ := hY pre ⟨rest.take (i + 1), by rw [List.length_take]; omega⟩ wr hJs (by omega)
      have HR := Lib.hid hR
      clear hR
      rw [show Cd.bs (rest.take (i + 1)) = (Cd.bs rest).extract 0 (i + 1) from by rw [ByteArray.extract_mk]; simp] at hy
      gi_wp2_with (refine ⟨trivial, ?_⟩; gi_at_call 43; refine (callsIn_wide.2 (HI.out _)).mono ?_; rintro e w' ⟨rfl, rfl⟩)
      refine HR.out.mono ?_
      rintro e W3 (⟨rfl, hJ3, hk3⟩ | ⟨rfl, hJx3⟩)
      · obtain ⟨fn2, tmps2, assign2, body2, hy2, hR2⟩ := hY (pre ++ [⟨rest.take (i + 1), by rw [List.length_take]; omega⟩]) ⟨[255], by simp⟩ (W3.alloc (.cells #[.int .u8 255] 5)) (hJ _ _ _ none hJ3 (World.grownBy_alloc _ _ _) (by simp)) (by simp; omega)
        have HR2 := Lib.hid hR2
        clear hR2
        have hcv : (convert 44 9 (.slice (some ⟨W3.heap.size, 0, none⟩) 1 1)).run Try.prog _ = _ := conv_bytes W3 #[.int .u8 255] [255] rfl
        gi_wp2
        refine HR2.out.mono ?_
        rintro e W4 (⟨rfl, hJ4, hk4⟩ | ⟨rfl, hJx4⟩)
        · gi_wp2
          have hsz3 : n₀ ≤ W3.heap.size := Nat.le_trans hn₀ (Nat.le_trans hnx.size hk3.size)
          have hlen : (rest.take (i + 1)).length = i + 1 := by rw [List.length_take]; omega
          have hex : (Cd.bs rest).extract (i + 1) rest.length = Cd.bs (rest.drop (i + 1)) := by
            rw [ByteArray.extract_mk, List.take_of_length_le (by simp)]
          rw [hex]
          go_roundw
          case rel => exact ⟨rest.drop (i + 1), _, rfl, by rw [List.length_drop]; omega, by simp; omega, by
            rw [flat_snoc, flat_snoc, ← HK.out, Cd.keyT, Cd.keyT, HS.out]; simp, hJ4, hnx.trans (hk3.trans (((Below.refl _ W3).alloc hsz3 _).trans hk4))⟩
          case measure => show (rest.drop (i + 1)).length < rest.length; rw [List.length_drop]; omega
        · gi_wp2
          refine bodyPost_ret (results_none rfl _ _ _) rfl ?_
          exact ⟨⟨_, rfl⟩, .inr ⟨_, trivial, hJx4⟩⟩
      · gi_wp2
        refine ⟨fun _ h => (by cases h), ?_⟩
        gi_wp2
        refine bodyPost_ret (results_none rfl _ _ _) rfl ?_
        exact ⟨⟨_, rfl⟩, .inr ⟨_, trivial, hJx3⟩⟩
end Go.Proofs.Ytikpjaibfjcgnaa
