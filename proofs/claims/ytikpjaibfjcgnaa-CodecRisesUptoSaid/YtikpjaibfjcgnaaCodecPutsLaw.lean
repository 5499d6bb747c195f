/-
  codec.KeyText; then the law CodecPuts.
-/
import Derived.Test.YtikpjaibfjcgnaaCodecParts
import Derived.Test.YtikpjaibfjcgnaaCodecPlainC
namespace Go.Proofs.Ytikpjaibfjcgnaa
open Go.RowKit Go.Shelf
set_option linter.unusedSimpArgs false
set_option linter.unusedVariables false

set_option maxHeartbeats 1000000 in
theorem keyParts_any (s : ByteArray) (w : World) :
    Calls Try.prog 37 #[.string s] w fun e w' => e = .returned (.func (.func 42) #[] #[.pointer (some ⟨w.heap.size, 0, none⟩)]) ∧ w' = w.alloc (.cells #[.string s] 9) := by
  go_enter Try.func37, Try.ntmps37
  go_wp2
  go_ret
  exact ⟨rfl, rfl⟩

theorem key_join (w : World) (s : List UInt8) (hs : s.length ≤ 1048576) :
    Calls Try.prog 35 #[.func (.func 42) #[] #[.pointer (some ⟨w.heap.size, 0, none⟩)]] (w.alloc (.cells #[.string (Cd.bs s)] 9)) fun e w' =>
      e = .returned (.string (Cd.bs (Cd.keyT s))) ∧ Below w.heap.size w w' := by
  have hst : SeqStopsK Fence.wide 2 Try.prog 42 #[.pointer (some ⟨w.heap.size, 0, none⟩)] (fun x : Piece => #[Value.string (Cd.bs x.1)]) (Below (w.heap.size + 1)) (fun ys => flat ys = Cd.keyT s) (fun _ => True) (2 * s.length + 2) (w.alloc (.cells #[.string (Cd.bs s)] 9)) :=
    fun l J Jx W hW hJ _ hY h0 =>
      keyParts1_in 2 (by omega) l w.heap.size (w.heap.size + 1) s hs J Jx W (by have := hW.size; simpa using this) hJ hY
        ((hW.cell (p := ⟨w.heap.size, 0, none⟩) (by simp)).trans (by go_simp)) h0
  have h := join_in Fence.wide 3 trivial rfl (by omega) 42 trivial (enters_of Try.func42 (by kernel_rfl) rfl) #[.pointer (some ⟨w.heap.size, 0, none⟩)]
    (2 * s.length + 2) (by omega) (w.alloc (.cells #[.string (Cd.bs s)] 9)) (by simpa using hst)
  refine (callsIn_wide.1 h).mono ?_
  rintro e w' ⟨ys, hy, he, hb⟩
  rw [hy] at he
  exact ⟨he, ((Below.refl w.heap.size w).alloc (Nat.le_refl _) _).trans (hb.mono (by simp))⟩

set_option maxHeartbeats 1000000 in
theorem keyTc_any (s : ByteArray) (w : World) (hs : s.size ≤ 1048576) :
    Calls Try.prog 12 #[.string s] w fun e w' => e = .returned (.string (Cd.bs (Cd.keyT s.data.toList))) ∧ Below w.heap.size w w' := by
  obtain ⟨l, rfl⟩ : ∃ l, s = Cd.bs l := ⟨s.data.toList, (Lib.mk_data s).symm⟩
  go_enter Try.func12, Try.ntmps12
  go_wp2_with (first
    | (go_at_call 37; refine (keyParts_any _ _).mono ?_; rintro e w' ⟨rfl, rfl⟩)
    | (go_at_call 35; refine (key_join w l hs).mono ?_; rintro e w3 ⟨rfl, hb3⟩))
  go_ret
  exact ⟨rfl, hb3⟩

set_option maxRecDepth 100000 in
set_option maxHeartbeats 2000000 in
theorem codecPuts_walk (N : Int) (M : Int) (s : ByteArray) (w : World) (h0 : 0 ≤ N) (h1 : N ≤ 18446744073709551615) (m0 : -9223372036854775808 ≤ M) (m1 : M ≤ 9223372036854775807) (hs : s.size ≤ 1048576) :
    Calls Try.prog 3 #[.int .u64 N, .int .i64 M, .string s] w fun e w' => e = .returned (.bool true) ∧ Below w.heap.size w w' := by
  have HM := Lib.hid (mixc_any N · h0 h1)
  have HMr := Lib.hid (mixr_any N · h0 h1)
  generalize mixOf N = X at HM HMr
  go_enter Try.func3, Try.ntmps3
  go_wp2_with (first
    | (go_at_call 8; refine (putUc_any N _ h0 h1).mono ?_; rintro e wa ⟨rfl, ha⟩)
    | (go_at_call 9; refine (putIc_any M _ m0 m1).mono ?_; rintro e wb ⟨rfl, hb⟩)
    | (go_at_call 10; refine (putTc_any s _ hs).mono ?_; rintro e wc ⟨rfl, hc⟩)
    | (go_at_call 11; refine (keyIc_any M _ m0 m1).mono ?_; rintro e wd ⟨rfl, hd⟩)
    | (go_at_call 12; refine (keyTc_any s _ hs).mono ?_; rintro e we ⟨rfl, he⟩)
    | (go_at_call 13; refine (behindc_any s _ (by omega)).mono ?_; rintro e wf ⟨rfl, hf⟩)
    | (go_at_call 14; refine (HM.out _).mono ?_; rintro e wg ⟨rfl, rfl⟩)
    | (go_at_call 15; refine (putUr_any N _ h0 h1).mono ?_; rintro e wh ⟨rfl, hh⟩)
    | (go_at_call 16; refine (putIr_any M _ m0 m1).mono ?_; rintro e wi ⟨rfl, hi⟩)
    | (go_at_call 17; refine (putTr_any s _ (by omega)).mono ?_; rintro e wj ⟨rfl, hj⟩)
    | (go_at_call 18; refine (keyIr_any M _ m0 m1).mono ?_; rintro e wk ⟨rfl, hk⟩)
    | (go_at_call 19; refine (keyTr_any s _ (by omega)).mono ?_; rintro e wl ⟨rfl, hl⟩)
    | (go_at_call 20; refine (behindr_any s _ (by omega)).mono ?_; rintro e wm ⟨rfl, hm⟩)
    | (go_at_call 21; refine (HMr.out _).mono ?_; rintro e wn ⟨rfl, rfl⟩))
  go_ret
  exact ⟨rfl, Cd.chain (Cd.chain (Cd.chain (Cd.chain (Cd.chain (Cd.chain (Cd.chain (Cd.chain (Cd.chain (Cd.chain (Cd.chain ha hb) hc) hd) he) hf) hh) hi) hj) hk) hl) hm⟩
end Go.Proofs.Ytikpjaibfjcgnaa
