/-
  Chapter 7: the law BloomBuilds over what the program owes.
-/
import Derived.Test.YtenjjfiojackaaaBloomOwes
import Derived.Laws.CopyOwn
namespace Go.Proofs.Ytenjjfiojackaaa
open Go.RowKit
set_option linter.unusedSimpArgs false
set_option linter.unusedVariables false
namespace Bm
def sc (l : List (List UInt8)) : List Value := l.map fun d => .string (Cd.bs d)
theorem sc_len (l : List (List UInt8)) : (sc l).length = l.length := by simp [sc]
theorem info_str7 : (Try.prog.info? 9).map (fun i => (i.zero, i.size, i.bytes)) = some (some (.string ⟨#[]⟩), 1, 16) := by kernel_rfl
theorem made_str7 (n : Nat) : (madeCells (Value.string ⟨#[]⟩).cells (n * 1)).toList = List.replicate n (.string ⟨#[]⟩) := by
  rw [show (Value.string ⟨#[]⟩).cells = #[Value.string ⟨#[]⟩] from rfl, Nat.mul_one, toList_madeCells_one]
theorem splice_all7 (n : Nat) (l : List Value) (h : l.length = n) : splice (List.replicate n (.string ⟨#[]⟩)) 0 l = l := by
  unfold splice
  simp [h]
theorem row_whole7 {W : World} {base g n : Nat} {e : TypeId} {xs : List Value} (h : W.ownsRow base e 1 (.slice (some ⟨g, 0, none⟩) n n) n xs) : W.heap[g]? = some (.cells xs.toArray e (0, 0)) := by
  rcases h.2 with ⟨h1, _⟩ | ⟨g', cap', cur, h1, _, h3, _, _, h6, h7⟩
  · simp at h1
  · simp at h1
    obtain ⟨rfl, rfl⟩ := h1
    have : cur.toList = xs := by rw [← h7, List.take_of_length_le (by simp [h6])]
    rw [h3, ← this]
def bCells (l : List Bool) : List Value := l.map Value.bool
theorem bCells_len (l : List Bool) : (bCells l).length = l.length := by simp [bCells]
theorem strs_src {B : Nat} {W : World} {a : Option Addr} {cap : Nat} {L : List (List UInt8)} (h : Strs B W (.slice a L.length cap) L) (g : Nat) :
    0 < (sc L).length → (some (⟨g, 0, none⟩ : Addr)) = some ⟨g, 0, none⟩ ∧ ∃ ad, a = some ad ∧ ∀ j v, (sc L)[j]? = some v → W.cell? (ad.add j) = some v := by
  intro h0
  rw [sc_len] at h0
  obtain ⟨a', cap', b, off, hv, ha, hc⟩ := h
  simp only [Value.slice.injEq, true_and] at hv
  obtain ⟨rfl, rfl⟩ := hv
  refine ⟨rfl, ⟨b, off, none⟩, (ha h0).1, fun j v hj => ?_⟩
  have hj' : j < L.length := by have := (List.getElem?_eq_some_iff.1 hj).1; rwa [sc_len] at this
  have hp : (⟨b, off, none⟩ : Addr).add j = ⟨b, off + j, none⟩ := by unfold Addr.add; split <;> simp_all
  rw [hp, hc j hj']
  simpa [sc, hj'] using hj
theorem strs_own {W : World} {g : Nat} {L : List (List UInt8)} (h : W.heap[g]? = some (.cells (sc L).toArray 9 (0, 0))) : Strs W.heap.size W (.slice (some ⟨g, 0, none⟩) L.length L.length) L := by
  have hg : g < W.heap.size := by
    rcases Nat.lt_or_ge g W.heap.size with h' | h'
    · exact h'
    · rw [Array.getElem?_eq_none h'] at h; cases h
  exact ⟨_, _, g, 0, rfl, fun _ => ⟨rfl, hg⟩, fun j hj => by simp [World.cell?, h, sc, hj]⟩
theorem Strs.later {B : Nat} {W W' : World} {v : Value} {L : List (List UInt8)} (h : Strs B W v L) (hb : Below B W W') : Strs W'.heap.size W' v L := by
  obtain ⟨a, cap, b, off, h1, h2, h3⟩ := h.below hb (Nat.le_refl _)
  by_cases h0 : 0 < L.length
  · refine ⟨a, cap, b, off, h1, fun _ => ⟨(h2 h0).1, ?_⟩, h3⟩
    have hc := h3 0 h0
    rcases Nat.lt_or_ge b W'.heap.size with h' | h'
    · exact h'
    · simp [World.cell?, Array.getElem?_eq_none h'] at hc
  · exact ⟨a, cap, b, off, h1, fun h => absurd h h0, h3⟩
theorem Strs.cells {B : Nat} {W : World} {g o n cap : Nat} {L : List (List UInt8)} (h : Strs B W (.slice (some ⟨g, o, none⟩) n cap) L) (j : Nat) (hj : j < L.length) : g < B ∧ W.cell? ⟨g, o + j, none⟩ = some (.string (Cd.bs L[j])) := by
  obtain ⟨a', cap', q1, q2, h1, h2, h3⟩ := h
  injection h1 with e1 e2 e3
  obtain ⟨e4, e5⟩ := h2 (by omega)
  rw [← e1] at e4
  injection e4 with e4
  injection e4 with e6 e7
  subst e6 e7
  exact ⟨e5, h3 j hj⟩

set_option maxRecDepth 100000 in
set_option maxHeartbeats 4000000 in
theorem bloomBuilds_walk (BB : BuildOk) (HH : HashOk) (a : Option Addr) (cap : Nat) (b : Int) (keys : List (List UInt8)) (key : ByteArray) (w : World) (hv : Strs w.heap.size w (.slice a keys.length cap) keys) (hb0 : -9223372036854775808 ≤ b) (hb1 : b ≤ 9223372036854775807) (hk : keys.length ≤ 1048576) (hkl : ∀ x ∈ keys, x.length ≤ 1048576) (hkey : key.size ≤ 1048576) :
    Calls Try.prog 3 #[.int .i64 b, .slice a keys.length cap, .string key] w fun e w' => e = .returned (.bool true) ∧ Below w.heap.size w w' := by
  obtain ⟨key, rfl⟩ : ∃ l, key = Cd.bs l := ⟨key.data.toList, (Lib.mk_data key).symm⟩
  have hkey2 : key.length ≤ 1048576 := hkey
  obtain ⟨i0, hi0, hz0, hz1, hz2⟩ := info_parts info_str7
  have hinfo : (Try.prog.info? 9).map (·.size) = some 1 := by rw [hi0]; simp [hz1]
  have HV := Lib.hid hv
  have H1 := Lib.hid (fun W (h : Below w.heap.size w W) => BB _ b keys W (hv.later h) ⟨hb0, hb1⟩ hk hkl)
  have H2 := Lib.hid (fun W => HH key W (by omega))
  have H3 := Lib.hid (fun v W (h : Strs W.heap.size W v keys) => buildR_any v b keys W h ⟨hb0, hb1⟩ hk hkl)
  have H4 := Lib.hid (fun W => hashR_any key W (by omega))
  generalize build b keys = s at *
  generalize hash key = hk7 at *
  clear BB HH hkey hkl
  go_enter Try.func3, Try.ntmps3
  go_wp2_with (first
    | (refine wpList_make_full _ (by rfl) _ _ 22 (by rfl) w.heap.size 9 i0 (.string ⟨#[]⟩) 1 Try.underlying22 hi0 hz0 hz1 .i64 .i64 (keys.length : Int) (keys.length : Int) keys.length (by rfl) (by rfl) rfl rfl (by rw [hz2]; omega) (by unfold maxLen; omega) (Nat.le_refl _) ?_; intro w1 hown hgrow; rw [made_str7] at hown; have b1 : Below w.heap.size w w1 := (Below.refl _ _).grown hgrow (Nat.le_refl _) (fun k hk => by cases hk); have hg1 := row_whole7 hown)
    | (refine wpList_copy_splice (by rfl) _ _ _ _ (by rfl) 9 Try.underlying22 hinfo (some ⟨w.heap.size, 0, none⟩) a keys.length keys.length keys.length cap (by rfl) (by rfl) w.heap.size 0 (List.replicate keys.length (.string ⟨#[]⟩)) 9 hg1 (sc keys) (by rw [sc_len]; simp) (strs_src (HV.out.later b1) w.heap.size) (by rw [sc_len]; simp) (fun v hv => by obtain ⟨x, _, rfl⟩ := List.mem_map.1 hv; rfl) w.heap.size w b1 (Nat.le_refl _) ?_; intro w2 hg2 b2; have hg2' := hg2.out; rw [splice_all7 _ _ (sc_len keys)] at hg2'; have hs2 := Lib.hid (strs_own hg2'); clear hg1 hg2 hg2')
    | (go_at_call 7; (with_reducible refine (H1.out _ b2).mono ?_); rintro e w3 ⟨rfl, b3⟩)
    | (go_at_call 8; (with_reducible refine (H2.out _).mono ?_); rintro e w4 ⟨rfl, b4⟩))
  have b24 := b3.trans (b4.mono b3.size)
  have z2 := b2.size
  clear b3 b4 H1 H2
  go_loopw [10] (fun iv wr => ∃ q : Nat, q ≤ keys.length ∧ iv = .int .i64 (q : Int) ∧ Below w2.heap.size w2 wr) (fun iv _ => keys.length - (intOf iv).toNat)
  case atStart => exact ⟨0, Nat.zero_le _, rfl, b24⟩
  case round =>
    obtain ⟨q, hq, rfl, hB⟩ := hrel
    have hBw := b2.trans (hB.mono z2)
    by_cases hlt : q < keys.length
    · obtain ⟨a', c', fb, fo, r1, r2, r3⟩ := HV.out
      injection r1 with e1 e2 e3
      subst e1 e3
      obtain ⟨rfl, hfb⟩ := r2 (by omega)
      have e0 := (hBw.cell (p := ⟨fb, fo + q, none⟩) hfb).trans (r3 q hlt)
      obtain ⟨hgl, hgc⟩ := hs2.out.cells q hlt
      rw [Nat.zero_add] at hgc
      have e1 := (hB.cell (p := ⟨w.heap.size, q, none⟩) hgl).trans hgc
      have hi1 : (0 : Int) ≤ (q : Int) ∧ (q : Int) < (keys.length : Int) := by omega
      clear hgc r2 r3
      generalize keys[q] = x at *
      go_wp2_with fail
      go_big_quiet (fail)
      go_wp2_with fail
      go_roundw
      case rel => exact ⟨q + 1, by omega, by go_num, belowN hB _⟩
      case measure => simp [intOf]; omega
    · obtain rfl : q = keys.length := by omega
      have HS := Lib.hid (H3.out _ wr (hs2.out.later hB))
      go_wp2_with (first
        | (go_at_call 9; (with_reducible refine (HS.out).mono ?_); rintro e w5 ⟨rfl, b5⟩)
        | (go_at_call 10; (with_reducible refine (H4.out _).mono ?_); rintro e w6 ⟨rfl, rfl⟩))
      go_ret
      exact ⟨rfl, hBw.trans (b5.mono hBw.size)⟩
end Bm
end Go.Proofs.Ytenjjfiojackaaa
