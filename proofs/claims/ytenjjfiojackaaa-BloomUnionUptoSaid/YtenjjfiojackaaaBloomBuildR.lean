/-
  Chapter 7's document side: Build.
-/
import Derived.Test.YtenjjfiojackaaaBloomR
import Derived.Test.YtenjjfiojackaaaCodecKey
import Derived.Test.YtenjjfiojackaaaCodecClone
import Derived.StillTailTactics
namespace Go.Proofs.Ytenjjfiojackaaa
open Go.RowKit
set_option linter.unusedSimpArgs false
set_option linter.unusedVariables false
namespace Bm
/-- a slice of texts, in blocks below B -/
def Strs (B : Nat) (W : World) (v : Value) (L : List (List UInt8)) : Prop :=
  ∃ (a : Option Addr) (cap b off : Nat), v = .slice a L.length cap ∧ (0 < L.length → a = some ⟨b, off, none⟩ ∧ b < B) ∧ ∀ j (h : j < L.length), W.cell? ⟨b, off + j, none⟩ = some (.string (Cd.bs L[j]))
theorem Strs.below {B B' : Nat} {W W' : World} {v : Value} {L : List (List UInt8)} (h : Strs B W v L) (hb : Below B' W W') (hB : B ≤ B') : Strs B W' v L := by
  obtain ⟨a, cap, b, off, h1, h2, h3⟩ := h
  exact ⟨a, cap, b, off, h1, h2, fun j hj => (hb.cell (p := ⟨b, off + j, none⟩) (Nat.lt_of_lt_of_le (h2 (by omega)).2 hB)).trans (h3 j hj)⟩
theorem cs_map (l : List UInt8) : Cd.cs l = l.map fun c => Value.int .u8 (c.toNat : Int) := rfl
theorem made_u8 (n : Nat) : (madeCells (Value.int .u8 0).cells (n * 1)).toList = Cd.cs (List.replicate n 0) := by
  rw [show (Value.int .u8 0).cells = #[Value.int .u8 0] from rfl, Nat.mul_one, toList_madeCells_one, cs_map, List.map_replicate]; rfl
theorem cs_setB (l : List UInt8) (i : Nat) (v : Int) (hv : v = ((orB (l.getD (1 + i / 8) 0) i).toNat : Int)) : (Cd.cs l).set (1 + i / 8) (.int .u8 v) = Cd.cs (setB l i) := by
  unfold setB
  rw [cs_map, cs_map, List.map_set, hv]
theorem cs_get (l : List UInt8) (k : Nat) (h : k < l.length) : (Cd.cs l)[k]? = some (.int .u8 ((l.getD k 0).toNat : Int)) := by
  rw [cs_map, List.getElem?_map, List.getElem?_eq_getElem h, List.getD_eq_getElem?_getD, List.getElem?_eq_getElem h]; rfl
theorem or_val (x : UInt8) (i : Nat) : bits BinOp.or IntKind.u8 (x.toNat : Int) (2 ^ min (i % 8) 8 % 256) = ((orB x i).toNat : Int) := by
  have h8 : i % 8 < 8 := Nat.mod_lt _ (by omega)
  have hp : 2 ^ (i % 8) < 256 := Nat.lt_of_lt_of_le (Nat.pow_lt_pow_right (by omega) h8) (Nat.le_refl _)
  have hx := x.toNat_lt
  have ho := Nat.or_lt_two_pow (x := x.toNat) (y := 2 ^ (i % 8)) (n := 8) (by omega) (by omega)
  have e0 : min (i % 8) 8 = i % 8 := Nat.min_eq_left (by omega)
  have e1 : ((2 : Int) ^ (i % 8) % 256) = ((2 ^ (i % 8) : Nat) : Int) := by
    have : ((2 : Int) ^ (i % 8)) = ((2 ^ (i % 8) : Nat) : Int) := by norm_cast
    rw [this]; exact Int.emod_eq_of_lt (Int.natCast_nonneg _) (Int.ofNat_lt.2 hp)
  rw [e0, e1, u8_or_nat _ _ (by omega) (by omega)]
  unfold orB
  rw [UInt8.toNat_ofNat']
  have e2 : (x.toNat ||| 2 ^ (i % 8)) % 2 ^ 8 = (x.toNat ||| 2 ^ (i % 8)) := Nat.mod_eq_of_lt (by omega)
  rw [e2]
theorem cs_set0 (n k : Nat) (h : k < 256) : (Cd.cs (List.replicate (1 + n) 0)).set 0 (.int .u8 (k : Int)) = Cd.cs (UInt8.ofNat k :: List.replicate n 0) := by
  rw [cs_map, cs_map, Nat.add_comm, List.replicate_succ, List.map_cons, List.set_cons_zero, List.map_cons, UInt8.toNat_ofNat', show k % 2 ^ 8 = k from Nat.mod_eq_of_lt h]
theorem setAll_snoc (l : List UInt8) (is : List Int) (i : Int) : setAll l (is ++ [i]) = setB (setAll l is) i.toNat := by simp [setAll]
theorem fill_snoc (k : Nat) (m : Int) (l : List UInt8) (a : List (List UInt8)) (x : List UInt8) : fill k m l (a ++ [x]) = setAll (fill k m l a) (places x k m) := by simp [fill]

set_option maxRecDepth 100000 in
set_option maxHeartbeats 4000000 in
theorem buildR_any (v : Value) (b : Int) (keys : List (List UInt8)) (w : World) (hv : Strs w.heap.size w v keys) (hb : -9223372036854775808 ≤ b ∧ b ≤ 9223372036854775807) (hk : keys.length ≤ 1048576) (hkl : ∀ x ∈ keys, x.length ≤ 1048576) :
    Calls Try.prog 9 #[.int .i64 b, v] w fun e w' => e = .returned (.string (Cd.bs (build b keys))) ∧ Below w.heap.size w w' := by
  obtain ⟨a, cap, fb, fo, rfl, ha, hcells⟩ := hv
  have HC := Lib.hid hcells
  clear hcells
  obtain ⟨hb0, hb1⟩ := hb
  obtain ⟨i0, hi, hz0, hz1, hz2⟩ := info_parts info_u8
  by_cases h1 : b < 1
  · have HE := Lib.hid (show build b keys = [] from if_pos (.inl h1))
    go_enter Try.func9, Try.ntmps9
    go_wp2_with fail
    go_ret
    exact ⟨by rw [HE.out]; rfl, Below.refl _ _⟩
  · by_cases h2 : keys.length = 0
    · have HE := Lib.hid (show build b keys = [] from if_pos (.inr (List.eq_nil_of_length_eq_zero h2)))
      have h2b : ((keys.length : Int) == 0) = true := by simp; exact List.eq_nil_of_length_eq_zero h2
      go_enter Try.func9, Try.ntmps9
      go_wp2_with fail
      go_ret
      exact ⟨by rw [HE.out]; rfl, Below.refl _ _⟩
    · have hbd : build b keys = fill (kOf b) (8 * (bytesOf b keys.length : Nat)) (UInt8.ofNat (kOf b) :: List.replicate (bytesOf b keys.length) 0) keys := if_neg (fun h => h.elim h1 (fun h => h2 (by rw [h]; rfl)))
      have h2b : ((keys.length : Int) == 0) = false := by simpa using fun h => h2 (by rw [h]; rfl)
      have HE := Lib.hid hbd
      have hkk := kOf_in b
      obtain ⟨k, hkd⟩ : ∃ k, kOf b = k := ⟨_, rfl⟩
      obtain ⟨n, hnd⟩ : ∃ n, bytesOf b keys.length = n := ⟨_, rfl⟩
      obtain ⟨b2, hb2⟩ : ∃ b2, min b 20 = b2 := ⟨_, rfl⟩
      have hb2i : 1 ≤ b2 ∧ b2 ≤ 20 := by omega
      have hk2 : max (b2 * 69 / 100) 1 = (k : Int) := by rw [← hkd, ← hb2]; unfold kOf; omega
      obtain ⟨b3, hb3⟩ : ∃ b3, b2 * (keys.length : Int) = b3 := ⟨_, rfl⟩
      have hb3i : 0 ≤ b3 ∧ b3 ≤ 20971520 := by
        have q1 : b2 * (keys.length : Int) ≤ 20 * (keys.length : Int) := Int.mul_le_mul_of_nonneg_right hb2i.2 (by omega)
        have q2 : 0 ≤ b2 * (keys.length : Int) := Int.mul_nonneg (by omega) (by omega)
        omega
      obtain ⟨m0, hm0⟩ : ∃ m0, max b3 64 = m0 := ⟨_, rfl⟩
      have hn2 : ((m0.toNat + 7) / 8 : Nat) = n := by rw [← hnd, ← hm0, ← hb3, ← hb2]; rfl
      have hm0i : 64 ≤ m0 ∧ m0 ≤ 20971520 := by omega
      rw [hkd, hnd] at HE
      rw [hkd] at hkk
      clear hbd hkd hnd
      go_enter Try.func9, Try.ntmps9
      go_wp2_with fail
      go_loop [6] (fun mv => ∃ x : Int, m0 ≤ x ∧ x ≤ 8 * (n : Int) ∧ mv = .int .i64 x) (fun mv => 8 * n - (intOf mv).toNat)
      case atStart => exact ⟨m0, Int.le_refl _, by omega, rfl⟩
      case round =>
        obtain ⟨x, hx0, hx1, rfl⟩ := hrel
        by_cases hx8 : 0 < x % 8
        · go_wp2_with fail
          go_round
          case rel => exact ⟨x + 1, by omega, by omega, by go_num⟩
          case measure => simp [intOf]; omega
        · obtain rfl : x = 8 * (n : Int) := by omega
          have hd8 : 8 * (n : Int) / 8 = (n : Int) := by omega
          have hkc : IntKind.u8.wrap (k : Int) = (k : Int) := by rw [IntKind.wrap_u8]; omega
          have hpos : (0 : Int) ≤ 0 ∧ (0 : Int) < 1 + (n : Int) := by omega
          have hn0 : 8 ≤ n ∧ n ≤ 2621440 := by omega
          clear hx8 hx0 hx1
          go_wp2_with (refine wpList_make_full _ (by rfl) _ _ 34 (by rfl) w.heap.size 5 i0 (.int .u8 0) 1 Try.underlying34 hi hz0 hz1 .i64 .i64 (1 + (n : Int)) (1 + (n : Int)) (1 + n) (by rfl) (by rfl) (by omega) (by omega) (by rw [hz2]; omega) (by unfold maxLen; omega) (Nat.le_refl _) ?_; intro w1 hown hgrow; rw [made_u8] at hown; have hc0 := (hown.cellAt 0 (by omega)).trans (cs_get (List.replicate (1 + n) 0) 0 (by simp; omega)); have hf0 := hown.frozenAt 0; have hst := (World.ownsRow.stored hown 0 (.int .u8 (k : Int))).1; rw [cs_set0 n k (by omega)] at hst; have hbw : Below w.heap.size w (w1.setCell ⟨w.heap.size, 0, none⟩ (.int .u8 (k : Int))) := ((Below.refl _ _).grown hgrow (Nat.le_refl _) (fun k hk => by cases hk)).setCell (p := ⟨w.heap.size, 0, none⟩) (Nat.le_refl _) _; have HST := Lib.hid hst; have HBW := Lib.hid hbw; clear hst hbw hown hgrow)
          have hst := HST.out
          have hbw := HBW.out
          clear HST HBW
          generalize hN : 1 + n = N at *
          obtain ⟨L0, hL0⟩ : ∃ L0, L0 = UInt8.ofNat k :: List.replicate n 0 := ⟨_, rfl⟩
          have hL0l : L0.length = N := by rw [hL0]; simp; omega
          rw [← hL0] at HE hst
          clear hL0
          go_loopw [8] (fun iv wr => ∃ q : Nat, q ≤ keys.length ∧ iv = .int .i64 (q : Int) ∧ wr.ownsRow w.heap.size 5 1 (.slice (some ⟨w.heap.size, 0, none⟩) N N) N (Cd.cs (fill k (8 * (n : Int)) L0 (keys.take q))) ∧ Below w.heap.size w wr) (fun iv _ => keys.length - (intOf iv).toNat)
          case atStart => exact ⟨0, Nat.zero_le _, rfl, hst, hbw⟩
          case round =>
            obtain ⟨q, hq, rfl, hown, hB⟩ := hrel
            obtain ⟨wo, rfl⟩ : ∃ wo : World, wo = wr := ⟨_, rfl⟩
            have hbs := hB.size
            by_cases hlt : q < keys.length
            · obtain ⟨rfl, hfb⟩ := ha (by omega)
              have e0 := (hB.cell (p := ⟨fb, fo + q, none⟩) hfb).trans (HC.out q hlt)
              have hi1 : (0 : Int) ≤ (q : Int) ∧ (q : Int) < (keys.length : Int) := by omega
              have hxl := hkl keys[q] (List.getElem_mem hlt)
              have HT := Lib.hid (show fill k (8 * (n : Int)) L0 (keys.take (q + 1)) = setAll (fill k (8 * (n : Int)) L0 (keys.take q)) (places keys[q] k (8 * (n : Int))) by rw [List.take_succ_eq_append_getElem hlt, fill_snoc])
              have hfl := fill_len k (8 * (n : Int)) (keys.take q) L0
              rw [hL0l] at hfl
              have HP := Lib.hid (fun W => placesR_any keys[q] k (8 * (n : Int)) W (by omega) (by omega) (by omega))
              have hLl : (places keys[q] k (8 * (n : Int))).length = k := placesGo_len _ _ _ _
              have HI := Lib.hid (placesGo_in keys[q] k (8 * (n : Int)) (by omega))
              generalize fill k (8 * (n : Int)) L0 (keys.take q) = F at *
              generalize places keys[q] k (8 * (n : Int)) = L at *
              generalize keys[q] = key at *
              have HO := Lib.hid hown
              go_wp2_with (go_at_call 19; (with_reducible refine (HP.out _).mono ?_); rintro e w2 ⟨v, rfl, hownL, hb2⟩; obtain ⟨ao, cap2, rfl, hg1⟩ := Sq.row_cases hownL; have hown2 := Sq.row_kept HO.out (Sq.Kept.of_below (T := fun _ => True) hb2) (fun _ _ => trivial))
              have hbs2 := hb2.size
              have hwz : w.heap.size < wo.heap.size := (Ob.row_lt hown rfl).2
              go_loopw [10] (fun jv wx => ∃ j : Nat, j ≤ L.length ∧ jv = .int .i64 (j : Int) ∧ wx.ownsRow w.heap.size 5 1 (.slice (some ⟨w.heap.size, 0, none⟩) N N) N (Cd.cs (setAll F (L.take j))) ∧ wx.ownsRow wo.heap.size 3 1 (.slice ao L.length cap2) L.length (ic L) ∧ Below w.heap.size w wx) (fun jv _ => L.length - (intOf jv).toNat)
              case atStart => exact ⟨0, Nat.zero_le _, rfl, hown2, hownL, hB.trans (hb2.mono hbs)⟩
              case round =>
                obtain ⟨j, hj, rfl, hR, hRL, hBx⟩ := hrel
                by_cases hjl : j < L.length
                · obtain ⟨g1, rfl, hg1l, hg1h⟩ := hg1 (by omega)
                  have hgne : g1 ≠ w.heap.size := by omega
                  have e1 := (hRL.cellAt j (by omega)).trans (show (ic L)[j]? = some (.int .i64 L[j]) by simp [ic, hjl])
                  have hi2 : (0 : Int) ≤ (j : Int) ∧ (j : Int) < (L.length : Int) := by omega
                  have hx := HI.out L[j] (List.getElem_mem hjl)
                  have hts := List.take_succ_eq_append_getElem hjl
                  have hsl := setAll_len (L.take j) F
                  rw [hfl] at hsl
                  have HT2 := Lib.hid (show setAll F (L.take (j + 1)) = setB (setAll F (L.take j)) L[j].toNat by rw [hts, setAll_snoc])
                  clear hts
                  generalize setAll F (L.take j) = G at *
                  generalize L[j] = x at *
                  obtain ⟨i, rfl⟩ := Int.eq_ofNat_of_zero_le hx.1
                  rw [Int.toNat_natCast] at HT2
                  obtain ⟨p, hp⟩ : ∃ p, p = 1 + i / 8 := ⟨_, rfl⟩
                  have hpi : (1 : Int) + (i : Int) / 8 = (p : Int) := by omega
                  have hil : p < N := by omega
                  have e2 := (hR.cellAt p (by omega)).trans (cs_get G p (by omega))
                  have f2 := hR.frozenAt p
                  have HST := Lib.hid (fun v => (World.ownsRow.stored hR p v).1)
                  have HRL := Lib.hid (fun v => Ob.row_other hRL (p := ⟨w.heap.size, p, none⟩) (by simp [Value.ownBlock]; omega) v)
                  have HSB := Lib.hid (cs_setB G i)
                  rw [← hp] at HSB
                  have hi3 : (0 : Int) ≤ (p : Int) ∧ (p : Int) < (N : Int) := by omega
                  have hxb := (G.getD p 0).toNat_lt
                  have HOV := Lib.hid (or_val (G.getD p 0) i)
                  generalize (G.getD p 0) = y at *
                  clear hp
                  clear hR hRL
                  go_wp2_with fail
                  go_still_tail 15, (by kernel_rfl)
                  change wpList _ _ _ _ _ (World.drew _)
                  go_wp2_with fail
                  go_roundw
                  case rel => exact ⟨j + 1, by omega, by go_num, by rw [HT2.out, ← HSB.out _ HOV.out]; exact HST.out _, HRL.out _, (hBx.setCell (p := ⟨w.heap.size, p, none⟩) (Nat.le_refl _) _).drew⟩
                  case measure => simp [intOf]; omega
                · obtain rfl : j = L.length := by omega
                  rw [List.take_length] at hR
                  have HR := Lib.hid hR
                  clear hR hRL
                  go_wp2_with fail
                  go_roundw
                  case rel => exact ⟨q + 1, by omega, by go_num, by rw [HT.out]; exact HR.out, hBx⟩
                  case measure => simp [intOf]; omega
            · obtain rfl : q = keys.length := by omega
              rw [List.take_length] at hown
              have hcv := conv_any (l := fill k (8 * (n : Int)) L0 keys) (by rw [fill_len, hL0l]; exact hown)
              go_wp2_with fail
              go_ret
              exact ⟨by rw [HE.out]; rfl, hB⟩
end Bm
end Go.Proofs.Ytenjjfiojackaaa
