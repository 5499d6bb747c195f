import Derived.Deep.LoopGhost
import Derived.Test.YtmfeeampbmandaaPart6
/-
  The law WalCuts, over what the program's wal owes.
-/
namespace Go.Proofs.Ytmfeeampbmandaa
open Go.RowKit
set_option linter.unusedSimpArgs false
set_option linter.unusedVariables false
namespace Wa
theorem Bats.take {B : Nat} {W : World} {a : Option Addr} {cap cap' : Nat} {LV : List (Bt × Value)} (h : Bats B W (.slice a LV.length cap) LV) (n : Nat) (hn : n ≤ LV.length) : Bats B W (.slice a n cap') (LV.take n) := by
  obtain ⟨a', cap0, b, off, h1, h2, h3⟩ := h
  injection h1 with e1 e2 e3
  subst e1
  refine ⟨a, cap', b, off, by rw [List.length_take, Nat.min_eq_left hn], fun h => h2 (by rw [List.length_take] at h; omega), fun j hj => ?_⟩
  have hj' : j < LV.length := by rw [List.length_take] at hj; omega
  rw [List.getElem_take]
  exact h3 j hj'
theorem bats_row {B : Nat} {W : World} {v : Value} {LV : List (Bt × Value)} (h : W.ownsRow B 25 2 v LV.length (bCells LV)) (hp : ∀ x ∈ LV, Puts W.heap.size W x.2 x.1.2.1) : Bats W.heap.size W v LV := by
  obtain ⟨ao, cap, rfl, hg⟩ := Sq.row_cases h
  by_cases h0 : 0 < LV.length
  · obtain ⟨g, rfl, h1, h2⟩ := hg h0
    refine ⟨_, cap, g, 0, rfl, fun _ => ⟨rfl, h2⟩, fun j hj => ?_⟩
    obtain ⟨g1, g2⟩ := bCells_get LV j hj
    rw [Nat.zero_add]
    exact ⟨(World.ownsRow.cellAt h (j * 2) (by omega)).trans g1, (World.ownsRow.cellAt h (j * 2 + 1) (by omega)).trans g2, hp _ (List.getElem_mem hj)⟩
  · exact ⟨ao, cap, 0, 0, rfl, fun h => absurd h h0, fun j hj => by omega⟩
theorem extract_take (l : List UInt8) (k : Nat) : (Cd.bs l).extract 0 k = Cd.bs (l.take k) := by
  have : ((Cd.bs l).extract 0 k).data.toList = l.take k := by rw [Lib.extract_data]; rfl
  rw [← this]

theorem row_cap {W : World} {B : Nat} {te : TypeId} {sz m cap : Nat} {a : Option Addr} {xs : List Value} (h : W.ownsRow B te sz (.slice a m cap) m xs) : m ≤ cap := by
  obtain ⟨a', cap', b, e, h1, _⟩ := Gn.row_at h
  injection e with _ _ e3
  subst e3; exact h1
theorem same_lists {B B' : Nat} {W : World} {v1 v2 : Value} {V1 V2 : List (Bt × Value)} (h1 : Bats B W v1 V1) (h2 : Bats B' W v2 V2) (hV : V1.map (·.1) = V2.map (·.1)) (hm : ∀ x ∈ V2.map (·.1), x.2.1.length ≤ 256) (hl : V1.length ≤ 1048576) :
    Calls Try.prog 16 #[v1, v2] W fun e w' => e = .returned (.bool true) ∧ ∃ n, w' = W.drewN n :=
  sameBatches_any v1 v2 V1 V2 (max B B') W (h1.grow (Below.refl _ _) (Nat.le_max_left _ _)) (h2.grow (Below.refl _ _) (Nat.le_max_right _ _)) hV (by omega) (fun x hx => by
    have := hm x.1 (by rw [← hV]; exact List.mem_map_of_mem hx)
    omega)
theorem take_same {V3 KV : List (Bt × Value)} {K X : List Bt} {whole : Nat} (h : V3.map (·.1) = K.take whole ++ X) (hm : (KV.take whole).map (·.1) = K.take whole) (hle : whole ≤ KV.length) : (V3.take whole).map (·.1) = (KV.take whole).map (·.1) := by
  have hl : (K.take whole).length = whole := by rw [← hm]; simp; omega
  rw [List.map_take, h, hm, List.take_append_of_le_length (by omega), List.take_of_length_le (by omega)]

/-- the law's state, at the head of a round -/
structure CS (w : World) (cut : Int) (LV : List (Bt × Value)) (k : Nat) (KV : List (Bt × Value)) (whole : Nat) (pv : Value) (W : World) : Prop where
  cut : Cut cut (KV.map (·.1)) whole
  row : W.ownsRow w.heap.size 25 2 pv KV.length (bCells KV)
  puts : ∀ x ∈ KV, Puts w.heap.size w x.2 x.1.2.1
  below : Below w.heap.size w W
  many : KV.length ≤ k
  len : (logB' (KV.map (·.1))).length ≤ 35 * ((LV.take k).map fun x => nb x.1).sum
theorem sum_take (LV : List (Bt × Value)) (k : Nat) : ((LV.take k).map fun x => nb x.1).sum ≤ (LV.map fun x => nb x.1).sum := by
  have : LV.map (fun x => nb x.1) = (LV.take k).map (fun x => nb x.1) ++ (LV.drop k).map (fun x => nb x.1) := by rw [← List.map_append, List.take_append_drop]
  rw [this, List.sum_append]; omega
theorem sum_more {LV : List (Bt × Value)} {k : Nat} (h : k < LV.length) : ((LV.take (k + 1)).map fun x => nb x.1).sum = ((LV.take k).map fun x => nb x.1).sum + nb LV[k].1 := by
  rw [List.take_succ_eq_append_getElem h, List.map_append, List.sum_append]; simp
theorem lastQ_in : ∀ (K : List Bt) (q : Int), (∀ b ∈ K, Right b) → (0 ≤ q ∧ q ≤ 1125899906842624) → 0 ≤ lastQ q K ∧ lastQ q K ≤ 1125899906842624
  | [], q, _, h => h
  | b :: r, q, hR, h => lastQ_in r (last b) (fun c hc => hR c (List.mem_cons_of_mem _ hc)) (by
    obtain ⟨r1, r2, r3, r4, r5⟩ := hR b (List.mem_cons_self ..)
    have hM : (MaxSeq : Nat) = 1125899906842624 := rfl
    unfold last
    omega)

set_option maxRecDepth 100000 in
set_option maxHeartbeats 8000000 in
theorem walCuts_walk (E : EncOk5) (R : RepOk) (lv : Value) (LV : List (Bt × Value)) (cut : Int) (s : ByteArray) (w : World) (I : BatsIn w lv LV) (c1 : -9223372036854775808 ≤ cut) (c2 : cut ≤ 9223372036854775807) (hs : s.size ≤ 1048576) :
    Calls Try.prog 6 #[lv, .int .i64 cut, .string s] w fun e w' => e = .returned (.bool true) ∧ Below w.heap.size w w' := by
  obtain ⟨bh, rfl⟩ : ∃ l, s = Cd.bs l := ⟨s.data.toList, (Lib.mk_data s).symm⟩
  have hbh : bh.length ≤ 1048576 := hs
  obtain ⟨i0, hi, hz0, hz1, hz2⟩ := info_parts info_Batch
  obtain ⟨hbats, hok, hmany, hsum⟩ := I
  obtain ⟨la, lcap, lb, lo, rfl, ha, hcells⟩ := hbats
  have HC := Lib.hid hcells
  have HOK := Lib.hid hok
  clear hcells hok
  go_enter Try.func6, Try.ntmps6
  go_wp2_with fail
  go_loopw [7, 8, 9, 10, 11, 12] (fun sv wv ev qv pv i wr => ∃ (k : Nat) (KV : List (Bt × Value)) (whole : Nat), k ≤ LV.length ∧ i = .int .i64 (k : Int) ∧ sv = .string (Cd.bs (logB' (KV.map (·.1)))) ∧ wv = .int .i64 (whole : Int) ∧ ev = .int .i64 (((logB' ((KV.map (·.1)).take whole)).length : Nat) : Int) ∧ qv = .int .u64 (lastQ 0 (KV.map (·.1))) ∧ CS w cut LV k KV whole pv wr) (fun _ _ _ _ _ i _ => LV.length - (intOf i).toNat)
  case atStart => exact ⟨0, [], 0, Nat.zero_le _, rfl, rfl, rfl, rfl, rfl, ⟨Cut.nil cut, World.ownsRow_nil _ _ _ _, fun x hx => (by cases hx), Below.refl _ _, Nat.le_refl _, Nat.zero_le _⟩⟩
  case round =>
    obtain ⟨k, KV, whole, hk, rfl, rfl, rfl, rfl, rfl, hS⟩ := hrel
    obtain ⟨pa, pcap, rfl, _⟩ := Sq.row_cases hS.row
    have hbs := hS.below.size
    have hKk := hS.many
    have hle : whole ≤ KV.length := by have := hS.cut.le; simpa using this
    have hlen := hS.len
    have hst := sum_take LV k
    have hlq := lastQ_in (KV.map (·.1)) 0 hS.cut.right ⟨Int.le_refl _, by omega⟩
    by_cases hlt : k < LV.length
    · obtain ⟨rfl, hlb⟩ := ha (by omega)
      obtain ⟨d0, d1, d2⟩ := HC.out k hlt
      have E0 := Lib.hid (fun W (h : Below w.heap.size w W) => (h.cell (p := ⟨lb, lo + k * 2, none⟩) hlb).trans d0)
      have E1 := Lib.hid (fun W (h : Below w.heap.size w W) => (h.cell (p := ⟨lb, lo + k * 2 + 1, none⟩) hlb).trans d1)
      have e0 := E0.out _ hS.below
      have e1 := E1.out _ hS.below
      have hbi := HOK.out LV[k] (List.getElem_mem hlt)
      have hsm := sum_more hlt
      have hst2 := sum_take LV (k + 1)
      have hi1 : (0 : Int) ≤ (k : Int) ∧ (k : Int) < (LV.length : Int) := by omega
      generalize LV[k] = x at *
      obtain ⟨⟨sq, pu, uu⟩, xv⟩ := x
      obtain rfl : uu = () := rfl
      simp only at e0 e1 E0 E1 d2 hbi hsm
      have HPX := Lib.hid d2
      obtain ⟨xa, xcap, xb, xo, rfl, _, _⟩ := d2
      obtain ⟨hq1, hq2⟩ := hbi.seq
      simp only at hq1 hq2
      have HEN := Lib.hid (fun W (h : Below w.heap.size w W) => E sq pu (.slice xa pu.length xcap) W (HPX.out.grow h h.size) hbi)
      have HRT := Lib.hid (fun W (h : Below w.heap.size w W) => rightR_any sq pu (.slice xa pu.length xcap) W (HPX.out.grow h h.size) hbi)
      have HSS := Lib.hid hS
      have HB := Lib.hid hS.below
      have hst3 : CS w cut LV (k + 1) KV whole (.slice pa KV.length pcap) wr := ⟨hS.cut, hS.row, hS.puts, hS.below, by omega, by omega⟩
      have HS3 := Lib.hid (fun W (h : Below wr.heap.size wr W) => (⟨hS.cut, own_below hS.row h, hS.puts, hS.below.trans (h.mono hbs), by omega, by omega⟩ : CS w cut LV (k + 1) KV whole (.slice pa KV.length pcap) W))
      clear hS hst3
      cases hr : rightB (sq, pu, ()) with
      | false =>
        have hwr : ¬ Right (sq, pu, ()) := of_decide_eq_false hr
        have HEN2 := Lib.hid (fun W (h : Below w.heap.size w W) => show Calls Try.prog 8 #[.agg #[.int .u64 sq, .slice xa pu.length xcap]] W fun e w' => e = .returned (.tuple #[.string (Cd.bs []), .int .i64 1]) ∧ Below W.heap.size W w' from by have := HEN.out W h; rw [encode_wrong hwr] at this; exact this)
        have HRT2 := Lib.hid (fun W (h : Below w.heap.size w W) => show Calls Try.prog 17 #[.agg #[.int .u64 sq, .slice xa pu.length xcap]] W fun e w' => e = .returned (.bool false) ∧ Below W.heap.size W w' from by have := HRT.out W h; rw [hr] at this; exact this)
        clear hr hwr HEN HRT
        go_wp2_with (first
          | (go_at_call 8; (with_reducible refine (HEN2.out _ HB.out).mono ?_); rintro e w1 ⟨rfl, hb1⟩; have HB1 := Lib.hid (HB.out.trans (hb1.mono hbs)); have e10 := E0.out w1 HB1.out; have e11 := E1.out w1 HB1.out)
          | (go_at_call 17; (with_reducible refine (HRT2.out _ HB1.out).mono ?_); rintro e w2 ⟨rfl, hb2⟩))
        go_roundw
        case rel => exact ⟨k + 1, KV, whole, by omega, by go_num, rfl, rfl, rfl, rfl, HS3.out _ (hb1.trans (hb2.mono hb1.size))⟩
        case measure => simp [intOf]; omega
      | true =>
        have hrt := right_of hr
        have HEN2 := Lib.hid (fun W (h : Below w.heap.size w W) => show Calls Try.prog 8 #[.agg #[.int .u64 sq, .slice xa pu.length xcap]] W fun e w' => e = .returned (.tuple #[.string (Cd.bs (Fr.put 2 (load sq.toNat pu)).1), .int .i64 0]) ∧ Below W.heap.size W w' from by have := HEN.out W h; rw [encode_right hrt] at this; exact this)
        have HRT2 := Lib.hid (fun W (h : Below w.heap.size w W) => show Calls Try.prog 17 #[.agg #[.int .u64 sq, .slice xa pu.length xcap]] W fun e w' => e = .returned (.bool true) ∧ Below W.heap.size W w' from by have := HRT.out W h; rw [hr] at this; exact this)
        clear hr HEN HRT
        by_cases hrise : lastQ 0 (KV.map (·.1)) < sq
        · have HLS := Lib.hid (fun W => lastR_any sq pu (.slice xa pu.length xcap) W ⟨_, _, rfl⟩ hrt)
          have hmp : (KV ++ [((sq, pu, ()), Value.slice xa pu.length xcap)]).map (·.1) = KV.map (·.1) ++ [(sq, pu, ())] := by rw [List.map_append]; rfl
          have hlg := log_snoc (KV.map (·.1)) (sq, pu, ())
          have hnb := put_nb hrt
          simp only at hlg hnb
          have hcs := HSS.out.cut.snoc hrt hrise
          rw [List.length_map] at hcs
          have hll : (logB' (KV.map (·.1) ++ [(sq, pu, ())])).length = (logB' (KV.map (·.1))).length + (Fr.put 2 (load sq.toNat pu)).1.length := by rw [hlg, List.length_append]
          have HLN := Lib.hid (show (logB' ((KV ++ [((sq, pu, ()), Value.slice xa pu.length xcap)]).map (·.1))).length ≤ 35 * ((LV.take (k + 1)).map fun x => nb x.1).sum by rw [hmp, hll]; omega)
          have hlq2 : lastQ 0 (KV.map (·.1) ++ [(sq, pu, ())]) = last (sq, pu, ()) := lastQ_snoc _ _ _
          have HLQ := Lib.hid hlq2
          have HMP := Lib.hid hmp
          have HLG := Lib.hid hlg
          have hri : ¬ sq ≤ lastQ 0 (KV.map (·.1)) := by omega
          have hki : KV.length ≤ 1048576 := by omega
          have hse : (logB' (KV.map (·.1))).length + (Fr.put 2 (load sq.toNat pu)).1.length ≤ 73400320 := by omega
          by_cases hcut : ((logB' (KV.map (·.1) ++ [(sq, pu, ())])).length : Int) ≤ cut
          · rw [if_pos hcut] at hcs
            obtain ⟨WH, hWH⟩ : ∃ n, n = KV.length + 1 := ⟨_, rfl⟩
            have HCT := Lib.hid (show Cut cut ((KV ++ [((sq, pu, ()), Value.slice xa pu.length xcap)]).map (·.1)) WH by rw [hmp, hWH]; exact hcs)
            have HWH := Lib.hid hWH
            rw [hll] at hcut
            have hci : ((logB' (KV.map (·.1))).length : Int) + ((Fr.put 2 (load sq.toNat pu)).1.length : Int) ≤ cut := by omega
            have HTK := Lib.hid (show (KV.map (·.1) ++ [(sq, pu, ())]).take (KV.length + 1) = KV.map (·.1) ++ [(sq, pu, ())] from List.take_of_length_le (by simp))
            clear hcs hcut hll hlg hmp hlq2 hWH hrise hnb
            generalize (Fr.put 2 (load sq.toNat pu)).1 = en at *
            go_wp2_with (first
              | (go_at_call 8; (with_reducible refine (HEN2.out _ HB.out).mono ?_); rintro e w1 ⟨rfl, hb1⟩; have HB1 := Lib.hid (HB.out.trans (hb1.mono hbs)); have e10 := E0.out w1 HB1.out; have e11 := E1.out w1 HB1.out)
              | (go_at_call 17; (with_reducible refine (HRT2.out _ HB1.out).mono ?_); rintro e w2 ⟨rfl, hb2⟩; have HB2 := Lib.hid (HB1.out.trans (hb2.mono HB1.out.size)); have e20 := E0.out w2 HB2.out; have e21 := E1.out w2 HB2.out)
              | (go_at_call 18; (with_reducible refine (HLS.out _).mono ?_); rintro e w3 ⟨rfl, hb3⟩; have HB3 := Lib.hid (HB2.out.trans (hb3.mono HB2.out.size)); have e30 := E0.out w3 HB3.out; have e31 := E1.out w3 HB3.out; have HR3 := Lib.hid (own_below (own_below (own_below HSS.out.row hb1) hb2) hb3))
              | (at_builtin; refine wpList_append_own _ rfl _ _ 35 rfl w.heap.size 25 i0 (.agg #[.int .u64 0, .slice none 0 0]) 2 32 Try.underlying35 hi hz0 hz1 hz2 rfl (by decide) _ _ _ rfl (HR3.out.alloc _) ⟨w3.heap.size, 0, none⟩ 1 1 [_, _] rfl rfl (by simpa using cell_two_new w3 _ _ _) (by simp [Value.oneCell']) (by unfold maxLen; omega) (by omega) (by have := HB3.out.size; simp; omega) ?_; intro v' w4 hown4 hgrow4 _; obtain ⟨pa4, pcap4, rfl, _⟩ := Sq.row_cases hown4; have HB4 := Lib.hid ((HB3.out.alloc HB3.out.size (.cells #[.int .u64 sq, .slice xa pu.length xcap] 25)).grown hgrow4 (by have := HB3.out.size; simp; omega) (fun j hj => (Ob.row_lt HR3.out hj).1)); have HS4 := Lib.hid (CS.mk (cut := cut) (LV := LV) (k := k + 1) (KV := KV ++ [((sq, pu, ()), .slice xa pu.length xcap)]) (whole := WH) (pv := .slice pa4 (KV.length + 1) pcap4) HCT.out (by rw [bCells_snoc, List.length_append, List.length_singleton]; exact hown4) (fun x hx => by rcases List.mem_append.1 hx with hx | hx; exact HSS.out.puts x hx; (simp only [List.mem_singleton] at hx; subst hx; exact HPX.out)) HB4.out (by rw [List.length_append, List.length_singleton]; omega) HLN.out); clear hown4 hgrow4))
            go_roundw
            case rel => exact ⟨k + 1, _, WH, by omega, by go_num, by rw [HMP.out, HLG.out, ByteArray.mk_append_mk], by rw [HWH.out]; go_num, by rw [HMP.out, HWH.out, HTK.out, HLG.out, List.length_append]; go_num, by rw [HMP.out, HLQ.out], HS4.out⟩
            case measure => simp [intOf]; omega
          · rw [if_neg hcut] at hcs
            obtain ⟨WH, hWH⟩ : ∃ n, n = whole := ⟨_, rfl⟩
            have HCT := Lib.hid (show Cut cut ((KV ++ [((sq, pu, ()), Value.slice xa pu.length xcap)]).map (·.1)) WH by rw [hmp, hWH]; exact hcs)
            have HWH := Lib.hid hWH
            rw [hll] at hcut
            have hci : ¬ ((logB' (KV.map (·.1))).length : Int) + ((Fr.put 2 (load sq.toNat pu)).1.length : Int) ≤ cut := by omega
            have hcd : decide (((logB' (KV.map (·.1))).length : Int) + ((Fr.put 2 (load sq.toNat pu)).1.length : Int) ≤ cut) = false := decide_eq_false hci
            have hce : cut < ((logB' (KV.map (·.1))).length : Int) + ((Fr.put 2 (load sq.toNat pu)).1.length : Int) := by omega
            have HTK := Lib.hid (show (KV.map (·.1) ++ [(sq, pu, ())]).take whole = (KV.map (·.1)).take whole from List.take_append_of_le_length (by rw [List.length_map]; exact hle))
            clear hcs hcut hll hlg hmp hlq2 hWH hrise hnb
            generalize (Fr.put 2 (load sq.toNat pu)).1 = en at *
            go_wp2_with (first
              | (go_at_call 8; (with_reducible refine (HEN2.out _ HB.out).mono ?_); rintro e w1 ⟨rfl, hb1⟩; have HB1 := Lib.hid (HB.out.trans (hb1.mono hbs)); have e10 := E0.out w1 HB1.out; have e11 := E1.out w1 HB1.out)
              | (go_at_call 17; (with_reducible refine (HRT2.out _ HB1.out).mono ?_); rintro e w2 ⟨rfl, hb2⟩; have HB2 := Lib.hid (HB1.out.trans (hb2.mono HB1.out.size)); have e20 := E0.out w2 HB2.out; have e21 := E1.out w2 HB2.out)
              | (go_at_call 18; (with_reducible refine (HLS.out _).mono ?_); rintro e w3 ⟨rfl, hb3⟩; have HB3 := Lib.hid (HB2.out.trans (hb3.mono HB2.out.size)); have e30 := E0.out w3 HB3.out; have e31 := E1.out w3 HB3.out; have HR3 := Lib.hid (own_below (own_below (own_below HSS.out.row hb1) hb2) hb3))
              | (at_builtin; refine wpList_append_own _ rfl _ _ 35 rfl w.heap.size 25 i0 (.agg #[.int .u64 0, .slice none 0 0]) 2 32 Try.underlying35 hi hz0 hz1 hz2 rfl (by decide) _ _ _ rfl (HR3.out.alloc _) ⟨w3.heap.size, 0, none⟩ 1 1 [_, _] rfl rfl (by simpa using cell_two_new w3 _ _ _) (by simp [Value.oneCell']) (by unfold maxLen; omega) (by omega) (by have := HB3.out.size; simp; omega) ?_; intro v' w4 hown4 hgrow4 _; obtain ⟨pa4, pcap4, rfl, _⟩ := Sq.row_cases hown4; have HB4 := Lib.hid ((HB3.out.alloc HB3.out.size (.cells #[.int .u64 sq, .slice xa pu.length xcap] 25)).grown hgrow4 (by have := HB3.out.size; simp; omega) (fun j hj => (Ob.row_lt HR3.out hj).1)); have HS4 := Lib.hid (CS.mk (cut := cut) (LV := LV) (k := k + 1) (KV := KV ++ [((sq, pu, ()), .slice xa pu.length xcap)]) (whole := WH) (pv := .slice pa4 (KV.length + 1) pcap4) HCT.out (by rw [bCells_snoc, List.length_append, List.length_singleton]; exact hown4) (fun x hx => by rcases List.mem_append.1 hx with hx | hx; exact HSS.out.puts x hx; (simp only [List.mem_singleton] at hx; subst hx; exact HPX.out)) HB4.out (by rw [List.length_append, List.length_singleton]; omega) HLN.out); clear hown4 hgrow4))
            go_roundw
            case rel => exact ⟨k + 1, _, WH, by omega, by go_num, by rw [HMP.out, HLG.out, ByteArray.mk_append_mk], by rw [HWH.out], by rw [HMP.out, HWH.out, HTK.out], by rw [HMP.out, HLQ.out], HS4.out⟩
            case measure => simp [intOf]; omega
        · have hri : sq ≤ lastQ 0 (KV.map (·.1)) := by omega
          clear hrise
          go_wp2_with (first
            | (go_at_call 8; (with_reducible refine (HEN2.out _ HB.out).mono ?_); rintro e w1 ⟨rfl, hb1⟩; have HB1 := Lib.hid (HB.out.trans (hb1.mono hbs)); have e10 := E0.out w1 HB1.out; have e11 := E1.out w1 HB1.out)
            | (go_at_call 17; (with_reducible refine (HRT2.out _ HB1.out).mono ?_); rintro e w2 ⟨rfl, hb2⟩; have HB2 := Lib.hid (HB1.out.trans (hb2.mono HB1.out.size)); have e20 := E0.out w2 HB2.out))
          go_roundw
          case rel => exact ⟨k + 1, KV, whole, by omega, by go_num, rfl, rfl, rfl, rfl, HS3.out _ (hb1.trans (hb2.mono hb1.size))⟩
          case measure => simp [intOf]; omega
    · obtain rfl : k = LV.length := by omega
      have hpr : KV.length ≤ 1048576 := by omega
      have hSl : (logB' (KV.map (·.1))).length ≤ 36700160 := by omega
      obtain ⟨M, hM⟩ : ∃ M, max cut 0 = M := ⟨_, rfl⟩
      obtain ⟨c, hc⟩ : ∃ c : Nat, min M ((logB' (KV.map (·.1))).length : Int) = (c : Int) := ⟨(min M ((logB' (KV.map (·.1))).length : Int)).toNat, by omega⟩
      have hcc : (c : Int) = min (max cut 0) (logB' (KV.map (·.1))).length := by rw [hM]; exact hc.symm
      have hc1 : (0 : Int) ≤ (c : Int) ∧ (c : Int) ≤ ((logB' (KV.map (·.1))).length : Int) := by omega
      have hw1 : (0 : Int) ≤ (whole : Int) ∧ (whole : Int) ≤ (KV.length : Int) := by omega
      have hpc : (whole : Int) ≤ (pcap : Int) := by have := row_cap hS.row; omega
      have hfirst := hS.cut.first hcc
      obtain ⟨X, hmore⟩ := hS.cut.more hcc bh
      have hrt := hS.cut.right
      have hmt : (KV.take whole).map (·.1) = (KV.map (·.1)).take whole := List.map_take
      generalize hSS : logB' (KV.map (·.1)) = S at *
      have hsz : (Cd.bs S).size = S.length := rfl
      have htl : (S.take c).length ≤ 36700160 := by rw [List.length_take]; omega
      have HR1 := Lib.hid (fun W => show Calls Try.prog 14 #[.string ((Cd.bs S).extract 0 c)] W (RepOut ((KV.map (·.1)).take whole, (logB' ((KV.map (·.1)).take whole)).length) W) from by
        rw [extract_take, ← hfirst]; exact R (S.take c) W (by omega))
      have HR2 := Lib.hid (fun W => show Calls Try.prog 14 #[.string ((Cd.bs S).extract 0 c ++ Cd.bs bh)] W (RepOut (replay (S.take c ++ bh)) W) from by
        rw [extract_take, ByteArray.mk_append_mk]; exact R (S.take c ++ bh) W (by rw [List.length_append]; omega))
      have HMT := Lib.hid hmt
      have HMR := Lib.hid hmore
      have HP : Hid (∀ x ∈ KV.map (·.1), x.2.1.length ≤ 256) := fun x hx => (check_ok (hrt x hx).1).1
      have HSX := Lib.hid hS
      have hB := hS.below
      have hbh2 : ((Cd.bs S).extract 0 c).size ≤ 36700160 := by rw [extract_take]; exact htl
      have hexs : ((Cd.bs S).extract 0 c).size = (S.take c).length := by rw [extract_take]; rfl
      have hbsz : (Cd.bs bh).size = bh.length := rfl
      generalize (logB' ((KV.map (·.1)).take whole)).length = EN at *
      generalize replay (S.take c ++ bh) = rp at *
      obtain ⟨rb, re⟩ := rp
      simp only at HMR
      clear hfirst hmore hrt hmt hcc hS hSS
      go_wp2_with (first
        | (go_at_call 14; (with_reducible refine (HR1.out _).mono ?_); rintro e w1 ⟨v1, V1, rfl, hO1, hV1, hb1⟩; obtain ⟨va, vc, rfl, _⟩ := Sq.row_cases hO1.row; have HB1 := Lib.hid (hB.trans (hb1.mono hbs)); have HV1 := Lib.hid hV1; have hvl : V1.length ≤ 1048576 := (by have := congrArg List.length hV1; simp only [List.length_map, List.length_take] at this; omega); have HBP := Lib.hid (fun W (h : Below w1.heap.size w1 W) => Bats.take (cap' := pcap) (bats_row (own_below (own_below HSX.out.row hb1) h) (fun x hx => (HSX.out.puts x hx).grow (HB1.out.trans (h.mono HB1.out.size)) (HB1.out.trans (h.mono HB1.out.size)).size)) whole hle); have HS1 := Lib.hid (same_lists hO1.bats (HBP.out w1 (Below.refl _ _)) (hV1.trans HMT.out.symm) (fun x hx => HP.out x (by rw [HMT.out] at hx; exact List.mem_of_mem_take hx)) hvl); clear hO1 hV1)
        | (go_at_call 16; (with_reducible refine HS1.out.mono ?_); rintro e w2 ⟨rfl, n2, rfl⟩)
        | (go_at_call 14; (with_reducible refine (HR2.out _).mono ?_); rintro e w3 ⟨v3, V3, rfl, hO3, hV3, hb3⟩; obtain ⟨xa, xc, rfl, _⟩ := Sq.row_cases hO3.row; have hge : whole ≤ V3.length := (by have := congrArg List.length (hV3.trans HMR.out); simp only [List.length_map, List.length_take, List.length_append] at this; omega); have hgi : (whole : Int) ≤ (V3.length : Int) := (by omega); have hxc : (whole : Int) ≤ (xc : Int) := (by have := row_cap hO3.row; omega); have HV3 := Lib.hid (hV3.trans HMR.out); have hb13 : Below w1.heap.size w1 w3 := (belowN (Below.refl _ _) n2).trans (hb3.mono (Nat.le_refl _)); have HB3 := Lib.hid (HB1.out.trans (hb13.mono HB1.out.size)); have hv3 : (V3.take whole).map (·.1) = (KV.take whole).map (·.1) := take_same HV3.out HMT.out hle; have HS3 := Lib.hid (fun m => same_lists ((Bats.take (cap' := xc) hO3.bats whole hge).below (belowN (Below.refl _ _) m)) (((HBP.out w3 hb13)).below (belowN (Below.refl _ _) m)) hv3 (fun x hx => HP.out x (by rw [HMT.out] at hx; exact List.mem_of_mem_take hx)) (by rw [List.length_take]; omega)); clear hO3 hV3))
      go_big_quiet ((go_at_call 16; exact Calls.quiet_of (HS3.out _)))
      go_wp2_with fail
      go_ret
      exact ⟨rfl, belowN HB3.out _⟩
end Wa
end Go.Proofs.Ytmfeeampbmandaa

/-
  The walks of the laws of layer 5 on logs, as their frames call them.
-/
namespace Go.Proofs.Ytmfeeampbmandaa
open Go.RowKit Wa
theorem laidOut : laidOutB Try.prog = true := by kernel_rfl
theorem walReplays_law (s : ByteArray) (w : World) (hs : s.size ≤ 1048576) :
    Calls Try.prog 5 #[.string s] w fun e w' => e = .returned (.bool true) ∧ Below w.heap.size w w' := walReplays_walk Wd.repOk s w hs
theorem walCuts_law (lv : Value) (LV : List (Bt × Value)) (cut : Int) (s : ByteArray) (w : World) (I : BatsIn w lv LV) (c1 : -9223372036854775808 ≤ cut) (c2 : cut ≤ 9223372036854775807) (hs : s.size ≤ 1048576) :
    Calls Try.prog 6 #[lv, .int .i64 cut, .string s] w fun e w' => e = .returned (.bool true) ∧ Below w.heap.size w w' := walCuts_walk Wd.encOk Wd.repOk lv LV cut s w I c1 c2 hs
end Go.Proofs.Ytmfeeampbmandaa
