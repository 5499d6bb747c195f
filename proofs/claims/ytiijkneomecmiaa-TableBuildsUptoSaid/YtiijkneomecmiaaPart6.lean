import Derived.Deep.RegionHeld3
import Derived.StillTailTactics
import Derived.Deep.CutBlock
import Derived.Shelf.Abstract
import Derived.Shelf.RegionOpen
import Derived.OwnWalkIn
import Derived.TacticsInMore
import Derived.LoopNIn
import Derived.LoopIn
import Derived.BigRegionIn
import Derived.Sort.CutIn
import Derived.Test.YtiijkneomecmiaaPart5
/-
  The document's Build of a table (tapestryref08.Build).
-/
namespace Go.Proofs.Ytiijkneomecmiaa
open Go.RowKit
set_option linter.unusedSimpArgs false
set_option linter.unusedVariables false
namespace Tb
open Mt (Ver mayB lessB placeB VerIn verV)
open Vs (Vers At)

theorem bodyN_len {L : List Ver} (h : ∀ x ∈ L, x.val.length ≤ 16384) (ps : List (Nat × Nat)) (hp : ∀ p ∈ ps, p.2 ≤ 1048576) (hn : ps.length ≤ 1048576) : ∀ n, n ≤ ps.length → (bodyN L ps n).1.length ≤ 17511220020 * n ∧ (bodyN L ps n).2.length ≤ 10 + 260 * n
  | 0, _ => ⟨Nat.le_refl _, by have := Cd.putU_len10 ps.length (by omega); show (Cd.putU ps.length).length ≤ _; omega⟩
  | n + 1, hle => by
    obtain ⟨k1, k2⟩ := bodyN_len h ps hp hn n (by omega)
    rw [bodyN_succ L ps n (by omega)]
    have h1 := dataF_len h ps[n]
    have h2 := hp ps[n] (List.getElem_mem _)
    have h3 := spanB_len (bodyN L ps n).1.length L ps[n] (by omega) (by omega) (by omega)
    unfold bodyStep
    simp only [List.length_append]
    omega

theorem strs_row {W : World} {base : Nat} {v : Value} {L : List (List UInt8)} (h : W.ownsRow base 9 1 v L.length (sc8 L)) : Bm.Strs W.heap.size W v L := by
  obtain ⟨ao, cap, rfl, hg⟩ := Sq.row_cases h
  by_cases h0 : 0 < L.length
  · obtain ⟨g, rfl, _, h2⟩ := hg h0
    refine ⟨_, _, g, 0, rfl, fun _ => ⟨rfl, h2⟩, fun j hj => ?_⟩
    rw [Nat.zero_add]
    exact (h.cellAt j (by omega)).trans (by simp [sc8, hj])
  · exact ⟨_, _, 0, 0, rfl, fun h => absurd h h0, fun j hj => absurd (by omega) h0⟩
theorem keyL_mem {L : List Ver} {x : List UInt8} (h : x ∈ keyL L) : ∃ v ∈ L, x = v.key := by
  unfold keyL keyN at h
  obtain ⟨i, hi, rfl⟩ := List.mem_map.1 h
  have := List.mem_range.1 (List.mem_filter.1 hi).1
  exact ⟨L[i], List.getElem_mem this, by rw [getD_at this]⟩
theorem may_len {v : Ver} (h : mayB v = true) : VerIn v := by
  obtain ⟨h1, h2, h3, h4, h5, h6⟩ := may_seq h
  exact ⟨by omega, by omega, by omega, by omega⟩

set_option maxRecDepth 100000 in
set_option maxHeartbeats 4000000 in
theorem buildR8_any (block bits : Int) (a : Option Addr) (cap fb fo : Nat) (L : List Ver) (w : World) (hcap : L.length ≤ cap) (ha : 0 < L.length → a = some ⟨fb, fo, none⟩ ∧ fb < w.heap.size) (hcells : ∀ j (h : j < L.length), At w fb (fo + j * 4) L[j])
    (hI : ∀ x ∈ L, VerIn x) (hL : L.length ≤ 1048576) (hc2 : cap ≤ 9223372036854775807) :
    Calls Try.prog 14 #[.int .i64 block, .int .i64 bits, .slice a L.length cap] w fun e w' => e = .returned (encBlkV (buildT block bits L)) ∧ Below w.heap.size w w' := by
  have hV : Vers w.heap.size w (.slice a L.length cap) L := ⟨a, cap, fb, fo, rfl, ha, hcells⟩
  by_cases hbad : (block < 64 ∨ 4096 < block) ∨ (bits < 0 ∨ 20 < bits) ∨ L = []
  · have HE := Lib.hid (show buildT block bits L = ([], 1) from if_pos hbad)
    rw [HE.out]
    unfold encBlkV
    clear hV hcells
    by_cases h1 : block < 64
    · go_enter Try.func14, Try.ntmps14
      go_wp2_with fail
      go_ret2
      exact ⟨rfl, Below.refl _ _⟩
    by_cases h2 : 4096 < block
    · go_enter Try.func14, Try.ntmps14
      go_wp2_with fail
      go_ret2
      exact ⟨rfl, Below.refl _ _⟩
    by_cases h3 : bits < 0
    · go_enter Try.func14, Try.ntmps14
      go_wp2_with fail
      go_ret2
      exact ⟨rfl, Below.refl _ _⟩
    by_cases h4 : 20 < bits
    · go_enter Try.func14, Try.ntmps14
      go_wp2_with fail
      go_ret2
      exact ⟨rfl, Below.refl _ _⟩
    obtain rfl : L = [] := by
      rcases hbad with h | h | h
      · omega
      · omega
      · exact h
    go_enter Try.func14, Try.ntmps14
    go_wp2_with fail
    go_ret2
    exact ⟨rfl, Below.refl _ _⟩
  · have h1 : ¬ block < 64 := fun h => hbad (.inl (.inl h))
    have h2 : ¬ 4096 < block := fun h => hbad (.inl (.inr h))
    have h3 : ¬ bits < 0 := fun h => hbad (.inr (.inl (.inl h)))
    have h4 : ¬ 20 < bits := fun h => hbad (.inr (.inl (.inr h)))
    have hne : L ≠ [] := fun h => hbad (.inr (.inr h))
    have hpos : 0 < L.length := List.length_pos_iff.2 hne
    have h5 : ((L.length : Int) == 0) = false := by simpa using hne
    obtain ⟨rfl, hfb⟩ := ha hpos
    have HCL := Lib.hid hcells
    have HR := Lib.hid (rising_any _ L w hV hI (by omega))
    have hbt : buildT block bits L = if rising L ≠ 0 then ([], rising L) else
      if 262144 < (bodyN L (cuts block L) (cuts block L).length).2.length ∨ 262144 < (Bm.build bits (keyL L)).length then ([], 5) else
      if 16777216 < (wholeB L (bodyN L (cuts block L) (cuts block L).length).1 (bodyN L (cuts block L) (cuts block L).length).2 (Bm.build bits (keyL L))).length then ([], 5) else
      (wholeB L (bodyN L (cuts block L) (cuts block L).length).1 (bodyN L (cuts block L) (cuts block L).length).2 (Bm.build bits (keyL L)), 0) := if_neg hbad
    by_cases hr : rising L = 0
    · rw [if_neg (by simpa using hr)] at hbt
      rw [hr] at HR
      have hmay := rising_may hr
      obtain ⟨ps, hps⟩ : ∃ ps, cuts block L = ps := ⟨_, rfl⟩
      have HBL := Lib.hid (fun W (hb : Below w.heap.size w W) => blocksR_any block (some ⟨fb, fo, none⟩) cap fb fo L W hcap (fun _ => ⟨rfl, Nat.lt_of_lt_of_le hfb hb.size⟩) (fun j hj => (hcells j hj).below hb hfb) hmay hL hc2)
      obtain ⟨c1, c2, c3⟩ := cutN_in block L L.length
      rw [show (cutN block L L.length).1 = ps from hps] at c2 c3
      rw [hps] at HBL hbt
      have hval : ∀ x ∈ L, x.val.length ≤ 16384 := fun x hx => (may_seq (hmay x hx)).2.2.2.2.1
      have HLEN := Lib.hid (bodyN_len hval ps (fun p hp => by have := c3 p hp; omega) (by omega))
      have HBT := Lib.hid hbt
      have hpsl : ps.length ≤ 1048576 := by omega
      have HMAY := Lib.hid hmay
      have HPS := Lib.hid c3
      have HPU := Lib.hid (fun W => putUr_at (ps.length : Int) ps.length W rfl (by omega))
      have hwl : IntKind.u64.wrap (ps.length : Int) = (ps.length : Int) := Cd.wrapU_nat (by omega)
      have hb0 : (bodyN L ps 0).1 = [] := rfl
      have hb00 : (bodyN L ps 0).2 = Cd.putU ps.length := rfl
      have HB00 := Lib.hid hb00
      clear hbad hne hbt hmay c3 hV hcells hps c1 hr hI hval hb0 hb00
      go_enter Try.func14, Try.ntmps14
      go_wp2_with (first
        | (go_at_call 28; (with_reducible refine HR.out.mono ?_); rintro e w1 ⟨rfl, hb1⟩)
        | (go_at_call 36; (with_reducible refine (HBL.out _ hb1).mono ?_); rintro e w2 ⟨bv, rfl, hown, hb2⟩; have hB2 := hb1.trans (hb2.mono hb1.size); obtain ⟨ao, bcap, rfl, hg⟩ := Sq.row_cases hown)
        | (go_at_call 37; (with_reducible refine (HPU.out _).mono ?_); rintro e w3 ⟨rfl, hb3⟩; have hB3 := hB2.trans (hb3.mono hB2.size); have hown3 := own_after hown hb3))
      rw [← HB00.out]
      clear HB00 HR HBL HPU hb1 hb2 hB2 hown
      have hs3 := hb3.size
      go_loopw [9, 11, 12] (fun s ix i wr => ∃ q : Nat, q ≤ ps.length ∧ i = .int .i64 (q : Int) ∧ s = .string (Cd.bs (bodyN L ps q).1) ∧ ix = .string (Cd.bs (bodyN L ps q).2) ∧ Below w3.heap.size w3 wr) (fun _ _ i _ => ps.length - (intOf i).toNat)
      case atStart => exact ⟨0, Nat.zero_le _, rfl, rfl, rfl, Below.refl _ _⟩
      case round =>
        obtain ⟨q, hq, rfl, rfl, rfl, hBr⟩ := hrel
        have hBw := hB3.trans (hBr.mono hB3.size)
        by_cases hlt : q < ps.length
        · obtain ⟨g, rfl, hg1, hg2⟩ := hg (by omega)
          obtain ⟨p1, p2⟩ := HPS.out ps[q] (List.getElem_mem hlt)
          have eb := (hBr.cell (p := ⟨g, q, none⟩) (Nat.lt_of_lt_of_le hg2 hs3)).trans ((hown3.cellAt q (by omega)).trans (show (ps.map (slc fb fo cap))[q]? = some (slc fb fo cap ps[q]) by simp [hlt]))
          have hsucc := bodyN_succ L ps q hlt
          obtain ⟨k1, k2⟩ := HLEN.out q (by omega)
          have hstp : ∀ st, bodyStep L st ps[q] = (st.1 ++ dataF L ps[q], st.2 ++ (Cd.putU st.1.length ++ Cd.putU (dataF L ps[q]).length ++ Cd.putU ps[q].2 ++ Cd.putT (encKey (lastOf L ps[q])))) := fun _ => rfl
          rw [hstp] at hsucc
          have hdl := dataF_len (L := L) (fun x hx => (may_seq (HMAY.out x hx)).2.2.2.2.1) ps[q]
          have hbl := blk_len (L := part L ps[q]) (fun x hx => (may_seq (HMAY.out x (part_mem hx))).2.2.2.2.1)
          have hpl := part_len L ps[q]
          have HBY := Lib.hid (fun W (hb : Below w.heap.size w W) => bytesR_any (slc fb fo cap ps[q]) (part L ps[q]) W
            (part_vers (a := some ⟨fb, fo, none⟩) (fun _ => ⟨rfl, Nat.lt_of_lt_of_le hfb hb.size⟩) (fun j hj => (HCL.out j hj).below hb hfb) ps[q] p1 p2)
            (fun x hx => HMAY.out x (part_mem hx)) (by omega))
          have hlast : ps[q].1 + ps[q].2 - 1 < L.length := by omega
          have hlo : lastOf L ps[q] = { L[ps[q].1 + ps[q].2 - 1] with val := [] } := by unfold lastOf; rw [getD_at hlast]
          have HAT := Lib.hid (fun W (hb : Below w.heap.size w W) => (show fo + (ps[q].1 + ps[q].2 - 1) * 4 = fo + ps[q].1 * 4 + (ps[q].2 - 1) * 4 by omega) ▸ (HCL.out _ hlast).below hb hfb)
          have hmx := mayB_val (HMAY.out _ (List.getElem_mem hlast))
          rw [← hlo] at hmx
          have HDF := Lib.hid (show dataF L ps[q] = (Fr.put 3 (blk (part L ps[q]))).1 from rfl)
          unfold slc at HBY eb
          generalize lastOf L ps[q] = y at *
          generalize L[ps[q].1 + ps[q].2 - 1] = x at *
          generalize ps[q] = p at *
          obtain ⟨pa, pn⟩ := p
          simp only at *
          generalize blk (part L (pa, pn)) = bb at *
          have HPT := Lib.hid (fun W => show Calls Try.prog 38 #[.int .u8 3, .string (Cd.bs bb)] W fun e w' => e = .returned (.string (Cd.bs (dataF L (pa, pn)))) ∧ Below W.heap.size W w' from HDF.out ▸ putR8_any 3 bb W (by omega))
          generalize dataF L (pa, pn) = df at *
          generalize (bodyN L ps q).1 = s0 at *
          generalize (bodyN L ps q).2 = x0 at *
          have hi1 : (0 : Int) ≤ (q : Int) ∧ (q : Int) < (ps.length : Int) := by omega
          have hi2 : (0 : Int) ≤ (pn : Int) - 1 ∧ (pn : Int) - 1 < (pn : Int) := by omega
          have hi3 : ((pn : Int) - 1).toNat = pn - 1 := by omega
          have hi4 : IntKind.i64.wrap ((pn : Int) - 1) = (pn : Int) - 1 := by rw [IntKind.wrap_i64]; omega
          have HS := Lib.hid hsucc
          have HEB := Lib.hid (fun W (h : Below w3.heap.size w3 W) => (h.cell (p := ⟨g, q, none⟩) (Nat.lt_of_lt_of_le hg2 hs3)))
          have HLO := Lib.hid hlo
          clear hsucc hstp hlo
          go_upto_region 13 with (first
            | (go_at_call 29; (with_reducible refine (HBY.out _ hBw).mono ?_); rintro e w4 ⟨rfl, hb4⟩; have hB4 := hBr.trans (hb4.mono hBr.size))
            | (go_at_call 38; (with_reducible refine (HPT.out _).mono ?_); rintro e w5 ⟨rfl, hb5⟩; have hB5 := hB4.trans (hb5.mono hB4.size)))
          have hBw5 := hB3.trans (hB5.mono hB3.size)
          have eb5 := ((hb4.trans (hb5.mono hb4.size)).cell (p := ⟨g, q, none⟩) (by have := hBr.size; show g < _; omega)).trans eb
          obtain ⟨x5, y5, z5, v5⟩ := HAT.out w5 hBw5
          have hg5 : g < w5.heap.size := by have := hB5.size; omega
          have hfb5 : fb < w5.heap.size := by have := hBw5.size; omega
          have hpn : (1 : Int) ≤ (pn : Int) := by omega
          clear eb HBY HPT hb4 hb5 hB4
          go_big_region
          have o6 : Ob.Obj (w5.alloc (.cells #[.string (Cd.bs x.key), .int .u64 x.seq, .bool x.del, .string (Cd.bs x.val)] 24)).drew w5.heap.size 24 [.string (Cd.bs x.key), .int .u64 x.seq, .bool x.del, .string (Cd.bs x.val)] := (Ob.Obj.new w5 _ _).drew
          have b6 : Below w5.heap.size w5 (w5.alloc (.cells #[.string (Cd.bs x.key), .int .u64 x.seq, .bool x.del, .string (Cd.bs x.val)] 24)).drew := ((Below.refl _ _).alloc (Nat.le_refl _) _).drew
          generalize (w5.alloc (.cells #[.string (Cd.bs x.key), .int .u64 x.seq, .bool x.del, .string (Cd.bs x.val)] 24)).drew = w6 at *
          obtain ⟨n6, hn6⟩ : ∃ n6, w5.heap.size = n6 := ⟨_, rfl⟩
          have c3 := o6.cell 3
          have f3 := o6.frozen 3
          simp only [List.getElem?_cons_succ, List.getElem?_cons_zero] at c3
          rw [hn6] at c3 f3 ⊢
          go_upto_region 15 with fail
          have o7 := o6.set 3 (.string ⟨#[]⟩)
          have b7 := b6.setCell (p := ⟨w5.heap.size, 3, none⟩) (Nat.le_refl _) (.string ⟨#[]⟩)
          rw [hn6] at o7 b7
          generalize w6.setCell ⟨n6, 3, none⟩ (.string ⟨#[]⟩) = w7 at *
          have d0 := o7.cell 0
          have d1 := o7.cell 1
          have d2 := o7.cell 2
          have d3 := o7.cell 3
          simp at d0 d1 d2 d3
          have B7 : Below w3.heap.size w3 w7 := hB5.trans (b7.mono (by have := hB5.size; omega))
          have eb7 := (b7.cell (p := ⟨g, q, none⟩) (show g < n6 by omega)).trans eb5
          have hl7 := o7.lt
          have hg7 : g < w7.heap.size := by have := B7.size; omega
          clear o6 b6 c3 f3 b7 x5 y5 z5 v5 eb5 o7
          have hlm := may_len hmx
          have HP1 := Lib.hid (fun W => putUr_at (s0.length : Int) s0.length W rfl (by omega))
          have HP2 := Lib.hid (fun W => putUr_at (df.length : Int) df.length W rfl (by omega))
          have HP3 := Lib.hid (fun W => putUr_at (pn : Int) pn W rfl (by omega))
          have l1 := Cd.putU_len10 s0.length (by omega)
          have l2 := Cd.putU_len10 df.length (by omega)
          have l3 := Cd.putU_len10 pn (by omega)
          have l4 := enc_len y
          have l5 := putT_len (encKey y) (by omega)
          have HE := Lib.hid (fun W => show Calls Try.prog 9 #[.agg #[.string (Cd.bs x.key), .int .u64 x.seq, .bool x.del, .string ⟨#[]⟩]] W fun e w' => e = .returned (.string (Cd.bs (encKey y))) ∧ Below W.heap.size W w' from by
            have := encKeyR_any y W hlm
            rw [HLO.out] at this ⊢
            exact this)
          have HPT := Lib.hid (fun W => putTr_at (encKey y) W (by omega))
          have hwS1 : IntKind.u64.wrap (s0.length : Int) = (s0.length : Int) := Cd.wrapU_nat (by omega)
          have hwS2 : IntKind.u64.wrap (df.length : Int) = (df.length : Int) := Cd.wrapU_nat (by omega)
          have hwS3 : IntKind.u64.wrap (pn : Int) = (pn : Int) := Cd.wrapU_nat (by omega)
          generalize encKey y = ky at *
          generalize Cd.putU s0.length = u1 at *
          generalize Cd.putU df.length = u2 at *
          generalize Cd.putU pn = u3 at *
          generalize Cd.putT ky = u4 at *
          have q1 : ¬ 9223372036854775807 < x0.length + u1.length := by omega
          have q2 : ¬ 9223372036854775807 < x0.length + u1.length + u2.length := by omega
          have q3 : ¬ 9223372036854775807 < x0.length + u1.length + u2.length + u3.length := by omega
          have q4 : ¬ 9223372036854775807 < x0.length + u1.length + u2.length + u3.length + u4.length := by omega
          have q5 : ¬ 9223372036854775807 < s0.length + df.length := by omega
          have HS0 := Lib.hid (show Below w7.heap.size w7 w7 ∧ w7.cell? ⟨g, q, none⟩ = some (.slice (some ⟨fb, fo + pa * 4, none⟩) pn (cap - pa)) ∧ w7.cell? ⟨n6, 0, none⟩ = some (.string (Cd.bs x.key)) ∧ w7.cell? ⟨n6, 1, none⟩ = some (.int .u64 x.seq) ∧ w7.cell? ⟨n6, 2, none⟩ = some (.bool x.del) ∧ w7.cell? ⟨n6, 3, none⟩ = some (.string ⟨#[]⟩) from ⟨Below.refl _ _, eb7, d0, d1, d2, d3⟩)
          have HS1 := Lib.hid (show Below w7.heap.size w7 w7.drew ∧ w7.drew.cell? ⟨g, q, none⟩ = some (.slice (some ⟨fb, fo + pa * 4, none⟩) pn (cap - pa)) ∧ w7.drew.cell? ⟨n6, 0, none⟩ = some (.string (Cd.bs x.key)) ∧ w7.drew.cell? ⟨n6, 1, none⟩ = some (.int .u64 x.seq) ∧ w7.drew.cell? ⟨n6, 2, none⟩ = some (.bool x.del) ∧ w7.drew.cell? ⟨n6, 3, none⟩ = some (.string ⟨#[]⟩) from ⟨(Below.refl _ _).drew, eb7, d0, d1, d2, d3⟩)
          have NX := Lib.hid (fun W W' (h : Below w7.heap.size w7 W ∧ W.cell? ⟨g, q, none⟩ = some (.slice (some ⟨fb, fo + pa * 4, none⟩) pn (cap - pa)) ∧ W.cell? ⟨n6, 0, none⟩ = some (.string (Cd.bs x.key)) ∧ W.cell? ⟨n6, 1, none⟩ = some (.int .u64 x.seq) ∧ W.cell? ⟨n6, 2, none⟩ = some (.bool x.del) ∧ W.cell? ⟨n6, 3, none⟩ = some (.string ⟨#[]⟩)) (hb : Below W.heap.size W W') => show Below w7.heap.size w7 W' ∧ W'.cell? ⟨g, q, none⟩ = some (.slice (some ⟨fb, fo + pa * 4, none⟩) pn (cap - pa)) ∧ W'.cell? ⟨n6, 0, none⟩ = some (.string (Cd.bs x.key)) ∧ W'.cell? ⟨n6, 1, none⟩ = some (.int .u64 x.seq) ∧ W'.cell? ⟨n6, 2, none⟩ = some (.bool x.del) ∧ W'.cell? ⟨n6, 3, none⟩ = some (.string ⟨#[]⟩) from
            have h7 : Below w7.heap.size w7 W' := h.1.trans (hb.mono h.1.size)
            ⟨h7, (h7.cell (p := ⟨g, q, none⟩) hg7).trans eb7, (h7.cell (p := ⟨n6, 0, none⟩) hl7).trans d0, (h7.cell (p := ⟨n6, 1, none⟩) hl7).trans d1, (h7.cell (p := ⟨n6, 2, none⟩) hl7).trans d2, (h7.cell (p := ⟨n6, 3, none⟩) hl7).trans d3⟩)
          clear eb7 d0 d1 d2 d3
          go_cut [11] from 74 to 96 (fun r wx => r = .string (Cd.bs (x0 ++ (u1 ++ u2 ++ u3 ++ u4))) ∧ Below w7.heap.size w7 wx)
          case first =>
            go_region_held3 (fun W => Below w7.heap.size w7 W ∧ W.cell? ⟨g, q, none⟩ = some (.slice (some ⟨fb, fo + pa * 4, none⟩) pn (cap - pa)) ∧ W.cell? ⟨n6, 0, none⟩ = some (.string (Cd.bs x.key)) ∧ W.cell? ⟨n6, 1, none⟩ = some (.int .u64 x.seq) ∧ W.cell? ⟨n6, 2, none⟩ = some (.bool x.del) ∧ W.cell? ⟨n6, 3, none⟩ = some (.string ⟨#[]⟩))
              (first | exact HS0.out | exact HS1.out | exact NX.out _ _ (by assumption) hb9)
              (first
              | (go_at_call 37; (with_reducible refine (HP1.out _).mono ?_); rintro e w9 ⟨rfl, hb9⟩)
              | (go_at_call 37; (with_reducible refine (HP2.out _).mono ?_); rintro e w9 ⟨rfl, hb9⟩)
              | (go_at_call 37; (with_reducible refine (HP3.out _).mono ?_); rintro e w9 ⟨rfl, hb9⟩)
              | (go_at_call 9; (with_reducible refine (HE.out _).mono ?_); rintro e w9 ⟨rfl, hb9⟩)
              | (go_at_call 39; (with_reducible refine (HPT.out _).mono ?_); rintro e w9 ⟨rfl, hb9⟩))
            go_wp2_with fail
            go_meet
            exact ⟨by simp only [ByteArray.mk_append_mk, List.append_assoc], (show Below w7.heap.size w7 _ ∧ _ from by assumption).1⟩
          case rest =>
            obtain ⟨rfl, hbd⟩ := hcut
            have hBd := B7.trans (hbd.mono B7.size)
            go_wp2_with fail
            go_roundw
            case rel => exact ⟨q + 1, by omega, by go_num, by rw [HS.out]; simp only [ByteArray.mk_append_mk], by rw [HS.out], hBd⟩
            case measure => simp [intOf]; omega
        · obtain rfl : q = ps.length := by omega
          obtain ⟨k1, k2⟩ := HLEN.out ps.length (Nat.le_refl _)
          have HK := Lib.hid (fun W (hb : Below w.heap.size w W) => keysR_any (.slice (some ⟨fb, fo, none⟩) L.length cap) L W ⟨_, _, fb, fo, rfl, fun _ => ⟨rfl, Nat.lt_of_lt_of_le hfb hb.size⟩, fun j hj => (HCL.out j hj).below hb hfb⟩ hL)
          have hkn : (keyL L).length ≤ 1048576 := by have := keyN_len L L.length; show (keyN L L.length).length ≤ _; omega
          have HF := Lib.hid (fun v W base (h : W.ownsRow base 9 1 v (keyL L).length (sc8 (keyL L))) => Bm.buildR_any v bits (keyL L) W (strs_row h) (by omega) hkn (fun x hx => by obtain ⟨y, hy, rfl⟩ := keyL_mem hx; have := (may_seq (HMAY.out y hy)).2.2.2.1; omega))
          have hbs := Bm.build_small bits (keyL L) hkn
          have hka := (may_seq (HMAY.out _ (List.getElem_mem hpos))).2.2.2.1
          have hkb := (may_seq (HMAY.out _ (List.getElem_mem (show L.length - 1 < L.length by omega)))).2.2.2.1
          have HA0 := Lib.hid (fun W (hb : Below w.heap.size w W) => ((HCL.out 0 hpos).below hb hfb).1)
          have HA1 := Lib.hid (fun W (hb : Below w.heap.size w W) => ((HCL.out (L.length - 1) (by omega)).below hb hfb).1)
          have hft : ∀ a b, footB L a b = Cd.putU a ++ Cd.putU b ++ Cd.putU L.length ++ Cd.putT L[0].key ++ Cd.putT L[L.length - 1].key := fun a b => by unfold footB; rw [getD_at hpos, getD_at (show L.length - 1 < L.length by omega)]
          rw [Nat.zero_mul, Nat.add_zero] at HA0
          have hwh : ∀ s x f, wholeB L s x f = s ++ (Fr.put 5 f).1 ++ (Fr.put 4 x).1 ++ (Fr.put 6 (footB L s.length (s ++ (Fr.put 5 f).1).length)).1 ++ Fr.lit ((s ++ (Fr.put 5 f).1 ++ (Fr.put 4 x).1).length % 4294967296) := fun _ _ _ => rfl
          have HBT2 := Lib.hid HBT.out
          rw [hwh] at HBT2
          rw [hft] at HBT2
          generalize (bodyN L ps ps.length).1 = s0 at *
          generalize (bodyN L ps ps.length).2 = x0 at *
          generalize Bm.build bits (keyL L) = fl at *
          generalize L[0].key = ka at *
          generalize L[L.length - 1].key = kb at *
          generalize keyL L = kl at *
          clear hft hwh HBT
          have hsx : (Cd.bs x0).size = x0.length := rfl
          have hsf : (Cd.bs fl).size = fl.length := rfl
          by_cases hA : (262144 : Int) < (x0.length : Int)
          · have HE := Lib.hid (HBT2.out.trans (if_pos (.inl (by omega))))
            clear HBT2
            go_wp2_with (first
            | (go_at_call 41; (with_reducible refine (HK.out _ hBw).mono ?_); rintro e w4 ⟨u, rfl, hown4, hb4⟩; have hB4 := hBw.trans (hb4.mono hBw.size))
            | (go_at_call 40; (with_reducible refine (HF.out _ _ _ hown4).mono ?_); rintro e w5 ⟨rfl, hb5⟩; have hB5 := hB4.trans (hb5.mono hB4.size)))
            go_ret2
            exact ⟨by rw [HE.out]; rfl, hB5⟩
          · by_cases hA2 : (262144 : Int) < (fl.length : Int)
            · have HE := Lib.hid (HBT2.out.trans (if_pos (.inr (by omega))))
              clear HBT2
              go_wp2_with (first
            | (go_at_call 41; (with_reducible refine (HK.out _ hBw).mono ?_); rintro e w4 ⟨u, rfl, hown4, hb4⟩; have hB4 := hBw.trans (hb4.mono hBw.size))
            | (go_at_call 40; (with_reducible refine (HF.out _ _ _ hown4).mono ?_); rintro e w5 ⟨rfl, hb5⟩; have hB5 := hB4.trans (hb5.mono hB4.size)))
              go_ret2
              exact ⟨by rw [HE.out]; rfl, hB5⟩
            · have HT := Lib.hid (HBT2.out.trans (if_neg (fun h => h.elim (fun h => hA (by omega)) (fun h => hA2 (by omega)))))
              clear HBT2
              have HP0 := Lib.hid (fun W => putUr_at (s0.length : Int) s0.length W rfl (by omega))
              have HP5 := Lib.hid (fun W => show Calls Try.prog 38 #[.int .u8 5, .string (Cd.bs fl)] W fun e w' => e = .returned (.string (Cd.bs (Fr.put 5 fl).1)) ∧ Below W.heap.size W w' from putR8_any 5 fl W (by omega))
              have HP4 := Lib.hid (fun W => show Calls Try.prog 38 #[.int .u8 4, .string (Cd.bs x0)] W fun e w' => e = .returned (.string (Cd.bs (Fr.put 4 x0).1)) ∧ Below W.heap.size W w' from putR8_any 4 x0 W (by omega))
              have m5 := frame_len 5 fl
              have m4 := frame_len 4 x0
              have hmod : (s0 ++ (Fr.put 5 fl).1 ++ (Fr.put 4 x0).1).length % 4294967296 < 4294967296 := Nat.mod_lt _ (by omega)
              generalize (Fr.put 5 fl).1 = f5 at *
              generalize (Fr.put 4 x0).1 = f4 at *
              have HPL := Lib.hid (fun W => putUr_at (L.length : Int) L.length W rfl (by omega))
              have HPK := Lib.hid (fun W => putTr_at ka W (by omega))
              have HPB := Lib.hid (fun W => putTr_at kb W (by omega))
              have HP1 := Lib.hid (fun W => putUr_at ((s0 ++ f5).length : Int) (s0 ++ f5).length W rfl (by rw [List.length_append]; omega))
              have l0 := Cd.putU_len10 s0.length (by omega)
              have l1 := Cd.putU_len10 (s0 ++ f5).length (by rw [List.length_append]; omega)
              have l2 := Cd.putU_len10 L.length (by omega)
              have l3 := putT_len ka (by omega)
              have l4 := putT_len kb (by omega)
              have hwS0 : IntKind.u64.wrap (s0.length : Int) = (s0.length : Int) := Cd.wrapU_nat (by omega)
              have hwS1 : IntKind.u64.wrap ((s0 ++ f5).length : Int) = ((s0 ++ f5).length : Int) := Cd.wrapU_nat (by rw [List.length_append]; omega)
              have hwS2 : IntKind.u64.wrap (L.length : Int) = (L.length : Int) := Cd.wrapU_nat (by omega)
              generalize Cd.putU s0.length = u0 at *
              generalize Cd.putU (s0 ++ f5).length = u1 at *
              generalize Cd.putU L.length = u2 at *
              generalize Cd.putT ka = u3 at *
              generalize Cd.putT kb = u4 at *
              obtain ⟨ft, hftd⟩ : ∃ ft, u0 ++ u1 ++ u2 ++ u3 ++ u4 = ft := ⟨_, rfl⟩
              have hfl : ft.length ≤ 250 := by rw [← hftd]; simp only [List.length_append]; omega
              rw [hftd] at HT
              have HFT := Lib.hid hftd
              clear hftd
              have HP6 := Lib.hid (fun W => show Calls Try.prog 38 #[.int .u8 6, .string (Cd.bs ft)] W fun e w' => e = .returned (.string (Cd.bs (Fr.put 6 ft).1)) ∧ Below W.heap.size W w' from putR8_any 6 ft W (by omega))
              have m6 := frame_len 6 ft
              generalize (Fr.put 6 ft).1 = f6 at *
              have hst1 : Cd.bs s0 ++ Cd.bs f5 = Cd.bs (s0 ++ f5) := ByteArray.mk_append_mk _ _
              have hl1 : (s0 ++ f5).length = s0.length + f5.length := List.length_append
              obtain ⟨s1, hs1⟩ : ∃ s1, s0 ++ f5 = s1 := ⟨_, rfl⟩
              rw [hs1] at HP1 HT hwS1 hst1 hl1 hmod
              clear hs1
              have hst2 : Cd.bs s1 ++ Cd.bs f4 = Cd.bs (s1 ++ f4) := ByteArray.mk_append_mk _ _
              have hl2 : (s1 ++ f4).length = s1.length + f4.length := List.length_append
              obtain ⟨s2, hs2⟩ : ∃ s2, s1 ++ f4 = s2 := ⟨_, rfl⟩
              rw [hs2] at HT hst2 hl2 hmod
              clear hs2
              have hNw : IntKind.u32.wrap (s2.length : Int) = (s2.length : Int) % 4294967296 := by rw [IntKind.wrap_u32]
              have HLT := Lib.hid (fun W => littler_any ((s2.length : Int) % 4294967296) (s2.length % 4294967296) W (by omega) hmod)
              have hll := Fr.lit_len (s2.length % 4294967296)
              have HLTL := Lib.hid (show (Fr.lit (s2.length % 4294967296)).length ≤ 4 by omega)
              generalize Fr.lit (s2.length % 4294967296) = lt at *
              have hst3 : Cd.bs s2 ++ Cd.bs f6 = Cd.bs (s2 ++ f6) := ByteArray.mk_append_mk _ _
              have hst4 : Cd.bs (s2 ++ f6) ++ Cd.bs lt = Cd.bs (s2 ++ f6 ++ lt) := ByteArray.mk_append_mk _ _
              have hl3 : (s2 ++ f6).length = s2.length + f6.length := List.length_append
              have hl4 : (s2 ++ f6 ++ lt).length = s2.length + f6.length + 4 := by rw [List.length_append, hl3, hll]
              have HST := Lib.hid (And.intro hst1 (And.intro hst2 (And.intro hst3 hst4)))
              have HLL := Lib.hid (And.intro hl3 hl4)
              have g1 : s1.length ≤ s0.length + f5.length := by omega
              have g2 : s2.length ≤ s1.length + f4.length := by omega
              clear hl1 hl2 hl3 hl4 hll hst3 hst4 hst2
              have hi1 : (0 : Int) ≤ (L.length : Int) - 1 ∧ (L.length : Int) - 1 < (L.length : Int) := by omega
              have hi2 : ((L.length : Int) - 1).toNat = L.length - 1 := by omega
              have hi3 : IntKind.i64.wrap ((L.length : Int) - 1) = (L.length : Int) - 1 := by rw [IntKind.wrap_i64]; omega
              have hi4 : (0 : Int) < (L.length : Int) := by omega
              have hi5 : (1 : Int) ≤ (L.length : Int) := by omega
              go_upto_region 22 with (first
                | (go_at_call 41; (with_reducible refine (HK.out _ hBw).mono ?_); rintro e w4 ⟨u, rfl, hown4, hb4⟩; have hB4 := hBw.trans (hb4.mono hBw.size))
                | (go_at_call 40; (with_reducible refine (HF.out _ _ _ hown4).mono ?_); rintro e w5 ⟨rfl, hb5⟩; have hB5 := hB4.trans (hb5.mono hB4.size))
                | (go_at_call 37; (with_reducible refine (HP0.out _).mono ?_); rintro e w6 ⟨rfl, hb6⟩; have hB6 := hB5.trans (hb6.mono hB5.size))
                | (go_at_call 38; (with_reducible refine (HP5.out _).mono ?_); rintro e w7 ⟨rfl, hb7⟩; have hB7 := hB6.trans (hb7.mono hB6.size)))
              have d0 := HA0.out _ hB7
              have d1 := HA1.out _ hB7
              have hf7 : fb < w7.heap.size := Nat.lt_of_lt_of_le hfb hB7.size
              have q1 : ¬ 9223372036854775807 < u0.length + u1.length := by omega
              have q2 : ¬ 9223372036854775807 < u0.length + u1.length + u2.length := by omega
              have q3 : ¬ 9223372036854775807 < u0.length + u1.length + u2.length + u3.length := by omega
              have q4 : ¬ 9223372036854775807 < u0.length + u1.length + u2.length + u3.length + u4.length := by omega
              have HS0 := Lib.hid (show Below w7.heap.size w7 w7 ∧ w7.cell? ⟨fb, fo, none⟩ = some (.string (Cd.bs ka)) ∧ w7.cell? ⟨fb, fo + (L.length - 1) * 4, none⟩ = some (.string (Cd.bs kb)) from ⟨Below.refl _ _, d0, d1⟩)
              have HS1 := Lib.hid (show Below w7.heap.size w7 w7.drew ∧ w7.drew.cell? ⟨fb, fo, none⟩ = some (.string (Cd.bs ka)) ∧ w7.drew.cell? ⟨fb, fo + (L.length - 1) * 4, none⟩ = some (.string (Cd.bs kb)) from ⟨(Below.refl _ _).drew, d0, d1⟩)
              have NX := Lib.hid (fun W W' (h : Below w7.heap.size w7 W ∧ W.cell? ⟨fb, fo, none⟩ = some (.string (Cd.bs ka)) ∧ W.cell? ⟨fb, fo + (L.length - 1) * 4, none⟩ = some (.string (Cd.bs kb))) (hb : Below W.heap.size W W') => show Below w7.heap.size w7 W' ∧ W'.cell? ⟨fb, fo, none⟩ = some (.string (Cd.bs ka)) ∧ W'.cell? ⟨fb, fo + (L.length - 1) * 4, none⟩ = some (.string (Cd.bs kb)) from
                have h7 : Below w7.heap.size w7 W' := h.1.trans (hb.mono h.1.size)
                ⟨h7, (h7.cell (p := ⟨fb, fo, none⟩) hf7).trans d0, (h7.cell (p := ⟨fb, fo + (L.length - 1) * 4, none⟩) hf7).trans d1⟩)
              clear d0 d1
              go_cut [16] from 120 to 145 (fun r wx => r = .string (Cd.bs ft) ∧ Below w7.heap.size w7 wx)
              case first =>
                go_region_held3 (fun W => Below w7.heap.size w7 W ∧ W.cell? ⟨fb, fo, none⟩ = some (.string (Cd.bs ka)) ∧ W.cell? ⟨fb, fo + (L.length - 1) * 4, none⟩ = some (.string (Cd.bs kb)))
                  (first | exact HS0.out | exact HS1.out | exact NX.out _ _ (by assumption) hb9)
                  (first
                  | (go_at_call 37; (with_reducible refine (HP1.out _).mono ?_); rintro e w9 ⟨rfl, hb9⟩)
                  | (go_at_call 37; (with_reducible refine (HPL.out _).mono ?_); rintro e w9 ⟨rfl, hb9⟩)
                  | (go_at_call 39; (with_reducible refine (HPK.out _).mono ?_); rintro e w9 ⟨rfl, hb9⟩)
                  | (go_at_call 39; (with_reducible refine (HPB.out _).mono ?_); rintro e w9 ⟨rfl, hb9⟩))
                go_wp2_with fail
                go_meet
                exact ⟨by rw [← HFT.out]; simp only [ByteArray.mk_append_mk], (show Below w7.heap.size w7 _ ∧ _ from by assumption).1⟩
              case rest =>
                obtain ⟨rfl, hbd⟩ := hcut
                have hBd := hB7.trans (hbd.mono hB7.size)
                obtain ⟨_, hst2, hst3, hst4⟩ := HST.out
                have hl3 := HLL.out.1
                have hl4 := HLL.out.2
                have hB16 := hBd
                clear q1 q2 q3 q4 hst1
                have hs16 : (Cd.bs (s2 ++ f6 ++ lt)).size = (s2 ++ f6 ++ lt).length := rfl
                obtain ⟨sz, hsz⟩ : ∃ sz, s2 ++ f6 ++ lt = sz := ⟨_, rfl⟩
                rw [hsz] at hst4 hl4 HT hs16
                clear hsz
                have g3 : (s2 ++ f6).length ≤ s2.length + f6.length := by omega
                have g4 : sz.length ≤ s2.length + f6.length + 4 := by omega
                have hz3 : (Cd.bs (s2 ++ f6)).size = (s2 ++ f6).length := rfl
                obtain ⟨s3, hs3⟩ : ∃ s3, s2 ++ f6 = s3 := ⟨_, rfl⟩
                rw [hs3] at hst3 hst4 g3 hz3
                clear hs3 hl3 hl4 hz3
                have hllt : lt.length ≤ 4 := HLTL.out
                have hg5 : s3.length ≤ s2.length + f6.length := g3
                by_cases hC : (16777216 : Int) < (sz.length : Int)
                · have HE := Lib.hid (HT.out.trans (if_pos (by omega)))
                  clear HT
                  go_wp2_with (first
                    | (go_at_call 38; (with_reducible refine (HP4.out _).mono ?_); rintro e y1 ⟨rfl, hy1⟩)
                    | (go_at_call 38; (with_reducible refine (HP6.out _).mono ?_); rintro e y2 ⟨rfl, hy2⟩)
                    | (go_at_call 42; (with_reducible refine (HLT.out _).mono ?_); rintro e y3 ⟨rfl, hy3⟩))
                  go_ret2
                  exact ⟨by rw [HE.out]; rfl, hB16.trans ((hy1.trans ((hy2.mono hy1.size).trans (hy3.mono (Nat.le_trans hy1.size hy2.size)))).mono hB16.size)⟩
                · have HE := Lib.hid (HT.out.trans (if_neg (by omega)))
                  clear HT
                  go_wp2_with (first
                    | (go_at_call 38; (with_reducible refine (HP4.out _).mono ?_); rintro e y1 ⟨rfl, hy1⟩)
                    | (go_at_call 38; (with_reducible refine (HP6.out _).mono ?_); rintro e y2 ⟨rfl, hy2⟩)
                    | (go_at_call 42; (with_reducible refine (HLT.out _).mono ?_); rintro e y3 ⟨rfl, hy3⟩))
                  go_ret2
                  exact ⟨by rw [HE.out]; rfl, hB16.trans ((hy1.trans ((hy2.mono hy1.size).trans (hy3.mono (Nat.le_trans hy1.size hy2.size)))).mono hB16.size)⟩
    · rw [if_pos hr] at hbt
      have HE := Lib.hid hbt
      rw [HE.out]
      unfold encBlkV
      simp only
      generalize rising L = r at *
      have hrb : ((r : Int) != 0) = true := by simp; omega
      clear hbt hbad hV hcells hr hne
      go_enter Try.func14, Try.ntmps14
      go_wp2_with (go_at_call 28; (with_reducible refine HR.out.mono ?_); rintro e w1 ⟨rfl, hb1⟩)
      go_ret2
      exact ⟨rfl, hb1⟩
end Tb
end Go.Proofs.Ytiijkneomecmiaa

/-
  Chapter 7, the developers' side: Hash, Valid, countBits, the bits of a byte, Load, places.
-/
namespace Go.Proofs.Ytiijkneomecmiaa
open Go.RowKit
set_option linter.unusedSimpArgs false
set_option linter.unusedVariables false
namespace Bm

set_option maxRecDepth 100000 in
set_option maxHeartbeats 2000000 in
theorem hashOk : HashOk := by
  intro l w hl
  go_enter Try.func67, Try.ntmps67
  go_wp2_with fail
  go_loop [3, 7] (fun hv iv => ∃ (p : Nat) (h : Int), p ≤ l.length ∧ hv = .int .u64 h ∧ iv = .int .i64 (p : Int) ∧ (0 ≤ h ∧ h < 18446744073709551616) ∧ Hid (hashGo l 14695981039346656037 = hashGo (l.drop p) h)) (fun _ iv => l.length - (intOf iv).toNat)
  case atStart => exact ⟨0, _, Nat.zero_le _, rfl, rfl, by omega, rfl⟩
  case round =>
    obtain ⟨p, h, hp, rfl, rfl, ⟨hh0, hh1⟩, hgo⟩ := hrel
    by_cases hlt : p < l.length
    · have hi1 : (0 : Int) ≤ (p : Int) ∧ (p : Int) < (l.length : Int) := by omega
      have hcw : IntKind.u64.wrap (((Cd.bs l)[p]'hlt).toNat : Int) = (l[p].toNat : Int) := by
        have := (l[p]).toNat_lt
        show IntKind.u64.wrap (l[p].toNat : Int) = _
        rw [IntKind.wrap_u64]; omega
      have HG := Lib.hid (show hashGo l 14695981039346656037 = hashGo (l.drop (p + 1)) (IntKind.u64.wrap (bits BinOp.xor IntKind.u64 h (l[p].toNat : Int) * 1099511628211)) by
        rw [hgo.out, List.drop_eq_getElem_cons hlt, hashGo])
      clear hgo
      go_wp2_with fail
      go_round
      case rel => exact ⟨p + 1, _, by omega, rfl, by go_num, by rw [IntKind.wrap_u64]; omega, HG⟩
      case measure => simp [intOf]; omega
    · obtain rfl : p = l.length := by omega
      have HE := Lib.hid (show hash l = mixOf h by unfold hash; rw [hgo.out, List.drop_length]; rfl)
      have HM := Lib.hid (fun W => mixc_any h W hh0 (by omega))
      clear hgo
      go_wp2_with (go_at_call 76; (with_reducible refine (HM.out _).mono ?_); rintro e w1 ⟨rfl, rfl⟩)
      go_ret
      exact ⟨by rw [HE.out]; rfl, Below.refl _ _⟩

/-- how many bits of a byte are 1 -/
def ones (c : UInt8) : Nat := ((List.range 8).filter fun e => decide (c.toNat / 2 ^ e % 2 = 1)).length

/-! ### how many bits are 1 -/
def onesTo (s : List UInt8) (q : Nat) : Nat := ((List.range (8 * q)).filter fun i => bitB s i).length
theorem onesTo_succ (s : List UInt8) (q : Nat) (hq : 1 + q < s.length) : onesTo s (q + 1) = onesTo s q + ones s[1 + q] := by
  have hg : ∀ e, e < 8 → bitB s (8 * q + e) = decide (s[1 + q].toNat / 2 ^ e % 2 = 1) := fun e he => by
    unfold bitB
    rw [show 1 + (8 * q + e) / 8 = 1 + q by omega, show (8 * q + e) % 8 = e by omega, List.getD_eq_getElem?_getD, List.getElem?_eq_getElem hq, Option.getD_some]
  unfold onesTo ones
  rw [show 8 * (q + 1) = 8 * q + 7 + 1 by omega, filter_snoc, filter_snoc, filter_snoc, filter_snoc, filter_snoc, filter_snoc, filter_snoc, show 8 * q + 1 = 8 * q + 0 + 1 by omega, filter_snoc (q := 8 * q + 0)]
  have e8 : ∀ (f : Nat → Bool), ((List.range 8).filter f).length = (if f 0 then 1 else 0) + (if f 1 then 1 else 0) + (if f 2 then 1 else 0) + (if f 3 then 1 else 0) + (if f 4 then 1 else 0) + (if f 5 then 1 else 0) + (if f 6 then 1 else 0) + (if f 7 then 1 else 0) := fun f => by
    rw [filter_snoc, filter_snoc, filter_snoc, filter_snoc, filter_snoc, filter_snoc, filter_snoc, filter_snoc]; simp
  rw [e8, ← hg 0 (by omega), ← hg 1 (by omega), ← hg 2 (by omega), ← hg 3 (by omega), ← hg 4 (by omega), ← hg 5 (by omega), ← hg 6 (by omega), ← hg 7 (by omega)]
  simp only [Nat.add_zero]
  omega
theorem onesTo_le (s : List UInt8) (q : Nat) : onesTo s q ≤ 8 * q := by
  unfold onesTo
  have := List.length_filter_le (fun i => bitB s i) (List.range (8 * q))
  simpa using this

end Bm
end Go.Proofs.Ytiijkneomecmiaa
/-
  Chapter 7, the developers' side: the bits of a key, told by a range over a function.
-/
namespace Go.Proofs.Ytiijkneomecmiaa
open Go.RowKit Go.Shelf
set_option linter.unusedSimpArgs false
set_option linter.unusedVariables false
namespace Bm
attribute [local go_sem] Oper.semAt_some

set_option maxRecDepth 100000 in
set_option maxHeartbeats 2000000 in
theorem rotate_any (h : Int) (w : World) (h0 : 0 ≤ h) (h1 : h < 18446744073709551616) :
    Calls Try.prog 68 #[.int .u64 h, .int .i64 31] w fun e w' => e = .returned (.int .u64 (dOf h)) ∧ w = w' := by
  have h31 : bits BinOp.and IntKind.u64 31 63 = 31 := by decide
  go_enter Try.func68, Try.ntmps68
  go_wp2_with fail
  go_ret
  exact ⟨rfl, rfl⟩

/-- what the iterator's boxes hold -/
def PBox (w : World) (B : Nat) (key : List UInt8) (k : Nat) (m : Int) : Prop :=
  Boxed w B 9 (.string (Cd.bs key)) ∧ Boxed w (B + 1) 3 (.int .i64 (k : Int)) ∧ Boxed w (B + 2) 22 (.int .u64 m)
theorem PBox.kept {w w' : World} {B : Nat} {key : List UInt8} {k : Nat} {m : Int} {T : Sq.Blocks} (h : PBox w B key k m) (hk : Sq.Kept T w w') (hT : ∀ b, B ≤ b → b < B + 3 → T b) : PBox w' B key k m :=
  ⟨hk.boxed (hT _ (by omega) (by omega)) h.1, hk.boxed (hT _ (by omega) (by omega)) h.2.1, hk.boxed (hT _ (by omega) (by omega)) h.2.2⟩

/-- the world behind the making of the iterator -/
def placesW (w : World) (key : List UInt8) (k : Nat) (m : Int) : World :=
  ((w.alloc (.cells #[.string (Cd.bs key)] 9)).alloc (.cells #[.int .i64 (k : Int)] 3)).alloc (.cells #[.int .u64 m] 22)
abbrev placesV (B : Nat) : Value := .func (.func 66) #[] #[.pointer (some ⟨B, 0, none⟩), .pointer (some ⟨B + 1, 0, none⟩), .pointer (some ⟨B + 2, 0, none⟩)]
theorem placesW_size (w : World) (key : List UInt8) (k : Nat) (m : Int) : (placesW w key k m).heap.size = w.heap.size + 3 := by unfold placesW; simp
theorem placesW_kept (w : World) (key : List UInt8) (k : Nat) (m : Int) (T : Sq.Blocks) : Sq.Kept T w (placesW w key k m) := by
  unfold placesW; exact ((Sq.Kept.alloc _ _ _).trans (Sq.Kept.alloc _ _ _)).trans (Sq.Kept.alloc _ _ _)
theorem placesW_box (w : World) (key : List UInt8) (k : Nat) (m : Int) : PBox (placesW w key k m) w.heap.size key k m := by
  unfold placesW
  refine ⟨((Boxed.new w _ _).alloc _).alloc _, ?_, ?_⟩
  · have := Boxed.new (w.alloc (.cells #[.string (Cd.bs key)] 9)) 3 (.int .i64 (k : Int))
    rw [World.size_alloc] at this; exact this.alloc _
  · have := Boxed.new ((w.alloc (.cells #[.string (Cd.bs key)] 9)).alloc (.cells #[.int .i64 (k : Int)] 3)) 22 (.int .u64 m)
    rwa [World.size_alloc, World.size_alloc] at this

set_option maxHeartbeats 1000000 in
theorem placesDev_in (n : Nat) (key : List UInt8) (k : Nat) (m : Int) (w : World) :
    CallsIn Fence.wide n Try.prog 54 #[.string (Cd.bs key), .int .i64 (k : Int), .int .u64 m] w fun e w' => e = .returned (placesV w.heap.size) ∧ w' = placesW w key k m := by
  refine callsIn_of_wp Try.func54 rfl trivial ?_ rfl
  simp only [Try.ntmps54, List.size_toArray, List.length_cons, List.length_nil, Nat.reduceAdd, Nat.reduceSub, Array.replicate_succ, Array.replicate_zero, List.push_toArray, List.append_toArray, List.nil_append, List.cons_append]
  gi_wp2
  go_ret
  exact ⟨rfl, rfl⟩

abbrev pEnc (x : Int) : Array Value := #[.int .u64 x]

theorem placesGo_more (k : Nat) (h d m : Int) : placesGo (k + 1) h d m = (h % m) :: placesGo k (IntKind.u64.wrap (h + d)) d m := rfl

set_option maxRecDepth 100000 in
set_option maxHeartbeats 2000000 in
theorem places1_seq (n : Nat) (hn : 1 ≤ n) (key : List UInt8) (k : Nat) (m : Int) (hkl : key.length ≤ 140737488351232) (hm : 0 < m ∧ m < 18446744073709551616) (hk : k ≤ 1000) (B : Nat) (w : World) (hB : PBox w B key k m) :
    Sq.SeqC Fence.wide n Try.prog 66 #[.pointer (some ⟨B, 0, none⟩), .pointer (some ⟨B + 1, 0, none⟩), .pointer (some ⟨B + 2, 0, none⟩)] pEnc (fun b => B ≤ b ∧ b < B + 3) (fun ys => ys = places key k m) (fun pre => pre <+: places key k m) w := by
  intro lp J Jx W hW hJ hJx hY h0
  have hBW := hB.kept hW (fun b h1 h2 => ⟨h1, h2⟩)
  have hH := hash_in key
  have hD := dOf_in hH
  have HH := Lib.hid (fun W => hashOk key W hkl)
  have HR := Lib.hid (fun W => rotate_any (hash key) W hH.1 hH.2)
  have HP := Lib.hid (show places key k m = placesGo k (hash key) (dOf (hash key)) m from rfl)
  generalize dOf (hash key) = D at *
  generalize hash key = H at *
  generalize places key k m = L at *
  obtain ⟨hH0, hH1⟩ := hH
  obtain ⟨hD0, hD1⟩ := hD
  obtain ⟨hm0, hm1⟩ := hm
  have c0 := hBW.1.cell
  have c1 := hBW.2.1.cell
  have c2 := hBW.2.2.cell
  have l0 := hBW.1.lt
  have l1 := hBW.2.1.lt
  have l2 := hBW.2.2.lt
  refine callsIn_of_wp Try.func66 rfl trivial ?_ rfl
  simp only [Try.ntmps66, List.size_toArray, List.length_cons, List.length_nil, Nat.reduceAdd, Nat.reduceSub, Array.replicate_succ, Array.replicate_zero, List.push_toArray, List.append_toArray, List.nil_append, List.cons_append]
  gi_wp2_with (first
    | (refine ⟨trivial, ?_⟩; gi_at_call 67; refine (callsIn_wide.2 (HH.out _)).mono ?_; rintro e w1 ⟨rfl, hb1⟩; have c11 := (hb1.cell (p := ⟨B + 1, 0, none⟩) l1).trans c1; have hB1 := hBW.kept (Sq.Kept.of_below (T := fun _ => True) hb1) (fun _ _ _ => trivial))
    | (refine ⟨trivial, ?_⟩; gi_at_call 68; refine (callsIn_wide.2 (HR.out _)).mono ?_; rintro e w2 ⟨rfl, rfl⟩))
  have hJ1 := hJ _ _ _ _ _ h0 (Sq.Step.below hb1)
  gi_loopw [5, 12] (fun hv iv wr => ∃ (q : Nat) (h : Int) (pre : List Int), q ≤ k ∧ hv = .int .u64 h ∧ iv = .int .i64 (q : Int) ∧ (0 ≤ h ∧ h < 18446744073709551616) ∧ Hid (L = pre ++ placesGo (k - q) h D m) ∧ J (fun _ => False) pre wr ∧ PBox wr B key k m)
    (fun _ i _ => k - (intOf i).toNat)
  case atStart => exact ⟨0, H, [], Nat.zero_le _, rfl, rfl, ⟨hH0, hH1⟩, HP, hJ1, hB1⟩
  case round =>
    obtain ⟨q, h, pre, hq, rfl, rfl, ⟨hh0, hh1⟩, hpre, hJs, hb⟩ := hrel
    have x2 := hb.2.2.cell
    by_cases hlt : q < k
    · have hi1 : (q : Int) < (k : Int) := by omega
      have HL := Lib.hid (show L = (pre ++ [h % m]) ++ placesGo (k - (q + 1)) (IntKind.u64.wrap (h + D)) D m by
        rw [hpre.out, show k - q = (k - (q + 1)) + 1 by omega, placesGo, List.append_assoc]; rfl)
      have HSP := Lib.hid (show pre ++ [h % m] <+: L from ⟨_, HL.out.symm⟩)
      obtain ⟨fn, tmps, assign, body, hy, hR⟩ := hY (fun _ => False) pre (h % m) wr hJs (fun k h => h.elim) HSP.out
      have HRR := Lib.hid hR
      clear hR hpre
      simp only [pEnc] at hy
      gi_wp2
      refine HRR.out.mono ?_
      rintro e W3 (⟨rfl, hJ3, hk3⟩ | ⟨rfl, hJx3, hk3⟩)
      · gi_wp2
        go_roundw
        case rel => exact ⟨q + 1, _, _, by omega, rfl, by go_num, by rw [IntKind.wrap_u64]; omega, HL, hJ3, hb.kept hk3 (fun b h1 h2 => .inr ⟨h1, h2⟩)⟩
        case measure => simp [intOf]; omega
      · gi_wp2
        refine bodyPost_ret (results_none rfl _ _ _) rfl ?_
        exact ⟨⟨_, rfl⟩, .inr ⟨_, _, HSP.out, hJx3⟩⟩
    · obtain rfl : q = k := by omega
      have HE := Lib.hid (show pre = L by rw [hpre.out, Nat.sub_self]; simp [placesGo])
      clear hpre
      gi_wp2
      go_end0
      exact ⟨⟨_, rfl⟩, .inl ⟨_, _, HE.out, hJs⟩⟩
end Bm
end Go.Proofs.Ytiijkneomecmiaa

/-
  Chapter 7, the developers' side: Has.
-/
namespace Go.Proofs.Ytiijkneomecmiaa
open Go.RowKit Go.Shelf
set_option linter.unusedSimpArgs false
set_option linter.unusedVariables false
namespace Bm
attribute [local go_sem] Oper.semAt_some

def hsI (s : List UInt8) (N : Nat) (X0 : World) (R : Sq.Blocks) (pre : List Int) (X : World) : Prop :=
  (∀ x ∈ pre, bitB s x.toNat = true) ∧ (Sq.Kept (fun b => b < N) X0 X ∧ ∀ b, b < N → b < X0.heap.size → ¬ R b)
def hsX (s : List UInt8) (N F : Nat) (X0 : World) (c : Code) (R : Sq.Blocks) (pre : List Int) (X : World) : Prop :=
  (c = .ret ∧ ∃ x ∈ pre, bitB s x.toNat = false) ∧ (Boxed X F 4 (.bool false) ∧ ¬ R F) ∧ (Sq.Kept (fun b => b < F) X0 X ∧ ∀ b, b < F → b < X0.heap.size → ¬ R b)
theorem hsI_steady (s : List UInt8) (N : Nat) (X0 : World) : Sq.Steady (hsI s N X0) := (Sq.Steady.pure _).and (Sq.Steady.kept _ _)
theorem hsX_steady (s : List UInt8) (N F : Nat) (X0 : World) (c : Code) : Sq.Steady (hsX s N F X0 c) := (Sq.Steady.pure _).and ((Sq.Steady.box _ _ _).and (Sq.Steady.kept _ _))

theorem bit_and (s : List UInt8) (i : Nat) (h : 1 + i / 8 < s.length) (h' : 1 + i / 8 < (Cd.bs s).size) : (bits BinOp.and IntKind.u8 ((((Cd.bs s)[1 + i / 8]'h').toNat : Int) / 2 ^ (i % 8)) 1 == 0) = !bitB s i := by
  have e0 : ((Cd.bs s)[1 + i / 8]'h') = s[1 + i / 8] := rfl
  rw [bit_eq s i h, e0]
  have hy := (s[1 + i / 8]).toNat_lt
  generalize s[1 + i / 8].toNat = y at *
  have e1 : ((y : Int) / 2 ^ (i % 8)) = ((y / 2 ^ (i % 8) : Nat) : Int) := by rw [Int.natCast_ediv]; norm_cast
  have hz : y / 2 ^ (i % 8) < 256 := Nat.lt_of_le_of_lt (Nat.div_le_self _ _) hy
  rw [e1]
  generalize y / 2 ^ (i % 8) = z at *
  rw [show (1 : Int) = ((1 : Nat) : Int) from rfl, u8_and_nat z 1 hz (by omega), Nat.and_one_is_mod, Int.tmod_eq_emod_of_nonneg (by omega), Bool.eq_iff_iff]
  simp
  omega

end Bm
end Go.Proofs.Ytiijkneomecmiaa
/-
  Chapter 7, the developers' side: Build.
-/
namespace Go.Proofs.Ytiijkneomecmiaa
open Go.RowKit Go.Shelf
set_option linter.unusedSimpArgs false
set_option linter.unusedVariables false
namespace Bm
attribute [local go_sem] Oper.semAt_some

set_option maxRecDepth 100000 in
set_option maxHeartbeats 4000000 in
theorem build_none (v : Value) (b : Int) (keys : List (List UInt8)) (w : World) (hv : Strs w.heap.size w v keys) (hb : -9223372036854775808 ≤ b ∧ b ≤ 9223372036854775807) (hk : keys.length ≤ 1048576) (h : b < 1 ∨ keys = []) :
    Calls Try.prog 31 #[.int .i64 b, v] w fun e w' => e = .returned (.string (Cd.bs (build b keys))) ∧ Below w.heap.size w w' := by
  obtain ⟨a, cap, fb, fo, rfl, ha, hcells⟩ := hv
  obtain ⟨hb0, hb1⟩ := hb
  have HE := Lib.hid (show build b keys = [] from if_pos h)
  clear hcells ha
  refine (callsIn_wide (n := 12)).1 ?_
  refine callsIn_of_wp_marks Try.func31 rfl trivial ?_ rfl
  refine wpIn_wide.2 ?_
  simp only [Try.ntmps31, List.size_toArray, List.length_cons, List.length_nil, Nat.reduceAdd, Nat.reduceSub, Array.replicate_succ, Array.replicate_zero, List.push_toArray, List.append_toArray, List.nil_append, List.cons_append]
  by_cases h1 : b < 1
  · go_wp2_with fail
    refine Sq.leaves_marks [] _ (by simp) (fun E hE => by cases hE) (fun W' hk' => ⟨_, results_tmp rfl _ _ _, ?_, hk'.below (fun _ _ => by simp) (Nat.le_refl _)⟩)
    rw [HE.out]; rfl
  · obtain rfl : keys = [] := h.resolve_left h1
    go_wp2_with fail
    refine Sq.leaves_marks [] _ (by simp) (fun E hE => by cases hE) (fun W' hk' => ⟨_, results_tmp rfl _ _ _, ?_, hk'.below (fun _ _ => by simp) (Nat.le_refl _)⟩)
    rw [HE.out]; rfl

/-- the body of the first range over a function in a code -/
def rangeBody : Code → Option Code
  | .rangeFunc _ _ _ b => some b
  | .loop c => rangeBody c
  | .seq a b => match rangeBody a with
    | some c => some c
    | none => rangeBody b
  | .block _ c => rangeBody c
  | .scope c => rangeBody c
  | .cond _ a b => match rangeBody a with
    | some c => some c
    | none => rangeBody b
  | _ => none
/-- how far the loop is -/
def qOf43 (a : Act) : Nat := match a.tmps.getD 43 undef with
  | .int _ q => q.toNat
  | _ => 0
def bdI (G N : Nat) (F : List UInt8) (X0 : World) (R : Sq.Blocks) (pre : List Int) (X : World) : Prop :=
  (X.ownsRow G 5 1 (.slice (some ⟨G, 0, none⟩) N N) N (Cd.cs (setAll F pre)) ∧ ∀ g, (Value.slice (some ⟨G, 0, none⟩) N N).ownBlock = some g → ¬ R g) ∧ (Sq.Kept (fun b => b ≠ G) X0 X ∧ ∀ b, b ≠ G → b < X0.heap.size → ¬ R b)
theorem bdI_steady (G N : Nat) (F : List UInt8) (X0 : World) : Sq.Steady (bdI G N F X0) := (Sq.Steady.row _ _ _ _ _ _).and (Sq.Steady.kept _ _)
noncomputable def buildBody : Code := ((Try.f31.body.bind rangeBody).getD .skip)

set_option maxRecDepth 1000000 in
set_option maxHeartbeats 4000000 in
theorem build_body (lr : Nat) (R T : Sq.Blocks) (pre : List Int) (i : Nat) (X X0 : World) (G N Bx : Nat) (F : List UInt8) {v0 v1 v2 v3 v4 v5 v6 v8 v9 v11 v12 v13 v14 v15 v16 v17 v18 v19 v20 v21 v22 v23 v24 v25 v26 v27 v28 v29 v30 v31 v32 v33 v34 v35 v36 v37 v38 v39 v40 v41 v42 v43 v44 v45 v46 v47 v48 v49 v50 v51 v52 v53 v54 v55 v56 v57 v58 v59 v60 v61 v62 v63 v64 v65 v66 : Value}
    (hF : F.length = N) (hN : N ≤ 4194304) (hi : 1 + i / 8 < N) (hGB : G < Bx) (hB0 : Bx < X0.heap.size) (hI : bdI G N F X0 R pre X) (hT : ¬ T G) (hbx : Boxed X0 Bx 48 (.slice (some ⟨G, 0, none⟩) N N)) :
    Code.wpIn (Fence.wide.inRound lr) 10 Try.prog buildBody (Sq.post T (bdI G N F X0) (fun _ _ _ _ => False) R (pre ++ [(i : Int)]) X) { tmps := #[v0, v1, v2, v3, v4, v5, v6, .pointer (some ⟨Bx, 0, none⟩), v8, v9, .int .u64 (i : Int), v11, v12, v13, v14, v15, v16, v17, v18, v19, v20, v21, v22, v23, v24, v25, v26, v27, v28, v29, v30, v31, v32, v33, v34, v35, v36, v37, v38, v39, v40, v41, v42, v43, v44, v45, v46, v47, v48, v49, v50, v51, v52, v53, v54, v55, v56, v57, v58, v59, v60, v61, v62, v63, v64, v65, v66], defers := [] } X := by
  conv => arg 4; whnf
  obtain ⟨⟨hrow, hnr⟩, hk, hnk⟩ := hI
  have hnG : ¬ R G := hnr G rfl
  have hlG : G < X0.heap.size := by omega
  have hbX := hk.boxed (by omega) hbx
  have hbc := hbX.cell
  have hpl : (setAll F pre).length = N := by rw [setAll_len, hF]
  obtain ⟨p, hp⟩ : ∃ p, p = 1 + i / 8 := ⟨_, rfl⟩
  have hpi : (1 : Int) + (i : Int) / 8 = (p : Int) := by omega
  have hil : p < N := by omega
  have e2 := (hrow.cellAt p (by omega)).trans (cs_get (setAll F pre) p (by omega))
  have f2 := hrow.frozenAt p
  have HST := Lib.hid (fun v => (World.ownsRow.stored hrow p v).1)
  have HSB := Lib.hid (cs_setB (setAll F pre) i)
  rw [← hp] at HSB
  have HSA := Lib.hid (setAll_snoc F pre (i : Int))
  have hi3 : (0 : Int) ≤ (p : Int) ∧ (p : Int) < (N : Int) := by omega
  have HOV := Lib.hid (show bits BinOp.or IntKind.u8 (((setAll F pre).getD p 0).toNat : Int) (2 ^ (i % 8) % 256) = ((orB ((setAll F pre).getD p 0) i).toNat : Int) by
    have := or_val ((setAll F pre).getD p 0) i
    rwa [Nat.min_eq_left (show i % 8 ≤ 8 by omega)] at this)
  have HNR := Lib.hid hnr
  generalize setAll F pre = A at *
  generalize A.getD p 0 = y at *
  clear hp hrow hnr
  gi_wp2_with fail
  refine ⟨Sq.Kept.setCell _ _ (by rintro (h | h); exact hnG h; exact hT h), ⟨?_, HNR.out⟩, hk.trans (Sq.Kept.setCell _ _ (by simp)), hnk⟩
  rw [HSA.out, Int.toNat_natCast, ← HSB.out _ HOV.out]
  exact HST.out _

theorem lt_cell {w : World} {p : Addr} {v : Value} (hc : w.cell? p = some v) : p.block < w.heap.size := by
  obtain ⟨o, ho, _⟩ := cells_of_cell hc
  exact (Array.getElem?_eq_some_iff.1 ho).1

set_option maxRecDepth 100000 in
set_option maxHeartbeats 4000000 in
theorem buildOk : BuildOk := by
  intro v b keys w hv hb hk hkl
  by_cases h12 : b < 1 ∨ keys = []
  · exact build_none v b keys w hv hb hk h12
  obtain ⟨a, cap, fb, fo, rfl, ha, hcells⟩ := hv
  have HC := Lib.hid hcells
  clear hcells
  obtain ⟨hb0, hb1⟩ := hb
  obtain ⟨i0, hi, hz0, hz1, hz2⟩ := info_parts info_u8
  have h1 : ¬ b < 1 := fun h => h12 (.inl h)
  have h2 : ¬ keys.length = 0 := fun h => h12 (.inr (List.eq_nil_of_length_eq_zero h))
  have hbd : build b keys = fill (kOf b) (8 * (bytesOf b keys.length : Nat)) (UInt8.ofNat (kOf b) :: List.replicate (bytesOf b keys.length) 0) keys := if_neg h12
  have h2b : ((keys.length : Int) == 0) = false := by simpa using fun h => h2 (by rw [h]; rfl)
  have HE := Lib.hid hbd
  have hkk := kOf_in b
  obtain ⟨k, hkd⟩ : ∃ k, kOf b = k := ⟨_, rfl⟩
  obtain ⟨n, hnd⟩ : ∃ n, bytesOf b keys.length = n := ⟨_, rfl⟩
  obtain ⟨b2, hb2⟩ : ∃ b2, min b 20 = b2 := ⟨_, rfl⟩
  have hb2i : 1 ≤ b2 ∧ b2 ≤ 20 := by omega
  have hk2 : max (b2 * 69 / 100) 1 = (k : Int) := by rw [← hkd, ← hb2]; unfold kOf; omega
  obtain ⟨b3, hb3⟩ : ∃ b3, b2 * (keys.length : Int) = b3 := ⟨_, rfl⟩
  have hb3i : 0 ≤ b3 ∧ b3 ≤ 20971520 := by
    have q1 : b2 * (keys.length : Int) ≤ 20 * (keys.length : Int) := Int.mul_le_mul_of_nonneg_right hb2i.2 (by omega)
    have q2 : 0 ≤ b2 * (keys.length : Int) := Int.mul_nonneg (by omega) (by omega)
    omega
  have hn2 : (((max b3 64).toNat + 7) / 8 : Nat) = n := by rw [← hnd, ← hb3, ← hb2]; rfl
  obtain ⟨b4, hb4⟩ : ∃ b4, (b3 + 8 - 1) / 8 = b4 := ⟨_, rfl⟩
  have hb5 : max b4 8 = (n : Int) := by omega
  have hn0 : 8 ≤ n ∧ n ≤ 2621440 := by omega
  have hw1 : IntKind.u64.wrap b2 = b2 := by rw [IntKind.wrap_u64]; omega
  have hw2 : IntKind.u64.wrap (keys.length : Int) = (keys.length : Int) := by rw [IntKind.wrap_u64]; omega
  have hw3 : IntKind.u64.wrap b3 = b3 := by rw [IntKind.wrap_u64]; omega
  have hw4 : IntKind.u64.wrap (1 + (n : Int)) = 1 + (n : Int) := by rw [IntKind.wrap_u64]; omega
  have hkc : IntKind.u8.wrap (k : Int) = (k : Int) := by rw [IntKind.wrap_u8]; omega
  rw [hkd, hnd] at HE
  rw [hkd] at hkk
  clear hbd hkd hnd h12
  refine (callsIn_wide (n := 12)).1 ?_
  refine callsIn_of_wp_marks Try.func31 rfl trivial ?_ rfl
  refine wpIn_wide.2 ?_
  simp only [Try.ntmps31, List.size_toArray, List.length_cons, List.length_nil, Nat.reduceAdd, Nat.reduceSub, Array.replicate_succ, Array.replicate_zero, List.push_toArray, List.append_toArray, List.nil_append, List.cons_append]
  go_wp2_with (refine wpList_make_full _ (by rfl) _ _ 48 (by rfl) w.heap.size 5 i0 (.int .u8 0) 1 Try.underlying48 hi hz0 hz1 .u64 .u64 (1 + (n : Int)) (1 + (n : Int)) (1 + n) (by rfl) (by rfl) (by omega) (by omega) (by rw [hz2]; omega) (by unfold maxLen; omega) (Nat.le_refl _) ?_; intro w1 hown hgrow; rw [made_u8] at hown; have hc0 := (hown.cellAt 0 (by omega)).trans (cs_get (List.replicate (1 + n) 0) 0 (by simp; omega)); have hf0 := hown.frozenAt 0; have hst := (World.ownsRow.stored hown 0 (.int .u8 (k : Int))).1; rw [cs_set0 n k (by omega)] at hst; have hbw1 := (Below.refl _ _).grown hgrow (Nat.le_refl _) (fun k hk => by cases hk); have hl1 : w.heap.size < w1.heap.size := lt_cell hc0; have hc1 : (w1.alloc (.cells #[.slice (some ⟨w.heap.size, 0, none⟩) (1 + n) (1 + n)] 48)).cell? ⟨w.heap.size, 0, none⟩ = some (.int .u8 (((List.replicate (1 + n) (0 : UInt8)).getD 0 0).toNat : Int)) := (World.cell?_alloc_past _ _ _ hl1).trans hc0; have hf1 : (w1.alloc (.cells #[.slice (some ⟨w.heap.size, 0, none⟩) (1 + n) (1 + n)] 48)).frozen? ⟨w.heap.size, 0, none⟩ = false := (World.frozen?_alloc_past _ _ _ hl1).trans hf0)
  obtain ⟨Bx, hBx⟩ : ∃ Bx, w1.heap.size = Bx := ⟨_, rfl⟩
  obtain ⟨N, hN⟩ : ∃ N, 1 + n = N := ⟨_, rfl⟩
  obtain ⟨L0, hL0⟩ : ∃ L0, L0 = UInt8.ofNat k :: List.replicate n 0 := ⟨_, rfl⟩
  have hL0l : L0.length = N := by rw [hL0]; simp; omega
  rw [← hL0] at HE hst
  rw [hN] at hst
  obtain ⟨w2, hw2⟩ : ∃ w2, (w1.setCell ⟨w.heap.size, 0, none⟩ (.int .u8 (k : Int))).alloc (.cells #[.slice (some ⟨w.heap.size, 0, none⟩) N N] 48) = w2 := ⟨_, rfl⟩
  have hb2w : Below w.heap.size w w2 := by rw [← hw2]; exact (hbw1.setCell (p := ⟨w.heap.size, 0, none⟩) (Nat.le_refl _) _).alloc (by simp; omega) _
  have hrow2 : w2.ownsRow w.heap.size 5 1 (.slice (some ⟨w.heap.size, 0, none⟩) N N) N (Cd.cs L0) := by rw [← hw2]; exact hst.alloc _
  have hbox2 : Boxed w2 Bx 48 (.slice (some ⟨w.heap.size, 0, none⟩) N N) := by
    rw [← hw2]; have := Boxed.new (w1.setCell ⟨w.heap.size, 0, none⟩ (.int .u8 (k : Int))) 48 (.slice (some ⟨w.heap.size, 0, none⟩) N N); rw [World.size_setCell, hBx] at this; exact this
  have hGB : w.heap.size < Bx := by omega
  rw [hN, hBx, hw2]
  clear hst hbw1 hc0 hf0 hc1 hf1 hw2 hgrow hown hl1 hL0 hBx
  refine (wpIn_wide (n := 12)).1 ?_
  refine wpIn_loop (fun a' wr => ∃ (q : Nat) (Ds : List Nat) (u0 u1 u2 u3 u4 u8 u9 u10 u11 u12 u13 u14 u15 u16 u17 u18 u19 u20 u21 u22 u23 u24 u25 u26 u27 u28 u29 u30 u31 u32 u33 u34 u35 u36 u37 u38 u39 u40 u44 u45 u46 u47 u48 u49 u50 u51 u52 u53 u54 u55 u56 u57 u58 u59 u60 u61 u62 u63 u64 u65 u66 : Value), q ≤ keys.length ∧ wr.ownsRow w.heap.size 5 1 (.slice (some ⟨w.heap.size, 0, none⟩) N N) N (Cd.cs (fill k (8 * (n : Int)) L0 (keys.take q))) ∧ Boxed wr Bx 48 (.slice (some ⟨w.heap.size, 0, none⟩) N N) ∧ Below w.heap.size w wr ∧ Ds.Nodup ∧ (∀ D ∈ Ds, Bx < D ∧ wr.heap[D]? = some (.deferred (some []))) ∧
      a' = { tmps := #[u0, u1, u2, u3, u4, .int .i64 (k : Int), .int .u64 (n : Int), .pointer (some ⟨Bx, 0, none⟩), u8, u9, u10, u11, u12, u13, u14, u15, u16, u17, u18, u19, u20, u21, u22, u23, u24, u25, u26, u27, u28, u29, u30, u31, u32, u33, u34, u35, u36, u37, u38, u39, u40, .slice a keys.length cap, .int .i64 (keys.length : Int), .int .i64 (q : Int), u44, u45, u46, u47, u48, u49, u50, u51, u52, u53, u54, u55, u56, u57, u58, u59, u60, u61, u62, u63, u64, u65, u66], defers := Ds.map Sq.mark })
    (fun a' wr => keys.length - qOf43 a') ?start ?round
  case start =>
    exact ⟨0, [], _, _, _, _, _, _, _, _, _, _, _, _, _, _, _, _, _, _, _, _, _, _, _, _, _, _, _, _, _, _, _, _, _, _, _, _, _, _, _, _, _, _, _, _, _, _, _, _, _, _, _, _, _, _, _, _, _, _, _, _, _, Nat.zero_le _, hrow2, hbox2, hb2w, List.nodup_nil, fun _ h => by simp at h, rfl⟩
  case round =>
    rintro a' wr ⟨q, Ds, u0, u1, u2, u3, u4, u8, u9, u10, u11, u12, u13, u14, u15, u16, u17, u18, u19, u20, u21, u22, u23, u24, u25, u26, u27, u28, u29, u30, u31, u32, u33, u34, u35, u36, u37, u38, u39, u40, u44, u45, u46, u47, u48, u49, u50, u51, u52, u53, u54, u55, u56, u57, u58, u59, u60, u61, u62, u63, u64, u65, u66, hq, hrow, hbx, hB, hnd, hds, rfl⟩
    have hbs := hB.size
    have hbc := hbx.cell
    by_cases hlt : q < keys.length
    · obtain ⟨rfl, hfb⟩ := ha (by omega)
      have e0 := (hB.cell (p := ⟨fb, fo + q, none⟩) hfb).trans (HC.out q hlt)
      have hi1 : (0 : Int) ≤ (q : Int) ∧ (q : Int) < (keys.length : Int) := by omega
      have hxl := hkl keys[q] (List.getElem_mem hlt)
      have HT := Lib.hid (show fill k (8 * (n : Int)) L0 (keys.take (q + 1)) = setAll (fill k (8 * (n : Int)) L0 (keys.take q)) (places keys[q] k (8 * (n : Int))) by rw [List.take_succ_eq_append_getElem hlt, fill_snoc])
      have hfl := fill_len k (8 * (n : Int)) (keys.take q) L0
      rw [hL0l] at hfl
      have HI := Lib.hid (placesGo_in keys[q] k (8 * (n : Int)) (by omega))
      have HSQ := Lib.hid (fun B X (hB : PBox X B keys[q] k (8 * (n : Int))) => places1_seq 11 (by omega) keys[q] k (8 * (n : Int)) (by omega) (by omega) (by omega) B X hB)
      have hw8 : IntKind.u64.wrap ((n : Int) * 8) = 8 * (n : Int) := by rw [IntKind.wrap_u64]; omega
      generalize fill k (8 * (n : Int)) L0 (keys.take q) = F at *
      generalize places keys[q] k (8 * (n : Int)) = L at *
      generalize keys[q] = key at *
      have HR := Lib.hid hrow
      have HD := Lib.hid hds
      clear hrow hds
      gi_wp2_with (refine ⟨trivial, ?_⟩; gi_at_call 54; refine (placesDev_in _ _ _ _ _).mono ?_; rintro e w' ⟨rfl, rfl⟩)
      have bP := placesW_box wr key k (8 * (n : Int))
      have kP := placesW_kept wr key k (8 * (n : Int)) (fun _ => True)
      have sP := placesW_size wr key k (8 * (n : Int))
      generalize placesW wr key k (8 * (n : Int)) = X0 at *
      have rP := Sq.row_kept HR.out kP (fun _ _ => trivial)
      have xP := kP.boxed trivial hbx
      have lB := hbx.lt
      refine Sq.wp_range rfl (by omega) (gf := 66) (lb := #[.pointer (some ⟨wr.heap.size, 0, none⟩), .pointer (some ⟨wr.heap.size + 1, 0, none⟩), .pointer (some ⟨wr.heap.size + 2, 0, none⟩)]) rfl trivial (enters_of Try.func66 (by kernel_rfl) rfl)
        (HSQ.out wr.heap.size X0 bP) (by intro b hb; omega) (fun _ => rfl)
        (bdI w.heap.size N F X0) (fun c R pre X => False)
        (fun a' x R pre X => bdI w.heap.size N F X0 R pre X ∧
          a' = { tmps := #[u0, u1, u2, u3, u4, .int .i64 (k : Int), .int .u64 (n : Int), .pointer (some ⟨Bx, 0, none⟩), u8, .string (Cd.bs key), .int .u64 x, u11, u12, u13, u14, u15, u16, u17, u18, u19, u20, u21, u22, u23, u24, u25, u26, u27, u28, u29, u30, u31, u32, u33, u34, u35, u36, u37, u38, u39, u40, .slice (some ⟨fb, fo, none⟩) keys.length cap, .int .i64 (keys.length : Int), .int .i64 (q : Int), .bool true, .pointer (some ⟨fb, fo + q, none⟩), .string (Cd.bs key), .string (Cd.bs key), .int .i64 (k : Int), .int .u64 (n : Int), .int .u64 (8 * (n : Int)), placesV wr.heap.size, .int .u64 x, u53, u54, u55, u56, u57, u58, u59, u60, u61, u62, u63, u64, u65, u66], defers := [] })
        (bdI_steady _ _ _ _) (fun c => Sq.Steady.no) (fun a' x => (bdI_steady _ _ _ _).and (fun _ _ _ _ _ hs _ => hs))
        ⟨⟨rP, fun _ _ h => h⟩, Sq.Kept.refl _ _, fun _ _ _ h => h⟩ ?assign ?body ?done ?stop
      case assign =>
        intro lp R pre x X hbd hsp hi
        gi_wp2
        exact ⟨Sq.Kept.refl _ _, hi, by first | rfl | trivial⟩
      case body =>
        rintro lp R pre x a' X hRl hrec hbd hsp ⟨hI, rfl⟩
        have hx := HI.out x (hsp.subset (by simp))
        obtain ⟨i, rfl⟩ := Int.eq_ofNat_of_zero_le hx.1
        exact build_body lp R _ pre i X X0 w.heap.size N Bx F hfl (by omega) (by omega) hGB (by omega) hI (by omega) xP
      case done =>
        rintro D R ys X hD hRD rfl ⟨⟨hrow, hnr⟩, hk, hnk⟩ hdf
        gi_wp2_with fail
        have xX := hk.boxed (by omega) xP
        have hszX := hk.size
        refine ⟨⟨q + 1, D :: Ds, _, _, _, _, _, _, _, _, _, _, _, _, _, _, _, _, _, _, _, _, _, _, _, _, _, _, _, _, _, _, _, _, _, _, _, _, _, _, _, _, _, _, _, _, _, _, _, _, _, _, _, _, _, _, _, _, _, _, _, _, _, by omega, by rw [HT.out]; exact hrow, xX, ?_, ?_, ?_, rfl⟩, ?_⟩
        · exact (hB.trans (kP.below (fun _ _ => trivial) hbs)).trans (hk.below (fun b hb => by omega) (by omega))
        · exact List.nodup_cons.2 ⟨fun h => by have := (Array.getElem?_eq_some_iff.1 (HD.out D h).2).1; omega, hnd⟩
        · intro E hE
          rcases List.mem_cons.1 hE with rfl | hE
          · exact ⟨by omega, hdf⟩
          · have h1 := HD.out E hE
            exact ⟨h1.1, (hk.block E (by omega) (Nat.lt_of_lt_of_le (Array.getElem?_eq_some_iff.1 h1.2).1 kP.size)).trans ((kP.block E trivial (Array.getElem?_eq_some_iff.1 h1.2).1).trans h1.2)⟩
        · simp [qOf43]; omega
      case stop =>
        intro D R c pre X _ _ _ h _
        exact h.elim
    · obtain rfl : q = keys.length := by omega
      rw [List.take_length] at hrow
      have hcv := conv_any (l := fill k (8 * (n : Int)) L0 keys) (by rw [fill_len, hL0l]; exact hrow)
      have HDS := Lib.hid hds
      clear hds
      gi_wp2_with fail
      go_wp2_with fail
      refine Sq.leaves_marks Ds _ hnd (fun D hD => (HDS.out D hD).2) (fun W' hk' => ⟨_, results_tmp rfl _ _ _, ?_, hB.trans (hk'.below (fun b hb h => by have := (HDS.out _ h).1; omega) hbs)⟩)
      rw [HE.out]; rfl
end Bm
end Go.Proofs.Ytiijkneomecmiaa

/-
  The program's frames and spans of a list's blocks: what lies where while they are put together.
-/
namespace Go.Proofs.Ytiijkneomecmiaa
open Go.RowKit Go.Shelf
set_option linter.unusedSimpArgs false
set_option linter.unusedVariables false
namespace Tb
open Mt (Ver mayB lessB placeB VerIn verV)
open Vs (Vers At)
open Bo (Bd Md)

/-- two builders and two counts, apart from the blocks of R and of T -/
structure Stt (R T : Sq.Blocks) (b6 b7 b8 b9 : Nat) (D S : List UInt8) (m seen : Nat) (W : World) : Prop where
  ex : ∃ S6 p6 a6 c6 S7 p7 a7 c7, Bd S6 W b6 p6 a6 c6 D ∧ Bd S7 W b7 p7 a7 c7 S ∧ (∀ k, S6 k → ¬ S7 k) ∧ (∀ k, S6 k ∨ S7 k → k ≠ b8 ∧ k ≠ b9 ∧ ¬ R k ∧ ¬ T k)
  x8 : Boxed W b8 3 (.int .i64 (m : Int))
  x9 : Boxed W b9 3 (.int .i64 (seen : Int))
  r8 : ¬ R b8 ∧ ¬ T b8
  r9 : ¬ R b9 ∧ ¬ T b9
  ne : b8 ≠ b9
  tl : ∀ k, T k → k < W.heap.size
variable {R T : Sq.Blocks} {b6 b7 b8 b9 : Nat} {D S : List UInt8} {m seen : Nat} {W : World}
theorem Stt.below {W' : World} (h : Stt R T b6 b7 b8 b9 D S m seen W) (hb : Below W.heap.size W W') : Stt R T b6 b7 b8 b9 D S m seen W' := by
  obtain ⟨S6, p6, a6, c6, S7, p7, a7, c7, h6, h7, hd, hn⟩ := h.ex
  exact ⟨⟨S6, p6, a6, c6, S7, p7, a7, c7, h6.below hb, h7.below hb, hd, hn⟩, (Sq.Kept.of_below (T := fun _ => True) hb).boxed trivial h.x8, (Sq.Kept.of_below (T := fun _ => True) hb).boxed trivial h.x9, h.r8, h.r9, h.ne, fun k hk => Nat.lt_of_lt_of_le (h.tl k hk) hb.size⟩
theorem stt_steady {β : Type} (f : β → List UInt8 × List UInt8 × Nat × Nat) (T : Sq.Blocks) (b6 b7 b8 b9 : Nat) : Sq.Steady (fun R (s : β) W => Stt R T b6 b7 b8 b9 (f s).1 (f s).2.1 (f s).2.2.1 (f s).2.2.2 W) := by
  intro R R' s W W' h st
  obtain ⟨S6, p6, a6, c6, S7, p7, a7, c7, h6, h7, hd, hn⟩ := h.ex
  have k6 := fun k (hk : S6 k) => (hn k (.inl hk)).2.2.1
  have k7 := fun k (hk : S7 k) => (hn k (.inr hk)).2.2.1
  obtain ⟨x8, r8⟩ := Sq.step_obj st h.x8 h.r8.1
  obtain ⟨x9, r9⟩ := Sq.step_obj st h.x9 h.r9.1
  refine ⟨⟨S6, p6, a6, c6, S7, p7, a7, c7, h6.kept st.kept k6, h7.kept st.kept k7, hd, fun k hk => ?_⟩, x8, x9, ⟨r8, h.r8.2⟩, ⟨r9, h.r9.2⟩, h.ne, fun k hk => Nat.lt_of_lt_of_le (h.tl k hk) st.kept.size⟩
  obtain ⟨q1, q2, q3, q4⟩ := hn k hk
  exact ⟨q1, q2, Sq.step_not st (by rcases hk with hk | hk; exact h6.lo k hk; exact h7.lo k hk) q3, q4⟩

theorem Stt.write7 (h : Stt R T b6 b7 b8 b9 D S m seen W) (hR : ∀ k, R k → k < W.heap.size) (s S2 : List UInt8) (hS2 : S2 = S ++ s) (hlen : S.length + s.length ≤ 140737488355328) :
    Calls Try.prog 52 #[.pointer (some ⟨b7, 0, none⟩), .string (Cd.bs s)] W fun e w' => e = .returned (.tuple #[.int .i64 (s.length : Nat), .nilIface]) ∧ Stt R T b6 b7 b8 b9 D S2 m seen w' ∧ Sq.Kept (fun k => R k ∨ T k) W w' := by
  obtain ⟨S6, p6, a6, c6, S7, p7, a7, c7, h6, h7, hd, hn⟩ := h.ex
  refine (Bo.writeString_own h7 s S2 hS2 hlen).mono ?_
  rintro e w' ⟨rfl, S7', p7', a7', c7', k7, st⟩
  have l8 := h.x8.lt
  have l9 := h.x9.lt
  have n8 : ¬ S7 b8 := fun hk => (hn b8 (.inr hk)).1 rfl
  have n9 : ¬ S7 b9 := fun hk => (hn b9 (.inr hk)).2.1 rfl
  refine ⟨rfl, ⟨⟨S6, p6, a6, c6, S7', p7', a7', c7', h6.kept st.kept (fun k hk => hd k hk), k7, fun k hk hk' => ?_, fun k hk => ?_⟩, st.kept.boxed n8 h.x8, st.kept.boxed n9 h.x9, h.r8, h.r9, h.ne, fun k hk => Nat.lt_of_lt_of_le (h.tl k hk) st.kept.size⟩, st.kept.less fun k hk _ hs => ?_⟩
  · rcases st.new k hk' with e | e
    · exact hd k hk e
    · have := h6.lo k hk; omega
  · rcases hk with hk | hk
    · exact hn k (.inl hk)
    · rcases st.new k hk with e | e
      · exact hn k (.inr e)
      · exact ⟨by omega, by omega, fun hr => by have := hR k hr; omega, fun ht => by have := h.tl k ht; omega⟩
  · obtain ⟨_, _, q3, q4⟩ := hn k (.inr hs)
    rcases hk with hk | hk
    · exact q3 hk
    · exact q4 hk
theorem Stt.write6 (h : Stt R T b6 b7 b8 b9 D S m seen W) (hR : ∀ k, R k → k < W.heap.size) (s D2 : List UInt8) (hD2 : D2 = D ++ s) (hlen : D.length + s.length ≤ 140737488355328) :
    Calls Try.prog 52 #[.pointer (some ⟨b6, 0, none⟩), .string (Cd.bs s)] W fun e w' => e = .returned (.tuple #[.int .i64 (s.length : Nat), .nilIface]) ∧ Stt R T b6 b7 b8 b9 D2 S m seen w' ∧ Sq.Kept (fun k => R k ∨ T k) W w' := by
  obtain ⟨S6, p6, a6, c6, S7, p7, a7, c7, h6, h7, hd, hn⟩ := h.ex
  refine (Bo.writeString_own h6 s D2 hD2 hlen).mono ?_
  rintro e w' ⟨rfl, S6', p6', a6', c6', k6, st⟩
  have l8 := h.x8.lt
  have l9 := h.x9.lt
  have n8 : ¬ S6 b8 := fun hk => (hn b8 (.inl hk)).1 rfl
  have n9 : ¬ S6 b9 := fun hk => (hn b9 (.inl hk)).2.1 rfl
  refine ⟨rfl, ⟨⟨S6', p6', a6', c6', S7, p7, a7, c7, k6, h7.kept st.kept (fun k hk hs => hd k hs hk), fun k hk hk' => ?_, fun k hk => ?_⟩, st.kept.boxed n8 h.x8, st.kept.boxed n9 h.x9, h.r8, h.r9, h.ne, fun k hk => Nat.lt_of_lt_of_le (h.tl k hk) st.kept.size⟩, st.kept.less fun k hk _ hs => ?_⟩
  · rcases st.new k hk with e | e
    · exact hd k e hk'
    · have := h7.lo k hk'; omega
  · rcases hk with hk | hk
    · rcases st.new k hk with e | e
      · exact hn k (.inl e)
      · exact ⟨by omega, by omega, fun hr => by have := hR k hr; omega, fun ht => by have := h.tl k ht; omega⟩
    · exact hn k (.inr hk)
  · obtain ⟨_, _, q3, q4⟩ := hn k (.inl hs)
    rcases hk with hk | hk
    · exact q3 hk
    · exact q4 hk
theorem Stt.len6 (h : Stt R T b6 b7 b8 b9 D S m seen W) :
    Calls Try.prog 51 #[.pointer (some ⟨b6, 0, none⟩)] W fun e w' => e = .returned (.int .i64 (D.length : Nat)) ∧ W = w' := by
  obtain ⟨S6, p6, a6, c6, S7, p7, a7, c7, h6, h7, hd, hn⟩ := h.ex
  exact Bo.len_own h6
theorem Stt.set8 (h : Stt R T b6 b7 b8 b9 D S m seen W) (M : Int) (m2 : Nat) (hM : M = m2) : Stt R T b6 b7 b8 b9 D S m2 seen (W.setCell ⟨b8, 0, none⟩ (.int .i64 M)) ∧ Sq.Kept (fun k => R k ∨ T k) W (W.setCell ⟨b8, 0, none⟩ (.int .i64 M)) := by
  subst hM
  obtain ⟨S6, p6, a6, c6, S7, p7, a7, c7, h6, h7, hd, hn⟩ := h.ex
  have hk : Sq.Kept (fun k => k ≠ b8) W (W.setCell ⟨b8, 0, none⟩ (.int .i64 (m2 : Int))) := Sq.Kept.setCell _ _ (by simp)
  refine ⟨⟨⟨S6, p6, a6, c6, S7, p7, a7, c7, h6.kept hk (fun k hs => (hn k (.inl hs)).1), h7.kept hk (fun k hs => (hn k (.inr hs)).1), hd, hn⟩, h.x8.set _, hk.boxed (Ne.symm h.ne) h.x9, h.r8, h.r9, h.ne, fun k hk' => Nat.lt_of_lt_of_le (h.tl k hk') hk.size⟩, Sq.Kept.setCell _ _ (by rintro (e | e); exact h.r8.1 e; exact h.r8.2 e)⟩
theorem Stt.set9 (h : Stt R T b6 b7 b8 b9 D S m seen W) (M : Int) (s2 : Nat) (hM : M = s2) : Stt R T b6 b7 b8 b9 D S m s2 (W.setCell ⟨b9, 0, none⟩ (.int .i64 M)) ∧ Sq.Kept (fun k => R k ∨ T k) W (W.setCell ⟨b9, 0, none⟩ (.int .i64 M)) := by
  subst hM
  obtain ⟨S6, p6, a6, c6, S7, p7, a7, c7, h6, h7, hd, hn⟩ := h.ex
  have hk : Sq.Kept (fun k => k ≠ b9) W (W.setCell ⟨b9, 0, none⟩ (.int .i64 (s2 : Int))) := Sq.Kept.setCell _ _ (by simp)
  refine ⟨⟨⟨S6, p6, a6, c6, S7, p7, a7, c7, h6.kept hk (fun k hs => (hn k (.inl hs)).2.1), h7.kept hk (fun k hs => (hn k (.inr hs)).2.1), hd, hn⟩, hk.boxed h.ne h.x8, h.x9.set _, h.r8, h.r9, h.ne, fun k hk' => Nat.lt_of_lt_of_le (h.tl k hk') hk.size⟩, Sq.Kept.setCell _ _ (by rintro (e | e); exact h.r9.1 e; exact h.r9.2 e)⟩
theorem Stt.cells (h : Stt R T b6 b7 b8 b9 D S m seen W) : W.cell? ⟨b8, 0, none⟩ = some (.int .i64 (m : Int)) ∧ W.cell? ⟨b9, 0, none⟩ = some (.int .i64 (seen : Int)) ∧ W.frozen? ⟨b8, 0, none⟩ = false ∧ W.frozen? ⟨b9, 0, none⟩ = false ∧ b8 < W.heap.size ∧ b9 < W.heap.size :=
  ⟨h.x8.cell, h.x9.cell, h.x8.frozen, h.x9.frozen, h.x8.lt, h.x9.lt⟩
/-- a block that is laid is kept as well -/
theorem Stt.more (h : Stt R T b6 b7 b8 b9 D S m seen W) (o : Go.Obj) : Stt R (fun k => T k ∨ k = W.heap.size) b6 b7 b8 b9 D S m seen (W.alloc o) := by
  have hw := h.below ((Below.refl _ _).alloc (Nat.le_refl _) o)
  obtain ⟨S6, p6, a6, c6, S7, p7, a7, c7, h6, h7, hd, hn⟩ := h.ex
  have l8 := h.x8.lt
  have l9 := h.x9.lt
  have hb := (Below.refl W.heap.size W).alloc (Nat.le_refl _) o
  refine ⟨⟨S6, p6, a6, c6, S7, p7, a7, c7, h6.below hb, h7.below hb, hd, fun k hk => ?_⟩, hw.x8, hw.x9, ⟨h.r8.1, ?_⟩, ⟨h.r9.1, ?_⟩, h.ne, fun k hk => ?_⟩
  · obtain ⟨q1, q2, q3, q4⟩ := hn k hk
    refine ⟨q1, q2, q3, ?_⟩
    rintro (e | e)
    · exact q4 e
    · have : k < W.heap.size := by rcases hk with hk | hk; exact h6.lo k hk; exact h7.lo k hk
      omega
  · rintro (e | e); exact h.r8.2 e; omega
  · rintro (e | e); exact h.r9.2 e; omega
  · rcases hk with hk | hk
    · exact hw.tl k hk
    · simp; omega
theorem Stt.less {T' : Sq.Blocks} (h : Stt R T' b6 b7 b8 b9 D S m seen W) (hT : ∀ k, T k → T' k) : Stt R T b6 b7 b8 b9 D S m seen W := by
  obtain ⟨S6, p6, a6, c6, S7, p7, a7, c7, h6, h7, hd, hn⟩ := h.ex
  exact ⟨⟨S6, p6, a6, c6, S7, p7, a7, c7, h6, h7, hd, fun k hk => let ⟨q1, q2, q3, q4⟩ := hn k hk; ⟨q1, q2, q3, fun ht => q4 (hT k ht)⟩⟩, h.x8, h.x9, ⟨h.r8.1, fun ht => h.r8.2 (hT _ ht)⟩, ⟨h.r9.1, fun ht => h.r9.2 (hT _ ht)⟩, h.ne, fun k hk => h.tl k (hT k hk)⟩
end Tb
end Go.Proofs.Ytiijkneomecmiaa

/-
  The program's frames and spans of a list's blocks: one block more (the body of the range in table.putBlocks).
-/
namespace Go.Proofs.Ytiijkneomecmiaa
open Go.RowKit Go.Shelf
set_option linter.unusedSimpArgs false
set_option linter.unusedVariables false
namespace Tb
open Mt (Ver mayB lessB placeB VerIn verV)
open Vs (Vers At)
open Bo (Bd Md)
attribute [local go_sem] Oper.semAt_some

noncomputable def spanBody : Code := ((Try.f30.body.bind Bm.rangeBody).getD .skip)

set_option maxRecDepth 1000000 in
set_option maxHeartbeats 2000000 in
theorem span_body (lr : Nat) (R T : Sq.Blocks) (pre : List (Nat × List UInt8)) (x : Nat × List UInt8) (I : Sq.Blocks → List (Nat × List UInt8) → World → Prop) (Ix : Code → Sq.Blocks → List (Nat × List UInt8) → World → Prop)
    (bl b6 b7 b8 b9 : Nat) (D S : List UInt8) (m seen s2 : Nat) (X : World) (L : List Ver) (p : Nat × Nat) (a : Option Addr) (cap fb fo : Nat) {v0 v1 v2 v4 v5 v12 v13 v14 v15 v16 v17 v18 v19 v20 v21 v22 v23 v24 v25 v26 v27 v28 v29 v30 v31 v32 v33 v34 v35 v36 v37 v38 v39 v40 v41 v42 v43 v44 v45 v46 v47 v48 v49 v50 v51 v52 v53 v54 v55 v56 v57 : Value}
    (h : Stt R T b6 b7 b8 b9 D S m seen X) (hR : ∀ k, R k → k < X.heap.size) (hbx : Boxed X bl 31 (.slice a L.length cap)) (hTl : T bl) (ha : a = some ⟨fb, fo, none⟩ ∧ T fb) (hcells : ∀ j (h : j < L.length), At X fb (fo + j * 4) L[j])
    (hm : ∀ y ∈ L, mayB y = true) (hL : L.length ≤ 1048576) (hs2 : s2 = seen + p.2) (h1 : 1 ≤ s2) (h2 : s2 ≤ L.length) (hmm : m ≤ 1048576) (hD : D.length ≤ 17592186044416) (hS : S.length ≤ 17592186044416)
    (hI : ∀ W', Stt R T b6 b7 b8 b9 (D ++ dataF L p) (S ++ (Cd.putU D.length ++ Cd.putU (dataF L p).length ++ Cd.putU p.2 ++ Cd.putT (encKey (L.getD (s2 - 1) ver0)))) (m + 1) s2 W' → Sq.Kept (fun k => R k ∨ T k) X W' → I R (pre ++ [x]) W') :
    Code.wpIn (Fence.wide.inRound lr) 10 Try.prog spanBody (Sq.post T I Ix R (pre ++ [x]) X) { tmps := #[v0, v1, v2, .pointer (some ⟨bl, 0, none⟩), v4, v5, .pointer (some ⟨b6, 0, none⟩), .pointer (some ⟨b7, 0, none⟩), .pointer (some ⟨b8, 0, none⟩), .pointer (some ⟨b9, 0, none⟩), .int .i64 (p.2 : Int), .string (Cd.bs (blk (part L p))), v12, v13, v14, v15, v16, v17, v18, v19, v20, v21, v22, v23, v24, v25, v26, v27, v28, v29, v30, v31, v32, v33, v34, v35, v36, v37, v38, v39, v40, v41, v42, v43, v44, v45, v46, v47, v48, v49, v50, v51, v52, v53, v54, v55, v56, v57], defers := [] } X := by
  conv => arg 4; whnf
  obtain ⟨rfl, hTf⟩ := ha
  have hpl := part_len L p
  have hld : (blk (part L p)).length ≤ 17592186044416 := by
    have := blk_len (L := part L p) (fun y hy => (may_seq (hm y (part_mem hy))).2.2.2.2.1)
    have : (part L p).length ≤ L.length := by unfold part; simp; omega
    omega
  have hfl : (dataF L p).length ≤ 17592186044416 := by
    have := frame_len 3 (blk (part L p))
    have hb : (blk (part L p)).length ≤ 17512267776 := by
      have := blk_len (L := part L p) (fun y hy => (may_seq (hm y (part_mem hy))).2.2.2.2.1)
      have : (part L p).length ≤ L.length := by unfold part; simp; omega
      omega
    unfold dataF
    omega
  have HP := Lib.hid (fun W => putF_any 3 3 rfl (blk (part L p)) W (by omega))
  rw [show (Fr.put 3 (blk (part L p))).1 = dataF L p from rfl] at HP
  generalize dataF L p = f at *
  generalize blk (part L p) = ld at *
  have H0 := Lib.hid h
  have HI := Lib.hid hI
  obtain ⟨k8, k9, fk8, fk9, lk8, lk9⟩ := h.cells
  clear h hI
  gi_wp2_with (refine ⟨trivial, ?_⟩; gi_at_call 33; refine (CallsIn.inRound lr (callsIn_wide.2 (HP.out _))).mono ?_; rintro e w1 ⟨rfl, hb1⟩; have H1 := Lib.hid (H0.out.below hb1); obtain ⟨c8, c9, fc8, fc9, lc8, lc9⟩ := H1.out.cells)
  have hR1 : ∀ k, R k → k < w1.heap.size := fun k hk => Nat.lt_of_lt_of_le (hR k hk) hb1.size
  have HR1 := Lib.hid hR1
  have HS2 := Lib.hid hs2
  have hne : ¬ b8 = b9 := H0.out.ne
  have hne2 : ¬ b9 = b8 := fun e => hne e.symm
  have hb89 : seen ≤ 1048576 ∧ p.2 ≤ 1048576 := by omega
  obtain ⟨hsb, hpb⟩ := hb89
  have mixed : Try.prog.follows .mixedOrders = true := by kernel_rfl
  have hT8 := H1.out.set8 (IntKind.i64.wrap ((m : Int) + 1)) (m + 1) (by rw [IntKind.wrap_i64]; omega)
  have hT9 := hT8.1.set9 (IntKind.i64.wrap ((seen : Int) + (p.2 : Int))) s2 (by rw [IntKind.wrap_i64]; omega)
  have HT := Lib.hid (show Stt R T b6 b7 b8 b9 D S (m + 1) s2 _ ∧ Sq.Kept (fun k => R k ∨ T k) w1 _ from ⟨hT9.1.below (Below.refl _ _).drew, (hT8.2.trans hT9.2).trans (Sq.Kept.drew _ _)⟩)
  have HB1 := Lib.hid hb1
  clear hs2 hR1 k8 k9 fk8 fk9 hb1 hR hT8 hT9
  gi_cut [] from 22 (fun wx => Stt R T b6 b7 b8 b9 D S (m + 1) s2 wx ∧ Sq.Kept (fun k => R k ∨ T k) w1 wx)
  case first =>
    gi_region_o
    all_goals (try gi_wp2_with fail)
    all_goals gi_meet
    all_goals exact HT.out
  case rest =>
    obtain ⟨h2, hk2⟩ := hcut
    have H2 := Lib.hid h2
    have HK2 := Lib.hid hk2
    have hR2 : Hid (∀ k, R k → k < wc.heap.size) := fun k hk => Nat.lt_of_lt_of_le (HR1.out k hk) hk2.size
    obtain ⟨d8, d9, fd8, fd9, ld8, ld9⟩ := h2.cells
    clear h2 hk2 c8 c9 fc8 fc9 lc8 lc9
    have HLN := Lib.hid (fun W (h : Stt R T b6 b7 b8 b9 D S (m + 1) s2 W) => h.len6)
    have HP1 := Lib.hid (fun W => putUc_at (D.length : Int) D.length W rfl (by omega))
    have HP2 := Lib.hid (fun W => putUc_at (f.length : Int) f.length W rfl (by omega))
    have HP3 := Lib.hid (fun W => putUc_at (p.2 : Int) p.2 W rfl (by omega))
    have l1 := Cd.putU_len10 D.length (by omega)
    have l2 := Cd.putU_len10 f.length (by omega)
    have l3 := Cd.putU_len10 p.2 (by omega)
    have hlt : s2 - 1 < L.length := by omega
    have hmay := hm L[s2 - 1] (List.getElem_mem hlt)
    have HE := Lib.hid (fun W => encKeyOk L[s2 - 1] W (may_len hmay))
    have hel := enc_len L[s2 - 1]
    have HT := Lib.hid (fun W => putTc_at (encKey L[s2 - 1]) W (by omega))
    have l4 := putT_len (encKey L[s2 - 1]) (by omega)
    rw [getD_at hlt] at HI
    have HC := Lib.hid (hcells (s2 - 1) hlt)
    have hw1 : IntKind.u64.wrap (D.length : Int) = (D.length : Int) := Cd.wrapU_nat (by omega)
    have hw2 : IntKind.u64.wrap (f.length : Int) = (f.length : Int) := Cd.wrapU_nat (by omega)
    have hw3 : IntKind.u64.wrap (p.2 : Int) = (p.2 : Int) := Cd.wrapU_nat (by omega)
    generalize L[s2 - 1] = y at *
    generalize encKey y = ek at *
    generalize Cd.putT ek = tk at *
    generalize Cd.putU D.length = u1 at *
    generalize Cd.putU f.length = u2 at *
    generalize Cd.putU p.2 = u3 at *
    gi_wp2_with (refine ⟨trivial, ?_⟩; gi_at_call 51; refine (CallsIn.inRound lr (callsIn_wide.2 (HLN.out _ H2.out))).mono ?_; rintro e w2 ⟨rfl, rfl⟩)
    have H3 := Lib.hid (H2.out.more (.cells #[.int .i64 (D.length : Int), .int .i64 (f.length : Int), .int .i64 (p.2 : Int)] 3))
    have hO3 := Ob.Obj.new wc 3 [.int .i64 (D.length : Int), .int .i64 (f.length : Int), .int .i64 (p.2 : Int)]
    have HO3 := Lib.hid hO3
    have HKA := Lib.hid (Sq.Kept.alloc (fun k => R k ∨ T k) wc (.cells #[.int .i64 (D.length : Int), .int .i64 (f.length : Int), .int .i64 (p.2 : Int)] 3))
    obtain ⟨wA, hwA⟩ : ∃ wA, wc.alloc (.cells #[.int .i64 (D.length : Int), .int .i64 (f.length : Int), .int .i64 (p.2 : Int)] 3) = wA := ⟨_, rfl⟩
    have hza : wA.heap.size = wc.heap.size + 1 := by rw [← hwA]; simp
    change Hid (Ob.Obj (wc.alloc (.cells #[.int .i64 (D.length : Int), .int .i64 (f.length : Int), .int .i64 (p.2 : Int)] 3)) _ _ _) at HO3
    rw [hwA] at H3 HO3 HKA ⊢
    have HR3 : Hid (∀ k, R k → k < wA.heap.size) := fun k hk => by have := hR2.out k hk; omega
    have ga0 := HO3.out.cell 0
    have ga1 := HO3.out.cell 1
    have ga2 := HO3.out.cell 2
    simp at ga0 ga1 ga2
    have gl := HO3.out.lt
    obtain ⟨S1, hS1⟩ : ∃ S1, S1 = S ++ u1 := ⟨_, rfl⟩
    obtain ⟨S2, hS2⟩ : ∃ S2, S2 = S1 ++ u2 := ⟨_, rfl⟩
    obtain ⟨S3, hS3⟩ : ∃ S3, S3 = S2 ++ u3 := ⟨_, rfl⟩
    obtain ⟨S4, hS4⟩ : ∃ S4, S4 = S3 ++ tk := ⟨_, rfl⟩
    obtain ⟨D4, hD4⟩ : ∃ D4, D4 = D ++ f := ⟨_, rfl⟩
    have e1 : S1.length = S.length + u1.length := by rw [hS1, List.length_append]
    have e2 : S2.length = S1.length + u2.length := by rw [hS2, List.length_append]
    have e3 : S3.length = S2.length + u3.length := by rw [hS3, List.length_append]
    have n1 : S.length + u1.length ≤ 140737488355328 := by omega
    have n2 : S1.length + u2.length ≤ 140737488355328 := by omega
    have n3 : S2.length + u3.length ≤ 140737488355328 := by omega
    have n4 : S3.length + tk.length ≤ 140737488355328 := by omega
    have n5 : D.length + f.length ≤ 140737488355328 := by omega
    have HSS := Lib.hid (show S4 = S ++ (u1 ++ u2 ++ u3 ++ tk) by rw [hS4, hS3, hS2, hS1]; simp)
    have HS1 := Lib.hid hS1
    have HS2' := Lib.hid hS2
    have HS3 := Lib.hid hS3
    have HS4 := Lib.hid hS4
    have HD4 := Lib.hid hD4
    have hgn : wc.heap.size < wA.heap.size := by omega
    clear hwA hO3 hS1 hS2 hS3 hS4 hD4 e1 e2 e3 hza
    obtain ⟨g, hg⟩ : ∃ g, wc.heap.size = g := ⟨_, rfl⟩
    rw [hg] at H3 HO3 ga0 ga1 ga2 gl hgn ⊢
    refine wpIn_loop_rounds 4 ?_
    rw [roundsIn_succ]
    gi_wp2_with (first
      | (refine ⟨trivial, ?_⟩; gi_at_call 47; refine (CallsIn.inRound lr (callsIn_wide.2 (HP1.out _))).mono ?_; rintro e wy1 ⟨rfl, hby1⟩; have HY1 := Lib.hid hby1; have HZ1 := Lib.hid (H3.out.below hby1); have HRY1 : Hid (∀ k, R k → k < wy1.heap.size) := fun k hk => Nat.lt_of_lt_of_le (HR3.out k hk) hby1.size; have HOY1 := Lib.hid (HO3.out.below hby1); clear hby1)
      | (refine ⟨trivial, ?_⟩; gi_at_call 52; refine (CallsIn.inRound lr (callsIn_wide.2 (HZ1.out.write7 HRY1.out u1 S1 HS1.out n1))).mono ?_; rintro e wx1 ⟨rfl, hst1, hkt1⟩; have HA1 := Lib.hid hst1; have HK1 := Lib.hid hkt1; have HR1x : Hid (∀ k, R k → k < wx1.heap.size) := fun k hk => Nat.lt_of_lt_of_le (HRY1.out k hk) hkt1.size; have HO1 := Lib.hid (HOY1.out.kept hkt1 (.inr (.inr rfl))); have oc1 := HO1.out; have z0 := oc1.cell 0; have z1 := oc1.cell 1; have z2 := oc1.cell 2; simp at z0 z1 z2; have zl := oc1.lt; clear oc1 hst1 hkt1))
    rw [roundsIn_succ]
    gi_wp2_with (first
      | (refine ⟨trivial, ?_⟩; gi_at_call 47; refine (CallsIn.inRound lr (callsIn_wide.2 (HP2.out _))).mono ?_; rintro e wy2 ⟨rfl, hby2⟩; have HY2 := Lib.hid hby2; have HZ2 := Lib.hid (HA1.out.below hby2); have HRY2 : Hid (∀ k, R k → k < wy2.heap.size) := fun k hk => Nat.lt_of_lt_of_le (HR1x.out k hk) hby2.size; have HOY2 := Lib.hid (HO1.out.below hby2); clear hby2)
      | (refine ⟨trivial, ?_⟩; gi_at_call 52; refine (CallsIn.inRound lr (callsIn_wide.2 (HZ2.out.write7 HRY2.out u2 S2 HS2'.out n2))).mono ?_; rintro e wx2 ⟨rfl, hst2, hkt2⟩; have HA2 := Lib.hid hst2; have HK2y := Lib.hid hkt2; have HR2y : Hid (∀ k, R k → k < wx2.heap.size) := fun k hk => Nat.lt_of_lt_of_le (HRY2.out k hk) hkt2.size; have HO2 := Lib.hid (HOY2.out.kept hkt2 (.inr (.inr rfl))); have oc2 := HO2.out; have z0 := oc2.cell 0; have z1 := oc2.cell 1; have z2 := oc2.cell 2; simp at z0 z1 z2; have zl := oc2.lt; clear oc2 hst2 hkt2))
    rw [roundsIn_succ]
    gi_wp2_with (first
      | (refine ⟨trivial, ?_⟩; gi_at_call 47; refine (CallsIn.inRound lr (callsIn_wide.2 (HP3.out _))).mono ?_; rintro e wy3 ⟨rfl, hby3⟩; have HY3 := Lib.hid hby3; have HZ3 := Lib.hid (HA2.out.below hby3); have HRY3 : Hid (∀ k, R k → k < wy3.heap.size) := fun k hk => Nat.lt_of_lt_of_le (HR2y.out k hk) hby3.size; have HOY3 := Lib.hid (HO2.out.below hby3); clear hby3)
      | (refine ⟨trivial, ?_⟩; gi_at_call 52; refine (CallsIn.inRound lr (callsIn_wide.2 (HZ3.out.write7 HRY3.out u3 S3 HS3.out n3))).mono ?_; rintro e wx3 ⟨rfl, hst3, hkt3⟩; have HA3 := Lib.hid hst3; have HK3 := Lib.hid hkt3; have HR3y : Hid (∀ k, R k → k < wx3.heap.size) := fun k hk => Nat.lt_of_lt_of_le (HRY3.out k hk) hkt3.size; have HO3 := Lib.hid (HOY3.out.kept hkt3 (.inr (.inr rfl))); have oc3 := HO3.out; have z0 := oc3.cell 0; have z1 := oc3.cell 1; have z2 := oc3.cell 2; simp at z0 z1 z2; have zl := oc3.lt; clear oc3 hst3 hkt3))
    have hTT : ∀ k, R k ∨ T k → R k ∨ (T k ∨ k = g) := fun k hk => hk.imp id .inl
    have HKX := Lib.hid (show Sq.Kept (fun k => R k ∨ T k) X wx3 from
      (((((((((Sq.Kept.of_below HB1.out).trans HK2.out).trans HKA.out).trans (Sq.Kept.of_below HY1.out)).trans (HK1.out.less fun k hk _ => hTT k hk)).trans (Sq.Kept.of_below HY2.out)).trans (HK2y.out.less fun k hk _ => hTT k hk)).trans (Sq.Kept.of_below HY3.out)).trans (HK3.out.less fun k hk _ => hTT k hk)))
    have H4 := Lib.hid (HA3.out.less (T := T) (fun k hk => .inl hk))
    have hbl := HKX.out.boxed (.inr hTl) hbx
    obtain ⟨q0, q1, q2, q3⟩ := At.kept HC.out HKX.out (.inr hTf)
    have hbc := hbl.cell
    have hbll := hbl.lt
    obtain ⟨_, x9, _, _, _, xl9⟩ := H4.out.cells
    have hfbl : fb < wx3.heap.size := by
      obtain ⟨o, ho, _⟩ := cells_of_cell q0
      exact (Array.getElem?_eq_some_iff.1 ho).1
    have hi2 : IntKind.i64.wrap ((s2 : Int) - 1) = (s2 : Int) - 1 := by rw [IntKind.wrap_i64]; omega
    have hi3 : (0 : Int) ≤ (s2 : Int) - 1 ∧ (s2 : Int) - 1 < (L.length : Int) := by omega
    have hi4 : ((s2 : Int) - 1).toNat = s2 - 1 := by omega
    clear hbl hTT
    have tok7 : Hid True := trivial
    obtain ⟨k, sq, d, val⟩ := y
    unfold verV at HE
    simp only at HE q0 q1 q2 q3
    rw [roundsIn_succ]
    gi_wp2_with (first
      | (refine ⟨trivial, ?_⟩; gi_at_call 6; refine (CallsIn.inRound lr (callsIn_wide.2 (HE.out _))).mono ?_; rintro e wy4 ⟨rfl, hby4⟩; have HY4 := Lib.hid hby4; have HZ4 := Lib.hid (H4.out.below hby4); have HRY4 : Hid (∀ k, R k → k < wy4.heap.size) := fun k hk => Nat.lt_of_lt_of_le (HR3y.out k hk) hby4.size; clear hby4)
      | (refine ⟨trivial, ?_⟩; gi_at_call 48; refine (CallsIn.inRound lr (callsIn_wide.2 (HT.out _))).mono ?_; rintro e wy5 ⟨rfl, hby5⟩; have HY5 := Lib.hid hby5; have HZ5 := Lib.hid (HZ4.out.below hby5); have HRY5 : Hid (∀ k, R k → k < wy5.heap.size) := fun k hk => Nat.lt_of_lt_of_le (HRY4.out k hk) hby5.size; clear hby5)
      | (have _t := tok7; clear _t tok7; refine ⟨trivial, ?_⟩; gi_at_call 52; refine (CallsIn.inRound lr (callsIn_wide.2 (HZ5.out.write7 HRY5.out tk S4 HS4.out n4))).mono ?_; rintro e wx4 ⟨rfl, hst4, hkt4⟩; have HA4 := Lib.hid hst4; have HK4 := Lib.hid hkt4; have HR4 : Hid (∀ k, R k → k < wx4.heap.size) := fun k hk => Nat.lt_of_lt_of_le (HRY5.out k hk) hkt4.size; clear hst4 hkt4)
      | (refine ⟨trivial, ?_⟩; gi_at_call 52; refine (CallsIn.inRound lr (callsIn_wide.2 (HA4.out.write6 HR4.out f D4 HD4.out n5))).mono ?_; rintro e wx5 ⟨rfl, hst5, hkt5⟩; have HA5 := Lib.hid hst5; have HK5 := Lib.hid hkt5; clear hst5 hkt5))
    have hkk : Sq.Kept (fun k => R k ∨ T k) X wx5 := (((HKX.out.trans (Sq.Kept.of_below HY4.out)).trans (Sq.Kept.of_below HY5.out)).trans HK4.out).trans HK5.out
    exact ⟨hkk, HI.out wx5 (by rw [← HD4.out, ← HSS.out]; exact HA5.out) hkk⟩
end Tb
end Go.Proofs.Ytiijkneomecmiaa
