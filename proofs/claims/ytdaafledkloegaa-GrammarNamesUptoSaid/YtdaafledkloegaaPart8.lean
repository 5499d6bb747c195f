import Derived.Deep.QuietTactic
import Derived.BigQuiet
import Derived.Deep.Cut
import Derived.Deep.CutRange
import Derived.Deep.DeepCutAuto
import Derived.Test.YtdaafledkloegaaPart7
/-
  The document's answers on roots (tapestryref04): May.
-/
namespace Go.Proofs.Ytdaafledkloegaa
open Go.RowKit
set_option linter.unusedSimpArgs false
set_option linter.unusedVariables false

theorem info_bool4 : (Try.prog.info? 4).map (fun i => (i.zero, i.size, i.bytes)) = some (some (.bool false), 1, 1) := by kernel_rfl
theorem made_bool4 (n : Nat) : (madeCells (Value.bool false).cells (n * 1)).toList = List.replicate n (.bool false) := by
  rw [show (Value.bool false).cells = #[Value.bool false] from rfl, Nat.mul_one, toList_madeCells_one]

namespace Fi
theorem blocksGo_more {n b : Int} {l t : List Int} (h : 32 ≤ b ∧ b < n ∧ b ∉ t) : blocksGo n (b :: l) t = blocksGo n l (b :: t) := by rw [blocksGo, if_pos h]
theorem blocksGo_bad {n b : Int} {l t : List Int} (h : ¬ (32 ≤ b ∧ b < n ∧ b ∉ t)) : blocksGo n (b :: l) t = none := by rw [blocksGo, if_neg h]
theorem mayGo_bad {n : Int} {f : File} {r : List File} {p : Option Dat} {t : List Int} (h : headB p f = false) : mayGo n (f :: r) p t = false := by rw [mayGo, h]; rfl
theorem mayGo_none {n : Int} {f : File} {r : List File} {p : Option Dat} {t : List Int} (h : blocksGo n f.blocks t = none) : mayGo n (f :: r) p t = false := by rw [mayGo, h]; simp
theorem mayGo_some {n : Int} {f : File} {r : List File} {p : Option Dat} {t t' : List Int} (h : headB p f = true) (hb : blocksGo n f.blocks t = some t') : mayGo n (f :: r) p t = mayGo n r (some f.name) t' := by rw [mayGo, h, hb]; rfl
/-- why a head is refused -/
theorem head_cases (p : Option Dat) (f : File) : (headB p f = false ∧ nameB f.name = false) ∨ (headB p f = false ∧ nameB f.name = true ∧ prevB p f.name = false) ∨
    (nameB f.name = true ∧ prevB p f.name = true ∧ ((headB p f = false ∧ f.size < 0) ∨ (headB p f = false ∧ 0 ≤ f.size ∧ (f.blocks.length : Int) ≠ takes f.size) ∨ (headB p f = true ∧ 0 ≤ f.size ∧ (f.blocks.length : Int) = takes f.size))) := by
  unfold headB
  cases hn : nameB f.name
  · exact .inl ⟨rfl, rfl⟩
  · cases hq : prevB p f.name
    · exact .inr (.inl ⟨rfl, rfl, rfl⟩)
    · refine .inr (.inr ⟨rfl, rfl, ?_⟩)
      by_cases h0 : 0 ≤ f.size
      · by_cases h1 : (f.blocks.length : Int) = takes f.size
        · exact .inr (.inr ⟨by simp [h0, h1], h0, h1⟩)
        · exact .inr (.inl ⟨by simp [h0, h1], h0, h1⟩)
      · exact .inl ⟨by simp [h0], by omega⟩
end Fi

end Go.Proofs.Ytdaafledkloegaa
/-
  The law GrammarNames, over what the program owes.
-/
namespace Go.Proofs.Ytdaafledkloegaa
open Go.RowKit
set_option linter.unusedSimpArgs false
set_option linter.unusedVariables false
namespace Gr
open Ev (Evt EvIn EvsIn hasB validB command closing zero fields Evs AtE evC evV W64 ecs)

theorem infob15 : (Try.prog.info? 4).map (fun i => (i.zero, i.size, i.bytes)) = some (some (.bool false), 1, 1) := by kernel_rfl
theorem row_whole15 {W : World} {base g n : Nat} {e : TypeId} {xs : List Value} (h : W.ownsRow base e 1 (.slice (some ⟨g, 0, none⟩) n n) n xs) : Ob.Obj W g e xs := by
  rcases h.2 with ⟨h1, _⟩ | ⟨g', cap', cur, h1, _, h3, _, _, h6, h7⟩
  · simp at h1
  · simp at h1
    obtain ⟨rfl, rfl⟩ := h1
    have : cur.toList = xs := by rw [← h7, List.take_of_length_le (by simp [h6])]
    show W.heap[g]? = _
    rw [h3, ← this]
def bC (bs : List Bool) : List Value := bs.map .bool
theorem bC_set (bs : List Bool) (j : Nat) (b : Bool) : (bC bs).set j (.bool b) = bC (bs.set j b) := by simp [bC, List.map_set]
theorem mem_openN {H : List Evt} {n x : Nat} : x ∈ openN H n ↔ x < n ∧ openB H x = true := by simp [openN]
/-- which places the first so many of a list have marked -/
def Marked (P : List Nat) (q n : Nat) (bs : List Bool) : Prop := bs.length = n ∧ ∀ j, j < n → bs[j]? = some (decide (j ∈ P.take q))
theorem marked_zero (P : List Nat) (n : Nat) : Marked P 0 n (List.replicate n false) := ⟨List.length_replicate, fun j hj => by simp [hj]⟩
theorem marked_succ {P : List Nat} {q n : Nat} {bs : List Bool} (h : Marked P q n bs) (hq : q < P.length) (hx : P[q] < n) : Marked P (q + 1) n (bs.set P[q] true) := by
  refine ⟨by rw [List.length_set]; exact h.1, fun j hj => ?_⟩
  rw [List.take_succ_eq_append_getElem hq, List.getElem?_set]
  by_cases e : P[q] = j
  · rw [if_pos e, if_pos (by rw [h.1]; omega)]; simp [e]
  · rw [if_neg e, h.2 j hj]
    congr 1
    simp only [List.mem_append, List.mem_singleton]
    by_cases hm : j ∈ P.take q
    · simp [hm]
    · have : ¬ j = P[q] := fun h => e h.symm
      simp [hm, this]

theorem ends_four (ki kk : Int) : (endsOf ki).contains kk = ((((ki == 3) && ((kk == 6) || (decide (22 ≤ kk) && decide (kk ≤ 24)))) || ((ki == 4) && ((kk == 7) || (kk == 25)))) || ((ki == 5) && ((kk == 27) || (kk == 28))) || ((ki == 21) && ((kk == 13) || (kk == 14)))) := by
  unfold endsOf
  by_cases h3 : ki = 3
  · subst h3
    rw [Bool.eq_iff_iff]; simp; omega
  · by_cases h4 : ki = 4
    · subst h4
      rw [Bool.eq_iff_iff]; simp
    · by_cases h5 : ki = 5
      · subst h5
        rw [Bool.eq_iff_iff]; simp
      · by_cases h6 : ki = 21
        · subst h6
          rw [Bool.eq_iff_iff]; simp
        · simp [h3, h4, h5, h6]

theorem endsN_le (H : List Evt) (i : Nat) : ∀ n, endsN H i n ≤ n
  | 0 => Nat.le_refl _
  | n + 1 => by
    have := endsN_le H i n
    rw [endsN]
    by_cases h : endB H i n = true
    · rw [if_pos h]; omega
    · rw [if_neg h]; omega

set_option maxRecDepth 100000 in
set_option maxHeartbeats 16000000 in
theorem grammarNames_walk (hC : CheckOk) (hO : OpenOk) (hK : CloseOk) (hv : Value) (H : List Evt) (w : World) (hr : Room hv) (hE : EvsIn w hv H) :
    Calls Try.prog 6 #[hv] w fun e w' => e = .returned (.bool true) ∧ Below w.heap.size w w' := by
  obtain ⟨i0, hi, hz0, hz1, hz2⟩ := info_parts infob15
  obtain ⟨hEv, hLI, hLl⟩ := hE
  have HS := Lib.hid (shown_any hC hO hK w)
  have HO := Lib.hid (fun W (hb : Below w.heap.size w W) => hO hv H W hr (hEv.grow hb hb.size) hLI hLl)
  unfold OpnOut at HO
  obtain ⟨a, cap, b, off, rfl, ha, hc⟩ := hEv
  have HA := Lib.hid ha
  have HCC := Lib.hid (fun j (hj : j < H.length) => show AtE w b (off + j * 9) (ev H j) from by rw [ev_at hj]; exact hc j hj)
  clear hC hO hK hLI ha hc hr
  rcases check_cases H with h | ⟨kk, h⟩
  · have hop : opn H = (openN H H.length, 0) := by unfold opn; rw [h]; rfl
    rw [hop] at HO
    have hPl := openN_len H H.length
    have HPM := Lib.hid (fun x (hx : x ∈ openN H H.length) => (mem_openN.1 hx).1)
    have HPD := Lib.hid (fun j (hj : j < H.length) => show decide (j ∈ openN H H.length) = openB H j from by
      cases hb : openB H j with
      | true => simpa using mem_openN.2 ⟨hj, hb⟩
      | false => simp [mem_openN, hb])
    have HOK := Lib.hid (check_ok.1 (show (check H).1 = 0 by rw [h]))
    generalize openN H H.length = P at *
    clear hop h
    simp only at HO
    go_enter Try.func6, Try.ntmps6
    go_wp2_with (first
      | (go_at_call 7; (with_reducible refine HS.out.mono ?_); rintro e w1 ⟨rfl, hb1⟩)
      | (go_at_call 11; (with_reducible refine (HO.out _ hb1).mono ?_); rintro e w2 ⟨va, rfl, hown2, hb2⟩; have hB2 := hb1.trans (hb2.mono hb1.size); have HP2 := Lib.hid hown2; obtain ⟨pa, pcap, rfl, hpg⟩ := Sq.row_cases hown2; have HPG := Lib.hid hpg; clear hown2 hpg)
      | (refine wpList_make_full _ (by rfl) _ _ 39 (by rfl) w2.heap.size 4 i0 (.bool false) 1 Try.underlying39 hi hz0 hz1 .i64 .i64 (H.length : Int) (H.length : Int) H.length (by rfl) (by rfl) rfl rfl (by rw [hz2]; omega) (by unfold maxLen; omega) (Nat.le_refl _) ?_; intro w3 hown3 hgrow3; rw [made_bool4] at hown3; have oB := row_whole15 hown3; have HB3 := Lib.hid (show Below w2.heap.size w2 w3 from (Below.refl _ _).grown hgrow3 (Nat.le_refl _) (fun k hk => by cases hk)); have HOB := Lib.hid oB; clear hown3 hgrow3 oB))
    go_loopw [7] (fun i wr => ∃ (q : Nat) (bs : List Bool), q ≤ P.length ∧ i = .int .i64 (q : Int) ∧ Hid (Marked P q H.length bs) ∧ Hid (Ob.Obj wr w2.heap.size 4 (bC bs)) ∧ Below w2.heap.size w2 wr) (fun i _ => P.length - (intOf i).toNat)
    case atStart => exact ⟨0, _, Nat.zero_le _, rfl, marked_zero P _, by unfold bC; rw [List.map_replicate]; exact HOB.out, HB3.out⟩
    case round =>
      obtain ⟨q, bs, hq, rfl, hmk, hob, hb3⟩ := hrel
      obtain ⟨wo, rfl⟩ : ∃ wo : World, wo = wr := ⟨_, rfl⟩
      by_cases hlt : q < P.length
      · obtain ⟨gp, rfl, _, hgl⟩ := HPG.out (by omega)
        have hx := HPM.out P[q] (List.getElem_mem hlt)
        have e0 : w2.cell? ⟨gp, q, none⟩ = some (.int .i64 (P[q] : Int)) := by
          rw [HP2.out.cellAt q (by omega)]
          simp [iN, hlt]
        have e1 := (hb3.cell (p := ⟨gp, q, none⟩) hgl).trans e0
        have hms := Lib.hid (marked_succ hmk.out hlt hx)
        have hi1 : (0 : Int) ≤ (q : Int) ∧ (q : Int) < (P.length : Int) := by omega
        have hbl := hmk.out.1
        have hcb := hob.out.cell
        have hfb := hob.out.frozen
        have hgb := hob.out.lt
        have HOS := Lib.hid (fun (j : Nat) => hob.out.set j (.bool true))
        obtain ⟨bx, hbx⟩ : ∃ bx, (bC bs)[P[q]]? = some (.bool bx) := ⟨bs[P[q]]'(by omega), by simp [bC, show P[q] < bs.length by omega]⟩
        have hcx := (hcb P[q]).trans hbx
        have hfx := hfb P[q]
        clear hmk hob hcb hfb hbx hbl
        generalize P[q] = x at *
        have hi2 : ¬ ((x : Int) < 0) ∧ (0 : Int) ≤ (x : Int) ∧ (x : Int) < (H.length : Int) := by omega
        clear e0
        go_wp2_with fail
        go_roundw
        case rel => exact ⟨q + 1, bs.set x true, by omega, by go_num, hms, by rw [← bC_set]; exact HOS.out x, hb3.setCell (p := ⟨w2.heap.size, x, none⟩) (Nat.le_refl _) _⟩
        case measure => simp [intOf]; omega
      · obtain rfl : q = P.length := by omega
        have HBS := Lib.hid (fun j (hj : j < H.length) => show wo.cell? ⟨w2.heap.size, j, none⟩ = some (.bool (openB H j)) from by
          rw [hob.out.cell]
          have := hmk.out.2 j hj
          rw [List.take_length, HPD.out j hj] at this
          simp [bC, this])
        have hB3 : Below w.heap.size w wo := hB2.trans (hb3.mono hB2.size)
        have HEV := Lib.hid (fun j (hj : j < H.length) => show AtE wo b (off + j * 9) (ev H j) from (HCC.out j hj).below hB3 (HA.out (by omega)).2)
        clear hmk hob hb3 HCC HPD HPM HO HS
        go_wp2_with fail
        go_loopw [8] (fun i wr => ∃ q : Nat, q ≤ H.length ∧ i = .int .i64 (q : Int) ∧ wo = wr) (fun i _ => H.length - (intOf i).toNat)
        case atStart => exact ⟨0, Nat.zero_le _, rfl, rfl⟩
        case round =>
          obtain ⟨q, hq, rfl, rfl⟩ := hrel
          by_cases hlt : q < H.length
          · obtain ⟨rfl, hbl⟩ := HA.out (by omega)
            have hi1 : (0 : Int) ≤ (q : Int) ∧ (q : Int) < (H.length : Int) := by omega
            have hwi : IntKind.i64.wrap ((q : Int) + 1) = (q : Int) + 1 := by rw [IntKind.wrap_i64]; omega
            have e2 := HEV.out q hlt 2 (by decide)
            have eb := HBS.out q hlt
            have HLE := Lib.hid (ends_le HOK.out q H.length (Nat.le_refl _))
            have HOE := Lib.hid (open_ends (H := H) (i := q))
            have HEB := Lib.hid (fun k => show endB H q k = (decide ((ev H k).a = (q : Int) + 1) && (endsOf (ev H q).kind).contains (ev H k).kind) from rfl)
            generalize openB H q = ob at *
            have hkq : (evC (ev H q))[2]? = some (.int .i64 (ev H q).kind) := rfl
            rw [hkq] at e2
            generalize (ev H q).kind = ki at *
            clear hkq
            go_wp2_with fail
            go_loopw [9, 10] (fun c k wr => ∃ r : Nat, r ≤ H.length ∧ k = .int .i64 (r : Int) ∧ c = .int .i64 (endsN H q r : Int) ∧ wo = wr) (fun _ k _ => H.length - (intOf k).toNat)
            case atStart => exact ⟨0, Nat.zero_le _, rfl, rfl, rfl⟩
            case round =>
              obtain ⟨r, hr, rfl, rfl, rfl⟩ := hrel
              by_cases hlr : r < H.length
              · have hi3 : (0 : Int) ≤ (r : Int) ∧ (r : Int) < (H.length : Int) := by omega
                have f2 := HEV.out r hlr 2 (by decide)
                have f3 := HEV.out r hlr 3 (by decide)
                rw [show (evC (ev H r))[2]? = some (.int .i64 (ev H r).kind) from rfl] at f2
                rw [show (evC (ev H r))[3]? = some (.int .i64 (ev H r).a) from rfl] at f3
                have hel := endsN_le H q r
                have HST := Lib.hid (show endsN H q (r + 1) = endsN H q r + if endB H q r = true then 1 else 0 from rfl)
                have heb := HEB.out r
                generalize endB H q r = eb2 at *
                generalize endsN H q r = n1 at *
                generalize (ev H r).kind = kk at *
                generalize (ev H r).a = ka at *
                have hw1 : IntKind.i64.wrap ((n1 : Int) + 1) = (n1 : Int) + 1 := by rw [IntKind.wrap_i64]; omega
                have hw2 : IntKind.i64.wrap ((r : Int) + 1) = (r : Int) + 1 := by rw [IntKind.wrap_i64]; omega
                clear HLE HOE HEB eb HBS HOK HEV
                rw [ends_four] at heb
                go_upto_region 21 with fail
                go_cut [13] from 78 to 91 (fun v wx => v = .bool ((ki == 3) && ((kk == 6) || (decide (22 ≤ kk) && decide (kk ≤ 24)))) ∧ wo = wx)
                case first =>
                  as_aux_lemma =>
                    clear heb HST
                    rcases Bool.eq_false_or_eq_true (ki == 3) with g | g
                    · rcases Bool.eq_false_or_eq_true (kk == 6) with g2 | g2
                      ·
                        go_wp2_with fail
                        go_meet
                        exact ⟨by first | (simp [g, g2]; done) | (simp [g, g2]; omega), rfl⟩
                      · by_cases g3 : 22 ≤ kk
                        · by_cases g4 : kk ≤ 24
                          ·
                            go_wp2_with fail
                            go_meet
                            exact ⟨by first | (simp [g, g2, g3, g4]; done) | (simp [g, g2, g3, g4]; omega), rfl⟩
                          ·
                            go_wp2_with fail
                            go_meet
                            exact ⟨by first | (simp [g, g2, g3, g4]; done) | (simp [g, g2, g3, g4]; omega), rfl⟩
                        ·
                          go_wp2_with fail
                          go_meet
                          exact ⟨by first | (simp [g, g2, g3]; done) | (simp [g, g2, g3]; omega), rfl⟩
                    ·
                      go_wp2_with fail
                      go_meet
                      exact ⟨by first | (simp [g]; done) | (simp [g]; omega), rfl⟩
                case rest =>
                  obtain ⟨rfl, rfl⟩ := hcut
                  generalize hA0 : ((ki == 3) && ((kk == 6) || (decide (22 ≤ kk) && decide (kk ≤ 24)))) = c0 at *
                  go_upto_region 22 with fail
                  go_cut [14] from 92 to 101 (fun v wx => v = .bool ((ki == 4) && ((kk == 7) || (kk == 25))) ∧ wo = wx)
                  case first =>
                    as_aux_lemma =>
                      clear heb HST
                      rcases Bool.eq_false_or_eq_true (ki == 4) with g | g
                      · rcases Bool.eq_false_or_eq_true (kk == 7) with g2 | g2
                        ·
                          go_wp2_with fail
                          go_meet
                          exact ⟨by first | (simp [g, g2]; done) | (simp [g, g2]; omega), rfl⟩
                        · rcases Bool.eq_false_or_eq_true (kk == 25) with g3 | g3
                          ·
                            go_wp2_with fail
                            go_meet
                            exact ⟨by first | (simp [g, g2, g3]; done) | (simp [g, g2, g3]; omega), rfl⟩
                          ·
                            go_wp2_with fail
                            go_meet
                            exact ⟨by first | (simp [g, g2, g3]; done) | (simp [g, g2, g3]; omega), rfl⟩
                      ·
                        go_wp2_with fail
                        go_meet
                        exact ⟨by first | (simp [g]; done) | (simp [g]; omega), rfl⟩
                  case rest =>
                    obtain ⟨rfl, rfl⟩ := hcut
                    generalize hA1 : ((ki == 4) && ((kk == 7) || (kk == 25))) = c1 at *
                    go_upto_region 23 with fail
                    go_cut [15] from 102 to 111 (fun v wx => v = .bool ((ki == 5) && ((kk == 27) || (kk == 28))) ∧ wo = wx)
                    case first =>
                      as_aux_lemma =>
                        clear heb HST
                        rcases Bool.eq_false_or_eq_true (ki == 5) with g | g
                        · rcases Bool.eq_false_or_eq_true (kk == 27) with g2 | g2
                          ·
                            go_wp2_with fail
                            go_meet
                            exact ⟨by first | (simp [g, g2]; done) | (simp [g, g2]; omega), rfl⟩
                          · rcases Bool.eq_false_or_eq_true (kk == 28) with g3 | g3
                            ·
                              go_wp2_with fail
                              go_meet
                              exact ⟨by first | (simp [g, g2, g3]; done) | (simp [g, g2, g3]; omega), rfl⟩
                            ·
                              go_wp2_with fail
                              go_meet
                              exact ⟨by first | (simp [g, g2, g3]; done) | (simp [g, g2, g3]; omega), rfl⟩
                        ·
                          go_wp2_with fail
                          go_meet
                          exact ⟨by first | (simp [g]; done) | (simp [g]; omega), rfl⟩
                    case rest =>
                      obtain ⟨rfl, rfl⟩ := hcut
                      generalize hA2 : ((ki == 5) && ((kk == 27) || (kk == 28))) = c2 at *
                      go_upto_region 24 with fail
                      go_cut [16] from 112 to 121 (fun v wx => v = .bool ((ki == 21) && ((kk == 13) || (kk == 14))) ∧ wo = wx)
                      case first =>
                        as_aux_lemma =>
                          clear heb HST
                          rcases Bool.eq_false_or_eq_true (ki == 21) with g | g
                          · rcases Bool.eq_false_or_eq_true (kk == 13) with g2 | g2
                            ·
                              go_wp2_with fail
                              go_meet
                              exact ⟨by first | (simp [g, g2]; done) | (simp [g, g2]; omega), rfl⟩
                            · rcases Bool.eq_false_or_eq_true (kk == 14) with g3 | g3
                              ·
                                go_wp2_with fail
                                go_meet
                                exact ⟨by first | (simp [g, g2, g3]; done) | (simp [g, g2, g3]; omega), rfl⟩
                              ·
                                go_wp2_with fail
                                go_meet
                                exact ⟨by first | (simp [g, g2, g3]; done) | (simp [g, g2, g3]; omega), rfl⟩
                          ·
                            go_wp2_with fail
                            go_meet
                            exact ⟨by first | (simp [g]; done) | (simp [g]; omega), rfl⟩
                      case rest =>
                        obtain ⟨rfl, rfl⟩ := hcut
                        generalize hA3 : ((ki == 21) && ((kk == 13) || (kk == 14))) = c3 at *
                        clear hA0 hA1 hA2 hA3
                        obtain ⟨bk, hbk⟩ : ∃ bk, decide (ka = (q : Int) + 1) = bk := ⟨_, rfl⟩
                        rw [hbk] at heb
                        have hkb : (ka == (q : Int) + 1) = bk := by rw [← hbk]; rfl
                        cases bk with
                        | false =>
                          obtain rfl : eb2 = false := by rw [heb]; rfl
                          rw [if_neg (by decide), Nat.add_zero] at HST
                          clear heb hbk
                          as_aux_lemma =>
                            go_wp2_with fail
                            go_roundw
                            case rel => exact ⟨r + 1, by omega, by go_num, by simp [HST.out], by trivial⟩
                            case measure => simp [intOf]; omega
                        | true =>
                          clear hbk
                          cases c0 with
                          | true =>
                            obtain rfl : eb2 = true := by rw [heb]; simp
                            rw [if_pos rfl] at HST
                            clear heb
                            as_aux_lemma =>
                              go_wp2_with fail
                              go_roundw
                              case rel => exact ⟨r + 1, by omega, by go_num, by simp [HST.out], by trivial⟩
                              case measure => simp [intOf]; omega
                          | false =>
                            cases c1 with
                            | true =>
                              obtain rfl : eb2 = true := by rw [heb]; simp
                              rw [if_pos rfl] at HST
                              clear heb
                              as_aux_lemma =>
                                go_wp2_with fail
                                go_roundw
                                case rel => exact ⟨r + 1, by omega, by go_num, by simp [HST.out], by trivial⟩
                                case measure => simp [intOf]; omega
                            | false =>
                              cases c2 with
                              | true =>
                                obtain rfl : eb2 = true := by rw [heb]; simp
                                rw [if_pos rfl] at HST
                                clear heb
                                as_aux_lemma =>
                                  go_wp2_with fail
                                  go_roundw
                                  case rel => exact ⟨r + 1, by omega, by go_num, by simp [HST.out], by trivial⟩
                                  case measure => simp [intOf]; omega
                              | false =>
                                cases c3 with
                                | true =>
                                  obtain rfl : eb2 = true := by rw [heb]; simp
                                  rw [if_pos rfl] at HST
                                  clear heb
                                  as_aux_lemma =>
                                    go_wp2_with fail
                                    go_roundw
                                    case rel => exact ⟨r + 1, by omega, by go_num, by simp [HST.out], by trivial⟩
                                    case measure => simp [intOf]; omega
                                | false =>
                                  obtain rfl : eb2 = false := by rw [heb]; rfl
                                  rw [if_neg (by decide), Nat.add_zero] at HST
                                  clear heb
                                  as_aux_lemma =>
                                    go_wp2_with fail
                                    go_roundw
                                    case rel => exact ⟨r + 1, by omega, by go_num, by simp [HST.out], by trivial⟩
                                    case measure => simp [intOf]; omega
              · obtain rfl : r = H.length := by omega
                have hoe := HOE.out
                have hle := HLE.out
                clear HLE HOE HEB HBS HOK HEV
                generalize endsN H q H.length = en at *
                have h01 : en = 0 ∨ en = 1 := by rcases hle with h | ⟨h, _⟩; exact .inl h; exact .inr h
                clear hle
                rcases h01 with rfl | rfl
                · by_cases h35 : 3 ≤ ki ∧ ki ≤ 5
                  · obtain ⟨h3, h5⟩ := h35
                    obtain rfl : ob = true := by rw [hoe]; simp [awaitedB, h3, h5]
                    clear hoe
                    as_aux_lemma =>
                      go_wp2_with fail
                      go_roundw
                      case rel => exact ⟨q + 1, by omega, by go_num, by trivial⟩
                      case measure => simp [intOf]; omega
                  · by_cases h21 : ki = 21
                    · subst h21
                      obtain rfl : ob = true := by rw [hoe]; simp [awaitedB]
                      clear hoe h35
                      as_aux_lemma =>
                        go_wp2_with fail
                        go_roundw
                        case rel => exact ⟨q + 1, by omega, by go_num, by trivial⟩
                        case measure => simp [intOf]; omega
                    · obtain rfl : ob = false := by rw [hoe]; simp [awaitedB, h21]; try omega
                      clear hoe
                      have q21 : (ki == 21) = false := by simpa using h21
                      by_cases h3 : 3 ≤ ki
                      · have h5 : ¬ ki ≤ 5 := fun h => h35 ⟨h3, h⟩
                        clear h35 h21
                        as_aux_lemma =>
                          go_wp2_with fail
                          go_roundw
                          case rel => exact ⟨q + 1, by omega, by go_num, by trivial⟩
                          case measure => simp [intOf]; omega
                      · clear h35 h21
                        as_aux_lemma =>
                          go_wp2_with fail
                          go_roundw
                          case rel => exact ⟨q + 1, by omega, by go_num, by trivial⟩
                          case measure => simp [intOf]; omega
                · by_cases h35 : 3 ≤ ki ∧ ki ≤ 5
                  · obtain ⟨h3, h5⟩ := h35
                    obtain rfl : ob = false := by rw [hoe]; simp [awaitedB, h3, h5]
                    clear hoe
                    as_aux_lemma =>
                      go_wp2_with fail
                      go_roundw
                      case rel => exact ⟨q + 1, by omega, by go_num, by trivial⟩
                      case measure => simp [intOf]; omega
                  · by_cases h21 : ki = 21
                    · subst h21
                      obtain rfl : ob = false := by rw [hoe]; simp [awaitedB]
                      clear hoe h35
                      as_aux_lemma =>
                        go_wp2_with fail
                        go_roundw
                        case rel => exact ⟨q + 1, by omega, by go_num, by trivial⟩
                        case measure => simp [intOf]; omega
                    · obtain rfl : ob = false := by rw [hoe]; simp [awaitedB, h21]; try omega
                      clear hoe
                      have q21 : (ki == 21) = false := by simpa using h21
                      by_cases h3 : 3 ≤ ki
                      · have h5 : ¬ ki ≤ 5 := fun h => h35 ⟨h3, h⟩
                        clear h35 h21
                        as_aux_lemma =>
                          go_wp2_with fail
                          go_roundw
                          case rel => exact ⟨q + 1, by omega, by go_num, by trivial⟩
                          case measure => simp [intOf]; omega
                      · clear h35 h21
                        as_aux_lemma =>
                          go_wp2_with fail
                          go_roundw
                          case rel => exact ⟨q + 1, by omega, by go_num, by trivial⟩
                          case measure => simp [intOf]; omega
          · obtain rfl : q = H.length := by omega
            go_wp2_with fail
            go_ret
            exact ⟨rfl, hB3⟩
  · have hop : opn H = ([], 52) := by unfold opn; rw [h]; rfl
    rw [hop] at HO
    simp only at HO
    clear hop h
    go_enter Try.func6, Try.ntmps6
    go_wp2_with (first
      | (go_at_call 7; (with_reducible refine HS.out.mono ?_); rintro e w1 ⟨rfl, hb1⟩)
      | (go_at_call 11; (with_reducible refine (HO.out _ hb1).mono ?_); rintro e w2 ⟨va, rfl, hown2, hb2⟩; have hB2 := hb1.trans (hb2.mono hb1.size); obtain ⟨pa, pcap, rfl, _⟩ := Sq.row_cases hown2; clear hown2))
    go_ret
    exact ⟨rfl, hB2⟩

end Gr
end Go.Proofs.Ytdaafledkloegaa

/-
  The law GrammarNames over the landed program.
-/
namespace Go.Proofs.Ytdaafledkloegaa
open Go.RowKit
set_option linter.unusedSimpArgs false
set_option linter.unusedVariables false
namespace Gr
open Ev (Evt EvIn EvsIn Evs)
theorem grammarNames_fr (a : Option Addr) (n cap : Nat) (L : List Evt) (w : World) (hE : EvsK w a n cap L) :
    Calls Try.prog 6 #[.slice a n cap] w fun e w' => e = .returned (.bool true) ∧ Below w.heap.size w w' := grammarNames_walk checkOk openOk closeOk _ L w ⟨_, _, _, rfl, hE.room⟩ hE.evs

end Gr
end Go.Proofs.Ytdaafledkloegaa
