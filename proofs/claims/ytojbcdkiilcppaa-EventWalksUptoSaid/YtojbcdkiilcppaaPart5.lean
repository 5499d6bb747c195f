import Derived.Laws.OwnMore
import Derived.BigRegion
import Derived.Deep.RegionHeld3
import Derived.Shelf.Abstract
import Derived.Shelf.RegionOpen
import Derived.OwnWalkIn
import Derived.TacticsInMore
import Derived.LoopNIn
import Derived.LoopIn
import Derived.Lib.SliceRun
import Derived.Deep.RegionWith
import Derived.Test.YtojbcdkiilcppaaPart4
/-
  The document's answer of P14.3: tapestryref14.Decode.
-/
namespace Go.Proofs.Ytojbcdkiilcppaa
open Go.RowKit
set_option linter.unusedSimpArgs false
set_option linter.unusedVariables false
theorem info_i64e : (Try.prog.info? 2).map (fun i => (i.zero, i.size, i.bytes)) = some (some (.int .i64 0), 1, 8) := by kernel_rfl
namespace Ev
theorem ext_dropE (l : Dat) (k : Nat) : (Cd.bs l).extract k l.length = Cd.bs (l.drop k) := by
  have : ((Cd.bs l).extract k l.length).data.toList = l.drop k := by
    rw [Lib.extract_data]; exact List.take_of_length_le (by simp)
  rw [← this]
/-- the cells of a result of nine -/
def put9 (W : World) (b : Nat) (v0 v1 v2 v3 v4 v5 v6 v7 v8 : Value) : World :=
  ((((((((W.setCell ⟨b, 0, none⟩ v0).setCell ⟨b, 1, none⟩ v1).setCell ⟨b, 2, none⟩ v2).setCell ⟨b, 3, none⟩ v3).setCell ⟨b, 4, none⟩ v4).setCell ⟨b, 5, none⟩ v5).setCell ⟨b, 6, none⟩ v6).setCell ⟨b, 7, none⟩ v7).setCell ⟨b, 8, none⟩ v8
theorem put9_below {B b : Nat} {w W : World} (h : Below B w W) (hb : B ≤ b) (v0 v1 v2 v3 v4 v5 v6 v7 v8 : Value) : Below B w (put9 W b v0 v1 v2 v3 v4 v5 v6 v7 v8) :=
  ((((((((h.setCell (p := ⟨b, 0, none⟩) hb v0).setCell (p := ⟨b, 1, none⟩) hb v1).setCell (p := ⟨b, 2, none⟩) hb v2).setCell (p := ⟨b, 3, none⟩) hb v3).setCell (p := ⟨b, 4, none⟩) hb v4).setCell (p := ⟨b, 5, none⟩) hb v5).setCell (p := ⟨b, 6, none⟩) hb v6).setCell (p := ⟨b, 7, none⟩) hb v7).setCell (p := ⟨b, 8, none⟩) hb v8
def iC (L : List Int) : List Value := L.map fun x => .int .i64 x
def nc (V : List Int) : List Value := [.int .i64 (V.getD 0 0), .int .i64 (V.getD 1 0), .int .i64 (V.getD 2 0), .int .i64 (V.getD 3 0), .int .i64 (V.getD 4 0), .int .i64 (V.getD 5 0)]
theorem nc_set {V : List Int} {q : Nat} (hV : V.length = q) (hq : q < 6) (v : Int) : (nc V).set q (.int .i64 v) = nc (V ++ [v]) := by
  subst hV
  match V, hq with
  | [], _ => rfl
  | [a], _ => rfl
  | [a, b], _ => rfl
  | [a, b, c], _ => rfl
  | [a, b, c, d], _ => rfl
  | [a, b, c, d, e], _ => rfl
  | a :: b :: c :: d :: e :: f :: r, h => simp at h; omega
theorem evV_mk (i t k : Int) (V : List Int) : evV (mk i t k V) = .agg #[.int .i64 i, .int .i64 t, .int .i64 k, .int .i64 (V.getD 0 0), .int .i64 (V.getD 1 0), .int .i64 (V.getD 2 0), .int .i64 (V.getD 3 0), .int .i64 (V.getD 4 0), .int .i64 (V.getD 5 0)] := rfl
theorem evV_zero : evV zero = .agg #[.int .i64 0, .int .i64 0, .int .i64 0, .int .i64 0, .int .i64 0, .int .i64 0, .int .i64 0, .int .i64 0, .int .i64 0] := rfl
/-- what a decoder leaves -/
def DecOut14 (l : Dat) (w : World) (r : Ending) (w' : World) : Prop := r = .returned (.tuple #[evV (dec l).1, .int .i64 ((dec l).2.1 : Nat), .int .i64 ((dec l).2.2 : Nat)]) ∧ Below w.heap.size w w'

set_option maxRecDepth 100000 in
set_option maxHeartbeats 16000000 in
theorem decR_any (l : Dat) (w : World) (hll : l.length ≤ 140737488351232) :
    Calls Try.prog 21 #[.string (Cd.bs l)] w (DecOut14 l w) := by
  obtain ⟨i0, hi0, hz0, hz1, hz2⟩ := info_parts info_i64e
  have hsz : (Cd.bs l).size = l.length := rfl
  have oR := Ob.Obj.new w 26 [.int .i64 0, .int .i64 0, .int .i64 0, .int .i64 0, .int .i64 0, .int .i64 0, .int .i64 0, .int .i64 0, .int .i64 0]
  have hA : Below w.heap.size w (w.alloc (.cells #[.int .i64 0, .int .i64 0, .int .i64 0, .int .i64 0, .int .i64 0, .int .i64 0, .int .i64 0, .int .i64 0, .int .i64 0] 26)) := (Below.refl _ _).alloc (Nat.le_refl _) _
  have HT := Lib.hid (fun p W => taker_any (Cd.bs (l.drop p)) W (by show (l.drop p).length ≤ maxLen; rw [List.length_drop]; unfold maxLen; omega))
  have HTI := Lib.hid (fun p W => takeIr_any (Cd.bs (l.drop p)) W (by show (l.drop p).length ≤ maxLen; rw [List.length_drop]; unfold maxLen; omega))
  go_enter Try.func21, Try.ntmps21
  go_wp2_with fail
  go_loopw [5, 6, 7] (fun v p i wr => ∃ (q : Nat) (L : List Nat) (at' : Nat), q ≤ 3 ∧ i = .int .i64 (q : Int) ∧ p = .int .i64 (at' : Int) ∧ Hid (stg l q = (at', 0) ∧ L = vls l q) ∧ L.length = q ∧ at' ≤ l.length ∧ wr.ownsRow (w.heap.size + 1) 2 1 v L.length (iC (L.map fun n : Nat => (n : Int))) ∧ Ob.Obj wr w.heap.size 26 [.int .i64 0, .int .i64 0, .int .i64 0, .int .i64 0, .int .i64 0, .int .i64 0, .int .i64 0, .int .i64 0, .int .i64 0] ∧ Below w.heap.size w wr) (fun _ _ i _ => 3 - (intOf i).toNat)
  case atStart => exact ⟨0, [], 0, Nat.zero_le _, rfl, rfl, ⟨rfl, rfl⟩, rfl, Nat.zero_le _, World.ownsRow_nil _ _ _ _, oR, hA⟩
  case round =>
    clear oR hA
    obtain ⟨q, L, at', hq, rfl, rfl, hst, hLq, hat, hV, oR, hB⟩ := hrel
    obtain ⟨wo, rfl⟩ : ∃ wo : World, wo = wr := ⟨_, rfl⟩
    have hbs := hB.size
    have hrl := oR.lt
    have hi1 : (0 : Int) ≤ (at' : Int) ∧ (at' : Int) ≤ (l.length : Int) := by omega
    have hx := ext_dropE l at'
    by_cases hlt : q < 3
    · obtain ⟨u1, u2⟩ := stg_step l hlt
      have HT1 := Lib.hid (show ∀ W, Calls Try.prog 39 #[.string (Cd.bs (l.drop at'))] W fun e w' => e = .returned (.tuple #[.int .u64 (Cd.takeU (l.drop at')).1, .int .i64 (Cd.takeU (l.drop at')).2.1, .int .i64 (Cd.takeU (l.drop at')).2.2]) ∧ W = w' from HT.out at')
      obtain ⟨o1, o2, o3, o4⟩ := Cd.takeU_ok (l.drop at')
      rw [List.length_drop] at o3
      obtain ⟨n, k, e, ht⟩ : ∃ n k e, Cd.takeU (l.drop at') = (n, k, e) := ⟨_, _, _, rfl⟩
      have hr := rdV_take ht
      rw [ht] at HT1 o1 o2 o3 o4
      simp only at HT1 o1 o2 o3 o4
      rw [← hst.out.1] at hr
      have hLn := hst.out.2
      have HE := Lib.hid (fun (h : (stg l (q + 1)).2 ≠ 0) => stg_err (by omega) h)
      clear ht o2 HT HTI
      have rc0 := oR.cell 0
      have rc1 := oR.cell 1
      have rc2 := oR.cell 2
      have rc3 := oR.cell 3
      have rc4 := oR.cell 4
      have rc5 := oR.cell 5
      have rc6 := oR.cell 6
      have rc7 := oR.cell 7
      have rc8 := oR.cell 8
      have rf0 := oR.frozen 0
      have rf1 := oR.frozen 1
      have rf2 := oR.frozen 2
      have rf3 := oR.frozen 3
      have rf4 := oR.frozen 4
      have rf5 := oR.frozen 5
      have rf6 := oR.frozen 6
      have rf7 := oR.frozen 7
      have rf8 := oR.frozen 8
      have rz := oR.lt
      simp at rc0 rc1 rc2 rc3 rc4 rc5 rc6 rc7 rc8
      by_cases he : e = 0
      · subst he
        by_cases hn : 4611686018427387904 < n
        · have hni : (n : Int) > 4611686018427387904 := by omega
          rw [if_neg (by simp), if_pos hn] at hr
          have hs : stg l (q + 1) = (at', 54) := by have := u1.symm.trans hr; exact congrArg (·.2) this
          have HD := Lib.hid (show dec l = (zero, 0, 54) by rw [HE.out (by rw [hs]; simp), hs])
          clear u1 u2 hr hs hLn hst HE hn
          go_wp2_with (go_at_call 39; (try rw [hx]); (with_reducible refine (HT1.out _).mono ?_); rintro e w1 ⟨rfl, rfl⟩)
          refine bodyPost_ret (v := .tuple #[.agg #[.int .i64 0, .int .i64 0, .int .i64 0, .int .i64 0, .int .i64 0, .int .i64 0, .int .i64 0, .int .i64 0, .int .i64 0], .int .i64 0, .int .i64 54]) (by simp [results, Try.results21, go_sem, rc0, rc1, rc2, rc3, rc4, rc5, rc6, rc7, rc8, rz]) rfl ?_
          exact ⟨by rw [HD.out, evV_zero]; rfl, put9_below hB (Nat.le_refl _) _ _ _ _ _ _ _ _ _⟩
        · have hni : ¬ (n : Int) > 4611686018427387904 := by omega
          have hwn : IntKind.i64.wrap (n : Int) = (n : Int) := by rw [IntKind.wrap_i64]; omega
          have hwr : IntKind.i64.wrap ((at' : Int) + (k : Int)) = (at' : Int) + (k : Int) := by rw [IntKind.wrap_i64]; omega
          rw [if_neg (by simp), if_neg hn] at hr
          have hs : stg l (q + 1) = (at' + k, 0) := by have := u1.symm.trans hr; exact congrArg (·.2) this
          have hvl : vls l (q + 1) = L ++ [n] := by rw [u2, hr, hLn]
          have HNX := Lib.hid (show stg l (q + 1) = (at' + k, 0) ∧ L ++ [n] = vls l (q + 1) from ⟨hs, hvl.symm⟩)
          clear u1 u2 hr hs hvl hLn hst HE
          have hn1 : L.length + 1 ≤ 4 := by omega
          have oR2 := Lib.hid (oR.alloc (.cells #[.int .i64 (n : Int)] 2))
          have hV2 := Lib.hid (hV.alloc (.cells #[.int .i64 (n : Int)] 2))
          go_wp2_with (first
            | (go_at_call 39; (try rw [hx]); (with_reducible refine (HT1.out _).mono ?_); rintro e w1 ⟨rfl, rfl⟩)
            | (at_builtin; refine wpList_append_own _ rfl _ _ 55 rfl (w.heap.size + 1) 2 i0 (.int .i64 0) 1 8 Try.underlying55 hi0 hz0 hz1 hz2 rfl (by decide) _ _ _ rfl (hV.alloc _) ⟨wo.heap.size, 0, none⟩ 1 1 [_] rfl rfl (cell_one_new _ _ _) (by simp [Value.oneCell']) (by unfold maxLen; omega) (by omega) (by simp; omega) ?_; intro v' w2 hown2 hgrow _))
          go_roundw
          case rel => exact ⟨q + 1, L ++ [n], at' + k, by omega, by go_num, by go_num, HNX.out, by rw [List.length_append, List.length_singleton, hLq], by omega, by rw [List.length_append, List.length_singleton]; simpa [iC] using hown2, oR2.out.grown hgrow (oR2.out.not_row (by decide) hV2.out), ((hB.alloc hbs _).grown hgrow (by simp; omega) (fun j hj => by have := (Ob.row_lt hV hj).1; omega))⟩
          case measure => simp [intOf]; omega
      · have heb : (((e : Nat) : Int) != 0) = true := by simp; omega
        rw [if_pos he] at hr
        have hs : stg l (q + 1) = (at', e) := by have := u1.symm.trans hr; exact congrArg (·.2) this
        have HD := Lib.hid (show dec l = (zero, 0, e) by rw [HE.out (by rw [hs]; exact he), hs])
        clear u1 u2 hr hs hLn hst HE he
        go_wp2_with (go_at_call 39; (try rw [hx]); (with_reducible refine (HT1.out _).mono ?_); rintro e w1 ⟨rfl, rfl⟩)
        refine bodyPost_ret (v := .tuple #[.agg #[.int .i64 0, .int .i64 0, .int .i64 0, .int .i64 0, .int .i64 0, .int .i64 0, .int .i64 0, .int .i64 0, .int .i64 0], .int .i64 0, .int .i64 (e : Int)]) (by simp [results, Try.results21, go_sem, rc0, rc1, rc2, rc3, rc4, rc5, rc6, rc7, rc8, rz]) rfl ?_
        exact ⟨by rw [HD.out, evV_zero]; rfl, put9_below hB (Nat.le_refl _) _ _ _ _ _ _ _ _ _⟩
    · obtain rfl : q = 3 := by omega
      obtain ⟨hs3, hL3⟩ := hst.out
      change (eK l).2 = (at', 0) at hs3
      change L = [(eI l).1, (eT l).1, (eK l).1] at hL3
      obtain ⟨b1, b2, b3⟩ := eV_in l
      have hz3 : (eK l).2.2 = 0 := by rw [hs3]
      have HKD := Lib.hid (fun h => dec_kind (l := l) hz3 h)
      have HNE := Lib.hid (fun h => dec_numerr (l := l) hz3 h)
      have HBD := Lib.hid (fun h => dec_bad (l := l) hz3 h)
      have HGD := Lib.hid (fun h => dec_good (l := l) hz3 h)
      have hEX : eX l = mk (eI l).1 (eT l).1 (eK l).1 (eN l).1 := rfl
      have hEN : eN l = rdNs l (fields ((eK l).1 : Int)).toNat [] (at', 0) := by unfold eN; rw [hs3]
      have hMI : ∀ V : List Int, (∀ v ∈ V, W64 v) → EvIn (mk (eI l).1 (eT l).1 (eK l).1 V) := fun V hV => mk_in b1 b2 b3 hV
      rw [hEX] at HBD HGD
      have hf6 := (fields_in ((eK l).1 : Int)).2
      have HF := Lib.hid (fun W => fieldsR_any ((eK l).1 : Int) W)
      generalize (eI l).1 = ni at *
      generalize (eT l).1 = nt at *
      generalize (eK l).1 = nk at *
      generalize fields (nk : Int) = M at *
      obtain ⟨ao, cap, rfl, hg0⟩ := Sq.row_cases hV
      obtain ⟨g, rfl, hgB, hgl⟩ := hg0 (by omega)
      subst hL3
      have HV := Lib.hid hV
      have r2 := World.ownsRow.cellAt hV 2 (by simp)
      simp [iC] at r2
      have hBE := Lib.hid hEN
      clear hst hs3 hz3 hEX hEN hLq hV
      have hgr : (⟨g, 0, none⟩ : Addr).block ≠ w.heap.size := by show g ≠ _; omega
      by_cases hM : M < 0
      · have HD := Lib.hid (HKD.out hM)
        clear HKD HNE HBD HGD
        go_wp2_with (go_at_call 11; (with_reducible refine (HF.out _).mono ?_); rintro e w1 ⟨rfl, hb1⟩; have hB1 := hB.trans (hb1.mono hbs); have oR1 := oR.below hb1; have rc0 := oR1.cell 0; have rc1 := oR1.cell 1; have rc2 := oR1.cell 2; have rc3 := oR1.cell 3; have rc4 := oR1.cell 4; have rc5 := oR1.cell 5; have rc6 := oR1.cell 6; have rc7 := oR1.cell 7; have rc8 := oR1.cell 8; have rf0 := oR1.frozen 0; have rf1 := oR1.frozen 1; have rf2 := oR1.frozen 2; have rf3 := oR1.frozen 3; have rf4 := oR1.frozen 4; have rf5 := oR1.frozen 5; have rf6 := oR1.frozen 6; have rf7 := oR1.frozen 7; have rf8 := oR1.frozen 8; have rz := oR1.lt; simp at rc0 rc1 rc2 rc3 rc4 rc5 rc6 rc7 rc8)
        refine bodyPost_ret (v := .tuple #[.agg #[.int .i64 0, .int .i64 0, .int .i64 0, .int .i64 0, .int .i64 0, .int .i64 0, .int .i64 0, .int .i64 0, .int .i64 0], .int .i64 0, .int .i64 54]) (by simp [results, Try.results21, go_sem, rc0, rc1, rc2, rc3, rc4, rc5, rc6, rc7, rc8, rz]) rfl ?_
        exact ⟨by rw [HD.out, evV_zero]; rfl, put9_below hB1 (Nat.le_refl _) _ _ _ _ _ _ _ _ _⟩
      · obtain ⟨m, rfl⟩ : ∃ m : Nat, M = (m : Int) := ⟨M.toNat, by omega⟩
        have hm6 : m ≤ 6 := by omega
        have HNE2 := Lib.hid (HNE.out hM)
        have HBD2 := Lib.hid (HBD.out hM)
        have HGD2 := Lib.hid (HGD.out hM)
        rw [Int.toNat_natCast] at hBE
        generalize eN l = EN at *
        clear HKD HNE HBD HGD HT
        go_wp2_with (go_at_call 11; (with_reducible refine (HF.out _).mono ?_); rintro e w1 ⟨rfl, hb1⟩; have hB1 := hB.trans (hb1.mono hbs); have oR1 := oR.below hb1; have hV1 := Lib.hid (own_below HV.out hb1); have hs1 := hB1.size)
        have oN := Lib.hid (Ob.Obj.new w1 2 (nc []))
        have hB2 := Lib.hid (hB1.alloc hs1 (.cells (nc []).toArray 2))
        have oR2 := Lib.hid (oR1.alloc (.cells (nc []).toArray 2))
        have hV2 := Lib.hid (hV1.out.alloc (.cells (nc []).toArray 2))
        have hgl1 : g < w1.heap.size := Nat.lt_of_lt_of_le hgl hb1.size
        clear r2 hB oR hb1 hB1 oR1 hV1 HV
        go_loopw [6, 13] (fun p i wr => ∃ (q : Nat) (V : List Int) (p' : Nat), q ≤ m ∧ i = .int .i64 (q : Int) ∧ p = .int .i64 (p' : Int) ∧ p' ≤ l.length ∧ V.length = q ∧ Hid (EN = rdNs l (m - q) V (p', 0)) ∧ Hid (∀ v ∈ V, W64 v) ∧ Ob.Obj wr w1.heap.size 2 (nc V) ∧ wr.ownsRow (w.heap.size + 1) 2 1 (.slice (some ⟨g, 0, none⟩) 3 cap) 3 (iC ([ni, nt, nk].map fun n : Nat => (n : Int))) ∧ Ob.Obj wr w.heap.size 26 [.int .i64 0, .int .i64 0, .int .i64 0, .int .i64 0, .int .i64 0, .int .i64 0, .int .i64 0, .int .i64 0, .int .i64 0] ∧ Below w.heap.size w wr) (fun _ i _ => m - (intOf i).toNat)
        case atStart => exact ⟨0, [], at', Nat.zero_le _, rfl, rfl, hat, rfl, hBE, (fun v hv => by cases hv), oN.out, hV2.out, oR2.out, hB2.out⟩
        case round =>
          clear oN hB2 oR2 hV2 hBE
          obtain ⟨q, V, p', hq, rfl, rfl, hpl, hVq, hEN, hVI, oN, hV, oR, hB⟩ := hrel
          obtain ⟨wo, rfl⟩ : ∃ wo : World, wo = wr := ⟨_, rfl⟩
          have hbs := hB.size
          have hi1 : (0 : Int) ≤ (p' : Int) ∧ (p' : Int) ≤ (l.length : Int) := by omega
          have hx := ext_dropE l p'
          by_cases hlt : q < m
          · have hi2 : (q : Int) < (m : Int) := by omega
            have hi3 : (0 : Int) ≤ (q : Int) ∧ (q : Int) < 6 := by omega
            have HT1 := Lib.hid (show ∀ W, Calls Try.prog 40 #[.string (Cd.bs (l.drop p'))] W fun e w' => e = .returned (.tuple #[.int .i64 (Cd.unzig (Cd.takeU (l.drop p')).1), .int .i64 (Cd.takeU (l.drop p')).2.1, .int .i64 (Cd.takeU (l.drop p')).2.2]) ∧ W = w' from HTI.out p')
            obtain ⟨o1, o2, o3, o4⟩ := Cd.takeU_ok (l.drop p')
            rw [List.length_drop] at o3
            obtain ⟨n, k, e, ht⟩ : ∃ n k e, Cd.takeU (l.drop p') = (n, k, e) := ⟨_, _, _, rfl⟩
            have hr := rdI_take ht
            have hw := rdI_w64 l (p', 0)
            rw [ht] at HT1 o1 o2 o3 o4
            simp only at HT1 o1 o2 o3 o4
            have hmo := rdNs_more l (show 0 < m - q by omega) V p'
            clear ht o2 HTI
            by_cases he : e = 0
            · subst he
              rw [if_neg (by simp)] at hr
              rw [hr] at hmo hw
              simp only at hmo hw
              have hwr : IntKind.i64.wrap ((p' : Int) + (k : Int)) = (p' : Int) + (k : Int) := by rw [IntKind.wrap_i64]; omega
              generalize Cd.unzig n = v at *
              have HNX := Lib.hid (show EN = rdNs l (m - (q + 1)) (V ++ [v]) (p' + k, 0) by rw [hEN.out, hmo]; rfl)
              have HVX := Lib.hid (show ∀ u ∈ V ++ [v], W64 u from fun u hu => by
                rcases List.mem_append.1 hu with hu | hu
                · exact hVI.out u hu
                · simp only [List.mem_singleton] at hu; subst hu; exact hw)
              have HSET := Lib.hid (nc_set hVq (by omega : q < 6) v)
              have hnl := oN.lt
              have hnf := oN.frozen q
              have hnc : wo.cell? ⟨w1.heap.size, q, none⟩ = some (.int .i64 (V.getD q 0)) := by
                rw [oN.cell q]
                match q, hi3.2 with
                | 0, _ => rfl
                | 1, _ => rfl
                | 2, _ => rfl
                | 3, _ => rfl
                | 4, _ => rfl
                | 5, _ => rfl
                | j + 6, h => exact absurd h (by omega)
              clear hr hmo hw hEN hVI
              go_wp2_with (go_at_call 40; (try rw [hx]); (with_reducible refine (HT1.out _).mono ?_); rintro e w2 ⟨rfl, rfl⟩)
              go_roundw
              case rel => exact ⟨q + 1, V ++ [v], p' + k, by omega, by go_num, by go_num, by omega, by rw [List.length_append, List.length_singleton, hVq], HNX, HVX, by rw [← HSET.out]; exact oN.set q _, Ob.row_other hV (p := ⟨w1.heap.size, q, none⟩) (by show some g ≠ some w1.heap.size; simp; omega) _, oR.other (p := ⟨w1.heap.size, q, none⟩) (by show w.heap.size ≠ w1.heap.size; omega) _, hB.setCell (p := ⟨w1.heap.size, q, none⟩) hs1 _⟩
              case measure => simp [intOf]; omega
            · have heb : (((e : Nat) : Int) != 0) = true := by simp; omega
              rw [if_pos he] at hr
              rw [hr] at hmo
              simp only at hmo
              rw [rdNs_stuck l (m - q - 1) (V ++ [0]) (p', e) he] at hmo
              have hEN2 := hEN.out.trans hmo
              have HD := Lib.hid (show dec l = (zero, 0, e) by rw [HNE2.out (by rw [hEN2]; exact he), hEN2])
              clear hr hmo hw hEN hVI hEN2 he HNE2 HBD2 HGD2
              have rc0 := oR.cell 0
              have rc1 := oR.cell 1
              have rc2 := oR.cell 2
              have rc3 := oR.cell 3
              have rc4 := oR.cell 4
              have rc5 := oR.cell 5
              have rc6 := oR.cell 6
              have rc7 := oR.cell 7
              have rc8 := oR.cell 8
              have rf0 := oR.frozen 0
              have rf1 := oR.frozen 1
              have rf2 := oR.frozen 2
              have rf3 := oR.frozen 3
              have rf4 := oR.frozen 4
              have rf5 := oR.frozen 5
              have rf6 := oR.frozen 6
              have rf7 := oR.frozen 7
              have rf8 := oR.frozen 8
              have rz := oR.lt
              simp at rc0 rc1 rc2 rc3 rc4 rc5 rc6 rc7 rc8
              go_wp2_with (go_at_call 40; (try rw [hx]); (with_reducible refine (HT1.out _).mono ?_); rintro e w2 ⟨rfl, rfl⟩)
              refine bodyPost_ret (v := .tuple #[.agg #[.int .i64 0, .int .i64 0, .int .i64 0, .int .i64 0, .int .i64 0, .int .i64 0, .int .i64 0, .int .i64 0, .int .i64 0], .int .i64 0, .int .i64 (e : Int)]) (by simp [results, Try.results21, go_sem, rc0, rc1, rc2, rc3, rc4, rc5, rc6, rc7, rc8, rz]) rfl ?_
              exact ⟨by rw [HD.out, evV_zero]; rfl, put9_below hB (Nat.le_refl _) _ _ _ _ _ _ _ _ _⟩
          · obtain rfl : q = m := by omega
            have hEN2 : EN = (V, (p', 0)) := by rw [hEN.out, Nat.sub_self]; rfl
            rw [hEN2] at HBD2 HGD2
            have HBD3 := Lib.hid (HBD2.out rfl)
            have HGD3 := Lib.hid (HGD2.out rfl)
            have hXI := hMI V hVI.out
            have HVR := Lib.hid (fun W => validR_any (mk ni nt nk V) W)
            have r0 := World.ownsRow.cellAt hV 0 (by simp)
            have r1 := World.ownsRow.cellAt hV 1 (by simp)
            have r2 := World.ownsRow.cellAt hV 2 (by simp)
            simp [iC] at r0 r1 r2
            have n0 := oN.cell 0
            have n1 := oN.cell 1
            have n2 := oN.cell 2
            have n3 := oN.cell 3
            have n4 := oN.cell 4
            have n5 := oN.cell 5
            have hnl := oN.lt
            have hrl := oR.lt
            have hgl2 : g < wo.heap.size := by omega
            have HEV := Lib.hid (evV_mk ni nt nk V)
            rw [evV_mk] at HVR
            unfold nc at n0 n1 n2 n3 n4 n5
            simp only [List.getElem?_cons_zero, List.getElem?_cons_succ] at n0 n1 n2 n3 n4 n5
            clear hEN hEN2 HBD2 HGD2 HNE2 hVI hMI HTI oN hV
            generalize V.getD 0 0 = x0 at *
            generalize V.getD 1 0 = x1 at *
            generalize V.getD 2 0 = x2 at *
            generalize V.getD 3 0 = x3 at *
            generalize V.getD 4 0 = x4 at *
            generalize V.getD 5 0 = x5 at *
            generalize mk ni nt nk V = X at *
            have hB3 := hB.alloc hbs (.cells #[.int .i64 (ni : Int), .int .i64 (nt : Int), .int .i64 (nk : Int), .int .i64 x0, .int .i64 x1, .int .i64 x2, .int .i64 x3, .int .i64 x4, .int .i64 x5] 26)
            have oX := Ob.Obj.new wo 26 [.int .i64 (ni : Int), .int .i64 (nt : Int), .int .i64 (nk : Int), .int .i64 x0, .int .i64 x1, .int .i64 x2, .int .i64 x3, .int .i64 x4, .int .i64 x5]
            have oR3 := oR.alloc (.cells #[.int .i64 (ni : Int), .int .i64 (nt : Int), .int .i64 (nk : Int), .int .i64 x0, .int .i64 x1, .int .i64 x2, .int .i64 x3, .int .i64 x4, .int .i64 x5] 26)
            have ne1 : wo.heap.size ≠ g := by omega
            have ne2 : wo.heap.size ≠ w1.heap.size := by omega
            go_wp2_with fail
            go_region_held3 (fun w' => w'.cell? ⟨g, 0, none⟩ = some (.int .i64 (ni : Int)) ∧ w'.cell? ⟨g, 1, none⟩ = some (.int .i64 (nt : Int)) ∧ w'.cell? ⟨g, 2, none⟩ = some (.int .i64 (nk : Int)) ∧ w'.cell? ⟨w1.heap.size, 0, none⟩ = some (.int .i64 x0) ∧ w'.cell? ⟨w1.heap.size, 1, none⟩ = some (.int .i64 x1) ∧ w'.cell? ⟨w1.heap.size, 2, none⟩ = some (.int .i64 x2) ∧ w'.cell? ⟨w1.heap.size, 3, none⟩ = some (.int .i64 x3) ∧ w'.cell? ⟨w1.heap.size, 4, none⟩ = some (.int .i64 x4) ∧ w'.cell? ⟨w1.heap.size, 5, none⟩ = some (.int .i64 x5))
              (first | exact ⟨r0, r1, r2, n0, n1, n2, n3, n4, n5⟩ | go_keep)
              (first | fail)
            have hB4 := hB3.drew
            have hs4 := hB4.size
            have oX4 := oX.drew
            have oR4 := oR3.drew
            have x0' := oX.cell 0
            have x1' := oX.cell 1
            have x2' := oX.cell 2
            have x3' := oX.cell 3
            have x4' := oX.cell 4
            have x5' := oX.cell 5
            have x6' := oX.cell 6
            have x7' := oX.cell 7
            have x8' := oX.cell 8
            simp at x0' x1' x2' x3' x4' x5' x6' x7' x8'
            cases hv : validB X with
            | false =>
              rw [hv] at HVR
              have HD := Lib.hid (HBD3.out hv)
              clear HBD3 HGD3 hv r0 r1 r2 n0 n1 n2 n3 n4 n5
              go_wp2_with (go_at_call 17; (with_reducible refine (HVR.out _).mono ?_); rintro e w5 ⟨rfl, hb5⟩; have hB5 := hB4.trans (hb5.mono hs4); have oR5 := oR4.below hb5; have rc0 := oR5.cell 0; have rc1 := oR5.cell 1; have rc2 := oR5.cell 2; have rc3 := oR5.cell 3; have rc4 := oR5.cell 4; have rc5 := oR5.cell 5; have rc6 := oR5.cell 6; have rc7 := oR5.cell 7; have rc8 := oR5.cell 8; have rf0 := oR5.frozen 0; have rf1 := oR5.frozen 1; have rf2 := oR5.frozen 2; have rf3 := oR5.frozen 3; have rf4 := oR5.frozen 4; have rf5 := oR5.frozen 5; have rf6 := oR5.frozen 6; have rf7 := oR5.frozen 7; have rf8 := oR5.frozen 8; have rz := oR5.lt; simp at rc0 rc1 rc2 rc3 rc4 rc5 rc6 rc7 rc8)
              refine bodyPost_ret (v := .tuple #[.agg #[.int .i64 0, .int .i64 0, .int .i64 0, .int .i64 0, .int .i64 0, .int .i64 0, .int .i64 0, .int .i64 0, .int .i64 0], .int .i64 0, .int .i64 54]) (by simp [results, Try.results21, go_sem, rc0, rc1, rc2, rc3, rc4, rc5, rc6, rc7, rc8, rz]) rfl ?_
              exact ⟨by rw [HD.out, evV_zero]; rfl, put9_below hB5 (Nat.le_refl _) _ _ _ _ _ _ _ _ _⟩
            | true =>
              rw [hv] at HVR
              have HD := Lib.hid (HGD3.out hv)
              clear HBD3 HGD3 hv r0 r1 r2 n0 n1 n2 n3 n4 n5
              go_wp2_with (go_at_call 17; (with_reducible refine (HVR.out _).mono ?_); rintro e w5 ⟨rfl, hb5⟩; have hB5 := hB4.trans (hb5.mono hs4); have oR5 := oR4.below hb5; have oX5 := oX4.below hb5; have rc0 := oR5.cell 0; have rc1 := oR5.cell 1; have rc2 := oR5.cell 2; have rc3 := oR5.cell 3; have rc4 := oR5.cell 4; have rc5 := oR5.cell 5; have rc6 := oR5.cell 6; have rc7 := oR5.cell 7; have rc8 := oR5.cell 8; have rf0 := oR5.frozen 0; have rf1 := oR5.frozen 1; have rf2 := oR5.frozen 2; have rf3 := oR5.frozen 3; have rf4 := oR5.frozen 4; have rf5 := oR5.frozen 5; have rf6 := oR5.frozen 6; have rf7 := oR5.frozen 7; have rf8 := oR5.frozen 8; have rz := oR5.lt; simp at rc0 rc1 rc2 rc3 rc4 rc5 rc6 rc7 rc8; have y0 := oX5.cell 0; have y1 := oX5.cell 1; have y2 := oX5.cell 2; have y3 := oX5.cell 3; have y4 := oX5.cell 4; have y5 := oX5.cell 5; have y6 := oX5.cell 6; have y7 := oX5.cell 7; have y8 := oX5.cell 8; simp at y0 y1 y2 y3 y4 y5 y6 y7 y8)
              refine bodyPost_ret (v := .tuple #[.agg #[.int .i64 (ni : Int), .int .i64 (nt : Int), .int .i64 (nk : Int), .int .i64 x0, .int .i64 x1, .int .i64 x2, .int .i64 x3, .int .i64 x4, .int .i64 x5], .int .i64 (p' : Int), .int .i64 0]) (by simp [results, Try.results21, go_sem, rc0, rc1, rc2, rc3, rc4, rc5, rc6, rc7, rc8, rz]) rfl ?_
              exact ⟨by rw [HD.out]; show _ = Ending.returned (.tuple #[evV X, .int .i64 (p' : Int), .int .i64 0]); rw [HEV.out], put9_below hB5 (Nat.le_refl _) _ _ _ _ _ _ _ _ _⟩
end Ev
end Go.Proofs.Ytojbcdkiilcppaa

/-
  The program's event.Of (P14.5): the iterator; slices.Clone, Index, Contains of kinds.
-/
namespace Go.Proofs.Ytojbcdkiilcppaa
open Go.RowKit Go.Shelf
set_option linter.unusedSimpArgs false
set_option linter.unusedVariables false
theorem info_inte : (Try.prog.info? 3).map (fun i => (i.zero, i.size, i.bytes)) = some (some (.int .i64 0), 1, 8) := by kernel_rfl
namespace Ev
attribute [local go_sem] Oper.semAt_some
theorem iC_one (L : List Int) : ∀ v ∈ iC L, v.oneCell' = true := fun v hv => by
  obtain ⟨x, _, rfl⟩ := List.mem_map.1 hv
  rfl
theorem ints_of_own {W : World} {B : Nat} {te : TypeId} {v : Value} {L : List Int} (h : W.ownsRow B te 1 v L.length (iC L)) : Fi.Ints W.heap.size W v L := by
  obtain ⟨a, cap, b, rfl, _, _, h3⟩ := Gn.row_at h
  refine ⟨a, cap, b, 0, rfl, fun h => ⟨(h3 h).1, (h3 h).2.2.1⟩, fun j hj => ?_⟩
  obtain ⟨_, _, _, hc⟩ := h3 (by omega)
  rw [show 0 + j = j by omega, hc j (by omega)]
  simp [iC, hj]

set_option maxRecDepth 100000 in
set_option maxHeartbeats 4000000 in
theorem cloneI_any (v : Value) (L : List Int) (w : World) (hV : Fi.Ints w.heap.size w v L) (hL : L.length ≤ 8388608) :
    Calls Try.prog 42 #[v] w fun e w' => ∃ r, e = .returned r ∧ w'.ownsRow w.heap.size 3 1 r L.length (iC L) ∧ Below w.heap.size w w' := by
  obtain ⟨i0, hi0, hz0, hz1, hz2⟩ := info_parts info_inte
  obtain ⟨a, cap, fb, fo, rfl, ha, hc⟩ := hV
  cases a with
  | none =>
    have h0 : L = [] := by
      apply List.eq_nil_of_length_eq_zero
      apply Nat.eq_zero_of_not_pos
      intro h
      have := (ha h).1
      cases this
    subst h0
    have hq := fun (W : World) => Lib.run_eql_slice_nil (P := Try.prog) W 47 3 none 0 cap 0 0 Try.underlying47
    go_enter Try.func42, Try.ntmps42
    go_wp2_with fail
    go_ret
    exact ⟨_, rfl, World.ownsRow_nil _ _ _ _, Below.refl _ _⟩
  | some ad =>
    have HSR := Lib.hid (show ∀ j v, (iC L)[j]? = some v → (w.alloc (.cells #[] 3)).cell? (ad.add j) = some v from fun j v hj => by
      have hjl : j < L.length := by
        have := (List.getElem?_eq_some_iff.1 hj).1
        simpa [iC] using this
      obtain ⟨h2, h3⟩ := ha (by omega)
      injection h2 with h2
      subst h2
      have h1 := hc j hjl
      have h4 : v = .int .i64 L[j] := by
        simp [iC, hjl] at hj
        exact hj.symm
      subst h4
      have := ((Below.refl w.heap.size w).alloc (Nat.le_refl _) (.cells #[] 3)).cell (p := (⟨fb, fo + j, none⟩ : Addr)) h3
      rw [Gn.add_of]
      exact this.trans h1)
    have hown : (w.alloc (.cells #[] 3)).ownsRow w.heap.size 3 1 (.slice (some ⟨w.heap.size, 0, none⟩) 0 0) 0 [] := ⟨by simp, .inr ⟨w.heap.size, 0, #[], rfl, Nat.le_refl _, World.alloc_heap_new w _, Nat.le_refl _, Nat.zero_le _, rfl, rfl⟩⟩
    have HOW := Lib.hid hown
    have hn1 : 0 + L.length ≤ maxLen := by unfold maxLen; omega
    have hn2 : (0 + L.length) * 8 ≤ 140737488355328 := by omega
    have hn3 : w.heap.size ≤ (w.alloc (.cells #[] 3)).heap.size := by simp
    have HLT := Lib.hid (show (iC L).length = L.length * 1 by simp [iC])
    have HB := Lib.hid ((Below.refl w.heap.size w).alloc (Nat.le_refl _) (.cells #[] 3))
    clear ha hc hown
    have hq := fun (W : World) => Lib.run_eql_slice_nil (P := Try.prog) W 47 3 (some ad) L.length cap 0 0 Try.underlying47
    go_enter Try.func42, Try.ntmps42
    go_wp2_with (at_builtin; refine wpList_append_own _ rfl _ _ 47 rfl w.heap.size 3 i0 (.int .i64 0) 1 8 Try.underlying47 hi0 hz0 hz1 hz2 rfl (by decide) _ 0 [] rfl HOW.out ad L.length _ (iC L) rfl HLT.out HSR.out (iC_one _) hn1 hn2 hn3 ?_; intro v4 w4 hown4 hgrow4 _; have HB4 := Lib.hid (HB.out.grown hgrow4 hn3 (fun k hk => by have := (Ob.row_lt HOW.out hk).1; omega)); have HO4 := Lib.hid hown4; clear hown4 hgrow4)
    go_ret
    refine ⟨_, rfl, ?_, HB4.out⟩
    have h := HO4.out
    rw [Nat.zero_add, List.nil_append] at h
    exact h
/-- what Index tells -/
def IdxOut (ks : List Int) (k : Int) (w : World) (e : Ending) (w' : World) : Prop := ∃ j : Int, e = .returned (.int .i64 j) ∧ decide (0 ≤ j) = ks.contains k ∧ w = w'
theorem contains_at {ks : List Int} {k : Int} {q : Nat} (hq : q < ks.length) (h : ks[q] = k) : ks.contains k = true := List.contains_iff_mem.2 (h ▸ List.getElem_mem hq)
theorem contains_none {ks : List Int} {k : Int} (h : ∀ q (hq : q < ks.length), ks[q] ≠ k) : ks.contains k = false := by
  cases hc : ks.contains k with
  | false => rfl
  | true =>
    obtain ⟨q, hq, e⟩ := List.getElem_of_mem (List.contains_iff_mem.1 hc)
    exact absurd e (h q hq)

set_option maxRecDepth 100000 in
set_option maxHeartbeats 4000000 in
theorem indexI_any {B : Nat} (v : Value) (ks : List Int) (k : Int) (w : World) (h : Fi.Ints B w v ks) (hl : ks.length ≤ 1073741824) :
    Calls Try.prog 50 #[v, .int .i64 k] w (IdxOut ks k w) := by
  obtain ⟨a, cap, b, off, rfl, ha, hc⟩ := h
  have HA := Lib.hid ha
  have HC := Lib.hid hc
  clear ha hc
  go_enter Try.func50, Try.ntmps50
  go_wp2_with fail
  go_loopw [8] (fun i wr => ∃ q : Nat, q ≤ ks.length ∧ i = .int .i64 (q : Int) ∧ Hid (∀ j (hj : j < ks.length), j < q → ks[j] ≠ k) ∧ w = wr) (fun i _ => ks.length - (intOf i).toNat)
  case atStart => exact ⟨0, Nat.zero_le _, rfl, (fun j hj h => absurd h (by omega)), rfl⟩
  case round =>
    obtain ⟨q, hq, rfl, hno, rfl⟩ := hrel
    by_cases hlt : q < ks.length
    · obtain ⟨rfl, _⟩ := HA.out (by omega)
      have c0 := HC.out q hlt
      have hi1 : (0 : Int) ≤ (q : Int) ∧ (q : Int) < (ks.length : Int) := by omega
      have HIN := Lib.hid (fun h => contains_at (k := k) hlt h)
      have HNO := Lib.hid (fun (h : ks[q] ≠ k) => show ∀ j (hj : j < ks.length), j < q + 1 → ks[j] ≠ k from fun j hj h2 => if e : j = q then (by subst e; exact h) else hno.out j hj (by omega))
      clear hno HC HA
      generalize ks[q] = x at *
      by_cases hxk : x = k
      · subst hxk
        have HI := Lib.hid (HIN.out rfl)
        clear HIN HNO
        go_wp2_with fail
        go_ret
        exact ⟨(q : Int), rfl, by rw [HI.out]; simp; try omega, rfl⟩
      · have hxb : (k == x) = false := by simpa using fun h => hxk h.symm
        have HN2 := Lib.hid (HNO.out hxk)
        clear HIN HNO hxk
        go_wp2_with fail
        go_roundw
        case rel => exact ⟨q + 1, by omega, by go_num, HN2, by trivial⟩
        case measure => simp [intOf]; omega
    · obtain rfl : q = ks.length := by omega
      have HO := Lib.hid (contains_none (ks := ks) (k := k) (fun j hj => hno.out j hj hj))
      clear hno
      go_wp2_with fail
      go_ret
      exact ⟨-1, rfl, by rw [HO.out]; rfl, rfl⟩

set_option maxRecDepth 100000 in
set_option maxHeartbeats 4000000 in
theorem containsI_any {B : Nat} (v : Value) (ks : List Int) (k : Int) (w : World) (h : Fi.Ints B w v ks) (hl : ks.length ≤ 1073741824) :
    Calls Try.prog 44 #[v, .int .i64 k] w fun e w' => e = .returned (.bool (ks.contains k)) ∧ w = w' := by
  have HI := Lib.hid (indexI_any v ks k w h hl)
  unfold IdxOut at HI
  generalize ks.contains k = cb at *
  go_enter Try.func44, Try.ntmps44
  go_wp2_with (go_at_call 50; (with_reducible refine HI.out.mono ?_); rintro e w1 ⟨j, rfl, hj, rfl⟩)
  all_goals go_ret
  all_goals exact ⟨by rw [← hj]; rfl, rfl⟩

/-- the events of some kinds, each with its place: of the first n -/
def wkN (L : List Evt) (ks : List Int) : Nat → List (Nat × Evt)
  | 0 => []
  | n + 1 => wkN L ks n ++ (match L[n]? with | some x => if hasB ks x.kind = true then [(n, x)] else [] | none => [])
def wk (L : List Evt) (ks : List Int) : List (Nat × Evt) := wkN L ks L.length
theorem wkN_yes {L : List Evt} {ks : List Int} {n : Nat} (hn : n < L.length) (h : hasB ks L[n].kind = true) : wkN L ks (n + 1) = wkN L ks n ++ [(n, L[n])] := by
  rw [wkN, List.getElem?_eq_getElem hn]; simp [h]
theorem wkN_no {L : List Evt} {ks : List Int} {n : Nat} (hn : n < L.length) (h : hasB ks L[n].kind = false) : wkN L ks (n + 1) = wkN L ks n := by
  rw [wkN, List.getElem?_eq_getElem hn]; simp [h]
theorem wkN_pre (L : List Evt) (ks : List Int) (n : Nat) : ∀ m, wkN L ks n <+: wkN L ks (n + m)
  | 0 => List.prefix_refl _
  | m + 1 => (wkN_pre L ks n m).trans (by rw [← Nat.add_assoc, wkN]; exact List.prefix_append _ _)
theorem wkN_wk {L : List Evt} {ks : List Int} {n : Nat} (h : n ≤ L.length) : wkN L ks n <+: wk L ks := by
  obtain ⟨m, hm⟩ : ∃ m, L.length = n + m := ⟨L.length - n, by omega⟩
  unfold wk; rw [hm]; exact wkN_pre L ks n m
theorem hasB_eq (ks : List Int) (k : Int) : hasB ks k = (decide (ks.length = 0) || ks.contains k) := by
  unfold hasB
  cases ks <;> simp
abbrev oEnc (x : Nat × Evt) : Array Value := #[.int .i64 (x.1 : Int), evV x.2]
/-- what the iterator reads -/
def OT (B1 B2 : Nat) (lv kv : Value) (nl nk : Nat) : Sq.Blocks := fun k => k = B1 ∨ k = B2 ∨ (0 < nl ∧ lv.ownBlock = some k) ∨ (0 < nk ∧ kv.ownBlock = some k)

set_option maxRecDepth 100000 in
set_option maxHeartbeats 4000000 in
theorem of1_seq (n : Nat) (hn : 1 ≤ n) (L : List Evt) (ks : List Int) (lv kv : Value) (B1 B2 : Nat) (w : World) (hb1 : Boxed w B1 38 lv) (hb2 : Boxed w B2 47 kv) (hE : Evs w.heap.size w lv L) (hK : Fi.Ints w.heap.size w kv ks) (hL : L.length ≤ 1048576) (hks : ks.length ≤ 1048576) :
    Sq.SeqC Fence.wide n Try.prog 43 #[.pointer (some ⟨B1, 0, none⟩), .pointer (some ⟨B2, 0, none⟩)] oEnc (OT B1 B2 lv kv L.length ks.length) (fun ys => ys = wk L ks) (fun pre => pre <+: wk L ks) w := by
  intro lp J Jx W hW hJ hJx hY h0
  have HB1 := Lib.hid (hW.boxed (.inl rfl) hb1)
  have HB2 := Lib.hid (hW.boxed (.inr (.inl rfl)) hb2)
  obtain ⟨a, cap, fb, fo, rfl, ha, hc⟩ := hE
  obtain ⟨a2, cap2, kb, ko, rfl, ha2, hc2⟩ := hK
  have HTA := Lib.hid (fun (h : 0 < L.length) => show OT B1 B2 (.slice a L.length cap) (.slice a2 ks.length cap2) L.length ks.length fb ∧ a = some ⟨fb, fo, none⟩ ∧ fb < W.heap.size from by
    obtain ⟨h1, h2⟩ := ha h
    exact ⟨.inr (.inr (.inl ⟨h, by rw [h1]; rfl⟩)), h1, Nat.lt_of_lt_of_le h2 hW.size⟩)
  have HLC := Lib.hid (fun X (hX : Sq.Kept (OT B1 B2 (.slice a L.length cap) (.slice a2 ks.length cap2) L.length ks.length) W X) j (hj : j < L.length) => show AtE X fb (fo + j * 9) L[j] from fun m hm => by
    have h := hc j hj m hm
    have hT := (HTA.out (by omega)).1
    cases hv : (evC L[j])[m]? with
    | none => rw [List.getElem?_eq_none_iff] at hv; simp [evC] at hv; omega
    | some v =>
      rw [hv] at h
      exact (hW.trans hX).cell (p := ⟨fb, fo + j * 9 + m, none⟩) hT h)
  have HKC := Lib.hid (fun X (hX : Sq.Kept (OT B1 B2 (.slice a L.length cap) (.slice a2 ks.length cap2) L.length ks.length) W X) => show Fi.Ints X.heap.size X (.slice a2 ks.length cap2) ks from
    ⟨a2, cap2, kb, ko, rfl, fun h => ⟨(ha2 h).1, Nat.lt_of_lt_of_le (ha2 h).2 (Nat.le_trans hW.size hX.size)⟩, fun j hj => (hW.trans hX).cell (p := ⟨kb, ko + j, none⟩) (.inr (.inr (.inr ⟨by omega, by rw [(ha2 (by omega)).1]; rfl⟩))) (hc2 j hj)⟩)
  clear ha hc ha2 hc2
  generalize hT : OT B1 B2 (.slice a L.length cap) (.slice a2 ks.length cap2) L.length ks.length = T at *
  have hT1 : T B1 := by rw [← hT]; exact .inl rfl
  have hT2 : T B2 := by rw [← hT]; exact .inr (.inl rfl)
  clear hT hW hb1 hb2
  have HFN : Fence.wide.fn 44 := trivial
  have b1 := HB1.out.cell
  have bl1 := HB1.out.lt
  refine callsIn_of_wp Try.func43 rfl trivial ?_ rfl
  simp only [Try.ntmps43, List.size_toArray, List.length_cons, List.length_nil, Nat.reduceAdd, Nat.reduceSub, Array.replicate_succ, Array.replicate_zero, List.push_toArray, List.append_toArray, List.nil_append, List.cons_append]
  gi_wp2
  gi_loopw [8] (fun iv wr => ∃ q : Nat, q ≤ L.length ∧ iv = .int .i64 (q : Int) ∧ J (fun _ => False) (wkN L ks q) wr ∧ Sq.Kept T W wr) (fun i _ => L.length - (intOf i).toNat)
  case atStart => exact ⟨0, Nat.zero_le _, rfl, h0, Sq.Kept.refl _ _⟩
  case round =>
    obtain ⟨q, hq, rfl, hJs, hk⟩ := hrel
    obtain ⟨wo, rfl⟩ : ∃ wo : World, wo = wr := ⟨_, rfl⟩
    have hks2 := hk.size
    by_cases hlt : q < L.length
    · obtain ⟨_, rfl, hfl⟩ := HTA.out (by omega)
      have hAT := HLC.out wo hk q hlt
      have hi1 : (0 : Int) ≤ (q : Int) ∧ (q : Int) < (L.length : Int) := by omega
      have hwb : fb < wo.heap.size := by omega
      have e0 := hAT 0 (by decide)
      have e1 := hAT 1 (by decide)
      have e2 := hAT 2 (by decide)
      have e3 := hAT 3 (by decide)
      have e4 := hAT 4 (by decide)
      have e5 := hAT 5 (by decide)
      have e6 := hAT 6 (by decide)
      have e7 := hAT 7 (by decide)
      have e8 := hAT 8 (by decide)
      have HYES := Lib.hid (fun h => wkN_yes (ks := ks) hlt h)
      have HNO := Lib.hid (fun h => wkN_no (ks := ks) hlt h)
      have HPRE := Lib.hid (wkN_wk (L := L) (ks := ks) (n := q + 1) (by omega))
      have hhas := hasB_eq ks L[q].kind
      clear hAT HLC
      generalize L[q] = x at *
      generalize wkN L ks q = pre at *
      generalize hp2 : wkN L ks (q + 1) = pre2 at *
      obtain ⟨xi, xt, xk, xa, xb, xc, xd, xe, xf⟩ := x
      unfold evC at e0 e1 e2 e3 e4 e5 e6 e7 e8
      simp only [List.getElem?_cons_zero, List.getElem?_cons_succ, Nat.add_zero] at e0 e1 e2 e3 e4 e5 e6 e7 e8
      simp only at HYES HNO hhas
      obtain ⟨wx, hwx⟩ : ∃ wx, wo.alloc (.cells #[.int .i64 xi, .int .i64 xt, .int .i64 xk, .int .i64 xa, .int .i64 xb, .int .i64 xc, .int .i64 xd, .int .i64 xe, .int .i64 xf] 26) = wx := ⟨_, rfl⟩
      have oX := Ob.Obj.new wo 26 [.int .i64 xi, .int .i64 xt, .int .i64 xk, .int .i64 xa, .int .i64 xb, .int .i64 xc, .int .i64 xd, .int .i64 xe, .int .i64 xf]
      rw [show wo.alloc (.cells ([.int .i64 xi, .int .i64 xt, .int .i64 xk, .int .i64 xa, .int .i64 xb, .int .i64 xc, .int .i64 xd, .int .i64 xe, .int .i64 xf] : List Value).toArray 26) = wx from hwx] at oX
      have hJ2 := Lib.hid (show J (fun _ => False) pre wx by rw [← hwx]; exact hJ _ _ _ _ _ hJs (Sq.Step.alloc0 _ _ _))
      have hk2 : Sq.Kept T W wx := by rw [← hwx]; exact hk.trans (Sq.Kept.alloc _ _ _)
      have x0 := oX.cell 0
      have x1 := oX.cell 1
      have x2 := oX.cell 2
      have x3 := oX.cell 3
      have x4 := oX.cell 4
      have x5 := oX.cell 5
      have x6 := oX.cell 6
      have x7 := oX.cell 7
      have x8 := oX.cell 8
      simp at x0 x1 x2 x3 x4 x5 x6 x7 x8
      have hxl := oX.lt
      have b2 := (hk2.boxed hT2 HB2.out).cell
      have bl2 := (hk2.boxed hT2 HB2.out).lt
      have HCT := Lib.hid (containsI_any (.slice a2 ks.length cap2) ks xk wx (HKC.out wx hk2) (by omega))
      have HK2 := Lib.hid hk2
      clear oX hJs hk hk2 HKC
      by_cases hk0 : ks.length = 0
      · have hkb : (((ks.length : Nat) : Int) == 0) = true := by simp [hk0]
        have hy1 : hasB ks xk = true := by rw [hhas]; simp [hk0]
        obtain rfl := HYES.out hy1
        clear hhas HYES HNO hy1 HCT
        obtain ⟨fn, tmps, assign, body, hy, hR⟩ := hY (fun _ => False) pre (q, ⟨xi, xt, xk, xa, xb, xc, xd, xe, xf⟩) wx hJ2.out (fun k h => h.elim) HPRE.out
        have HRR := Lib.hid hR
        clear hR hk0
        simp only [oEnc, evV] at hy
        gi_wp2_with (with_reducible refine ⟨HFN, ?_⟩)
        refine HRR.out.mono ?_
        rintro e W3 (⟨rfl, hJ3, hk3⟩ | ⟨rfl, hJx3, hk3⟩)
        · gi_wp2
          go_roundw
          case rel => exact ⟨q + 1, by omega, by go_num, by rw [hp2]; exact hJ3, HK2.out.trans (hk3.less (fun k hk _ => .inr hk))⟩
          case measure => simp [intOf]; omega
        · gi_wp2
          refine bodyPost_ret (results_none rfl _ _ _) rfl ?_
          exact ⟨⟨_, rfl⟩, .inr ⟨_, _, HPRE.out, hJx3⟩⟩
      · have hkb : (((ks.length : Nat) : Int) == 0) = false := beq_eq_false_iff_ne.2 (by omega)
        have hh2 : hasB ks xk = ks.contains xk := by rw [hhas, decide_eq_false hk0, Bool.false_or]
        rw [hh2] at HYES HNO
        clear hhas hh2
        generalize ks.contains xk = cb at *
        cases cb with
        | false =>
          obtain rfl := HNO.out rfl
          clear HYES HNO hk0 hY
          gi_wp2_with (gi_at_call 44; refine (callsIn_wide.2 HCT.out).mono ?_; rintro e w1 ⟨rfl, rfl⟩)
          refine ⟨fun _ h => (by cases h), ?_⟩
          gi_wp2
          go_roundw
          case rel => exact ⟨q + 1, by omega, by go_num, by rw [hp2]; exact hJ2.out, HK2.out⟩
          case measure => simp [intOf]; omega
        | true =>
          obtain rfl := HYES.out rfl
          clear HYES HNO hk0
          obtain ⟨fn, tmps, assign, body, hy, hR⟩ := hY (fun _ => False) pre (q, ⟨xi, xt, xk, xa, xb, xc, xd, xe, xf⟩) wx hJ2.out (fun k h => h.elim) HPRE.out
          have HRR := Lib.hid hR
          clear hR
          simp only [oEnc, evV] at hy
          gi_wp2_with (gi_at_call 44; refine (callsIn_wide.2 HCT.out).mono ?_; rintro e w1 ⟨rfl, rfl⟩)
          refine HRR.out.mono ?_
          rintro e W3 (⟨rfl, hJ3, hk3⟩ | ⟨rfl, hJx3, hk3⟩)
          · gi_wp2
            go_roundw
            case rel => exact ⟨q + 1, by omega, by go_num, by rw [hp2]; exact hJ3, HK2.out.trans (hk3.less (fun k hk _ => .inr hk))⟩
            case measure => simp [intOf]; omega
          · gi_wp2
            refine bodyPost_ret (results_none rfl _ _ _) rfl ?_
            exact ⟨⟨_, rfl⟩, .inr ⟨_, _, HPRE.out, hJx3⟩⟩
    · obtain rfl : q = L.length := by omega
      gi_wp2
      go_end0
      exact ⟨⟨_, rfl⟩, .inl ⟨_, _, rfl, hJs⟩⟩
end Ev
end Go.Proofs.Ytojbcdkiilcppaa

/-
  The program's wordsMayBe, numbersMayBe, Valid (P14.2).
-/
namespace Go.Proofs.Ytojbcdkiilcppaa
open Go.RowKit
set_option linter.unusedSimpArgs false
set_option linter.unusedVariables false
namespace Ev

set_option maxRecDepth 100000 in
set_option maxHeartbeats 4000000 in
theorem words_0 (x : Evt) (hk : x.kind = 2 ∨ x.kind = 6 ∨ x.kind = 7 ∨ x.kind = 8 ∨ x.kind = 12 ∨ x.kind = 13 ∨ x.kind = 25 ∨ x.kind = 27 ∨ x.kind = 29) (w : World) :
    Calls Try.prog 46 #[evV x] w fun e w' => e = .returned (.bool (wordsB x.kind x.b x.c)) ∧ Below w.heap.size w w' := by
  obtain ⟨i, t, k, a, b, c, d, e, f⟩ := x
  simp only at *
  unfold evV
  have oE := Ob.Obj.new w 26 [.int .i64 i, .int .i64 t, .int .i64 k, .int .i64 a, .int .i64 b, .int .i64 c, .int .i64 d, .int .i64 e, .int .i64 f]
  have hA : Below w.heap.size w (w.alloc (.cells #[.int .i64 i, .int .i64 t, .int .i64 k, .int .i64 a, .int .i64 b, .int .i64 c, .int .i64 d, .int .i64 e, .int .i64 f] 26)) := (Below.refl _ _).alloc (Nat.le_refl _) _
  have c0 := oE.cell 0
  have c1 := oE.cell 1
  have c2 := oE.cell 2
  have c3 := oE.cell 3
  have c4 := oE.cell 4
  have c5 := oE.cell 5
  have c6 := oE.cell 6
  have c7 := oE.cell 7
  have c8 := oE.cell 8
  simp at c0 c1 c2 c3 c4 c5 c6 c7 c8
  have hz := oE.lt
  rcases hk with rfl | rfl | rfl | rfl | rfl | rfl | rfl | rfl | rfl
  all_goals
    go_enter Try.func46, Try.ntmps46
    go_wp2_with fail
    go_ret
    exact ⟨rfl, hA⟩

set_option maxRecDepth 100000 in
set_option maxHeartbeats 4000000 in
theorem words_9 (x : Evt) (hk : x.kind = 9) (w : World) :
    Calls Try.prog 46 #[evV x] w fun e w' => e = .returned (.bool (wordsB x.kind x.b x.c)) ∧ Below w.heap.size w w' := by
  obtain ⟨i, t, k, a, b, c, d, e, f⟩ := x
  simp only at *
  unfold evV
  have oE := Ob.Obj.new w 26 [.int .i64 i, .int .i64 t, .int .i64 k, .int .i64 a, .int .i64 b, .int .i64 c, .int .i64 d, .int .i64 e, .int .i64 f]
  have hA : Below w.heap.size w (w.alloc (.cells #[.int .i64 i, .int .i64 t, .int .i64 k, .int .i64 a, .int .i64 b, .int .i64 c, .int .i64 d, .int .i64 e, .int .i64 f] 26)) := (Below.refl _ _).alloc (Nat.le_refl _) _
  have c0 := oE.cell 0
  have c1 := oE.cell 1
  have c2 := oE.cell 2
  have c3 := oE.cell 3
  have c4 := oE.cell 4
  have c5 := oE.cell 5
  have c6 := oE.cell 6
  have c7 := oE.cell 7
  have c8 := oE.cell 8
  simp at c0 c1 c2 c3 c4 c5 c6 c7 c8
  have hz := oE.lt
  subst hk
  have HW := Lib.hid (fun W => within_any b 0 7 W)
  go_enter Try.func46, Try.ntmps46
  go_wp2_with (go_at_call 29; (with_reducible refine (HW.out _).mono ?_); rintro e w1 ⟨rfl, rfl⟩)
  go_ret
  exact ⟨rfl, hA⟩

set_option maxRecDepth 100000 in
set_option maxHeartbeats 4000000 in
theorem words_14 (x : Evt) (hk : x.kind = 14) (w : World) :
    Calls Try.prog 46 #[evV x] w fun e w' => e = .returned (.bool (wordsB x.kind x.b x.c)) ∧ Below w.heap.size w w' := by
  obtain ⟨i, t, k, a, b, c, d, e, f⟩ := x
  simp only at *
  unfold evV
  have oE := Ob.Obj.new w 26 [.int .i64 i, .int .i64 t, .int .i64 k, .int .i64 a, .int .i64 b, .int .i64 c, .int .i64 d, .int .i64 e, .int .i64 f]
  have hA : Below w.heap.size w (w.alloc (.cells #[.int .i64 i, .int .i64 t, .int .i64 k, .int .i64 a, .int .i64 b, .int .i64 c, .int .i64 d, .int .i64 e, .int .i64 f] 26)) := (Below.refl _ _).alloc (Nat.le_refl _) _
  have c0 := oE.cell 0
  have c1 := oE.cell 1
  have c2 := oE.cell 2
  have c3 := oE.cell 3
  have c4 := oE.cell 4
  have c5 := oE.cell 5
  have c6 := oE.cell 6
  have c7 := oE.cell 7
  have c8 := oE.cell 8
  simp at c0 c1 c2 c3 c4 c5 c6 c7 c8
  have hz := oE.lt
  subst hk
  have HW := Lib.hid (fun W => within_any c 0 1 W)
  go_enter Try.func46, Try.ntmps46
  go_wp2_with (go_at_call 29; (with_reducible refine (HW.out _).mono ?_); rintro e w1 ⟨rfl, rfl⟩)
  go_ret
  exact ⟨rfl, hA⟩

set_option maxRecDepth 100000 in
set_option maxHeartbeats 4000000 in
theorem words_28 (x : Evt) (hk : x.kind = 28) (w : World) :
    Calls Try.prog 46 #[evV x] w fun e w' => e = .returned (.bool (wordsB x.kind x.b x.c)) ∧ Below w.heap.size w w' := by
  obtain ⟨i, t, k, a, b, c, d, e, f⟩ := x
  simp only at *
  unfold evV
  have oE := Ob.Obj.new w 26 [.int .i64 i, .int .i64 t, .int .i64 k, .int .i64 a, .int .i64 b, .int .i64 c, .int .i64 d, .int .i64 e, .int .i64 f]
  have hA : Below w.heap.size w (w.alloc (.cells #[.int .i64 i, .int .i64 t, .int .i64 k, .int .i64 a, .int .i64 b, .int .i64 c, .int .i64 d, .int .i64 e, .int .i64 f] 26)) := (Below.refl _ _).alloc (Nat.le_refl _) _
  have c0 := oE.cell 0
  have c1 := oE.cell 1
  have c2 := oE.cell 2
  have c3 := oE.cell 3
  have c4 := oE.cell 4
  have c5 := oE.cell 5
  have c6 := oE.cell 6
  have c7 := oE.cell 7
  have c8 := oE.cell 8
  simp at c0 c1 c2 c3 c4 c5 c6 c7 c8
  have hz := oE.lt
  subst hk
  have HW := Lib.hid (fun W => within_any c 0 4 W)
  go_enter Try.func46, Try.ntmps46
  go_wp2_with (go_at_call 29; (with_reducible refine (HW.out _).mono ?_); rintro e w1 ⟨rfl, rfl⟩)
  go_ret
  exact ⟨rfl, hA⟩

set_option maxRecDepth 100000 in
set_option maxHeartbeats 4000000 in
theorem words_26 (x : Evt) (hk : x.kind = 26) (w : World) :
    Calls Try.prog 46 #[evV x] w fun e w' => e = .returned (.bool (wordsB x.kind x.b x.c)) ∧ Below w.heap.size w w' := by
  obtain ⟨i, t, k, a, b, c, d, e, f⟩ := x
  simp only at *
  unfold evV
  have oE := Ob.Obj.new w 26 [.int .i64 i, .int .i64 t, .int .i64 k, .int .i64 a, .int .i64 b, .int .i64 c, .int .i64 d, .int .i64 e, .int .i64 f]
  have hA : Below w.heap.size w (w.alloc (.cells #[.int .i64 i, .int .i64 t, .int .i64 k, .int .i64 a, .int .i64 b, .int .i64 c, .int .i64 d, .int .i64 e, .int .i64 f] 26)) := (Below.refl _ _).alloc (Nat.le_refl _) _
  have c0 := oE.cell 0
  have c1 := oE.cell 1
  have c2 := oE.cell 2
  have c3 := oE.cell 3
  have c4 := oE.cell 4
  have c5 := oE.cell 5
  have c6 := oE.cell 6
  have c7 := oE.cell 7
  have c8 := oE.cell 8
  simp at c0 c1 c2 c3 c4 c5 c6 c7 c8
  have hz := oE.lt
  subst hk
  all_goals
    go_enter Try.func46, Try.ntmps46
    go_wp2_with fail
    all_goals go_ret
    all_goals exact ⟨by first | rfl | (simp [wordsB]; done) | (simp [wordsB]; omega), hA⟩

set_option maxRecDepth 100000 in
set_option maxHeartbeats 4000000 in
theorem words_22 (x : Evt) (hk : x.kind = 22 ∨ x.kind = 23) (w : World) :
    Calls Try.prog 46 #[evV x] w fun e w' => e = .returned (.bool (wordsB x.kind x.b x.c)) ∧ Below w.heap.size w w' := by
  obtain ⟨i, t, k, a, b, c, d, e, f⟩ := x
  simp only at *
  unfold evV
  have oE := Ob.Obj.new w 26 [.int .i64 i, .int .i64 t, .int .i64 k, .int .i64 a, .int .i64 b, .int .i64 c, .int .i64 d, .int .i64 e, .int .i64 f]
  have hA : Below w.heap.size w (w.alloc (.cells #[.int .i64 i, .int .i64 t, .int .i64 k, .int .i64 a, .int .i64 b, .int .i64 c, .int .i64 d, .int .i64 e, .int .i64 f] 26)) := (Below.refl _ _).alloc (Nat.le_refl _) _
  have c0 := oE.cell 0
  have c1 := oE.cell 1
  have c2 := oE.cell 2
  have c3 := oE.cell 3
  have c4 := oE.cell 4
  have c5 := oE.cell 5
  have c6 := oE.cell 6
  have c7 := oE.cell 7
  have c8 := oE.cell 8
  simp at c0 c1 c2 c3 c4 c5 c6 c7 c8
  have hz := oE.lt
  rcases hk with rfl | rfl
  all_goals
    go_enter Try.func46, Try.ntmps46
    go_wp2_with fail
    all_goals go_ret
    all_goals exact ⟨by first | rfl | (simp [wordsB]; done) | (simp [wordsB]; omega), hA⟩

set_option maxRecDepth 100000 in
set_option maxHeartbeats 4000000 in
theorem words_24 (x : Evt) (hk : x.kind = 24) (w : World) :
    Calls Try.prog 46 #[evV x] w fun e w' => e = .returned (.bool (wordsB x.kind x.b x.c)) ∧ Below w.heap.size w w' := by
  obtain ⟨i, t, k, a, b, c, d, e, f⟩ := x
  simp only at *
  unfold evV
  have oE := Ob.Obj.new w 26 [.int .i64 i, .int .i64 t, .int .i64 k, .int .i64 a, .int .i64 b, .int .i64 c, .int .i64 d, .int .i64 e, .int .i64 f]
  have hA : Below w.heap.size w (w.alloc (.cells #[.int .i64 i, .int .i64 t, .int .i64 k, .int .i64 a, .int .i64 b, .int .i64 c, .int .i64 d, .int .i64 e, .int .i64 f] 26)) := (Below.refl _ _).alloc (Nat.le_refl _) _
  have c0 := oE.cell 0
  have c1 := oE.cell 1
  have c2 := oE.cell 2
  have c3 := oE.cell 3
  have c4 := oE.cell 4
  have c5 := oE.cell 5
  have c6 := oE.cell 6
  have c7 := oE.cell 7
  have c8 := oE.cell 8
  simp at c0 c1 c2 c3 c4 c5 c6 c7 c8
  have hz := oE.lt
  subst hk
  have HW := Lib.hid (fun W => within_any b 1 4 W)
  have HS := Lib.hid (show wordsB 24 b c = (win b 1 4 && decide (1 ≤ c)) from rfl)
  cases hb : win b 1 4 with
  | false =>
    rw [hb] at HW HS
    clear hb
    go_enter Try.func46, Try.ntmps46
    go_wp2_with (go_at_call 29; (with_reducible refine (HW.out _).mono ?_); rintro e w1 ⟨rfl, rfl⟩)
    go_ret
    exact ⟨by rw [HS.out]; rfl, hA⟩
  | true =>
    rw [hb] at HW HS
    clear hb
    go_enter Try.func46, Try.ntmps46
    go_wp2_with (go_at_call 29; (with_reducible refine (HW.out _).mono ?_); rintro e w1 ⟨rfl, rfl⟩)
    go_ret
    exact ⟨by rw [HS.out, Bool.true_and]; rfl, hA⟩

theorem words_any (x : Evt) (hk : x.kind = 2 ∨ x.kind = 6 ∨ x.kind = 7 ∨ x.kind = 8 ∨ x.kind = 9 ∨ x.kind = 12 ∨ x.kind = 13 ∨ x.kind = 14 ∨ x.kind = 22 ∨ x.kind = 23 ∨ x.kind = 24 ∨ x.kind = 25 ∨ x.kind = 26 ∨ x.kind = 27 ∨ x.kind = 28 ∨ x.kind = 29) (w : World) :
    Calls Try.prog 46 #[evV x] w fun e w' => e = .returned (.bool (wordsB x.kind x.b x.c)) ∧ Below w.heap.size w w' := by
  rcases hk with h | h | h | h | h | h | h | h | h | h | h | h | h | h | h | h
  · exact words_0 x (by omega) w
  · exact words_0 x (by omega) w
  · exact words_0 x (by omega) w
  · exact words_0 x (by omega) w
  · exact words_9 x h w
  · exact words_0 x (by omega) w
  · exact words_0 x (by omega) w
  · exact words_14 x h w
  · exact words_22 x (by omega) w
  · exact words_22 x (by omega) w
  · exact words_24 x h w
  · exact words_0 x (by omega) w
  · exact words_26 x h w
  · exact words_0 x (by omega) w
  · exact words_28 x h w
  · exact words_0 x (by omega) w

set_option maxRecDepth 100000 in
set_option maxHeartbeats 4000000 in
theorem nmb_0 (x : Evt) (hk : x.kind = 11 ∨ x.kind = 15 ∨ x.kind = 16 ∨ x.kind = 17 ∨ x.kind = 30 ∨ x.kind = 31) (w : World) :
    Calls Try.prog 31 #[evV x] w fun e w' => e = .returned (.bool (nmbB x)) ∧ Below w.heap.size w w' := by
  obtain ⟨i, t, k, a, b, c, d, e, f⟩ := x
  simp only at *
  unfold evV
  have oE := Ob.Obj.new w 26 [.int .i64 i, .int .i64 t, .int .i64 k, .int .i64 a, .int .i64 b, .int .i64 c, .int .i64 d, .int .i64 e, .int .i64 f]
  have hA : Below w.heap.size w (w.alloc (.cells #[.int .i64 i, .int .i64 t, .int .i64 k, .int .i64 a, .int .i64 b, .int .i64 c, .int .i64 d, .int .i64 e, .int .i64 f] 26)) := (Below.refl _ _).alloc (Nat.le_refl _) _
  have c0 := oE.cell 0
  have c1 := oE.cell 1
  have c2 := oE.cell 2
  have c3 := oE.cell 3
  have c4 := oE.cell 4
  have c5 := oE.cell 5
  have c6 := oE.cell 6
  have c7 := oE.cell 7
  have c8 := oE.cell 8
  simp at c0 c1 c2 c3 c4 c5 c6 c7 c8
  have hz := oE.lt
  rcases hk with rfl | rfl | rfl | rfl | rfl | rfl
  all_goals
    go_enter Try.func31, Try.ntmps31
    go_wp2_with fail
    go_ret
    exact ⟨rfl, hA⟩

set_option maxRecDepth 100000 in
set_option maxHeartbeats 4000000 in
theorem nmb_3 (x : Evt) (hk : x.kind = 3) (w : World) :
    Calls Try.prog 31 #[evV x] w fun e w' => e = .returned (.bool (nmbB x)) ∧ Below w.heap.size w w' := by
  obtain ⟨i, t, k, a, b, c, d, e, f⟩ := x
  simp only at *
  unfold evV
  have oE := Ob.Obj.new w 26 [.int .i64 i, .int .i64 t, .int .i64 k, .int .i64 a, .int .i64 b, .int .i64 c, .int .i64 d, .int .i64 e, .int .i64 f]
  have hA : Below w.heap.size w (w.alloc (.cells #[.int .i64 i, .int .i64 t, .int .i64 k, .int .i64 a, .int .i64 b, .int .i64 c, .int .i64 d, .int .i64 e, .int .i64 f] 26)) := (Below.refl _ _).alloc (Nat.le_refl _) _
  have c0 := oE.cell 0
  have c1 := oE.cell 1
  have c2 := oE.cell 2
  have c3 := oE.cell 3
  have c4 := oE.cell 4
  have c5 := oE.cell 5
  have c6 := oE.cell 6
  have c7 := oE.cell 7
  have c8 := oE.cell 8
  simp at c0 c1 c2 c3 c4 c5 c6 c7 c8
  have hz := oE.lt
  subst hk
  have HW := Lib.hid (fun W => within_any a 0 7 W)
  go_enter Try.func31, Try.ntmps31
  go_wp2_with (go_at_call 29; (with_reducible refine (HW.out _).mono ?_); rintro e w1 ⟨rfl, rfl⟩)
  go_ret
  exact ⟨rfl, hA⟩

set_option maxRecDepth 100000 in
set_option maxHeartbeats 4000000 in
theorem nmb_10 (x : Evt) (hk : x.kind = 10) (w : World) :
    Calls Try.prog 31 #[evV x] w fun e w' => e = .returned (.bool (nmbB x)) ∧ Below w.heap.size w w' := by
  obtain ⟨i, t, k, a, b, c, d, e, f⟩ := x
  simp only at *
  unfold evV
  have oE := Ob.Obj.new w 26 [.int .i64 i, .int .i64 t, .int .i64 k, .int .i64 a, .int .i64 b, .int .i64 c, .int .i64 d, .int .i64 e, .int .i64 f]
  have hA : Below w.heap.size w (w.alloc (.cells #[.int .i64 i, .int .i64 t, .int .i64 k, .int .i64 a, .int .i64 b, .int .i64 c, .int .i64 d, .int .i64 e, .int .i64 f] 26)) := (Below.refl _ _).alloc (Nat.le_refl _) _
  have c0 := oE.cell 0
  have c1 := oE.cell 1
  have c2 := oE.cell 2
  have c3 := oE.cell 3
  have c4 := oE.cell 4
  have c5 := oE.cell 5
  have c6 := oE.cell 6
  have c7 := oE.cell 7
  have c8 := oE.cell 8
  simp at c0 c1 c2 c3 c4 c5 c6 c7 c8
  have hz := oE.lt
  subst hk
  have HW := Lib.hid (fun W => within_any a 0 3 W)
  go_enter Try.func31, Try.ntmps31
  go_wp2_with (go_at_call 29; (with_reducible refine (HW.out _).mono ?_); rintro e w1 ⟨rfl, rfl⟩)
  go_ret
  exact ⟨rfl, hA⟩

set_option maxRecDepth 100000 in
set_option maxHeartbeats 4000000 in
theorem nmb_5 (x : Evt) (hk : x.kind = 5) (w : World) :
    Calls Try.prog 31 #[evV x] w fun e w' => e = .returned (.bool (nmbB x)) ∧ Below w.heap.size w w' := by
  obtain ⟨i, t, k, a, b, c, d, e, f⟩ := x
  simp only at *
  unfold evV
  have oE := Ob.Obj.new w 26 [.int .i64 i, .int .i64 t, .int .i64 k, .int .i64 a, .int .i64 b, .int .i64 c, .int .i64 d, .int .i64 e, .int .i64 f]
  have hA : Below w.heap.size w (w.alloc (.cells #[.int .i64 i, .int .i64 t, .int .i64 k, .int .i64 a, .int .i64 b, .int .i64 c, .int .i64 d, .int .i64 e, .int .i64 f] 26)) := (Below.refl _ _).alloc (Nat.le_refl _) _
  have c0 := oE.cell 0
  have c1 := oE.cell 1
  have c2 := oE.cell 2
  have c3 := oE.cell 3
  have c4 := oE.cell 4
  have c5 := oE.cell 5
  have c6 := oE.cell 6
  have c7 := oE.cell 7
  have c8 := oE.cell 8
  simp at c0 c1 c2 c3 c4 c5 c6 c7 c8
  have hz := oE.lt
  subst hk
  have HW := Lib.hid (fun W => within_any a 0 7 W)
  go_enter Try.func31, Try.ntmps31
  go_wp2_with (go_at_call 29; (with_reducible refine (HW.out _).mono ?_); rintro e w1 ⟨rfl, rfl⟩)
  go_ret
  exact ⟨rfl, hA⟩

set_option maxRecDepth 100000 in
set_option maxHeartbeats 4000000 in
theorem nmb_18 (x : Evt) (hk : x.kind = 18) (w : World) :
    Calls Try.prog 31 #[evV x] w fun e w' => e = .returned (.bool (nmbB x)) ∧ Below w.heap.size w w' := by
  obtain ⟨i, t, k, a, b, c, d, e, f⟩ := x
  simp only at *
  unfold evV
  have oE := Ob.Obj.new w 26 [.int .i64 i, .int .i64 t, .int .i64 k, .int .i64 a, .int .i64 b, .int .i64 c, .int .i64 d, .int .i64 e, .int .i64 f]
  have hA : Below w.heap.size w (w.alloc (.cells #[.int .i64 i, .int .i64 t, .int .i64 k, .int .i64 a, .int .i64 b, .int .i64 c, .int .i64 d, .int .i64 e, .int .i64 f] 26)) := (Below.refl _ _).alloc (Nat.le_refl _) _
  have c0 := oE.cell 0
  have c1 := oE.cell 1
  have c2 := oE.cell 2
  have c3 := oE.cell 3
  have c4 := oE.cell 4
  have c5 := oE.cell 5
  have c6 := oE.cell 6
  have c7 := oE.cell 7
  have c8 := oE.cell 8
  simp at c0 c1 c2 c3 c4 c5 c6 c7 c8
  have hz := oE.lt
  subst hk
  go_enter Try.func31, Try.ntmps31
  go_wp2_with fail
  go_ret
  exact ⟨rfl, hA⟩

set_option maxRecDepth 100000 in
set_option maxHeartbeats 4000000 in
theorem nmb_4 (x : Evt) (hk : x.kind = 4) (w : World) :
    Calls Try.prog 31 #[evV x] w fun e w' => e = .returned (.bool (nmbB x)) ∧ Below w.heap.size w w' := by
  obtain ⟨i, t, k, a, b, c, d, e, f⟩ := x
  simp only at *
  unfold evV
  have oE := Ob.Obj.new w 26 [.int .i64 i, .int .i64 t, .int .i64 k, .int .i64 a, .int .i64 b, .int .i64 c, .int .i64 d, .int .i64 e, .int .i64 f]
  have hA : Below w.heap.size w (w.alloc (.cells #[.int .i64 i, .int .i64 t, .int .i64 k, .int .i64 a, .int .i64 b, .int .i64 c, .int .i64 d, .int .i64 e, .int .i64 f] 26)) := (Below.refl _ _).alloc (Nat.le_refl _) _
  have c0 := oE.cell 0
  have c1 := oE.cell 1
  have c2 := oE.cell 2
  have c3 := oE.cell 3
  have c4 := oE.cell 4
  have c5 := oE.cell 5
  have c6 := oE.cell 6
  have c7 := oE.cell 7
  have c8 := oE.cell 8
  simp at c0 c1 c2 c3 c4 c5 c6 c7 c8
  have hz := oE.lt
  subst hk
  have oE2 := oE.alloc (.cells #[.int .i64 a] 2)
  have oN := Ob.Obj.new (w.alloc (.cells #[.int .i64 i, .int .i64 t, .int .i64 4, .int .i64 a, .int .i64 b, .int .i64 c, .int .i64 d, .int .i64 e, .int .i64 f] 26)) 2 [.int .i64 a]
  have hA2 := hA.alloc hA.size (.cells #[.int .i64 a] 2)
  have d3 := oE2.cell 3
  simp at d3
  have hsz : (w.alloc (.cells #[.int .i64 i, .int .i64 t, .int .i64 4, .int .i64 a, .int .i64 b, .int .i64 c, .int .i64 d, .int .i64 e, .int .i64 f] 26)).heap.size = w.heap.size + 1 := by simp
  rw [hsz] at oN
  have HN := Lib.hid (natural_any (w.heap.size + 1) [a] 1 _ rfl oN (by simp))
  clear hsz oN oE2
  go_enter Try.func31, Try.ntmps31
  go_wp2_with (go_at_call 45; (with_reducible refine HN.out.mono ?_); rintro e w1 ⟨rfl, rfl⟩)
  go_ret
  exact ⟨by first | rfl | (simp [nmbB]; done), hA2⟩

set_option maxRecDepth 100000 in
set_option maxHeartbeats 4000000 in
theorem nmb_20 (x : Evt) (hk : x.kind = 20) (w : World) :
    Calls Try.prog 31 #[evV x] w fun e w' => e = .returned (.bool (nmbB x)) ∧ Below w.heap.size w w' := by
  obtain ⟨i, t, k, a, b, c, d, e, f⟩ := x
  simp only at *
  unfold evV
  have oE := Ob.Obj.new w 26 [.int .i64 i, .int .i64 t, .int .i64 k, .int .i64 a, .int .i64 b, .int .i64 c, .int .i64 d, .int .i64 e, .int .i64 f]
  have hA : Below w.heap.size w (w.alloc (.cells #[.int .i64 i, .int .i64 t, .int .i64 k, .int .i64 a, .int .i64 b, .int .i64 c, .int .i64 d, .int .i64 e, .int .i64 f] 26)) := (Below.refl _ _).alloc (Nat.le_refl _) _
  have c0 := oE.cell 0
  have c1 := oE.cell 1
  have c2 := oE.cell 2
  have c3 := oE.cell 3
  have c4 := oE.cell 4
  have c5 := oE.cell 5
  have c6 := oE.cell 6
  have c7 := oE.cell 7
  have c8 := oE.cell 8
  simp at c0 c1 c2 c3 c4 c5 c6 c7 c8
  have hz := oE.lt
  subst hk
  have oE2 := oE.alloc (.cells #[.int .i64 a] 2)
  have oN := Ob.Obj.new (w.alloc (.cells #[.int .i64 i, .int .i64 t, .int .i64 20, .int .i64 a, .int .i64 b, .int .i64 c, .int .i64 d, .int .i64 e, .int .i64 f] 26)) 2 [.int .i64 a]
  have hA2 := hA.alloc hA.size (.cells #[.int .i64 a] 2)
  have d3 := oE2.cell 3
  simp at d3
  have hsz : (w.alloc (.cells #[.int .i64 i, .int .i64 t, .int .i64 20, .int .i64 a, .int .i64 b, .int .i64 c, .int .i64 d, .int .i64 e, .int .i64 f] 26)).heap.size = w.heap.size + 1 := by simp
  rw [hsz] at oN
  have HN := Lib.hid (natural_any (w.heap.size + 1) [a] 1 _ rfl oN (by simp))
  clear hsz oN oE2
  go_enter Try.func31, Try.ntmps31
  go_wp2_with (go_at_call 45; (with_reducible refine HN.out.mono ?_); rintro e w1 ⟨rfl, rfl⟩)
  go_ret
  exact ⟨by first | rfl | (simp [nmbB]; done), hA2⟩

set_option maxRecDepth 100000 in
set_option maxHeartbeats 4000000 in
theorem nmb_1 (x : Evt) (hk : x.kind = 1) (w : World) :
    Calls Try.prog 31 #[evV x] w fun e w' => e = .returned (.bool (nmbB x)) ∧ Below w.heap.size w w' := by
  obtain ⟨i, t, k, a, b, c, d, e, f⟩ := x
  simp only at *
  unfold evV
  have oE := Ob.Obj.new w 26 [.int .i64 i, .int .i64 t, .int .i64 k, .int .i64 a, .int .i64 b, .int .i64 c, .int .i64 d, .int .i64 e, .int .i64 f]
  have hA : Below w.heap.size w (w.alloc (.cells #[.int .i64 i, .int .i64 t, .int .i64 k, .int .i64 a, .int .i64 b, .int .i64 c, .int .i64 d, .int .i64 e, .int .i64 f] 26)) := (Below.refl _ _).alloc (Nat.le_refl _) _
  have c0 := oE.cell 0
  have c1 := oE.cell 1
  have c2 := oE.cell 2
  have c3 := oE.cell 3
  have c4 := oE.cell 4
  have c5 := oE.cell 5
  have c6 := oE.cell 6
  have c7 := oE.cell 7
  have c8 := oE.cell 8
  simp at c0 c1 c2 c3 c4 c5 c6 c7 c8
  have hz := oE.lt
  subst hk
  have oE2 := oE.alloc (.cells #[.int .i64 c, .int .i64 d, .int .i64 e, .int .i64 f] 2)
  have oN := Ob.Obj.new (w.alloc (.cells #[.int .i64 i, .int .i64 t, .int .i64 1, .int .i64 a, .int .i64 b, .int .i64 c, .int .i64 d, .int .i64 e, .int .i64 f] 26)) 2 [.int .i64 c, .int .i64 d, .int .i64 e, .int .i64 f]
  have hA2 := hA.alloc hA.size (.cells #[.int .i64 c, .int .i64 d, .int .i64 e, .int .i64 f] 2)
  have d3 := oE2.cell 3
  simp at d3
  have hsz : (w.alloc (.cells #[.int .i64 i, .int .i64 t, .int .i64 1, .int .i64 a, .int .i64 b, .int .i64 c, .int .i64 d, .int .i64 e, .int .i64 f] 26)).heap.size = w.heap.size + 1 := by simp
  rw [hsz] at oN
  have HN := Lib.hid (natural_any (w.heap.size + 1) [c, d, e, f] 4 _ rfl oN (by simp))
  clear hsz oN oE2
  have HW := Lib.hid (fun W => within_any a 0 7 W)
  have HS := Lib.hid (show nmbB ⟨i, t, 1, a, b, c, d, e, f⟩ = (([c, d, e, f].all fun v => decide (0 ≤ v)) && win a 0 7) from rfl)
  generalize ([c, d, e, f].all fun v => decide (0 ≤ v)) = nb at *
  cases nb with
  | false =>
    go_enter Try.func31, Try.ntmps31
    go_wp2_with (first | (go_at_call 45; (with_reducible refine HN.out.mono ?_); rintro e w1 ⟨rfl, rfl⟩) | (go_at_call 29; (with_reducible refine (HW.out _).mono ?_); rintro e w1 ⟨rfl, rfl⟩))
    go_ret
    exact ⟨by rw [HS.out]; rfl, hA2⟩
  | true =>
    go_enter Try.func31, Try.ntmps31
    go_wp2_with (first | (go_at_call 45; (with_reducible refine HN.out.mono ?_); rintro e w1 ⟨rfl, rfl⟩) | (go_at_call 29; (with_reducible refine (HW.out _).mono ?_); rintro e w1 ⟨rfl, rfl⟩))
    go_ret
    exact ⟨by rw [HS.out]; rfl, hA2⟩

set_option maxRecDepth 100000 in
set_option maxHeartbeats 4000000 in
theorem nmb_19 (x : Evt) (hk : x.kind = 19) (w : World) :
    Calls Try.prog 31 #[evV x] w fun e w' => e = .returned (.bool (nmbB x)) ∧ Below w.heap.size w w' := by
  obtain ⟨i, t, k, a, b, c, d, e, f⟩ := x
  simp only at *
  unfold evV
  have oE := Ob.Obj.new w 26 [.int .i64 i, .int .i64 t, .int .i64 k, .int .i64 a, .int .i64 b, .int .i64 c, .int .i64 d, .int .i64 e, .int .i64 f]
  have hA : Below w.heap.size w (w.alloc (.cells #[.int .i64 i, .int .i64 t, .int .i64 k, .int .i64 a, .int .i64 b, .int .i64 c, .int .i64 d, .int .i64 e, .int .i64 f] 26)) := (Below.refl _ _).alloc (Nat.le_refl _) _
  have c0 := oE.cell 0
  have c1 := oE.cell 1
  have c2 := oE.cell 2
  have c3 := oE.cell 3
  have c4 := oE.cell 4
  have c5 := oE.cell 5
  have c6 := oE.cell 6
  have c7 := oE.cell 7
  have c8 := oE.cell 8
  simp at c0 c1 c2 c3 c4 c5 c6 c7 c8
  have hz := oE.lt
  subst hk
  have oE2 := oE.alloc (.cells #[.int .i64 c] 2)
  have oN := Ob.Obj.new (w.alloc (.cells #[.int .i64 i, .int .i64 t, .int .i64 19, .int .i64 a, .int .i64 b, .int .i64 c, .int .i64 d, .int .i64 e, .int .i64 f] 26)) 2 [.int .i64 c]
  have hA2 := hA.alloc hA.size (.cells #[.int .i64 c] 2)
  have d3 := oE2.cell 3
  simp at d3
  have hsz : (w.alloc (.cells #[.int .i64 i, .int .i64 t, .int .i64 19, .int .i64 a, .int .i64 b, .int .i64 c, .int .i64 d, .int .i64 e, .int .i64 f] 26)).heap.size = w.heap.size + 1 := by simp
  rw [hsz] at oN
  have HN := Lib.hid (natural_any (w.heap.size + 1) [c] 1 _ rfl oN (by simp))
  clear hsz oN oE2
  have HW := Lib.hid (fun W => within_any a 0 7 W)
  have HS := Lib.hid (show nmbB ⟨i, t, 19, a, b, c, d, e, f⟩ = (win a 0 7 && ([c].all fun v => decide (0 ≤ v))) from rfl)
  generalize ([c].all fun v => decide (0 ≤ v)) = nb at *
  generalize win a 0 7 = wb at *
  cases wb with
  | false =>
    go_enter Try.func31, Try.ntmps31
    go_wp2_with (first | (go_at_call 45; (with_reducible refine HN.out.mono ?_); rintro e w1 ⟨rfl, rfl⟩) | (go_at_call 29; (with_reducible refine (HW.out _).mono ?_); rintro e w1 ⟨rfl, rfl⟩))
    go_ret
    exact ⟨by rw [HS.out]; rfl, hA⟩
  | true =>
    go_enter Try.func31, Try.ntmps31
    go_wp2_with (first | (go_at_call 45; (with_reducible refine HN.out.mono ?_); rintro e w1 ⟨rfl, rfl⟩) | (go_at_call 29; (with_reducible refine (HW.out _).mono ?_); rintro e w1 ⟨rfl, rfl⟩))
    go_ret
    exact ⟨by rw [HS.out]; rfl, hA2⟩

set_option maxRecDepth 100000 in
set_option maxHeartbeats 4000000 in
theorem nmb_21 (x : Evt) (hk : x.kind = 21) (w : World) :
    Calls Try.prog 31 #[evV x] w fun e w' => e = .returned (.bool (nmbB x)) ∧ Below w.heap.size w w' := by
  obtain ⟨i, t, k, a, b, c, d, e, f⟩ := x
  simp only at *
  unfold evV
  have oE := Ob.Obj.new w 26 [.int .i64 i, .int .i64 t, .int .i64 k, .int .i64 a, .int .i64 b, .int .i64 c, .int .i64 d, .int .i64 e, .int .i64 f]
  have hA : Below w.heap.size w (w.alloc (.cells #[.int .i64 i, .int .i64 t, .int .i64 k, .int .i64 a, .int .i64 b, .int .i64 c, .int .i64 d, .int .i64 e, .int .i64 f] 26)) := (Below.refl _ _).alloc (Nat.le_refl _) _
  have c0 := oE.cell 0
  have c1 := oE.cell 1
  have c2 := oE.cell 2
  have c3 := oE.cell 3
  have c4 := oE.cell 4
  have c5 := oE.cell 5
  have c6 := oE.cell 6
  have c7 := oE.cell 7
  have c8 := oE.cell 8
  simp at c0 c1 c2 c3 c4 c5 c6 c7 c8
  have hz := oE.lt
  subst hk
  have oE2 := oE.alloc (.cells #[.int .i64 c] 2)
  have oN := Ob.Obj.new (w.alloc (.cells #[.int .i64 i, .int .i64 t, .int .i64 21, .int .i64 a, .int .i64 b, .int .i64 c, .int .i64 d, .int .i64 e, .int .i64 f] 26)) 2 [.int .i64 c]
  have hA2 := hA.alloc hA.size (.cells #[.int .i64 c] 2)
  have d3 := oE2.cell 3
  simp at d3
  have hsz : (w.alloc (.cells #[.int .i64 i, .int .i64 t, .int .i64 21, .int .i64 a, .int .i64 b, .int .i64 c, .int .i64 d, .int .i64 e, .int .i64 f] 26)).heap.size = w.heap.size + 1 := by simp
  rw [hsz] at oN
  have HN := Lib.hid (natural_any (w.heap.size + 1) [c] 1 _ rfl oN (by simp))
  clear hsz oN oE2
  have HW := Lib.hid (fun W => within_any a 0 7 W)
  have HS := Lib.hid (show nmbB ⟨i, t, 21, a, b, c, d, e, f⟩ = (win a 0 7 && ([c].all fun v => decide (0 ≤ v))) from rfl)
  generalize ([c].all fun v => decide (0 ≤ v)) = nb at *
  generalize win a 0 7 = wb at *
  cases wb with
  | false =>
    go_enter Try.func31, Try.ntmps31
    go_wp2_with (first | (go_at_call 45; (with_reducible refine HN.out.mono ?_); rintro e w1 ⟨rfl, rfl⟩) | (go_at_call 29; (with_reducible refine (HW.out _).mono ?_); rintro e w1 ⟨rfl, rfl⟩))
    go_ret
    exact ⟨by rw [HS.out]; rfl, hA⟩
  | true =>
    go_enter Try.func31, Try.ntmps31
    go_wp2_with (first | (go_at_call 45; (with_reducible refine HN.out.mono ?_); rintro e w1 ⟨rfl, rfl⟩) | (go_at_call 29; (with_reducible refine (HW.out _).mono ?_); rintro e w1 ⟨rfl, rfl⟩))
    go_ret
    exact ⟨by rw [HS.out]; rfl, hA2⟩

set_option maxRecDepth 100000 in
set_option maxHeartbeats 4000000 in
theorem nmb_2 (x : Evt) (hk : x.kind = 2 ∨ x.kind = 6 ∨ x.kind = 7 ∨ x.kind = 8 ∨ x.kind = 9 ∨ x.kind = 12 ∨ x.kind = 13 ∨ x.kind = 14 ∨ x.kind = 22 ∨ x.kind = 23 ∨ x.kind = 24 ∨ x.kind = 25 ∨ x.kind = 26 ∨ x.kind = 27 ∨ x.kind = 28 ∨ x.kind = 29) (w : World) :
    Calls Try.prog 31 #[evV x] w fun e w' => e = .returned (.bool (nmbB x)) ∧ Below w.heap.size w w' := by
  obtain ⟨i, t, k, a, b, c, d, e, f⟩ := x
  simp only at *
  unfold evV
  have oE := Ob.Obj.new w 26 [.int .i64 i, .int .i64 t, .int .i64 k, .int .i64 a, .int .i64 b, .int .i64 c, .int .i64 d, .int .i64 e, .int .i64 f]
  have hA : Below w.heap.size w (w.alloc (.cells #[.int .i64 i, .int .i64 t, .int .i64 k, .int .i64 a, .int .i64 b, .int .i64 c, .int .i64 d, .int .i64 e, .int .i64 f] 26)) := (Below.refl _ _).alloc (Nat.le_refl _) _
  have c0 := oE.cell 0
  have c1 := oE.cell 1
  have c2 := oE.cell 2
  have c3 := oE.cell 3
  have c4 := oE.cell 4
  have c5 := oE.cell 5
  have c6 := oE.cell 6
  have c7 := oE.cell 7
  have c8 := oE.cell 8
  simp at c0 c1 c2 c3 c4 c5 c6 c7 c8
  have hz := oE.lt
  have HWO := Lib.hid (fun W => words_any ⟨i, t, k, a, b, c, d, e, f⟩ hk W)
  unfold evV at HWO
  simp only at HWO
  have HS := Lib.hid (show nmbB ⟨i, t, k, a, b, c, d, e, f⟩ = (decide (1 ≤ a) && wordsB k b c) from by rcases hk with rfl | rfl | rfl | rfl | rfl | rfl | rfl | rfl | rfl | rfl | rfl | rfl | rfl | rfl | rfl | rfl <;> rfl)
  by_cases ha : 1 ≤ a
  · have ha2 : a ≥ 1 := ha
    have HS2 := Lib.hid (show nmbB ⟨i, t, k, a, b, c, d, e, f⟩ = wordsB k b c by rw [HS.out]; simp [ha])
    clear HS
    generalize nmbB ⟨i, t, k, a, b, c, d, e, f⟩ = nm at *
    rcases hk with rfl | rfl | rfl | rfl | rfl | rfl | rfl | rfl | rfl | rfl | rfl | rfl | rfl | rfl | rfl | rfl
    all_goals
      go_enter Try.func31, Try.ntmps31
      go_wp2_with (go_at_call 46; (with_reducible refine (HWO.out _).mono ?_); rintro e w1 ⟨rfl, hb1⟩)
      go_ret
      exact ⟨by rw [HS2.out]; rfl, hA.trans (hb1.mono hA.size)⟩
  · have ha2 : decide (a ≥ 1) = false := by simpa using ha
    have HS2 := Lib.hid (show nmbB ⟨i, t, k, a, b, c, d, e, f⟩ = false by rw [HS.out]; simp [ha])
    clear HS HWO
    generalize nmbB ⟨i, t, k, a, b, c, d, e, f⟩ = nm at *
    rcases hk with rfl | rfl | rfl | rfl | rfl | rfl | rfl | rfl | rfl | rfl | rfl | rfl | rfl | rfl | rfl | rfl
    all_goals
      go_enter Try.func31, Try.ntmps31
      go_wp2_with fail
      go_ret
      exact ⟨by rw [HS2.out]; rfl, hA⟩

theorem nmb_any (x : Evt) (h1 : 1 ≤ x.kind) (h2 : x.kind ≤ 31) (w : World) :
    Calls Try.prog 31 #[evV x] w fun e w' => e = .returned (.bool (nmbB x)) ∧ Below w.heap.size w w' := by
  have h : x.kind = 1 ∨ x.kind = 2 ∨ x.kind = 3 ∨ x.kind = 4 ∨ x.kind = 5 ∨ x.kind = 6 ∨ x.kind = 7 ∨ x.kind = 8 ∨ x.kind = 9 ∨ x.kind = 10 ∨ x.kind = 11 ∨ x.kind = 12 ∨ x.kind = 13 ∨ x.kind = 14 ∨ x.kind = 15 ∨ x.kind = 16 ∨ x.kind = 17 ∨ x.kind = 18 ∨ x.kind = 19 ∨ x.kind = 20 ∨ x.kind = 21 ∨ x.kind = 22 ∨ x.kind = 23 ∨ x.kind = 24 ∨ x.kind = 25 ∨ x.kind = 26 ∨ x.kind = 27 ∨ x.kind = 28 ∨ x.kind = 29 ∨ x.kind = 30 ∨ x.kind = 31 := by omega
  rcases h with h | h | h | h | h | h | h | h | h | h | h | h | h | h | h | h | h | h | h | h | h | h | h | h | h | h | h | h | h | h | h
  · exact nmb_1 x h w
  · exact nmb_2 x (by omega) w
  · exact nmb_3 x h w
  · exact nmb_4 x h w
  · exact nmb_5 x h w
  · exact nmb_2 x (by omega) w
  · exact nmb_2 x (by omega) w
  · exact nmb_2 x (by omega) w
  · exact nmb_2 x (by omega) w
  · exact nmb_10 x h w
  · exact nmb_0 x (by omega) w
  · exact nmb_2 x (by omega) w
  · exact nmb_2 x (by omega) w
  · exact nmb_2 x (by omega) w
  · exact nmb_0 x (by omega) w
  · exact nmb_0 x (by omega) w
  · exact nmb_0 x (by omega) w
  · exact nmb_18 x h w
  · exact nmb_19 x h w
  · exact nmb_20 x h w
  · exact nmb_21 x h w
  · exact nmb_2 x (by omega) w
  · exact nmb_2 x (by omega) w
  · exact nmb_2 x (by omega) w
  · exact nmb_2 x (by omega) w
  · exact nmb_2 x (by omega) w
  · exact nmb_2 x (by omega) w
  · exact nmb_2 x (by omega) w
  · exact nmb_2 x (by omega) w
  · exact nmb_0 x (by omega) w
  · exact nmb_0 x (by omega) w

end Ev
end Go.Proofs.Ytojbcdkiilcppaa

/-
  The program's Valid (P14.2).
-/
namespace Go.Proofs.Ytojbcdkiilcppaa
open Go.RowKit
set_option linter.unusedSimpArgs false
set_option linter.unusedVariables false
namespace Ev

set_option maxRecDepth 100000 in
set_option maxHeartbeats 8000000 in
theorem validD_any (x : Evt) (hI : EvIn x) (w : World) :
    Calls Try.prog 16 #[evV x] w fun e w' => e = .returned (.bool (validB x)) ∧ Below w.heap.size w w' := by
  have HF := Lib.hid (fun W => fields_any x.kind W)
  have HR := Lib.hid (fun (h : 0 ≤ fields x.kind) W => rest_any x h W)
  have HM := Lib.hid (fun (h : 0 ≤ fields x.kind) W => nmb_any x (kind_in h).1 (kind_in h).2 W)
  have HV := Lib.hid (fun (h : 0 ≤ fields x.kind) => valid_parts hI h)
  have HV1 := Lib.hid (fun h => valid_head (x := x) h)
  clear hI
  generalize restB x = rb at *
  generalize nmbB x = nb at *
  generalize validB x = vb at *
  obtain ⟨i, t, k, a, b, c, d, e, f⟩ := x
  simp only at *
  unfold evV
  have oE := Ob.Obj.new w 26 [.int .i64 i, .int .i64 t, .int .i64 k, .int .i64 a, .int .i64 b, .int .i64 c, .int .i64 d, .int .i64 e, .int .i64 f]
  have hA : Below w.heap.size w (w.alloc (.cells #[.int .i64 i, .int .i64 t, .int .i64 k, .int .i64 a, .int .i64 b, .int .i64 c, .int .i64 d, .int .i64 e, .int .i64 f] 26)) := (Below.refl _ _).alloc (Nat.le_refl _) _
  have c0 := oE.cell 0
  have c1 := oE.cell 1
  have c2 := oE.cell 2
  have c3 := oE.cell 3
  have c4 := oE.cell 4
  have c5 := oE.cell 5
  have c6 := oE.cell 6
  have c7 := oE.cell 7
  have c8 := oE.cell 8
  simp at c0 c1 c2 c3 c4 c5 c6 c7 c8
  have hz := oE.lt
  have HW1 := Lib.hid (fun W => within_any i 1 256 W)
  have HW2 := Lib.hid (fun W => within_any t 0 1099511627776 W)
  simp only at *
  unfold evV at HR HM
  simp only at HR HM
  generalize fields k = n at *
  cases h1 : win i 1 256 with
  | false =>
    rw [h1] at HW1 HV
    obtain rfl : vb = false := HV1.out (by unfold win at h1; simp at h1; omega)
    clear h1 HV HV1 HR HM
    go_enter Try.func16, Try.ntmps16
    go_wp2_with (go_at_call 29; (with_reducible refine (HW1.out _).mono ?_); rintro e w1 ⟨rfl, rfl⟩)
    go_ret
    exact ⟨rfl, hA⟩
  | true =>
    rw [h1] at HW1 HV
    clear h1
    cases h2 : win t 0 1099511627776 with
    | false =>
      rw [h2] at HW2 HV
      obtain rfl : vb = false := HV1.out (by unfold win at h2; simp at h2; omega)
      clear h2 HV HV1 HR HM
      have tk := trivial
      go_enter Try.func16, Try.ntmps16
      go_wp2_with (first
      | (go_at_call 29; have _t := tk; clear _t tk; (with_reducible refine (HW1.out _).mono ?_); rintro e w1 ⟨rfl, rfl⟩)
      | (go_at_call 29; (with_reducible refine (HW2.out _).mono ?_); rintro e w1 ⟨rfl, rfl⟩))
      go_ret
      exact ⟨rfl, hA⟩
    | true =>
      rw [h2] at HW2 HV
      clear h2
      by_cases hn : n < 0
      · obtain rfl : vb = false := HV1.out (.inl hn)
        have hn2 : decide (n ≥ 0) = false := by simp; omega
        clear HV HV1 HR HM
        have tk := trivial
        go_enter Try.func16, Try.ntmps16
        go_wp2_with (first
      | (go_at_call 29; have _t := tk; clear _t tk; (with_reducible refine (HW1.out _).mono ?_); rintro e w1 ⟨rfl, rfl⟩)
      | (go_at_call 29; (with_reducible refine (HW2.out _).mono ?_); rintro e w1 ⟨rfl, rfl⟩)
      | (go_at_call 10; (with_reducible refine (HF.out _).mono ?_); rintro e w1 ⟨rfl, rfl⟩)
      | (go_at_call 30; (with_reducible refine (HR.out _).mono ?_); rintro e w3 ⟨rfl, hb3⟩; have hB3 := hA.trans (hb3.mono hA.size); have oE3 := oE.below hb3; have d0 := oE3.cell 0; have d1 := oE3.cell 1; have d2 := oE3.cell 2; have d3 := oE3.cell 3; have d4 := oE3.cell 4; have d5 := oE3.cell 5; have d6 := oE3.cell 6; have d7 := oE3.cell 7; have d8 := oE3.cell 8; simp at d0 d1 d2 d3 d4 d5 d6 d7 d8)
      | (go_at_call 31; (with_reducible refine (HM.out _).mono ?_); rintro e w4 ⟨rfl, hb4⟩; have hB4 := hB3.trans (hb4.mono hB3.size)))
        go_ret
        exact ⟨rfl, hA⟩
      · have hn2 : n ≥ 0 := by omega
        have HR2 := Lib.hid (HR.out hn2)
        have HM2 := Lib.hid (HM.out hn2)
        have HV2 := Lib.hid (HV.out hn2)
        clear HV HV1 HR HM
        have HR := HR2
        have HM := HM2
        clear HR2 HM2
        cases rb with
        | false =>
          obtain rfl : vb = false := by rw [HV2.out]; rfl
          clear HV2
          have tk := trivial
          go_enter Try.func16, Try.ntmps16
          go_wp2_with (first
      | (go_at_call 29; have _t := tk; clear _t tk; (with_reducible refine (HW1.out _).mono ?_); rintro e w1 ⟨rfl, rfl⟩)
      | (go_at_call 29; (with_reducible refine (HW2.out _).mono ?_); rintro e w1 ⟨rfl, rfl⟩)
      | (go_at_call 10; (with_reducible refine (HF.out _).mono ?_); rintro e w1 ⟨rfl, rfl⟩)
      | (go_at_call 30; (with_reducible refine (HR.out _).mono ?_); rintro e w3 ⟨rfl, hb3⟩; have hB3 := hA.trans (hb3.mono hA.size); have oE3 := oE.below hb3; have d0 := oE3.cell 0; have d1 := oE3.cell 1; have d2 := oE3.cell 2; have d3 := oE3.cell 3; have d4 := oE3.cell 4; have d5 := oE3.cell 5; have d6 := oE3.cell 6; have d7 := oE3.cell 7; have d8 := oE3.cell 8; simp at d0 d1 d2 d3 d4 d5 d6 d7 d8)
      | (go_at_call 31; (with_reducible refine (HM.out _).mono ?_); rintro e w4 ⟨rfl, hb4⟩; have hB4 := hB3.trans (hb4.mono hB3.size)))
          go_ret
          exact ⟨rfl, hB3⟩
        | true =>
          obtain rfl : vb = nb := by rw [HV2.out]; simp
          clear HV2
          have tk := trivial
          go_enter Try.func16, Try.ntmps16
          go_wp2_with (first
      | (go_at_call 29; have _t := tk; clear _t tk; (with_reducible refine (HW1.out _).mono ?_); rintro e w1 ⟨rfl, rfl⟩)
      | (go_at_call 29; (with_reducible refine (HW2.out _).mono ?_); rintro e w1 ⟨rfl, rfl⟩)
      | (go_at_call 10; (with_reducible refine (HF.out _).mono ?_); rintro e w1 ⟨rfl, rfl⟩)
      | (go_at_call 30; (with_reducible refine (HR.out _).mono ?_); rintro e w3 ⟨rfl, hb3⟩; have hB3 := hA.trans (hb3.mono hA.size); have oE3 := oE.below hb3; have d0 := oE3.cell 0; have d1 := oE3.cell 1; have d2 := oE3.cell 2; have d3 := oE3.cell 3; have d4 := oE3.cell 4; have d5 := oE3.cell 5; have d6 := oE3.cell 6; have d7 := oE3.cell 7; have d8 := oE3.cell 8; simp at d0 d1 d2 d3 d4 d5 d6 d7 d8)
      | (go_at_call 31; (with_reducible refine (HM.out _).mono ?_); rintro e w4 ⟨rfl, hb4⟩; have hB4 := hB3.trans (hb4.mono hB3.size)))
          go_ret
          exact ⟨rfl, hB4⟩

end Ev
end Go.Proofs.Ytojbcdkiilcppaa

/-
  Two roots that read alike are alike: tapestryref04's SameRoot, tapestryref03's SameInts, over whatever slices.
-/
namespace Go.Proofs.Ytojbcdkiilcppaa
open Go.RowKit
set_option linter.unusedSimpArgs false
set_option linter.unusedVariables false

theorem Fi.Ints.drewN {B : Nat} {W : World} {v : Value} {l : List Int} (h : Fi.Ints B W v l) (n : Nat) : Fi.Ints B (W.drewN n) v l := h
theorem Fi.Ints.grow' {B B' : Nat} {W W' : World} {v : Value} {l : List Int} (h : Fi.Ints B W v l) (hb : Below B' W W') (hB : B ≤ B') : Fi.Ints B W' v l := by
  obtain ⟨a, cap, b, off, h1, h2, h3⟩ := h
  exact ⟨a, cap, b, off, h1, h2, fun j hj => (hb.cell (p := ⟨b, off + j, none⟩) (Nat.lt_of_lt_of_le (h2 (by omega)).2 hB)).trans (h3 j hj)⟩

end Go.Proofs.Ytojbcdkiilcppaa
/-
  The document's answers of P14.4 and P14.5: tapestryref14.Has, Same, Pack, Unpack.
-/
namespace Go.Proofs.Ytojbcdkiilcppaa
open Go.RowKit
set_option linter.unusedSimpArgs false
set_option linter.unusedVariables false
namespace Ev
/-- what the reading of a row of events leaves -/
def UnpOut (l : Dat) (w : World) (r : Ending) (w' : World) : Prop :=
  ∃ v, r = .returned (.tuple #[v, .int .i64 ((unpack l).2.1 : Nat), .int .i64 ((unpack l).2.2 : Nat)]) ∧ w'.ownsRow w.heap.size 26 9 v (unpack l).1.length (ecs (unpack l).1) ∧ (∀ x ∈ (unpack l).1, EvIn x) ∧ (unpack l).1.length ≤ l.length ∧ Below w.heap.size w w'
theorem hasB_in {ks : List Int} {k : Int} {q : Nat} (hq : q < ks.length) (h : ks[q] = k) : hasB ks k = true := by
  unfold hasB
  simp only [Bool.or_eq_true]
  exact .inr (List.contains_iff_mem.2 (h ▸ List.getElem_mem hq))
theorem hasB_out {ks : List Int} {k : Int} (h : ∀ q (hq : q < ks.length), ks[q] ≠ k) : hasB ks k = decide (ks.length = 0) := by
  unfold hasB
  have : ks.contains k = false := by
    cases hc : ks.contains k with
    | false => rfl
    | true =>
      obtain ⟨q, hq, e⟩ := List.getElem_of_mem (List.contains_iff_mem.1 hc)
      exact absurd e (h q hq)
  rw [this, Bool.or_false]
  cases ks <;> simp

set_option maxRecDepth 100000 in
set_option maxHeartbeats 4000000 in
theorem hasR_any {B : Nat} (v : Value) (ks : List Int) (k : Int) (w : World) (h : Fi.Ints B w v ks) (hl : ks.length ≤ 1073741824) :
    Calls Try.prog 27 #[v, .int .i64 k] w fun e w' => e = .returned (.bool (hasB ks k)) ∧ w = w' := by
  obtain ⟨a, cap, b, off, rfl, ha, hc⟩ := h
  have HA := Lib.hid ha
  have HC := Lib.hid hc
  clear ha hc
  go_enter Try.func27, Try.ntmps27
  go_wp2_with fail
  go_loopw [5] (fun i wr => ∃ q : Nat, q ≤ ks.length ∧ i = .int .i64 (q : Int) ∧ Hid (∀ j (hj : j < ks.length), j < q → ks[j] ≠ k) ∧ w = wr) (fun i _ => ks.length - (intOf i).toNat)
  case atStart => exact ⟨0, Nat.zero_le _, rfl, (fun j hj h => absurd h (by omega)), rfl⟩
  case round =>
    obtain ⟨q, hq, rfl, hno, rfl⟩ := hrel
    by_cases hlt : q < ks.length
    · obtain ⟨rfl, _⟩ := HA.out (by omega)
      have c0 := HC.out q hlt
      have hi1 : (0 : Int) ≤ (q : Int) ∧ (q : Int) < (ks.length : Int) := by omega
      have HIN := Lib.hid (fun h => hasB_in (k := k) hlt h)
      have HNO := Lib.hid (fun (h : ks[q] ≠ k) => show ∀ j (hj : j < ks.length), j < q + 1 → ks[j] ≠ k from fun j hj h2 => if e : j = q then (by subst e; exact h) else hno.out j hj (by omega))
      clear hno HC HA
      generalize ks[q] = x at *
      by_cases hxk : x = k
      · subst hxk
        have HI := Lib.hid (HIN.out rfl)
        clear HIN HNO
        go_wp2_with fail
        go_ret
        exact ⟨by rw [HI.out]; rfl, rfl⟩
      · have hxb : (x == k) = false := by simpa using hxk
        have HN2 := Lib.hid (HNO.out hxk)
        clear HIN HNO hxk
        go_wp2_with fail
        go_roundw
        case rel => exact ⟨q + 1, by omega, by go_num, HN2, by trivial⟩
        case measure => simp [intOf]; omega
    · obtain rfl : q = ks.length := by omega
      have HO := Lib.hid (hasB_out (ks := ks) (k := k) (fun j hj => hno.out j hj hj))
      clear hno
      go_wp2_with fail
      go_ret
      refine ⟨?_, rfl⟩
      rw [HO.out]
      cases ks with
      | nil => rfl
      | cons x r => simp; try omega

set_option maxRecDepth 100000 in
set_option maxHeartbeats 8000000 in
theorem sameE_any {B1 B2 : Nat} {v1 v2 : Value} {L : List Evt} (w : World) (h1 : Evs B1 w v1 L) (h2 : Evs B2 w v2 L) (hl : L.length ≤ 1073741824) :
    Calls Try.prog 26 #[v1, v2] w fun e w' => e = .returned (.bool true) ∧ ∃ m, w' = w.drewN m := by
  obtain ⟨a1, c1, b1, o1, rfl, g1, k1⟩ := h1
  obtain ⟨a2, c2, b2, o2, rfl, g2, k2⟩ := h2
  go_enter Try.func26, Try.ntmps26
  go_wp2_with fail
  go_loopw [5] (fun i wr => ∃ k m : Nat, k ≤ L.length ∧ i = .int .i64 k ∧ wr = w.drewN m) (fun i _ => L.length - (intOf i).toNat)
  case atStart => exact ⟨0, 0, Nat.zero_le _, rfl, rfl⟩
  case round =>
    obtain ⟨k, m, hk, rfl, rfl⟩ := hrel
    by_cases hlt : k < L.length
    · obtain ⟨rfl, _⟩ := g1 (by omega)
      obtain ⟨rfl, _⟩ := g2 (by omega)
      have e0 := k1 k hlt 0 (by decide)
      have e1 := k1 k hlt 1 (by decide)
      have e2 := k1 k hlt 2 (by decide)
      have e3 := k1 k hlt 3 (by decide)
      have e4 := k1 k hlt 4 (by decide)
      have e5 := k1 k hlt 5 (by decide)
      have e6 := k1 k hlt 6 (by decide)
      have e7 := k1 k hlt 7 (by decide)
      have e8 := k1 k hlt 8 (by decide)
      have f0 := k2 k hlt 0 (by decide)
      have f1 := k2 k hlt 1 (by decide)
      have f2 := k2 k hlt 2 (by decide)
      have f3 := k2 k hlt 3 (by decide)
      have f4 := k2 k hlt 4 (by decide)
      have f5 := k2 k hlt 5 (by decide)
      have f6 := k2 k hlt 6 (by decide)
      have f7 := k2 k hlt 7 (by decide)
      have f8 := k2 k hlt 8 (by decide)
      have hi1 : (0 : Int) ≤ (k : Int) ∧ (k : Int) < (L.length : Int) := by omega
      clear k1 k2
      generalize L[k] = x at *
      unfold evC at e0 e1 e2 e3 e4 e5 e6 e7 e8 f0 f1 f2 f3 f4 f5 f6 f7 f8
      simp only [List.getElem?_cons_zero, List.getElem?_cons_succ, Nat.add_zero] at e0 e1 e2 e3 e4 e5 e6 e7 e8 f0 f1 f2 f3 f4 f5 f6 f7 f8
      go_wp2_with fail
      go_big_quiet (fail)
      go_wp2_with fail
      go_roundw
      case rel => exact ⟨k + 1, m + nq, by omega, by go_num, rfl⟩
      case measure => simp [intOf]; omega
    · obtain rfl : k = L.length := by omega
      go_wp2_with fail
      go_ret
      exact ⟨rfl, m, rfl⟩

set_option maxRecDepth 100000 in
set_option maxHeartbeats 8000000 in
theorem packR_any (v : Value) (L : List Evt) (w : World) (h : Evs w.heap.size w v L) (hI : ∀ x ∈ L, EvIn x) (hl : L.length ≤ 1048576) :
    Calls Try.prog 23 #[v] w fun e w' => e = .returned (.tuple #[.string (Cd.bs (pack L).1), .int .i64 ((pack L).2 : Nat)]) ∧ Below w.heap.size w w' := by
  have HPK := Lib.hid (pack_eq L)
  obtain ⟨a, cap, b, off, rfl, ha, hc⟩ := h
  have HA := Lib.hid ha
  have HC := Lib.hid hc
  clear ha hc
  go_enter Try.func23, Try.ntmps23
  go_wp2_with fail
  go_loopw [4, 5] (fun s i wr => ∃ (q : Nat) (D : Dat), q ≤ L.length ∧ i = .int .i64 (q : Int) ∧ s = .string (Cd.bs D) ∧ D.length ≤ 90 * q ∧ Hid (packGo L [] = packGo (L.drop q) D) ∧ Below w.heap.size w wr) (fun _ i _ => L.length - (intOf i).toNat)
  case atStart => exact ⟨0, [], Nat.zero_le _, rfl, rfl, Nat.zero_le _, by rw [List.drop_zero]; rfl, Below.refl _ _⟩
  case round =>
    obtain ⟨q, D, hq, rfl, rfl, hDl, hgo, hB⟩ := hrel
    obtain ⟨wo, rfl⟩ : ∃ wo : World, wo = wr := ⟨_, rfl⟩
    have hbs := hB.size
    by_cases hlt : q < L.length
    · obtain ⟨rfl, hbl⟩ := HA.out (by omega)
      have hAT := (HC.out q hlt).below hB hbl
      have hi1 : (0 : Int) ≤ (q : Int) ∧ (q : Int) < (L.length : Int) := by omega
      have hwb : b < wo.heap.size := by omega
      have e0 := hAT 0 (by decide)
      have e1 := hAT 1 (by decide)
      have e2 := hAT 2 (by decide)
      have e3 := hAT 3 (by decide)
      have e4 := hAT 4 (by decide)
      have e5 := hAT 5 (by decide)
      have e6 := hAT 6 (by decide)
      have e7 := hAT 7 (by decide)
      have e8 := hAT 8 (by decide)
      have HX := Lib.hid (fun W => encR_any L[q] (hI _ (List.getElem_mem hlt)) W)
      have hgo2 : packGo L [] = if validB L[q] = true then packGo (L.drop (q + 1)) (D ++ load L[q]) else ([], 54) := by rw [hgo.out, List.drop_eq_getElem_cons hlt, packGo]
      have hle : enc L[q] = if validB L[q] = true then (load L[q], 0) else ([], 54) := rfl
      have hll := load_len (hI _ (List.getElem_mem hlt))
      clear hAT hgo HC
      generalize L[q] = x at *
      cases hv : validB x with
      | false =>
        rw [hv] at hgo2 hle
        rw [if_neg (by simp)] at hgo2 hle
        rw [hle] at HX
        have HG := Lib.hid hgo2
        clear hgo2 hle hv
        obtain ⟨xi, xt, xk, xa, xb, xc, xd, xe, xf⟩ := x
        unfold evV at HX
        unfold evC at e0 e1 e2 e3 e4 e5 e6 e7 e8
        simp only [List.getElem?_cons_zero, List.getElem?_cons_succ, Nat.add_zero] at e0 e1 e2 e3 e4 e5 e6 e7 e8
        simp only at HX
        go_wp2_with (go_at_call 19; (with_reducible refine (HX.out _).mono ?_); rintro e w1 ⟨rfl, hb1⟩)
        go_ret2
        exact ⟨by rw [HPK.out, HG.out]; rfl, hB.trans (hb1.mono hbs)⟩
      | true =>
        rw [hv] at hgo2 hle
        rw [if_pos rfl] at hgo2 hle
        rw [hle] at HX
        obtain ⟨D2, hD2⟩ : ∃ D2, D2 = D ++ load x := ⟨_, rfl⟩
        rw [← hD2] at hgo2
        have hD2l : D2.length ≤ 90 * (q + 1) := by rw [hD2, List.length_append]; omega
        have hadd := add_at D (load x) D2 hD2 (by omega)
        have HG := Lib.hid hgo2
        generalize load x = lx at *
        clear hgo2 hle hv hD2
        obtain ⟨xi, xt, xk, xa, xb, xc, xd, xe, xf⟩ := x
        unfold evV at HX
        unfold evC at e0 e1 e2 e3 e4 e5 e6 e7 e8
        simp only [List.getElem?_cons_zero, List.getElem?_cons_succ, Nat.add_zero] at e0 e1 e2 e3 e4 e5 e6 e7 e8
        simp only at HX
        go_wp2_with (go_at_call 19; (with_reducible refine (HX.out _).mono ?_); rintro e w1 ⟨rfl, hb1⟩; have hB1 := hB.trans (hb1.mono hbs))
        go_roundw
        case rel => exact ⟨q + 1, D2, by omega, by go_num, rfl, hD2l, HG, hB1⟩
        case measure => simp [intOf]; omega
    · obtain rfl : q = L.length := by omega
      have HG := Lib.hid (show packGo L [] = (D, 0) by rw [hgo.out, List.drop_length, packGo])
      clear hgo
      go_wp2_with fail
      go_ret2
      exact ⟨by rw [HPK.out, HG.out]; rfl, hB⟩

set_option maxRecDepth 100000 in
set_option maxHeartbeats 16000000 in
theorem unpackR_any (l : Dat) (w : World) (hll : l.length ≤ 134217728) :
    Calls Try.prog 25 #[.string (Cd.bs l)] w (UnpOut l w) := by
  obtain ⟨i0, hi0, hz0, hz1, hz2⟩ := info_parts info_Event
  have hsz : (Cd.bs l).size = l.length := rfl
  have HDC := Lib.hid (fun p W => decR_any (l.drop p) W (by rw [List.length_drop]; omega))
  have HUN := Lib.hid (show unpack l = unpGo l (l.length + 1) [] 0 from rfl)
  go_enter Try.func25, Try.ntmps25
  go_wp2_with fail
  go_loopw [5, 6] (fun v p wr => ∃ (at' fu : Nat) (L : List Evt), at' ≤ l.length ∧ p = .int .i64 (at' : Int) ∧ L.length ≤ at' ∧ l.length < fu + at' ∧ Hid (unpack l = unpGo l fu L at') ∧ Hid (∀ x ∈ L, EvIn x) ∧ wr.ownsRow w.heap.size 26 9 v L.length (ecs L) ∧ Below w.heap.size w wr) (fun _ i _ => l.length - (intOf i).toNat)
  case atStart => exact ⟨0, l.length + 1, [], Nat.zero_le _, rfl, Nat.zero_le _, by omega, HUN, (fun x hx => by cases hx), World.ownsRow_nil _ _ _ _, Below.refl _ _⟩
  case round =>
    obtain ⟨at', fu, L, hat, rfl, hLn, hfu, hun, hLI, hV, hB⟩ := hrel
    obtain ⟨wo, rfl⟩ : ∃ wo : World, wo = wr := ⟨_, rfl⟩
    have hbs := hB.size
    have hi1 : (0 : Int) ≤ (at' : Int) ∧ (at' : Int) ≤ (l.length : Int) := by omega
    have hx := ext_dropE l at'
    by_cases hlt : at' < l.length
    · have hi2 : (at' : Int) < (l.length : Int) := by omega
      obtain ⟨f2, rfl⟩ : ∃ f2, fu = f2 + 1 := ⟨fu - 1, by omega⟩
      have HD := Lib.hid (HDC.out at')
      unfold DecOut14 at HD
      have hst : unpGo l (f2 + 1) L at' = if (dec (l.drop at')).2.2 ≠ 0 then ([], (dec (l.drop at')).2.2, at') else unpGo l f2 (L ++ [(dec (l.drop at')).1]) (at' + (dec (l.drop at')).2.1) := by rw [unpGo, if_pos hlt]
      have hdp := fun (h : (dec (l.drop at')).2.2 = 0) => dec_pos h
      have hds := fun (h : (dec (l.drop at')).2.2 = 0) => dec_sound h
      rw [List.length_drop] at hds
      obtain ⟨X, k, e, hd⟩ : ∃ X k e, dec (l.drop at') = (X, k, e) := ⟨_, _, _, rfl⟩
      rw [hd] at hst hdp hds HD
      simp only at hst hdp hds HD
      clear hd HDC
      by_cases he : e = 0
      · subst he
        obtain ⟨-, hXI, hk, -⟩ := hds rfl
        have hkp := hdp rfl
        rw [if_neg (by simp)] at hst
        have HUN2 := Lib.hid (hun.out.trans hst)
        have HLI2 := Lib.hid (show ∀ x ∈ L ++ [X], EvIn x from fun x hx => by
          rcases List.mem_append.1 hx with hx | hx
          · exact hLI.out x hx
          · simp only [List.mem_singleton] at hx; subst hx; exact hXI)
        have hwr : IntKind.i64.wrap ((at' : Int) + (k : Int)) = (at' : Int) + (k : Int) := by rw [IntKind.wrap_i64]; omega
        have HSN := Lib.hid (ecs_snoc L X)
        obtain ⟨xi, xt, xk, xa, xb, xc, xd, xe, xf⟩ := X
        unfold evV at HD
        unfold evC at HSN
        simp only at HD HSN
        clear hst hdp hds hun hLI hXI
        go_wp2_with (first
          | (go_at_call 21; (try rw [hx]); (with_reducible refine (HD.out _).mono ?_); rintro e w1 ⟨rfl, hb1⟩; have hB1 := hB.trans (hb1.mono hbs); have hV1 := own_below hV hb1; have hs1 := hB1.size; have oX := Ob.Obj.new w1 26 [.int .i64 xi, .int .i64 xt, .int .i64 xk, .int .i64 xa, .int .i64 xb, .int .i64 xc, .int .i64 xd, .int .i64 xe, .int .i64 xf]; have hB2 := hB1.alloc hs1 (.cells #[.int .i64 xi, .int .i64 xt, .int .i64 xk, .int .i64 xa, .int .i64 xb, .int .i64 xc, .int .i64 xd, .int .i64 xe, .int .i64 xf] 26); have hV2 := hV1.alloc (.cells #[.int .i64 xi, .int .i64 xt, .int .i64 xk, .int .i64 xa, .int .i64 xb, .int .i64 xc, .int .i64 xd, .int .i64 xe, .int .i64 xf] 26); obtain ⟨wx, hwx⟩ : ∃ wx, w1.alloc (.cells #[.int .i64 xi, .int .i64 xt, .int .i64 xk, .int .i64 xa, .int .i64 xb, .int .i64 xc, .int .i64 xd, .int .i64 xe, .int .i64 xf] 26) = wx := ⟨_, rfl⟩; rw [show w1.alloc (.cells ([.int .i64 xi, .int .i64 xt, .int .i64 xk, .int .i64 xa, .int .i64 xb, .int .i64 xc, .int .i64 xd, .int .i64 xe, .int .i64 xf] : List Value).toArray 26) = wx from hwx] at oX; rw [hwx] at hB2 hV2; have c0 := oX.cell 0; have c1 := oX.cell 1; have c2 := oX.cell 2; have c3 := oX.cell 3; have c4 := oX.cell 4; have c5 := oX.cell 5; have c6 := oX.cell 6; have c7 := oX.cell 7; have c8 := oX.cell 8; have hbx := oX.lt; simp at c0 c1 c2 c3 c4 c5 c6 c7 c8; have hs2 := hB2.size; have HB3 := Lib.hid (hB2.alloc hs2 (.cells #[.int .i64 xi, .int .i64 xt, .int .i64 xk, .int .i64 xa, .int .i64 xb, .int .i64 xc, .int .i64 xd, .int .i64 xe, .int .i64 xf] 26)); have HV3 := Lib.hid (hV2.alloc (.cells #[.int .i64 xi, .int .i64 xt, .int .i64 xk, .int .i64 xa, .int .i64 xb, .int .i64 xc, .int .i64 xd, .int .i64 xe, .int .i64 xf] 26)))
          | (at_builtin; go_loud (refine wpList_append_own _ rfl _ _ 38 rfl w.heap.size 26 i0 (.agg #[.int .i64 0, .int .i64 0, .int .i64 0, .int .i64 0, .int .i64 0, .int .i64 0, .int .i64 0, .int .i64 0, .int .i64 0]) 9 72 Try.underlying38 hi0 hz0 hz1 hz2 rfl (by decide) _ _ _ rfl HV3.out ⟨wx.heap.size, 0, none⟩ 1 1 [.int .i64 xi, .int .i64 xt, .int .i64 xk, .int .i64 xa, .int .i64 xb, .int .i64 xc, .int .i64 xd, .int .i64 xe, .int .i64 xf] rfl rfl (by simpa [evC] using cell_nine_new wx ⟨xi, xt, xk, xa, xb, xc, xd, xe, xf⟩ 26) (by simp [Value.oneCell']) (by unfold maxLen; omega) (by omega) (by simp; omega) ?_); intro v' w2 hown2 hgrow _))
        go_roundw
        case rel => exact ⟨at' + k, f2, L ++ [⟨xi, xt, xk, xa, xb, xc, xd, xe, xf⟩], by omega, by go_num, by rw [List.length_append, List.length_singleton]; omega, by omega, HUN2, HLI2, by rw [List.length_append, List.length_singleton, HSN.out]; exact hown2, HB3.out.grown hgrow (by simp; omega) (fun j hj => (Ob.row_lt hV hj).1)⟩
        case measure => simp [intOf]; omega
      · have heb : (((e : Nat) : Int) != 0) = true := by simp; omega
        rw [if_pos he] at hst
        have HUN2 := Lib.hid (hun.out.trans hst)
        obtain ⟨xi, xt, xk, xa, xb, xc, xd, xe, xf⟩ := X
        unfold evV at HD
        simp only at HD
        clear hst hdp hds hun hLI he
        go_wp2_with (go_at_call 21; (try rw [hx]); (with_reducible refine (HD.out _).mono ?_); rintro e w1 ⟨rfl, hb1⟩; have hB1 := hB.trans (hb1.mono hbs); have hs1 := hB1.size; have hB2 := hB1.alloc hs1 (.cells #[.int .i64 xi, .int .i64 xt, .int .i64 xk, .int .i64 xa, .int .i64 xb, .int .i64 xc, .int .i64 xd, .int .i64 xe, .int .i64 xf] 26))
        refine bodyPost_ret (v := .tuple #[.slice none 0 0, .int .i64 (e : Int), .int .i64 (at' : Int)]) (by simp [results, Try.results25, go_sem]) rfl ?_
        exact ⟨_, by rw [HUN2.out], by rw [HUN2.out]; exact World.ownsRow_nil _ _ _ _, by rw [HUN2.out]; exact fun x hx => (by cases hx), by rw [HUN2.out]; exact Nat.zero_le _, hB2⟩
    · obtain rfl : at' = l.length := by omega
      have HUN2 := Lib.hid (show unpack l = (L, 0, 0) by
        rw [hun.out]
        match fu with
        | 0 => rfl
        | f + 1 => rw [unpGo, if_neg (by omega)])
      clear hun
      obtain ⟨ao, cap, rfl, _⟩ := Sq.row_cases hV
      go_wp2_with fail
      refine bodyPost_ret (v := .tuple #[.slice ao L.length cap, .int .i64 0, .int .i64 0]) (by simp [results, Try.results25, go_sem]) rfl ?_
      exact ⟨_, by rw [HUN2.out]; rfl, by rw [HUN2.out]; exact hV, by rw [HUN2.out]; exact hLI.out, by rw [HUN2.out]; exact hLn, hB⟩

end Ev
end Go.Proofs.Ytojbcdkiilcppaa
