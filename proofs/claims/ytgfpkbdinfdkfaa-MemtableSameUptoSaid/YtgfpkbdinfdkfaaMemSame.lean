/-
  The walk of the law MemtableSame.
-/
import Derived.Test.YtgfpkbdinfdkfaaMemSameP
namespace Go.Proofs.Ytgfpkbdinfdkfaa
open Go.RowKit
set_option linter.unusedSimpArgs false
set_option linter.unusedVariables false
namespace Md
open Op (bytesLess)
open Mt (Ver VerIn VerW verV lessB mayB placeB Tab vers put there putAll Fresh turned newestL nwV fromL)
open Ma (Act6 ActsIn6)
open Vs (vcs Vers)
theorem TabAt.lower {B0 B1 tb : Nat} {ns : List Nd} {W : World} (h : TabAt B0 tb ns W) (hb : B1 ≤ B0) : TabAt B1 tb ns W :=
  { head := h.head, chain := h.chain, ord := h.ord, hgt := h.hgt, rank := h.rank, may := h.may, nodup := h.nodup, lo := ⟨Nat.le_trans hb h.lo.1, fun x hx => Nat.le_trans hb (h.lo.2 x hx)⟩ }

theorem ins_len (ns : List Nd) (v : Ver) (nb h r : Nat) : (preOf ns v ++ (⟨nb, v, h, r⟩ : Nd) :: postOf ns v).length = ns.length + 1 := by
  have := congrArg List.length (pre_post ns v)
  rw [List.length_append] at this ⊢
  rw [List.length_cons]
  omega
/-- what stands while the second table is filled, the other way round -/
structure SameB (B0 ta tb : Nat) (na nb : List Nd) (P : List Act6) (j : Nat) (u : Value) (W : World) : Prop where
  two : TwoD B0 ta tb na nb W
  row : W.ownsRow B0 35 6 u P.length (acs P)
  out : ∀ g, u.ownBlock = some g → ¬ Foot ta na g ∧ ¬ Foot tb nb g
  tab : tabOf nb = putAll [] ((turned (pairs P)).take j)
theorem SameB.kept {B0 ta tb : Nat} {na nb : List Nd} {P : List Act6} {j : Nat} {u : Value} {W W' : World} (h : SameB B0 ta tb na nb P j u W) (hk : Sq.Kept (fun _ => True) W W') : SameB B0 ta tb na nb P j u W' :=
  ⟨h.two.kept hk, Sq.row_kept h.row hk (fun _ _ => trivial), h.out, h.tab⟩
theorem pairs_len (P : List Act6) : (pairs P).length = P.length := by simp [pairs]
theorem turned_len (P : List (Ver × Nat)) : (turned P).length = P.length := by simp [turned]
theorem turned_at {P : List Act6} {k j : Nat} (h : k + 1 + j = P.length) : (turned (pairs P))[j]? = some ((P[k]'(by omega)).v, 9 - (P[k]'(by omega)).n.toNat) := by
  unfold turned
  rw [List.getElem?_map, List.getElem?_reverse (by rw [pairs_len]; omega), pairs_len]
  rw [show P.length - 1 - j = k by omega]
  unfold pairs
  rw [List.getElem?_map, List.getElem?_eq_getElem (by omega)]
  rfl
theorem take_next {α : Type} {L : List α} {j : Nat} {x : α} (h : L[j]? = some x) : L.take (j + 1) = L.take j ++ [x] ∧ L = L.take j ++ x :: L.drop (j + 1) := by
  obtain ⟨hl, rfl⟩ := List.getElem?_eq_some_iff.1 h
  refine ⟨List.take_succ_eq_append_getElem hl, ?_⟩
  rw [← List.drop_eq_getElem_cons hl, List.take_append_drop]
theorem turn_there {P : List Act6} {nb : List Nd} {k j : Nat} (hf : Fresh [] (pairs P)) (ht : tabOf nb = putAll [] ((turned (pairs P)).take j)) (h : k + 1 + j = P.length) : thereN nb (P[k]'(by omega)).v = false := by
  have e := turned_at h
  have hq := (take_next e).2
  have := Mt.fresh_turn (P := (turned (pairs P)).take j) (p := ((P[k]'(by omega)).v, 9 - (P[k]'(by omega)).n.toNat)) (Q := (turned (pairs P)).drop (j + 1)) (by rw [← hq]; exact Mt.turned_fresh hf)
  rw [← ht, tab_there] at this
  exact this
theorem turn_next {P : List Act6} {k j : Nat} (h : k + 1 + j = P.length) : (turned (pairs P)).take (j + 1) = (turned (pairs P)).take j ++ [((P[k]'(by omega)).v, 9 - (P[k]'(by omega)).n.toNat)] := (take_next (turned_at h)).1
theorem SameB.added {B0 ta tb nb : Nat} {na nbs : List Nd} {P : List Act6} {j : Nat} {u : Value} {v : Ver} {n : Int} {W W1 : World} (h : SameB B0 ta tb na nbs P j u W)
    (hd : TabAt B0 tb (preOf nbs v ++ ⟨nb, v, (9 - n).toNat, nbs.length⟩ :: postOf nbs v) W1) (st : Sq.Step (Foot tb nbs) (Foot tb (preOf nbs v ++ ⟨nb, v, (9 - n).toNat, nbs.length⟩ :: postOf nbs v)) W W1)
    (hn : (turned (pairs P)).take (j + 1) = (turned (pairs P)).take j ++ [(v, 9 - n.toNat)]) (h0 : 0 ≤ n) : SameB B0 ta tb na (preOf nbs v ++ ⟨nb, v, (9 - n).toNat, nbs.length⟩ :: postOf nbs v) P (j + 1) u W1 ∧ Below B0 W W1 := by
  obtain ⟨t1, b1⟩ := h.two.turn.stepA hd st
  refine ⟨⟨t1.turn, Sq.row_kept h.row st.kept (fun g hg => (h.out g hg).2), fun g hg => ⟨(h.out g hg).1, fun hf => ?_⟩, ?_⟩, b1⟩
  · rcases st.new g hf with h5 | h5
    · exact (h.out g hg).2 h5
    · have := (Ob.row_lt h.row hg).2; omega
  · rw [tab_put, hn, Mt.putAll_snoc, h.tab]
    rw [show (9 - n).toNat = 9 - n.toNat by omega]

set_option maxRecDepth 100000 in
set_option maxHeartbeats 8000000 in
theorem memtableSame_walk (a : Option Addr) (cap b off : Nat) (L : List Act6) (key : ByteArray) (seq : Int) (w : World) (hA : ActsIn6 w a b off L) (hkey : key.size ≤ 1048576) (hs1 : 0 ≤ seq) (hs2 : seq ≤ 18446744073709551615) :
    Calls Try.prog 4 #[.slice a L.length cap, .string key, .int .u64 seq] w fun e w' => e = .returned (.bool true) ∧ Below w.heap.size w w' := by
  obtain ⟨key, rfl⟩ : ∃ l, key = Cd.bs l := ⟨key.data.toList, (Lib.mk_data key).symm⟩
  obtain ⟨ha, hc, hok, hlen⟩ := hA
  obtain ⟨i0, hi, hz0, hz1, hz2⟩ := info_parts info_Act6
  have HC := Lib.hid hc
  have HOK := Lib.hid hok
  clear hc hok
  go_enter Try.func4, Try.ntmps4
  go_wp2_with (first
    | (have _t := hi; clear hi; go_at_call 8; (with_reducible refine (new_any _).mono ?_); rintro e w1 ⟨rfl, hT1, hb1⟩; have hi' := _t; clear _t)
    | (go_at_call 8; (with_reducible refine (new_any _).mono ?_); rintro e w2 ⟨rfl, hT2, hb2⟩))
  have hi := hi'
  clear hi'
  have D0 : TwoD w.heap.size w.heap.size w1.heap.size [] [] w2 :=
    ⟨hT1.below hb2, hT2.lower hb1.size, fun k hk hs => by have h1 := (hT1.foot k hk).2; have h2 := (hT2.foot k hs).1; omega, Nat.le_trans hb1.size hb2.size⟩
  have I0 : SameInv w.heap.size w.heap.size w1.heap.size [] [] (.slice none 0 0) w2 := ⟨D0, World.ownsRow_nil _ _ _ _, fun g h => by simp [Value.ownBlock] at h, rfl, ⟨List.Pairwise.nil, fun _ h => by cases h⟩, fun _ h => by cases h⟩
  have B0 : Below w.heap.size w w2 := hb1.trans (hb2.mono hb1.size)
  generalize w1.heap.size = tb at *
  clear hT1 hT2 hb1 hb2 D0
  go_loopw [9, 10] (fun u i wr => ∃ (q : Nat) (na : List Nd) (P : List Act6), q ≤ L.length ∧ i = .int .i64 q ∧ SameInv w.heap.size w.heap.size tb na P u wr ∧ na.length ≤ q ∧ P.length ≤ q ∧ Below w.heap.size w wr) (fun _ i _ => L.length - (intOf i).toNat)
  case atStart => exact ⟨0, [], [], Nat.zero_le _, rfl, I0, Nat.le_refl _, Nat.le_refl _, B0⟩
  case round =>
    rename_i uu _ _
    clear I0 B0
    obtain ⟨q, na, P, hq, rfl, hI, hna, hP, hB⟩ := hrel
    by_cases hlt : q < L.length
    · obtain ⟨rfl, hbl⟩ := ha (by omega)
      have hx := HOK.out L[q] (List.getElem_mem hlt)
      have HE := Lib.hid (fun W (hb : Below w.heap.size w W) => (show W.cell? ⟨b, off + q * 6, none⟩ = some (.int .i64 L[q].kd) ∧ W.cell? ⟨b, off + q * 6 + 1, none⟩ = some (.int .i64 L[q].n) ∧ W.cell? ⟨b, off + q * 6 + 2, none⟩ = some (.string (Cd.bs L[q].v.key)) ∧ W.cell? ⟨b, off + q * 6 + 3, none⟩ = some (.int .u64 L[q].v.seq) ∧ W.cell? ⟨b, off + q * 6 + 4, none⟩ = some (.bool L[q].v.del) ∧ W.cell? ⟨b, off + q * 6 + 5, none⟩ = some (.string (Cd.bs L[q].v.val)) from by
        obtain ⟨q0, q1, q2, q3, q4, q5⟩ := HC.out q hlt
        exact ⟨(hb.cell (p := ⟨b, off + q * 6, none⟩) hbl).trans q0, (hb.cell (p := ⟨b, off + q * 6 + 1, none⟩) hbl).trans q1, (hb.cell (p := ⟨b, off + q * 6 + 2, none⟩) hbl).trans q2, (hb.cell (p := ⟨b, off + q * 6 + 3, none⟩) hbl).trans q3, (hb.cell (p := ⟨b, off + q * 6 + 4, none⟩) hbl).trans q4, (hb.cell (p := ⟨b, off + q * 6 + 5, none⟩) hbl).trans q5⟩))
      have hi1 : (0 : Int) ≤ (q : Int) ∧ (q : Int) < (L.length : Int) := by omega
      have hbs := hB.size
      have hI2 := hI.kept (Sq.Kept.drew _ _)
      have hB2 := hB.drew
      generalize L[q] = x at *
      obtain ⟨e0, e1, e2, e3, e4, e5⟩ := HE.out wr hB
      obtain ⟨kd, n, v⟩ := x
      simp only at e0 e1 e2 e3 e4 e5
      have hv := hx.v
      obtain ⟨hn1, hn2⟩ := hx.n
      simp only at hv hn1 hn2
      have HM := Lib.hid (fun W => Mt.mayM_any v W hv)
      unfold verV at HM
      by_cases hbad : mayB v = false ∨ n < 1 ∨ 8 < n
      · have HA := Lib.hid (fun W => add_bad (tb := w.heap.size) v n W hv.wide ⟨hn1, hn2⟩ hbad)
        unfold verV at HA
        have hcase : mayB v = false ∨ (mayB v = true ∧ n < 1) ∨ (mayB v = true ∧ ¬ n < 1 ∧ 8 < n) := by
          rcases hbad with h | h
          · exact .inl h
          · cases hmv : mayB v with
            | false => exact .inl rfl
            | true =>
              right
              rcases h with h | h
              · exact .inl ⟨rfl, h⟩
              · exact .inr ⟨rfl, by omega, h⟩
        clear hbad
        rcases hcase with hm | ⟨hm, hlo⟩ | ⟨hm, hlo, hhi⟩
        all_goals
          rw [hm] at HM
          clear hm
          go_wp2_with fail
          go_still_tail 11, (by kernel_rfl)
          change wpList _ _ _ _ _ (World.drew _)
          go_wp2_with (first
            | (go_at_call 12; (with_reducible refine (HA.out _).mono ?_); rintro e w3 ⟨rfl, hb3⟩; have hI3 := hI2.below hb3; have hB3 := hB2.trans (hb3.mono hbs); obtain ⟨f0, f1, f2, f3, f4, f5⟩ := HE.out w3 hB3; (try simp only at f0 f1 f2 f3 f4 f5))
            | (go_at_call 13; (with_reducible refine (HM.out _).mono ?_); rintro e w4 ⟨rfl, hb4⟩; have hI4 := hI3.below hb4; have hB4 := hB3.trans (hb4.mono hB3.size); obtain ⟨g0, g1, g2, g3, g4, g5⟩ := HE.out w4 hB4; (try simp only at g0 g1 g2 g3 g4 g5)))
          go_roundw
          case rel => exact ⟨q + 1, na, P, by omega, by go_num, hI4, by omega, by omega, hB4⟩
          case measure => simp [intOf]; omega
      · have hm : mayB v = true := by cases h : mayB v with | true => rfl | false => exact absurd (.inl h) hbad
        have hn3 : ¬ n < 1 := fun h => hbad (.inr (.inl h))
        have hn4 : ¬ 8 < n := fun h => hbad (.inr (.inr h))
        obtain ⟨m, rfl⟩ : ∃ m : Nat, n = (m : Int) := ⟨n.toNat, by omega⟩
        rw [hm] at HM
        by_cases hth : thereN na v = true
        · have HA := Lib.hid (fun W (T : TabAt w.heap.size w.heap.size na W) => add_there v (m : Int) W T (by omega) hv.wide hm (by omega) hth)
          unfold verV at HA
          clear hbad hm hth
          go_wp2_with fail
          go_still_tail 11, (by kernel_rfl)
          change wpList _ _ _ _ _ (World.drew _)
          go_wp2_with (first
            | (go_at_call 12; (with_reducible refine (HA.out _ hI2.two.a).mono ?_); rintro e w3 ⟨rfl, hb3⟩; have hI3 := hI2.below hb3; have hB3 := hB2.trans (hb3.mono hbs); obtain ⟨f0, f1, f2, f3, f4, f5⟩ := HE.out w3 hB3; (try simp only at f0 f1 f2 f3 f4 f5))
            | (go_at_call 13; (with_reducible refine (HM.out _).mono ?_); rintro e w4 ⟨rfl, hb4⟩; have hI4 := hI3.below hb4; have hB4 := hB3.trans (hb4.mono hB3.size); obtain ⟨g0, g1, g2, g3, g4, g5⟩ := HE.out w4 hB4; (try simp only at g0 g1 g2 g3 g4 g5)))
          go_roundw
          case rel => exact ⟨q + 1, na, P, by omega, by go_num, hI4, by omega, by omega, hB4⟩
          case measure => simp [intOf]; omega
        · have hth' : thereN na v = false := by cases h : thereN na v with | true => exact absurd h hth | false => rfl
          have HA := Lib.hid (fun W (T : TabAt w.heap.size w.heap.size na W) => add_new v m W T (by omega) hv.wide hm (by omega) hth')
          have HPO := Lib.hid (show PutOk ⟨kd, (m : Int), v⟩ from ⟨hv, hm, by show 1 ≤ (m : Int) ∧ (m : Int) ≤ 8; omega⟩)
          have HTH := Lib.hid hth'
          unfold verV at HA
          clear hbad hm hth hth'
          have HI2 := Lib.hid hI2
          clear hI
          go_wp2_with fail
          go_still_tail 11, (by kernel_rfl)
          change wpList _ _ _ _ _ (World.drew _)
          go_wp2_with (first
            | (go_at_call 12; (with_reducible refine (HA.out _ HI2.out.two.a).mono ?_); intro e w3 hadd; obtain ⟨rfl, nb, hd3, st3⟩ := hadd; have hB3 := hB2.trans (HI2.out.two.stepA hd3 st3).2; have row3 := Sq.row_kept HI2.out.row st3.kept (fun g hg => (HI2.out.out g hg).1); obtain ⟨f0, f1, f2, f3, f4, f5⟩ := HE.out w3 hB3; (try simp only at f0 f1 f2 f3 f4 f5))
            | (go_at_call 13; (with_reducible refine (HM.out _).mono ?_); rintro e w4 ⟨rfl, hb4⟩; have row4 := Sq.row_kept row3 (Sq.Kept.of_below (T := fun _ => True) hb4) (fun _ _ => trivial); have hB4 := hB3.trans (hb4.mono hB3.size); have hbs4 := hB4.size; obtain ⟨g0, g1, g2, g3, g4, g5⟩ := HE.out w4 hB4; (try simp only at g0 g1 g2 g3 g4 g5))
            | (at_builtin; refine wpList_append_lies _ rfl _ _ 22 rfl w.heap.size 35 i0 (.agg #[.int .i64 0, .int .i64 0, .string ⟨#[]⟩, .int .u64 0, .bool false, .string ⟨#[]⟩]) 6 64 Try.underlying22 hi hz0 hz1 hz2 rfl (by decide) _ _ _ rfl (row4.alloc _) ⟨w4.heap.size, 0, none⟩ 1 1 [_, _, _, _, _, _] rfl rfl (by simpa using cell_six_new w4 _ _ _ _ _ _ _) (by simp [Value.oneCell']) (by decide) (by unfold maxLen; omega) (by omega) (by simp; omega) (w4.heap.size + 1) (by simp) ?_; intro g cp w5 hown5 hgr5 hat5 hlt5))
          obtain ⟨hI5, hB5⟩ := HI2.out.added (x := ⟨kd, (m : Int), v⟩) HPO.out HTH.out hd3 st3 (Sq.Kept.of_below hb4) (Sq.Kept.alloc _ _ _) (by simp) hown5 hgr5 hat5
          have hB6 := hB2.trans hB5
          clear hown5 hgr5 hat5 hlt5 row3 row4
          have hil := ins_len na v nb (m : Int).toNat na.length
          go_roundw
          case rel => exact ⟨q + 1, _, _, by omega, by go_num, hI5, by rw [hil]; omega, by rw [List.length_append, List.length_singleton]; omega, hB6⟩
          case measure => simp [intOf]; omega
    · obtain rfl : q = L.length := by omega
      have HI := Lib.hid hI
      obtain ⟨au, cu, rfl, hau⟩ := Sq.row_cases hI.row
      have HF0 : SameB w.heap.size w.heap.size tb na [] P 0 (.slice au P.length cu) wr := ⟨hI.two, hI.row, hI.out, rfl⟩
      have hPl : P.length ≤ 1048576 := by omega
      clear hI
      go_wp2_with fail
      go_loopw [13] (fun i wr => ∃ (k j : Nat) (nbs : List Nd), k + j = P.length ∧ i = .int .i64 ((k : Int) - 1) ∧ SameB w.heap.size w.heap.size tb na nbs P j (.slice au P.length cu) wr ∧ Below w.heap.size w wr) (fun i _ => (intOf i + 1).toNat)
      case atStart => exact ⟨P.length, 0, [], rfl, rfl, HF0, hB⟩
      case round =>
        clear hB HF0
        obtain ⟨k, j, nbs, hkj, rfl, hS, hB⟩ := hrel
        by_cases hk0 : k = 0
        · subst hk0
          obtain rfl : j = P.length := by omega
          have htb := hS.tab
          rw [List.take_of_length_le (by rw [turned_len, pairs_len]; omega)] at htb
          have hvv : nbs.map (·.v) = na.map (·.v) := by
            rw [← tab_vers, ← tab_vers, htb, HI.out.tab]
            exact (Mt.turned_same HI.out.fresh).symm
          have hln : na.length = P.length := by
            have := congrArg List.length HI.out.tab
            rw [tab_len, Mt.putAll_len, pairs_len] at this
            simpa using this
          have hlb : nbs.length = P.length := by
            have := congrArg List.length hvv
            rw [List.length_map, List.length_map] at this
            omega
          have hbb : (nbs.map fun x => x.v.key.length + x.v.val.length + 16).sum = (na.map fun x => x.v.key.length + x.v.val.length + 16).sum := by
            rw [← lens_eq, ← lens_eq, tab_vers, tab_vers, hvv]
          obtain ⟨r0, r1, r2, r3, bb, e⟩ : ∃ (r0 : ByteArray) (r1 : Int) (r2 : Bool) (r3 : ByteArray) (bb : Bool), nwV (newestL (na.map (·.v)) key seq) = .tuple #[.agg #[.string r0, .int .u64 r1, .bool r2, .string r3], .bool bb] := by
            cases newestL (na.map (·.v)) key seq with
            | none => exact ⟨_, _, _, _, _, rfl⟩
            | some x => exact ⟨_, _, _, _, _, rfl⟩
          have hks : key.length ≤ 140737488351232 := Nat.le_trans hkey (by omega)
          have HGA := Lib.hid (fun W (T : TwoD w.heap.size w.heap.size tb na nbs W) => get_any key seq W T.a (by omega) hks ⟨hs1, by omega⟩)
          have HGB := Lib.hid (fun W (T : TwoD w.heap.size w.heap.size tb na nbs W) => get_any key seq W T.b (by omega) hks ⟨hs1, by omega⟩)
          rw [hvv] at HGB
          rw [e] at HGA HGB
          have HLA := Lib.hid (fun W (T : TwoD w.heap.size w.heap.size tb na nbs W) => len_any W T.a)
          have HLB := Lib.hid (fun W (T : TwoD w.heap.size w.heap.size tb na nbs W) => len_any W T.b)
          rw [hln] at HLA
          rw [hlb] at HLB
          have HBA := Lib.hid (fun W (T : TwoD w.heap.size w.heap.size tb na nbs W) => bytes_any W T.a)
          have HBB := Lib.hid (fun W (T : TwoD w.heap.size w.heap.size tb na nbs W) => bytes_any W T.b)
          rw [hbb] at HBB
          have HFA := Lib.hid (fun W (T : TwoD w.heap.size w.heap.size tb na nbs W) => fromD_any key 0 W T.a (by omega) hks (by omega))
          have HFB := Lib.hid (fun W (T : TwoD w.heap.size w.heap.size tb na nbs W) => fromD_any key 0 W T.b (by omega) hks (by omega))
          rw [hvv] at HFB
          have hll : (cutL (fromL (na.map (·.v)) key) 0).length ≤ 1048576 := by
            rw [cutL_all (.inl (Int.le_refl 0))]
            unfold fromL
            have := List.length_filter_le (fun x : Ver => !bytesLess x.key key) (na.map (·.v))
            rw [List.length_map] at this
            omega
          have HSM := Lib.hid (fun u u2 LL W (h1 : Vers W.heap.size W u LL) (h2 : Vers W.heap.size W u2 LL) (h : LL.length ≤ 1048576) => Mt.sameR_eq u u2 LL W h1 h2 (by omega))
          have T0 := hS.two
          generalize cutL (fromL (na.map (·.v)) key) 0 = LL at *
          generalize (na.map fun x => x.v.key.length + x.v.val.length + 16).sum = sm at *
          clear htb hvv hln hlb hbb e hS HI hau
          have hneg : ¬ (0 : Int) ≤ ((0 : Nat) : Int) - 1 := by omega
          go_wp2_with (first
            | (go_at_call 14; (with_reducible refine (HGA.out _ T0).mono ?_); rintro e w3 ⟨rfl, hb3⟩; have T3 := (T0.below hb3).kept (Sq.Kept.alloc _ _ (.cells #[.string r0, .int .u64 r1, .bool r2, .string r3] 33)); have oA := Ob.Obj.new w3 33 [.string r0, .int .u64 r1, .bool r2, .string r3]; have hB3 := (hB.trans (hb3.mono hB.size)).alloc (hB.trans (hb3.mono hB.size)).size (.cells #[.string r0, .int .u64 r1, .bool r2, .string r3] 33))
            | (go_at_call 14; (with_reducible refine (HGB.out _ T3).mono ?_); rintro e w4 ⟨rfl, hb4⟩; have T4 := (T3.below hb4).kept (Sq.Kept.alloc _ _ (.cells #[.string r0, .int .u64 r1, .bool r2, .string r3] 33)); have oA4 := (oA.below hb4).alloc (.cells #[.string r0, .int .u64 r1, .bool r2, .string r3] 33); have oB4 := Ob.Obj.new w4 33 [.string r0, .int .u64 r1, .bool r2, .string r3]; have hB4 := (hB3.trans (hb4.mono hB3.size)).alloc (hB3.trans (hb4.mono hB3.size)).size (.cells #[.string r0, .int .u64 r1, .bool r2, .string r3] 33))
            | (go_at_call 15; (with_reducible refine (HLA.out _ T4).mono ?_); rintro e w' ⟨rfl, rfl⟩)
            | (go_at_call 15; (with_reducible refine (HLB.out _ T4).mono ?_); rintro e w' ⟨rfl, rfl⟩)
            | (go_at_call 16; (with_reducible refine (HBA.out _ T4).mono ?_); rintro e w' ⟨rfl, rfl⟩)
            | (go_at_call 16; (with_reducible refine (HBB.out _ T4).mono ?_); rintro e w' ⟨rfl, rfl⟩)
            | (go_at_call 10; (with_reducible refine (HFA.out _ T4).mono ?_); rintro e w5 ⟨u5, rfl, hr5, hb5⟩; have T5 := T4.below hb5; have oA5 := oA4.below hb5; have oB5 := oB4.below hb5; have hB5 := hB4.trans (hb5.mono hB4.size))
            | (go_at_call 10; (with_reducible refine (HFB.out _ T5).mono ?_); rintro e w6 ⟨u6, rfl, hr6, hb6⟩; have hv5 := (Vs.vers_of_own hr5).grow hb6 hb6.size; have hv6 := Vs.vers_of_own hr6; have oA6 := oA5.below hb6; have oB6 := oB5.below hb6; have hB6 := hB5.trans (hb6.mono hB5.size))
            | (go_at_call 11; (with_reducible refine (HSM.out _ _ _ _ hv5 hv6 hll).mono ?_); rintro e w7 ⟨rfl, hb7⟩; have oA7 := oA6.below hb7; have oB7 := oB6.below hb7; have hB7 := hB6.trans (hb7.mono hB6.size); have p0 := oA7.cell 0; have p1 := oA7.cell 1; have p2 := oA7.cell 2; have p3 := oA7.cell 3; have q0 := oB7.cell 0; have q1 := oB7.cell 1; have q2 := oB7.cell 2; have q3 := oB7.cell 3; simp at p0 p1 p2 p3 q0 q1 q2 q3))
          go_ret
          exact ⟨by simp, hB7⟩
        · obtain ⟨k', rfl⟩ : ∃ k', k = k' + 1 := ⟨k - 1, by omega⟩
          have hlv : ((k' + 1 : Nat) : Int) - 1 = (k' : Int) := by omega
          rw [hlv]
          clear hlv
          obtain ⟨g, rfl, _, _⟩ := hau (by omega)
          have hkl : k' < P.length := by omega
          have hx := HI.out.ok P[k'] (List.getElem_mem hkl)
          obtain ⟨e1, e2, e3, e4, e5⟩ := acs_cells hS.row rfl k' hkl
          have hi1 : (0 : Int) ≤ (k' : Int) ∧ (k' : Int) < (P.length : Int) := by omega
          have HT := Lib.hid (turn_there HI.out.fresh hS.tab (show k' + 1 + j = P.length from hkj))
          have HN := Lib.hid (turn_next (P := P) (show k' + 1 + j = P.length from hkj))
          have HS := Lib.hid hS
          have hnl : nbs.length ≤ 1099511627776 := by
            have := congrArg List.length hS.tab
            rw [tab_len, Mt.putAll_len, List.length_take] at this
            simp at this
            omega
          generalize hxx : P[k'] = x at *
          clear hxx
          obtain ⟨kd, n, v⟩ := x
          have hv := hx.v
          obtain ⟨hn1, hn2⟩ := hx.n
          have hmy := hx.may
          simp only at e1 e2 e3 e4 e5 hv hn1 hn2 hmy
          have HA := Lib.hid (fun (N : Int) (h : N = (((9 - n).toNat : Nat) : Int)) W (T : TabAt w.heap.size tb nbs W) => (show Calls Try.prog 12 #[.pointer (some ⟨tb, 0, none⟩), verV v, .int .i64 N] W (AddedPost w.heap.size tb nbs v (9 - n).toNat W) from h ▸ add_new v (9 - n).toNat W T hnl hv.wide hmy (by omega) HT.out))
          unfold verV at HA
          clear hS hau hmy
          go_wp2_with fail
          go_still_tail 12, (by kernel_rfl)
          change wpList _ _ _ _ _ (World.drew _)
          go_wp2_with (go_at_call 12; (with_reducible refine (HA.out _ ?_ _ ?_).mono ?_); omega; exact (HS.out.two.kept (Sq.Kept.drew _ _)).b; intro e w3 hadd; obtain ⟨rfl, nb, hd3, st3⟩ := hadd)
          obtain ⟨hS3, hB3⟩ := (HS.out.kept (Sq.Kept.drew _ _)).added hd3 st3 HN.out (by omega)
          have hB4 := hB.drew.trans hB3
          go_roundw
          case rel => exact ⟨k', j + 1, _, by omega, by go_num, hS3, hB4⟩
          case measure => simp [intOf]
end Md
end Go.Proofs.Ytgfpkbdinfdkfaa
