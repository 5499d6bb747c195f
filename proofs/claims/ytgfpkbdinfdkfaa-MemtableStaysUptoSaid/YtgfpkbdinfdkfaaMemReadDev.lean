/-
  The program's memtable: New, Len, Bytes, Get, Level, Steps.
-/
import Derived.Test.YtgfpkbdinfdkfaaMemAddDev
import Derived.Test.YtgfpkbdinfdkfaaMemR
namespace Go.Proofs.Ytgfpkbdinfdkfaa
open Go.RowKit
set_option linter.unusedSimpArgs false
set_option linter.unusedVariables false
namespace Md
open Op (bytesLess)
open Mt (Ver VerIn VerW verV lessB mayB newestL nwV isNew)
open Vs (vcs)

set_option maxRecDepth 100000 in
set_option maxHeartbeats 2000000 in
theorem new_any (w : World) : Calls Try.prog 8 #[] w fun e w' => e = .returned (.pointer (some ⟨w.heap.size, 0, none⟩)) ∧ TabAt w.heap.size w.heap.size [] w' ∧ Below w.heap.size w w' := by
  have hT : TabAt w.heap.size w.heap.size [] (w.alloc (.cells #[.pointer none, .pointer none, .pointer none, .pointer none, .pointer none, .pointer none, .pointer none, .pointer none, .int .i64 0, .int .i64 0] 60)) :=
    { head := Ob.Obj.new w 60 (hdC [] 0 0), chain := trivial, ord := List.Pairwise.nil, hgt := fun _ h => (by cases h), rank := fun _ h => (by cases h), may := fun _ h => (by cases h), nodup := by simp, lo := ⟨Nat.le_refl _, fun _ h => (by cases h)⟩ }
  go_enter Try.func8, Try.ntmps8
  go_wp2_with fail
  go_ret
  exact ⟨rfl, hT, (Below.refl _ _).alloc (Nat.le_refl _) _⟩

set_option maxRecDepth 100000 in
set_option maxHeartbeats 2000000 in
theorem len_any {B0 tb : Nat} {ns : List Nd} (w : World) (hT : TabAt B0 tb ns w) : Calls Try.prog 15 #[.pointer (some ⟨tb, 0, none⟩)] w fun e w' => e = .returned (.int .i64 (ns.length : Int)) ∧ w = w' := by
  have m0 := hT.head.cell 8
  simp [hdC, links] at m0
  go_enter Try.func15, Try.ntmps15
  go_wp2_with fail
  go_ret
  exact ⟨rfl, rfl⟩

set_option maxRecDepth 100000 in
set_option maxHeartbeats 2000000 in
theorem bytes_any {B0 tb : Nat} {ns : List Nd} (w : World) (hT : TabAt B0 tb ns w) : Calls Try.prog 16 #[.pointer (some ⟨tb, 0, none⟩)] w fun e w' => e = .returned (.int .i64 ((ns.map fun x => x.v.key.length + x.v.val.length + 16).sum : Nat)) ∧ w = w' := by
  have m0 := hT.head.cell 9
  simp [hdC, links] at m0
  generalize (ns.map fun x => x.v.key.length + x.v.val.length + 16).sum = S at *
  go_enter Try.func16, Try.ntmps16
  go_wp2_with fail
  go_ret
  exact ⟨rfl, rfl⟩
/-- a place ahead of all of a key -/
def topV (key : List UInt8) : Ver := ⟨key, 18446744073709551615, false, []⟩

set_option maxRecDepth 100000 in
set_option maxHeartbeats 2000000 in
theorem newestc_any (key : List UInt8) (w : World) : Calls Try.prog 38 #[.string (Cd.bs key)] w fun e w' => e = .returned (verV (topV key)) ∧ Below w.heap.size w w' := by
  go_enter Try.func38, Try.ntmps38
  go_wp2_with fail
  exact bodyPost_ret (v := verV (topV key)) (by simp [results, Try.results38, go_sem, verV, topV]) rfl ⟨rfl, (Below.refl _ _).alloc (Nat.le_refl _) _⟩

set_option maxRecDepth 100000 in
set_option maxHeartbeats 4000000 in
theorem steps_any {B0 tb : Nat} {ns : List Nd} (key : List UInt8) (w : World) (hT : TabAt B0 tb ns w) (hL : ns.length ≤ 1099511627776) (hk : key.length ≤ 140737488351232) :
    Calls Try.prog 24 #[.pointer (some ⟨tb, 0, none⟩), .string (Cd.bs key)] w fun e w' => e = .returned (.int .i64 ((stJ (preOf ns (topV key)) 8).n : Int)) ∧ Below w.heap.size w w' := by
  have HN := Lib.hid (fun W => newestc_any key W)
  have HLK := Lib.hid (fun W (h : TabAt B0 tb ns W) => look_any (topV key) W h hL ⟨hk, Nat.zero_le _, by show (0:Int) ≤ 18446744073709551615; omega, by show (18446744073709551615:Int) < 18446744073709551616; omega⟩)
  have HTK := Lib.hid (fun W (hb : Below w.heap.size w W) => hT.kept (Sq.Kept.of_below hb))
  rw [lookV_eq] at HLK
  generalize preOf ns (topV key) = pre at *
  generalize verV (topV key) = tv at *
  go_enter Try.func24, Try.ntmps24
  go_wp2_with (first
    | (go_at_call 38; (with_reducible refine (HN.out _).mono ?_); rintro e w1 ⟨rfl, hb1⟩)
    | (go_at_call 32; (with_reducible refine (HLK.out _ (HTK.out _ hb1)).mono ?_); rintro e w2 ⟨rfl, hb2⟩; have hB2 := hb1.trans (hb2.mono hb1.size)))
  go_ret
  exact ⟨rfl, hB2.alloc hB2.size _⟩

theorem tower_next {B0 tb : Nat} {ns : List Nd} {W : World} (h : TabAt B0 tb ns W) (pl : Ver) : W.cell? ⟨twB tb (stJ (preOf ns pl) 8).cur, twO (stJ (preOf ns pl) 8).cur, none⟩ = some (nx 0 (postOf ns pl)) := by
  have := tower_cell h (pre_post ns pl).symm (stJ_stands _ 8) (fun c hc => by have := stJ_cur _ 7 c hc; omega) (l := 0) (by decide)
  rw [Nat.add_zero] at this
  rw [this]
  exact congrArg some (find_cut (fun x hx => by have := stJ_rest (preOf ns pl) 7 x hx; omega))
theorem nx0_cons {y : Nd} {s : List Nd} (h : 1 ≤ y.h) : nx 0 (y :: s) = .pointer (some ⟨y.b, 0, none⟩) := by
  unfold nx
  rw [List.find?_cons_of_pos (by simp; omega)]
theorem key_ge {a b : Ver} (h : lessB a b = true) {k : List UInt8} (hk : bytesLess k a.key = true) : bytesLess k b.key = true := by
  unfold lessB at h
  by_cases e : a.key = b.key
  · rw [← e]; exact hk
  · rw [if_neg e] at h; exact Mt.bl_trans hk h
theorem get_plain {ns : List Nd} (hord : (ns.map (·.v)).Pairwise fun a b => lessB a b = true) (key : List UInt8) (seq : Int) :
    newestL (ns.map (·.v)) key seq = match postOf ns ⟨key, seq, false, []⟩ with | [] => none | y :: _ => if y.v.key = key then some y.v else none := by
  have hpo := post_not hord ⟨key, seq, false, []⟩
  have e1 : newestL (ns.map (·.v)) key seq = newestL ((postOf ns ⟨key, seq, false, []⟩).map (·.v)) key seq := by
    conv => lhs; rw [← pre_post ns ⟨key, seq, false, []⟩]
    unfold newestL
    rw [List.map_append, List.find?_append]
    have : List.find? (isNew key seq) ((preOf ns ⟨key, seq, false, []⟩).map (·.v)) = none := by
      rw [List.find?_eq_none]
      intro x hx
      obtain ⟨y, hy, rfl⟩ := List.mem_map.1 hx
      have hl := pre_less ns _ y hy
      unfold lessB at hl
      unfold isNew
      simp only at hl
      by_cases e : y.v.key = key
      · rw [if_pos e] at hl
        simp only [decide_eq_true_eq] at hl
        simp; intro _; omega
      · simp [e]
    rw [this]
    rfl
  rw [e1]
  have ho2 : ((postOf ns ⟨key, seq, false, []⟩).map (·.v)).Pairwise fun a b => lessB a b = true := by
    rw [← pre_post ns ⟨key, seq, false, []⟩, List.map_append] at hord
    exact (List.pairwise_append.1 hord).2.1
  generalize postOf ns ⟨key, seq, false, []⟩ = post at *
  cases post with
  | nil => rfl
  | cons y s =>
    have hy := hpo y (List.mem_cons_self ..)
    unfold lessB at hy
    simp only at hy
    simp only
    by_cases e : y.v.key = key
    · rw [if_pos e] at hy ⊢
      have hys : y.v.seq ≤ seq := by
        have := of_decide_eq_false hy
        omega
      unfold newestL
      rw [List.map_cons, List.find?_cons_of_pos (by unfold isNew; simp [e, hys])]
    · rw [if_neg e] at hy ⊢
      unfold newestL
      rw [List.find?_eq_none]
      intro x hx
      have hgt : bytesLess key y.v.key = true := by
        have ht := Fi.bl_total y.v.key key
        have hne : (key == y.v.key) = false := by simpa using fun e' => e e'.symm
        rw [hne, Bool.or_false, hy] at ht
        simpa using ht.symm
      have hxk : bytesLess key x.key = true := by
        rw [List.map_cons] at hx ho2
        rcases List.mem_cons.1 hx with rfl | hx
        · exact hgt
        · exact key_ge ((List.pairwise_cons.1 ho2).1 x hx) hgt
      have : x.key ≠ key := fun e' => by rw [e', Mt.bl_irrefl] at hxk; cases hxk
      unfold isNew
      simp [this]

set_option maxRecDepth 100000 in
set_option maxHeartbeats 4000000 in
theorem get_any {B0 tb : Nat} {ns : List Nd} (key : List UInt8) (seq : Int) (w : World) (hT : TabAt B0 tb ns w) (hL : ns.length ≤ 1099511627776) (hk : key.length ≤ 140737488351232) (hs : 0 ≤ seq ∧ seq < 18446744073709551616) :
    Calls Try.prog 14 #[.pointer (some ⟨tb, 0, none⟩), .string (Cd.bs key), .int .u64 seq] w fun e w' => e = .returned (nwV (newestL (ns.map (·.v)) key seq)) ∧ Below w.heap.size w w' := by
  have hgp := get_plain hT.ord key seq
  have HLK := Lib.hid (fun W (h : TabAt B0 tb ns W) => look_any ⟨key, seq, false, []⟩ W h hL ⟨hk, Nat.zero_le _, hs.1, hs.2⟩)
  have HTK := Lib.hid (fun W (hb : Below w.heap.size w W) => hT.kept (Sq.Kept.of_below hb))
  rw [lookV_eq] at HLK
  have HPM := Lib.hid (fun x (hx : x ∈ postOf ns ⟨key, seq, false, []⟩) => (show x ∈ ns from by rw [← pre_post ns ⟨key, seq, false, []⟩]; exact List.mem_append_right _ hx))
  have HTW := Lib.hid (fun W (h : TabAt B0 tb ns W) => tower_next h ⟨key, seq, false, []⟩)
  have HP0 := Lib.hid (show adP tb (preOf ns ⟨key, seq, false, []⟩) 0 = some ⟨twB tb (stJ (preOf ns ⟨key, seq, false, []⟩) 8).cur, twO (stJ (preOf ns ⟨key, seq, false, []⟩) 8).cur, none⟩ from rfl)
  have HFO := Lib.hid (stands_foot (tb := tb) (stJ_stands (preOf ns ⟨key, seq, false, []⟩) 8) (pre_post ns ⟨key, seq, false, []⟩).symm)
  obtain ⟨R, hR⟩ : ∃ R, R = newestL (ns.map (·.v)) key seq := ⟨_, rfl⟩
  rw [← hR] at hgp ⊢
  clear hR
  generalize preOf ns ⟨key, seq, false, []⟩ = pre at *
  generalize postOf ns ⟨key, seq, false, []⟩ = post at *
  have HTT := Lib.hid hT
  have HGP := Lib.hid hgp
  clear hgp hT
  unfold verV at HLK
  simp only at HLK
  rw [HP0.out] at HLK
  have hB0 : Below w.heap.size w (w.alloc (.cells #[.string ⟨#[]⟩, .int .u64 0, .bool false, .string ⟨#[]⟩] 33)) := (Below.refl _ _).alloc (Nat.le_refl _) _
  have o0 := Ob.Obj.new w 33 [.string ⟨#[]⟩, .int .u64 0, .bool false, .string ⟨#[]⟩]
  have hfl := fun c => (HTT.out.foot c)
  have hfo : Foot tb ns (twB tb (stJ pre 8).cur) := HFO.out
  have hfb := (HTT.out.foot _ hfo).2
  clear hfl hfo
  generalize stJ pre 8 = st8 at *
  have hres : ∀ (v : Option Ver), R = v → Hid (nwV R = nwV v) := fun v e => Lib.hid (by rw [e])
  cases post with
  | nil =>
    have HR := hres none HGP.out
    have e : nx 0 [] = .pointer none := rfl
    rw [e] at HTW
    clear hres e
    go_enter Try.func14, Try.ntmps14
    go_wp2_with (go_at_call 32; (with_reducible refine (HLK.out _ (HTK.out _ hB0)).mono ?_); rintro e w2 ⟨rfl, hb2⟩; have hB2 := hB0.trans (hb2.mono hB0.size); have o2 := o0.below hb2; have b0 := HTW.out _ (HTK.out _ hB2); have hz2 := o2.lt; have hzt : twB tb st8.cur < w2.heap.size := Nat.lt_of_lt_of_le hfb hB2.size; have y0 := o2.cell 0; have y1 := o2.cell 1; have y2 := o2.cell 2; have y3 := o2.cell 3; have g0 := o2.frozen 0; have g1 := o2.frozen 1; have g2 := o2.frozen 2; have g3 := o2.frozen 3; simp at y0 y1 y2 y3)
    exact bodyPost_ret (v := .tuple #[.agg #[.string ⟨#[]⟩, .int .u64 0, .bool false, .string ⟨#[]⟩], .bool false]) (by simp [results, Try.results14, go_sem, y0, y1, y2, y3, g0, g1, g2, g3, hz2]) rfl ⟨by rw [HR.out]; rfl, ((((hB2.setCell (p := ⟨w.heap.size, 0, none⟩) (Nat.le_refl _) _).setCell (p := ⟨w.heap.size, 1, none⟩) (Nat.le_refl _) _).setCell (p := ⟨w.heap.size, 2, none⟩) (Nat.le_refl _) _).setCell (p := ⟨w.heap.size, 3, none⟩) (Nat.le_refl _) _).alloc (by simpa using hB2.size) _⟩
  | cons y s =>
    have hyn := HPM.out y (List.mem_cons_self ..)
    rw [nx0_cons (HTT.out.hgt y hyn).1] at HTW
    have HYC := Lib.hid (fun W (h : TabAt B0 tb ns W) => ver_cells h hyn)
    have hyb := (HTT.out.foot y.b (.inr ⟨y, hyn, rfl⟩)).2
    have HOW := Lib.hid (fun W => own_any y.v W (may_wide (HTT.out.may y hyn)))
    unfold verV at HOW
    have hgp := HGP.out
    simp only at hgp
    clear hyn HPM HGP
    generalize y.v = yv at *
    by_cases hky : yv.key = key
    · rw [if_pos hky] at hgp
      have HR := hres _ hgp
      subst hky
      clear hgp hres
      go_enter Try.func14, Try.ntmps14
      go_wp2_with (first
        | (go_at_call 32; (with_reducible refine (HLK.out _ (HTK.out _ hB0)).mono ?_); rintro e w2 ⟨rfl, hb2⟩; have hB2 := hB0.trans (hb2.mono hB0.size); have o2 := o0.below hb2; have b0 := HTW.out _ (HTK.out _ hB2); have hz2 := o2.lt; have hzt : twB tb st8.cur < w2.heap.size := Nat.lt_of_lt_of_le hfb hB2.size; have hzy : y.b < w2.heap.size := Nat.lt_of_lt_of_le hyb hB2.size; have c0 := (HYC.out _ (HTK.out _ hB2)).1; have c1 := (HYC.out _ (HTK.out _ hB2)).2.1; have c2 := (HYC.out _ (HTK.out _ hB2)).2.2.1; have c3 := (HYC.out _ (HTK.out _ hB2)).2.2.2)
        | (go_at_call 33; (with_reducible refine (HOW.out _).mono ?_); rintro e w3 ⟨rfl, hb3⟩; have hB3 := (hB2.alloc hB2.size _).trans (hb3.mono (hB2.alloc hB2.size _).size); have o3 := Ob.Obj.below (o2.alloc _) hb3; have y0 := o3.cell 0; have y1 := o3.cell 1; have y2 := o3.cell 2; have y3 := o3.cell 3; have g0 := o3.frozen 0; have g1 := o3.frozen 1; have g2 := o3.frozen 2; have g3 := o3.frozen 3; have hz3 := o3.lt; simp at y0 y1 y2 y3))
      exact bodyPost_ret (v := .tuple #[.agg #[.string (Cd.bs yv.key), .int .u64 yv.seq, .bool yv.del, .string (Cd.bs yv.val)], .bool true]) (by simp [results, Try.results14, go_sem, y0, y1, y2, y3, g0, g1, g2, g3, hz3]) rfl ⟨by rw [HR.out]; rfl, (((hB3.setCell (p := ⟨w.heap.size, 0, none⟩) (Nat.le_refl _) _).setCell (p := ⟨w.heap.size, 1, none⟩) (Nat.le_refl _) _).setCell (p := ⟨w.heap.size, 2, none⟩) (Nat.le_refl _) _).setCell (p := ⟨w.heap.size, 3, none⟩) (Nat.le_refl _) _⟩
    · rw [if_neg hky] at hgp
      have HR := hres _ hgp
      have hkb : (yv.key == key) = false := by simpa using hky
      clear hgp hres hky
      go_enter Try.func14, Try.ntmps14
      go_wp2_with (first
        | (go_at_call 32; (with_reducible refine (HLK.out _ (HTK.out _ hB0)).mono ?_); rintro e w2 ⟨rfl, hb2⟩; have hB2 := hB0.trans (hb2.mono hB0.size); have o2 := o0.below hb2; have b0 := HTW.out _ (HTK.out _ hB2); have hz2 := o2.lt; have hzt : twB tb st8.cur < w2.heap.size := Nat.lt_of_lt_of_le hfb hB2.size; have hzy : y.b < w2.heap.size := Nat.lt_of_lt_of_le hyb hB2.size; have c0 := (HYC.out _ (HTK.out _ hB2)).1; have y0 := o2.cell 0; have y1 := o2.cell 1; have y2 := o2.cell 2; have y3 := o2.cell 3; have g0 := o2.frozen 0; have g1 := o2.frozen 1; have g2 := o2.frozen 2; have g3 := o2.frozen 3; simp at y0 y1 y2 y3))
      exact bodyPost_ret (v := .tuple #[.agg #[.string ⟨#[]⟩, .int .u64 0, .bool false, .string ⟨#[]⟩], .bool false]) (by simp [results, Try.results14, go_sem, y0, y1, y2, y3, g0, g1, g2, g3, hz2]) rfl ⟨by rw [HR.out]; rfl, ((((hB2.setCell (p := ⟨w.heap.size, 0, none⟩) (Nat.le_refl _) _).setCell (p := ⟨w.heap.size, 1, none⟩) (Nat.le_refl _) _).setCell (p := ⟨w.heap.size, 2, none⟩) (Nat.le_refl _) _).setCell (p := ⟨w.heap.size, 3, none⟩) (Nat.le_refl _) _).alloc (by simpa using hB2.size) _⟩
end Md
end Go.Proofs.Ytgfpkbdinfdkfaa
