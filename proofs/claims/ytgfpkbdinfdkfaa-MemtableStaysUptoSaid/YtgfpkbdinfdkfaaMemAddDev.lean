/-
  The program's memtable: Add.
-/
import Derived.Test.YtgfpkbdinfdkfaaMemInsP
import Derived.Test.YtgfpkbdinfdkfaaMemOwnDev
import Derived.BigRegion
namespace Go.Proofs.Ytgfpkbdinfdkfaa
open Go.RowKit
set_option linter.unusedSimpArgs false
set_option linter.unusedVariables false
namespace Md
open Op (bytesLess)
open Mt (Ver VerIn VerW verV lessB mayB placeB)
/-- is its place taken? -/
def thereN (ns : List Nd) (v : Ver) : Bool := ns.any fun x => placeB x.v v
theorem less_place {a b c : Ver} (h : placeB b c = true) : lessB a b = lessB a c ∧ lessB b a = lessB c a := by
  unfold placeB at h
  simp only [decide_eq_true_eq] at h
  unfold lessB
  rw [h.1, h.2]
  exact ⟨rfl, rfl⟩
theorem place_not_less {a b : Ver} (h : placeB a b = true) : lessB a b = false ∧ lessB b a = false := by
  have e := less_place (a := b) h
  exact ⟨e.2.trans (Mt.less_irrefl b), e.1.trans (Mt.less_irrefl b)⟩
theorem not_less_place {a b : Ver} (h : lessB a b = false) (k : lessB b a = false) : placeB a b = true := by
  have := (Mt.less_total a b).2
  rw [h, k] at this
  cases hp : placeB a b with
  | true => rfl
  | false => rw [hp] at this; cases this
theorem there_post {ns : List Nd} (hord : (ns.map (·.v)).Pairwise fun a b => lessB a b = true) (v : Ver) :
    (postOf ns v = [] ∧ thereN ns v = false) ∨ ∃ y s, postOf ns v = y :: s ∧ thereN ns v = !lessB v y.v := by
  have hpp := pre_post ns v
  have hpre : ∀ x ∈ preOf ns v, placeB x.v v = false := fun x hx => by
    cases h : placeB x.v v with
    | false => rfl
    | true => have := (place_not_less h).1; rw [pre_less ns v x hx] at this; cases this
  have hpo := post_not hord v
  have e : thereN ns v = (postOf ns v).any fun x => placeB x.v v := by
    unfold thereN
    conv => lhs; rw [← hpp]
    rw [List.any_append]
    rw [show ((preOf ns v).any fun x => placeB x.v v) = false from List.any_eq_false.2 (fun x hx => by rw [hpre x hx]; simp)]
    rfl
  cases hp : postOf ns v with
  | nil => exact .inl ⟨rfl, by rw [e, hp]; rfl⟩
  | cons y s =>
    refine .inr ⟨y, s, rfl, ?_⟩
    rw [e, hp, List.any_cons]
    rw [hp] at hpo
    have hy := hpo y (List.mem_cons_self ..)
    cases hl : lessB v y.v with
    | false =>
      rw [not_less_place hy hl]
      rfl
    | true =>
      have h1 : placeB y.v v = false := by
        cases h : placeB y.v v with
        | false => rfl
        | true => have := (place_not_less h).2; rw [hl] at this; cases this
      rw [h1]
      have hs : (s.any fun x => placeB x.v v) = false := List.any_eq_false.2 fun x hx => by
        cases h : placeB x.v v with
        | false => simp
        | true =>
          have h2 : lessB y.v x.v = true := by
            have ho2 : ((y :: s).map (·.v)).Pairwise fun a b => lessB a b = true := by
              rw [← hpp, hp, List.map_append] at hord
              exact (List.pairwise_append.1 hord).2.1
            rw [List.map_cons, List.pairwise_cons] at ho2
            exact ho2.1 _ (List.mem_map_of_mem hx)
          rw [(less_place (a := y.v) h).1, hy] at h2
          cases h2
      rw [hs]
      rfl
/-- the address of the tower ahead at a level -/
def adP (tb : Nat) (pre : List Nd) (l : Nat) : Option Addr := some ⟨twB tb (stJ pre (8 - l)).cur, twO (stJ pre (8 - l)).cur, none⟩
def adC (tb : Nat) (pre : List Nd) : List Value := [.pointer (adP tb pre 0), .pointer (adP tb pre 1), .pointer (adP tb pre 2), .pointer (adP tb pre 3), .pointer (adP tb pre 4), .pointer (adP tb pre 5), .pointer (adP tb pre 6), .pointer (adP tb pre 7)]
theorem adC_get (tb : Nat) (pre : List Nd) (k : Nat) (h : k < 8) : (adC tb pre)[k]? = some (.pointer (adP tb pre k)) := by
  match k, h with
  | 0, _ => rfl
  | 1, _ => rfl
  | 2, _ => rfl
  | 3, _ => rfl
  | 4, _ => rfl
  | 5, _ => rfl
  | 6, _ => rfl
  | 7, _ => rfl
theorem ahead_ptr (tb : Nat) (pre : List Nd) (l : Nat) : aheadV tb pre l = .pointer (adP tb pre l) := tw_eq _ _
theorem lookV_eq (tb : Nat) (pre : List Nd) : lookV tb pre = .tuple #[.agg #[.pointer (adP tb pre 0), .pointer (adP tb pre 1), .pointer (adP tb pre 2), .pointer (adP tb pre 3), .pointer (adP tb pre 4), .pointer (adP tb pre 5), .pointer (adP tb pre 6), .pointer (adP tb pre 7)], .int .i64 ((stJ pre 8).n : Int)] := by
  unfold lookV
  rw [ahead_ptr, ahead_ptr, ahead_ptr, ahead_ptr, ahead_ptr, ahead_ptr, ahead_ptr, ahead_ptr]
/-- what Add stands on -/
structure AdInv (v : Ver) (w wr : World) (ab : Nat) (ah : List Value) : Prop where
  bel : Below w.heap.size w wr
  box : Ob.Obj wr w.heap.size 33 [.string (Cd.bs v.key), .int .u64 v.seq, .bool v.del, .string (Cd.bs v.val)]
  ah : Ob.Obj wr ab 65 ah
  abl : w.heap.size < ab
theorem AdInv.below {v : Ver} {w wr wr' : World} {ab : Nat} {ah : List Value} (h : AdInv v w wr ab ah) (hb : Below wr.heap.size wr wr') : AdInv v w wr' ab ah :=
  ⟨h.bel.trans (hb.mono h.bel.size), h.box.below hb, h.ah.below hb, h.abl⟩
theorem AdInv.drew {v : Ver} {w wr : World} {ab : Nat} {ah : List Value} (h : AdInv v w wr ab ah) (n : Nat) : AdInv v w (wr.drewN n) ab ah :=
  ⟨belowN h.bel _, h.box, h.ah, h.abl⟩

set_option maxRecDepth 100000 in
set_option maxHeartbeats 4000000 in
theorem add_bad {tb : Nat} (v : Ver) (hh : Int) (w : World) (hv : VerW v) (hi : -9223372036854775808 ≤ hh ∧ hh ≤ 9223372036854775807) (hbad : mayB v = false ∨ hh < 1 ∨ 8 < hh) :
    Calls Try.prog 12 #[.pointer (some ⟨tb, 0, none⟩), verV v, .int .i64 hh] w fun e w' => e = .returned (.int .i64 1) ∧ Below w.heap.size w w' := by
  have HM := Lib.hid (fun W => mayBe_any v W hv)
  have hB0 : Below w.heap.size w (w.alloc (.cells #[.string (Cd.bs v.key), .int .u64 v.seq, .bool v.del, .string (Cd.bs v.val)] 33)) := (Below.refl _ _).alloc (Nat.le_refl _) _
  unfold verV at *
  obtain ⟨hi1, hi2⟩ := hi
  cases hm : mayB v with
  | false =>
    rw [hm] at HM
    clear hm hbad
    go_enter Try.func12, Try.ntmps12
    go_wp2_with (go_at_call 31; (with_reducible refine (HM.out _).mono ?_); rintro e w1 ⟨rfl, hb1⟩; have hB1 := hB0.trans (hb1.mono hB0.size))
    all_goals go_ret
    all_goals exact ⟨rfl, hB1⟩
  | true =>
    rw [hm] at HM hbad
    clear hm
    rcases hbad with h | h | h
    · cases h
    · go_enter Try.func12, Try.ntmps12
      go_wp2_with (go_at_call 31; (with_reducible refine (HM.out _).mono ?_); rintro e w1 ⟨rfl, hb1⟩; have hB1 := hB0.trans (hb1.mono hB0.size))
      all_goals go_ret
      all_goals exact ⟨rfl, hB1⟩
    · have h2 : ¬ hh < 1 := by omega
      go_enter Try.func12, Try.ntmps12
      go_wp2_with (go_at_call 31; (with_reducible refine (HM.out _).mono ?_); rintro e w1 ⟨rfl, hb1⟩; have hB1 := hB0.trans (hb1.mono hB0.size))
      all_goals go_ret
      all_goals exact ⟨rfl, hB1⟩

set_option maxRecDepth 100000 in
set_option maxHeartbeats 8000000 in
theorem add_there {B0 tb : Nat} {ns : List Nd} (v : Ver) (hh : Int) (w : World) (hT : TabAt B0 tb ns w) (hL : ns.length ≤ 1099511627776) (hv : VerW v) (hm : mayB v = true) (hi : 1 ≤ hh ∧ hh ≤ 8) (hth : thereN ns v = true) :
    Calls Try.prog 12 #[.pointer (some ⟨tb, 0, none⟩), verV v, .int .i64 hh] w fun e w' => e = .returned (.int .i64 7) ∧ Below w.heap.size w w' := by
  have HM := Lib.hid (fun W => mayBe_any v W hv)
  rw [hm] at HM
  have HLK := Lib.hid (fun W (h : TabAt B0 tb ns W) => look_any v W h hL hv)
  rw [lookV_eq] at HLK
  have hB0 : Below w.heap.size w (w.alloc (.cells #[.string (Cd.bs v.key), .int .u64 v.seq, .bool v.del, .string (Cd.bs v.val)] 33)) := (Below.refl _ _).alloc (Nat.le_refl _) _
  have o0 := Ob.Obj.new w 33 [.string (Cd.bs v.key), .int .u64 v.seq, .bool v.del, .string (Cd.bs v.val)]
  obtain ⟨hi1, hi2⟩ := hi
  have HTK := Lib.hid (fun W (hb : Below w.heap.size w W) => hT.kept (Sq.Kept.of_below hb))
  obtain ⟨y, s, hp, hly⟩ : ∃ y s, postOf ns v = y :: s ∧ lessB v y.v = false := by
    rcases there_post hT.ord v with ⟨_, h2⟩ | ⟨y, s, h1, h2⟩
    · rw [hth] at h2; cases h2
    · rw [hth] at h2; exact ⟨y, s, h1, by cases h : lessB v y.v with | false => rfl | true => rw [h] at h2; cases h2⟩
  have hyn : y ∈ ns := by rw [← pre_post ns v, hp]; simp
  have HYC := Lib.hid (fun W (h : TabAt B0 tb ns W) => ver_cells h hyn)
  have HLS := Lib.hid (fun W => lessOk v y.v W hv (may_wide (hT.may y hyn)))
  rw [hly] at HLS
  have HTW := Lib.hid (fun W (h : TabAt B0 tb ns W) => (show W.cell? ⟨twB tb (stJ (preOf ns v) 8).cur, twO (stJ (preOf ns v) 8).cur + 0, none⟩ = some (.pointer (some ⟨y.b, 0, none⟩)) from by
    rw [tower_cell h (pre_post ns v).symm (stJ_stands _ 8) (fun c hc => by have := stJ_cur _ 7 c hc; omega) (by decide), hp]
    refine congrArg some (find_here (fun x hx => by have := stJ_rest (preOf ns v) 7 x hx; omega) ?_)
    have := (h.hgt y hyn).1; omega))
  have HP0 := Lib.hid (show adP tb (preOf ns v) 0 = some ⟨twB tb (stJ (preOf ns v) 8).cur, twO (stJ (preOf ns v) 8).cur, none⟩ from rfl)
  unfold verV at *
  clear hly hp hyn hm hth
  generalize preOf ns v = pre at *
  generalize stJ pre 8 = st8 at *
  go_enter Try.func12, Try.ntmps12
  go_upto_region 3 with (go_at_call 31; (with_reducible refine (HM.out _).mono ?_); rintro e w1 ⟨rfl, hb1⟩; have hB1 := hB0.trans (hb1.mono hB0.size); have o1 := o0.below hb1; have x0 := o1.cell 0; have x1 := o1.cell 1; have x2 := o1.cell 2; have x3 := o1.cell 3; simp at x0 x1 x2 x3)
  go_cut [7] (fun a wx => ∃ ab, a = .pointer (some ⟨ab, 0, none⟩) ∧ AdInv v w wx ab (adC tb pre))
  case first =>
    have HT1 := HTK.out _ hB1
    go_wp2_with (go_at_call 32; (with_reducible refine (HLK.out _ HT1).mono ?_); rintro e w2 ⟨rfl, hb2⟩; have hB2 := hB1.trans (hb2.mono hB1.size); have o2 := o1.below hb2)
    have hRes : AdInv v w (w2.alloc (.cells #[.pointer (adP tb pre 0), .pointer (adP tb pre 1), .pointer (adP tb pre 2), .pointer (adP tb pre 3), .pointer (adP tb pre 4), .pointer (adP tb pre 5), .pointer (adP tb pre 6), .pointer (adP tb pre 7)] 65)) w2.heap.size (adC tb pre) := ⟨hB2.alloc hB2.size _, o2.alloc _, Ob.Obj.new w2 _ _, o2.lt⟩
    go_meet
    exact ⟨w2.heap.size, rfl, hRes⟩
  obtain ⟨ab, rfl, hI⟩ := hcut
  have HTc := HTK.out _ hI.bel
  have a0 := (hI.ah.cell 0).trans (adC_get tb pre 0 (by decide))
  rw [HP0.out] at a0
  have b0 := HTW.out _ HTc
  rw [Nat.add_zero] at b0
  have x0 := hI.box.cell 0
  have x1 := hI.box.cell 1
  have x2 := hI.box.cell 2
  have x3 := hI.box.cell 3
  simp at x0 x1 x2 x3
  obtain ⟨c0, c1, c2, c3⟩ := HYC.out _ HTc
  generalize y.v = yv at *
  go_wp2_with fail
  go_still_tail 8, (by kernel_rfl)
  change wpList _ _ _ _ _ (World.drew _)
  have hI2 := hI.drew 1
  go_wp2_with (go_at_call 17; (with_reducible refine (HLS.out _).mono ?_); rintro e w3 ⟨rfl, hb3⟩; have hI3 := hI2.below hb3)
  go_ret
  exact ⟨rfl, hI3.bel⟩
/-- what stands while the node is put in -/
structure LpInv (tb : Nat) (ns pre post : List Nd) (v : Ver) (nb r : Nat) (many bytes : Int) (w wr : World) (ab l : Nat) : Prop where
  half : Half tb (pre ++ ⟨nb, v, l, r⟩ :: post) many bytes wr
  box : Ob.Obj wr w.heap.size 33 [.string (Cd.bs v.key), .int .u64 v.seq, .bool v.del, .string (Cd.bs v.val)]
  ah : Ob.Obj wr ab 65 (adC tb pre)
  kept : Sq.Kept (fun k => ¬ Foot tb ns k ∧ k < w.heap.size) w wr
theorem nx_ptr (l : Nat) (post : List Nd) : ∃ q, nx l post = .pointer q := by
  unfold nx
  split
  · exact ⟨_, rfl⟩
  · exact ⟨_, rfl⟩
theorem LpInv.step {B0 tb : Nat} {ns pre post : List Nd} {v : Ver} {nb r : Nat} {many bytes : Int} {w wr : World} {ab l : Nat} {st : St} (h : LpInv tb ns pre post v nb r many bytes w wr ab l) (hT : TabAt B0 tb ns w) (he : ns = pre ++ post) (hnb : w.heap.size < nb) (hab : w.heap.size < ab) (hne : ab ≠ nb) (hl : l < 8)
    (hs : Stands pre st) (hr : ∀ x ∈ st.rest, x.h ≤ l) (hc : ∀ c, st.cur = some c → l < c.h) :
    LpInv tb ns pre post v nb r many bytes w ((wr.setCell ⟨nb, 5 + l, none⟩ (nx l post)).setCell ⟨twB tb st.cur, twO st.cur + l, none⟩ (.pointer (some ⟨nb, 0, none⟩))) ab (l + 1) := by
  have hft := stands_foot (tb := tb) hs he
  have hlt := (hT.foot _ hft).2
  have hnd : (tb :: (pre ++ (⟨nb, v, l, r⟩ : Nd) :: post).map (·.b)).Nodup := by
    have h0 := hT.nodup
    have hf : ∀ k, k ∈ tb :: ns.map (·.b) → k < w.heap.size := fun k hk => by
      rcases List.mem_cons.1 hk with rfl | hk
      · exact hT.head.lt
      · obtain ⟨x, hx, rfl⟩ := List.mem_map.1 hk; exact chain_lt hT.chain x hx
    rw [he] at h0 hf
    have hp : (tb :: (pre ++ (⟨nb, v, l, r⟩ : Nd) :: post).map (·.b)).Perm (nb :: tb :: (pre ++ post).map (·.b)) := by
      refine List.Perm.trans (List.Perm.cons _ (List.Perm.map _ List.perm_middle)) ?_
      exact List.Perm.swap _ _ _
    rw [hp.nodup_iff, List.nodup_cons]
    exact ⟨fun hk => by have := hf nb hk; omega, h0⟩
  refine ⟨half_step hl h.half hnd hs hr hc, (h.box.other (by simp; omega) _).other (by simp; omega) _, (h.ah.other (by simpa using hne) _).other (by simp; omega) _, ?_⟩
  refine (h.kept.trans (Sq.Kept.setCell _ _ (by simp; omega))).trans (Sq.Kept.setCell _ _ (fun hk => hk.1 hft))
/-- the table behind -/
theorem LpInv.done {B0 tb : Nat} {ns pre post : List Nd} {v : Ver} {nb hh : Nat} {w wr : World} {ab : Nat} (hT : TabAt B0 tb ns w) (he : ns = pre ++ post) (hpre : ∀ x ∈ pre, lessB x.v v = true) (hpost : ∀ x ∈ post, lessB v x.v = true)
    (hm : mayB v = true) (hh1 : 1 ≤ hh ∧ hh ≤ 8) (hnb : w.heap.size < nb)
    (h : LpInv tb ns pre post v nb ns.length (ns.length : Int) ((ns.map fun x => x.v.key.length + x.v.val.length + 16).sum : Nat) w wr ab hh) :
    TabAt B0 tb (pre ++ ⟨nb, v, hh, ns.length⟩ :: post) ((wr.setCell ⟨tb, 8, none⟩ (.int .i64 ((ns.length : Int) + 1))).setCell ⟨tb, 9, none⟩ (.int .i64 (((ns.map fun x => x.v.key.length + x.v.val.length + 16).sum : Nat) + ((v.key.length : Int) + (v.val.length : Int) + 16)))) ∧
    Sq.Step (Foot tb ns) (Foot tb (pre ++ ⟨nb, v, hh, ns.length⟩ :: post)) w ((wr.setCell ⟨tb, 8, none⟩ (.int .i64 ((ns.length : Int) + 1))).setCell ⟨tb, 9, none⟩ (.int .i64 (((ns.map fun x => x.v.key.length + x.v.val.length + 16).sum : Nat) + ((v.key.length : Int) + (v.val.length : Int) + 16)))) := by
  have hf : ∀ k, k ∈ tb :: ns.map (·.b) → k < w.heap.size := fun k hk => by
    rcases List.mem_cons.1 hk with rfl | hk
    · exact hT.head.lt
    · obtain ⟨x, hx, rfl⟩ := List.mem_map.1 hk; exact chain_lt hT.chain x hx
  have hnd : (tb :: (pre ++ (⟨nb, v, hh, ns.length⟩ : Nd) :: post).map (·.b)).Nodup := by
    have h0 := hT.nodup
    rw [he] at h0 hf
    have hp : (tb :: (pre ++ (⟨nb, v, hh, ns.length⟩ : Nd) :: post).map (·.b)).Perm (nb :: tb :: (pre ++ post).map (·.b)) := by
      refine List.Perm.trans (List.Perm.cons _ (List.Perm.map _ List.perm_middle)) ?_
      exact List.Perm.swap _ _ _
    rw [hp.nodup_iff, List.nodup_cons]
    exact ⟨fun hk => by have := hf nb hk; omega, h0⟩
  have hmem : ∀ x, x ∈ pre ++ (⟨nb, v, hh, ns.length⟩ : Nd) :: post → x = ⟨nb, v, hh, ns.length⟩ ∨ x ∈ ns := fun x hx => by
    rw [List.mem_append, List.mem_cons] at hx
    have hin : ∀ y, y ∈ pre ∨ y ∈ post → y ∈ ns := fun y hy => by rw [he, List.mem_append]; exact hy
    rcases hx with h | h | h
    · exact .inr (hin _ (.inl h))
    · exact .inl h
    · exact .inr (hin _ (.inr h))
  have hlen : (pre ++ (⟨nb, v, hh, ns.length⟩ : Nd) :: post).length = ns.length + 1 := by rw [List.length_append, List.length_cons]; have := congrArg List.length he; rw [List.length_append] at this; omega
  have hsum : ((pre ++ (⟨nb, v, hh, ns.length⟩ : Nd) :: post).map fun x => x.v.key.length + x.v.val.length + 16).sum = (ns.map fun x => x.v.key.length + x.v.val.length + 16).sum + (v.key.length + v.val.length + 16) := by
    have e : (ns.map fun x => x.v.key.length + x.v.val.length + 16).sum = (pre.map fun x => x.v.key.length + x.v.val.length + 16).sum + (post.map fun x => x.v.key.length + x.v.val.length + 16).sum := by
      rw [he, List.map_append, List.sum_append]
    rw [e, List.map_append, List.sum_append, List.map_cons, List.sum_cons]
    simp only
    omega
  refine ⟨⟨?_, ?_, ?_, ?_, ?_, ?_, hnd, hT.lo.1, ?_⟩, ?_⟩
  · rw [hlen, hsum]
    have h1 := (h.half.head.set 8 (.int .i64 ((ns.length : Int) + 1))).set 9 (.int .i64 (((ns.map fun x => x.v.key.length + x.v.val.length + 16).sum : Nat) + ((v.key.length : Int) + (v.val.length : Int) + 16)))
    have e1 : (((ns.length + 1 : Nat)) : Int) = (ns.length : Int) + 1 := by omega
    have e2 : (((ns.map fun x => x.v.key.length + x.v.val.length + 16).sum + (v.key.length + v.val.length + 16) : Nat) : Int) = ((ns.map fun x => x.v.key.length + x.v.val.length + 16).sum : Nat) + ((v.key.length : Int) + (v.val.length : Int) + 16) := by omega
    rw [e1, e2]
    exact h1
  · refine Chain.kept (T := fun k => k ≠ tb) h.half.chain ((Sq.Kept.setCell _ _ (by simp)).trans (Sq.Kept.setCell _ _ (by simp))) (fun x hx e => (List.nodup_cons.1 hnd).1 (e ▸ List.mem_map_of_mem hx))
  · have h0 := hT.ord
    rw [he, List.map_append, List.pairwise_append] at h0
    rw [List.map_append, List.map_cons, List.pairwise_append, List.pairwise_cons]
    refine ⟨h0.1, ⟨fun a ha => ?_, h0.2.1⟩, fun a ha b hb => ?_⟩
    · obtain ⟨x, hx, rfl⟩ := List.mem_map.1 ha; exact hpost x hx
    · obtain ⟨x, hx, rfl⟩ := List.mem_map.1 ha
      rcases List.mem_cons.1 hb with rfl | hb
      · exact hpre x hx
      · exact h0.2.2 _ (List.mem_map_of_mem hx) b hb
  · intro x hx
    rcases hmem x hx with rfl | hx
    · exact hh1
    · exact hT.hgt x hx
  · intro x hx
    rw [hlen]
    rcases hmem x hx with rfl | hx
    · exact Nat.lt_succ_self _
    · have := hT.rank x hx; omega
  · intro x hx
    rcases hmem x hx with rfl | hx
    · exact hm
    · exact hT.may x hx
  · intro x hx
    have hB := hT.lo.1
    have hl := hT.head.lt
    rcases hmem x hx with rfl | hx
    · show B0 ≤ nb; omega
    · exact hT.lo.2 x hx
  · refine ⟨?_, ?_, ?_⟩
    · refine ((h.kept.less (T' := fun k => ¬ Foot tb ns k) (fun k hk hl => ⟨hk, hl⟩)).trans (Sq.Kept.setCell _ _ (fun hk => hk (.inl rfl)))).trans (Sq.Kept.setCell _ _ (fun hk => hk (.inl rfl)))
    · rintro k (rfl | ⟨x, hx, rfl⟩)
      · exact .inl rfl
      · refine .inr ⟨x, ?_, rfl⟩
        rw [he, List.mem_append] at hx
        rw [List.mem_append, List.mem_cons]
        rcases hx with h | h
        · exact .inl h
        · exact .inr (.inr h)
    · rintro k (rfl | ⟨x, hx, rfl⟩)
      · exact .inl (.inl rfl)
      · rcases hmem x hx with rfl | hx
        · exact .inr (by show w.heap.size ≤ nb; omega)
        · exact .inl (.inr ⟨x, hx, rfl⟩)

end Md
end Go.Proofs.Ytgfpkbdinfdkfaa
