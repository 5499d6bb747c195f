/-
  Chapter 7, the developers' side: Build.
-/
import Derived.Test.YtenjjfiojackaaaBloomDevC
namespace Go.Proofs.Ytenjjfiojackaaa
open Go.RowKit Go.Shelf
set_option linter.unusedSimpArgs false
set_option linter.unusedVariables false
namespace Bm
attribute [local go_sem] Oper.semAt_some

set_option maxRecDepth 100000 in
set_option maxHeartbeats 4000000 in
theorem build_none (v : Value) (b : Int) (keys : List (List UInt8)) (w : World) (hv : Strs w.heap.size w v keys) (hb : -9223372036854775808 ≤ b ∧ b ≤ 9223372036854775807) (hk : keys.length ≤ 1048576) (h : b < 1 ∨ keys = []) :
    Calls Try.prog 7 #[.int .i64 b, v] w fun e w' => e = .returned (.string (Cd.bs (build b keys))) ∧ Below w.heap.size w w' := by
  obtain ⟨a, cap, fb, fo, rfl, ha, hcells⟩ := hv
  obtain ⟨hb0, hb1⟩ := hb
  have HE := Lib.hid (show build b keys = [] from if_pos h)
  clear hcells ha
  refine (callsIn_wide (n := 12)).1 ?_
  refine callsIn_of_wp_marks Try.func7 rfl trivial ?_ rfl
  refine wpIn_wide.2 ?_
  simp only [Try.ntmps7, List.size_toArray, List.length_cons, List.length_nil, Nat.reduceAdd, Nat.reduceSub, Array.replicate_succ, Array.replicate_zero, List.push_toArray, List.append_toArray, List.nil_append, List.cons_append]
  by_cases h1 : b < 1
  · go_wp2_with fail
    refine Sq.leaves_marks [] _ (by simp) (fun E hE => by cases hE) (fun W' hk' => ⟨_, results_tmp rfl _ _ _, ?_, hk'.below (fun _ _ => by simp) (Nat.le_refl _)⟩)
    rw [HE.out]; rfl
  · obtain rfl : keys = [] := h.resolve_left h1
    go_wp2_with fail
    refine Sq.leaves_marks [] _ (by simp) (fun E hE => by cases hE) (fun W' hk' => ⟨_, results_tmp rfl _ _ _, ?_, hk'.below (fun _ _ => by simp) (Nat.le_refl _)⟩)
    rw [HE.out]; rfl

/-- the body of the first range over a function in a code -/
def rangeBody : Code → Option Code
  | .rangeFunc _ _ _ b => some b
  | .loop c => rangeBody c
  | .seq a b => match rangeBody a with
    | some c => some c
    | none => rangeBody b
  | .block _ c => rangeBody c
  | .scope c => rangeBody c
  | .cond _ a b => match rangeBody a with
    | some c => some c
    | none => rangeBody b
  | _ => none
/-- how far the loop is -/
def qOf43 (a : Act) : Nat := match a.tmps.getD 43 undef with
  | .int _ q => q.toNat
  | _ => 0
def bdI (G N : Nat) (F : List UInt8) (X0 : World) (R : Sq.Blocks) (pre : List Int) (X : World) : Prop :=
  (X.ownsRow G 5 1 (.slice (some ⟨G, 0, none⟩) N N) N (Cd.cs (setAll F pre)) ∧ ∀ g, (Value.slice (some ⟨G, 0, none⟩) N N).ownBlock = some g → ¬ R g) ∧ (Sq.Kept (fun b => b ≠ G) X0 X ∧ ∀ b, b ≠ G → b < X0.heap.size → ¬ R b)
theorem bdI_steady (G N : Nat) (F : List UInt8) (X0 : World) : Sq.Steady (bdI G N F X0) := (Sq.Steady.row _ _ _ _ _ _).and (Sq.Steady.kept _ _)
noncomputable def buildBody : Code := ((Try.f7.body.bind rangeBody).getD .skip)

set_option maxRecDepth 1000000 in
set_option maxHeartbeats 4000000 in
theorem build_body (lr : Nat) (R T : Sq.Blocks) (pre : List Int) (i : Nat) (X X0 : World) (G N Bx : Nat) (F : List UInt8) {v0 v1 v2 v3 v4 v5 v6 v8 v9 v11 v12 v13 v14 v15 v16 v17 v18 v19 v20 v21 v22 v23 v24 v25 v26 v27 v28 v29 v30 v31 v32 v33 v34 v35 v36 v37 v38 v39 v40 v41 v42 v43 v44 v45 v46 v47 v48 v49 v50 v51 v52 v53 v54 v55 v56 v57 v58 v59 v60 v61 v62 v63 v64 v65 v66 : Value}
    (hF : F.length = N) (hN : N ≤ 4194304) (hi : 1 + i / 8 < N) (hGB : G < Bx) (hB0 : Bx < X0.heap.size) (hI : bdI G N F X0 R pre X) (hT : ¬ T G) (hbx : Boxed X0 Bx 34 (.slice (some ⟨G, 0, none⟩) N N)) :
    Code.wpIn (Fence.wide.inRound lr) 10 Try.prog buildBody (Sq.post T (bdI G N F X0) (fun _ _ _ _ => False) R (pre ++ [(i : Int)]) X) { tmps := #[v0, v1, v2, v3, v4, v5, v6, .pointer (some ⟨Bx, 0, none⟩), v8, v9, .int .u64 (i : Int), v11, v12, v13, v14, v15, v16, v17, v18, v19, v20, v21, v22, v23, v24, v25, v26, v27, v28, v29, v30, v31, v32, v33, v34, v35, v36, v37, v38, v39, v40, v41, v42, v43, v44, v45, v46, v47, v48, v49, v50, v51, v52, v53, v54, v55, v56, v57, v58, v59, v60, v61, v62, v63, v64, v65, v66], defers := [] } X := by
  conv => arg 4; whnf
  obtain ⟨⟨hrow, hnr⟩, hk, hnk⟩ := hI
  have hnG : ¬ R G := hnr G rfl
  have hlG : G < X0.heap.size := by omega
  have hbX := hk.boxed (by omega) hbx
  have hbc := hbX.cell
  have hpl : (setAll F pre).length = N := by rw [setAll_len, hF]
  obtain ⟨p, hp⟩ : ∃ p, p = 1 + i / 8 := ⟨_, rfl⟩
  have hpi : (1 : Int) + (i : Int) / 8 = (p : Int) := by omega
  have hil : p < N := by omega
  have e2 := (hrow.cellAt p (by omega)).trans (cs_get (setAll F pre) p (by omega))
  have f2 := hrow.frozenAt p
  have HST := Lib.hid (fun v => (World.ownsRow.stored hrow p v).1)
  have HSB := Lib.hid (cs_setB (setAll F pre) i)
  rw [← hp] at HSB
  have HSA := Lib.hid (setAll_snoc F pre (i : Int))
  have hi3 : (0 : Int) ≤ (p : Int) ∧ (p : Int) < (N : Int) := by omega
  have HOV := Lib.hid (show bits BinOp.or IntKind.u8 (((setAll F pre).getD p 0).toNat : Int) (2 ^ (i % 8) % 256) = ((orB ((setAll F pre).getD p 0) i).toNat : Int) by
    have := or_val ((setAll F pre).getD p 0) i
    rwa [Nat.min_eq_left (show i % 8 ≤ 8 by omega)] at this)
  have HNR := Lib.hid hnr
  generalize setAll F pre = A at *
  generalize A.getD p 0 = y at *
  clear hp hrow hnr
  gi_wp2_with fail
  refine ⟨Sq.Kept.setCell _ _ (by rintro (h | h); exact hnG h; exact hT h), ⟨?_, HNR.out⟩, hk.trans (Sq.Kept.setCell _ _ (by simp)), hnk⟩
  rw [HSA.out, Int.toNat_natCast, ← HSB.out _ HOV.out]
  exact HST.out _

theorem lt_cell {w : World} {p : Addr} {v : Value} (hc : w.cell? p = some v) : p.block < w.heap.size := by
  obtain ⟨o, ho, _⟩ := cells_of_cell hc
  exact (Array.getElem?_eq_some_iff.1 ho).1

set_option maxRecDepth 100000 in
set_option maxHeartbeats 4000000 in
theorem buildOk : BuildOk := by
  intro v b keys w hv hb hk hkl
  by_cases h12 : b < 1 ∨ keys = []
  · exact build_none v b keys w hv hb hk h12
  obtain ⟨a, cap, fb, fo, rfl, ha, hcells⟩ := hv
  have HC := Lib.hid hcells
  clear hcells
  obtain ⟨hb0, hb1⟩ := hb
  obtain ⟨i0, hi, hz0, hz1, hz2⟩ := info_parts info_u8
  have h1 : ¬ b < 1 := fun h => h12 (.inl h)
  have h2 : ¬ keys.length = 0 := fun h => h12 (.inr (List.eq_nil_of_length_eq_zero h))
  have hbd : build b keys = fill (kOf b) (8 * (bytesOf b keys.length : Nat)) (UInt8.ofNat (kOf b) :: List.replicate (bytesOf b keys.length) 0) keys := if_neg h12
  have h2b : ((keys.length : Int) == 0) = false := by simpa using fun h => h2 (by rw [h]; rfl)
  have HE := Lib.hid hbd
  have hkk := kOf_in b
  obtain ⟨k, hkd⟩ : ∃ k, kOf b = k := ⟨_, rfl⟩
  obtain ⟨n, hnd⟩ : ∃ n, bytesOf b keys.length = n := ⟨_, rfl⟩
  obtain ⟨b2, hb2⟩ : ∃ b2, min b 20 = b2 := ⟨_, rfl⟩
  have hb2i : 1 ≤ b2 ∧ b2 ≤ 20 := by omega
  have hk2 : max (b2 * 69 / 100) 1 = (k : Int) := by rw [← hkd, ← hb2]; unfold kOf; omega
  obtain ⟨b3, hb3⟩ : ∃ b3, b2 * (keys.length : Int) = b3 := ⟨_, rfl⟩
  have hb3i : 0 ≤ b3 ∧ b3 ≤ 20971520 := by
    have q1 : b2 * (keys.length : Int) ≤ 20 * (keys.length : Int) := Int.mul_le_mul_of_nonneg_right hb2i.2 (by omega)
    have q2 : 0 ≤ b2 * (keys.length : Int) := Int.mul_nonneg (by omega) (by omega)
    omega
  have hn2 : (((max b3 64).toNat + 7) / 8 : Nat) = n := by rw [← hnd, ← hb3, ← hb2]; rfl
  obtain ⟨b4, hb4⟩ : ∃ b4, (b3 + 8 - 1) / 8 = b4 := ⟨_, rfl⟩
  have hb5 : max b4 8 = (n : Int) := by omega
  have hn0 : 8 ≤ n ∧ n ≤ 2621440 := by omega
  have hw1 : IntKind.u64.wrap b2 = b2 := by rw [IntKind.wrap_u64]; omega
  have hw2 : IntKind.u64.wrap (keys.length : Int) = (keys.length : Int) := by rw [IntKind.wrap_u64]; omega
  have hw3 : IntKind.u64.wrap b3 = b3 := by rw [IntKind.wrap_u64]; omega
  have hw4 : IntKind.u64.wrap (1 + (n : Int)) = 1 + (n : Int) := by rw [IntKind.wrap_u64]; omega
  have hkc : IntKind.u8.wrap (k : Int) = (k : Int) := by rw [IntKind.wrap_u8]; omega
  rw [hkd, hnd] at HE
  rw [hkd] at hkk
  clear hbd hkd hnd h12
  refine (callsIn_wide (n := 12)).1 ?_
  refine callsIn_of_wp_marks Try.func7 rfl trivial ?_ rfl
  refine wpIn_wide.2 ?_
  simp only [Try.ntmps7, List.size_toArray, List.length_cons, List.length_nil, Nat.reduceAdd, Nat.reduceSub, Array.replicate_succ, Array.replicate_zero, List.push_toArray, List.append_toArray, List.nil_append, List.cons_append]
  go_wp2_with (refine wpList_make_full _ (by rfl) _ _ 34 (by rfl) w.heap.size 5 i0 (.int .u8 0) 1 Try.underlying34 hi hz0 hz1 .u64 .u64 (1 + (n : Int)) (1 + (n : Int)) (1 + n) (by rfl) (by rfl) (by omega) (by omega) (by rw [hz2]; omega) (by unfold maxLen; omega) (Nat.le_refl _) ?_; intro w1 hown hgrow; rw [made_u8] at hown; have hc0 := (hown.cellAt 0 (by omega)).trans (cs_get (List.replicate (1 + n) 0) 0 (by simp; omega)); have hf0 := hown.frozenAt 0; have hst := (World.ownsRow.stored hown 0 (.int .u8 (k : Int))).1; rw [cs_set0 n k (by omega)] at hst; have hbw1 := (Below.refl _ _).grown hgrow (Nat.le_refl _) (fun k hk => by cases hk); have hl1 : w.heap.size < w1.heap.size := lt_cell hc0; have hc1 : (w1.alloc (.cells #[.slice (some ⟨w.heap.size, 0, none⟩) (1 + n) (1 + n)] 34)).cell? ⟨w.heap.size, 0, none⟩ = some (.int .u8 (((List.replicate (1 + n) (0 : UInt8)).getD 0 0).toNat : Int)) := (World.cell?_alloc_past _ _ _ hl1).trans hc0; have hf1 : (w1.alloc (.cells #[.slice (some ⟨w.heap.size, 0, none⟩) (1 + n) (1 + n)] 34)).frozen? ⟨w.heap.size, 0, none⟩ = false := (World.frozen?_alloc_past _ _ _ hl1).trans hf0)
  obtain ⟨Bx, hBx⟩ : ∃ Bx, w1.heap.size = Bx := ⟨_, rfl⟩
  obtain ⟨N, hN⟩ : ∃ N, 1 + n = N := ⟨_, rfl⟩
  obtain ⟨L0, hL0⟩ : ∃ L0, L0 = UInt8.ofNat k :: List.replicate n 0 := ⟨_, rfl⟩
  have hL0l : L0.length = N := by rw [hL0]; simp; omega
  rw [← hL0] at HE hst
  rw [hN] at hst
  obtain ⟨w2, hw2⟩ : ∃ w2, (w1.setCell ⟨w.heap.size, 0, none⟩ (.int .u8 (k : Int))).alloc (.cells #[.slice (some ⟨w.heap.size, 0, none⟩) N N] 34) = w2 := ⟨_, rfl⟩
  have hb2w : Below w.heap.size w w2 := by rw [← hw2]; exact (hbw1.setCell (p := ⟨w.heap.size, 0, none⟩) (Nat.le_refl _) _).alloc (by simp; omega) _
  have hrow2 : w2.ownsRow w.heap.size 5 1 (.slice (some ⟨w.heap.size, 0, none⟩) N N) N (Cd.cs L0) := by rw [← hw2]; exact hst.alloc _
  have hbox2 : Boxed w2 Bx 34 (.slice (some ⟨w.heap.size, 0, none⟩) N N) := by
    rw [← hw2]; have := Boxed.new (w1.setCell ⟨w.heap.size, 0, none⟩ (.int .u8 (k : Int))) 34 (.slice (some ⟨w.heap.size, 0, none⟩) N N); rw [World.size_setCell, hBx] at this; exact this
  have hGB : w.heap.size < Bx := by omega
  rw [hN, hBx, hw2]
  clear hst hbw1 hc0 hf0 hc1 hf1 hw2 hgrow hown hl1 hL0 hBx
  refine (wpIn_wide (n := 12)).1 ?_
  refine wpIn_loop (fun a' wr => ∃ (q : Nat) (Ds : List Nat) (u0 u1 u2 u3 u4 u8 u9 u10 u11 u12 u13 u14 u15 u16 u17 u18 u19 u20 u21 u22 u23 u24 u25 u26 u27 u28 u29 u30 u31 u32 u33 u34 u35 u36 u37 u38 u39 u40 u44 u45 u46 u47 u48 u49 u50 u51 u52 u53 u54 u55 u56 u57 u58 u59 u60 u61 u62 u63 u64 u65 u66 : Value), q ≤ keys.length ∧ wr.ownsRow w.heap.size 5 1 (.slice (some ⟨w.heap.size, 0, none⟩) N N) N (Cd.cs (fill k (8 * (n : Int)) L0 (keys.take q))) ∧ Boxed wr Bx 34 (.slice (some ⟨w.heap.size, 0, none⟩) N N) ∧ Below w.heap.size w wr ∧ Ds.Nodup ∧ (∀ D ∈ Ds, Bx < D ∧ wr.heap[D]? = some (.deferred (some []))) ∧
      a' = { tmps := #[u0, u1, u2, u3, u4, .int .i64 (k : Int), .int .u64 (n : Int), .pointer (some ⟨Bx, 0, none⟩), u8, u9, u10, u11, u12, u13, u14, u15, u16, u17, u18, u19, u20, u21, u22, u23, u24, u25, u26, u27, u28, u29, u30, u31, u32, u33, u34, u35, u36, u37, u38, u39, u40, .slice a keys.length cap, .int .i64 (keys.length : Int), .int .i64 (q : Int), u44, u45, u46, u47, u48, u49, u50, u51, u52, u53, u54, u55, u56, u57, u58, u59, u60, u61, u62, u63, u64, u65, u66], defers := Ds.map Sq.mark })
    (fun a' wr => keys.length - qOf43 a') ?start ?round
  case start =>
    exact ⟨0, [], _, _, _, _, _, _, _, _, _, _, _, _, _, _, _, _, _, _, _, _, _, _, _, _, _, _, _, _, _, _, _, _, _, _, _, _, _, _, _, _, _, _, _, _, _, _, _, _, _, _, _, _, _, _, _, _, _, _, _, _, _, Nat.zero_le _, hrow2, hbox2, hb2w, List.nodup_nil, fun _ h => by simp at h, rfl⟩
  case round =>
    rintro a' wr ⟨q, Ds, u0, u1, u2, u3, u4, u8, u9, u10, u11, u12, u13, u14, u15, u16, u17, u18, u19, u20, u21, u22, u23, u24, u25, u26, u27, u28, u29, u30, u31, u32, u33, u34, u35, u36, u37, u38, u39, u40, u44, u45, u46, u47, u48, u49, u50, u51, u52, u53, u54, u55, u56, u57, u58, u59, u60, u61, u62, u63, u64, u65, u66, hq, hrow, hbx, hB, hnd, hds, rfl⟩
    have hbs := hB.size
    have hbc := hbx.cell
    by_cases hlt : q < keys.length
    · obtain ⟨rfl, hfb⟩ := ha (by omega)
      have e0 := (hB.cell (p := ⟨fb, fo + q, none⟩) hfb).trans (HC.out q hlt)
      have hi1 : (0 : Int) ≤ (q : Int) ∧ (q : Int) < (keys.length : Int) := by omega
      have hxl := hkl keys[q] (List.getElem_mem hlt)
      have HT := Lib.hid (show fill k (8 * (n : Int)) L0 (keys.take (q + 1)) = setAll (fill k (8 * (n : Int)) L0 (keys.take q)) (places keys[q] k (8 * (n : Int))) by rw [List.take_succ_eq_append_getElem hlt, fill_snoc])
      have hfl := fill_len k (8 * (n : Int)) (keys.take q) L0
      rw [hL0l] at hfl
      have HI := Lib.hid (placesGo_in keys[q] k (8 * (n : Int)) (by omega))
      have HSQ := Lib.hid (fun B X (hB : PBox X B keys[q] k (8 * (n : Int))) => places1_seq 11 (by omega) keys[q] k (8 * (n : Int)) (by omega) (by omega) (by omega) B X hB)
      have hw8 : IntKind.u64.wrap ((n : Int) * 8) = 8 * (n : Int) := by rw [IntKind.wrap_u64]; omega
      generalize fill k (8 * (n : Int)) L0 (keys.take q) = F at *
      generalize places keys[q] k (8 * (n : Int)) = L at *
      generalize keys[q] = key at *
      have HR := Lib.hid hrow
      have HD := Lib.hid hds
      clear hrow hds
      gi_wp2_with (refine ⟨trivial, ?_⟩; gi_at_call 17; refine (placesDev_in _ _ _ _ _).mono ?_; rintro e w' ⟨rfl, rfl⟩)
      have bP := placesW_box wr key k (8 * (n : Int))
      have kP := placesW_kept wr key k (8 * (n : Int)) (fun _ => True)
      have sP := placesW_size wr key k (8 * (n : Int))
      generalize placesW wr key k (8 * (n : Int)) = X0 at *
      have rP := Sq.row_kept HR.out kP (fun _ _ => trivial)
      have xP := kP.boxed trivial hbx
      have lB := hbx.lt
      refine Sq.wp_range rfl (by omega) (gf := 24) (lb := #[.pointer (some ⟨wr.heap.size, 0, none⟩), .pointer (some ⟨wr.heap.size + 1, 0, none⟩), .pointer (some ⟨wr.heap.size + 2, 0, none⟩)]) rfl trivial (enters_of Try.func24 (by kernel_rfl) rfl)
        (HSQ.out wr.heap.size X0 bP) (by intro b hb; omega) (fun _ => rfl)
        (bdI w.heap.size N F X0) (fun c R pre X => False)
        (fun a' x R pre X => bdI w.heap.size N F X0 R pre X ∧
          a' = { tmps := #[u0, u1, u2, u3, u4, .int .i64 (k : Int), .int .u64 (n : Int), .pointer (some ⟨Bx, 0, none⟩), u8, .string (Cd.bs key), .int .u64 x, u11, u12, u13, u14, u15, u16, u17, u18, u19, u20, u21, u22, u23, u24, u25, u26, u27, u28, u29, u30, u31, u32, u33, u34, u35, u36, u37, u38, u39, u40, .slice (some ⟨fb, fo, none⟩) keys.length cap, .int .i64 (keys.length : Int), .int .i64 (q : Int), .bool true, .pointer (some ⟨fb, fo + q, none⟩), .string (Cd.bs key), .string (Cd.bs key), .int .i64 (k : Int), .int .u64 (n : Int), .int .u64 (8 * (n : Int)), placesV wr.heap.size, .int .u64 x, u53, u54, u55, u56, u57, u58, u59, u60, u61, u62, u63, u64, u65, u66], defers := [] })
        (bdI_steady _ _ _ _) (fun c => Sq.Steady.no) (fun a' x => (bdI_steady _ _ _ _).and (fun _ _ _ _ _ hs _ => hs))
        ⟨⟨rP, fun _ _ h => h⟩, Sq.Kept.refl _ _, fun _ _ _ h => h⟩ ?assign ?body ?done ?stop
      case assign =>
        intro lp R pre x X hbd hsp hi
        gi_wp2
        exact ⟨Sq.Kept.refl _ _, hi, by first | rfl | trivial⟩
      case body =>
        rintro lp R pre x a' X hRl hrec hbd hsp ⟨hI, rfl⟩
        have hx := HI.out x (hsp.subset (by simp))
        obtain ⟨i, rfl⟩ := Int.eq_ofNat_of_zero_le hx.1
        exact build_body lp R _ pre i X X0 w.heap.size N Bx F hfl (by omega) (by omega) hGB (by omega) hI (by omega) xP
      case done =>
        rintro D R ys X hD hRD rfl ⟨⟨hrow, hnr⟩, hk, hnk⟩ hdf
        gi_wp2_with fail
        have xX := hk.boxed (by omega) xP
        have hszX := hk.size
        refine ⟨⟨q + 1, D :: Ds, _, _, _, _, _, _, _, _, _, _, _, _, _, _, _, _, _, _, _, _, _, _, _, _, _, _, _, _, _, _, _, _, _, _, _, _, _, _, _, _, _, _, _, _, _, _, _, _, _, _, _, _, _, _, _, _, _, _, _, _, _, by omega, by rw [HT.out]; exact hrow, xX, ?_, ?_, ?_, rfl⟩, ?_⟩
        · exact (hB.trans (kP.below (fun _ _ => trivial) hbs)).trans (hk.below (fun b hb => by omega) (by omega))
        · exact List.nodup_cons.2 ⟨fun h => by have := (Array.getElem?_eq_some_iff.1 (HD.out D h).2).1; omega, hnd⟩
        · intro E hE
          rcases List.mem_cons.1 hE with rfl | hE
          · exact ⟨by omega, hdf⟩
          · have h1 := HD.out E hE
            exact ⟨h1.1, (hk.block E (by omega) (Nat.lt_of_lt_of_le (Array.getElem?_eq_some_iff.1 h1.2).1 kP.size)).trans ((kP.block E trivial (Array.getElem?_eq_some_iff.1 h1.2).1).trans h1.2)⟩
        · simp [qOf43]; omega
      case stop =>
        intro D R c pre X _ _ _ h _
        exact h.elim
    · obtain rfl : q = keys.length := by omega
      rw [List.take_length] at hrow
      have hcv := conv_any (l := fill k (8 * (n : Int)) L0 keys) (by rw [fill_len, hL0l]; exact hrow)
      have HDS := Lib.hid hds
      clear hds
      gi_wp2_with fail
      go_wp2_with fail
      refine Sq.leaves_marks Ds _ hnd (fun D hD => (HDS.out D hD).2) (fun W' hk' => ⟨_, results_tmp rfl _ _ _, ?_, hB.trans (hk'.below (fun b hb h => by have := (HDS.out _ h).1; omega) hbs)⟩)
      rw [HE.out]; rfl
end Bm
end Go.Proofs.Ytenjjfiojackaaa
