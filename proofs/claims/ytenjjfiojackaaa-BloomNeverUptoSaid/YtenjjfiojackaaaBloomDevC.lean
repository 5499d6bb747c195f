/-
  Chapter 7, the developers' side: Has.
-/
import Derived.Test.YtenjjfiojackaaaBloomDevB
import Derived.StillTailTactics
namespace Go.Proofs.Ytenjjfiojackaaa
open Go.RowKit Go.Shelf
set_option linter.unusedSimpArgs false
set_option linter.unusedVariables false
namespace Bm
attribute [local go_sem] Oper.semAt_some

def hsI (s : List UInt8) (N : Nat) (X0 : World) (R : Sq.Blocks) (pre : List Int) (X : World) : Prop :=
  (∀ x ∈ pre, bitB s x.toNat = true) ∧ (Sq.Kept (fun b => b < N) X0 X ∧ ∀ b, b < N → b < X0.heap.size → ¬ R b)
def hsX (s : List UInt8) (N F : Nat) (X0 : World) (c : Code) (R : Sq.Blocks) (pre : List Int) (X : World) : Prop :=
  (c = .ret ∧ ∃ x ∈ pre, bitB s x.toNat = false) ∧ (Boxed X F 4 (.bool false) ∧ ¬ R F) ∧ (Sq.Kept (fun b => b < F) X0 X ∧ ∀ b, b < F → b < X0.heap.size → ¬ R b)
theorem hsI_steady (s : List UInt8) (N : Nat) (X0 : World) : Sq.Steady (hsI s N X0) := (Sq.Steady.pure _).and (Sq.Steady.kept _ _)
theorem hsX_steady (s : List UInt8) (N F : Nat) (X0 : World) (c : Code) : Sq.Steady (hsX s N F X0 c) := (Sq.Steady.pure _).and ((Sq.Steady.box _ _ _).and (Sq.Steady.kept _ _))

theorem bit_and (s : List UInt8) (i : Nat) (h : 1 + i / 8 < s.length) (h' : 1 + i / 8 < (Cd.bs s).size) : (bits BinOp.and IntKind.u8 ((((Cd.bs s)[1 + i / 8]'h').toNat : Int) / 2 ^ (i % 8)) 1 == 0) = !bitB s i := by
  have e0 : ((Cd.bs s)[1 + i / 8]'h') = s[1 + i / 8] := rfl
  rw [bit_eq s i h, e0]
  have hy := (s[1 + i / 8]).toNat_lt
  generalize s[1 + i / 8].toNat = y at *
  have e1 : ((y : Int) / 2 ^ (i % 8)) = ((y / 2 ^ (i % 8) : Nat) : Int) := by rw [Int.natCast_ediv]; norm_cast
  have hz : y / 2 ^ (i % 8) < 256 := Nat.lt_of_le_of_lt (Nat.div_le_self _ _) hy
  rw [e1]
  generalize y / 2 ^ (i % 8) = z at *
  rw [show (1 : Int) = ((1 : Nat) : Int) from rfl, u8_and_nat z 1 hz (by omega), Nat.and_one_is_mod, Int.tmod_eq_emod_of_nonneg (by omega), Bool.eq_iff_iff]
  simp
  omega

set_option maxRecDepth 100000 in
set_option maxHeartbeats 4000000 in
theorem hasOk : HasOk := by
  intro s key w hs hkl
  have hsz : (Cd.bs s).size = s.length := rfl
  have HV := Lib.hid (fun W => valid_any s W hs)
  by_cases h0 : s = []
  · subst h0
    refine (callsIn_wide (n := 12)).1 ?_
    refine callsIn_of_wp_marks Try.func11 rfl trivial ?_ rfl
    refine wpIn_wide.2 ?_
    simp only [Try.ntmps11, List.size_toArray, List.length_cons, List.length_nil, Nat.reduceAdd, Nat.reduceSub, Array.replicate_succ, Array.replicate_zero, List.push_toArray, List.append_toArray, List.nil_append, List.cons_append]
    go_wp2_with fail
    refine Sq.leaves_marks [] _ (by simp) (fun E hE => by cases hE) (fun W' hk' => ⟨.bool true, ?_, rfl, ?_⟩)
    · have c4 : W'.cell? ⟨w.heap.size + 1, 0, none⟩ = some (.bool true) := hk'.cell (by simp) (by have := Boxed.new (w.alloc (.cells #[.string (Cd.bs [])] 9)) 4 (.bool true); rw [World.size_alloc] at this; exact this.cell)
      simp [results, Try.results11, go_sem, c4]
    · exact (((Below.refl w.heap.size w).alloc (Nat.le_refl _) _).alloc (by simp) _).trans (hk'.below (fun _ _ => by simp) (by simp; omega))
  · have h0b : s.isEmpty = false := by simpa using h0
    cases hv : valid s with
    | false =>
      have HE := Lib.hid (show has s key = true from if_pos (.inl hv))
      rw [hv] at HV
      clear h0
      refine (callsIn_wide (n := 12)).1 ?_
      refine callsIn_of_wp_marks Try.func11 rfl trivial ?_ rfl
      refine wpIn_wide.2 ?_
      simp only [Try.ntmps11, List.size_toArray, List.length_cons, List.length_nil, Nat.reduceAdd, Nat.reduceSub, Array.replicate_succ, Array.replicate_zero, List.push_toArray, List.append_toArray, List.nil_append, List.cons_append]
      go_wp2_with (go_at_call 12; (with_reducible refine (HV.out _).mono ?_); rintro e w1 ⟨rfl, rfl⟩)
      refine Sq.leaves_marks [] _ (by simp) (fun E hE => by cases hE) (fun W' hk' => ⟨.bool true, ?_, by rw [HE.out], ?_⟩)
      · have c4 : W'.cell? ⟨w.heap.size + 1, 0, none⟩ = some (.bool true) := hk'.cell (by simp) (by have := Boxed.new (w.alloc (.cells #[.string (Cd.bs s)] 9)) 4 (.bool true); rw [World.size_alloc] at this; exact this.cell)
        simp [results, Try.results11, go_sem, c4]
      · exact (((Below.refl w.heap.size w).alloc (Nat.le_refl _) _).alloc (by simp) _).trans (hk'.below (fun _ _ => by simp) (by simp; omega))
    | true =>
      have HE := Lib.hid (show has s key = ((places key (s.getD 0 0).toNat (8 * ((s.length : Int) - 1))).all fun i => bitB s i.toNat) from if_neg (fun h => h.elim (fun h => by rw [hv] at h; cases h) h0))
      have hl9 : 9 ≤ s.length ∧ (s.getD 0 0).toNat ≤ 30 := by
        have := hv; unfold valid at this
        simp [h0] at this
        simp; omega
      obtain ⟨hl9, h30⟩ := hl9
      have hl : 0 < s.length := by omega
      have hi0 : (0 : Int) < (s.length : Int) := by omega
      have hg : s.getD 0 0 = s[0] := by rw [List.getD_eq_getElem?_getD, List.getElem?_eq_getElem hl, Option.getD_some]
      have hgc : (((Cd.bs s)[0]'hl).toNat : Int) = ((s.getD 0 0).toNat : Int) := by rw [hg]; rfl
      rw [hv] at HV
      clear h0 hg hv
      have hin := placesGo_in key (s.getD 0 0).toNat (8 * ((s.length : Int) - 1)) (by omega)
      have HIN := Lib.hid hin
      have HC := Lib.hid (fun W => (countBits_any s W (by omega) hs).mono (fun e w' (h : _ ∧ W = w') => (⟨h.1, h.2.symm⟩ : e = .returned (.int .u64 (8 * ((s.length : Int) - 1))) ∧ w' = W)))
      have HSQ := Lib.hid (fun B X (hB : PBox X B key (s.getD 0 0).toNat (8 * ((s.length : Int) - 1))) => places1_seq 11 (by omega) key (s.getD 0 0).toNat (8 * ((s.length : Int) - 1)) hkl (by omega) (by omega) B X hB)
      generalize (s.getD 0 0).toNat = k at *
      generalize places key k (8 * ((s.length : Int) - 1)) = L at *
      clear hin
      refine (callsIn_wide (n := 12)).1 ?_
      refine callsIn_of_wp_marks Try.func11 rfl trivial ?_ rfl
      refine wpIn_wide.2 ?_
      simp only [Try.ntmps11, List.size_toArray, List.length_cons, List.length_nil, Nat.reduceAdd, Nat.reduceSub, Array.replicate_succ, Array.replicate_zero, List.push_toArray, List.append_toArray, List.nil_append, List.cons_append]
      go_wp2_with (go_at_call 12; (with_reducible refine (HV.out _).mono ?_); rintro e w1 ⟨rfl, rfl⟩)
      obtain ⟨w1, hw1⟩ : ∃ w1, (w.alloc (.cells #[.string (Cd.bs s)] 9)).alloc (.cells #[.bool false] 4) = w1 := ⟨_, rfl⟩
      have hs1 : w1.heap.size = w.heap.size + 2 := by rw [← hw1]; simp
      have bF : Boxed w1 w.heap.size 9 (.string (Cd.bs s)) := by rw [← hw1]; exact (Boxed.new w _ _).alloc _
      have bR : Boxed w1 (w.heap.size + 1) 4 (.bool false) := by
        rw [← hw1]; have := Boxed.new (w.alloc (.cells #[.string (Cd.bs s)] 9)) 4 (.bool false); rwa [World.size_alloc] at this
      have hk1 : Sq.Kept (fun b => b < w.heap.size) w w1 := by rw [← hw1]; exact (Sq.Kept.alloc _ _ _).trans (Sq.Kept.alloc _ _ _)
      have cF := bF.cell
      have hkw : IntKind.i64.wrap (k : Int) = (k : Int) := by rw [IntKind.wrap_i64]; omega
      rw [hw1]
      clear hw1
      go_still_tail 6, (by kernel_rfl)
      still_call (HC.out _)
      repeat still_step
      try refine wpStill_nil ?_
      change wpList _ _ _ _ _ (World.drew _)
      have kd := Sq.Kept.drew (fun _ => True) w1
      generalize w1.drew = w2 at *
      have hs2 := kd.size
      go_wp2_with (go_at_call 17; refine (callsIn_wide.1 (placesDev_in 3 _ _ _ _)).mono ?_; rintro e w' ⟨rfl, rfl⟩)
      have bB := placesW_box w2 key k (8 * ((s.length : Int) - 1))
      have kW := placesW_kept w2 key k (8 * ((s.length : Int) - 1)) (fun _ => True)
      have sW := placesW_size w2 key k (8 * ((s.length : Int) - 1))
      generalize placesW w2 key k (8 * ((s.length : Int) - 1)) = X0 at *
      have kX := (kd.trans kW)
      have bF0 := kX.boxed trivial bF
      have bR0 := kX.boxed trivial bR
      have lF := bF0.lt
      have lR := bR.lt
      refine (wpIn_wide (n := 12)).1 ?_
      refine Sq.wp_range rfl (by omega) (gf := 24) (lb := #[.pointer (some ⟨w2.heap.size, 0, none⟩), .pointer (some ⟨w2.heap.size + 1, 0, none⟩), .pointer (some ⟨w2.heap.size + 2, 0, none⟩)]) rfl trivial (enters_of Try.func24 (by kernel_rfl) rfl)
        (HSQ.out w2.heap.size X0 bB) (by intro b hb; omega) (fun _ => rfl)
        (hsI s (w.heap.size + 2) X0) (fun c R pre X => hsX s (w.heap.size + 2) (w.heap.size + 1) X0 c R pre X)
        (fun a' x R pre X => hsI s (w.heap.size + 2) X0 R pre X ∧
          a' = { tmps := #[.string (Cd.bs s), .string (Cd.bs key), .pointer (some ⟨w.heap.size, 0, none⟩), undef, .pointer (some ⟨w.heap.size + 1, 0, none⟩), .int .u64 x, .string (Cd.bs s), .bool false, .bool false, .string (Cd.bs s), .bool true, .bool false, .bool false, .string (Cd.bs key), .string (Cd.bs s), .int .u8 (k : Int), .int .i64 (k : Int), .string (Cd.bs s), .int .u64 (8 * ((s.length : Int) - 1)), placesV w2.heap.size, .int .u64 x, undef, undef, undef, undef, undef, undef, undef, undef, undef, undef], defers := [] })
        (hsI_steady _ _ _) (fun c => hsX_steady _ _ _ _ _) (fun a' x => (hsI_steady _ _ _).and (fun _ _ _ _ _ hs _ => hs))
        ⟨fun x hx => (by cases hx), Sq.Kept.refl _ _, fun _ _ _ h => h⟩ ?assign ?body ?done ?stop
      case assign =>
        intro lp R pre x X hbd hsp hi
        gi_wp2
        exact ⟨Sq.Kept.refl _ _, hi, by first | rfl | trivial⟩
      case body =>
        rintro lp R pre x a' X hRl hrec hbd hsp ⟨⟨hall, hk, hnk⟩, rfl⟩
        have hxL : x ∈ L := hsp.subset (by simp)
        have hx := HIN.out x hxL
        obtain ⟨i, rfl⟩ := Int.eq_ofNat_of_zero_le hx.1
        have bFX := hk.boxed (by omega) bF0
        have bRX := hk.boxed (by omega) bR0
        have c1 := bFX.cell
        have c2 := bRX.cell
        have f2 := bRX.frozen
        have hi1 : (0 : Int) ≤ 1 + (i : Int) / 8 ∧ 1 + (i : Int) / 8 < (s.length : Int) := by omega
        have HB := Lib.hid (bit_and s i (by omega) (by rw [hsz]; omega))
        gi_wp2
        · rename_i h
          rw [HB.out] at h
          refine ⟨Sq.Kept.setCell _ _ ?_, ⟨rfl, (i : Int), by simp, by simpa using h⟩, ⟨bRX.set _, hnk _ (by omega) (by omega)⟩, (hk.less (fun b hb _ => by omega)).trans (Sq.Kept.setCell _ _ (by simp)), fun b h1 h2 => hnk b (by omega) h2⟩
          rintro (h | h)
          · exact hnk _ (by simp) (by simp; omega) h
          · simp at h; omega
        · rename_i h
          rw [HB.out] at h
          refine ⟨Sq.Kept.refl _ _, fun x hx => ?_, hk, hnk⟩
          rcases List.mem_append.1 hx with hx | hx
          · exact hall x hx
          · simp at hx; subst hx; simpa using h
      case done =>
        rintro D R ys X hD hRD rfl ⟨hall, hk, hnk⟩ hdf
        have bRX := hk.boxed (by omega) bR0
        have c2 := bRX.cell
        have f2 := bRX.frozen
        go_wp2
        refine Sq.leaves_marks [D] _ (by simp) (fun E hE => ?_) (fun W' hk' => ⟨.bool true, ?_, ?_, ?_⟩)
        · obtain rfl : E = D := by simpa using hE
          exact (Below.heap_setCell _ _ _ _ (by simp; omega)).trans hdf
        · have c4 : W'.cell? ⟨w.heap.size + 1, 0, none⟩ = some (.bool true) := hk'.cell (by simp; omega) (bRX.set _).cell
          simp [results, Try.results11, go_sem, c4]
        · rw [HE.out]; congr 2; exact (List.all_eq_true.2 hall).symm
        · have k2 : Sq.Kept (fun b => b < w.heap.size) w1 X := (kX.less (fun _ _ _ => trivial)).trans (hk.less (fun b hb _ => by omega))
          have k3 : Sq.Kept (fun b => b < w.heap.size) X (X.setCell ⟨w.heap.size + 1, 0, none⟩ (.bool true)) := Sq.Kept.setCell _ _ (by simp)
          exact (((hk1.trans k2).trans k3).trans (hk'.less (fun b hb _ h => by simp at h; omega))).below (fun _ h => h) (Nat.le_refl _)
      case stop =>
        rintro D R c pre X hD hRD hsp ⟨⟨rfl, x, hx, hex⟩, ⟨hb, hnb⟩, hk, hnk⟩ hdf
        gi_wp2
        refine Sq.leaves_marks [D] _ (by simp) (fun E hE => ?_) (fun W' hk' => ⟨.bool false, ?_, ?_, ?_⟩)
        · obtain rfl : E = D := by simpa using hE
          exact hdf
        · have c4 : W'.cell? ⟨w.heap.size + 1, 0, none⟩ = some (.bool false) := hk'.cell (by simp; omega) hb.cell
          simp [results, Try.results11, go_sem, c4]
        · rw [HE.out]; congr 2; exact (List.all_eq_false.2 ⟨x, hsp.subset hx, by simp [hex]⟩).symm
        · have k2 : Sq.Kept (fun b => b < w.heap.size) w1 X := (kX.less (fun _ _ _ => trivial)).trans (hk.less (fun b hb _ => by omega))
          exact ((hk1.trans k2).trans (hk'.less (fun b hb _ h => by simp at h; omega))).below (fun _ h => h) (Nat.le_refl _)
end Bm
end Go.Proofs.Ytenjjfiojackaaa
