import Derived.Deep.RegionWith
import Derived.Deep.DeepCutAuto
import Derived.Deep.Cut
import Derived.Deep.CutRange
import Derived.Test.YtojbcdkiilcppaaProg
import Derived.JoinedCond
import Derived.Below
import Derived.ProofKit
import Derived.Test.YtojbcdkiilcppaaPart5
/-
  The program's event.Pack and Encode.
-/
namespace Go.Proofs.Ytojbcdkiilcppaa
open Go.RowKit Go.Shelf
set_option linter.unusedSimpArgs false
set_option linter.unusedVariables false
namespace Ev
open Co (Byt M8)
attribute [local go_sem] Oper.semAt_some
/-- what Of leaves -/
def OfOut (lv : Value) (ks : List Int) (w : World) (e : Ending) (w' : World) : Prop :=
  ∃ (B2 : Nat) (r : Value), e = .returned (.func (.func 43) #[] #[.pointer (some ⟨w.heap.size, 0, none⟩), .pointer (some ⟨B2, 0, none⟩)]) ∧ Boxed w' w.heap.size 38 lv ∧ w.heap.size < B2 ∧ Boxed w' B2 47 r ∧ w'.ownsRow w.heap.size 3 1 r ks.length (iC ks) ∧ Below w.heap.size w w'

set_option maxRecDepth 100000 in
set_option maxHeartbeats 4000000 in
theorem of_any (lv kv : Value) (ks : List Int) (w : World) (hl : ∃ a n c, lv = .slice a n c) (hK : Fi.Ints w.heap.size w kv ks) (hks : ks.length ≤ 1048576) :
    Calls Try.prog 28 #[lv, kv] w (OfOut lv ks w) := by
  obtain ⟨a, n, c, rfl⟩ := hl
  have bL := Boxed.new w 38 (.slice a n c)
  have hA : Below w.heap.size w (w.alloc (.cells #[.slice a n c] 38)) := (Below.refl _ _).alloc (Nat.le_refl _) _
  have HC := Lib.hid (cloneI_any kv ks (w.alloc (.cells #[.slice a n c] 38)) (by
    obtain ⟨a, cap, b, off, h1, h2, h3⟩ := hK.below hA
    exact ⟨a, cap, b, off, h1, fun h => ⟨(h2 h).1, by simp; have := (h2 h).2; omega⟩, h3⟩) (by omega))
  obtain ⟨a2, cap2, kb, ko, rfl, _⟩ := hK
  have hsA : (w.alloc (.cells #[.slice a n c] 38)).heap.size = w.heap.size + 1 := by simp
  go_enter Try.func28, Try.ntmps28
  go_wp2_with (go_at_call 42; (with_reducible refine HC.out.mono ?_); rintro e w1 ⟨r, rfl, hr, hb1⟩; obtain ⟨ra, rc, rfl, _⟩ := Sq.row_cases hr)
  go_ret
  have hb1' : Below w.heap.size w w1 := hA.trans (hb1.mono (by omega))
  refine ⟨w1.heap.size, _, rfl, ?_, ?_, Boxed.new w1 _ _, ?_, hb1'.alloc hb1'.size _⟩
  · exact ((Sq.Kept.of_below (T := fun _ => True) hb1).boxed trivial bL).alloc _
  · have := hb1.size; omega
  · have hlow : w1.ownsRow w.heap.size 3 1 (.slice ra ks.length rc) ks.length (iC ks) := by
      rcases hr with ⟨h0, h1 | ⟨g, cap', cur, h1, h2, h3⟩⟩
      · exact ⟨h0, .inl h1⟩
      · exact ⟨h0, .inr ⟨g, cap', cur, h1, by omega, h3⟩⟩
    exact hlow.alloc _

/-- the bytes of what was told -/
def pkD (pre : List (Nat × Evt)) : Dat := (pre.map (·.2)).flatMap load
theorem wkN_nil (L : List Evt) : ∀ n, n ≤ L.length → (wkN L [] n).map (·.2) = L.take n
  | 0, _ => rfl
  | n + 1, h => by
    have hn : n < L.length := h
    rw [wkN_yes hn rfl, List.map_append, wkN_nil L n (by omega), List.take_add_one, List.getElem?_eq_getElem hn]; rfl
theorem wk_all (L : List Evt) : (wk L []).map (·.2) = L := by unfold wk; rw [wkN_nil L _ (Nat.le_refl _), List.take_length]
theorem wk_pre {L : List Evt} {pre : List (Nat × Evt)} (h : pre <+: wk L []) : pre.length ≤ L.length ∧ ∀ p ∈ pre, p.2 ∈ L := by
  obtain ⟨t, ht⟩ := h
  have h2 := congrArg (List.map (·.2)) ht
  rw [wk_all, List.map_append] at h2
  refine ⟨?_, fun p hp => ?_⟩
  · rw [← h2, List.length_append, List.length_map]; omega
  · rw [← h2]; exact List.mem_append.2 (.inl (List.mem_map.2 ⟨p, hp, rfl⟩))
theorem pkD_len {L : List Evt} {pre : List (Nat × Evt)} (h : pre <+: wk L []) (hI : ∀ x ∈ L, EvIn x) : (pkD pre).length ≤ 90 * L.length := by
  obtain ⟨h1, h2⟩ := wk_pre h
  have : ∀ l : List (Nat × Evt), (∀ p ∈ l, p.2 ∈ L) → (pkD l).length ≤ 90 * l.length := by
    intro l
    induction l with
    | nil => intro _; simp [pkD]
    | cons p l ih =>
      intro hm
      have := ih (fun q hq => hm q (by simp [hq]))
      have h3 := load_len (hI _ (hm p (by simp)))
      unfold pkD at this ⊢
      rw [List.map_cons, List.flatMap_cons, List.length_append, List.length_cons]; omega
  have := this pre h2
  omega
theorem pkD_snoc (pre : List (Nat × Evt)) (p : Nat × Evt) : pkD (pre ++ [p]) = pkD pre ++ load p.2 := by simp [pkD]
def pkI (N0 c : Nat) (w1 : World) (R : Sq.Blocks) (pre : List (Nat × Evt)) (X : World) : Prop :=
  (∀ p ∈ pre, validB p.2 = true) ∧ (∃ s, (X.ownsRow N0 5 1 s (pkD pre).length (Cd.cs (pkD pre)) ∧ ∀ g, s.ownBlock = some g → ¬ R g) ∧ (Boxed X (c + 1 + 1) 74 s ∧ ¬ R (c + 1 + 1))) ∧
    (Boxed X c 9 (.string ⟨#[]⟩) ∧ ¬ R c) ∧ (Boxed X (c + 1) 28 (.int .i64 0) ∧ ¬ R (c + 1)) ∧ (Sq.Kept (fun b => b < c) w1 X ∧ ∀ b, b < c → b < w1.heap.size → ¬ R b)
def pkX (c : Nat) (w1 : World) (cd : Code) (R : Sq.Blocks) (pre : List (Nat × Evt)) (X : World) : Prop :=
  (cd = .ret ∧ ∃ p ∈ pre, validB p.2 = false) ∧ (Boxed X c 9 (.string ⟨#[]⟩) ∧ ¬ R c) ∧ (Boxed X (c + 1) 28 (.int .i64 54) ∧ ¬ R (c + 1)) ∧ (Sq.Kept (fun b => b < c) w1 X ∧ ∀ b, b < c → b < w1.heap.size → ¬ R b)
theorem pkI_steady (N0 c : Nat) (w1 : World) : Sq.Steady (pkI N0 c w1) :=
  (Sq.Steady.pure _).and ((Sq.Steady.ex fun s => (Sq.Steady.row N0 5 1 (fun _ => s) (fun pre => (pkD pre).length) (fun pre => Cd.cs (pkD pre))).and (Sq.Steady.box _ _ _)).and ((Sq.Steady.box _ _ _).and ((Sq.Steady.box _ _ _).and (Sq.Steady.kept _ _))))
theorem pkX_steady (c : Nat) (w1 : World) (cd : Code) : Sq.Steady (pkX c w1 cd) := (Sq.Steady.pure _).and ((Sq.Steady.box _ _ _).and ((Sq.Steady.box _ _ _).and (Sq.Steady.kept _ _)))

set_option maxRecDepth 100000 in
set_option maxHeartbeats 8000000 in
theorem pack_any (v : Value) (L : List Evt) (w : World) (hE : Evs w.heap.size w v L) (hI : ∀ x ∈ L, EvIn x) (hl : L.length ≤ 1048576) :
    Calls Try.prog 22 #[v] w fun e w' => e = .returned (.tuple #[.string (Cd.bs (pack L).1), .int .i64 ((pack L).2 : Nat)]) ∧ Below w.heap.size w w' := by
  have hsl : ∃ a n c, v = .slice a n c := by obtain ⟨a, c, b, o, h, _⟩ := hE; exact ⟨a, _, c, h⟩
  have HO := Lib.hid (fun W (hb : Below w.heap.size w W) => of_any v (.slice none 0 0) [] W hsl ⟨none, 0, 0, 0, rfl, fun h => absurd h (by simp), fun j h => absurd h (by simp)⟩ (by simp))
  refine (callsIn_wide (n := 12)).1 ?_
  refine callsIn_of_wp_marks Try.func22 rfl trivial ?_ rfl
  refine wpIn_wide.2 ?_
  simp only [Try.ntmps22, List.size_toArray, List.length_cons, List.length_nil, Nat.reduceAdd, Nat.reduceSub, Array.replicate_succ, Array.replicate_zero, List.push_toArray, List.append_toArray, List.nil_append, List.cons_append]
  obtain ⟨va, vn, vc, rfl⟩ := hsl
  have HSB := Lib.hid (fun k (h0 : 0 < L.length) (h : (Value.slice va vn vc).ownBlock = some k) => show k < w.heap.size from by
    obtain ⟨a, c, b, o, e, h2, _⟩ := hE
    injection e with e1 e2 e3
    obtain ⟨h3, h4⟩ := h2 h0
    rw [e1, h3] at h
    simp [Value.ownBlock] at h
    omega)
  obtain ⟨w0, hw0⟩ : ∃ w0, ((w.alloc (.cells #[.string ⟨#[]⟩] 9)).alloc (.cells #[.int .i64 0] 28)).alloc (.cells #[.slice none 0 0] 74) = w0 := ⟨_, rfl⟩
  have hb0 : Below w.heap.size w w0 := by rw [← hw0]; exact (((Below.refl _ _).alloc (Nat.le_refl _) _).alloc (by simp) _).alloc (by simp; omega) _
  go_wp2_with (go_at_call 28; (with_reducible refine (HO.out _ hb0).mono ?_); rintro e w1 ⟨B2, r, rfl, hbL, hB2, hbK, hrow, hb1⟩)
  have hs0 : w.heap.size + 1 + 1 + 1 ≤ w0.heap.size ∧ w0.heap.size ≤ w.heap.size + 1 + 1 + 1 := by rw [← hw0]; simp
  have q0 : Boxed w0 w.heap.size 9 (.string ⟨#[]⟩) := by rw [← hw0]; exact ((Boxed.new w _ _).alloc _).alloc _
  have q1 : Boxed w0 (w.heap.size + 1) 28 (.int .i64 0) := by
    rw [← hw0]; have := Boxed.new (w.alloc (.cells #[.string ⟨#[]⟩] 9)) 28 (.int .i64 0); rw [World.size_alloc] at this; exact this.alloc _
  have q2 : Boxed w0 (w.heap.size + 1 + 1) 74 (.slice none 0 0) := by
    rw [← hw0]; have := Boxed.new ((w.alloc (.cells #[.string ⟨#[]⟩] 9)).alloc (.cells #[.int .i64 0] 28)) 74 (.slice none 0 0); rwa [World.size_alloc, World.size_alloc] at this
  have kA := Sq.Kept.of_below (T := fun _ => True) hb1
  have q0' := kA.boxed trivial q0
  have q1' := kA.boxed trivial q1
  have q2' := kA.boxed trivial q2
  have hb01 := hb0.trans (hb1.mono (by omega))
  have hs1 := hb1.size
  have hbKl := hbK.lt
  have hE1 : Evs w1.heap.size w1 (.slice va vn vc) L := hE.grow hb01 hb01.size
  have hK1 : Fi.Ints w1.heap.size w1 r [] := by have := ints_of_own hrow; exact this
  have hTN : ∀ k, OT w0.heap.size B2 (.slice va vn vc) r L.length 0 k → k < w1.heap.size ∧ k ≠ w.heap.size ∧ k ≠ w.heap.size + 1 ∧ k ≠ w.heap.size + 1 + 1 := by
    rintro k (rfl | rfl | ⟨h0, h⟩ | ⟨h0, _⟩)
    · exact ⟨hbL.lt, by omega, by omega, by omega⟩
    · exact ⟨hbKl, by omega, by omega, by omega⟩
    · have hk : k < w.heap.size := HSB.out k h0 h
      exact ⟨by omega, by omega, by omega, by omega⟩
    · exact absurd h0 (by omega)
  have HTN := Lib.hid hTN
  have HPI := Lib.hid (fun (pre : List (Nat × Evt)) (h : pre <+: wk L []) => wk_pre h)
  have HALL := Lib.hid (wk_all L)
  have HPS := Lib.hid (fun (pre : List (Nat × Evt)) (x : Nat × Evt) (h : pre ++ [x] <+: wk L []) => (List.prefix_append pre [x]).trans h)
  have HD0 := Lib.hid hI
  clear hw0 hTN hI
  refine (wpIn_wide (n := 12)).1 ?_
  refine Sq.wp_range rfl (by omega) (gf := 43) (lb := #[.pointer (some ⟨w0.heap.size, 0, none⟩), .pointer (some ⟨B2, 0, none⟩)]) rfl trivial (enters_of Try.func43 (by kernel_rfl) rfl)
    (of1_seq 11 (by omega) L [] (.slice va vn vc) r w0.heap.size B2 w1 hbL hbK hE1 hK1 hl (by simp)) (fun k hk => (HTN.out k hk).1) (fun _ => rfl)
    (pkI w1.heap.size w.heap.size w1) (fun c R pre X => pkX w.heap.size w1 c R pre X)
    (fun a' x R pre X => pkI w1.heap.size w.heap.size w1 R pre X ∧ ∃ Bf, (Ob.Obj X Bf 26 (evC x.2) ∧ ¬ R Bf ∧ w1.heap.size ≤ Bf) ∧
      a' = { tmps := #[.slice va vn vc, undef, .pointer (some ⟨w.heap.size, 0, none⟩), .pointer (some ⟨w.heap.size + 1, 0, none⟩), .pointer (some ⟨w.heap.size + 1 + 1, 0, none⟩), undef, .pointer (some ⟨Bf, 0, none⟩), .slice va vn vc, .func (.func 43) #[] #[.pointer (some ⟨w0.heap.size, 0, none⟩), .pointer (some ⟨B2, 0, none⟩)], .int .i64 (x.1 : Int), evV x.2, undef, undef, undef, undef, undef, undef, undef, undef], defers := [] })
    (pkI_steady _ _ _) (fun c => pkX_steady _ _ _)
    (fun a' x => (pkI_steady _ _ _).and (Sq.Steady.ex fun Bf => (show Sq.Steady (fun R (_ : List (Nat × Evt)) X => Ob.Obj X Bf 26 (evC x.2) ∧ ¬ R Bf ∧ w1.heap.size ≤ Bf) from fun R R' s X X' h st => by
      obtain ⟨h1, h2⟩ := Sq.step_obj st h.1 h.2.1
      exact ⟨h1, h2, h.2.2⟩).and (fun _ _ _ _ _ hs _ => hs)))
    ⟨fun x hx => (by cases hx), ⟨_, ⟨World.ownsRow_nil _ _ _ _, fun g hg => (by cases hg)⟩, q2', fun h => h⟩, ⟨q0', fun h => h⟩, ⟨q1', fun h => h⟩, Sq.Kept.refl _ _, fun _ _ _ h => h⟩ ?assign ?body ?done ?stop
  case assign =>
    rintro lp R pre ⟨xi, x⟩ X hbd hsp hi
    have hsz : w1.heap.size ≤ X.heap.size := hi.2.2.2.2.1.size
    obtain ⟨x0, x1, x2, x3, x4, x5, x6, x7, x8⟩ := x
    simp only [oEnc, evV]
    gi_wp2
    refine ⟨Sq.Kept.alloc _ _ _, pkI_steady _ _ _ _ _ _ _ _ hi (Sq.Step.alloc0 _ _ _), X.heap.size, ⟨Ob.Obj.new X 26 (evC ⟨x0, x1, x2, x3, x4, x5, x6, x7, x8⟩), fun h => by have := hbd _ h; omega, hsz⟩, ?_⟩
    first | rfl | trivial
  case body =>
    rintro lp R pre ⟨xi, x⟩ a' X hRl hrec hbd hsp ⟨⟨hall, ⟨sv, ⟨hown, hsR⟩, hbv, hnv⟩, ⟨b0, nb0⟩, ⟨b1, nb1⟩, hk, hnk⟩, Bf, ⟨hf, hnf, hNf⟩, rfl⟩
    have hxI := HD0.out x ((HPI.out _ hsp).2 (xi, x) (by simp))
    have hDl := pkD_len (HPS.out _ _ hsp) HD0.out
    obtain ⟨ao, cap, rfl, _⟩ := Sq.row_cases hown
    have HVD := Lib.hid (fun W => validD_any x hxI W)
    have hsX := hk.size
    have hlo := fun g (hg : (Value.slice ao (pkD pre).length cap).ownBlock = some g) => Ob.row_lt hown hg
    have HLO := Lib.hid hlo
    have HSR := Lib.hid hsR
    have HBD := Lib.hid hbd
    have HRK := Lib.hid hrec
    have HAL := Lib.hid hall
    clear hrec hlo hsR hbd hall
    have e0 := hf.cell 0
    have e1 := hf.cell 1
    have e2 := hf.cell 2
    have e3 := hf.cell 3
    have e4 := hf.cell 4
    have e5 := hf.cell 5
    have e6 := hf.cell 6
    have e7 := hf.cell 7
    have e8 := hf.cell 8
    unfold evC at e0 e1 e2 e3 e4 e5 e6 e7 e8
    simp only [List.getElem?_cons_zero, List.getElem?_cons_succ] at e0 e1 e2 e3 e4 e5 e6 e7 e8
    cases hv : validB x with
    | false =>
      have HVF := Lib.hid hv
      rw [hv] at HVD
      unfold evV at HVD
      clear hv hsp hDl
      gi_wp2_with (refine ⟨trivial, ?_⟩; gi_at_call 16; refine (CallsIn.inRound lp (callsIn_wide.2 (HVD.out _))).mono ?_; rintro e w5 ⟨rfl, hb5⟩; have k5 := Sq.Kept.of_below (T := fun _ => True) hb5; have b05 := k5.boxed trivial b0; have b15 := k5.boxed trivial b1; have c05 := b05.cell; have c15 := b15.cell; have g05 := b05.frozen; have g15 := b15.frozen)
      refine ⟨?_, ⟨rfl, (xi, x), by simp, HVF.out⟩, ⟨(b05.set _).other (by show w.heap.size ≠ w.heap.size + 1; omega) _, nb0⟩, ⟨((b15.other (by show w.heap.size + 1 ≠ w.heap.size; omega) _).set _), nb1⟩, ?_, hnk⟩
      · exact ((k5.less fun _ _ _ => trivial).trans (Sq.Kept.setCell _ _ (by rintro (h | h); exact nb0 h; exact (HTN.out _ h).2.1 rfl))).trans (Sq.Kept.setCell _ _ (by rintro (h | h); exact nb1 h; exact (HTN.out _ h).2.2.1 rfl))
      · exact ((hk.trans (k5.less fun _ _ _ => trivial)).trans (Sq.Kept.setCell _ _ (by simp))).trans (Sq.Kept.setCell _ _ (by simp))
    | true =>
      have HP := Lib.hid (fun W (hV : Byt w1.heap.size W (.slice ao (pkD pre).length cap) (pkD pre)) (hB : w1.heap.size ≤ W.heap.size) => putEv_any w1.heap.size (.slice ao (pkD pre).length cap) (pkD pre) (pkD (pre ++ [(xi, x)])) x W (pkD_snoc pre (xi, x)) hV hB hv hxI (by omega))
      have HVT := Lib.hid hv
      rw [hv] at HVD
      unfold evV at HVD HP
      clear hv hsp hDl
      generalize hD2 : pkD (pre ++ [(xi, x)]) = D2 at *
      generalize hD1 : pkD pre = D1 at *
      have HOWN := Lib.hid hown
      clear hown
      gi_wp2_with (first
        | (refine ⟨trivial, ?_⟩; gi_at_call 16; refine (CallsIn.inRound lp (callsIn_wide.2 (HVD.out _))).mono ?_; rintro e w5 ⟨rfl, hb5⟩; have k5 := Sq.Kept.of_below (T := fun _ => True) hb5; have b05 := k5.boxed trivial b0; have b15 := k5.boxed trivial b1; have b25 := k5.boxed trivial hbv; have c25 := b25.cell; have f5 := hf.below hb5; have d0 := f5.cell 0; have d1 := f5.cell 1; have d2 := f5.cell 2; have d3 := f5.cell 3; have d4 := f5.cell 4; have d5 := f5.cell 5; have d6 := f5.cell 6; have d7 := f5.cell 7; have d8 := f5.cell 8; unfold evC at d0 d1 d2 d3 d4 d5 d6 d7 d8; simp only [List.getElem?_cons_zero, List.getElem?_cons_succ] at d0 d1 d2 d3 d4 d5 d6 d7 d8; have hs5 := Nat.le_trans hsX hb5.size; have hX5 := hb5.size; have HV5 := Lib.hid (own_below HOWN.out hb5))
        | (refine ⟨trivial, ?_⟩; gi_at_call 41; refine (CallsIn.inRound lp (callsIn_wide.2 (HP.out _ HV5.out hs5))).mono ?_; rintro e w6 ⟨ao2, cap2, rfl, hV6, hM6, hK6, hat6⟩; have b06 := hK6.boxed (fun h => by have := (HLO.out _ h).1; omega) b05; have b16 := hK6.boxed (fun h => by have := (HLO.out _ h).1; omega) b15; have b26 := hK6.boxed (fun h => by have := (HLO.out _ h).1; omega) b25; have c26 := b26.cell; have g26 := b26.frozen; have HV6 := Lib.hid hV6; have HAT6 := Lib.hid hat6; clear hV6 hat6))
      have hrow6 := fun g (hg : (Value.slice ao2 D2.length cap2).ownBlock = some g) => Ob.row_lt HV6.out hg
      refine ⟨?_, ?_, ⟨.slice ao2 D2.length cap2, ⟨?_, ?_⟩, b26.set _, hnv⟩, ⟨b06.other (by show w.heap.size ≠ w.heap.size + 1 + 1; omega) _, nb0⟩, ⟨b16.other (by show w.heap.size + 1 ≠ w.heap.size + 1 + 1; omega) _, nb1⟩, ?_, hnk⟩
      · refine ((k5.less fun _ _ _ => trivial).trans (hK6.less ?_)).trans (Sq.Kept.setCell _ _ ?_)
        · rintro k (h | h) _ e
          · exact HSR.out k e h
          · have := (HTN.out k h).1; have := (HLO.out k e).1; omega
        · rintro (h | h)
          · exact hnv h
          · exact (HTN.out _ h).2.2.2 rfl
      · intro p hp
        rcases List.mem_append.1 hp with hp | hp
        · exact HAL.out p hp
        · simp only [List.mem_singleton] at hp; subst hp; exact HVT.out
      · rw [hD2]
        exact Ob.row_other HV6.out (p := ⟨w.heap.size + 1 + 1, 0, none⟩) (fun e => by have := (hrow6 _ e).1; simp at this; omega) _
      · intro g hg hRg
        rcases HAT6.out g hg with h | h
        · exact HSR.out g h hRg
        · have := (HBD.out g hRg).2; omega
      · exact ((hk.trans (k5.less fun _ _ _ => trivial)).trans (hK6.less fun k hk _ e => by have := (HLO.out k e).1; omega)).trans (Sq.Kept.setCell _ _ (by simp; omega))
  case done =>
    rintro D R ys X hD hRD rfl ⟨hall, ⟨sv, ⟨hown, hsR⟩, hbv, hnv⟩, ⟨b0, nb0⟩, ⟨b1, nb1⟩, hk, hnk⟩ hdf
    have hcv := conv_any hown
    have hpk : pack L = (pkD (wk L []), 0) := by
      unfold pack pkD
      rw [HALL.out, if_pos]
      rw [List.all_eq_true]
      intro x hx
      rw [← HALL.out] at hx
      obtain ⟨p, hp, rfl⟩ := List.mem_map.1 hx
      exact hall p hp
    obtain ⟨ao, cap, rfl, _⟩ := Sq.row_cases hown
    have c0 := b0.cell
    have c1 := b1.cell
    have c2 := hbv.cell
    have g0 := b0.frozen
    have g1 := b1.frozen
    have HDF := Lib.hid hdf
    clear hall hown
    generalize pkD (wk L []) = D9 at *
    go_wp2
    refine Sq.leaves_marks [D] _ (by simp) (fun E hE => ?_) (fun W' hk' => ⟨.tuple #[.string (Cd.bs D9), .int .i64 0], ?_, ?_, ?_⟩)
    · obtain rfl : E = D := by simpa using hE
      exact (Below.heap_setCell _ _ _ _ (by simp; omega)).trans ((Below.heap_setCell _ _ _ _ (by simp; omega)).trans HDF.out)
    · have c4 : W'.cell? ⟨w.heap.size, 0, none⟩ = some (.string (Cd.bs D9)) := hk'.cell (by simp; omega) ((b0.set _).other (by show w.heap.size ≠ w.heap.size + 1; omega) _).cell
      have c5 : W'.cell? ⟨w.heap.size + 1, 0, none⟩ = some (.int .i64 0) := hk'.cell (by simp; omega) ((b1.other (by show w.heap.size + 1 ≠ w.heap.size; omega) _).set _).cell
      simp [results, Try.results22, go_sem, c4, c5]
    · rw [hpk]; rfl
    · have k2 := (hk.trans (Sq.Kept.setCell (T := fun b => b < w.heap.size) X (p := ⟨w.heap.size, 0, none⟩) (.string (Cd.bs D9)) (by simp))).trans (Sq.Kept.setCell (T := fun b => b < w.heap.size) _ (p := ⟨w.heap.size + 1, 0, none⟩) (.int .i64 0) (by simp))
      exact hb01.trans ((k2.trans (hk'.less (fun b hb _ h => by simp at h; omega))).below (fun _ h => h) (by omega))
  case stop =>
    rintro D R c pre X hD hRD hsp ⟨⟨rfl, x, hx, hex⟩, ⟨b0, nb0⟩, ⟨b1, nb1⟩, hk, hnk⟩ hdf
    have hpk : pack L = ([], 54) := by
      unfold pack
      rw [if_neg]
      rw [Bool.not_eq_true, List.all_eq_false]
      exact ⟨x.2, (HPI.out _ hsp).2 x hx, by simp [hex]⟩
    gi_wp2
    refine Sq.leaves_marks [D] _ (by simp) (fun E hE => ?_) (fun W' hk' => ⟨.tuple #[.string ⟨#[]⟩, .int .i64 54], ?_, ?_, ?_⟩)
    · obtain rfl : E = D := by simpa using hE
      exact hdf
    · have c4 : W'.cell? ⟨w.heap.size, 0, none⟩ = some (.string ⟨#[]⟩) := hk'.cell (by simp; omega) b0.cell
      have c5 : W'.cell? ⟨w.heap.size + 1, 0, none⟩ = some (.int .i64 54) := hk'.cell (by simp; omega) b1.cell
      simp [results, Try.results22, go_sem, c4, c5]
    · rw [hpk]; rfl
    · exact hb01.trans ((hk.trans (hk'.less (fun b hb _ h => by simp at h; omega))).below (fun _ h => h) (by omega))

set_option maxRecDepth 100000 in
set_option maxHeartbeats 4000000 in
theorem enc_any (x : Evt) (hI : EvIn x) (w : World) :
    Calls Try.prog 18 #[evV x] w fun r w' => r = .returned (.tuple #[.string (Cd.bs (enc x).1), .int .i64 ((enc x).2 : Nat)]) ∧ Below w.heap.size w w' := by
  have hpe : pack [x] = enc x := by unfold pack enc; simp
  have oB := Ob.Obj.new w 26 (evC x)
  have hA0 : Below w.heap.size w (w.alloc (.cells (evC x).toArray 26)) := (Below.refl _ _).alloc (Nat.le_refl _) _
  have hA : Below w.heap.size w ((w.alloc (.cells (evC x).toArray 26)).alloc (.cells (evC x).toArray 26)) := hA0.alloc hA0.size _
  have oX := Ob.Obj.new (w.alloc (.cells (evC x).toArray 26)) 26 (evC x)
  have hz1 : (w.alloc (.cells (evC x).toArray 26)).heap.size = w.heap.size + 1 := by simp
  rw [hz1] at oX
  have HP := Lib.hid (pack_any (.slice (some ⟨w.heap.size + 1, 0, none⟩) 1 1) [x] ((w.alloc (.cells (evC x).toArray 26)).alloc (.cells (evC x).toArray 26)) ⟨_, 1, w.heap.size + 1, 0, rfl, fun _ => ⟨rfl, by simp⟩, fun j hj m hm => by
    have : j = 0 := by simp at hj; omega
    subst this
    rw [show 0 + 0 * 9 + m = m by omega]
    exact oX.cell m⟩ (fun y hy => by simp only [List.mem_singleton] at hy; subst hy; exact hI) (by simp))
  have c0 := oB.cell 0
  have c1 := oB.cell 1
  have c2 := oB.cell 2
  have c3 := oB.cell 3
  have c4 := oB.cell 4
  have c5 := oB.cell 5
  have c6 := oB.cell 6
  have c7 := oB.cell 7
  have c8 := oB.cell 8
  rw [hpe] at HP
  clear hpe oX oB hz1 hA0
  generalize enc x = ex at *
  obtain ⟨eb, ee⟩ := ex
  obtain ⟨x0, x1, x2, x3, x4, x5, x6, x7, x8⟩ := x
  unfold evV
  unfold evC at HP hA c0 c1 c2 c3 c4 c5 c6 c7 c8
  simp only [List.getElem?_cons_zero, List.getElem?_cons_succ] at *
  go_enter Try.func18, Try.ntmps18
  go_wp2_with (go_at_call 22; (with_reducible refine HP.out.mono ?_); rintro e w1 ⟨rfl, hb1⟩)
  go_ret2
  exact ⟨rfl, hA.trans (hb1.mono hA.size)⟩
end Ev
end Go.Proofs.Ytojbcdkiilcppaa

/-
  The program's event.takeHead: the first three numbers.
-/
namespace Go.Proofs.Ytojbcdkiilcppaa
open Go.RowKit
set_option linter.unusedSimpArgs false
set_option linter.unusedVariables false
namespace Ev
theorem stg_stuck {l : Dat} {q : Nat} (hq : q ≤ 3) (h : (stg l q).2 ≠ 0) : (eK l).2 = stg l q := by
  have k1 : (eT l).2.2 ≠ 0 → (eK l).2 = (eT l).2 := fun h => rdV_rd.stuck l _ h
  have k2 : (eI l).2.2 ≠ 0 → (eT l).2 = (eI l).2 := fun h => rdV_rd.stuck l _ h
  match q, hq with
  | 0, _ => exact absurd rfl h
  | 1, _ =>
    have h : (eI l).2.2 ≠ 0 := h
    have e2 := k2 h
    have e1 := k1 (by rw [e2]; exact h)
    rw [e1, e2]; rfl
  | 2, _ => exact k1 h
  | 3, _ => rfl
def hv3 (l : Dat) : Value := .agg #[.int .u64 ((eI l).1 : Int), .int .u64 ((eT l).1 : Int), .int .u64 ((eK l).1 : Int)]
/-- what takeHead leaves -/
def HeadOut (l : Dat) (w : World) (r : Ending) (w' : World) : Prop :=
  ((eK l).2.2 = 0 → r = .returned (.tuple #[hv3 l, .int .i64 ((eK l).2.1 : Int), .int .i64 0])) ∧
  ((eK l).2.2 ≠ 0 → r = .returned (.tuple #[.agg #[.int .u64 0, .int .u64 0, .int .u64 0], .int .i64 0, .int .i64 ((eK l).2.2 : Int)])) ∧ Below w.heap.size w w'
def hc (V : List Nat) : List Value := [.int .u64 (V.getD 0 0 : Int), .int .u64 (V.getD 1 0 : Int), .int .u64 (V.getD 2 0 : Int)]
theorem hc_set {V : List Nat} {q : Nat} (hV : V.length = q) (hq : q < 3) (v : Nat) : (hc V).set q (.int .u64 (v : Int)) = hc (V ++ [v]) := by
  subst hV
  match V, hq with
  | [], _ => rfl
  | [a], _ => rfl
  | [a, b], _ => rfl
  | a :: b :: c :: r, h => simp at h; omega

set_option maxRecDepth 100000 in
set_option maxHeartbeats 8000000 in
theorem head_any (l : Dat) (w : World) (hll : l.length ≤ 140737488351232) :
    Calls Try.prog 36 #[.string (Cd.bs l)] w (HeadOut l w) := by
  have hsz : (Cd.bs l).size = l.length := rfl
  have oR := (Ob.Obj.new w 62 [.int .u64 0, .int .u64 0, .int .u64 0]).alloc (.cells #[.int .u64 0, .int .u64 0, .int .u64 0] 62)
  have oH := Ob.Obj.new (w.alloc (.cells #[.int .u64 0, .int .u64 0, .int .u64 0] 62)) 62 (hc [])
  rw [show (w.alloc (.cells #[.int .u64 0, .int .u64 0, .int .u64 0] 62)).heap.size = w.heap.size + 1 by simp] at oH
  have hA : Below w.heap.size w ((w.alloc (.cells #[.int .u64 0, .int .u64 0, .int .u64 0] 62)).alloc (.cells #[.int .u64 0, .int .u64 0, .int .u64 0] 62)) := ((Below.refl _ _).alloc (Nat.le_refl _) _).alloc (by simp) _
  have HT := Lib.hid (fun p W => takec_any (Cd.bs (l.drop p)) W (by show (l.drop p).length ≤ maxLen; rw [List.length_drop]; unfold maxLen; omega))
  go_enter Try.func36, Try.ntmps36
  go_wp2_with fail
  go_loopw [6, 11] (fun p i wr => ∃ (q : Nat) (L : List Nat) (at' : Nat), q ≤ 3 ∧ i = .int .i64 (q : Int) ∧ p = .int .i64 (at' : Int) ∧ Hid (stg l q = (at', 0) ∧ L = vls l q) ∧ L.length = q ∧ at' ≤ l.length ∧ Ob.Obj wr (w.heap.size + 1) 62 (hc L) ∧ Ob.Obj wr w.heap.size 62 [.int .u64 0, .int .u64 0, .int .u64 0] ∧ Below w.heap.size w wr) (fun _ i _ => 3 - (intOf i).toNat)
  case atStart => exact ⟨0, [], 0, Nat.zero_le _, rfl, rfl, ⟨rfl, rfl⟩, rfl, Nat.zero_le _, oH, oR, hA⟩
  case round =>
    clear oR oH hA
    obtain ⟨q, L, at', hq, rfl, rfl, hst, hLq, hat, oH, oR, hB⟩ := hrel
    obtain ⟨wo, rfl⟩ : ∃ wo : World, wo = wr := ⟨_, rfl⟩
    have hbs := hB.size
    have r0 := oR.cell 0
    have r1 := oR.cell 1
    have r2 := oR.cell 2
    have g0 := oR.frozen 0
    have g1 := oR.frozen 1
    have g2 := oR.frozen 2
    have rz := oR.lt
    have h0 := oH.cell 0
    have h1 := oH.cell 1
    have h2 := oH.cell 2
    have hz := oH.lt
    simp [hc] at r0 r1 r2 h0 h1 h2
    have hi1 : (0 : Int) ≤ (at' : Int) ∧ (at' : Int) ≤ (l.length : Int) := by omega
    have hx := ext_dropE l at'
    by_cases hlt : q < 3
    · obtain ⟨u1, u2⟩ := stg_step l hlt
      have HT1 := Lib.hid (show ∀ W, Calls Try.prog 47 #[.string (Cd.bs (l.drop at'))] W fun e w' => e = .returned (.tuple #[.int .u64 (Cd.takeU (l.drop at')).1, .int .i64 (Cd.takeU (l.drop at')).2.1, .int .i64 (Cd.takeU (l.drop at')).2.2]) ∧ W = w' from HT.out at')
      obtain ⟨o1, o2, o3, o4⟩ := Cd.takeU_ok (l.drop at')
      rw [List.length_drop] at o3
      obtain ⟨n, k, e, ht⟩ : ∃ n k e, Cd.takeU (l.drop at') = (n, k, e) := ⟨_, _, _, rfl⟩
      have hr := rdV_take ht
      rw [ht] at HT1 o1 o2 o3 o4
      simp only at HT1 o1 o2 o3 o4
      rw [← hst.out.1] at hr
      have hLn := hst.out.2
      have HE := Lib.hid (fun (h : (stg l (q + 1)).2 ≠ 0) => stg_stuck (by omega) h)
      have hi3 : (0 : Int) ≤ (q : Int) ∧ (q : Int) < 3 := by omega
      have hqc : wo.cell? ⟨w.heap.size + 1, q, none⟩ = some (.int .u64 (L.getD q 0 : Int)) := by
        rw [oH.cell q]
        match q, hlt with
        | 0, _ => rfl
        | 1, _ => rfl
        | 2, _ => rfl
      have hqf := oH.frozen q
      clear ht o2 HT
      by_cases he : e = 0
      · subst he
        by_cases hn : 4611686018427387904 < n
        · have hni : (n : Int) > 4611686018427387904 := by omega
          rw [if_neg (by simp), if_pos hn] at hr
          have hs : stg l (q + 1) = (at', 54) := by have := u1.symm.trans hr; exact congrArg (·.2) this
          have HD := Lib.hid (show (eK l).2.2 = 54 by rw [HE.out (by rw [hs]; simp), hs])
          clear u1 u2 hr hs hLn hst HE hn
          go_wp2_with (go_at_call 47; (try rw [hx]); (with_reducible refine (HT1.out _).mono ?_); rintro e w1 ⟨rfl, rfl⟩)
          refine bodyPost_ret (v := .tuple #[.agg #[.int .u64 0, .int .u64 0, .int .u64 0], .int .i64 0, .int .i64 54]) (by simp [results, Try.results36, go_sem, r0, r1, r2, rz]) rfl ?_
          exact ⟨fun h => absurd (HD.out.symm.trans h) (by simp), fun _ => by rw [HD.out]; rfl, ((hB.setCell (p := ⟨w.heap.size, 0, none⟩) (Nat.le_refl _) _).setCell (p := ⟨w.heap.size, 1, none⟩) (Nat.le_refl _) _).setCell (p := ⟨w.heap.size, 2, none⟩) (Nat.le_refl _) _⟩
        · have hni : ¬ (n : Int) > 4611686018427387904 := by omega
          have hnd : decide ((n : Int) > 4611686018427387904) = false := decide_eq_false hni
          have hwr : IntKind.i64.wrap ((at' : Int) + (k : Int)) = (at' : Int) + (k : Int) := by rw [IntKind.wrap_i64]; omega
          rw [if_neg (by simp), if_neg hn] at hr
          have hs : stg l (q + 1) = (at' + k, 0) := by have := u1.symm.trans hr; exact congrArg (·.2) this
          have hvl : vls l (q + 1) = L ++ [n] := by rw [u2, hr, hLn]
          have HNX := Lib.hid (show stg l (q + 1) = (at' + k, 0) ∧ L ++ [n] = vls l (q + 1) from ⟨hs, hvl.symm⟩)
          have HSET := Lib.hid (hc_set hLq hlt n)
          clear u1 u2 hr hs hvl hLn hst HE
          go_wp2_with (go_at_call 47; (try rw [hx]); (with_reducible refine (HT1.out _).mono ?_); rintro e w1 ⟨rfl, rfl⟩)
          go_roundw
          case rel => exact ⟨q + 1, L ++ [n], at' + k, by omega, by go_num, by go_num, HNX.out, by rw [List.length_append, List.length_singleton, hLq], by omega, by rw [← HSET.out]; exact oH.set q _, oR.other (p := ⟨w.heap.size + 1, q, none⟩) (by show w.heap.size ≠ w.heap.size + 1; omega) _, hB.setCell (p := ⟨w.heap.size + 1, q, none⟩) (by show w.heap.size ≤ w.heap.size + 1; omega) _⟩
          case measure => simp [intOf]; omega
      · have heb : (((e : Nat) : Int) != 0) = true := by simp; omega
        have heb2 : (((e : Nat) : Int) == 0) = false := by simp; omega
        rw [if_pos he] at hr
        have hs : stg l (q + 1) = (at', e) := by have := u1.symm.trans hr; exact congrArg (·.2) this
        have HD := Lib.hid (show (eK l).2.2 = e by rw [HE.out (by rw [hs]; exact he), hs])
        have HE0 := Lib.hid he
        clear u1 u2 hr hs hLn hst HE he
        go_wp2_with (go_at_call 47; (try rw [hx]); (with_reducible refine (HT1.out _).mono ?_); rintro e w1 ⟨rfl, rfl⟩)
        refine bodyPost_ret (v := .tuple #[.agg #[.int .u64 0, .int .u64 0, .int .u64 0], .int .i64 0, .int .i64 (e : Int)]) (by simp [results, Try.results36, go_sem, r0, r1, r2, rz]) rfl ?_
        exact ⟨fun h => absurd (HD.out.symm.trans h) HE0.out, fun _ => by rw [HD.out], ((hB.setCell (p := ⟨w.heap.size, 0, none⟩) (Nat.le_refl _) _).setCell (p := ⟨w.heap.size, 1, none⟩) (Nat.le_refl _) _).setCell (p := ⟨w.heap.size, 2, none⟩) (Nat.le_refl _) _⟩
    · obtain rfl : q = 3 := by omega
      obtain ⟨hs3, hL3⟩ := hst.out
      change (eK l).2 = (at', 0) at hs3
      change L = [(eI l).1, (eT l).1, (eK l).1] at hL3
      have HS3 := Lib.hid hs3
      have HV := Lib.hid (show hv3 l = .agg #[.int .u64 ((L.getD 0 0 : Nat) : Int), .int .u64 ((L.getD 1 0 : Nat) : Int), .int .u64 ((L.getD 2 0 : Nat) : Int)] by rw [hL3]; rfl)
      clear hst hs3 hL3
      rw [List.getD_eq_getElem?_getD, List.getD_eq_getElem?_getD, List.getD_eq_getElem?_getD] at HV
      generalize (L[0]?).getD 0 = n0 at *
      generalize (L[1]?).getD 0 = n1 at *
      generalize (L[2]?).getD 0 = n2 at *
      go_wp2_with fail
      refine bodyPost_ret (v := .tuple #[.agg #[.int .u64 (n0 : Int), .int .u64 (n1 : Int), .int .u64 (n2 : Int)], .int .i64 (at' : Int), .int .i64 0]) (by simp [results, Try.results36, go_sem, r0, r1, r2, rz]) rfl ?_
      exact ⟨fun _ => by rw [HV.out, HS3.out], fun h => absurd (by rw [HS3.out]) h, ((hB.setCell (p := ⟨w.heap.size, 0, none⟩) (Nat.le_refl _) _).setCell (p := ⟨w.heap.size, 1, none⟩) (Nat.le_refl _) _).setCell (p := ⟨w.heap.size, 2, none⟩) (Nat.le_refl _) _⟩
end Ev
end Go.Proofs.Ytojbcdkiilcppaa

/-
  The program's event.Decode: P14.3.
-/
namespace Go.Proofs.Ytojbcdkiilcppaa
open Go.RowKit
set_option linter.unusedSimpArgs false
set_option linter.unusedVariables false
namespace Ev
theorem evC_set {i t k : Int} {V : List Int} {q : Nat} (hV : V.length = q) (hq : q < 6) (v : Int) : (evC (mk i t k V)).set (3 + q) (.int .i64 v) = evC (mk i t k (V ++ [v])) := by
  subst hV
  match V, hq with
  | [], _ => rfl
  | [a], _ => rfl
  | [a, b], _ => rfl
  | [a, b, c], _ => rfl
  | [a, b, c, d], _ => rfl
  | [a, b, c, d, e], _ => rfl
  | a :: b :: c :: d :: e :: f :: r, h => simp at h; omega
theorem evC_at {i t k : Int} {V : List Int} {q : Nat} (hq : q < 6) : (evC (mk i t k V))[3 + q]? = some (.int .i64 (V.getD q 0)) := by
  match q, hq with
  | 0, _ => rfl
  | 1, _ => rfl
  | 2, _ => rfl
  | 3, _ => rfl
  | 4, _ => rfl
  | 5, _ => rfl
theorem ptrC_at {b q : Nat} (hq : q < 6) : (ptrC b)[q]? = some (.pointer (some ⟨b, 3 + q, none⟩)) := by
  match q, hq with
  | 0, _ => rfl
  | 1, _ => rfl
  | 2, _ => rfl
  | 3, _ => rfl
  | 4, _ => rfl
  | 5, _ => rfl
/-- amid it -/
structure HdN (w6 : World) (eb nk : Nat) (W : World) : Prop where
  be : Below w6.heap.size w6 W
  ce : W.cell? ⟨eb, 2, none⟩ = some (.int .i64 (nk : Int))
theorem HdN.next {w6 W W' : World} {eb nk : Nat} (he : eb < w6.heap.size) (h : HdN w6 eb nk W) (hb : Below W.heap.size W W') : HdN w6 eb nk W' :=
  ⟨h.be.trans (hb.mono h.be.size), (hb.cell (p := ⟨eb, 2, none⟩) (Nat.lt_of_lt_of_le he h.be.size)).trans h.ce⟩
theorem HdN.set {w6 W : World} {eb nk : Nat} (hne : w6.heap.size ≠ eb) (h : HdN w6 eb nk W) (j : Nat) (v : Value) : HdN w6 eb nk (W.setCell ⟨w6.heap.size, j, none⟩ v) :=
  ⟨h.be.setCell (p := ⟨w6.heap.size, j, none⟩) (Nat.le_refl _) v, (World.cell?_setCell_far _ _ _ _ hne).trans h.ce⟩
theorem HdN.two {w6 W : World} {eb nk : Nat} (h : HdN w6 eb nk W) : HdN w6 eb nk W ∧ W.cell? ⟨eb, 2, none⟩ = some (.int .i64 (nk : Int)) := ⟨h, h.ce⟩
/-- behind the making of the event and of the list of its numbers -/
def AllP (w6 : World) (eb : Nat) (fk : Int) (u f : Value) (wx : World) : Prop := ∃ g, u = .pointer (some ⟨g, 0, none⟩) ∧ f = .int .i64 fk ∧ Ob.Obj wx g 66 (ptrC eb) ∧ w6.heap.size ≤ g ∧ Below w6.heap.size w6 wx

set_option maxRecDepth 100000 in
set_option maxHeartbeats 16000000 in
theorem decD_any (l : Dat) (w : World) (hll : l.length ≤ 140737488351232) :
    Calls Try.prog 20 #[.string (Cd.bs l)] w (DecOut14 l w) := by
  have hsz : (Cd.bs l).size = l.length := rfl
  have oR := Ob.Obj.new w 26 [.int .i64 0, .int .i64 0, .int .i64 0, .int .i64 0, .int .i64 0, .int .i64 0, .int .i64 0, .int .i64 0, .int .i64 0]
  have hA : Below w.heap.size w (w.alloc (.cells #[.int .i64 0, .int .i64 0, .int .i64 0, .int .i64 0, .int .i64 0, .int .i64 0, .int .i64 0, .int .i64 0, .int .i64 0] 26)) := (Below.refl _ _).alloc (Nat.le_refl _) _
  have hsA : (w.alloc (.cells #[.int .i64 0, .int .i64 0, .int .i64 0, .int .i64 0, .int .i64 0, .int .i64 0, .int .i64 0, .int .i64 0, .int .i64 0] 26)).heap.size = w.heap.size + 1 := by simp
  obtain ⟨wa, hwa⟩ : ∃ wa, w.alloc (.cells #[.int .i64 0, .int .i64 0, .int .i64 0, .int .i64 0, .int .i64 0, .int .i64 0, .int .i64 0, .int .i64 0, .int .i64 0] 26) = wa := ⟨_, rfl⟩
  rw [show w.alloc (.cells ([.int .i64 0, .int .i64 0, .int .i64 0, .int .i64 0, .int .i64 0, .int .i64 0, .int .i64 0, .int .i64 0, .int .i64 0] : List Value).toArray 26) = wa from hwa] at oR
  rw [hwa] at hA hsA
  have HH := Lib.hid (head_any l wa hll)
  unfold HeadOut at HH
  have HTI := Lib.hid (fun p W => takeIc_any (Cd.bs (l.drop p)) W (by show (l.drop p).length ≤ maxLen; rw [List.length_drop]; unfold maxLen; omega))
  have hle3 : (eK l).2.1 ≤ l.length := stg_le l 3
  by_cases hz3 : (eK l).2.2 = 0
  · obtain ⟨b1, b2, b3⟩ := eV_in l
    have HKD := Lib.hid (fun h => dec_kind (l := l) hz3 h)
    have HNE := Lib.hid (fun h => dec_numerr (l := l) hz3 h)
    have HBD := Lib.hid (fun h => dec_bad (l := l) hz3 h)
    have HGD := Lib.hid (fun h => dec_good (l := l) hz3 h)
    have hEX : eX l = mk (eI l).1 (eT l).1 (eK l).1 (eN l).1 := rfl
    have hst3 : (eK l).2 = ((eK l).2.1, 0) := by rw [← hz3]
    have hEN : eN l = rdNs l (fields ((eK l).1 : Int)).toNat [] ((eK l).2.1, 0) := by rw [← hst3]; rfl
    have hMI : ∀ V : List Int, (∀ v ∈ V, W64 v) → EvIn (mk (eI l).1 (eT l).1 (eK l).1 V) := fun V hV => mk_in b1 b2 b3 hV
    rw [hEX] at HBD HGD
    have hf6 := (fields_in ((eK l).1 : Int)).2
    have HF := Lib.hid (fun W => fields_any ((eK l).1 : Int) W)
    have HH2 := Lib.hid (show Calls Try.prog 36 #[.string (Cd.bs l)] wa (fun r w' => r = .returned (.tuple #[hv3 l, .int .i64 ((eK l).2.1 : Int), .int .i64 0]) ∧ Below wa.heap.size wa w') from HH.out.mono fun r w' h => ⟨h.1 hz3, h.2.2⟩)
    unfold hv3 at HH2
    clear hEX hst3 hz3 HH
    generalize (eI l).1 = ni at *
    generalize (eT l).1 = nt at *
    generalize (eK l).1 = nk at *
    generalize (eK l).2.1 = at' at *
    generalize fields (nk : Int) = M at *
    have BE := Lib.hid hEN
    have MI := Lib.hid hMI
    clear hEN hMI
    have v1 : IntKind.i64.wrap (ni : Int) = (ni : Int) := by rw [IntKind.wrap_i64]; omega
    have v2 : IntKind.i64.wrap (nt : Int) = (nt : Int) := by rw [IntKind.wrap_i64]; omega
    have v3 : IntKind.i64.wrap (nk : Int) = (nk : Int) := by rw [IntKind.wrap_i64]; omega
    go_enter Try.func20, Try.ntmps20
    go_upto_region 5 with (go_at_call 36; (with_reducible refine HH2.out.mono ?_); rintro e w1 ⟨rfl, hb1⟩; have hB1 := hA.trans (hb1.mono (by omega)); have oR1 := oR.below hb1; have hs1 := hB1.size)
    have hB2 := hB1.alloc hs1 (.cells #[.int .u64 (ni : Int), .int .u64 (nt : Int), .int .u64 (nk : Int)] 62)
    have oR2 := oR1.alloc (.cells #[.int .u64 (ni : Int), .int .u64 (nt : Int), .int .u64 (nk : Int)] 62)
    obtain ⟨w2, hw2⟩ : ∃ w2, w1.alloc (.cells #[.int .u64 (ni : Int), .int .u64 (nt : Int), .int .u64 (nk : Int)] 62) = w2 := ⟨_, rfl⟩
    have hz2 : w2.heap.size = w1.heap.size + 1 := by rw [← hw2]; simp
    rw [hw2] at hB2 oR2
    have hB3 := hB2.alloc hB2.size (.cells #[.int .i64 (ni : Int), .int .i64 (nt : Int), .int .i64 (nk : Int), .int .i64 0, .int .i64 0, .int .i64 0, .int .i64 0, .int .i64 0, .int .i64 0] 26)
    have oR3 := oR2.alloc (.cells #[.int .i64 (ni : Int), .int .i64 (nt : Int), .int .i64 (nk : Int), .int .i64 0, .int .i64 0, .int .i64 0, .int .i64 0, .int .i64 0, .int .i64 0] 26)
    have oE3 : Ob.Obj (w2.alloc (.cells #[.int .i64 (ni : Int), .int .i64 (nt : Int), .int .i64 (nk : Int), .int .i64 0, .int .i64 0, .int .i64 0, .int .i64 0, .int .i64 0, .int .i64 0] 26)) w2.heap.size 26 (evC (mk ni nt nk [])) := Ob.Obj.new w2 26 (evC (mk ni nt nk []))
    rw [hz2] at oE3
    rw [← hw2] at hB3 oR3 oE3
    obtain ⟨w6, hw6⟩ : ∃ w6, (w1.alloc (.cells #[.int .u64 (ni : Int), .int .u64 (nt : Int), .int .u64 (nk : Int)] 62)).alloc (.cells #[.int .i64 (ni : Int), .int .i64 (nt : Int), .int .i64 (nk : Int), .int .i64 0, .int .i64 0, .int .i64 0, .int .i64 0, .int .i64 0, .int .i64 0] 26) = w6 := ⟨_, rfl⟩
    rw [hw6] at hB3 oR3 oE3 ⊢
    have hs6 := hB3.size
    have he6 := oE3.lt
    have hr6 := oR3.lt
    have k2 := oE3.cell 2
    simp [evC, mk] at k2
    have heb : w.heap.size < w1.heap.size + 1 := by omega
    clear hB1 hB2 oR1 oR2 hw2 hz2 hb1 oR hA hw6
    go_cut [9, 10] from 36 to 39 (fun u f wx => AllP w6 (w1.heap.size + 1) M u f wx)
    case first =>
      have HN := Lib.hid (fun W => numbers_any (w1.heap.size + 1) W)
      unfold ptrC at HN
      have ne6 : w6.heap.size ≠ w1.heap.size + 1 := by omega
      have NX := Lib.hid (fun W W' (h : HdN w6 (w1.heap.size + 1) nk W) (hb : Below W.heap.size W W') => h.next he6 hb)
      have NXA := Lib.hid (fun W o (h : HdN w6 (w1.heap.size + 1) nk W) => h.next he6 ((Below.refl _ _).alloc (Nat.le_refl _) o))
      have HS1 := Lib.hid (show HdN w6 (w1.heap.size + 1) nk w6.drew from ⟨(Below.refl _ _).drew, k2⟩)
      have oZ : Ob.Obj (w6.drew.alloc (.cells #[.pointer none, .pointer none, .pointer none, .pointer none, .pointer none, .pointer none] 66)) w6.heap.size 66 [.pointer none, .pointer none, .pointer none, .pointer none, .pointer none, .pointer none] := Ob.Obj.new w6.drew 66 [.pointer none, .pointer none, .pointer none, .pointer none, .pointer none, .pointer none]
      have HSZ := Lib.hid (NXA.out _ (.cells #[.pointer none, .pointer none, .pointer none, .pointer none, .pointer none, .pointer none] 66) HS1.out)
      have HSZ2 := Lib.hid (show HdN w6 (w1.heap.size + 1) nk (w6.alloc (.cells #[.pointer none, .pointer none, .pointer none, .pointer none, .pointer none, .pointer none] 66)).drew from HSZ.out)
      have SX := Lib.hid (fun W (j : Nat) (v : Value) (h : HdN w6 (w1.heap.size + 1) nk W) => h.set ne6 j v)
      go_region_held3 (fun w' => HdN w6 (w1.heap.size + 1) nk w' ∧ w'.cell? ⟨w1.heap.size + 1, 2, none⟩ = some (.int .i64 (nk : Int)))
        (first | with_reducible exact HS1.out.two | with_reducible exact HSZ.out.two | with_reducible exact HSZ2.out.two | with_reducible exact hN7.out.two | with_reducible exact (NXA.out _ _ hN7.out).two | with_reducible exact (SX.out _ _ _ (SX.out _ _ _ (SX.out _ _ _ (SX.out _ _ _ (SX.out _ _ _ (SX.out _ _ _ hN7.out)))))).two)
        (first
        | (go_at_call 37; (with_reducible refine (HN.out _).mono ?_); rintro e w7 ⟨rfl, hb7⟩; have hN7 : Hid (HdN w6 (w1.heap.size + 1) nk w7) := (by first | exact NX.out _ _ HS1.out hb7 | exact NX.out _ _ HSZ.out hb7); try (have oZ7 := oZ.below hb7; have zc0 := oZ7.cell 0; have zc1 := oZ7.cell 1; have zc2 := oZ7.cell 2; have zc3 := oZ7.cell 3; have zc4 := oZ7.cell 4; have zc5 := oZ7.cell 5; have zf0 := oZ7.frozen 0; have zf1 := oZ7.frozen 1; have zf2 := oZ7.frozen 2; have zf3 := oZ7.frozen 3; have zf4 := oZ7.frozen 4; have zf5 := oZ7.frozen 5; simp at zc0 zc1 zc2 zc3 zc4 zc5))
        | (go_at_call 10; (with_reducible refine (HF.out _).mono ?_); rintro e w8 ⟨rfl, rfl⟩))
      all_goals (try go_wp2_with fail)
      all_goals go_meet
      · exact ⟨_, rfl, rfl, Ob.Obj.new w7 66 (ptrC (w1.heap.size + 1)), hN7.out.be.size, (NXA.out _ _ hN7.out).be⟩
      · exact ⟨_, rfl, rfl, Ob.Obj.new w7 66 (ptrC (w1.heap.size + 1)), hN7.out.be.size, (NXA.out _ _ hN7.out).be⟩
      · exact ⟨_, rfl, rfl, (show Ob.Obj _ w6.heap.size 66 (ptrC (w1.heap.size + 1)) from (((((oZ7.set 0 _).set 1 _).set 2 _).set 3 _).set 4 _).set 5 _), Nat.le_refl _, (SX.out _ _ _ (SX.out _ _ _ (SX.out _ _ _ (SX.out _ _ _ (SX.out _ _ _ (SX.out _ _ _ hN7.out)))))).be⟩
    case rest =>
    rename_i hcut
    obtain ⟨g, rfl, rfl, oP, hgl, hb8⟩ := hcut
    rename_i w8
    have hB8 := hB3.trans (hb8.mono hs6)
    have oR8 := oR3.below hb8
    have oE8 := oE3.below hb8
    have hs8 := hB8.size
    have hz6 := hb8.size
    clear oR3 oE3 hB3 hb8 k2
    by_cases hM : M < 0
    · have HD := Lib.hid (HKD.out hM)
      have rc0 := oR8.cell 0
      have rc1 := oR8.cell 1
      have rc2 := oR8.cell 2
      have rc3 := oR8.cell 3
      have rc4 := oR8.cell 4
      have rc5 := oR8.cell 5
      have rc6 := oR8.cell 6
      have rc7 := oR8.cell 7
      have rc8 := oR8.cell 8
      have rf0 := oR8.frozen 0
      have rf1 := oR8.frozen 1
      have rf2 := oR8.frozen 2
      have rf3 := oR8.frozen 3
      have rf4 := oR8.frozen 4
      have rf5 := oR8.frozen 5
      have rf6 := oR8.frozen 6
      have rf7 := oR8.frozen 7
      have rf8 := oR8.frozen 8
      have rz := oR8.lt
      simp [evC, mk] at rc0 rc1 rc2 rc3 rc4 rc5 rc6 rc7 rc8
      clear HKD HNE HBD HGD
      go_wp2_with fail
      refine bodyPost_ret (v := .tuple #[.agg #[.int .i64 0, .int .i64 0, .int .i64 0, .int .i64 0, .int .i64 0, .int .i64 0, .int .i64 0, .int .i64 0, .int .i64 0], .int .i64 0, .int .i64 54]) (by simp [results, Try.results20, go_sem, rc0, rc1, rc2, rc3, rc4, rc5, rc6, rc7, rc8, rz]) rfl ?_
      exact ⟨by rw [HD.out, evV_zero]; rfl, put9_below hB8 (Nat.le_refl _) _ _ _ _ _ _ _ _ _⟩
    · obtain ⟨m, rfl⟩ : ∃ m : Nat, M = (m : Int) := ⟨M.toNat, by omega⟩
      have hm6 : m ≤ 6 := by omega
      have HNE2 := Lib.hid (HNE.out (by omega))
      have HBD2 := Lib.hid (HBD.out (by omega))
      have HGD2 := Lib.hid (HGD.out (by omega))
      rw [Int.toNat_natCast] at BE
      generalize eN l = EN at *
      have hMi : (0 : Int) ≤ (m : Int) ∧ (m : Int) ≤ 6 := by omega
      have hpz := oP.lt
      clear HKD HNE HBD HGD
      go_wp2_with fail
      go_loopw [6, 46] (fun p i wr => ∃ (q : Nat) (V : List Int) (p' : Nat), q ≤ m ∧ i = .int .i64 (q : Int) ∧ p = .int .i64 (p' : Int) ∧ p' ≤ l.length ∧ V.length = q ∧ Hid (EN = rdNs l (m - q) V (p', 0)) ∧ Hid (∀ v ∈ V, W64 v) ∧ Ob.Obj wr (w1.heap.size + 1) 26 (evC (mk ni nt nk V)) ∧ Ob.Obj wr g 66 (ptrC (w1.heap.size + 1)) ∧ Ob.Obj wr w.heap.size 26 [.int .i64 0, .int .i64 0, .int .i64 0, .int .i64 0, .int .i64 0, .int .i64 0, .int .i64 0, .int .i64 0, .int .i64 0] ∧ Below w.heap.size w wr) (fun _ i _ => m - (intOf i).toNat)
      case atStart => exact ⟨0, [], at', Nat.zero_le _, rfl, rfl, hle3, rfl, BE, (fun v hv => by cases hv), oE8, oP, oR8, hB8⟩
      case round =>
        clear oP hB8 oR8 oE8 BE hpz
        obtain ⟨q, V, p', hq, rfl, rfl, hpl, hVq, hEN, hVI, oE, oP, oR, hB⟩ := hrel
        obtain ⟨wo, rfl⟩ : ∃ wo : World, wo = wr := ⟨_, rfl⟩
        have hbs := hB.size
        have hi1 : (0 : Int) ≤ (p' : Int) ∧ (p' : Int) ≤ (l.length : Int) := by omega
        have hx := ext_dropE l p'
        by_cases hlt : q < m
        · have hi2 : (q : Int) < (m : Int) := by omega
          have hi3 : (0 : Int) ≤ (q : Int) ∧ (q : Int) < 6 := by omega
          have HT1 := Lib.hid (show ∀ W, Calls Try.prog 38 #[.string (Cd.bs (l.drop p'))] W fun e w' => e = .returned (.tuple #[.int .i64 (Cd.unzig (Cd.takeU (l.drop p')).1), .int .i64 (Cd.takeU (l.drop p')).2.1, .int .i64 (Cd.takeU (l.drop p')).2.2]) ∧ W = w' from HTI.out p')
          obtain ⟨o1, o2, o3, o4⟩ := Cd.takeU_ok (l.drop p')
          rw [List.length_drop] at o3
          obtain ⟨n, k, e, ht⟩ : ∃ n k e, Cd.takeU (l.drop p') = (n, k, e) := ⟨_, _, _, rfl⟩
          have hr := rdI_take ht
          have hw := rdI_w64 l (p', 0)
          rw [ht] at HT1 o1 o2 o3 o4
          simp only at HT1 o1 o2 o3 o4
          have hmo := rdNs_more l (show 0 < m - q by omega) V p'
          have pc := (oP.cell q).trans (ptrC_at (by omega))
          have pz := oP.lt
          have ez := oE.lt
          clear ht o2 HTI
          by_cases he : e = 0
          · subst he
            rw [if_neg (by simp)] at hr
            rw [hr] at hmo hw
            simp only at hmo hw
            have hwr : IntKind.i64.wrap ((p' : Int) + (k : Int)) = (p' : Int) + (k : Int) := by rw [IntKind.wrap_i64]; omega
            generalize Cd.unzig n = v at *
            have HNX := Lib.hid (show EN = rdNs l (m - (q + 1)) (V ++ [v]) (p' + k, 0) by rw [hEN.out, hmo]; rfl)
            have HVX := Lib.hid (show ∀ u ∈ V ++ [v], W64 u from fun u hu => by
              rcases List.mem_append.1 hu with hu | hu
              · exact hVI.out u hu
              · simp only [List.mem_singleton] at hu; subst hu; exact hw)
            have HSET := Lib.hid (evC_set (i := ni) (t := nt) (k := nk) hVq (by omega : q < 6) v)
            have ec := (oE.cell (3 + q)).trans (evC_at (by omega))
            have ef := oE.frozen (3 + q)
            have HEP := Lib.hid (show g ≠ w1.heap.size + 1 by omega)
            clear hr hmo hw hEN hVI
            go_wp2_with (go_at_call 38; (try rw [hx]); (with_reducible refine (HT1.out _).mono ?_); rintro e w2 ⟨rfl, rfl⟩)
            go_roundw
            case rel => exact ⟨q + 1, V ++ [v], p' + k, by omega, by go_num, by go_num, by omega, by rw [List.length_append, List.length_singleton, hVq], HNX, HVX, by rw [← HSET.out]; exact oE.set (3 + q) _, oP.other (p := ⟨w1.heap.size + 1, 3 + q, none⟩) HEP.out _, oR.other (p := ⟨w1.heap.size + 1, 3 + q, none⟩) (by show w.heap.size ≠ w1.heap.size + 1; omega) _, hB.setCell (p := ⟨w1.heap.size + 1, 3 + q, none⟩) (by show w.heap.size ≤ w1.heap.size + 1; omega) _⟩
            case measure => simp [intOf]; omega
          · have heb1 : (((e : Nat) : Int) != 0) = true := by simp; omega
            rw [if_pos he] at hr
            rw [hr] at hmo
            simp only at hmo
            rw [rdNs_stuck l (m - q - 1) (V ++ [0]) (p', e) he] at hmo
            have hEN2 := hEN.out.trans hmo
            have HD := Lib.hid (show dec l = (zero, 0, e) by rw [HNE2.out (by rw [hEN2]; exact he), hEN2])
            clear hr hmo hw hEN hVI hEN2 he HNE2 HBD2 HGD2
            have rc0 := oR.cell 0
            have rc1 := oR.cell 1
            have rc2 := oR.cell 2
            have rc3 := oR.cell 3
            have rc4 := oR.cell 4
            have rc5 := oR.cell 5
            have rc6 := oR.cell 6
            have rc7 := oR.cell 7
            have rc8 := oR.cell 8
            have rf0 := oR.frozen 0
            have rf1 := oR.frozen 1
            have rf2 := oR.frozen 2
            have rf3 := oR.frozen 3
            have rf4 := oR.frozen 4
            have rf5 := oR.frozen 5
            have rf6 := oR.frozen 6
            have rf7 := oR.frozen 7
            have rf8 := oR.frozen 8
            have rz := oR.lt
            simp [evC, mk] at rc0 rc1 rc2 rc3 rc4 rc5 rc6 rc7 rc8
            go_wp2_with (go_at_call 38; (try rw [hx]); (with_reducible refine (HT1.out _).mono ?_); rintro e w2 ⟨rfl, rfl⟩)
            refine bodyPost_ret (v := .tuple #[.agg #[.int .i64 0, .int .i64 0, .int .i64 0, .int .i64 0, .int .i64 0, .int .i64 0, .int .i64 0, .int .i64 0, .int .i64 0], .int .i64 0, .int .i64 (e : Int)]) (by simp [results, Try.results20, go_sem, rc0, rc1, rc2, rc3, rc4, rc5, rc6, rc7, rc8, rz]) rfl ?_
            exact ⟨by rw [HD.out, evV_zero]; rfl, put9_below hB (Nat.le_refl _) _ _ _ _ _ _ _ _ _⟩
        · obtain rfl : q = m := by omega
          have hEN2 : EN = (V, (p', 0)) := by rw [hEN.out, Nat.sub_self]; rfl
          rw [hEN2] at HBD2 HGD2
          have HBD3 := Lib.hid (HBD2.out rfl)
          have HGD3 := Lib.hid (HGD2.out rfl)
          have hXI := MI.out V hVI.out
          have HVR := Lib.hid (fun W => validD_any (mk ni nt nk V) hXI W)
          have HEV := Lib.hid (evV_mk ni nt nk V)
          rw [evV_mk] at HVR
          have e0 := oE.cell 0
          have e1 := oE.cell 1
          have e2 := oE.cell 2
          have e3 := oE.cell 3
          have e4 := oE.cell 4
          have e5 := oE.cell 5
          have e6 := oE.cell 6
          have e7 := oE.cell 7
          have e8 := oE.cell 8
          have ez := oE.lt
          unfold evC mk at e0 e1 e2 e3 e4 e5 e6 e7 e8 oE
          simp only [List.getElem?_cons_zero, List.getElem?_cons_succ] at e0 e1 e2 e3 e4 e5 e6 e7 e8 oE
          clear hEN hEN2 HBD2 HGD2 HNE2 hVI MI HTI oP hXI
          generalize V.getD 0 0 = x0 at *
          generalize V.getD 1 0 = x1 at *
          generalize V.getD 2 0 = x2 at *
          generalize V.getD 3 0 = x3 at *
          generalize V.getD 4 0 = x4 at *
          generalize V.getD 5 0 = x5 at *
          generalize mk ni nt nk V = X at *
          cases hv : validB X with
          | false =>
            rw [hv] at HVR
            have HD := Lib.hid (HBD3.out hv)
            clear HBD3 HGD3 hv
            go_wp2_with (go_at_call 16; (with_reducible refine (HVR.out _).mono ?_); rintro e w5 ⟨rfl, hb5⟩; have hB5 := hB.trans (hb5.mono hbs); have oR5 := oR.below hb5; have rc0 := oR5.cell 0; have rc1 := oR5.cell 1; have rc2 := oR5.cell 2; have rc3 := oR5.cell 3; have rc4 := oR5.cell 4; have rc5 := oR5.cell 5; have rc6 := oR5.cell 6; have rc7 := oR5.cell 7; have rc8 := oR5.cell 8; have rf0 := oR5.frozen 0; have rf1 := oR5.frozen 1; have rf2 := oR5.frozen 2; have rf3 := oR5.frozen 3; have rf4 := oR5.frozen 4; have rf5 := oR5.frozen 5; have rf6 := oR5.frozen 6; have rf7 := oR5.frozen 7; have rf8 := oR5.frozen 8; have rz := oR5.lt; simp [evC, mk] at rc0 rc1 rc2 rc3 rc4 rc5 rc6 rc7 rc8)
            refine bodyPost_ret (v := .tuple #[.agg #[.int .i64 0, .int .i64 0, .int .i64 0, .int .i64 0, .int .i64 0, .int .i64 0, .int .i64 0, .int .i64 0, .int .i64 0], .int .i64 0, .int .i64 54]) (by simp [results, Try.results20, go_sem, rc0, rc1, rc2, rc3, rc4, rc5, rc6, rc7, rc8, rz]) rfl ?_
            exact ⟨by rw [HD.out, evV_zero]; rfl, put9_below hB5 (Nat.le_refl _) _ _ _ _ _ _ _ _ _⟩
          | true =>
            rw [hv] at HVR
            have HD := Lib.hid (HGD3.out hv)
            clear HBD3 HGD3 hv
            go_wp2_with (go_at_call 16; (with_reducible refine (HVR.out _).mono ?_); rintro e w5 ⟨rfl, hb5⟩; have hB5 := hB.trans (hb5.mono hbs); have oR5 := oR.below hb5; have oX5 := oE.below hb5; have rc0 := oR5.cell 0; have rc1 := oR5.cell 1; have rc2 := oR5.cell 2; have rc3 := oR5.cell 3; have rc4 := oR5.cell 4; have rc5 := oR5.cell 5; have rc6 := oR5.cell 6; have rc7 := oR5.cell 7; have rc8 := oR5.cell 8; have rf0 := oR5.frozen 0; have rf1 := oR5.frozen 1; have rf2 := oR5.frozen 2; have rf3 := oR5.frozen 3; have rf4 := oR5.frozen 4; have rf5 := oR5.frozen 5; have rf6 := oR5.frozen 6; have rf7 := oR5.frozen 7; have rf8 := oR5.frozen 8; have rz := oR5.lt; simp [evC, mk] at rc0 rc1 rc2 rc3 rc4 rc5 rc6 rc7 rc8; have y0 := oX5.cell 0; have y1 := oX5.cell 1; have y2 := oX5.cell 2; have y3 := oX5.cell 3; have y4 := oX5.cell 4; have y5 := oX5.cell 5; have y6 := oX5.cell 6; have y7 := oX5.cell 7; have y8 := oX5.cell 8; simp at y0 y1 y2 y3 y4 y5 y6 y7 y8)
            refine bodyPost_ret (v := .tuple #[.agg #[.int .i64 (ni : Int), .int .i64 (nt : Int), .int .i64 (nk : Int), .int .i64 x0, .int .i64 x1, .int .i64 x2, .int .i64 x3, .int .i64 x4, .int .i64 x5], .int .i64 (p' : Int), .int .i64 0]) (by simp [results, Try.results20, go_sem, rc0, rc1, rc2, rc3, rc4, rc5, rc6, rc7, rc8, rz]) rfl ?_
            exact ⟨by rw [HD.out]; show _ = Ending.returned (.tuple #[evV X, .int .i64 (p' : Int), .int .i64 0]); rw [HEV.out], put9_below hB5 (Nat.le_refl _) _ _ _ _ _ _ _ _ _⟩
  · have HD := Lib.hid (dec_headerr hz3)
    have heb : (((eK l).2.2 : Nat) : Int) ≠ 0 := by omega
    have HH2 := Lib.hid (show Calls Try.prog 36 #[.string (Cd.bs l)] wa (fun r w' => r = .returned (.tuple #[.agg #[.int .u64 0, .int .u64 0, .int .u64 0], .int .i64 0, .int .i64 ((eK l).2.2 : Int)]) ∧ Below wa.heap.size wa w') from HH.out.mono fun r w' h => ⟨h.2.1 hz3, h.2.2⟩)
    clear HH hle3
    generalize (eK l).2.2 = e at *
    have heb1 : (((e : Nat) : Int) != 0) = true := by simpa using heb
    clear heb hz3
    go_enter Try.func20, Try.ntmps20
    go_wp2_with (go_at_call 36; (with_reducible refine HH2.out.mono ?_); rintro e w1 ⟨rfl, hb1⟩; have hB1 := hA.trans (hb1.mono (by omega)); have oR1 := (oR.below hb1).alloc (.cells #[.int .u64 0, .int .u64 0, .int .u64 0] 62); have hB2 := hB1.alloc hB1.size (.cells #[.int .u64 0, .int .u64 0, .int .u64 0] 62); have rc0 := oR1.cell 0; have rc1 := oR1.cell 1; have rc2 := oR1.cell 2; have rc3 := oR1.cell 3; have rc4 := oR1.cell 4; have rc5 := oR1.cell 5; have rc6 := oR1.cell 6; have rc7 := oR1.cell 7; have rc8 := oR1.cell 8; have rf0 := oR1.frozen 0; have rf1 := oR1.frozen 1; have rf2 := oR1.frozen 2; have rf3 := oR1.frozen 3; have rf4 := oR1.frozen 4; have rf5 := oR1.frozen 5; have rf6 := oR1.frozen 6; have rf7 := oR1.frozen 7; have rf8 := oR1.frozen 8; have rz := oR1.lt; simp [evC, mk] at rc0 rc1 rc2 rc3 rc4 rc5 rc6 rc7 rc8)
    refine bodyPost_ret (v := .tuple #[.agg #[.int .i64 0, .int .i64 0, .int .i64 0, .int .i64 0, .int .i64 0, .int .i64 0, .int .i64 0, .int .i64 0, .int .i64 0], .int .i64 0, .int .i64 (e : Int)]) (by simp [results, Try.results20, go_sem, rc0, rc1, rc2, rc3, rc4, rc5, rc6, rc7, rc8, rz]) rfl ?_
    exact ⟨by rw [HD.out, evV_zero]; rfl, put9_below hB2 (Nat.le_refl _) _ _ _ _ _ _ _ _ _⟩
end Ev
end Go.Proofs.Ytojbcdkiilcppaa

/-
  The program's event.Unpack.
-/
namespace Go.Proofs.Ytojbcdkiilcppaa
open Go.RowKit
set_option linter.unusedSimpArgs false
set_option linter.unusedVariables false
namespace Ev

set_option maxRecDepth 100000 in
set_option maxHeartbeats 16000000 in
theorem unpackD_any (l : Dat) (w : World) (hll : l.length ≤ 134217728) :
    Calls Try.prog 24 #[.string (Cd.bs l)] w (UnpOut l w) := by
  obtain ⟨i0, hi0, hz0, hz1, hz2⟩ := info_parts info_Event
  have hsz : (Cd.bs l).size = l.length := rfl
  have HDC := Lib.hid (fun p W => decD_any (l.drop p) W (by rw [List.length_drop]; omega))
  have HUN := Lib.hid (show unpack l = unpGo l (l.length + 1) [] 0 from rfl)
  go_enter Try.func24, Try.ntmps24
  go_wp2_with fail
  go_loopw [5, 6] (fun v p wr => ∃ (at' fu : Nat) (L : List Evt), at' ≤ l.length ∧ p = .int .i64 (at' : Int) ∧ L.length ≤ at' ∧ l.length < fu + at' ∧ Hid (unpack l = unpGo l fu L at') ∧ Hid (∀ x ∈ L, EvIn x) ∧ wr.ownsRow w.heap.size 26 9 v L.length (ecs L) ∧ Below w.heap.size w wr) (fun _ i _ => l.length - (intOf i).toNat)
  case atStart => exact ⟨0, l.length + 1, [], Nat.zero_le _, rfl, Nat.zero_le _, by omega, HUN, (fun x hx => by cases hx), World.ownsRow_nil _ _ _ _, Below.refl _ _⟩
  case round =>
    obtain ⟨at', fu, L, hat, rfl, hLn, hfu, hun, hLI, hV, hB⟩ := hrel
    obtain ⟨wo, rfl⟩ : ∃ wo : World, wo = wr := ⟨_, rfl⟩
    have hbs := hB.size
    have hi1 : (0 : Int) ≤ (at' : Int) ∧ (at' : Int) ≤ (l.length : Int) := by omega
    have hx := ext_dropE l at'
    by_cases hlt : at' < l.length
    · have hi2 : (at' : Int) < (l.length : Int) := by omega
      obtain ⟨f2, rfl⟩ : ∃ f2, fu = f2 + 1 := ⟨fu - 1, by omega⟩
      have HD := Lib.hid (HDC.out at')
      unfold DecOut14 at HD
      have hst : unpGo l (f2 + 1) L at' = if (dec (l.drop at')).2.2 ≠ 0 then ([], (dec (l.drop at')).2.2, at') else unpGo l f2 (L ++ [(dec (l.drop at')).1]) (at' + (dec (l.drop at')).2.1) := by rw [unpGo, if_pos hlt]
      have hdp := fun (h : (dec (l.drop at')).2.2 = 0) => dec_pos h
      have hds := fun (h : (dec (l.drop at')).2.2 = 0) => dec_sound h
      rw [List.length_drop] at hds
      obtain ⟨X, k, e, hd⟩ : ∃ X k e, dec (l.drop at') = (X, k, e) := ⟨_, _, _, rfl⟩
      rw [hd] at hst hdp hds HD
      simp only at hst hdp hds HD
      clear hd HDC
      by_cases he : e = 0
      · subst he
        obtain ⟨-, hXI, hk, -⟩ := hds rfl
        have hkp := hdp rfl
        rw [if_neg (by simp)] at hst
        have HUN2 := Lib.hid (hun.out.trans hst)
        have HLI2 := Lib.hid (show ∀ x ∈ L ++ [X], EvIn x from fun x hx => by
          rcases List.mem_append.1 hx with hx | hx
          · exact hLI.out x hx
          · simp only [List.mem_singleton] at hx; subst hx; exact hXI)
        have hwr : IntKind.i64.wrap ((at' : Int) + (k : Int)) = (at' : Int) + (k : Int) := by rw [IntKind.wrap_i64]; omega
        have HSN := Lib.hid (ecs_snoc L X)
        obtain ⟨xi, xt, xk, xa, xb, xc, xd, xe, xf⟩ := X
        unfold evV at HD
        unfold evC at HSN
        simp only at HD HSN
        clear hst hdp hds hun hLI hXI
        go_wp2_with (first
          | (go_at_call 20; (try rw [hx]); (with_reducible refine (HD.out _).mono ?_); rintro e w1 ⟨rfl, hb1⟩; have hB1 := hB.trans (hb1.mono hbs); have hV1 := own_below hV hb1; have hs1 := hB1.size; have oX := Ob.Obj.new w1 26 [.int .i64 xi, .int .i64 xt, .int .i64 xk, .int .i64 xa, .int .i64 xb, .int .i64 xc, .int .i64 xd, .int .i64 xe, .int .i64 xf]; have hB2 := hB1.alloc hs1 (.cells #[.int .i64 xi, .int .i64 xt, .int .i64 xk, .int .i64 xa, .int .i64 xb, .int .i64 xc, .int .i64 xd, .int .i64 xe, .int .i64 xf] 26); have hV2 := hV1.alloc (.cells #[.int .i64 xi, .int .i64 xt, .int .i64 xk, .int .i64 xa, .int .i64 xb, .int .i64 xc, .int .i64 xd, .int .i64 xe, .int .i64 xf] 26); obtain ⟨wx, hwx⟩ : ∃ wx, w1.alloc (.cells #[.int .i64 xi, .int .i64 xt, .int .i64 xk, .int .i64 xa, .int .i64 xb, .int .i64 xc, .int .i64 xd, .int .i64 xe, .int .i64 xf] 26) = wx := ⟨_, rfl⟩; rw [show w1.alloc (.cells ([.int .i64 xi, .int .i64 xt, .int .i64 xk, .int .i64 xa, .int .i64 xb, .int .i64 xc, .int .i64 xd, .int .i64 xe, .int .i64 xf] : List Value).toArray 26) = wx from hwx] at oX; rw [hwx] at hB2 hV2; have c0 := oX.cell 0; have c1 := oX.cell 1; have c2 := oX.cell 2; have c3 := oX.cell 3; have c4 := oX.cell 4; have c5 := oX.cell 5; have c6 := oX.cell 6; have c7 := oX.cell 7; have c8 := oX.cell 8; have hbx := oX.lt; simp at c0 c1 c2 c3 c4 c5 c6 c7 c8; have hs2 := hB2.size; have HB3 := Lib.hid (hB2.alloc hs2 (.cells #[.int .i64 xi, .int .i64 xt, .int .i64 xk, .int .i64 xa, .int .i64 xb, .int .i64 xc, .int .i64 xd, .int .i64 xe, .int .i64 xf] 26)); have HV3 := Lib.hid (hV2.alloc (.cells #[.int .i64 xi, .int .i64 xt, .int .i64 xk, .int .i64 xa, .int .i64 xb, .int .i64 xc, .int .i64 xd, .int .i64 xe, .int .i64 xf] 26)))
          | (at_builtin; go_loud (refine wpList_append_own _ rfl _ _ 38 rfl w.heap.size 26 i0 (.agg #[.int .i64 0, .int .i64 0, .int .i64 0, .int .i64 0, .int .i64 0, .int .i64 0, .int .i64 0, .int .i64 0, .int .i64 0]) 9 72 Try.underlying38 hi0 hz0 hz1 hz2 rfl (by decide) _ _ _ rfl HV3.out ⟨wx.heap.size, 0, none⟩ 1 1 [.int .i64 xi, .int .i64 xt, .int .i64 xk, .int .i64 xa, .int .i64 xb, .int .i64 xc, .int .i64 xd, .int .i64 xe, .int .i64 xf] rfl rfl (by simpa [evC] using cell_nine_new wx ⟨xi, xt, xk, xa, xb, xc, xd, xe, xf⟩ 26) (by simp [Value.oneCell']) (by unfold maxLen; omega) (by omega) (by simp; omega) ?_); intro v' w2 hown2 hgrow _))
        go_roundw
        case rel => exact ⟨at' + k, f2, L ++ [⟨xi, xt, xk, xa, xb, xc, xd, xe, xf⟩], by omega, by go_num, by rw [List.length_append, List.length_singleton]; omega, by omega, HUN2, HLI2, by rw [List.length_append, List.length_singleton, HSN.out]; exact hown2, HB3.out.grown hgrow (by simp; omega) (fun j hj => (Ob.row_lt hV hj).1)⟩
        case measure => simp [intOf]; omega
      · have heb : (((e : Nat) : Int) != 0) = true := by simp; omega
        rw [if_pos he] at hst
        have HUN2 := Lib.hid (hun.out.trans hst)
        obtain ⟨xi, xt, xk, xa, xb, xc, xd, xe, xf⟩ := X
        unfold evV at HD
        simp only at HD
        clear hst hdp hds hun hLI he
        go_wp2_with (go_at_call 20; (try rw [hx]); (with_reducible refine (HD.out _).mono ?_); rintro e w1 ⟨rfl, hb1⟩; have hB1 := hB.trans (hb1.mono hbs); have hs1 := hB1.size; have hB2 := hB1.alloc hs1 (.cells #[.int .i64 xi, .int .i64 xt, .int .i64 xk, .int .i64 xa, .int .i64 xb, .int .i64 xc, .int .i64 xd, .int .i64 xe, .int .i64 xf] 26))
        refine bodyPost_ret (v := .tuple #[.slice none 0 0, .int .i64 (e : Int), .int .i64 (at' : Int)]) (by simp [results, Try.results24, go_sem]) rfl ?_
        exact ⟨_, by rw [HUN2.out], by rw [HUN2.out]; exact World.ownsRow_nil _ _ _ _, by rw [HUN2.out]; exact fun x hx => (by cases hx), by rw [HUN2.out]; exact Nat.zero_le _, hB2⟩
    · obtain rfl : at' = l.length := by omega
      have HUN2 := Lib.hid (show unpack l = (L, 0, 0) by
        rw [hun.out]
        match fu with
        | 0 => rfl
        | f + 1 => rw [unpGo, if_neg (by omega)])
      clear hun
      obtain ⟨ao, cap, rfl, _⟩ := Sq.row_cases hV
      go_wp2_with fail
      refine bodyPost_ret (v := .tuple #[.slice ao L.length cap, .int .i64 0, .int .i64 0]) (by simp [results, Try.results24, go_sem]) rfl ?_
      exact ⟨_, by rw [HUN2.out]; rfl, by rw [HUN2.out]; exact hV, by rw [HUN2.out]; exact hLI.out, by rw [HUN2.out]; exact hLn, hB⟩

end Ev
end Go.Proofs.Ytojbcdkiilcppaa

/-
  The document's first examples of chapter 14, as the laws show them (tapestrylaw14.shown).
-/
namespace Go.Proofs.Ytojbcdkiilcppaa
open Go.RowKit
set_option linter.unusedSimpArgs false
set_option linter.unusedVariables false
namespace Ev
def sx1 : Evt := ⟨1, 0, 1, 0, 7, 0, 0, 0, 0⟩
def sx2 : Evt := ⟨2, 0, 2, 1, 0, 0, 0, 0, 0⟩
def sx3 : Evt := ⟨1, 0, 31, 1, 0, 0, 0, 0, 0⟩
theorem sx1_in : EvIn sx1 := ⟨⟨by decide, by decide⟩, ⟨by decide, by decide⟩, ⟨by decide, by decide⟩, ⟨by decide, by decide⟩, ⟨by decide, by decide⟩, ⟨by decide, by decide⟩, ⟨by decide, by decide⟩, ⟨by decide, by decide⟩, ⟨by decide, by decide⟩⟩
theorem sx2_in : EvIn sx2 := ⟨⟨by decide, by decide⟩, ⟨by decide, by decide⟩, ⟨by decide, by decide⟩, ⟨by decide, by decide⟩, ⟨by decide, by decide⟩, ⟨by decide, by decide⟩, ⟨by decide, by decide⟩, ⟨by decide, by decide⟩, ⟨by decide, by decide⟩⟩
theorem sx3_in : EvIn sx3 := ⟨⟨by decide, by decide⟩, ⟨by decide, by decide⟩, ⟨by decide, by decide⟩, ⟨by decide, by decide⟩, ⟨by decide, by decide⟩, ⟨by decide, by decide⟩, ⟨by decide, by decide⟩, ⟨by decide, by decide⟩, ⟨by decide, by decide⟩⟩
theorem sx1_ok : validB sx1 = true := by decide +kernel
theorem sx2_ok : validB sx2 = true := by decide +kernel
theorem sx3_bad : validB sx3 = false := by decide +kernel
theorem sx1_load : load sx1 = [1, 0, 1, 0, 14, 0, 0, 0, 0] := by
  have hm : many sx1 = 6 := by decide +kernel
  unfold load
  rw [hm]
  simp [sx1, nums, putV, putI, Cd.zig, Cd.putU_last]
theorem sx2_load : load sx2 = [2, 0, 2, 2] := by
  have hm : many sx2 = 1 := by decide +kernel
  unfold load
  rw [hm]
  simp [sx2, nums, putV, putI, Cd.zig, Cd.putU_last]
theorem sx1_enc : enc sx1 = ([1, 0, 1, 0, 14, 0, 0, 0, 0], 0) := by unfold enc; rw [if_pos sx1_ok, sx1_load]
theorem sx2_dec : dec [2, 0, 2, 2, 109, 111, 114, 101] = (sx2, 4, 0) := by
  have := dec_load sx2_ok sx2_in [109, 111, 114, 101]
  rw [sx2_load] at this
  exact this

set_option maxRecDepth 100000 in
set_option maxHeartbeats 8000000 in
theorem shown_any (w : World) :
    Calls Try.prog 9 #[] w fun e w' => e = .returned (.bool true) ∧ Below w.heap.size w w' := by
  have HE := Lib.hid (fun W => enc_any sx1 sx1_in W)
  rw [sx1_enc] at HE
  have HD := Lib.hid (fun W => decD_any [2, 0, 2, 2, 109, 111, 114, 101] W (by decide))
  unfold DecOut14 at HD
  rw [sx2_dec] at HD
  have HV := Lib.hid (fun W => validD_any sx3 sx3_in W)
  rw [sx3_bad] at HV
  unfold sx1 evV at HE
  unfold sx2 evV at HD
  unfold sx3 evV at HV
  simp only at HE HD HV
  have HF1 := Lib.hid (fun W => show Calls Try.prog 10 #[.int .i64 31] W fun e w' => e = .returned (.int .i64 0) ∧ W = w' from fields_any 31 W)
  have HF2 := Lib.hid (fun W => show Calls Try.prog 10 #[.int .i64 32] W fun e w' => e = .returned (.int .i64 (-1)) ∧ W = w' from fields_any 32 W)
  go_enter Try.func9, Try.ntmps9
  go_wp2_with (first
    | (go_at_call 18; (with_reducible refine (HE.out _).mono ?_); rintro e w1 ⟨rfl, hb1⟩)
    | (go_at_call 20; refine (HD.out _).mono ?_; rintro e w2 ⟨rfl, hb2⟩; have hB2 := hb1.trans (hb2.mono hb1.size); have oX := Ob.Obj.new w2 26 [.int .i64 2, .int .i64 0, .int .i64 2, .int .i64 1, .int .i64 0, .int .i64 0, .int .i64 0, .int .i64 0, .int .i64 0]; have hB3 := hB2.alloc hB2.size (.cells #[.int .i64 2, .int .i64 0, .int .i64 2, .int .i64 1, .int .i64 0, .int .i64 0, .int .i64 0, .int .i64 0, .int .i64 0] 26))
    | (go_at_call 10; (with_reducible refine (HF1.out _).mono ?_); rintro e w3 ⟨rfl, rfl⟩)
    | (go_at_call 10; (with_reducible refine (HF2.out _).mono ?_); rintro e w3 ⟨rfl, rfl⟩)
    | (go_at_call 16; (with_reducible refine (HV.out _).mono ?_); rintro e w4 ⟨rfl, hb4⟩; have hB4 := hB3.trans (hb4.mono hB3.size); have oX4 := oX.below hb4; have c0 := oX4.cell 0; have c1 := oX4.cell 1; have c2 := oX4.cell 2; have c3 := oX4.cell 3; have c4 := oX4.cell 4; have c5 := oX4.cell 5; have c6 := oX4.cell 6; have c7 := oX4.cell 7; have c8 := oX4.cell 8; simp at c0 c1 c2 c3 c4 c5 c6 c7 c8))
  go_ret
  exact ⟨rfl, hB4⟩
end Ev
end Go.Proofs.Ytojbcdkiilcppaa

/-
  The dump is laid out.
-/
namespace Go.Proofs.Ytojbcdkiilcppaa
open Go.RowKit
theorem laidOut : laidOutB Try.prog = true := by kernel_rfl
end Go.Proofs.Ytojbcdkiilcppaa

/-
  The laws EventKinds, EventHolds, EventReads walked.
-/
namespace Go.Proofs.Ytojbcdkiilcppaa
open Go.RowKit
set_option linter.unusedSimpArgs false
set_option linter.unusedVariables false
namespace Ev

set_option maxRecDepth 100000 in
set_option maxHeartbeats 4000000 in
theorem eventKinds_law (k : Int) (w : World) (h1 : -9223372036854775808 ≤ k) (h2 : k ≤ 9223372036854775807) :
    Calls Try.prog 3 #[.int .i64 k] w fun e w' => e = .returned (.bool true) ∧ Below w.heap.size w w' := by
  have HS := Lib.hid (shown_any w)
  have H1 := Lib.hid (fields_any k)
  have H2 := Lib.hid (fieldsR_any k)
  have H3 := Lib.hid (command_any k)
  have H4 := Lib.hid (commandR_any k)
  have H5 := Lib.hid (closing_any k)
  have H6 := Lib.hid (closingR_any k)
  generalize fields k = a at *
  generalize command k = b at *
  generalize closing k = c at *
  go_enter Try.func3, Try.ntmps3
  go_wp2_with (first
    | (go_at_call 9; (with_reducible refine HS.out.mono ?_); rintro e w1 ⟨rfl, hb1⟩)
    | (go_at_call 10; (with_reducible refine (H1.out _).mono ?_); rintro e w2 ⟨rfl, rfl⟩)
    | (go_at_call 11; (with_reducible refine (H2.out _).mono ?_); rintro e w3 ⟨rfl, hb3⟩; have hB3 := hb1.trans (hb3.mono hb1.size))
    | (go_at_call 12; (with_reducible refine (H3.out _).mono ?_); rintro e w2 ⟨rfl, rfl⟩)
    | (go_at_call 13; (with_reducible refine (H4.out _).mono ?_); rintro e w2 ⟨rfl, rfl⟩)
    | (go_at_call 14; (with_reducible refine (H5.out _).mono ?_); rintro e w2 ⟨rfl, rfl⟩)
    | (go_at_call 15; (with_reducible refine (H6.out _).mono ?_); rintro e w2 ⟨rfl, rfl⟩))
  all_goals go_ret
  all_goals exact ⟨by simp, hB3⟩

set_option maxRecDepth 100000 in
set_option maxHeartbeats 8000000 in
theorem eventHolds_law (x : Evt) (w : World) (hI : EvIn x) :
    Calls Try.prog 4 #[evV x] w fun e w' => e = .returned (.bool true) ∧ Below w.heap.size w w' := by
  have H1 := Lib.hid (fun W => validD_any x hI W)
  have H2 := Lib.hid (fun W => validR_any x W)
  have H3 := Lib.hid (fun W => enc_any x hI W)
  have H4 := Lib.hid (fun W => encR_any x hI W)
  generalize validB x = vb at *
  generalize enc x = en at *
  obtain ⟨eb, ee⟩ := en
  obtain ⟨x0, x1, x2, x3, x4, x5, x6, x7, x8⟩ := x
  unfold evV at *
  simp only at *
  have oE := Ob.Obj.new w 26 [.int .i64 x0, .int .i64 x1, .int .i64 x2, .int .i64 x3, .int .i64 x4, .int .i64 x5, .int .i64 x6, .int .i64 x7, .int .i64 x8]
  have hA : Below w.heap.size w (w.alloc (.cells #[.int .i64 x0, .int .i64 x1, .int .i64 x2, .int .i64 x3, .int .i64 x4, .int .i64 x5, .int .i64 x6, .int .i64 x7, .int .i64 x8] 26)) := (Below.refl _ _).alloc (Nat.le_refl _) _
  have HS := Lib.hid (shown_any (w.alloc (.cells #[.int .i64 x0, .int .i64 x1, .int .i64 x2, .int .i64 x3, .int .i64 x4, .int .i64 x5, .int .i64 x6, .int .i64 x7, .int .i64 x8] 26)))
  go_enter Try.func4, Try.ntmps4
  go_wp2_with (first
    | (go_at_call 9; (with_reducible refine HS.out.mono ?_); rintro e w1 ⟨rfl, hb1⟩; have hB1 := hA.trans (hb1.mono hA.size); have oE1 := oE.below hb1; have a0 := oE1.cell 0; have a1 := oE1.cell 1; have a2 := oE1.cell 2; have a3 := oE1.cell 3; have a4 := oE1.cell 4; have a5 := oE1.cell 5; have a6 := oE1.cell 6; have a7 := oE1.cell 7; have a8 := oE1.cell 8; simp at a0 a1 a2 a3 a4 a5 a6 a7 a8)
    | (go_at_call 16; (with_reducible refine (H1.out _).mono ?_); rintro e w2 ⟨rfl, hb2⟩; have hB2 := hB1.trans (hb2.mono hB1.size); have oE2 := oE1.below hb2; have b0 := oE2.cell 0; have b1 := oE2.cell 1; have b2 := oE2.cell 2; have b3 := oE2.cell 3; have b4 := oE2.cell 4; have b5 := oE2.cell 5; have b6 := oE2.cell 6; have b7 := oE2.cell 7; have b8 := oE2.cell 8; simp at b0 b1 b2 b3 b4 b5 b6 b7 b8)
    | (go_at_call 17; (with_reducible refine (H2.out _).mono ?_); rintro e w3 ⟨rfl, hb3⟩; have hB3 := hB2.trans (hb3.mono hB2.size); have oE3 := oE2.below hb3; have c0 := oE3.cell 0; have c1 := oE3.cell 1; have c2 := oE3.cell 2; have c3 := oE3.cell 3; have c4 := oE3.cell 4; have c5 := oE3.cell 5; have c6 := oE3.cell 6; have c7 := oE3.cell 7; have c8 := oE3.cell 8; simp at c0 c1 c2 c3 c4 c5 c6 c7 c8)
    | (go_at_call 18; (with_reducible refine (H3.out _).mono ?_); rintro e w4 ⟨rfl, hb4⟩; have hB4 := hB3.trans (hb4.mono hB3.size); have oE4 := oE3.below hb4; have d0 := oE4.cell 0; have d1 := oE4.cell 1; have d2 := oE4.cell 2; have d3 := oE4.cell 3; have d4 := oE4.cell 4; have d5 := oE4.cell 5; have d6 := oE4.cell 6; have d7 := oE4.cell 7; have d8 := oE4.cell 8; simp at d0 d1 d2 d3 d4 d5 d6 d7 d8)
    | (go_at_call 19; (with_reducible refine (H4.out _).mono ?_); rintro e w5 ⟨rfl, hb5⟩; have hB5 := hB4.trans (hb5.mono hB4.size)))
  all_goals go_ret
  all_goals exact ⟨by simp, hB5⟩

set_option maxRecDepth 100000 in
set_option maxHeartbeats 8000000 in
theorem eventReads_law (s : ByteArray) (w : World) (hs : s.size ≤ 140737488351232) :
    Calls Try.prog 5 #[.string s] w fun e w' => e = .returned (.bool true) ∧ Below w.heap.size w w' := by
  obtain ⟨l, rfl⟩ : ∃ l, s = Cd.bs l := ⟨s.data.toList, (Lib.mk_data s).symm⟩
  have hl : l.length ≤ 140737488351232 := hs
  have H1 := Lib.hid (fun W => decD_any l W hl)
  have H2 := Lib.hid (fun W => decR_any l W hl)
  unfold DecOut14 at H1 H2
  generalize dec l = D at *
  obtain ⟨⟨x0, x1, x2, x3, x4, x5, x6, x7, x8⟩, n, e0⟩ := D
  unfold evV at H1 H2
  simp only at H1 H2
  have HS := Lib.hid (shown_any w)
  go_enter Try.func5, Try.ntmps5
  go_wp2_with (first
    | (go_at_call 9; (with_reducible refine HS.out.mono ?_); rintro e w1 ⟨rfl, hb1⟩)
    | (go_at_call 20; (with_reducible refine (H1.out _).mono ?_); rintro e w2 ⟨rfl, hb2⟩; have hB2 := hb1.trans (hb2.mono hb1.size); have oX := Ob.Obj.new w2 26 [.int .i64 x0, .int .i64 x1, .int .i64 x2, .int .i64 x3, .int .i64 x4, .int .i64 x5, .int .i64 x6, .int .i64 x7, .int .i64 x8]; have hB3 := hB2.alloc hB2.size (.cells #[.int .i64 x0, .int .i64 x1, .int .i64 x2, .int .i64 x3, .int .i64 x4, .int .i64 x5, .int .i64 x6, .int .i64 x7, .int .i64 x8] 26))
    | (go_at_call 21; (with_reducible refine (H2.out _).mono ?_); rintro e w4 ⟨rfl, hb4⟩; have hB4 := hB3.trans (hb4.mono hB3.size); have oX4 := oX.below hb4; have oX5 := oX4.alloc (.cells #[.int .i64 x0, .int .i64 x1, .int .i64 x2, .int .i64 x3, .int .i64 x4, .int .i64 x5, .int .i64 x6, .int .i64 x7, .int .i64 x8] 26); have oY5 := Ob.Obj.new w4 26 [.int .i64 x0, .int .i64 x1, .int .i64 x2, .int .i64 x3, .int .i64 x4, .int .i64 x5, .int .i64 x6, .int .i64 x7, .int .i64 x8]; have c0 := oX5.cell 0; have c1 := oX5.cell 1; have c2 := oX5.cell 2; have c3 := oX5.cell 3; have c4 := oX5.cell 4; have c5 := oX5.cell 5; have c6 := oX5.cell 6; have c7 := oX5.cell 7; have c8 := oX5.cell 8; simp at c0 c1 c2 c3 c4 c5 c6 c7 c8; have d0 := oY5.cell 0; have d1 := oY5.cell 1; have d2 := oY5.cell 2; have d3 := oY5.cell 3; have d4 := oY5.cell 4; have d5 := oY5.cell 5; have d6 := oY5.cell 6; have d7 := oY5.cell 7; have d8 := oY5.cell 8; simp at d0 d1 d2 d3 d4 d5 d6 d7 d8; have hB5 := hB4.alloc hB4.size (.cells #[.int .i64 x0, .int .i64 x1, .int .i64 x2, .int .i64 x3, .int .i64 x4, .int .i64 x5, .int .i64 x6, .int .i64 x7, .int .i64 x8] 26)))
  all_goals (try go_big_quiet (fail))
  all_goals (try go_wp2_with fail)
  all_goals go_ret
  all_goals exact ⟨by simp, by first | exact hB5 | exact hB5.drew⟩
end Ev
end Go.Proofs.Ytojbcdkiilcppaa

/-
  The law EventRows walked.
-/
namespace Go.Proofs.Ytojbcdkiilcppaa
open Go.RowKit
set_option linter.unusedSimpArgs false
set_option linter.unusedVariables false
namespace Ev

theorem belowE {B : Nat} {w W : World} (h : Below B w W) (m : Nat) : Below B w (W.drewN m) := ⟨h.os, h.tape, h.output, h.size, h.block⟩
theorem row_objE {W : World} {B g n cap : Nat} {e : TypeId} {xs : List Value} (h : W.ownsRow B e 9 (.slice (some ⟨g, 0, none⟩) n cap) n xs) : ∃ cur : List Value, Ob.Obj W g e cur ∧ n * 9 ≤ cur.length := by
  rcases h with ⟨h0, h1 | ⟨g', cap', cur, h1, h2, h3, h4⟩⟩
  · exact absurd h1.1 (by simp)
  · injection h1 with e1 e2 e3
    injection e1 with e1
    injection e1 with e1
    subst e1 e3
    refine ⟨cur.toList, by simpa [Ob.Obj] using h3, ?_⟩
    obtain ⟨h5, h6, _⟩ := h4
    rw [Array.length_toList]
    have := Nat.mul_le_mul_right 9 h5
    omega

set_option maxRecDepth 100000 in
set_option maxHeartbeats 16000000 in
theorem eventRows_law (lv : Value) (L : List Evt) (s : ByteArray) (w : World) (hE : EvsIn w lv L) (hs : s.size ≤ 1048576) :
    Calls Try.prog 6 #[lv, .string s] w fun e w' => e = .returned (.bool true) ∧ Below w.heap.size w w' := by
  obtain ⟨l, rfl⟩ : ∃ l, s = Cd.bs l := ⟨s.data.toList, (Lib.mk_data s).symm⟩
  have hl : l.length ≤ 1048576 := hs
  obtain ⟨hEv, hI, hLl⟩ := hE
  have HS := Lib.hid (shown_any w)
  have H1 := Lib.hid (fun W (hb : Below w.heap.size w W) => pack_any lv L W (hEv.grow hb hb.size) hI hLl)
  have H2 := Lib.hid (fun W (hb : Below w.heap.size w W) => packR_any lv L W (hEv.grow hb hb.size) hI hLl)
  have H3 := Lib.hid (fun W => unpackD_any l W (by omega))
  have H4 := Lib.hid (fun W => unpackR_any l W (by omega))
  unfold UnpOut at H3 H4
  generalize pack L = pk at *
  generalize unpack l = un at *
  obtain ⟨pb, pe⟩ := pk
  obtain ⟨U, ue, up⟩ := un
  simp only at H1 H2 H3 H4
  obtain ⟨la, lc, lb, lo, rfl, _⟩ := hEv
  have HSM := Lib.hid (fun (B1 B2 : Nat) (v1 v2 : Value) (W : World) (h1 : Evs B1 W v1 U) (h2 : Evs B2 W v2 U) (h3 : U.length ≤ 1073741824) => sameE_any W h1 h2 h3)
  have HUB := Lib.hid (fun (h : U.length ≤ l.length) => show U.length ≤ 1073741824 by omega)
  clear hI
  go_enter Try.func6, Try.ntmps6
  go_wp2_with (first
    | (go_at_call 9; (with_reducible refine HS.out.mono ?_); rintro e w1 ⟨rfl, hb1⟩)
    | (go_at_call 22; (with_reducible refine (H1.out _ hb1).mono ?_); rintro e w2 ⟨rfl, hb2⟩; have hB2 := hb1.trans (hb2.mono hb1.size))
    | (go_at_call 23; (with_reducible refine (H2.out _ hB2).mono ?_); rintro e w3 ⟨rfl, hb3⟩; have hB3 := hB2.trans (hb3.mono hB2.size))
    | (go_at_call 24; (with_reducible refine (H3.out _).mono ?_); rintro e w4 ⟨av, rfl, hav, hUI, hUl, hb4⟩; have hB4 := hB3.trans (hb4.mono hB3.size); obtain ⟨aa, ac, rfl, hag⟩ := Sq.row_cases hav; have HAV := Lib.hid hav; have HAG := Lib.hid hag; have HUI := Lib.hid hUI; clear hav hag hUI)
    | (go_at_call 25; (with_reducible refine (H4.out _).mono ?_); rintro e w5 ⟨bv, rfl, hbv, _, _, hb5⟩; have hB5 := hB4.trans (hb5.mono hB4.size); obtain ⟨ba, bc, rfl, hbg⟩ := Sq.row_cases hbv; have HBV := Lib.hid hbv; clear hbv hbg; have HAV5 := Lib.hid (own_below HAV.out hb5); have HAL := Lib.hid (fun g (hg : (Value.slice aa U.length ac).ownBlock = some g) => Ob.row_lt HAV.out hg))
    | (go_at_call 26; refine (HSM.out _ _ _ _ _ (evs_of_own HAV5.out) (evs_of_own HBV.out) (HUB.out hUl)).mono ?_; rintro e w6 ⟨rfl, m6, rfl⟩))
  have hB6 := Lib.hid (belowE hB5 m6)
  have HAV6 := Lib.hid (show (w5.drewN m6).ownsRow w3.heap.size 26 9 (.slice aa U.length ac) U.length (ecs U) from HAV5.out)
  have HBV6 := Lib.hid (show (w5.drewN m6).ownsRow w4.heap.size 26 9 (.slice ba U.length bc) U.length (ecs U) from HBV.out)
  have hs34 := hb4.size
  have hs3 := hB3.size
  have hs45 := hb5.size
  have HCUR := Lib.hid (fun (h : 0 < U.length) => show ∃ g cur, aa = some ⟨g, 0, none⟩ ∧ w3.heap.size ≤ g ∧ g < w4.heap.size ∧ Ob.Obj (w5.drewN m6) g 26 cur ∧ U.length * 9 ≤ cur.length from by
    obtain ⟨g, hg, h1, h2⟩ := HAG.out h
    have hr := HAV6.out
    rw [hg] at hr
    obtain ⟨cur, h3, h4⟩ := row_objE hr
    exact ⟨g, cur, hg, h1, h2, h3, h4⟩)
  generalize hwd : w5.drewN m6 = wd at *
  have hsd : w5.heap.size = wd.heap.size := by rw [← hwd]; rfl
  clear hb1 hb2 hb3 hb4 hB2 hB3 hB4 hwd HAV HAV5 HBV H1 H2 H4
  go_loopw [17] (fun i wr => ∃ q : Nat, q ≤ U.length ∧ i = .int .i64 (q : Int) ∧ Sq.Kept (fun k => (Value.slice aa U.length ac).ownBlock ≠ some k) wd wr ∧ (0 < U.length → ∃ g cur, aa = some ⟨g, 0, none⟩ ∧ w3.heap.size ≤ g ∧ g < w4.heap.size ∧ Ob.Obj wr g 26 cur ∧ U.length * 9 ≤ cur.length)) (fun i _ => U.length - (intOf i).toNat)
  case atStart => exact ⟨0, Nat.zero_le _, rfl, Sq.Kept.refl _ _, HCUR.out⟩
  case round =>
    clear HCUR
    obtain ⟨q, hq, rfl, hk, hcur⟩ := hrel
    obtain ⟨wo, rfl⟩ : ∃ wo : World, wo = wr := ⟨_, rfl⟩
    by_cases hlt : q < U.length
    · obtain ⟨g, cur, rfl, hg1, hg2, hO, hcl⟩ := hcur (by omega)
      have hi1 : (0 : Int) ≤ (q : Int) ∧ (q : Int) < (U.length : Int) := by omega
      have hgl := hO.lt
      obtain ⟨v0, hv0⟩ : ∃ v, cur[q * 9]? = some v := ⟨cur[q * 9]'(by omega), List.getElem?_eq_getElem (by omega)⟩
      have k0 := (hO.cell (q * 9)).trans hv0
      have z0 := hO.frozen (q * 9)
      clear hv0
      obtain ⟨v1, hv1⟩ : ∃ v, cur[q * 9 + 1]? = some v := ⟨cur[q * 9 + 1]'(by omega), List.getElem?_eq_getElem (by omega)⟩
      have k1 := (hO.cell (q * 9 + 1)).trans hv1
      have z1 := hO.frozen (q * 9 + 1)
      clear hv1
      obtain ⟨v2, hv2⟩ : ∃ v, cur[q * 9 + 2]? = some v := ⟨cur[q * 9 + 2]'(by omega), List.getElem?_eq_getElem (by omega)⟩
      have k2 := (hO.cell (q * 9 + 2)).trans hv2
      have z2 := hO.frozen (q * 9 + 2)
      clear hv2
      obtain ⟨v3, hv3⟩ : ∃ v, cur[q * 9 + 3]? = some v := ⟨cur[q * 9 + 3]'(by omega), List.getElem?_eq_getElem (by omega)⟩
      have k3 := (hO.cell (q * 9 + 3)).trans hv3
      have z3 := hO.frozen (q * 9 + 3)
      clear hv3
      obtain ⟨v4, hv4⟩ : ∃ v, cur[q * 9 + 4]? = some v := ⟨cur[q * 9 + 4]'(by omega), List.getElem?_eq_getElem (by omega)⟩
      have k4 := (hO.cell (q * 9 + 4)).trans hv4
      have z4 := hO.frozen (q * 9 + 4)
      clear hv4
      obtain ⟨v5, hv5⟩ : ∃ v, cur[q * 9 + 5]? = some v := ⟨cur[q * 9 + 5]'(by omega), List.getElem?_eq_getElem (by omega)⟩
      have k5 := (hO.cell (q * 9 + 5)).trans hv5
      have z5 := hO.frozen (q * 9 + 5)
      clear hv5
      obtain ⟨v6, hv6⟩ : ∃ v, cur[q * 9 + 6]? = some v := ⟨cur[q * 9 + 6]'(by omega), List.getElem?_eq_getElem (by omega)⟩
      have k6 := (hO.cell (q * 9 + 6)).trans hv6
      have z6 := hO.frozen (q * 9 + 6)
      clear hv6
      obtain ⟨v7, hv7⟩ : ∃ v, cur[q * 9 + 7]? = some v := ⟨cur[q * 9 + 7]'(by omega), List.getElem?_eq_getElem (by omega)⟩
      have k7 := (hO.cell (q * 9 + 7)).trans hv7
      have z7 := hO.frozen (q * 9 + 7)
      clear hv7
      obtain ⟨v8, hv8⟩ : ∃ v, cur[q * 9 + 8]? = some v := ⟨cur[q * 9 + 8]'(by omega), List.getElem?_eq_getElem (by omega)⟩
      have k8 := (hO.cell (q * 9 + 8)).trans hv8
      have z8 := hO.frozen (q * 9 + 8)
      clear hv8
      have HO := Lib.hid hO
      have HKK := Lib.hid hk
      have HST := Lib.hid (fun (W : World) (p : Nat) (v : Value) => Sq.Kept.setCell (T := fun k => (Value.slice (some ⟨g, 0, none⟩) U.length ac).ownBlock ≠ some k) W (p := ⟨g, p, none⟩) v (fun h => h rfl))
      clear hO hcur hk
      go_wp2_with fail
      go_roundw
      case rel => exact ⟨q + 1, by omega, by go_num, ((((((((HKK.out.trans (HST.out _ _ _)).trans (HST.out _ _ _)).trans (HST.out _ _ _)).trans (HST.out _ _ _)).trans (HST.out _ _ _)).trans (HST.out _ _ _)).trans (HST.out _ _ _)).trans (HST.out _ _ _)).trans (HST.out _ _ _), fun _ => ⟨g, _, rfl, hg1, hg2, ((((((((HO.out.set (q * 9) _).set (q * 9 + 1) _).set (q * 9 + 2) _).set (q * 9 + 3) _).set (q * 9 + 4) _).set (q * 9 + 5) _).set (q * 9 + 6) _).set (q * 9 + 7) _).set (q * 9 + 8) _, by simpa using hcl⟩⟩
      case measure => simp [intOf]; omega
    · obtain rfl : q = U.length := by omega
      have hsk := hk.size
      have hwo : Below w.heap.size w wo := hB6.out.trans (hk.below (fun k hk0 e => by have := (HAL.out k e).1; omega) (by omega))
      have hbo : wo.ownsRow w4.heap.size 26 9 (.slice ba U.length bc) U.length (ecs U) := Sq.row_kept HBV6.out hk (fun g hg e => by
        have h5 := (Ob.row_lt HBV6.out hg).1
        have h6 := (HAL.out g e).2
        omega)
      have HBO := Lib.hid hbo
      have HWO := Lib.hid hwo
      clear hk hcur hbo hwo
      go_wp2_with (first
        | (go_at_call 24; (with_reducible refine (H3.out _).mono ?_); rintro e w7 ⟨cv, rfl, hcv, _, _, hb7⟩; have hB7 := Lib.hid (HWO.out.trans (hb7.mono HWO.out.size)); obtain ⟨ca, cc, rfl, hcg⟩ := Sq.row_cases hcv; have HCV := Lib.hid hcv; have HBO7 := Lib.hid (own_below HBO.out hb7); clear hcv hcg)
        | (go_at_call 26; refine (HSM.out _ _ _ _ _ (evs_of_own HCV.out) (evs_of_own HBO7.out) (HUB.out hUl)).mono ?_; rintro e w8 ⟨rfl, m8, rfl⟩))
      all_goals go_ret
      all_goals exact ⟨by simp, belowE hB7.out m8⟩

theorem eventRows_fr (a : Option Addr) (n cap : Nat) (L : List Evt) (s : ByteArray) (w : World) (hE : EvsIn w (.slice a n cap) L) (hs : s.size ≤ 1048576) :
    Calls Try.prog 6 #[.slice a n cap, .string s] w fun e w' => e = .returned (.bool true) ∧ Below w.heap.size w w' := eventRows_law _ L s w hE hs
end Ev
end Go.Proofs.Ytojbcdkiilcppaa

/-
  The law EventBack walked.
-/
namespace Go.Proofs.Ytojbcdkiilcppaa
open Go.RowKit
set_option linter.unusedSimpArgs false
set_option linter.unusedVariables false
namespace Ev

theorem ext_takeE (l : Dat) (k : Nat) : (Cd.bs l).extract 0 k = Cd.bs (l.take k) := by
  have : ((Cd.bs l).extract 0 k).data.toList = l.take k := by
    rw [Lib.extract_data]; simp
  rw [← this]

set_option maxRecDepth 100000 in
set_option maxHeartbeats 16000000 in
theorem eventBack_law (x : Evt) (lv : Value) (L : List Evt) (s : ByteArray) (w : World) (hI : EvIn x) (hE : EvsIn w lv L) (hs : s.size ≤ 1048576) :
    Calls Try.prog 8 #[evV x, lv, .string s] w fun e w' => e = .returned (.bool true) ∧ Below w.heap.size w w' := by
  obtain ⟨l, rfl⟩ : ∃ l, s = Cd.bs l := ⟨s.data.toList, (Lib.mk_data s).symm⟩
  have hl : l.length ≤ 1048576 := hs
  obtain ⟨hEv, hLI, hLl⟩ := hE
  have H1 := Lib.hid (fun W => enc_any x hI W)
  have H2 := Lib.hid (fun W (hb : Below w.heap.size w W) => pack_any lv L W (hEv.grow hb hb.size) hLI hLl)
  have HEV := Lib.hid (fun W (hb : Below w.heap.size w W) => hEv.below hb)
  have HDC := Lib.hid (fun d W (h : d.length ≤ 140737488351232) => decD_any d W h)
  have HUN := Lib.hid (fun d W (h : d.length ≤ 134217728) => unpackD_any d W h)
  have HSM := Lib.hid (fun (B1 B2 : Nat) (v1 v2 : Value) (W : World) (h1 : Evs B1 W v1 L) (h2 : Evs B2 W v2 L) => sameE_any W h1 h2 (by omega))
  have hlx := load_len hI
  have HPL := Lib.hid (fun (h : L.all validB = true) => show pack L = (L.flatMap load, 0) by unfold pack; rw [if_pos h])
  have HPB := Lib.hid (fun (h : L.all validB = false) => show pack L = ([], 54) by unfold pack; rw [if_neg (by rw [h]; decide)])
  have HUP := Lib.hid (fun (h : L.all validB = true) => show unpack (L.flatMap load) = (L, 0, 0) by
    have h2 := HPL.out h
    have := unpack_pack (by rw [h2]) hLI
    rw [h2] at this
    exact this)
  have HFL := Lib.hid (show (L.flatMap load).length ≤ 90 * L.length from by
    have : ∀ M : List Evt, (∀ x ∈ M, EvIn x) → (M.flatMap load).length ≤ 90 * M.length := by
      intro M
      induction M with
      | nil => intro _; simp
      | cons y M ih =>
        intro hm
        have h1 := ih (fun q hq => hm q (by simp [hq]))
        have h3 := load_len (hm y (by simp))
        rw [List.flatMap_cons, List.length_append, List.length_cons]; omega
    exact this L hLI)
  have HDX := Lib.hid (fun (h : validB x = true) => dec_load h hI l)
  have HCU := Lib.hid (fun (h : validB x = true) (k : Nat) (hk : k < (load x).length) => dec_cut h hI hk)
  have HEO := Lib.hid (fun (h : validB x = true) => show enc x = (load x, 0) by unfold enc; rw [if_pos h])
  have HEB := Lib.hid (fun (h : validB x = false) => show enc x = ([], 54) by unfold enc; rw [if_neg (by rw [h]; decide)])
  obtain ⟨la, lc, lb, lo, rfl, _⟩ := hEv
  generalize load x = lx at *
  generalize L.flatMap load = lf at *
  generalize hVX : validB x = vx at *
  generalize hVL : L.all validB = vl at *
  clear hLI hVL hVX hI
  generalize pack L = pk at *
  generalize enc x = en at *
  have oE := Ob.Obj.new w 26 (evC x)
  have hA : Below w.heap.size w (w.alloc (.cells (evC x).toArray 26)) := (Below.refl _ _).alloc (Nat.le_refl _) _
  have HS := Lib.hid (shown_any (w.alloc (.cells (evC x).toArray 26)))
  obtain ⟨x0, x1, x2, x3, x4, x5, x6, x7, x8⟩ := x
  unfold evV
  unfold evV at H1
  unfold evC at oE hA HS
  simp only at *
  cases vx with
  | false =>
    obtain rfl := HEB.out rfl
    clear HEO HDX HCU HDC
    cases vl with
    | false =>
      obtain rfl := HPB.out rfl
      clear HPL HUP HUN HSM
      go_enter Try.func8, Try.ntmps8
      go_wp2_with (first
        | (go_at_call 9; (with_reducible refine HS.out.mono ?_); rintro e w1 ⟨rfl, hb1⟩; have hB1 := hA.trans (hb1.mono hA.size); have oE1 := oE.below hb1; have a0 := oE1.cell 0; have a1 := oE1.cell 1; have a2 := oE1.cell 2; have a3 := oE1.cell 3; have a4 := oE1.cell 4; have a5 := oE1.cell 5; have a6 := oE1.cell 6; have a7 := oE1.cell 7; have a8 := oE1.cell 8; simp at a0 a1 a2 a3 a4 a5 a6 a7 a8)
        | (go_at_call 18; (with_reducible refine (H1.out _).mono ?_); rintro e w2 ⟨rfl, hb2⟩; have hB2 := hB1.trans (hb2.mono hB1.size); have oE2 := oE1.below hb2)
        | (go_at_call 22; (with_reducible refine (H2.out _ hB2).mono ?_); rintro e w9 ⟨rfl, hb9⟩; have hB9 := hB2.trans (hb9.mono hB2.size)))
      go_ret
      exact ⟨rfl, hB9⟩
    | true =>
      obtain rfl := HPL.out rfl
      have HU2 := Lib.hid (fun W => HUN.out lf W (by have := HFL.out; omega))
      unfold UnpOut at HU2
      rw [HUP.out rfl] at HU2
      simp only at HU2
      clear HPB HUP HUN
      go_enter Try.func8, Try.ntmps8
      go_wp2_with (first
        | (go_at_call 9; (with_reducible refine HS.out.mono ?_); rintro e w1 ⟨rfl, hb1⟩; have hB1 := hA.trans (hb1.mono hA.size); have oE1 := oE.below hb1; have a0 := oE1.cell 0; have a1 := oE1.cell 1; have a2 := oE1.cell 2; have a3 := oE1.cell 3; have a4 := oE1.cell 4; have a5 := oE1.cell 5; have a6 := oE1.cell 6; have a7 := oE1.cell 7; have a8 := oE1.cell 8; simp at a0 a1 a2 a3 a4 a5 a6 a7 a8)
        | (go_at_call 18; (with_reducible refine (H1.out _).mono ?_); rintro e w2 ⟨rfl, hb2⟩; have hB2 := hB1.trans (hb2.mono hB1.size); have oE2 := oE1.below hb2)
        | (go_at_call 22; (with_reducible refine (H2.out _ hB2).mono ?_); rintro e w9 ⟨rfl, hb9⟩; have hB9 := hB2.trans (hb9.mono hB2.size))
        | (go_at_call 24; (with_reducible refine (HU2.out _).mono ?_); rintro e w10 ⟨av, rfl, hav, _, _, hb10⟩; have hB10 := hB9.trans (hb10.mono hB9.size); obtain ⟨aa, ac, rfl, hag⟩ := Sq.row_cases hav; have HAV := Lib.hid hav; clear hav hag)
        | (go_at_call 26; refine (HSM.out _ _ _ _ _ (evs_of_own HAV.out) (HEV.out _ hB10)).mono ?_; rintro e w11 ⟨rfl, m11, rfl⟩))
      all_goals go_ret
      all_goals exact ⟨rfl, belowE hB10 m11⟩
  | true =>
    obtain rfl := HEO.out rfl
    obtain ⟨ly, hly⟩ : ∃ ly, ly = lx ++ l := ⟨_, rfl⟩
    have hadd := add_at lx l ly hly (by rw [hly, List.length_append]; omega)
    have HD1 := Lib.hid (fun W => HDC.out ly W (by rw [hly, List.length_append]; omega))
    unfold DecOut14 at HD1
    have hdx := HDX.out rfl
    rw [← hly] at hdx
    rw [hdx] at HD1
    have HCU2 := Lib.hid (HCU.out rfl)
    unfold evV at HD1
    simp only at HD1
    have hszx : (Cd.bs lx).size = lx.length := rfl
    clear HEB HDX HCU hly hdx
    go_enter Try.func8, Try.ntmps8
    go_wp2_with (first
      | (go_at_call 9; (with_reducible refine HS.out.mono ?_); rintro e w1 ⟨rfl, hb1⟩; have hB1 := hA.trans (hb1.mono hA.size); have oE1 := oE.below hb1; have a0 := oE1.cell 0; have a1 := oE1.cell 1; have a2 := oE1.cell 2; have a3 := oE1.cell 3; have a4 := oE1.cell 4; have a5 := oE1.cell 5; have a6 := oE1.cell 6; have a7 := oE1.cell 7; have a8 := oE1.cell 8; simp at a0 a1 a2 a3 a4 a5 a6 a7 a8)
      | (go_at_call 18; (with_reducible refine (H1.out _).mono ?_); rintro e w2 ⟨rfl, hb2⟩; have hB2 := hB1.trans (hb2.mono hB1.size); have oE2 := oE1.below hb2)
      | (go_at_call 20; (with_reducible refine (HD1.out _).mono ?_); rintro e w3 ⟨rfl, hb3⟩; have hB3 := hB2.trans (hb3.mono hB2.size); have oE3 := (oE2.below hb3).alloc (.cells #[.int .i64 x0, .int .i64 x1, .int .i64 x2, .int .i64 x3, .int .i64 x4, .int .i64 x5, .int .i64 x6, .int .i64 x7, .int .i64 x8] 26); have oY3 := Ob.Obj.new w3 26 [.int .i64 x0, .int .i64 x1, .int .i64 x2, .int .i64 x3, .int .i64 x4, .int .i64 x5, .int .i64 x6, .int .i64 x7, .int .i64 x8]; have c0 := oE3.cell 0; have c1 := oE3.cell 1; have c2 := oE3.cell 2; have c3 := oE3.cell 3; have c4 := oE3.cell 4; have c5 := oE3.cell 5; have c6 := oE3.cell 6; have c7 := oE3.cell 7; have c8 := oE3.cell 8; simp at c0 c1 c2 c3 c4 c5 c6 c7 c8; have d0 := oY3.cell 0; have d1 := oY3.cell 1; have d2 := oY3.cell 2; have d3 := oY3.cell 3; have d4 := oY3.cell 4; have d5 := oY3.cell 5; have d6 := oY3.cell 6; have d7 := oY3.cell 7; have d8 := oY3.cell 8; simp at d0 d1 d2 d3 d4 d5 d6 d7 d8; have hB4 := hB3.alloc hB3.size (.cells #[.int .i64 x0, .int .i64 x1, .int .i64 x2, .int .i64 x3, .int .i64 x4, .int .i64 x5, .int .i64 x6, .int .i64 x7, .int .i64 x8] 26)))
    have HB4 := Lib.hid hB4
    go_loopw [13] (fun i wr => ∃ q : Nat, q ≤ lx.length ∧ i = .int .i64 (q : Int) ∧ Below w.heap.size w wr) (fun i _ => lx.length - (intOf i).toNat)
    case atStart => exact ⟨0, Nat.zero_le _, rfl, HB4.out⟩
    case round =>
      obtain ⟨q, hq, rfl, hB⟩ := hrel
      clear hB4 HB4 oE3 oY3 c0 c1 c2 c3 c4 c5 c6 c7 c8 d0 d1 d2 d3 d4 d5 d6 d7 d8 hB3 oE2 hB2
      obtain ⟨wo, rfl⟩ : ∃ wo : World, wo = wr := ⟨_, rfl⟩
      by_cases hlt : q < lx.length
      · have hi1 : (0 : Int) ≤ (q : Int) ∧ (q : Int) ≤ (lx.length : Int) ∧ (q : Int) < (lx.length : Int) := by omega
        have HD2 := Lib.hid (fun W => HDC.out (lx.take q) W (by rw [List.length_take]; omega))
        unfold DecOut14 at HD2
        have hc := HCU2.out q hlt
        have hx := ext_takeE lx q
        generalize dec (lx.take q) = D at *
        obtain ⟨⟨y0, y1, y2, y3, y4, y5, y6, y7, y8⟩, n, e0⟩ := D
        unfold evV at HD2
        simp only at HD2 hc
        have hcb : (((e0 : Nat) : Int) == 0) = false := by simp; omega
        clear hc
        go_wp2_with (go_at_call 20; (try rw [hx]); (with_reducible refine (HD2.out _).mono ?_); rintro e w5 ⟨rfl, hb5⟩; have hB5 := hB.trans (hb5.mono hB.size); have hB6 := hB5.alloc hB5.size (.cells #[.int .i64 y0, .int .i64 y1, .int .i64 y2, .int .i64 y3, .int .i64 y4, .int .i64 y5, .int .i64 y6, .int .i64 y7, .int .i64 y8] 26))
        go_roundw
        case rel => exact ⟨q + 1, by omega, by go_num, hB6⟩
        case measure => simp [intOf]; omega
      · obtain rfl : q = lx.length := by omega
        clear HCU2 HD1 HDC
        cases vl with
        | false =>
          obtain rfl := HPB.out rfl
          clear HPL HUP HUN HSM
          go_wp2_with (go_at_call 22; (with_reducible refine (H2.out _ hB).mono ?_); rintro e w9 ⟨rfl, hb9⟩; have hB9 := hB.trans (hb9.mono hB.size))
          go_ret
          exact ⟨rfl, hB9⟩
        | true =>
          obtain rfl := HPL.out rfl
          have HU2 := Lib.hid (fun W => HUN.out lf W (by have := HFL.out; omega))
          unfold UnpOut at HU2
          rw [HUP.out rfl] at HU2
          simp only at HU2
          clear HPB HUP HUN
          go_wp2_with (first
            | (go_at_call 22; (with_reducible refine (H2.out _ hB).mono ?_); rintro e w9 ⟨rfl, hb9⟩; have hB9 := hB.trans (hb9.mono hB.size))
            | (go_at_call 24; (with_reducible refine (HU2.out _).mono ?_); rintro e w10 ⟨av, rfl, hav, _, _, hb10⟩; have hB10 := hB9.trans (hb10.mono hB9.size); obtain ⟨aa, ac, rfl, hag⟩ := Sq.row_cases hav; have HAV := Lib.hid hav; clear hav hag)
            | (go_at_call 26; refine (HSM.out _ _ _ _ _ (evs_of_own HAV.out) (HEV.out _ hB10)).mono ?_; rintro e w11 ⟨rfl, m11, rfl⟩))
          all_goals go_ret
          all_goals exact ⟨rfl, belowE hB10 m11⟩

theorem eventBack_fr (x : Evt) (a : Option Addr) (n cap : Nat) (L : List Evt) (s : ByteArray) (w : World) (hI : EvIn x) (hE : EvsIn w (.slice a n cap) L) (hs : s.size ≤ 1048576) :
    Calls Try.prog 8 #[evV x, .slice a n cap, .string s] w fun e w' => e = .returned (.bool true) ∧ Below w.heap.size w w' := eventBack_law x _ L s w hI hE hs
end Ev
end Go.Proofs.Ytojbcdkiilcppaa
