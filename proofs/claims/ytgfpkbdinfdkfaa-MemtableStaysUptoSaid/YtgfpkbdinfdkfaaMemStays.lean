/-
  The walk of the law MemtableStays: Add, whatever it is asked; what it leaves of a range.
-/
import Derived.Test.YtgfpkbdinfdkfaaMemAddNew
import Derived.Test.YtgfpkbdinfdkfaaMemActs
import Derived.Test.YtgfpkbdinfdkfaaMemOneB
import Derived.Test.YtgfpkbdinfdkfaaQuietRound
namespace Go.Proofs.Ytgfpkbdinfdkfaa
open Go.RowKit Go.Shelf
set_option linter.unusedSimpArgs false
set_option linter.unusedVariables false
namespace Md
open Op (bytesLess)
open Mt (Ver VerIn VerW verV lessB mayB placeB fromL)
open Ma (Act6 ActsIn6)
open Vs (vcs Vers)
/-- whatever is asked of Add -/
def AddAll (B0 tb : Nat) (ns : List Nd) (v : Ver) (hh : Int) (w : World) (e : Ending) (w' : World) : Prop :=
  (∃ z : Int, e = .returned (.int .i64 z) ∧ (mayB v = true → 1 ≤ hh → hh ≤ 8 → z = 0 ∨ z = 7)) ∧
  ∃ ns', TabAt B0 tb ns' w' ∧ Sq.Step (Foot tb ns) (Foot tb ns') w w' ∧ ns.length ≤ ns'.length ∧ ns'.length ≤ ns.length + 1 ∧ ∀ ns0 : List Nd, ns0.length ≤ ns.length → Grown ns0 ns → Grown ns0 ns'
theorem grown_ins {ns0 ns : List Nd} {v : Ver} {nb h : Nat} (hl : ns0.length ≤ ns.length) (hg : Grown ns0 ns) : Grown ns0 (preOf ns v ++ ⟨nb, v, h, ns.length⟩ :: postOf ns v) := by
  unfold Grown at *
  rw [List.filter_append, List.filter_cons_of_neg (by simp; omega), ← List.filter_append, pre_post]
  exact hg
theorem add_all {B0 tb : Nat} {ns : List Nd} (v : Ver) (hh : Int) (w : World) (hT : TabAt B0 tb ns w) (hL : ns.length ≤ 1099511627776) (hv : VerW v) (hi : -9223372036854775808 ≤ hh ∧ hh ≤ 9223372036854775807) :
    Calls Try.prog 12 #[.pointer (some ⟨tb, 0, none⟩), verV v, .int .i64 hh] w (AddAll B0 tb ns v hh w) := by
  by_cases hbad : mayB v = false ∨ hh < 1 ∨ 8 < hh
  · refine (add_bad v hh w hv hi hbad).mono ?_
    rintro e w' ⟨rfl, hb⟩
    refine ⟨⟨1, rfl, fun h1 h2 h3 => ?_⟩, ns, hT.below hb, Sq.Step.below hb, Nat.le_refl _, Nat.le_succ _, fun _ _ h => h⟩
    rcases hbad with h | h | h
    · rw [h1] at h; cases h
    · omega
    · omega
  · have hm : mayB v = true := by cases h : mayB v with | true => rfl | false => exact absurd (.inl h) hbad
    have hn3 : ¬ hh < 1 := fun h => hbad (.inr (.inl h))
    have hn4 : ¬ 8 < hh := fun h => hbad (.inr (.inr h))
    cases hth : thereN ns v with
    | true =>
      refine (add_there v hh w hT hL hv hm (by omega) hth).mono ?_
      rintro e w' ⟨rfl, hb⟩
      exact ⟨⟨7, rfl, fun _ _ _ => .inr rfl⟩, ns, hT.below hb, Sq.Step.below hb, Nat.le_refl _, Nat.le_succ _, fun _ _ h => h⟩
    | false =>
      obtain ⟨m, rfl⟩ : ∃ m : Nat, hh = (m : Int) := ⟨hh.toNat, by omega⟩
      refine (add_new v m w hT hL hv hm (by omega) hth).mono ?_
      rintro e w' ⟨rfl, nb, hd, st⟩
      have hl : (preOf ns v ++ (⟨nb, v, m, ns.length⟩ : Nd) :: postOf ns v).length = ns.length + 1 := by
        have := congrArg List.length (pre_post ns v)
        rw [List.length_append] at this ⊢
        rw [List.length_cons]
        omega
      exact ⟨⟨0, rfl, fun _ _ _ => .inl rfl⟩, _, hd, st, by omega, by omega, fun ns0 h1 h2 => grown_ins h1 h2⟩
attribute [local go_sem] Oper.semAt_some
theorem TabAt.low2 {B0 B1 tb : Nat} {ns : List Nd} {W : World} (h : TabAt B0 tb ns W) (hb : B1 ≤ B0) : TabAt B1 tb ns W :=
  { head := h.head, chain := h.chain, ord := h.ord, hgt := h.hgt, rank := h.rank, may := h.may, nodup := h.nodup, lo := ⟨Nat.le_trans hb h.lo.1, fun x hx => Nat.le_trans hb (h.lo.2 x hx)⟩ }
theorem fromAllS_any {B0 tb : Nat} {ns : List Nd} (w : World) (hT : TabAt B0 tb ns w) (hL : ns.length ≤ 1099511627776) :
    Calls Try.prog 10 #[.pointer (some ⟨tb, 0, none⟩), .string ⟨#[]⟩, .int .i64 0] w fun e w' => ∃ u, e = .returned u ∧ w'.ownsRow w.heap.size 33 4 u ns.length (vcs (ns.map (·.v))) ∧ Below w.heap.size w w' := by
  have h := fromD_any [] 0 w hT hL (by simp) (by omega)
  rw [cutL_all (.inl (Int.le_refl 0))] at h
  have e : fromL (ns.map (·.v)) [] = ns.map (·.v) := by
    unfold fromL
    rw [List.filter_eq_self]
    intro x _
    rw [Cd.bl_nil_r]
    rfl
  rw [e, List.length_map] at h
  exact h
/-- what stands of the law's own -/
structure StO (tp : Nat) (w : World) (v : Ver) (ns : List Nd) (W : World) : Prop where
  tab : TabAt w.heap.size (w.heap.size + 2) ns W
  bm : Ob.Obj W w.heap.size 33 [.string (Cd.bs v.key), .int .u64 v.seq, .bool v.del, .string (Cd.bs v.val)]
  br : Boxed W (w.heap.size + 1) 4 (.bool false)
  bt : Boxed W tp 23 (.pointer (some ⟨w.heap.size + 2, 0, none⟩))
  lo : ∀ x ∈ ns, tp + 1 ≤ x.b
  bel : Below w.heap.size w W
  htp : w.heap.size + 2 < tp
theorem StO.nf {tp : Nat} {w : World} {v : Ver} {ns : List Nd} {W : World} (h : StO tp w v ns W) : ¬ Foot (w.heap.size + 2) ns w.heap.size ∧ ¬ Foot (w.heap.size + 2) ns (w.heap.size + 1) ∧ ¬ Foot (w.heap.size + 2) ns tp := by
  have htp := h.htp
  refine ⟨?_, ?_, ?_⟩
  · rintro (h1 | ⟨x, hx, h1⟩)
    · omega
    · have := h.lo x hx; omega
  · rintro (h1 | ⟨x, hx, h1⟩)
    · omega
    · have := h.lo x hx; omega
  · rintro (h1 | ⟨x, hx, h1⟩)
    · omega
    · have := h.lo x hx; omega
theorem StO.kept {tp : Nat} {w : World} {v : Ver} {ns : List Nd} {W W' : World} (h : StO tp w v ns W) (hk : Sq.Kept (fun k => k < tp + 1 ∨ Foot (w.heap.size + 2) ns k) W W') : StO tp w v ns W' :=
  by
  have htp := h.htp
  exact ⟨h.tab.kept (hk.less fun _ hf _ => .inr hf), h.bm.kept hk (.inl (by omega)), hk.boxed (.inl (by omega)) h.br, hk.boxed (.inl (by omega)) h.bt, h.lo, h.bel.trans (hk.below (fun k hk => .inl (by omega)) h.bel.size), htp⟩
theorem StO.all {tp : Nat} {w : World} {v : Ver} {ns : List Nd} {W W' : World} (h : StO tp w v ns W) (hk : Sq.Kept (fun _ => True) W W') : StO tp w v ns W' := h.kept (hk.less fun _ _ _ => trivial)
theorem StO.step {tp : Nat} {w : World} {v : Ver} {ns ns' : List Nd} {W W' : World} (h : StO tp w v ns W) (hd : TabAt w.heap.size (w.heap.size + 2) ns' W') (st : Sq.Step (Foot (w.heap.size + 2) ns) (Foot (w.heap.size + 2) ns') W W') : StO tp w v ns' W' := by
  obtain ⟨n1, n2, n3⟩ := h.nf
  have hl := h.bt.lt
  refine ⟨hd, h.bm.kept st.kept n1, st.kept.boxed n2 h.br, st.kept.boxed n3 h.bt, fun x hx => ?_, h.bel.trans (st.kept.below (fun k hk hf => by have := (h.tab.foot k hf).1; omega) h.bel.size), h.htp⟩
  rcases st.new x.b (.inr ⟨x, hx, rfl⟩) with h1 | h1
  · rcases h1 with h1 | ⟨y, hy, h1⟩
    · exact absurd (h1 ▸ List.mem_map_of_mem hx) (List.nodup_cons.1 hd.nodup).1
    · have := h.lo y hy; omega
  · omega

theorem fromL_nil (L : List Ver) : fromL L [] = L := by
  unfold fromL
  rw [List.filter_eq_self]
  intro x _
  rw [Cd.bl_nil_r]
  rfl
theorem want_cells {W : World} {B g n cap q : Nat} {ns : List Nd} {x : Ver} (h : W.ownsRow B 33 4 (.slice (some ⟨g, 0, none⟩) n cap) n (vcs (ns.map (·.v)))) (hx : (ns.map (·.v))[q]? = some x) :
    W.cell? ⟨g, q * 4, none⟩ = some (.string (Cd.bs x.key)) ∧ W.cell? ⟨g, q * 4 + 1, none⟩ = some (.int .u64 x.seq) ∧ W.cell? ⟨g, q * 4 + 2, none⟩ = some (.bool x.del) ∧ W.cell? ⟨g, q * 4 + 3, none⟩ = some (.string (Cd.bs x.val)) := by
  obtain ⟨hq, rfl⟩ := List.getElem?_eq_some_iff.1 hx
  have hl := h.1
  have hvl := Mt.vcs_len (ns.map (·.v))
  have hg : ∀ k, k < 4 → W.cell? ⟨g, q * 4 + k, none⟩ = (Vs.vC (ns.map (·.v))[q])[k]? := fun k hk => by
    rw [h.cellAt (q * 4 + k) (by omega)]
    have := Gn.flatten_get (sz := 4) ((ns.map (·.v)).map Vs.vC) (fun i hi => by simp [Vs.vC]) q (by simpa using hq) k hk
    unfold vcs
    rw [this]
    simp
  exact ⟨hg 0 (by decide), hg 1 (by decide), hg 2 (by decide), hg 3 (by decide)⟩

/-- what stands between the rounds -/
structure StI (N Q : Nat) (ns0 : List Nd) (w5 : World) (ns : List Nd) (R : Sq.Blocks) (pre : List Ver) (X : World) : Prop where
  tab : TabAt N (N + 2) ns X
  foot : ∀ k, Foot (N + 2) ns k → Foot (N + 2) ns0 k ∨ Q + 4 ≤ k
  grown : Grown ns0 ns
  len1 : ns0.length ≤ ns.length
  len2 : ns.length ≤ ns0.length + 2 * pre.length
  pl : pre.length ≤ ns0.length
  own : Sq.Kept (fun k => (k < Q + 4 ∧ ¬ Foot (N + 2) ns0 k) ∧ k ≠ Q + 1) w5 X
  nR : ∀ k, k < Q + 4 → ¬ R k
  fR : ∀ k, Foot (N + 2) ns k → ¬ R k
  cnt : Boxed X (Q + 1) 3 (.int .i64 (pre.length : Int))
theorem StI.steady {N Q : Nat} {ns0 : List Nd} {w5 : World} {ns : List Nd} {R R' : Sq.Blocks} {pre : List Ver} {X X' : World} (hQ : Q + 4 ≤ w5.heap.size) (h : StI N Q ns0 w5 ns R pre X) (st : Sq.Step R R' X X') : StI N Q ns0 w5 ns R' pre X' := by
  have hsz := h.own.size
  refine ⟨h.tab.kept (st.kept.less fun k hk _ => h.fR k hk), h.foot, h.grown, h.len1, h.len2, h.pl, h.own.trans (st.kept.less fun k hk _ => h.nR k hk.1.1), fun k hk hr => ?_, fun k hk hr => ?_, st.kept.boxed (h.nR _ (by omega)) h.cnt⟩
  · rcases st.new k hr with h1 | h1
    · exact h.nR k hk h1
    · omega
  · rcases st.new k hr with h1 | h1
    · exact h.fR k hk h1
    · have := (h.tab.foot k hk).2; omega
/-- a round goes by: two versions are asked to be put in -/
theorem StI.next {N Q : Nat} {ns0 ns' ns6 ns7 : List Nd} {w5 X Xd w6 w7 : World} {R : Sq.Blocks} {pre : List Ver} {x : Ver} {o : Go.Obj} {c2 : Value} (hQ : Q + 4 ≤ w5.heap.size) (hfQ : ∀ k, Foot (N + 2) ns0 k → k < Q)
    (h : StI N Q ns0 w5 ns' R pre X) (hbd : ∀ k, R k → k < X.heap.size) (hpl : pre.length < ns0.length) (kD : Sq.Kept (fun _ => True) X Xd) (hcD : Boxed Xd (Q + 1) 3 (.int .i64 (pre.length : Int)))
    (hd6 : TabAt N (N + 2) ns6 w6) (st6 : Sq.Step (Foot (N + 2) ns') (Foot (N + 2) ns6) ((Xd.setCell ⟨Q + 1, 0, none⟩ (.int .i64 ((pre.length : Int) + 1))).alloc o) w6) (a6 : ns'.length ≤ ns6.length) (b6 : ns6.length ≤ ns'.length + 1) (g6 : Grown ns0 ns' → Grown ns0 ns6)
    (hd7 : TabAt N (N + 2) ns7 w7) (st7 : Sq.Step (Foot (N + 2) ns6) (Foot (N + 2) ns7) (w6.setCell ⟨Xd.heap.size, 0, none⟩ c2) w7) (a7 : ns6.length ≤ ns7.length) (b7 : ns7.length ≤ ns6.length + 1) (g7 : Grown ns0 ns6 → Grown ns0 ns7) :
    Sq.Kept (fun k => R k ∨ (k = Q + 2 ∨ k = Q + 3)) X w7 ∧ StI N Q ns0 w5 ns7 R (pre ++ [x]) w7 := by
  have hsz := h.own.size
  have hszD := kD.size
  have hsA : ((Xd.setCell ⟨Q + 1, 0, none⟩ (.int .i64 ((pre.length : Int) + 1))).alloc o).heap.size = Xd.heap.size + 1 := by simp [World.setCell]
  have hs6 := st6.kept.size
  rw [hsA] at hs6
  have f6 : ∀ k, Foot (N + 2) ns6 k → Foot (N + 2) ns' k ∨ Xd.heap.size + 1 ≤ k := fun k hk => by have := st6.new k hk; rwa [hsA] at this
  have f7 : ∀ k, Foot (N + 2) ns7 k → Foot (N + 2) ns' k ∨ Xd.heap.size + 1 ≤ k := fun k hk => by
    rcases st7.new k hk with h1 | h1
    · exact f6 k h1
    · have e : (w6.setCell ⟨Xd.heap.size, 0, none⟩ c2).heap.size = w6.heap.size := by simp [World.setCell]
      rw [e] at h1
      exact .inr (by omega)
  have small : ∀ k, k < Q + 4 → ¬ Foot (N + 2) ns0 k → ¬ Foot (N + 2) ns' k := fun k hk hn hf => by
    rcases h.foot k hf with h1 | h1
    · exact hn h1
    · omega
  have chain : ∀ T : Sq.Blocks, ¬ T (Q + 1) → (∀ k, T k → k < X.heap.size) → (∀ k, T k → ¬ Foot (N + 2) ns' k) → Sq.Kept T X w7 := fun T h1 h2 h3 => by
    have k1 := ((kD.less (T' := T) (fun _ _ _ => trivial)).trans (Sq.Kept.setCell Xd (p := ⟨Q + 1, 0, none⟩) (.int .i64 ((pre.length : Int) + 1)) h1)).trans (Sq.Kept.alloc _ _ o)
    have k2 := k1.trans (st6.kept.less (fun k hk _ => h3 k hk))
    have k3 := k2.trans (Sq.Kept.setCell w6 (p := ⟨Xd.heap.size, 0, none⟩) c2 (fun hz => by have : Xd.heap.size < X.heap.size := h2 _ hz; omega))
    exact k3.trans (st7.kept.less (fun k hk _ hf => by
      rcases f6 k hf with h4 | h4
      · exact h3 k hk h4
      · have := h2 k hk; omega))
  have nq : ∀ k, Q ≤ k → k < Q + 4 → ¬ Foot (N + 2) ns' k := fun k h1 h2 => small k h2 (fun hf => by have := hfQ k hf; omega)
  refine ⟨chain _ ?_ ?_ ?_, ⟨hd7, fun k hk => ?_, g7 (g6 h.grown), Nat.le_trans h.len1 (Nat.le_trans a6 a7), ?_, ?_, h.own.trans (chain _ (fun hk => hk.2 rfl) (fun k hk => by omega) (fun k hk => small k hk.1.1 hk.1.2)), h.nR, fun k hk hr => ?_, ?_⟩⟩
  · rintro (h1 | h1 | h1)
    · exact h.nR _ (by omega) h1
    · omega
    · omega
  · rintro k (h1 | h1 | h1)
    · exact hbd k h1
    · omega
    · omega
  · rintro k (h1 | h1 | h1)
    · exact fun hf => h.fR k hf h1
    · exact nq k (by omega) (by omega)
    · exact nq k (by omega) (by omega)
  · rcases f7 k hk with h1 | h1
    · exact h.foot k h1
    · exact .inr (by omega)
  · have := h.len2
    rw [List.length_append, List.length_singleton]
    omega
  · rw [List.length_append, List.length_singleton]
    omega
  · rcases f7 k hk with h1 | h1
    · exact h.fR k h1 hr
    · have := hbd k hr; omega
  · have b1 := (hcD.set (.int .i64 ((pre.length : Int) + 1))).alloc o
    have b2 := st6.kept.boxed (nq (Q + 1) (by omega) (by omega)) b1
    have b3 := b2.other (B' := Xd.heap.size) (by omega) c2
    have b4 := st7.kept.boxed (fun hf => by
      rcases f6 _ hf with h4 | h4
      · exact nq (Q + 1) (by omega) (by omega) h4
      · omega) b3
    have e : (((pre ++ [x]).length : Nat) : Int) = (pre.length : Int) + 1 := by rw [List.length_append, List.length_singleton]; omega
    rw [e]
    exact b4
def stI (N Q : Nat) (ns0 : List Nd) (w5 : World) (R : Sq.Blocks) (pre : List Ver) (X : World) : Prop := ∃ ns, StI N Q ns0 w5 ns R pre X
theorem stI_steady {N Q : Nat} {ns0 : List Nd} {w5 : World} (hQ : Q + 4 ≤ w5.heap.size) : Sq.Steady (stI N Q ns0 w5) := fun _ _ _ _ _ ⟨ns, h⟩ st => ⟨ns, h.steady hQ st⟩
/-- .. with the version that is handed on, in its box -/
def stA (N Q : Nat) (ns0 : List Nd) (w5 : World) (F : Nat → Act) (a' : Act) (x : Ver) (R : Sq.Blocks) (pre : List Ver) (X : World) : Prop :=
  ∃ ns Bf, StI N Q ns0 w5 ns R pre X ∧ Ob.Obj X Bf 33 [.string (Cd.bs x.key), .int .u64 x.seq, .bool x.del, .string (Cd.bs x.val)] ∧ ¬ R Bf ∧ ¬ Foot (N + 2) ns Bf ∧ Q + 4 ≤ Bf ∧ a' = F Bf
theorem stA_steady {N Q : Nat} {ns0 : List Nd} {w5 : World} (hQ : Q + 4 ≤ w5.heap.size) (F : Nat → Act) (a' : Act) (x : Ver) : Sq.Steady (stA N Q ns0 w5 F a' x) := fun R R' s X X' ⟨ns, Bf, h, ho, hn, hf, hb, he⟩ st =>
  ⟨ns, Bf, h.steady hQ st, ho.kept st.kept hn, Sq.step_not st ho.lt hn, hf, hb, he⟩

set_option maxRecDepth 100000 in
set_option maxHeartbeats 8000000 in
theorem memtableStays_walk (a : Option Addr) (cap b off : Nat) (L : List Act6) (v : Ver) (w : World) (hA : ActsIn6 w a b off L) (hv : VerIn v) :
    Calls Try.prog 6 #[.slice a L.length cap, verV v] w fun e w' => e = .returned (.bool true) ∧ Below w.heap.size w w' := by
  obtain ⟨ha, hc, hok, hlen⟩ := hA
  have HC := Lib.hid hc
  have HOK := Lib.hid hok
  clear hc hok
  refine (callsIn_wide (n := 12)).1 ?_
  refine callsIn_of_wp_marks Try.func6 rfl trivial ?_ rfl
  refine wpIn_wide.2 ?_
  unfold verV
  simp only [Try.ntmps6, List.size_toArray, List.length_cons, List.length_nil, Nat.reduceAdd, Nat.reduceSub, Array.replicate_succ, Array.replicate_zero, List.push_toArray, List.append_toArray, List.nil_append, List.cons_append]
  go_wp2_with (go_at_call 8; (with_reducible refine (new_any _).mono ?_); rintro e w1 ⟨rfl, hT1, hb1⟩)
  simp only [World.size_alloc, Nat.add_assoc, Nat.reduceAdd] at hT1 hb1
  obtain ⟨tp, htp⟩ : ∃ tp, tp = w1.heap.size := ⟨_, rfl⟩
  have hbw : Below w.heap.size w w1 := (((Below.refl _ _).alloc (Nat.le_refl _) _).alloc (by simp) _).trans (hb1.mono (by omega))
  have S0 : StO tp w v [] (w1.alloc (.cells #[.pointer (some ⟨w.heap.size + 2, 0, none⟩)] 23)) := by
    refine ⟨(hT1.low2 (by omega)).kept (Sq.Kept.alloc _ _ _), ?_, ?_, htp ▸ Boxed.new w1 _ _, (fun _ h => (by cases h)), hbw.alloc hbw.size _, (by rw [htp]; exact (hT1.foot _ (.inl rfl)).2)⟩
    · exact (((Ob.Obj.new w _ _).alloc _).kept (T := fun k => k < w.heap.size + 2) ⟨hb1.os, hb1.tape, hb1.output, hb1.size, fun k hk _ => hb1.block k hk⟩ (by omega)).alloc _
    · have := Boxed.new (w.alloc (.cells #[.string (Cd.bs v.key), .int .u64 v.seq, .bool v.del, .string (Cd.bs v.val)] 33)) 4 (.bool false)
      rw [World.size_alloc] at this
      have hk : Sq.Kept (fun k => k < w.heap.size + 2) _ w1 := ⟨hb1.os, hb1.tape, hb1.output, hb1.size, fun k hk _ => hb1.block k hk⟩
      exact (hk.boxed (by omega) this).alloc _
  rw [← htp]
  generalize w1.alloc (.cells #[.pointer (some ⟨w.heap.size + 2, 0, none⟩)] 23) = wz at *
  clear hT1 hb1 hbw htp
  go_loopw [6] (fun i wr => ∃ (q : Nat) (ns : List Nd), q ≤ L.length ∧ i = .int .i64 q ∧ StO tp w v ns wr ∧ ns.length ≤ q) (fun i _ => L.length - (intOf i).toNat)
  case atStart => exact ⟨0, [], Nat.zero_le _, rfl, S0, Nat.le_refl _⟩
  case round =>
    clear S0
    obtain ⟨q, ns, hq, rfl, hS, hns⟩ := hrel
    by_cases hlt : q < L.length
    · obtain ⟨rfl, hbl⟩ := ha (by omega)
      obtain ⟨q0, q1, q2, q3, q4, q5⟩ := HC.out q hlt
      have hB := hS.bel
      have e1 := (hB.cell (p := ⟨b, off + q * 6 + 1, none⟩) hbl).trans q1
      have e2 := (hB.cell (p := ⟨b, off + q * 6 + 2, none⟩) hbl).trans q2
      have e3 := (hB.cell (p := ⟨b, off + q * 6 + 3, none⟩) hbl).trans q3
      have e4 := (hB.cell (p := ⟨b, off + q * 6 + 4, none⟩) hbl).trans q4
      have e5 := (hB.cell (p := ⟨b, off + q * 6 + 5, none⟩) hbl).trans q5
      have hx := HOK.out L[q] (List.getElem_mem hlt)
      have hi1 : (0 : Int) ≤ (q : Int) ∧ (q : Int) < (L.length : Int) := by omega
      have HA := Lib.hid (fun W (T : TabAt w.heap.size (w.heap.size + 2) ns W) => add_all L[q].v L[q].n W T (by omega) hx.v.wide hx.n)
      have c5 := hS.bt.cell
      have hS2 := hS.all (Sq.Kept.drew _ _)
      generalize L[q] = x at *
      obtain ⟨kd, n, u⟩ := x
      simp only at e1 e2 e3 e4 e5
      unfold verV at HA
      simp only at HA
      clear q0 q1 q2 q3 q4 q5 hx hB
      go_wp2_with fail
      go_still_tail 11, (by kernel_rfl)
      change wpList _ _ _ _ _ (World.drew _)
      go_wp2_with (go_at_call 12; (with_reducible refine (HA.out _ hS2.tab).mono ?_); intro e w3 hadd; obtain ⟨⟨z, rfl, _⟩, ns3, hd3, st3, hl1, hl2, _⟩ := hadd)
      have hS3 := hS2.step hd3 st3
      go_roundw
      case rel => exact ⟨q + 1, ns3, by omega, by go_num, hS3, by omega⟩
      case measure => simp [intOf]; omega
    · obtain rfl : q = L.length := by omega
      have c5 := hS.bt.cell
      have hnl : ns.length ≤ 1048576 := by omega
      go_wp2_with (first
        | (go_at_call 10; (with_reducible refine (fromAllS_any _ hS.tab (by omega)).mono ?_); rintro e w4 ⟨u, rfl, hr4, hb4⟩; obtain ⟨au, cu, rfl, hau⟩ := Sq.row_cases hr4; have hS4 := hS.all (Sq.Kept.of_below hb4); have c54 := hS4.bt.cell; have l54 := hS4.bt.lt)
        | (go_at_call 22; (with_reducible refine (from_any (some ⟨w.heap.size + 2, 0, none⟩) [] _ (by simp)).mono ?_); rintro e w5 ⟨rfl, hbt5, hbk5, hb5⟩))
      obtain ⟨Q, hQ⟩ : ∃ Q, Q = w4.heap.size := ⟨_, rfl⟩
      have hS5 := (hS4.all ((Sq.Kept.alloc _ _ (.cells #[.slice au ns.length cu] 26)).trans (Sq.Kept.alloc _ _ (.cells #[.int .i64 0] 3)))).all (Sq.Kept.of_below hb5)
      have bW : Boxed w5 Q 26 (.slice au ns.length cu) := (Sq.Kept.of_below (T := fun _ => True) hb5).boxed trivial (hQ ▸ (Boxed.new w4 _ _).alloc _)
      have bC : Boxed w5 (Q + 1) 3 (.int .i64 0) := by
        have := Boxed.new (w4.alloc (.cells #[.slice au ns.length cu] 26)) 3 (.int .i64 0)
        rw [World.size_alloc, ← hQ] at this
        exact (Sq.Kept.of_below (T := fun _ => True) hb5).boxed trivial this
      have row5 := Sq.row_kept ((hr4.alloc (.cells #[.slice au ns.length cu] 26)).alloc (.cells #[.int .i64 0] 3)) (Sq.Kept.of_below (T := fun _ => True) hb5) (fun _ _ => trivial)
      simp only [World.size_alloc, Nat.add_assoc, Nat.reduceAdd] at hbt5 hbk5
      rw [← hQ] at hbt5 hbk5
      have hQ5 : Q + 4 ≤ w5.heap.size := by have := hbk5.lt; omega
      have hfQ : ∀ k, Foot (w.heap.size + 2) ns k → k < Q := fun k hk => by rw [hQ]; exact (hS4.tab.foot k hk).2
      have hrQ : ∀ g, (Value.slice au ns.length cu).ownBlock = some g → g < Q ∧ wr.heap.size ≤ g := fun g hg => by rw [hQ]; have := Ob.row_lt hr4 hg; exact ⟨this.2, this.1⟩
      have hwrQ : wr.heap.size ≤ Q := by rw [hQ]; exact hb4.size
      have hfw : ∀ k, Foot (w.heap.size + 2) ns k → k < wr.heap.size := fun k hk => (hS.tab.foot k hk).2
      have htpw : tp < wr.heap.size := hS.bt.lt
      have I0 : stI w.heap.size Q ns w5 (fun _ => False) [] w5 := ⟨ns, hS5.tab, fun k hk => .inl hk, Grown.refl hS5.tab.rank, Nat.le_refl _, Nat.le_add_right _ _, Nat.zero_le _, Sq.Kept.refl _ _, fun _ _ h => h, fun _ _ h => h, bC⟩
      rw [← hQ]
      clear hQ hb5 hb4 hr4 hau hS hS4 c5 c54 l54
      refine (wpIn_wide (n := 12)).1 ?_
      refine Sq.wp_rangeH (Held := Held w.heap.size (w.heap.size + 2) ns) Held.less rfl (by omega) (gf := 37) (lb := #[.pointer (some ⟨Q + 2, 0, none⟩), .pointer (some ⟨Q + 3, 0, none⟩)]) rfl trivial (enters_of Try.func37 (by kernel_rfl) rfl)
        (from1_seq [] 11 (by omega) (Q + 2) (Q + 3) w5 hS5.tab (by omega) (by simp) hbt5 hbk5) (by rintro k (rfl | rfl) <;> omega) (fun _ => rfl)
        (stI w.heap.size Q ns w5) (fun _ _ _ _ => False)
        (fun a' x => stA w.heap.size Q ns w5 (fun Bf => { tmps := #[Value.slice a L.length cap, Value.agg #[.string (Cd.bs v.key), .int .u64 v.seq, .bool v.del, .string (Cd.bs v.val)], undef, .pointer (some ⟨w.heap.size, 0, none⟩), .pointer (some ⟨w.heap.size + 1, 0, none⟩), .pointer (some ⟨tp, 0, none⟩), .int .i64 (L.length : Int), .pointer (some ⟨Q, 0, none⟩), .pointer (some ⟨Q + 1, 0, none⟩), .pointer (some ⟨Bf, 0, none⟩), undef, undef, undef, .pointer (some ⟨w.heap.size + 1 + 1, 0, none⟩), .pointer (some ⟨w.heap.size + 1 + 1, 0, none⟩), .bool false, .int .i64 (L.length : Int), .slice a L.length cap, .int .i64 (L.length : Int), .bool false, u20, u21, u22, u23, u24, u25, u26, u27, u28, u29, u30, u31, u32, u33, .pointer (some ⟨w.heap.size + 2, 0, none⟩), .slice au ns.length cu, .pointer (some ⟨w.heap.size + 2, 0, none⟩), .func (.func 37) #[] #[.pointer (some ⟨Q + 2, 0, none⟩), .pointer (some ⟨Q + 3, 0, none⟩)], .agg #[.string (Cd.bs x.key), .int .u64 x.seq, .bool x.del, .string (Cd.bs x.val)], undef, undef, undef, undef, undef, undef, undef, undef, undef, undef, undef, undef, undef, undef, undef, undef, undef, undef, undef, undef, undef, undef, undef, undef, undef, undef, undef, undef, undef, undef, undef, undef, undef, undef, undef, undef, undef, undef, undef, undef, undef, undef, undef, undef, undef, undef, undef, undef, undef, undef, undef, undef, undef, undef, undef, undef], defers := [] }) a' x)
        (stI_steady hQ5) (fun R pre X ⟨ns', h⟩ => ⟨ns', h.tab, h.grown, h.fR, by have := h.len2; have := h.pl; omega⟩) (fun _ => Sq.Steady.no) (fun a' x => stA_steady hQ5 _ a' x) I0 ?assign ?body ?done ?stop
      case assign =>
        intro lr R pre x X hbd hsp hI
        gi_wp2
        obtain ⟨ns', h⟩ := hI
        have hz := h.own.size
        refine ⟨Sq.Kept.alloc _ _ _, ns', X.heap.size, h.steady hQ5 (Sq.Step.alloc0 _ _ _), Ob.Obj.new X _ _, fun hr => by have := hbd _ hr; omega, fun hf => by have := (h.tab.foot _ hf).2; omega, by omega, ?_⟩
        first | rfl | trivial
      case body =>
        rintro lr R pre x a' X hRl hrec hbd hsp ⟨ns', Bf, h, ho, hnf, hff, hbf, rfl⟩
        have hpl : pre.length < ns.length := by
          have := hsp.length_le
          rw [List.length_append, List.length_map] at this
          simp at this
          have h2 := congrArg List.length (pre_post ns (topV []))
          rw [List.length_append] at h2
          omega
        have hxe : (ns.map (·.v))[pre.length]? = some x := by
          rw [tab_from hS5.tab.ord hS5.tab.may, fromL_nil] at hsp
          obtain ⟨t, ht⟩ := hsp
          rw [← ht]
          simp
        have hsz := h.own.size
        obtain ⟨g, rfl, _, _⟩ : ∃ g, au = some ⟨g, 0, none⟩ ∧ True ∧ True := by
          obtain ⟨ao, cp, e1, e2⟩ := Sq.row_cases row5
          obtain ⟨g, e3, _⟩ := e2 (by omega)
          cases e1
          exact ⟨g, e3, trivial, trivial⟩
        have hgg := hrQ g rfl
        have own : ∀ k, k < Q + 4 → ¬ Foot (w.heap.size + 2) ns k → k ≠ Q + 1 → (k < Q + 4 ∧ ¬ Foot (w.heap.size + 2) ns k) ∧ k ≠ Q + 1 := fun k a b c => ⟨⟨a, b⟩, c⟩
        have rowX := Sq.row_kept row5 h.own (fun k hk => by
          obtain rfl : g = k := by simpa [Value.ownBlock] using hk
          exact own g (by omega) (fun hf => by have := hfw g hf; omega) (by omega))
        have nfN := hS5.nf
        have htp := hS5.htp
        have bmX := hS5.bm.kept h.own (own _ (by omega) nfN.1 (by omega))
        have btX := h.own.boxed (own _ (by omega) nfN.2.2 (by omega)) hS5.bt
        have bWX := h.own.boxed (own _ (by omega) (fun hf => by have := hfQ _ hf; omega) (by omega)) bW
        obtain ⟨c0, c1, c2, c3⟩ := want_cells rowX hxe
        have d0 := ho.cell 0
        have d1 := ho.cell 1
        have d2 := ho.cell 2
        have d3 := ho.cell 3
        simp at d0 d1 d2 d3
        have k1 := h.cnt.cell
        have k2 := h.cnt.frozen
        have k3 := h.cnt.lt
        have k4 := bWX.cell
        have hd1 : decide ((ns.length : Int) ≤ (pre.length : Int)) = false := decide_eq_false (by omega)
        have hd2 : decide (ns.length ≤ pre.length) = false := decide_eq_false (by omega)
        have hi0 : (0 : Int) ≤ (pre.length : Int) ∧ (pre.length : Int) < (ns.length : Int) := by omega
        gi_wp2_with fail
        refine Qr.region_quiet (Qr.open_round lr) (by kernel_rfl) (by kernel_rfl) (by kernel_rfl) ?_
        repeat (go_big_quiet_step (fail))
        refine wpQuiet_nil ?_
        intro _ hw'
        obtain ⟨nq, hw''⟩ := hw'
        subst hw''
        have kD : Sq.Kept (fun _ => True) X (X.drewN nq) := Sq.Kept.drewN _ _ _
        have cntD := kD.boxed trivial h.cnt
        have bmD := bmX.kept kD trivial
        have btD := kD.boxed trivial btX
        have hoD := ho.kept kD trivial
        have tabD := h.tab.kept (kD.less fun _ _ _ => trivial)
        clear c0 c1 c2 c3 d0 d1 d2 d3 k1 k2 k3 k4 hd1 hd2
        have hszD : X.heap.size = (X.drewN nq).heap.size := rfl
        generalize X.drewN nq = Xd at *
        have d0 := hoD.cell 0
        have m0 := bmD.cell 0
        have m1 := bmD.cell 1
        have m2 := bmD.cell 2
        have m3 := bmD.cell 3
        have k1 := cntD.cell
        have k2 := cntD.frozen
        have k3 := cntD.lt
        have t5 := btD.cell
        have l5 := btD.lt
        have lm := bmD.lt
        have lo := hoD.lt
        simp at d0 m0 m1 m2 m3
        have HH := Lib.hid h
        have HSP := Lib.hid hsp
        have HXE := Lib.hid hxe
        have HRX := Lib.hid rowX
        clear h hsp hxe rowX bmX btX bWX ho own
        gi_wp2_with fail
        obtain ⟨s1, hs1⟩ : ∃ s1, s1 = IntKind.u64.wrap (v.seq.tmod 1000 + ((pre.length : Int) + 1)) := ⟨_, rfl⟩
        have hsb : 0 ≤ s1 ∧ s1 < 18446744073709551616 := by rw [hs1, IntKind.wrap_u64]; omega
        rw [← hs1]
        clear hs1
        have hfX : ∀ k, Foot (w.heap.size + 2) ns' k → k < X.heap.size := fun k hk => (HH.out.tab.foot k hk).2
        have nQ1 : ¬ Foot (w.heap.size + 2) ns' (Q + 1) := fun hf => by
          rcases HH.out.foot _ hf with h1 | h1
          · have := hfQ _ h1; omega
          · omega
        have nT : ¬ Foot (w.heap.size + 2) ns' tp := fun hf => by
          rcases HH.out.foot _ hf with h1 | h1
          · exact nfN.2.2 h1
          · omega
        have HA1 := Lib.hid (fun W (T : TabAt w.heap.size (w.heap.size + 2) ns' W) => add_all (⟨v.key, s1, v.del, v.val⟩ : Ver) (1 + ((pre.length : Int) + 1) % 8) W T (by have := HH.out.len2; omega) ⟨hv.wide.1, hv.wide.2.1, hsb⟩ (by omega))
        unfold verV at HA1
        simp only at HA1
        refine ⟨trivial, ?_⟩
        refine (CallsIn.inRound lr (callsIn_wide.2 (HA1.out _ ?_))).mono ?_
        · exact tabD.kept ((Sq.Kept.setCell Xd (p := ⟨Q + 1, 0, none⟩) _ nQ1).trans (Sq.Kept.alloc _ _ _))
        intro e w6 hadd
        obtain ⟨⟨z, rfl, _⟩, ns6, hd6, st6, a6, b6, g6⟩ := hadd
        have oZ := (Ob.Obj.new (Xd.setCell ⟨Q + 1, 0, none⟩ (.int .i64 ((pre.length : Int) + 1))) 33 [.string (Cd.bs v.key), .int .u64 s1, .bool v.del, .string (Cd.bs v.val)]).kept st6.kept (fun hf => by have := hfX _ hf; simp [World.setCell] at this; omega)
        rw [show (Xd.setCell ⟨Q + 1, 0, none⟩ (.int .i64 ((pre.length : Int) + 1))).heap.size = Xd.heap.size by simp [World.setCell]] at oZ
        have o6 := ((hoD.other (p := ⟨Q + 1, 0, none⟩) (by simp; omega) (.int .i64 ((pre.length : Int) + 1))).alloc (.cells #[.string (Cd.bs v.key), .int .u64 s1, .bool v.del, .string (Cd.bs v.val)] 33)).kept st6.kept hff
        have b6t := st6.kept.boxed nT ((btD.other (B' := Q + 1) (by omega) (.int .i64 ((pre.length : Int) + 1))).alloc (.cells #[.string (Cd.bs v.key), .int .u64 s1, .bool v.del, .string (Cd.bs v.val)] 33))
        have z0 := oZ.cell 0
        have z1 := oZ.cell 1
        have z2 := oZ.cell 2
        have z3 := oZ.cell 3
        have y0 := oZ.frozen 0
        have yl := oZ.lt
        have p0 := o6.cell 0
        have p5 := b6t.cell
        have pl := b6t.lt
        have ll := o6.lt
        have ntz : ¬ tp = Xd.heap.size := by omega
        have nbz : ¬ Bf = Xd.heap.size := by omega
        simp at z0 z1 z2 z3 p0
        have H6 := Lib.hid hd6
        have ST6 := Lib.hid st6
        have G6 := Lib.hid g6
        clear hd6 st6 g6
        have hxw : VerW x := by
          obtain ⟨y, hy, e1⟩ := List.mem_map.1 (List.mem_of_getElem? HXE.out)
          exact e1 ▸ may_wide (hS5.tab.may y hy)
        have HA2 := Lib.hid (fun W (T : TabAt w.heap.size (w.heap.size + 2) ns6 W) => add_all (⟨x.key, s1, v.del, v.val⟩ : Ver) 1 W T (by have := HH.out.len2; omega) ⟨hxw.1, hv.wide.2.1, hsb⟩ (by omega))
        unfold verV at HA2
        simp only at HA2
        gi_wp2_with fail
        refine ⟨trivial, ?_⟩
        refine (CallsIn.inRound lr (callsIn_wide.2 (HA2.out _ ?_))).mono ?_
        · exact H6.out.kept (Sq.Kept.setCell w6 (p := ⟨Xd.heap.size, 0, none⟩) _ (fun hf => by
            rcases ST6.out.new _ hf with h1 | h1
            · have h3 : Xd.heap.size < X.heap.size := hfX _ h1
              omega
            · have h3 : ((Xd.setCell ⟨Q + 1, 0, none⟩ (.int .i64 ((pre.length : Int) + 1))).alloc (.cells #[.string (Cd.bs v.key), .int .u64 s1, .bool v.del, .string (Cd.bs v.val)] 33)).heap.size ≤ Xd.heap.size := h1
              rw [World.size_alloc, World.size_setCell] at h3
              omega))
        intro e w7 hadd
        obtain ⟨⟨z7, rfl, _⟩, ns7, hd7, st7, a7, b7, g7⟩ := hadd
        obtain ⟨r1, r2⟩ := HH.out.next (x := x) hQ5 hfQ (fun k hk => (hbd k hk).2) hpl kD cntD H6.out ST6.out a6 b6 (G6.out ns HH.out.len1) hd7 st7 a7 b7 (g7 ns (by have := HH.out.len1; omega))
        gi_wp2
        exact ⟨r1, _, r2⟩
      case done =>
        rintro D R ys X hD hRD rfl ⟨ns', h⟩ hdf
        have hyl : ((postOf ns (topV [])).map (·.v)).length = ns.length := by
          rw [tab_from hS5.tab.ord hS5.tab.may, fromL_nil, List.length_map]
        have hcnt := h.cnt
        rw [hyl] at hcnt
        have hln := h.len1
        have hl2 := h.len2
        rw [hyl] at hl2
        have htp := hS5.htp
        have nfN := hS5.nf
        have btX := h.own.boxed (B := tp) ⟨⟨by omega, nfN.2.2⟩, by omega⟩ hS5.bt
        have brX := h.own.boxed (B := w.heap.size + 1) ⟨⟨by omega, nfN.2.1⟩, by omega⟩ hS5.br
        have bWX := h.own.boxed (B := Q) ⟨⟨by omega, fun hf => by have := hfQ _ hf; omega⟩, by omega⟩ bW
        have hsz := h.own.size
        have hbX : Below w.heap.size w X := hS5.bel.trans (h.own.below (fun k hk => ⟨⟨by omega, fun hf => by have := (hS5.tab.foot k hf).1; omega⟩, by omega⟩) hS5.bel.size)
        have t5 := btX.cell
        have k1 := hcnt.cell
        have k4 := bWX.cell
        have HLN := Lib.hid (len_any X h.tab)
        have brF := brX.frozen
        have brL := brX.lt
        have nQ0 : ¬ Foot (w.heap.size + 2) ns' Q := fun hf => by
          rcases h.foot _ hf with h1 | h1
          · have := hfQ _ h1; omega
          · omega
        have nQ1 : ¬ Foot (w.heap.size + 2) ns' (Q + 1) := fun hf => by
          rcases h.foot _ hf with h1 | h1
          · have := hfQ _ h1; omega
          · omega
        have nR0 : ¬ Foot (w.heap.size + 2) ns' (w.heap.size + 1) := fun hf => by
          rcases h.foot _ hf with h1 | h1
          · exact nfN.2.1 h1
          · omega
        have nD : ¬ Foot (w.heap.size + 2) ns' D := fun hf => h.fR _ hf hRD
        have hlF : ∀ k, Foot (w.heap.size + 2) ns' k → w.heap.size ≤ k := fun k hk => by have := (h.tab.foot k hk).1; omega
        have HAD' : Calls Try.prog 12 #[.pointer (some ⟨w.heap.size + 2, 0, none⟩), .agg #[.string ⟨#[107]⟩, .int .u64 1125899906842624, .bool false, .string ⟨#[118]⟩], .int .i64 3] X (AddAll w.heap.size (w.heap.size + 2) ns' ⟨[107], 1125899906842624, false, [118]⟩ 3 X) := (add_all (⟨[107], 1125899906842624, false, [118]⟩ : Ver) 3 X h.tab (by omega) ⟨by simp, by simp, by simp, by simp⟩ (by omega))
        have HAD := Lib.hid HAD'
        clear HAD'
        have hn1 : ((ns.length : Int) == (ns.length : Int)) = true := by simp
        have hn2 : decide ((ns.length : Int) ≤ (ns'.length : Int)) = true := decide_eq_true (by omega)
        have hn3 : decide (ns.length ≤ ns'.length) = true := decide_eq_true hln
        have Hh := Lib.hid h
        clear h
        gi_wp2
        go_wp2_with (first
          | (go_at_call 15; (with_reducible refine HLN.out.mono ?_); rintro e w' ⟨rfl, rfl⟩)
          | (go_at_call 12; (with_reducible refine HAD.out.mono ?_); rintro e w6 ⟨⟨z, rfl, hz⟩, ns6, hd6, st6, a6, b6, g6⟩; have hz2 := hz (by decide) (by decide) (by decide); have x1 := (st6.kept.boxed nQ1 hcnt).cell; have x2 := (st6.kept.boxed nQ0 bWX).cell; have brW := st6.kept.boxed nR0 brX; have x3 := brW.cell; have x4 := brW.frozen; have x5 := brW.lt; clear hz a6 b6 g6 hd6))
        all_goals
          have hzz : (z == 0 || z == 7) = true := by rcases hz2 with rfl | rfl <;> rfl
          try rw [hzz]
          refine Sq.leaves_marks [D] _ (by simp) (fun E hE => ?_) (fun W' hk' => ⟨.bool true, ?_, rfl, ?_⟩)
          · obtain rfl : E = D := by simpa using hE
            exact (Below.heap_setCell _ _ _ _ (by simp; omega)).trans ((st6.kept.block E nD (Array.getElem?_eq_some_iff.1 hdf).1).trans hdf)
          · have c4 : W'.cell? ⟨w.heap.size + 1, 0, none⟩ = some (.bool true) := hk'.cell (by simp; omega) (brW.set _).cell
            simp [results, Try.results6, go_sem, c4]
          · have k0 : Sq.Kept (fun b => b < w.heap.size) w X := ⟨hbX.os, hbX.tape, hbX.output, hbX.size, fun k hk _ => hbX.block k hk⟩
            have k1 : Sq.Kept (fun b => b < w.heap.size) X w6 := st6.kept.less (fun b hb _ hf => by have : b < w.heap.size := hb; have := hlF _ hf; omega)
            have k2 : Sq.Kept (fun b => b < w.heap.size) w6 (w6.setCell ⟨w.heap.size + 1, 0, none⟩ (.bool true)) := Sq.Kept.setCell _ _ (by simp)
            exact (((k0.trans k1).trans k2).trans (hk'.less (fun b hb _ h => by simp at h; omega))).below (fun _ h => h) (Nat.le_refl _)
      case stop =>
        intro D R c pre X _ _ _ h _
        exact h.elim
end Md
end Go.Proofs.Ytgfpkbdinfdkfaa
