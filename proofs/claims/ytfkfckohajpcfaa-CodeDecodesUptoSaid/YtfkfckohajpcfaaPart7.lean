import Derived.Laws.Concat
import Derived.BigRegion
import Derived.Deep.RegionLaw
import Derived.Deep.DeepCutAuto
import Derived.Deep.Cut
import Derived.Deep.CutRange
import Derived.Deep.CutBlock
import Derived.Deep.RegionHeld3
import Derived.Test.YtfkfckohajpcfaaPart6
/-
  The law CodeCuts walked.
-/
namespace Go.Proofs.Ytfkfckohajpcfaa
open Go.RowKit
set_option linter.unusedSimpArgs false
set_option linter.unusedVariables false
namespace Co
theorem ext_take13 (l : Dat) (k : Nat) : (Cd.bs l).extract 0 k = Cd.bs (l.take k) := by
  have : ((Cd.bs l).extract 0 k).data.toList = l.take k := by
    rw [Lib.extract_data]; simp
  rw [← this]
theorem str_app13 (a b : Dat) : Cd.bs a ++ Cd.bs b = Cd.bs (a ++ b) := ByteArray.mk_append_mk ..

set_option maxRecDepth 100000 in
set_option maxHeartbeats 8000000 in
theorem codeCuts_law (p : Prog) (fv ov : Value) (n : Int) (s : ByteArray) (w : World) (hp : Pr w.heap.size w fv ov p ∧ ProgIn p) (h1 : -9223372036854775808 ≤ n) (h2 : n ≤ 9223372036854775807) (hs : s.size ≤ 1048576) :
    Calls Try.prog 9 #[.agg #[fv, ov], .int .i64 n, .string s] w fun e w' => e = .returned (.bool true) ∧ Below w.heap.size w w' := by
  obtain ⟨hP, hI⟩ := hp
  obtain ⟨l, rfl, hl⟩ := bs_of s
  rw [← hl] at hs
  have HEN := Lib.hid (fun W (hb : Below w.heap.size w W) => encode_any fv ov p W ((hP.below hb).wider hb.size) hI)
  obtain ⟨fa, fc, rfl, oa, oc, rfl⟩ := pr_form hP
  have hA : Below w.heap.size w (w.alloc (.cells #[.slice fa p.funcs.length fc, .slice oa p.opts.length oc] 27)) := (Below.refl _ _).alloc (Nat.le_refl _) _
  have oP := Ob.Obj.new w 27 [.slice fa p.funcs.length fc, .slice oa p.opts.length oc]
  have HS := Lib.hid (shown_any (w.alloc (.cells #[.slice fa p.funcs.length fc, .slice oa p.opts.length oc] 27)))
  rcases check_cases p with hbad | hgood
  · have HE := Lib.hid (show encP p = ([], 40) by unfold encP; rw [if_neg (by omega)])
    rw [HE.out] at HEN
    simp only at HEN
    clear hbad hI hP
    go_enter Try.func9, Try.ntmps9
    go_wp2_with (first
      | (go_at_call 10; (with_reducible refine HS.out.mono ?_); rintro e w1 ⟨rfl, hb1⟩; have hB1 := hA.trans (hb1.mono hA.size); have oP1 := oP.below hb1; have k0 := oP1.cell 0; have k1 := oP1.cell 1; simp at k0 k1)
      | (go_at_call 21; (with_reducible refine (HEN.out _ hB1).mono ?_); rintro e w2 ⟨rfl, hb2⟩; have hB2 := hB1.trans (hb2.mono hB1.size)))
    go_ret
    exact ⟨rfl, hB2⟩
  · have hc0 : (check p).1 = 0 := by rw [hgood]
    have hll := loadP_len (check_pok hI hc0)
    have hpos := loadP_pos p
    have HE := Lib.hid (show encP p = (loadP p, 0) by unfold encP; rw [if_pos hc0])
    rw [HE.out] at HEN
    simp only at HEN
    have hrb : -((loadP p).length : Int) < Int.tmod n ((loadP p).length : Int) ∧ Int.tmod n ((loadP p).length : Int) < ((loadP p).length : Int) :=
      ⟨Int.lt_tmod_of_pos _ (by omega), Int.tmod_lt_of_pos _ (by omega)⟩
    obtain ⟨k, hk, hkl⟩ : ∃ k : Nat, (k : Int) = (if Int.tmod n ((loadP p).length : Int) < 0 then Int.tmod n ((loadP p).length : Int) + ((loadP p).length : Int) else Int.tmod n ((loadP p).length : Int)) ∧ k < (loadP p).length := by
      generalize Int.tmod n ((loadP p).length : Int) = r at *
      split
      · exact ⟨(r + ((loadP p).length : Int)).toNat, by omega, by omega⟩
      · exact ⟨r.toNat, by omega, by omega⟩
    obtain ⟨c1, c2⟩ := dec_cut hI hc0 hkl
    obtain ⟨q, f, a, hd⟩ : ∃ q f a, dec ((loadP p).take k) = (q, f, a) := ⟨_, _, _, rfl⟩
    rw [hd] at c1 c2
    simp only at c1 c2
    have HD := Lib.hid (fun W => decode_at _ q f a hd W (by rw [List.length_take]; omega))
    have hdm := dec_enc hI hc0 l
    have hlp : (Cd.bs (loadP p)).size = (loadP p).length := rfl
    have hlpb : (((loadP p).length : Int) == 0) = false := by rw [beq_eq_false_iff_ne]; omega
    have hx := ext_take13 (loadP p) k
    have hki : (0 : Int) ≤ (k : Int) ∧ (k : Int) ≤ ((loadP p).length : Int) := by omega
    have hai : (a : Int) ≤ (k : Int) := by omega
    have HX := Lib.hid hx
    clear hx
    have hfb : (((f : Nat) : Int) != 0) = true := by simp; omega
    clear hc0 hgood HE hI hP c1 c2 hd
    generalize hlpg : loadP p = lp at *
    clear hlpg
    have q1 : ¬ 9223372036854775807 < lp.length := by omega
    have q2 : ¬ 9223372036854775807 < lp.length + l.length := by omega
    have hadd : ∀ w : World, (Op.stringOp .add (Cd.bs lp) (Cd.bs l)).run Try.prog w = .ok (.string (Cd.bs lp ++ Cd.bs l)) w := fun w => run_string_add_sum w _ _ (by show lp.length + l.length ≤ _; omega)
    by_cases hm : l = []
    · subst hm
      rw [if_pos rfl] at hdm
      have HDM := Lib.hid (fun W => decode_at (lp ++ []) p 0 0 hdm W (by rw [List.append_nil]; omega))
      rw [← str_app13] at HDM
      clear hdm
      by_cases hrn : Int.tmod n (lp.length : Int) < 0
      · rw [if_pos hrn] at hk
        have hx2 : (Int.tmod n (lp.length : Int) + (lp.length : Int)).toNat = k := by omega
        have HX2 := Lib.hid (show (Cd.bs lp).extract 0 (Int.tmod n (lp.length : Int) + (lp.length : Int)).toNat = Cd.bs (lp.take k) by rw [hx2]; exact HX.out)
        have hai2 : (a : Int) ≤ (Int.tmod n (lp.length : Int) + (lp.length : Int)) := by omega
        have hki2 : (0 : Int) ≤ (Int.tmod n (lp.length : Int) + (lp.length : Int)) ∧ (Int.tmod n (lp.length : Int) + (lp.length : Int)) ≤ (lp.length : Int) := by omega
        clear hx2 hk hai
        have tk := trivial
        go_enter Try.func9, Try.ntmps9
        go_wp2_with (first
          | (go_at_call 10; (with_reducible refine HS.out.mono ?_); rintro e w1 ⟨rfl, hb1⟩; have hB1 := hA.trans (hb1.mono hA.size); have oP1 := oP.below hb1; have k0 := oP1.cell 0; have k1 := oP1.cell 1; simp at k0 k1)
          | (go_at_call 21; (with_reducible refine (HEN.out _ hB1).mono ?_); rintro e w2 ⟨rfl, hb2⟩; have hB2 := hB1.trans (hb2.mono hB1.size))
          | (go_at_call 23; have _t := tk; clear _t tk; rw [HX2.out]; (with_reducible refine (HD.out _).mono ?_); rintro e w3 ⟨xa, ya, xc, yc, rfl, hP3, hb3⟩; have hB3 := hB2.trans (hb3.mono hB2.size); have HB4 := Lib.hid (hB3.alloc hB3.size (.cells #[.slice xa q.funcs.length xc, .slice ya q.opts.length yc] 27)); clear hP3)
          | (go_at_call 23; (with_reducible refine (HDM.out _).mono ?_); rintro e w6 ⟨za, ta, zc, tc, rfl, hP6, hb6⟩; have hB6 := HB4.out.trans (hb6.mono HB4.out.size); have HB7 := Lib.hid (hB6.alloc hB6.size (.cells #[.slice za p.funcs.length zc, .slice ta p.opts.length tc] 27)); clear hP6))
        go_ret
        exact ⟨rfl, HB7.out⟩
      · rw [if_neg hrn] at hk
        have hx2 : (Int.tmod n (lp.length : Int)).toNat = k := by omega
        have HX2 := Lib.hid (show (Cd.bs lp).extract 0 (Int.tmod n (lp.length : Int)).toNat = Cd.bs (lp.take k) by rw [hx2]; exact HX.out)
        have hai2 : (a : Int) ≤ (Int.tmod n (lp.length : Int)) := by omega
        have hki2 : (0 : Int) ≤ (Int.tmod n (lp.length : Int)) ∧ (Int.tmod n (lp.length : Int)) ≤ (lp.length : Int) := by omega
        clear hx2 hk hai
        have tk := trivial
        go_enter Try.func9, Try.ntmps9
        go_wp2_with (first
          | (go_at_call 10; (with_reducible refine HS.out.mono ?_); rintro e w1 ⟨rfl, hb1⟩; have hB1 := hA.trans (hb1.mono hA.size); have oP1 := oP.below hb1; have k0 := oP1.cell 0; have k1 := oP1.cell 1; simp at k0 k1)
          | (go_at_call 21; (with_reducible refine (HEN.out _ hB1).mono ?_); rintro e w2 ⟨rfl, hb2⟩; have hB2 := hB1.trans (hb2.mono hB1.size))
          | (go_at_call 23; have _t := tk; clear _t tk; rw [HX2.out]; (with_reducible refine (HD.out _).mono ?_); rintro e w3 ⟨xa, ya, xc, yc, rfl, hP3, hb3⟩; have hB3 := hB2.trans (hb3.mono hB2.size); have HB4 := Lib.hid (hB3.alloc hB3.size (.cells #[.slice xa q.funcs.length xc, .slice ya q.opts.length yc] 27)); clear hP3)
          | (go_at_call 23; (with_reducible refine (HDM.out _).mono ?_); rintro e w6 ⟨za, ta, zc, tc, rfl, hP6, hb6⟩; have hB6 := HB4.out.trans (hb6.mono HB4.out.size); have HB7 := Lib.hid (hB6.alloc hB6.size (.cells #[.slice za p.funcs.length zc, .slice ta p.opts.length tc] 27)); clear hP6))
        go_ret
        exact ⟨rfl, HB7.out⟩
    · rw [if_neg hm] at hdm
      have HDM := Lib.hid (fun W => decode_at (lp ++ l) empty 3 lp.length hdm W (by rw [List.length_append]; omega))
      rw [← str_app13] at HDM
      clear hdm
      have hl0 : (l == []) = false := by simpa using hm
      have hle : l.isEmpty = false := by simpa using hm
      have hsl : (Cd.bs l).size = l.length := rfl
      have hsl0 : ((l.length : Int) == 0) = false := by
        have := List.length_pos_iff.2 hm
        rw [beq_eq_false_iff_ne]; omega
      by_cases hrn : Int.tmod n (lp.length : Int) < 0
      · rw [if_pos hrn] at hk
        have hx2 : (Int.tmod n (lp.length : Int) + (lp.length : Int)).toNat = k := by omega
        have HX2 := Lib.hid (show (Cd.bs lp).extract 0 (Int.tmod n (lp.length : Int) + (lp.length : Int)).toNat = Cd.bs (lp.take k) by rw [hx2]; exact HX.out)
        have hai2 : (a : Int) ≤ (Int.tmod n (lp.length : Int) + (lp.length : Int)) := by omega
        have hki2 : (0 : Int) ≤ (Int.tmod n (lp.length : Int) + (lp.length : Int)) ∧ (Int.tmod n (lp.length : Int) + (lp.length : Int)) ≤ (lp.length : Int) := by omega
        clear hx2 hk hai
        have tk := trivial
        go_enter Try.func9, Try.ntmps9
        go_wp2_with (first
          | (go_at_call 10; (with_reducible refine HS.out.mono ?_); rintro e w1 ⟨rfl, hb1⟩; have hB1 := hA.trans (hb1.mono hA.size); have oP1 := oP.below hb1; have k0 := oP1.cell 0; have k1 := oP1.cell 1; simp at k0 k1)
          | (go_at_call 21; (with_reducible refine (HEN.out _ hB1).mono ?_); rintro e w2 ⟨rfl, hb2⟩; have hB2 := hB1.trans (hb2.mono hB1.size))
          | (go_at_call 23; have _t := tk; clear _t tk; rw [HX2.out]; (with_reducible refine (HD.out _).mono ?_); rintro e w3 ⟨xa, ya, xc, yc, rfl, hP3, hb3⟩; have hB3 := hB2.trans (hb3.mono hB2.size); have HB4 := Lib.hid (hB3.alloc hB3.size (.cells #[.slice xa q.funcs.length xc, .slice ya q.opts.length yc] 27)); clear hP3)
          | (go_at_call 23; (with_reducible refine (HDM.out _).mono ?_); rintro e w6 ⟨za, ta, zc, tc, rfl, hP6, hb6⟩; have hB6 := HB4.out.trans (hb6.mono HB4.out.size); have HB7 := Lib.hid (hB6.alloc hB6.size (.cells #[.slice za (empty : Prog).funcs.length zc, .slice ta (empty : Prog).opts.length tc] 27)); clear hP6))
        go_ret
        exact ⟨rfl, HB7.out⟩
      · rw [if_neg hrn] at hk
        have hx2 : (Int.tmod n (lp.length : Int)).toNat = k := by omega
        have HX2 := Lib.hid (show (Cd.bs lp).extract 0 (Int.tmod n (lp.length : Int)).toNat = Cd.bs (lp.take k) by rw [hx2]; exact HX.out)
        have hai2 : (a : Int) ≤ (Int.tmod n (lp.length : Int)) := by omega
        have hki2 : (0 : Int) ≤ (Int.tmod n (lp.length : Int)) ∧ (Int.tmod n (lp.length : Int)) ≤ (lp.length : Int) := by omega
        clear hx2 hk hai
        have tk := trivial
        go_enter Try.func9, Try.ntmps9
        go_wp2_with (first
          | (go_at_call 10; (with_reducible refine HS.out.mono ?_); rintro e w1 ⟨rfl, hb1⟩; have hB1 := hA.trans (hb1.mono hA.size); have oP1 := oP.below hb1; have k0 := oP1.cell 0; have k1 := oP1.cell 1; simp at k0 k1)
          | (go_at_call 21; (with_reducible refine (HEN.out _ hB1).mono ?_); rintro e w2 ⟨rfl, hb2⟩; have hB2 := hB1.trans (hb2.mono hB1.size))
          | (go_at_call 23; have _t := tk; clear _t tk; rw [HX2.out]; (with_reducible refine (HD.out _).mono ?_); rintro e w3 ⟨xa, ya, xc, yc, rfl, hP3, hb3⟩; have hB3 := hB2.trans (hb3.mono hB2.size); have HB4 := Lib.hid (hB3.alloc hB3.size (.cells #[.slice xa q.funcs.length xc, .slice ya q.opts.length yc] 27)); clear hP3)
          | (go_at_call 23; (with_reducible refine (HDM.out _).mono ?_); rintro e w6 ⟨za, ta, zc, tc, rfl, hP6, hb6⟩; have hB6 := HB4.out.trans (hb6.mono HB4.out.size); have HB7 := Lib.hid (hB6.alloc hB6.size (.cells #[.slice za (empty : Prog).funcs.length zc, .slice ta (empty : Prog).opts.length tc] 27)); clear hP6))
        go_ret
        exact ⟨rfl, HB7.out⟩
end Co
end Go.Proofs.Ytfkfckohajpcfaa

/-
  The document's copy of a program (tapestryref13.Copy).
-/
namespace Go.Proofs.Ytfkfckohajpcfaa
open Go.RowKit
set_option linter.unusedSimpArgs false
set_option linter.unusedVariables false
namespace Co
theorem app_none {P : Program} (t ty e : TypeId) (i : TypeInfo) (ht : P.underlying t = some (.slice e)) (hi : P.info? e = some i) (a : Option Addr) (c : Nat) (W : World) :
    (Builtin.append_ #[t, t] ty #[.slice none 0 0, .slice a 0 c]).run P W = .ok (.slice none 0 0) W := by
  cases a <;> simp [Builtin.append_, run_underlying ht, sizeOf, typeInfo, hi, Builtin.lenOf, Builtin.firstCells, loadCells, loadCellsFrom]
section
variable {P : Program} {w : World}
theorem wpList_app0 {ops : Array Oper} {rest : List Oper} {o : Oper} {a : Act} {Q : Exit → Act → World → Prop} (hgd : o.guard = none) (sl x : Operand) (t : TypeId)
    (ho : o.op = .call { callee := .builtin .append, args := #[sl, x], argTypes := #[t, t] })
    (e : TypeId) (i : TypeInfo) (ht : P.underlying t = some (.slice e)) (hi : P.info? e = some i) (hs : a.eval sl = .slice none 0 0) (aa : Option Addr) (c : Nat) (hx : a.eval x = .slice aa 0 c)
    (h : Go.wpList P ops Q rest (a.put o.dst (.slice none 0 0)) w) : Go.wpList P ops Q (o :: rest) a w := by
  refine wpList_plain hgd fun K hK => ?_
  have hr := app_none (P := P) t o.type e i ht hi aa c w
  unfold Oper.wp execOp
  simp only [ho, resolve, invoke, builtin, Sem.run_bind, Sem.run_pure, Result.andThen_ok, List.map_toArray, List.map_cons, List.map_nil, hs, hx, hr]
  exact hK _ _ h
theorem step_app0 {ops : Array Oper} {o : Oper} {a : Act} {K : Act → World → Prop} {Q : Exit → Act → World → Prop} {E : Prop} (hgd : o.guard = none) (sl x : Operand) (t : TypeId)
    (ho : o.op = .call { callee := .builtin .append, args := #[sl, x], argTypes := #[t, t] })
    (e : TypeId) (i : TypeInfo) (ht : P.underlying t = some (.slice e)) (hi : P.info? e = some i) (hs : a.eval sl = .slice none 0 0) (aa : Option Addr) (c : Nat) (hx : a.eval x = .slice aa 0 c)
    (h : K (a.put o.dst (.slice none 0 0)) w) : if Region.wanted o (yielded ops a.tmps) = true then Oper.wp P o a w K Q else E := by
  have hw : Region.wanted o (yielded ops a.tmps) = true := by simp [Region.wanted, hgd]
  rw [if_pos hw]
  have hr := app_none (P := P) t o.type e i ht hi aa c w
  unfold Oper.wp execOp
  simp only [ho, resolve, invoke, builtin, Sem.run_bind, Sem.run_pure, Result.andThen_ok, List.map_toArray, List.map_cons, List.map_nil, hs, hx, hr]
  exact h
end
theorem flat_len_eq {α : Type} {f : α → List Value} {sz : Nat} (hf : ∀ x, (f x).length = sz) : ∀ L : List α, (L.flatMap f).length = L.length * sz
  | [] => by simp
  | x :: r => by rw [List.flatMap_cons, List.length_append, hf, flat_len_eq hf r, List.length_cons, Nat.add_mul]; omega
theorem flat_cells {α : Type} {f : α → List Value} {sz : Nat} (hsz : 0 < sz) (hf : ∀ x, (f x).length = sz) {W : World} {b off : Nat} {L : List α} (hc : ∀ j (h : j < L.length) k, k < sz → W.cell? ⟨b, off + j * sz + k, none⟩ = (f L[j])[k]?) :
    ∀ j u, (L.flatMap f)[j]? = some u → W.cell? ((⟨b, off, none⟩ : Addr).add j) = some u := by
  intro j u hj
  rw [Gn.add_of]
  have hlen : (L.flatMap f).length = L.length * sz := flat_len_eq hf L
  have hlt : j < L.length * sz := by
    have := (List.getElem?_eq_some_iff.1 hj).1
    omega
  have hq : j / sz < L.length := (Nat.div_lt_iff_lt_mul hsz).2 hlt
  have hr : j % sz < sz := Nat.mod_lt _ hsz
  have h1 := hc (j / sz) hq (j % sz) hr
  have h2 := Gn.flatten_get (sz := sz) (L.map f) (fun i hi => by simp [hf]) (j / sz) (by simpa using hq) (j % sz) hr
  have e : j / sz * sz + j % sz = j := by rw [Nat.mul_comm]; exact Nat.div_add_mod j sz
  rw [e, ← List.flatMap_def] at h2
  rw [show off + j = off + j / sz * sz + j % sz by omega, h1, ← hj, h2]
  simp
theorem PD.other {rc : List Value} {ty : TypeId} {w : World} {t bb : Nat} {LU : List (Fn × Value)} {O : List Opt} {fv ov : Value} {rs : List Value} {W : World} (h : PD rc ty w t bb LU O fv ov rs W) {b : Nat} (h0 : w.heap.size < b) (h1 : b ≠ t) (h2 : b ≠ bb) (hF : fv.ownBlock ≠ some b) (hE : ∀ x ∈ LU, x.2.ownBlock ≠ some b) (hO : ov.ownBlock ≠ some b) (j : Nat) (v : Value) : PD rc ty w t bb LU O fv ov rs (W.setCell ⟨b, j, none⟩ v) :=
  ⟨h.box.other (p := ⟨b, j, none⟩) h2.symm _, Ob.row_other h.rowF (p := ⟨b, j, none⟩) hF _, fun x hx => Ob.row_other (h.each x hx) (p := ⟨b, j, none⟩) (hE x hx) _, Ob.row_other h.rowO (p := ⟨b, j, none⟩) hO _, Ob.Obj.other h.tk (p := ⟨b, j, none⟩) h1.symm _, Ob.Obj.other h.res (p := ⟨b, j, none⟩) (by show w.heap.size ≠ b; omega) _, h.be.setCell (p := ⟨b, j, none⟩) (by show w.heap.size ≤ b; omega) _, h.lt, h.tl, h.nb, h.n1, h.n2, h.n3⟩
theorem below_none {W W2 : World} (hg : W.grownBy W2 (Value.slice none 0 0).ownBlock) : Below W.heap.size W W2 :=
  (Sq.Kept.grown (T := fun _ => True) hg (fun r hr => by simp [Value.ownBlock] at hr)).below (fun _ _ => trivial) (Nat.le_refl _)
/-- amid a round: the function's box, its instructions copied -/
def CpRnd (rc : List Value) (w : World) (LU : List (Fn × Value)) (O : List Opt) (fv ov : Value) (b : Nat) (f : Fn) (W : World) : Prop :=
  ∃ (a : Option Addr) (c : Nat), PD rc 27 w (w.heap.size + 1) (w.heap.size + 2) LU O fv ov NL W ∧ Ob.Obj W b 52 [.int .i64 f.kind, .int .i64 f.name, .slice a f.ops.length c] ∧ W.ownsRow w.heap.size 59 2 (.slice a f.ops.length c) f.ops.length (ocs f.ops)
/-- behind the copy of the options -/
def CpMid (rc : List Value) (w : World) (O : List Opt) (W : World) : Prop := ∃ ov, PD rc 27 w (w.heap.size + 1) (w.heap.size + 2) [] O (.slice none 0 0) ov NL W

set_option maxRecDepth 100000 in
set_option maxHeartbeats 16000000 in
theorem copyR_any (fv ov : Value) (p : Prog) (w : World) (hP : Pr w.heap.size w fv ov p) (hI : ProgIn p) :
    Calls Try.prog 15 #[.agg #[fv, ov]] w fun r w' => ∃ fv2 ov2, r = .returned (.agg #[fv2, ov2]) ∧ Pr w'.heap.size w' fv2 ov2 p ∧ Below w.heap.size w w' := by
  obtain ⟨i0, hi0, hz0, hz1, hz2⟩ := info_parts info_Func13
  obtain ⟨j0, ji0, jz0, jz1, jz2⟩ := info_parts info_Opts13
  obtain ⟨k0, ki0, kz0, kz1, kz2⟩ := info_parts info_Op13
  obtain ⟨⟨fa, fc, fb, fo, rfl, ha, hcells⟩, ⟨oa, oc, ob, oo, rfl, hoa, hob⟩⟩ := hP
  have hL := hI.nf
  have hLO := hI.no
  have HLN := Lib.hid (fun q (hq : q < p.funcs.length) => (hI.fns p.funcs[q] (List.getElem_mem hq)).2.2.1)
  have HOC := Lib.hid (fun W (hb : Below w.heap.size w W) (h0 : 0 < p.opts.length) => flat_cells (f := optC) (sz := 11) (by decide) (fun _ => rfl) (W := W) (b := ob) (off := oo) (L := p.opts) (fun j hj k hk => (hb.cell (p := ⟨ob, oo + j * 11 + k, none⟩) (hoa h0).2).trans (hob j hj k hk)))
  have HC := Lib.hid hcells
  have HA := Lib.hid ha
  have HOA := Lib.hid hoa
  have hlo : (p.opts.flatMap optC).length = p.opts.length * 11 := flat_len_eq (f := optC) (sz := 11) (fun _ => rfl) _
  clear hcells hob hI ha hoa
  have hA : Below w.heap.size w (((w.alloc (.cells #[.slice fa p.funcs.length fc, .slice oa p.opts.length oc] 27)).alloc (.cells #[.slice none 0 0, .slice none 0 0] 27)).alloc (.cells #[.slice none 0 0, .slice none 0 0] 27)) := (((Below.refl _ _).alloc (Nat.le_refl _) _).alloc (by simp) _).alloc (by simp; omega) _
  have oP := ((Ob.Obj.new w 27 [.slice fa p.funcs.length fc, .slice oa p.opts.length oc]).alloc (.cells #[.slice none 0 0, .slice none 0 0] 27)).alloc (.cells #[.slice none 0 0, .slice none 0 0] 27)
  have oR := (Ob.Obj.new (w.alloc (.cells #[.slice fa p.funcs.length fc, .slice oa p.opts.length oc] 27)) 27 [.slice none 0 0, .slice none 0 0]).alloc (.cells #[.slice none 0 0, .slice none 0 0] 27)
  have oO := Ob.Obj.new ((w.alloc (.cells #[.slice fa p.funcs.length fc, .slice oa p.opts.length oc] 27)).alloc (.cells #[.slice none 0 0, .slice none 0 0] 27)) 27 [.slice none 0 0, .slice none 0 0]
  rw [show (w.alloc (.cells #[.slice fa p.funcs.length fc, .slice oa p.opts.length oc] 27)).heap.size = w.heap.size + 1 by simp] at oR
  rw [show ((w.alloc (.cells #[.slice fa p.funcs.length fc, .slice oa p.opts.length oc] 27)).alloc (.cells #[.slice none 0 0, .slice none 0 0] 27)).heap.size = w.heap.size + 2 by simp] at oO
  have HS0 := Lib.hid (show PD [.slice fa p.funcs.length fc, .slice oa p.opts.length oc] 27 w (w.heap.size + 1) (w.heap.size + 2) [] [] (.slice none 0 0) (.slice none 0 0) NL _ from ⟨oO, World.ownsRow_nil _ _ _ _, fun x hx => (by cases hx), World.ownsRow_nil _ _ _ _, oR, oP, hA, by omega, by omega, by omega, by decide, by decide, by decide⟩)
  clear hA oP oR oO
  go_enter Try.func15, Try.ntmps15
  obtain ⟨c0, c1, c2, c3, c4, c5⟩ := HS0.out.cells
  have p0 := HS0.out.res.cell 0
  have p1 := HS0.out.res.cell 1
  simp at p0 p1
  go_upto_region 2 with fail
  generalize hOO : p.opts = O at *
  have HOO := Lib.hid hOO
  clear hOO
  go_cut [] from 7 to 12 (fun wx => CpMid [.slice fa p.funcs.length fc, .slice oa O.length oc] w O wx)
  case first =>
    by_cases h0 : 0 < O.length
    · obtain ⟨rfl, hoa⟩ := HOA.out h0
      have hnw := HOC.out _ HS0.out.be h0
      go_wp2_with (at_builtin; refine wpList_append_lies _ rfl _ _ 25 rfl w.heap.size 54 j0 _ 11 88 Try.underlying25 ji0 jz0 jz1 jz2 rfl (by decide) (.slice none 0 0) 0 [] rfl (World.ownsRow_nil _ _ _ _) ⟨ob, oo, none⟩ O.length oc (O.flatMap optC) rfl hlo hnw (by intro u hu; obtain ⟨x, hx, hu⟩ := List.mem_flatMap.1 hu; unfold optC at hu; simp only [List.mem_cons, List.not_mem_nil, or_false] at hu; rcases hu with rfl | rfl | rfl | rfl | rfl | rfl | rfl | rfl | rfl | rfl | rfl <;> rfl) h0 (by unfold maxLen; omega) (by omega) (by have := HS0.out.be.size; simp at *; omega) _ rfl ?_; intro g cap w6 hown hgrow hat hlt; rw [Nat.zero_add, List.nil_append] at hown; have hob6 := HS0.out.box.grown hgrow (by simp [Value.ownBlock]); have d1 := hob6.cell 1; have f1 := hob6.frozen 1; simp at d1; have HS1 := Lib.hid (HS0.out.setO O hown hgrow); clear hown hgrow hob6)
      go_meet
      exact ⟨_, HS1.out⟩
    · obtain rfl : O = [] := List.eq_nil_of_length_eq_zero (by omega)
      go_wp2_with (at_builtin; refine wpList_app0 rfl _ _ 25 rfl 54 j0 Try.underlying25 ji0 rfl oa oc rfl ?_)
      go_meet
      exact ⟨_, HS0.out⟩
  case rest =>
  obtain ⟨ov, hS⟩ := hcut
  have HS1 := Lib.hid hS
  clear hS HS0 HOC HOA hlo c0 c1 c2 c3 c4 c5 p0 p1
  obtain ⟨xo, co, rfl, _⟩ := Sq.row_cases HS1.out.rowO
  go_wp2_with fail
  go_loopw [4] (fun i wr => ∃ (q : Nat) (LU : List (Fn × Value)) (a : Option Addr) (c : Nat), q ≤ p.funcs.length ∧ i = .int .i64 (q : Int) ∧ PD [.slice fa p.funcs.length fc, .slice oa O.length oc] 27 w (w.heap.size + 1) (w.heap.size + 2) LU O (.slice a LU.length c) (.slice xo O.length co) NL wr ∧ Hid (LU.map (·.1) = p.funcs.take q) ∧ LU.length ≤ q) (fun i _ => p.funcs.length - (intOf i).toNat)
  case atStart => exact ⟨0, [], none, 0, Nat.zero_le _, rfl, HS1.out, rfl, Nat.le_refl _⟩
  case round =>
    clear HS1
    obtain ⟨q, LU, ao, cap, hq, rfl, hS, hLU, hll⟩ := hrel
    obtain ⟨wo, rfl⟩ : ∃ wo : World, wo = wr := ⟨_, rfl⟩
    obtain ⟨c0, c1, c2, c3, c4, c5⟩ := hS.cells
    have p0 := hS.res.cell 0
    simp at p0
    have hpz := hS.res.lt
    have hbs := hS.be.size
    by_cases hlt : q < p.funcs.length
    · obtain ⟨rfl, hfb⟩ := HA.out (by omega)
      obtain ⟨d0, d1, u, d2, pa, pc, pb, po, rfl, hu1, hu2⟩ := HC.out q hlt
      replace d0 := (hS.be.cell (p := ⟨fb, fo + q * 3, none⟩) hfb).trans d0
      replace d1 := (hS.be.cell (p := ⟨fb, fo + q * 3 + 1, none⟩) hfb).trans d1
      replace d2 := (hS.be.cell (p := ⟨fb, fo + q * 3 + 2, none⟩) hfb).trans d2
      have hi1 : (0 : Int) ≤ (q : Int) ∧ (q : Int) < (p.funcs.length : Int) := by omega
      have hwb : fb < wo.heap.size := by omega
      have hln := HLN.out q hlt
      have HU1 := Lib.hid hu1
      have HU2 := Lib.hid hu2
      have HTK := Lib.hid (show LU.map (·.1) ++ [p.funcs[q]] = p.funcs.take (q + 1) by rw [hLU.out, List.take_succ_eq_append_getElem hlt])
      clear hu1 hu2 hLU
      generalize p.funcs[q] = f at *
      obtain ⟨kind, name, ops⟩ := f
      simp only at d0 d1 d2 HU1 HU2 hln
      have HS := Lib.hid hS
      clear hS
      go_wp2_with fail
      go_big_region
      all_goals (try go_wp2_with fail)
      have hS2 := HS.out.below ((Below.refl wo.heap.size wo).alloc (Nat.le_refl _) (.cells #[.int .i64 kind, .int .i64 name, .slice none 0 0] 52)).drew
      have oF := Ob.Obj.new wo 52 [.int .i64 kind, .int .i64 name, .slice none 0 0]
      have hbn : w.heap.size + 2 < wo.heap.size := HS.out.cells.z
      have hS3 := hS2.below (Below.refl _ _).drew
      go_upto_region 7 with fail
      go_cut [] from 33 to 42 (fun wx => CpRnd [.slice (some ⟨fb, fo, none⟩) p.funcs.length fc, .slice oa O.length oc] w LU O (.slice ao LU.length cap) (.slice xo O.length co) wo.heap.size ⟨kind, name, ops⟩ wx)
      case first =>
        have hnF : (Value.slice ao LU.length cap).ownBlock ≠ some wo.heap.size := fun e => by
          have := (Ob.row_lt HS.out.rowF e).2
          omega
        have hnE : ∀ x ∈ LU, x.2.ownBlock ≠ some wo.heap.size := fun x hx => oF.drew.not_row (show 52 ≠ 59 by decide) (hS2.each x hx)
        have hnO : (Value.slice xo O.length co).ownBlock ≠ some wo.heap.size := oF.drew.not_row (show 52 ≠ 54 by decide) hS2.rowO
        have HN := Lib.hid hnE
        clear hnE
        by_cases h0 : 0 < ops.length
        · obtain ⟨rfl, hpb⟩ := HU1.out h0
          have hoc : (ocs ops).length = ops.length * 2 := flat_len_eq (f := oC) (sz := 2) (fun _ => rfl) ops
          have hpw : pb < wo.heap.size := by omega
          have hnw : ∀ W, Below w.heap.size w W → ∀ j u, (ocs ops)[j]? = some u → W.cell? ((⟨pb, po, none⟩ : Addr).add j) = some u := fun W hb => flat_cells (f := oC) (sz := 2) (by decide) (fun _ => rfl) (fun j hj k hk => by
            obtain ⟨g1, g2⟩ := HU2.out j hj
            match k, hk with
            | 0, _ => exact (hb.cell (p := ⟨pb, po + j * 2, none⟩) hpb).trans g1
            | 1, _ => exact (hb.cell (p := ⟨pb, po + j * 2 + 1, none⟩) hpb).trans g2)
          have HNW := Lib.hid (hnw _ hS2.be)
          clear hnw
          refine wp_region_noPanic ?_
          go_region_law (refine step_append_lies _ (by rfl) _ _ _ (by rfl) w.heap.size 59 k0 _ 2 16 Try.underlying50 ki0 kz0 kz1 kz2 rfl (by omega) (.slice none 0 0) 0 [] (by rfl) (World.ownsRow_nil _ _ _ _) ⟨pb, po, none⟩ ops.length pc (ocs ops) (by rfl) hoc HNW.out (by intro u hu; unfold ocs at hu; obtain ⟨x, hx, hu⟩ := List.mem_flatMap.1 hu; unfold oC at hu; simp only [List.mem_cons, List.not_mem_nil, or_false] at hu; rcases hu with rfl | rfl <;> rfl) h0 (by unfold maxLen; omega) (by omega) (by simp; omega) (wo.heap.size + 1) (by simp) ?_; intro g cap6 w6 hown hgrow hat hlt6; rw [Nat.zero_add, List.nil_append] at hown; have hof6 : Ob.Obj w6 wo.heap.size 52 [.int .i64 kind, .int .i64 name, .slice none 0 0] := (by refine Ob.Obj.grown ?_ hgrow (by simp [Value.ownBlock]); exact oF); have d6 := hof6.cell 2; have f6 := hof6.frozen 2; simp at d6; have HF6 := Lib.hid hof6; have HS6 : Hid (PD [.slice (some ⟨fb, fo, none⟩) p.funcs.length fc, .slice oa O.length oc] 27 w (w.heap.size + 1) (w.heap.size + 2) LU O (.slice ao LU.length cap) (.slice xo O.length co) NL w6) := (by first | exact hS3.below (below_none hgrow) | exact hS2.below (below_none hgrow)); have HO6 := Lib.hid hown; clear hown hgrow hof6)
          all_goals refine NoPanic.normal ?_
          all_goals (try go_wp2_with fail)
          all_goals go_meet
          all_goals refine ⟨_, _, HS6.out.other (b := wo.heap.size) (by omega) (by omega) (by omega) hnF HN.out hnO 2 _, ?_, Ob.row_other HO6.out (p := ⟨wo.heap.size, 2, none⟩) (HF6.out.not_row (by decide) HO6.out) _⟩
          all_goals
            have := HF6.out.set 2 (.slice (some ⟨g, 0, none⟩) ops.length cap6)
            simpa using this
        · obtain rfl : ops = [] := List.eq_nil_of_length_eq_zero (by omega)
          simp only [List.length_nil] at d2
          have HOF := Lib.hid oF
          refine wp_region_noPanic ?_
          go_region_law (refine step_app0 (by rfl) _ _ 50 (by rfl) 59 k0 Try.underlying50 ki0 (by rfl) pa pc (by rfl) ?_)
          all_goals refine NoPanic.normal ?_
          all_goals (try go_wp2_with fail)
          all_goals go_meet
          all_goals exact ⟨none, 0, by first | exact hS3 | exact hS2, HOF.out, World.ownsRow_nil _ _ _ _⟩
      case rest =>
        obtain ⟨a8, cp8, hS8, oF8, hr8⟩ := hcut
        clear hS2 oF hS3 c0 c1 c2 c3 c4 c5 p0 d0 d1 d2 HU1 HU2 HS hpz
        simp only at oF8 hr8
        obtain ⟨c0, c1, c2, c3, c4, c5⟩ := hS8.cells
        have f0 := oF8.cell 0
        have f1 := oF8.cell 1
        have f2 := oF8.cell 2
        simp at f0 f1 f2
        have hz8 := hS8.be.size
        have HS8 := Lib.hid hS8
        have HR8 := Lib.hid hr8
        clear hS8 hr8
        go_wp2_with (at_builtin; refine wpList_append_lies _ rfl _ _ 24 rfl w.heap.size 52 i0 _ 3 40 Try.underlying24 hi0 hz0 hz1 hz2 rfl (by decide) (.slice ao LU.length cap) LU.length _ rfl (HS8.out.rowF.alloc _) ⟨wc.heap.size, 0, none⟩ 1 1 [.int .i64 kind, .int .i64 name, .slice a8 ops.length cp8] rfl rfl (World.news_of_block (cs := #[.int .i64 kind, .int .i64 name, .slice a8 ops.length cp8]) (t := 52) (fr := (0, 0)) (heap_alloc_new wc _)) (by simp [Value.oneCell']) (by omega) (by unfold maxLen; omega) (by omega) (by simp; omega) (wc.heap.size + 1) (by simp) ?_; intro g cap9 w9 hown hgrow hat hlt9; have HS9 := Lib.hid (HS8.out.below ((Below.refl wc.heap.size wc).alloc (Nat.le_refl _) (.cells #[.int .i64 kind, .int .i64 name, .slice a8 ops.length cp8] 52))); have hob := HS9.out.box.grown hgrow (HS9.out.box.not_row (by decide) HS9.out.rowF); have c9 := hob.cell 0; have f9 := hob.frozen 0; simp at c9; have HS10 := Lib.hid (HS9.out.addF ⟨kind, name, ops⟩ (.slice a8 ops.length cp8) (HR8.out.alloc _) hown hgrow); clear hown hgrow hob)
        go_roundw
        case rel => exact ⟨q + 1, LU ++ [(⟨kind, name, ops⟩, .slice a8 ops.length cp8)], _, _, by omega, by go_num, (by simpa using HS10.out), (by show List.map _ _ = _; rw [List.map_append]; exact HTK.out), by rw [List.length_append, List.length_singleton]; omega⟩
        case measure => simp [intOf]; omega
    · obtain rfl : q = p.funcs.length := by omega
      have HF := Lib.hid (show (⟨LU.map (·.1), O⟩ : Prog) = ⟨p.funcs, O⟩ by rw [hLU.out, List.take_length])
      have r0 := hS.tk.cell 0
      have r1 := hS.tk.cell 1
      have g0 := hS.tk.frozen 0
      have g1 := hS.tk.frozen 1
      have rz := hS.tk.lt
      simp at r0 r1
      have HS := Lib.hid hS
      clear hS
      go_wp2_with fail
      refine bodyPost_ret (v := .agg #[.slice ao LU.length cap, .slice xo O.length co]) (by simp [results, Try.results15, go_sem, r0, r1, rz]) rfl ?_
      refine ⟨_, _, rfl, ?_, (HS.out.be.setCell (p := ⟨w.heap.size + 1, 0, none⟩) (by show w.heap.size ≤ w.heap.size + 1; omega) _).setCell (p := ⟨w.heap.size + 1, 1, none⟩) (by show w.heap.size ≤ w.heap.size + 1; omega) _⟩
      have := HS.out.tk2 (.slice ao LU.length cap) (.slice xo O.length co)
      rw [HF.out] at this
      have e : p = ⟨p.funcs, O⟩ := by rw [← HOO.out]
      rw [← e] at this
      exact this
end Co
end Go.Proofs.Ytfkfckohajpcfaa

/-
  The law CodeChecks walked.
-/
namespace Go.Proofs.Ytfkfckohajpcfaa
open Go.RowKit
set_option linter.unusedSimpArgs false
set_option linter.unusedVariables false
namespace Co
theorem pr_formD {B : Nat} {W : World} {fv ov : Value} {p : Prog} (h : Pr B W fv ov p) : ∃ a c, fv = .slice a p.funcs.length c ∧ ∃ a2 c2, ov = .slice a2 p.opts.length c2 := by
  obtain ⟨⟨a, c, _, _, h1, _⟩, ⟨a2, c2, _, _, h2, _⟩⟩ := h
  exact ⟨a, c, h1, a2, c2, h2⟩

set_option maxRecDepth 100000 in
set_option maxHeartbeats 8000000 in
theorem codeChecks_law (p : Prog) (fv ov : Value) (w : World) (hp : Pr w.heap.size w fv ov p ∧ ProgIn p) :
    Calls Try.prog 4 #[.agg #[fv, ov]] w fun e w' => e = .returned (.bool true) ∧ Below w.heap.size w w' := by
  obtain ⟨hP, hI⟩ := hp
  have HP := Lib.hid (fun W (hb : Below w.heap.size w W) => (hP.below hb).wider hb.size)
  have HCO := Lib.hid (fun W (hb : Below w.heap.size w W) => copyR_any fv ov p W ((hP.below hb).wider hb.size) hI)
  have HCR := Lib.hid (fun W (hb : Below w.heap.size w W) => checkR_any fv ov p W ((hP.below hb).wider hb.size) hI)
  have HCK := Lib.hid (fun fv2 ov2 W (h : Pr W.heap.size W fv2 ov2 p) => check_any fv2 ov2 p W h hI)
  have HSA := Lib.hid (fun fv2 ov2 fv3 ov3 W (h2 : Pr W.heap.size W fv2 ov2 p) (h3 : Pr W.heap.size W fv3 ov3 p) => sameR_any fv2 ov2 fv3 ov3 p W h2 h3 hI)
  obtain ⟨fa, fc, rfl, oa, oc, rfl⟩ := pr_formD hP
  have hA : Below w.heap.size w (w.alloc (.cells #[.slice fa p.funcs.length fc, .slice oa p.opts.length oc] 27)) := (Below.refl _ _).alloc (Nat.le_refl _) _
  have oP := Ob.Obj.new w 27 [.slice fa p.funcs.length fc, .slice oa p.opts.length oc]
  have HS := Lib.hid (shown_any (w.alloc (.cells #[.slice fa p.funcs.length fc, .slice oa p.opts.length oc] 27)))
  obtain ⟨⟨x, y, z⟩, hxyz⟩ : ∃ r, check p = r := ⟨_, rfl⟩
  rw [hxyz] at HCR HCK
  unfold chkV at HCR HCK
  simp only at HCR HCK
  clear hxyz hP hI
  go_enter Try.func4, Try.ntmps4
  go_wp2_with (first
    | (go_at_call 10; (with_reducible refine HS.out.mono ?_); rintro e w1 ⟨rfl, hb1⟩; have hB1 := hA.trans (hb1.mono hA.size); have oP1 := oP.below hb1; have k0 := oP1.cell 0; have k1 := oP1.cell 1; simp at k0 k1)
    | (go_at_call 15; (with_reducible refine (HCO.out _ hB1).mono ?_); rintro e w2 ⟨fv2, ov2, rfl, hP2, hb2⟩; have hB2 := hB1.trans (hb2.mono hB1.size); obtain ⟨xa, xc, rfl, ya, yc, rfl⟩ := pr_formD hP2; have oP2 := (oP1.below hb2).alloc (.cells #[.slice xa p.funcs.length xc, .slice ya p.opts.length yc] 27); have oI2 := Ob.Obj.new w2 27 [.slice xa p.funcs.length xc, .slice ya p.opts.length yc]; have HP2 := Lib.hid ((hP2.below ((Below.refl w2.heap.size w2).alloc (Nat.le_refl _) (.cells #[.slice xa p.funcs.length xc, .slice ya p.opts.length yc] 27))).wider (B' := (w2.alloc (.cells #[.slice xa p.funcs.length xc, .slice ya p.opts.length yc] 27)).heap.size) (by simp)); have HB2 := Lib.hid (hB2.alloc hB2.size (.cells #[.slice xa p.funcs.length xc, .slice ya p.opts.length yc] 27)); clear hP2)
    | (go_at_call 16; (with_reducible refine (HCK.out _ _ _ HP2.out).mono ?_); rintro e w3 ⟨rfl, hb3⟩; have hB3 := HB2.out.trans (hb3.mono HB2.out.size); have HP3 := Lib.hid ((HP2.out.below hb3).wider hb3.size); have oP3 := oP2.below hb3; have oI3 := oI2.below hb3; have j0 := oP3.cell 0; have j1 := oP3.cell 1; simp at j0 j1)
    | (go_at_call 17; (with_reducible refine (HCR.out _ hB3).mono ?_); rintro e w4 ⟨rfl, hb4⟩; have hB4 := hB3.trans (hb4.mono hB3.size); have HP4 := Lib.hid ((HP3.out.below hb4).wider hb4.size); have oP4 := oP3.below hb4; have oI4 := oI3.below hb4; have i0 := oP4.cell 0; have i1 := oP4.cell 1; have l0 := oI4.cell 0; have l1 := oI4.cell 1; simp at i0 i1 l0 l1)
    | (go_at_call 18; (with_reducible refine (HSA.out _ _ _ _ _ HP4.out (HP.out _ hB4)).mono ?_); rintro e w5 ⟨rfl, hb5⟩; have hB5 := hB4.trans (hb5.mono hB4.size)))
  go_ret
  exact ⟨by simp, hB5⟩
end Co
end Go.Proofs.Ytfkfckohajpcfaa

/-
  The document's answer of P13.4 (tapestryref13.Encode).
-/
namespace Go.Proofs.Ytfkfckohajpcfaa
open Go.RowKit
set_option linter.unusedSimpArgs false
set_option linter.unusedVariables false
namespace Co
theorem headF_nums2 {f : Fn} : headF f = putN f.kind ++ putN f.name ++ putN (f.ops.length : Int) := by
  unfold headF putN
  simp [List.append_assoc]
theorem add_at (a b c : Dat) (h : c = a ++ b) (hl : c.length ≤ 1000000) : ∀ W : World, (Op.stringOp .add (Cd.bs a) (Cd.bs b)).run Try.prog W = .ok (.string (Cd.bs c)) W := fun W => by
  subst h
  rw [List.length_append] at hl
  rw [run_string_add_sum W _ _ (by show a.length + b.length ≤ _; omega), ByteArray.mk_append_mk]
theorem putN_at (d : Int) (W : World) (h : 0 ≤ d ∧ d ≤ 1099511627776) : Calls Try.prog 35 #[.int .u64 d] W fun e w' => e = .returned (.string (Cd.bs (putN d))) ∧ Below W.heap.size W w' := putUr_at d d.toNat W (by omega) (by omega)
theorem wrap_at {d : Int} (h : 0 ≤ d ∧ d ≤ 1099511627776) : IntKind.u64.wrap d = d := by rw [show IntKind.u64.wrap d = d % 18446744073709551616 from rfl]; omega
/-- amid the head of a function -/
def HdF (w1 : World) (o : Nat) (v0 v1 v2 : Value) (W : World) : Prop :=
  Below w1.heap.size w1 W ∧ W.cell? ⟨o, 0, none⟩ = some v0 ∧ W.cell? ⟨o, 1, none⟩ = some v1 ∧ W.cell? ⟨o, 2, none⟩ = some v2
theorem HdF.next {w1 W W' : World} {o : Nat} {v0 v1 v2 : Value} (ho : o < w1.heap.size) (h : HdF w1 o v0 v1 v2 W) (hb : Below W.heap.size W W') : Below w1.heap.size w1 W' ∧ W'.cell? ⟨o, 0, none⟩ = some v0 ∧ W'.cell? ⟨o, 1, none⟩ = some v1 ∧ W'.cell? ⟨o, 2, none⟩ = some v2 :=
  have hl : o < W.heap.size := Nat.lt_of_lt_of_le ho h.1.size
  ⟨h.1.trans (hb.mono h.1.size), (hb.cell (p := ⟨o, 0, none⟩) hl).trans h.2.1, (hb.cell (p := ⟨o, 1, none⟩) hl).trans h.2.2.1, (hb.cell (p := ⟨o, 2, none⟩) hl).trans h.2.2.2⟩

set_option maxRecDepth 100000 in
set_option maxHeartbeats 16000000 in
theorem encodeR_any (fv ov : Value) (p : Prog) (w : World) (hP : Pr w.heap.size w fv ov p) (hI : ProgIn p) :
    Calls Try.prog 22 #[.agg #[fv, ov]] w fun r w' => r = .returned (.tuple #[.string (Cd.bs (encP p).1), .int .i64 ((encP p).2 : Nat)]) ∧ Below w.heap.size w w' := by
  have HCK := Lib.hid (fun W (hb : Below w.heap.size w W) => checkR_any fv ov p W ((hP.below hb).wider hb.size) hI)
  obtain ⟨⟨fa, fc, fb, fo, rfl, ha, hcells⟩, ⟨oa, oc, ob, oo, rfl, hoa, hob⟩⟩ := hP
  have hA : Below w.heap.size w (w.alloc (.cells #[.slice fa p.funcs.length fc, .slice oa p.opts.length oc] 27)) := (Below.refl _ _).alloc (Nat.le_refl _) _
  have oP := Ob.Obj.new w 27 [.slice fa p.funcs.length fc, .slice oa p.opts.length oc]
  rcases check_cases p with hbad | hgood
  · obtain ⟨x, y, hxy⟩ : ∃ x y, check p = (40, x, y) := by
      generalize check p = r at *
      obtain ⟨a, b, c⟩ := r
      change a = 40 at hbad
      subst hbad
      exact ⟨_, _, rfl⟩
    have HE := Lib.hid (show encP p = ([], 40) by unfold encP; rw [hxy]; rfl)
    rw [hxy] at HCK
    unfold chkV at HCK
    clear hbad hxy hcells hob
    go_enter Try.func22, Try.ntmps22
    go_wp2_with (go_at_call 17; (with_reducible refine (HCK.out _ hA).mono ?_); rintro e w1 ⟨rfl, hb1⟩)
    go_ret2
    exact ⟨by rw [HE.out]; rfl, hA.trans (hb1.mono hA.size)⟩
  · have HE := Lib.hid (show encP p = (loadP p, 0) by unfold encP; rw [hgood]; rfl)
    have hok := check_pok hI (by rw [hgood])
    have HOK := Lib.hid hok
    have hnf := hok.nf
    have hno := hok.no
    have hLL := loadP_len hok
    rw [hgood] at HCK
    unfold chkV at HCK
    have HCE := Lib.hid (fun W (hb : Below w.heap.size w W) q (hq : q < p.funcs.length) => (show (fa = some ⟨fb, fo, none⟩ ∧ fb < w.heap.size) ∧ W.cell? ⟨fb, fo + q * 3, none⟩ = some (.int .i64 p.funcs[q].kind) ∧ W.cell? ⟨fb, fo + q * 3 + 1, none⟩ = some (.int .i64 p.funcs[q].name) ∧ ∃ (pa : Option Addr) (pc pb po : Nat), W.cell? ⟨fb, fo + q * 3 + 2, none⟩ = some (.slice pa p.funcs[q].ops.length pc) ∧ (0 < p.funcs[q].ops.length → pa = some ⟨pb, po, none⟩ ∧ pb < w.heap.size) ∧ ∀ W2, Below w.heap.size w W2 → ∀ j (hj : j < p.funcs[q].ops.length), W2.cell? ⟨pb, po + j * 2, none⟩ = some (.int .i64 p.funcs[q].ops[j].code) ∧ W2.cell? ⟨pb, po + j * 2 + 1, none⟩ = some (.int .i64 p.funcs[q].ops[j].a) from by
      obtain ⟨d0, d1, u, d2, pa, pc, pb, po, rfl, hu1, hu2⟩ := hcells q hq
      obtain ⟨g1, g2⟩ := ha (by omega)
      refine ⟨⟨g1, g2⟩, (hb.cell (p := ⟨fb, fo + q * 3, none⟩) g2).trans d0, (hb.cell (p := ⟨fb, fo + q * 3 + 1, none⟩) g2).trans d1, pa, pc, pb, po, (hb.cell (p := ⟨fb, fo + q * 3 + 2, none⟩) g2).trans d2, hu1, fun W2 hb2 j hj => ?_⟩
      have g3 := (hu1 (by omega)).2
      exact ⟨(hb2.cell (p := ⟨pb, po + j * 2, none⟩) g3).trans (hu2 j hj).1, (hb2.cell (p := ⟨pb, po + j * 2 + 1, none⟩) g3).trans (hu2 j hj).2⟩))
    have HCO := Lib.hid (fun W (hb : Below w.heap.size w W) q (hq : q < p.opts.length) m (hm : m < 11) => (hb.cell (p := ⟨ob, oo + q * 11 + m, none⟩) (hoa (by omega)).2).trans (hob q hq m hm))
    have HOA := Lib.hid hoa
    have hin0 : (0 : Int) ≤ (p.funcs.length : Int) ∧ (p.funcs.length : Int) ≤ 1099511627776 := by omega
    have hin2 : (0 : Int) ≤ (p.opts.length : Int) ∧ (p.opts.length : Int) ≤ 1099511627776 := by omega
    obtain ⟨S0, hS0⟩ : ∃ S0, S0 = putN (p.funcs.length : Int) := ⟨_, rfl⟩
    obtain ⟨S1, hS1⟩ : ∃ S1, S1 = S0 ++ p.funcs.flatMap putFn := ⟨_, rfl⟩
    obtain ⟨S2, hS2⟩ : ∃ S2, S2 = S1 ++ putN (p.opts.length : Int) := ⟨_, rfl⟩
    have hS3 : loadP p = S2 ++ p.opts.flatMap putOpt := by
      rw [hS2, hS1, hS0]; unfold loadP putN; simp [List.append_assoc]
    have y0 : S0.length ≤ 10 := by rw [hS0]; exact putN_len hin0
    have y1 : S1.length ≤ 41450 := by rw [hS1, List.length_append]; have := fns_len hok.fns hok.nf; omega
    have y2 : S2.length ≤ 41460 := by
      have := putN_len hin2
      rw [hS2, List.length_append]; omega
    have HP0 := Lib.hid (fun W => putN_at (p.funcs.length : Int) W hin0)
    have HP2 := Lib.hid (fun W => putN_at (p.opts.length : Int) W hin2)
    have hw0 := wrap_at hin0
    have hw2 := wrap_at hin2
    have hadd2 := add_at S1 (putN (p.opts.length : Int)) S2 hS2 (by omega)
    rw [← hS0] at HP0
    generalize putN (p.opts.length : Int) = pno at *
    have HS1 := Lib.hid hS1
    have HS3 := Lib.hid hS3
    clear hS0 hS1 hS2 hS3 hcells hob ha hoa hok hgood hin0 hin2
    go_enter Try.func22, Try.ntmps22
    go_wp2_with (first
      | (go_at_call 17; (with_reducible refine (HCK.out _ hA).mono ?_); rintro e w1 ⟨rfl, hb1⟩; have hB1 := hA.trans (hb1.mono hA.size); have oP1 := oP.below hb1; have k0 := oP1.cell 0; have k1 := oP1.cell 1; simp at k0 k1)
      | (go_at_call 35; (with_reducible refine (HP0.out _).mono ?_); rintro e w2 ⟨rfl, hb2⟩; have HB2 := Lib.hid (hB1.trans (hb2.mono hB1.size)); have oP2 := oP1.below hb2))
    clear oP oP1 k0 k1 HP0 hw0
    go_loopw [7, 8] (fun b i wr => ∃ (q : Nat) (l : Dat), q ≤ p.funcs.length ∧ i = .int .i64 (q : Int) ∧ b = .string (Cd.bs l) ∧ Hid (l = S0 ++ (p.funcs.take q).flatMap putFn) ∧ Below w.heap.size w wr ∧ Ob.Obj wr w.heap.size 27 [.slice fa p.funcs.length fc, .slice oa p.opts.length oc]) (fun _ i _ => p.funcs.length - (intOf i).toNat)
    case atStart => exact ⟨0, S0, Nat.zero_le _, rfl, rfl, by show S0 = S0 ++ _; simp, HB2.out, oP2⟩
    case round =>
      clear oP2 HB2
      obtain ⟨q, l, hq, rfl, rfl, hl, hB, oP⟩ := hrel
      obtain ⟨wo, rfl⟩ : ∃ wo : World, wo = wr := ⟨_, rfl⟩
      have hbs := hB.size
      have k0 := oP.cell 0
      have k1 := oP.cell 1
      simp at k0 k1
      by_cases hlt : q < p.funcs.length
      · obtain ⟨⟨rfl, hfb⟩, c0, c1, pa, pc, pb, po, c2, hpa, hop⟩ := HCE.out wo hB q hlt
        have hi1 : (0 : Int) ≤ (q : Int) ∧ (q : Int) < (p.funcs.length : Int) := by omega
        have hfo := HOK.out.fns p.funcs[q] (List.getElem_mem hlt)
        have hsl : l.length ≤ 41450 := by
          rw [hl.out, List.length_append]
          have := fns_len (L := p.funcs.take q) (fun f hf => HOK.out.fns f (List.mem_of_mem_take hf)) (by simp; omega)
          omega
        have HNX := Lib.hid (show S0 ++ (p.funcs.take (q + 1)).flatMap putFn = (l ++ headF p.funcs[q]) ++ p.funcs[q].ops.flatMap putOp by rw [flat_snoc putFn hlt, hl.out]; unfold putFn; simp only [List.append_assoc])
        have hwb : fb < wo.heap.size := by omega
        clear hl HCE
        generalize p.funcs[q] = f at *
        obtain ⟨kind, name, ops⟩ := f
        obtain ⟨z0, z1, z2, z3, z4, z5⟩ := hfo
        have hhl := headF_len (f := ⟨kind, name, ops⟩) ⟨z0, z1, z2, z3, z4, z5⟩
        simp only at c0 c1 c2 hpa hop z0 z1 z2 z3 z4 z5
        have HOPS := Lib.hid hop
        clear hop
        have hin5 : (0 : Int) ≤ (ops.length : Int) ∧ (ops.length : Int) ≤ 1099511627776 := by omega
        obtain ⟨l1, hl1⟩ : ∃ l1, l1 = l ++ putN kind := ⟨_, rfl⟩
        obtain ⟨l2, hl2⟩ : ∃ l2, l2 = l1 ++ putN name := ⟨_, rfl⟩
        obtain ⟨l3, hl3⟩ : ∃ l3, l3 = l2 ++ putN (ops.length : Int) := ⟨_, rfl⟩
        have hl3' : l3 = l ++ headF ⟨kind, name, ops⟩ := by rw [hl3, hl2, hl1, headF_nums2]; simp only [List.append_assoc]
        rw [← hl3'] at HNX
        have y3 : l3.length ≤ 41480 := by rw [hl3', List.length_append]; omega
        have y4 : l2.length ≤ l3.length := by rw [hl3, List.length_append]; omega
        have y5 : l1.length ≤ l2.length := by rw [hl2, List.length_append]; omega
        have a1 := add_at l (putN kind) l1 hl1 (by omega)
        have a2 := add_at l1 (putN name) l2 hl2 (by omega)
        have a3 := add_at l2 (putN (ops.length : Int)) l3 hl3 (by omega)
        have HQ1 := Lib.hid (fun W => putN_at kind W ⟨z0, z1⟩)
        have HQ2 := Lib.hid (fun W => putN_at name W ⟨z2, z3⟩)
        have HQ3 := Lib.hid (fun W => putN_at (ops.length : Int) W hin5)
        have w1 := wrap_at ⟨z0, z1⟩
        have w2 := wrap_at ⟨z2, z3⟩
        have w3 := wrap_at hin5
        generalize putN kind = p1 at *
        generalize putN name = p2 at *
        generalize putN (ops.length : Int) = p3 at *
        clear hl1 hl2 hl3 hl3' hin5 hhl
        have hB3 := hB.alloc hbs (.cells #[.int .i64 kind, .int .i64 name, .slice pa ops.length pc] 52)
        have oP3 := oP.alloc (.cells #[.int .i64 kind, .int .i64 name, .slice pa ops.length pc] 52)
        have oF3 := Ob.Obj.new wo 52 [.int .i64 kind, .int .i64 name, .slice pa ops.length pc]
        obtain ⟨wf, hwf⟩ : ∃ wf, wo.alloc (.cells #[.int .i64 kind, .int .i64 name, .slice pa ops.length pc] 52) = wf := ⟨_, rfl⟩
        have hfz : wo.heap.size < wf.heap.size := by rw [← hwf]; simp
        rw [hwf] at hB3 oP3 oF3
        have g0 := oF3.cell 0
        have g1 := oF3.cell 1
        have g2 := oF3.cell 2
        simp at g0 g1 g2
        go_upto_region 9 with fail
        go_cut [7] from 42 to 58 (fun r wx => r = .string (Cd.bs l3) ∧ Below wf.heap.size wf wx)
        case first =>
          have NX := Lib.hid (fun W W' (h : Below wf.heap.size wf W ∧ W.cell? ⟨wo.heap.size, 0, none⟩ = some (.int .i64 kind) ∧ W.cell? ⟨wo.heap.size, 1, none⟩ = some (.int .i64 name) ∧ W.cell? ⟨wo.heap.size, 2, none⟩ = some (.slice pa ops.length pc)) (hb : Below W.heap.size W W') => HdF.next hfz h hb)
          have HS0 := Lib.hid (show Below wf.heap.size wf wf ∧ wf.cell? ⟨wo.heap.size, 0, none⟩ = some (.int .i64 kind) ∧ wf.cell? ⟨wo.heap.size, 1, none⟩ = some (.int .i64 name) ∧ wf.cell? ⟨wo.heap.size, 2, none⟩ = some (.slice pa ops.length pc) from ⟨Below.refl _ _, g0, g1, g2⟩)
          have HS1 := Lib.hid (show Below wf.heap.size wf wf.drew ∧ wf.drew.cell? ⟨wo.heap.size, 0, none⟩ = some (.int .i64 kind) ∧ wf.drew.cell? ⟨wo.heap.size, 1, none⟩ = some (.int .i64 name) ∧ wf.drew.cell? ⟨wo.heap.size, 2, none⟩ = some (.slice pa ops.length pc) from ⟨(Below.refl _ _).drew, g0, g1, g2⟩)
          have tk1 := trivial
          go_region_held3 (fun w' => Below wf.heap.size wf w' ∧ w'.cell? ⟨wo.heap.size, 0, none⟩ = some (.int .i64 kind) ∧ w'.cell? ⟨wo.heap.size, 1, none⟩ = some (.int .i64 name) ∧ w'.cell? ⟨wo.heap.size, 2, none⟩ = some (.slice pa ops.length pc))
            (first | exact HS0.out | exact HS1.out | exact NX.out _ _ (by assumption) hb2)
            (first
            | (go_at_call 35; (with_reducible refine (HQ1.out _).mono ?_); rintro e w2 ⟨rfl, hb2⟩)
            | (go_at_call 35; (with_reducible refine (HQ2.out _).mono ?_); rintro e w2 ⟨rfl, hb2⟩)
            | (go_at_call 35; (with_reducible refine (HQ3.out _).mono ?_); rintro e w2 ⟨rfl, hb2⟩))
          all_goals (try go_wp2_with fail)
          go_meet
          exact ⟨rfl, (show Below wf.heap.size wf _ ∧ _ from by assumption).1⟩
        case rest =>
        obtain ⟨rfl, hbc⟩ := hcut
        have hBc : Below w.heap.size w wc := hB3.trans (hbc.mono hB3.size)
        have oPc := oP3.below hbc
        have oFc := oF3.below hbc
        clear a1 a2 a3 w1 w2 w3 HQ1 HQ2 HQ3 g0 g1 g2 hB3 oP3 oF3 hbc k0 k1 c0 c1 c2 hwf hB oP
        have g2 := oFc.cell 2
        simp at g2
        go_wp2_with fail
        go_loopw [7, 10] (fun b i wr => ∃ (k : Nat) (l : Dat), k ≤ ops.length ∧ i = .int .i64 (k : Int) ∧ b = .string (Cd.bs l) ∧ Hid (l = l3 ++ (ops.take k).flatMap putOp) ∧ Below w.heap.size w wr ∧ Ob.Obj wr w.heap.size 27 [.slice (some ⟨fb, fo, none⟩) p.funcs.length fc, .slice oa p.opts.length oc] ∧ Ob.Obj wr wo.heap.size 52 [.int .i64 kind, .int .i64 name, .slice pa ops.length pc]) (fun _ i _ => ops.length - (intOf i).toNat)
        case atStart => exact ⟨0, l3, Nat.zero_le _, rfl, rfl, by show l3 = l3 ++ _; simp, hBc, oPc, oFc⟩
        case round =>
          clear hBc oPc oFc g2
          obtain ⟨k, m, hk, rfl, rfl, hm, hB, oP, oF⟩ := hrel
          obtain ⟨wq, rfl⟩ : ∃ wq : World, wq = wr := ⟨_, rfl⟩
          have hbq := hB.size
          have g2 := oF.cell 2
          simp at g2
          by_cases hkl : k < ops.length
          · obtain ⟨rfl, hpb⟩ := hpa (by omega)
            obtain ⟨d0, d1⟩ := HOPS.out wq hB k hkl
            have hk1 : (0 : Int) ≤ (k : Int) ∧ (k : Int) < (ops.length : Int) := by omega
            have hpq : pb < wq.heap.size := by omega
            have ho := z5 ops[k] (List.getElem_mem hkl)
            have hol := putOp_len ho
            have hsm : m.length ≤ 50000 := by
              rw [hm.out, List.length_append]
              have := ops_len (L := ops.take k) (fun f hf => z5 f (List.mem_of_mem_take hf)) (by simp; omega)
              omega
            have HNO := Lib.hid (show l3 ++ (ops.take (k + 1)).flatMap putOp = m ++ putOp ops[k] by rw [flat_snoc putOp hkl, hm.out]; simp only [List.append_assoc])
            clear hm
            generalize ops[k] = o at *
            obtain ⟨code, a⟩ := o
            obtain ⟨u0, u1, hno, hia⟩ := ho
            simp only at d0 d1 u0 u1 hno hia
            obtain ⟨m1, hm1⟩ : ∃ m1, m1 = m ++ putN code := ⟨_, rfl⟩
            have hpl := putN_len ⟨u0, u1⟩
            have hm1l : m1.length ≤ 50010 := by rw [hm1, List.length_append]; omega
            have hadd := add_at m (putN code) m1 hm1 (by omega)
            have HQ := Lib.hid (fun W => putN_at code W ⟨u0, u1⟩)
            have hwc := wrap_at ⟨u0, u1⟩
            have HOP := Lib.hid (fun W => operandR_any code W)
            have hpo : m ++ putOp ⟨code, a⟩ = m1 ++ (if operandB code = true then putI a else []) := by rw [hm1]; unfold putOp putN; simp only [List.append_assoc]
            rw [hpo] at HNO
            have hpil := putI_len hia
            have HQI := Lib.hid (fun W => show Calls Try.prog 36 #[.int .i64 a] W fun e w' => e = .returned (.string (Cd.bs (putI a))) ∧ Below W.heap.size W w' from putIr_any a W hia.1 hia.2)
            clear hpo hm1 hol hpl
            generalize putN code = pcd at *
            cases hop : operandB code with
            | false =>
              rw [hop] at HOP HNO
              rw [if_neg (by decide), List.append_nil] at HNO
              go_wp2_with (first
                | (go_at_call 35; (with_reducible refine (HQ.out _).mono ?_); rintro e w5 ⟨rfl, hb5⟩; have hB5 := hB.trans (hb5.mono hB.size); have oP5 := oP.below hb5; have oF5 := oF.below hb5; have e2 := oF5.cell 2; have e0 := (hb5.cell (p := ⟨pb, po + k * 2, none⟩) hpq).trans d0; simp at e2)
                | (go_at_call 12; (with_reducible refine (HOP.out _).mono ?_); rintro e w6 ⟨rfl, rfl⟩))
              go_roundw
              case rel => exact ⟨k + 1, m1, by omega, by go_num, rfl, HNO.out.symm, hB5, oP5, oF5⟩
              case measure => simp [intOf]; omega
            | true =>
              rw [hop] at HOP HNO
              rw [if_pos rfl] at HNO
              obtain ⟨m2, hm2⟩ : ∃ m2, m2 = m1 ++ putI a := ⟨_, rfl⟩
              rw [← hm2] at HNO
              have hadd2 := add_at m1 (putI a) m2 hm2 (by rw [hm2, List.length_append]; omega)
              generalize putI a = pia at *
              clear hm2
              go_wp2_with (first
                | (go_at_call 35; (with_reducible refine (HQ.out _).mono ?_); rintro e w5 ⟨rfl, hb5⟩; have hB5 := hB.trans (hb5.mono hB.size); have oP5 := oP.below hb5; have oF5 := oF.below hb5; have e2 := oF5.cell 2; have e0 := (hb5.cell (p := ⟨pb, po + k * 2, none⟩) hpq).trans d0; have e1 := (hb5.cell (p := ⟨pb, po + k * 2 + 1, none⟩) hpq).trans d1; simp at e2)
                | (go_at_call 12; (with_reducible refine (HOP.out _).mono ?_); rintro e w6 ⟨rfl, rfl⟩)
                | (go_at_call 36; (with_reducible refine (HQI.out _).mono ?_); rintro e w7 ⟨rfl, hb7⟩; have hB7 := hB5.trans (hb7.mono hB5.size); have oP7 := oP5.below hb7; have oF7 := oF5.below hb7))
              go_roundw
              case rel => exact ⟨k + 1, m2, by omega, by go_num, rfl, HNO.out.symm, hB7, oP7, oF7⟩
              case measure => simp [intOf]; omega
          · obtain rfl : k = ops.length := by omega
            have HFIN := Lib.hid (show m = S0 ++ (p.funcs.take (q + 1)).flatMap putFn by rw [HNX.out, hm.out, List.take_length])
            clear hm
            go_wp2_with fail
            go_roundw
            case rel => exact ⟨q + 1, m, by omega, by go_num, rfl, HFIN.out, hB, oP⟩
            case measure => simp [intOf]; omega
      · obtain rfl : q = p.funcs.length := by omega
        obtain rfl : l = S1 := by rw [hl.out, List.take_length, HS1.out]
        clear hl HCE
        go_wp2_with (go_at_call 35; (with_reducible refine (HP2.out _).mono ?_); rintro e w2 ⟨rfl, hb2⟩; have HB2 := Lib.hid (hB.trans (hb2.mono hB.size)); have oP2 := oP.below hb2)
        clear hadd2 hw2 HP2 hB oP k0 k1
        go_loopw [7, 12] (fun b i wr => ∃ (q : Nat) (l : Dat), q ≤ p.opts.length ∧ i = .int .i64 (q : Int) ∧ b = .string (Cd.bs l) ∧ Hid (l = S2 ++ (p.opts.take q).flatMap putOpt) ∧ Below w.heap.size w wr ∧ Ob.Obj wr w.heap.size 27 [.slice fa p.funcs.length fc, .slice oa p.opts.length oc]) (fun _ i _ => p.opts.length - (intOf i).toNat)
        case atStart => exact ⟨0, S2, Nat.zero_le _, rfl, rfl, by show S2 = S2 ++ _; simp, HB2.out, oP2⟩
        case round =>
          clear HB2 oP2
          obtain ⟨q, l, hq, rfl, rfl, hl, hB, oP⟩ := hrel
          obtain ⟨wq, rfl⟩ : ∃ wq : World, wq = wr := ⟨_, rfl⟩
          have hbs := hB.size
          have k0 := oP.cell 0
          have k1 := oP.cell 1
          simp at k0 k1
          by_cases hlt : q < p.opts.length
          · obtain ⟨rfl, hob⟩ := HOA.out (by omega)
            have c0 := HCO.out wq hB q hlt 0 (by decide)
            have c1 := HCO.out wq hB q hlt 1 (by decide)
            have c2 := HCO.out wq hB q hlt 2 (by decide)
            have c3 := HCO.out wq hB q hlt 3 (by decide)
            have c4 := HCO.out wq hB q hlt 4 (by decide)
            have c5 := HCO.out wq hB q hlt 5 (by decide)
            have c6 := HCO.out wq hB q hlt 6 (by decide)
            have c7 := HCO.out wq hB q hlt 7 (by decide)
            have c8 := HCO.out wq hB q hlt 8 (by decide)
            have c9 := HCO.out wq hB q hlt 9 (by decide)
            have c10 := HCO.out wq hB q hlt 10 (by decide)
            have hi1 : (0 : Int) ≤ (q : Int) ∧ (q : Int) < (p.opts.length : Int) := by omega
            have hwb : ob < wq.heap.size := by omega
            have ho := HOK.out.opts p.opts[q] (List.getElem_mem hlt)
            have hnl := nums_len ho
            have hsl : l.length ≤ 50000 := by
              rw [hl.out, List.length_append]
              have := opts_len (L := p.opts.take q) (fun f hf => HOK.out.opts f (List.mem_of_mem_take hf)) (by simp; omega)
              omega
            have HNO := Lib.hid (show S2 ++ (p.opts.take (q + 1)).flatMap putOpt = (l ++ (nums p.opts[q]).flatMap putN) ++ putI p.opts[q].never by rw [flat_snoc putOpt hlt, hl.out]; unfold putOpt; simp only [List.append_assoc])
            clear hl
            generalize p.opts[q] = o at *
            obtain ⟨hin, hnv⟩ := ho
            unfold optC at c0 c1 c2 c3 c4 c5 c6 c7 c8 c9 c10
            simp only [List.getElem?_cons_zero, List.getElem?_cons_succ, Nat.add_zero] at c0 c1 c2 c3 c4 c5 c6 c7 c8 c9 c10
            have hnn : nums o = [o.queue, o.start, o.close, o.total, o.beat, o.first, o.num, o.den, o.most, o.tries] := rfl
            obtain ⟨qu, st, cl, tt, be, fi, nu, de, mo, tr, ne⟩ := o
            simp only at c0 c1 c2 c3 c4 c5 c6 c7 c8 c9 c10 hnn hnv
            generalize hNM : nums ⟨qu, st, cl, tt, be, fi, nu, de, mo, tr, ne⟩ = NM at *
            have hlen : NM.length = 10 := by rw [hnn]; rfl
            have hcs : NM.map (fun d => Value.int .i64 d) = [.int .i64 qu, .int .i64 st, .int .i64 cl, .int .i64 tt, .int .i64 be, .int .i64 fi, .int .i64 nu, .int .i64 de, .int .i64 mo, .int .i64 tr] := by rw [hnn]; rfl
            have hB3 := (hB.alloc hbs (.cells #[.int .i64 qu, .int .i64 st, .int .i64 cl, .int .i64 tt, .int .i64 be, .int .i64 fi, .int .i64 nu, .int .i64 de, .int .i64 mo, .int .i64 tr, .int .i64 ne] 54)).alloc (by simp; omega) (.cells #[.int .i64 qu, .int .i64 st, .int .i64 cl, .int .i64 tt, .int .i64 be, .int .i64 fi, .int .i64 nu, .int .i64 de, .int .i64 mo, .int .i64 tr] 2)
            have oP3 := (oP.alloc (.cells #[.int .i64 qu, .int .i64 st, .int .i64 cl, .int .i64 tt, .int .i64 be, .int .i64 fi, .int .i64 nu, .int .i64 de, .int .i64 mo, .int .i64 tr, .int .i64 ne] 54)).alloc (.cells #[.int .i64 qu, .int .i64 st, .int .i64 cl, .int .i64 tt, .int .i64 be, .int .i64 fi, .int .i64 nu, .int .i64 de, .int .i64 mo, .int .i64 tr] 2)
            have oO3 := (Ob.Obj.new wq 54 [.int .i64 qu, .int .i64 st, .int .i64 cl, .int .i64 tt, .int .i64 be, .int .i64 fi, .int .i64 nu, .int .i64 de, .int .i64 mo, .int .i64 tr, .int .i64 ne]).alloc (.cells #[.int .i64 qu, .int .i64 st, .int .i64 cl, .int .i64 tt, .int .i64 be, .int .i64 fi, .int .i64 nu, .int .i64 de, .int .i64 mo, .int .i64 tr] 2)
            have oN3 := Ob.Obj.new (wq.alloc (.cells #[.int .i64 qu, .int .i64 st, .int .i64 cl, .int .i64 tt, .int .i64 be, .int .i64 fi, .int .i64 nu, .int .i64 de, .int .i64 mo, .int .i64 tr, .int .i64 ne] 54)) 2 [.int .i64 qu, .int .i64 st, .int .i64 cl, .int .i64 tt, .int .i64 be, .int .i64 fi, .int .i64 nu, .int .i64 de, .int .i64 mo, .int .i64 tr]
            rw [show (wq.alloc (.cells #[.int .i64 qu, .int .i64 st, .int .i64 cl, .int .i64 tt, .int .i64 be, .int .i64 fi, .int .i64 nu, .int .i64 de, .int .i64 mo, .int .i64 tr, .int .i64 ne] 54)).heap.size = wq.heap.size + 1 by simp] at oN3
            have oN4 := oN3
            rw [show ∀ W, Ob.Obj W (wq.heap.size + 1) 2 [.int .i64 qu, .int .i64 st, .int .i64 cl, .int .i64 tt, .int .i64 be, .int .i64 fi, .int .i64 nu, .int .i64 de, .int .i64 mo, .int .i64 tr] = Ob.Obj W (wq.heap.size + 1) 2 (NM.map fun d => .int .i64 d) from fun W => by rw [hcs]] at oN4
            clear hNM hnn hcs
            go_wp2_with fail
            go_loopw [7, 15] (fun b i wr => ∃ (k : Nat) (m : Dat), k ≤ 10 ∧ i = .int .i64 (k : Int) ∧ b = .string (Cd.bs m) ∧ Hid (m = l ++ (NM.take k).flatMap putN) ∧ Below w.heap.size w wr ∧ Ob.Obj wr w.heap.size 27 [.slice fa p.funcs.length fc, .slice (some ⟨ob, oo, none⟩) p.opts.length oc] ∧ Ob.Obj wr wq.heap.size 54 [.int .i64 qu, .int .i64 st, .int .i64 cl, .int .i64 tt, .int .i64 be, .int .i64 fi, .int .i64 nu, .int .i64 de, .int .i64 mo, .int .i64 tr, .int .i64 ne] ∧ Ob.Obj wr (wq.heap.size + 1) 2 (NM.map fun d => .int .i64 d)) (fun _ i _ => 10 - (intOf i).toNat)
            case atStart => exact ⟨0, l, Nat.zero_le _, rfl, rfl, by show l = l ++ _; simp, hB3, oP3, oO3, oN4⟩
            case round =>
              clear hB3 oP3 oO3 oN3 oN4 c0 c1 c2 c3 c4 c5 c6 c7 c8 c9 c10 k0 k1 hB oP
              obtain ⟨k, m, hk, rfl, rfl, hm, hB, oP, oO, oN⟩ := hrel
              obtain ⟨wz, rfl⟩ : ∃ wz : World, wz = wr := ⟨_, rfl⟩
              have hbz := hB.size
              have hm2 : m.length ≤ 50200 := by
                rw [hm.out, List.length_append]
                have := flat_len putN 10 (NM.take k) (fun x hx => putN_len (hin x (List.mem_of_mem_take hx)))
                have : (NM.take k).length ≤ 10 := by simp; omega
                omega
              by_cases hkl : k < 10
              · have hkn : k < NM.length := by omega
                have hd := hin NM[k] (List.getElem_mem hkn)
                have e0 : wz.cell? ⟨wq.heap.size + 1, k, none⟩ = some (.int .i64 NM[k]) := by rw [oN.cell k]; simp [hkn]
                have hk1 : (0 : Int) ≤ (k : Int) ∧ (k : Int) < 10 := by omega
                have hnz := oN.lt
                have HNK := Lib.hid (show l ++ (NM.take (k + 1)).flatMap putN = m ++ putN NM[k] by rw [flat_snoc putN hkn, hm.out]; simp only [List.append_assoc])
                clear hm
                generalize NM[k] = d at *
                obtain ⟨m1, hm1⟩ : ∃ m1, m1 = m ++ putN d := ⟨_, rfl⟩
                rw [← hm1] at HNK
                have hpl := putN_len hd
                have hadd := add_at m (putN d) m1 hm1 (by rw [hm1, List.length_append]; omega)
                have HQ := Lib.hid (fun W => putN_at d W hd)
                have hwd := wrap_at hd
                generalize putN d = pd at *
                clear hm1
                go_wp2_with (go_at_call 35; (with_reducible refine (HQ.out _).mono ?_); rintro e w5 ⟨rfl, hb5⟩; have hB5 := hB.trans (hb5.mono hB.size); have oP5 := oP.below hb5; have oO5 := oO.below hb5; have oN5 := oN.below hb5)
                go_roundw
                case rel => exact ⟨k + 1, m1, by omega, by go_num, rfl, HNK.out.symm, hB5, oP5, oO5, oN5⟩
                case measure => simp [intOf]; omega
              · obtain rfl : k = 10 := by omega
                have e10 := oO.cell 10
                simp at e10
                have hme : m = l ++ NM.flatMap putN := by rw [hm.out, List.take_of_length_le (by omega)]
                rw [← hme] at HNO
                have hpil := putI_len hnv
                have HQI := Lib.hid (fun W => show Calls Try.prog 36 #[.int .i64 ne] W fun e w' => e = .returned (.string (Cd.bs (putI ne))) ∧ Below W.heap.size W w' from putIr_any ne W hnv.1 hnv.2)
                obtain ⟨m3, hm3⟩ : ∃ m3, m3 = m ++ putI ne := ⟨_, rfl⟩
                rw [← hm3] at HNO
                have hadd := add_at m (putI ne) m3 hm3 (by rw [hm3, List.length_append]; omega)
                generalize putI ne = pin at *
                clear hm3 hme hm
                go_wp2_with (go_at_call 36; (with_reducible refine (HQI.out _).mono ?_); rintro e w5 ⟨rfl, hb5⟩; have hB5 := hB.trans (hb5.mono hB.size); have oP5 := oP.below hb5)
                go_roundw
                case rel => exact ⟨q + 1, m3, by omega, by go_num, rfl, HNO.out.symm, hB5, oP5⟩
                case measure => simp [intOf]; omega
          · obtain rfl : q = p.opts.length := by omega
            have HFIN := Lib.hid (show loadP p = l by rw [HS3.out, hl.out, List.take_length])
            clear hl
            go_wp2_with fail
            go_ret2
            exact ⟨by rw [HE.out, HFIN.out]; rfl, hB⟩
end Co
end Go.Proofs.Ytfkfckohajpcfaa

/-
  The law CodeEncodes walked.
-/
namespace Go.Proofs.Ytfkfckohajpcfaa
open Go.RowKit
set_option linter.unusedSimpArgs false
set_option linter.unusedVariables false
namespace Co

set_option maxRecDepth 100000 in
set_option maxHeartbeats 8000000 in
theorem codeEncodes_law (p : Prog) (fv ov : Value) (w : World) (hp : Pr w.heap.size w fv ov p ∧ ProgIn p) :
    Calls Try.prog 6 #[.agg #[fv, ov]] w fun e w' => e = .returned (.bool true) ∧ Below w.heap.size w w' := by
  obtain ⟨hP, hI⟩ := hp
  have HEN := Lib.hid (fun W (hb : Below w.heap.size w W) => encode_any fv ov p W ((hP.below hb).wider hb.size) hI)
  have HER := Lib.hid (fun W (hb : Below w.heap.size w W) => encodeR_any fv ov p W ((hP.below hb).wider hb.size) hI)
  obtain ⟨⟨fa, fc, _, _, rfl, _⟩, ⟨oa, oc, _, _, rfl, _⟩⟩ := hP
  have hA : Below w.heap.size w (w.alloc (.cells #[.slice fa p.funcs.length fc, .slice oa p.opts.length oc] 27)) := (Below.refl _ _).alloc (Nat.le_refl _) _
  have oP := Ob.Obj.new w 27 [.slice fa p.funcs.length fc, .slice oa p.opts.length oc]
  have HS := Lib.hid (shown_any (w.alloc (.cells #[.slice fa p.funcs.length fc, .slice oa p.opts.length oc] 27)))
  generalize encP p = ep at *
  obtain ⟨b, e⟩ := ep
  simp only at HEN HER
  clear hI
  go_enter Try.func6, Try.ntmps6
  go_wp2_with (first
    | (go_at_call 10; (with_reducible refine HS.out.mono ?_); rintro e w1 ⟨rfl, hb1⟩; have hB1 := hA.trans (hb1.mono hA.size); have oP1 := oP.below hb1; have k0 := oP1.cell 0; have k1 := oP1.cell 1; simp at k0 k1)
    | (go_at_call 21; (with_reducible refine (HEN.out _ hB1).mono ?_); rintro e w2 ⟨rfl, hb2⟩; have hB2 := hB1.trans (hb2.mono hB1.size); have oP2 := oP1.below hb2; have j0 := oP2.cell 0; have j1 := oP2.cell 1; simp at j0 j1)
    | (go_at_call 22; (with_reducible refine (HER.out _ hB2).mono ?_); rintro e w3 ⟨rfl, hb3⟩; have hB3 := hB2.trans (hb3.mono hB2.size)))
  go_ret
  exact ⟨by simp, hB3⟩
end Co
end Go.Proofs.Ytfkfckohajpcfaa
