import Derived.StillTailTactics
import Derived.Test.YthcllaombabpbaaProg
import Derived.Sort.Defs
import Derived.Sort.Lot0
import Derived.Sort.LotA
import Derived.Lib.Hide
import Derived.WalkKit
import Derived.BigQuiet
import Derived.Deep.CutRange
import Derived.RegionTactic
import Derived.LoopIn
import Derived.Deep.CutBlock
import Derived.Sort.LotB
import Derived.Sort.LotD1
import Derived.OpenShut
import Derived.Lib.BitFns
import Derived.Test.YthcllaombabpbaaPart3
/-
  The document's answer of several rows as one (tapestryref09.Merge).
-/
namespace Go.Proofs.Ythcllaombabpbaa
open Go.RowKit
set_option linter.unusedSimpArgs false
set_option linter.unusedVariables false
namespace Mg
open Mt (Ver mayB lessB placeB VerIn verV VerW)
open Vs (Vers At vcs)
open Tb (ver0 getD_at own_after lower_row)
/-- rows of versions that lie in a slice -/
def RowAt (W : World) (b o : Nat) (L : List Ver) : Prop :=
  ∃ (ra : Option Addr) (rcap rb ro : Nat), W.cell? ⟨b, o, none⟩ = some (.slice ra L.length rcap) ∧ (0 < L.length → ra = some ⟨rb, ro, none⟩ ∧ rb < W.heap.size) ∧ ∀ i (h : i < L.length), At W rb (ro + i * 4) L[i]
theorem RowAt.below {W W' : World} {b o : Nat} {L : List Ver} (h : RowAt W b o L) (hb : Below W.heap.size W W') (hl : b < W.heap.size) : RowAt W' b o L := by
  obtain ⟨ra, rcap, rb, ro, h1, h2, h3⟩ := h
  exact ⟨ra, rcap, rb, ro, (hb.cell (p := ⟨b, o, none⟩) hl).trans h1, fun h => ⟨(h2 h).1, Nat.lt_of_lt_of_le (h2 h).2 hb.size⟩, fun i hi => (h3 i hi).below hb (h2 (by omega)).2⟩
def VV (W : World) (v : Value) (Ls : List (List Ver)) : Prop :=
  ∃ (a : Option Addr) (cap b off : Nat), v = .slice a Ls.length cap ∧ (0 < Ls.length → a = some ⟨b, off, none⟩ ∧ b < W.heap.size) ∧ ∀ j (h : j < Ls.length), RowAt W b (off + j) Ls[j]
theorem gL {Ls : List (List Ver)} {j : Nat} (h : j < Ls.length) : Ls.getD j [] = Ls[j] := by rw [List.getD_eq_getElem?_getD, List.getElem?_eq_getElem h, Option.getD_some]
theorem gA {A : List Nat} {j : Nat} (h : j < A.length) : A.getD j 0 = A[j] := by rw [List.getD_eq_getElem?_getD, List.getElem?_eq_getElem h, Option.getD_some]
/-- whose turn it is among the first i -/
def whoR (Ls : List (List Ver)) (A : List Nat) (i : Nat) (who : Value) : Prop :=
  (pickA Ls A i = none ∧ who = .int .i64 (-1)) ∨ ∃ (k : Nat) (x : Ver), k < i ∧ who = .int .i64 (k : Int) ∧ hd Ls A k = some x ∧ pickA Ls A i = some x
def mgI (Ls : List (List Ver)) (T : Nat) (w : World) (gh : Nat) (ov : Value) (wr : World) : Prop :=
  ∃ (A : List Nat) (out : List Ver), gh = T - out.length ∧ A.length = Ls.length ∧ (∀ j, A.getD j 0 ≤ (Ls.getD j []).length) ∧ out ++ mergeA (T - out.length) Ls A = merge Ls ∧ left Ls A ≤ T - out.length ∧ out.length ≤ T ∧
    wr.ownsRow w.heap.size 3 1 (.slice (some ⟨w.heap.size, 0, none⟩) Ls.length Ls.length) Ls.length (nc A) ∧ wr.ownsRow w.heap.size 44 4 ov out.length (vcs out) ∧ Below w.heap.size w wr
def mgJ (Ls : List (List Ver)) (A : List Nat) (x : Ver) (out : List Ver) (vb : Nat) (ov : Value) (w : World) (i : Nat) (wr : World) : Prop :=
  wr.ownsRow w.heap.size 3 1 (.slice (some ⟨w.heap.size, 0, none⟩) Ls.length Ls.length) Ls.length (nc (advN Ls A x i)) ∧ wr.ownsRow w.heap.size 44 4 ov out.length (vcs out) ∧ Ob.Obj wr vb 44 [.string (Cd.bs x.key), .int .u64 x.seq, .bool x.del, .string (Cd.bs x.val)] ∧ vb ≠ w.heap.size ∧ Below w.heap.size w wr
theorem lt_cell9 {w : World} {p : Addr} {v : Value} (hc : w.cell? p = some v) : p.block < w.heap.size := by
  obtain ⟨o, ho, _⟩ := cells_of_cell hc
  exact (Array.getElem?_eq_some_iff.1 ho).1
theorem made_int9 (n : Nat) : (madeCells (Value.int .i64 0).cells (n * 1)).toList = nc (List.replicate n 0) := by
  rw [show (Value.int .i64 0).cells = #[Value.int .i64 0] from rfl, Nat.mul_one, toList_madeCells_one]
  unfold nc
  rw [List.map_replicate]
  rfl
theorem mgJ_below {Ls : List (List Ver)} {A : List Nat} {x : Ver} {out : List Ver} {vb : Nat} {ov : Value} {w : World} {i : Nat} {W W' : World} (h : mgJ Ls A x out vb ov w i W) (hb : Below W.heap.size W W') : mgJ Ls A x out vb ov w i W' := by
  obtain ⟨h1, h2, h3, h4, h5⟩ := h
  exact ⟨own_after h1 hb, own_after h2 hb, h3.below hb, h4, h5.trans (hb.mono h5.size)⟩
theorem nc_set (l : List Nat) (i n : Nat) : (nc l).set i (.int .i64 (n : Int)) = nc (l.set i n) := by unfold nc; rw [List.map_set]
theorem mgJ_store {Ls : List (List Ver)} {A : List Nat} {x : Ver} {out : List Ver} {vb : Nat} {ov : Value} {w : World} {i : Nat} {W : World} (h : mgJ Ls A x out vb ov w i W) (hh : hit Ls A x i = true) :
    mgJ Ls A x out vb ov w (i + 1) (W.setCell ⟨w.heap.size, i, none⟩ (.int .i64 ((A.getD i 0 + 1 : Nat) : Int))) := by
  obtain ⟨h1, h2, h3, h4, h5⟩ := h
  have hap := Ob.rows_apart h1 h2 (by decide)
  refine ⟨?_, Ob.row_other h2 (p := ⟨w.heap.size, i, none⟩) (hap w.heap.size (by simp [Value.ownBlock])) _, h3.other h4 _, h4, h5.setCell (p := ⟨w.heap.size, i, none⟩) (Nat.le_refl _) _⟩
  rw [advN_succ, if_pos hh, ← nc_set]
  exact (World.ownsRow.stored h1 i _).1
theorem left_zero (Ls : List (List Ver)) : ∀ j, (zeros Ls).getD j 0 ≤ (Ls.getD j []).length := fun j => by
  have : (zeros Ls).getD j 0 = 0 := by
    unfold zeros
    by_cases h : j < Ls.length
    · rw [List.getD_eq_getElem?_getD, List.getElem?_eq_getElem (by simpa using h)]; simp
    · rw [List.getD_eq_getElem?_getD, List.getElem?_eq_none (by simpa using h)]; rfl
  omega

set_option maxRecDepth 100000 in
set_option maxHeartbeats 8000000 in
theorem mergeR9_any (v : Value) (Ls : List (List Ver)) (w : World) (hV : VV w v Ls) (hI : ∀ L ∈ Ls, ∀ x ∈ L, VerIn x) (hLn : ∀ L ∈ Ls, L.length ≤ 1048576) (hn : Ls.length ≤ 1048576) (hT : left Ls (zeros Ls) ≤ 1048576) :
    Calls Try.prog 8 #[v] w fun e w' => ∃ u, e = .returned u ∧ w'.ownsRow w.heap.size 44 4 u (merge Ls).length (vcs (merge Ls)) ∧ Below w.heap.size w w' := by
  obtain ⟨j0, hj0, hy0, hy1, hy2⟩ := info_parts info_Ver9
  obtain ⟨i0, hi0, hz0, hz1, hz2⟩ := info_parts info_int9
  obtain ⟨a, cap, fb, fo, rfl, ha, hcells⟩ := hV
  have HC := Lib.hid hcells
  have HI := Lib.hid hI
  obtain ⟨T, hTd⟩ : ∃ T, left Ls (zeros Ls) = T := ⟨_, rfl⟩
  have HM0 := Lib.hid (show merge Ls = mergeA T Ls (zeros Ls) by unfold merge; rw [hTd])
  have HZ := Lib.hid (show left Ls (zeros Ls) ≤ T by omega)
  rw [hTd] at hT
  clear hcells hI hTd
  go_enter Try.func8, Try.ntmps8
  go_wp2_with (refine wpList_make_full _ (by rfl) _ _ 67 (by rfl) w.heap.size 3 i0 (.int .i64 0) 1 Try.underlying67 hi0 hz0 hz1 .i64 .i64 (Ls.length : Int) (Ls.length : Int) Ls.length (by rfl) (by rfl) rfl rfl (by rw [hz2]; omega) (by unfold maxLen; omega) (Nat.le_refl _) ?_; intro w1 hown hgrow; rw [made_int9] at hown; have hb1 := (Below.refl _ _).grown hgrow (Nat.le_refl _) (fun k hk => by cases hk))
  have HO1 := Lib.hid (show w1.ownsRow w.heap.size 3 1 (.slice (some ⟨w.heap.size, 0, none⟩) Ls.length Ls.length) Ls.length (nc (zeros Ls)) from hown)
  clear hown hgrow
  go_loopg [4] T (fun gh ov wr => mgI Ls T w gh ov wr)
  case atStart => exact ⟨zeros Ls, [], rfl, by simp [zeros], left_zero Ls, by rw [List.nil_append]; exact HM0.out.symm, HZ.out, Nat.zero_le _, HO1.out, World.ownsRow_nil _ _ _ _, hb1⟩
  case round =>
    obtain ⟨A, out, rfl, hAl, hAle, hout, hleft, hTn, hownA, hownO, hB⟩ := hrel
    obtain ⟨wo, rfl⟩ : ∃ wo : World, wo = wr := ⟨_, rfl⟩
    have hbs := hB.size
    have hcA : ∀ j (hj : j < Ls.length), wo.cell? ⟨w.heap.size, j, none⟩ = some (Value.int .i64 ((A.getD j 0 : Nat) : Int)) := fun j hj =>
      (hownA.cellAt j (by omega)).trans (by rw [gA (show j < A.length by omega)]; simp [nc, List.getElem?_eq_getElem (show j < A.length by omega)])
    have hlA : w.heap.size < wo.heap.size ∨ Ls.length = 0 := by
      by_cases h0 : 0 < Ls.length
      · exact .inl (lt_cell9 (hcA 0 h0))
      · exact .inr (by omega)
    have HROW := Lib.hid (fun W (h : Below wo.heap.size wo W) j (hj : j < Ls.length) => (HC.out j hj).below (hB.trans (h.mono hbs)) (ha (by omega)).2)
    have HAT := Lib.hid (fun W (h : Below wo.heap.size wo W) j (hj : j < Ls.length) => (h.cell (p := ⟨w.heap.size, j, none⟩) (by rcases hlA with h | h; exact h; omega)).trans (hcA j hj))
    have HOA := Lib.hid hownA
    have HOO := Lib.hid hownO
    have HOUT := Lib.hid hout
    clear hownA hownO hout hcA
    go_wp2_with fail
    go_loopw [5, 6] (fun who iv wr => ∃ i : Nat, i ≤ Ls.length ∧ iv = .int .i64 (i : Int) ∧ whoR Ls A i who ∧ Below wo.heap.size wo wr) (fun _ iv _ => Ls.length - (intOf iv).toNat)
    case atStart => exact ⟨0, Nat.zero_le _, rfl, .inl ⟨rfl, rfl⟩, Below.refl _ _⟩
    case round =>
      obtain ⟨i, hi, rfl, hwho, hBi⟩ := hrel
      obtain ⟨wi, rfl⟩ : ∃ wi : World, wi = wr := ⟨_, rfl⟩
      have hbis := hBi.size
      by_cases hlt : i < Ls.length
      · obtain ⟨rfl, hfb⟩ := ha (by omega)
        have hle := hAle i
        rw [gL hlt] at hle
        have hps := pickA_succ Ls A i
        have hhd : hd Ls A i = Ls[i][A.getD i 0]? := by unfold hd; rw [gL hlt]
        obtain ⟨ra, rcap, rb, ro, r1, r2, r3⟩ := HROW.out wi hBi i hlt
        have aA := HAT.out wi hBi i hlt
        have hij : (0 : Int) ≤ (i : Int) ∧ (i : Int) < (Ls.length : Int) := by omega
        by_cases hend : A.getD i 0 = Ls[i].length
        · have hee : (((A.getD i 0 : Nat) : Int) == ((Ls[i].length : Nat) : Int)) = true := by rw [hend]; simp
          have hh : hd Ls A i = none := by rw [hhd, List.getElem?_eq_none (by omega)]
          rw [hh] at hps
          have hps2 : pickA Ls A (i + 1) = pickA Ls A i := hps
          have HW := Lib.hid (show whoR Ls A (i + 1) u5 from by
            rcases hwho with ⟨h1, h2⟩ | ⟨k, x, h1, h2, h3, h4⟩
            · exact .inl ⟨hps2.trans h1, h2⟩
            · exact .inr ⟨k, x, by omega, h2, h3, hps2.trans h4⟩)
          clear hps hps2 hh hhd hwho r3
          generalize A.getD i 0 = ai at *
          generalize Ls[i].length = ln at *
          clear hend
          go_wp2_with fail
          go_big_quiet (fail)
          go_wp2_with fail
          go_roundw
          case rel => exact ⟨i + 1, by omega, by go_num, HW.out, belowN hBi _⟩
          case measure => simp [intOf]; omega
        · have hai : A.getD i 0 < Ls[i].length := by omega
          have hee : (((A.getD i 0 : Nat) : Int) == ((Ls[i].length : Nat) : Int)) = false := by rw [beq_eq_false_iff_ne]; omega
          have hh : hd Ls A i = some (Ls[i][A.getD i 0]'hai) := by rw [hhd, List.getElem?_eq_getElem hai]
          rw [hh] at hps
          obtain ⟨rfl, hrb⟩ := r2 (by omega)
          obtain ⟨x, hx⟩ : ∃ x, Ls[i][A.getD i 0]'hai = x := ⟨_, rfl⟩
          have hxin := HI.out _ (List.getElem_mem hlt) _ (List.getElem_mem hai)
          rw [hx] at hps hh hxin
          have HX := Lib.hid (fun W (h : Below wo.heap.size wo W) => by have := HROW.out W h i hlt; exact this)
          rcases hwho with ⟨h1, rfl⟩ | ⟨k, y, hk, rfl, hky, hpy⟩
          · have HW := Lib.hid (show whoR Ls A (i + 1) (.int .i64 (i : Int)) from .inr ⟨i, x, by omega, rfl, hh, by rw [hps, h1]; rfl⟩)
            clear hps hh hhd r3 h1 hx
            generalize A.getD i 0 = ai at *
            generalize Ls[i].length = ln at *
            go_wp2_with fail
            go_big_quiet (fail)
            go_wp2_with fail
            go_roundw
            case rel => exact ⟨i + 1, by omega, by go_num, HW.out, belowN hBi _⟩
            case measure => simp [intOf]; omega
          · have hkn : k < Ls.length := by omega
            have hak0 := hd_lt hky
            rw [gL hkn] at hak0
            have hak : A.getD k 0 < Ls[k].length := hak0
            have hy : Ls[k][A.getD k 0]'hak = y := by
              unfold hd at hky
              rw [gL hkn, List.getElem?_eq_getElem hak] at hky
              exact Option.some.inj hky
            have hyin := HI.out _ (List.getElem_mem hkn) _ (List.getElem_mem hak)
            rw [hy] at hyin
            have HLS := Lib.hid (fun W => Mt.lessR_any x y W hxin.wide hyin.wide)
            have hpk : pickA Ls A (i + 1) = some (if lessB x y = true then x else y) := by rw [hps, hpy]; rfl
            have HW2 := Lib.hid (show whoR Ls A (i + 1) (if lessB x y = true then .int .i64 (i : Int) else .int .i64 (k : Int)) from by
              by_cases hl : lessB x y = true
              · rw [if_pos hl] at hpk ⊢; exact .inr ⟨i, x, by omega, rfl, hh, hpk⟩
              · rw [if_neg hl] at hpk ⊢; exact .inr ⟨k, y, by omega, rfl, hky, hpk⟩)
            clear hpk
            have HRI := Lib.hid (fun W (h : Below wo.heap.size wo W) => show ∃ (ra : Option Addr) (rcap rb ro : Nat), W.cell? ⟨fb, fo + i, none⟩ = some (.slice ra Ls[i].length rcap) ∧ (0 < Ls[i].length → ra = some ⟨rb, ro, none⟩ ∧ rb < W.heap.size) ∧ At W rb (ro + A.getD i 0 * 4) x from by
              obtain ⟨ra', rcap', rb', ro', s1, s2, s3⟩ := HROW.out W h i hlt
              exact ⟨ra', rcap', rb', ro', s1, s2, hx ▸ s3 _ hai⟩)
            have HRK := Lib.hid (fun W (h : Below wo.heap.size wo W) => show ∃ (ra : Option Addr) (rcap rb ro : Nat), W.cell? ⟨fb, fo + k, none⟩ = some (.slice ra Ls[k].length rcap) ∧ (0 < Ls[k].length → ra = some ⟨rb, ro, none⟩ ∧ rb < W.heap.size) ∧ At W rb (ro + A.getD k 0 * 4) y from by
              obtain ⟨ra', rcap', rb', ro', s1, s2, s3⟩ := HROW.out W h k hkn
              exact ⟨ra', rcap', rb', ro', s1, s2, hy ▸ s3 _ hak⟩)
            have HAI := Lib.hid (fun W (h : Below wo.heap.size wo W) => HAT.out W h i hlt)
            have HAK := Lib.hid (fun W (h : Below wo.heap.size wo W) => HAT.out W h k hkn)
            have b1 : (0 : Int) ≤ ((A.getD i 0 : Nat) : Int) ∧ ((A.getD i 0 : Nat) : Int) < ((Ls[i].length : Nat) : Int) := by omega
            have b2 : (0 : Int) ≤ ((A.getD k 0 : Nat) : Int) ∧ ((A.getD k 0 : Nat) : Int) < ((Ls[k].length : Nat) : Int) := by omega
            have b3 : (0 : Int) ≤ (k : Int) ∧ (k : Int) < (Ls.length : Int) := by omega
            clear hps hh hhd hx hy r3 hky hpy
            generalize A.getD i 0 = ai at *
            generalize Ls[i].length = ln at *
            generalize A.getD k 0 = ak at *
            generalize Ls[k].length = kn at *
            obtain ⟨xk, xs, xd, xv⟩ := x
            obtain ⟨yk, ys, yd, yv⟩ := y
            unfold verV at HLS
            simp only at HLS
            go_wp2_with fail
            go_big_quiet (fail)
            have hBq : Below wo.heap.size wo (wi.drewN nq) := belowN hBi _
            generalize wi.drewN nq = wq at *
            have hqs := hBq.size
            clear r1 aA
            obtain ⟨ra', rcap', rb', ro', s1, s2, s3⟩ := HRI.out wq hBq
            obtain ⟨ka, kcap, kb, ko, k1, k2, k3⟩ := HRK.out wq hBq
            have aI := HAI.out wq hBq
            have aK := HAK.out wq hBq
            obtain ⟨rfl, hrb'⟩ := s2 (by omega)
            obtain ⟨rfl, hkb⟩ := k2 (by omega)
            obtain ⟨x0, x1, x2, x3⟩ := s3
            obtain ⟨y0, y1, y2, y3⟩ := k3
            simp only at x0 x1 x2 x3 y0 y1 y2 y3
            go_wp2_with fail
            go_still_tail 20, (by kernel_rfl)
            change wpList _ _ _ _ _ (World.drew _)
            have hBd : Below wo.heap.size wo wq.drew := hBq.drew
            generalize wq.drew = wd at *
            cases hl : lessB ⟨xk, xs, xd, xv⟩ ⟨yk, ys, yd, yv⟩ with
            | true =>
              rw [hl] at HLS HW2
              have HW := Lib.hid (show whoR Ls A (i + 1) (.int .i64 (i : Int)) from HW2.out)
              go_wp2_with (go_at_call 15; (with_reducible refine (HLS.out _).mono ?_); rintro e w3 ⟨rfl, hb3⟩; have hB3 := hBd.trans (hb3.mono hBd.size))
              go_roundw
              case rel => exact ⟨i + 1, by omega, by go_num, HW.out, hB3⟩
              case measure => simp [intOf]; omega
            | false =>
              rw [hl] at HLS HW2
              have HW := Lib.hid (show whoR Ls A (i + 1) (.int .i64 (k : Int)) from HW2.out)
              go_wp2_with (go_at_call 15; (with_reducible refine (HLS.out _).mono ?_); rintro e w3 ⟨rfl, hb3⟩; have hB3 := hBd.trans (hb3.mono hBd.size))
              go_roundw
              case rel => exact ⟨i + 1, by omega, by go_num, HW.out, hB3⟩
              case measure => simp [intOf]; omega
      · obtain rfl : i = Ls.length := by omega
        have hBw := hB.trans (hBi.mono hbs)
        rcases hwho with ⟨h1, rfl⟩ | ⟨k, x, hk, rfl, hkx, hpx⟩
        · have HE := Lib.hid (show merge Ls = out by rw [← HOUT.out, mergeA_end h1, List.append_nil])
          have hoO := own_after HOO.out hBi
          clear h1
          go_wp2_with fail
          go_ret
          exact ⟨_, rfl, by rw [HE.out]; exact hoO, hBw⟩
        · obtain ⟨rfl, hfb⟩ := ha (by omega)
          have hdown := left_down hAl hpx
          obtain ⟨m, hm⟩ : ∃ m, T - out.length = m + 1 := ⟨T - out.length - 1, by omega⟩
          have hm2 : T - (out ++ [x]).length = m := by rw [List.length_append, List.length_singleton]; omega
          have hstep : merge Ls = (out ++ [x]) ++ mergeA m Ls (advN Ls A x Ls.length) := by
            rw [← HOUT.out, hm, mergeA, hpx, List.append_assoc]; rfl
          have HST := Lib.hid hstep
          have hak0 := hd_lt hkx
          rw [gL hk] at hak0
          have hak : A.getD k 0 < Ls[k].length := hak0
          have hy : Ls[k][A.getD k 0]'hak = x := by
            unfold hd at hkx
            rw [gL hk, List.getElem?_eq_getElem hak] at hkx
            exact Option.some.inj hkx
          have hxin := HI.out _ (List.getElem_mem hk) _ (List.getElem_mem hak)
          rw [hy] at hxin
          obtain ⟨ka, kcap, kb, ko, k1, k2, k3⟩ := HROW.out wi hBi k hk
          have aK := HAT.out wi hBi k hk
          obtain ⟨rfl, hkb⟩ := k2 (by omega)
          obtain ⟨y0, y1, y2, y3⟩ := k3 _ hak
          rw [hy] at y0 y1 y2 y3
          have b2 : (0 : Int) ≤ ((A.getD k 0 : Nat) : Int) ∧ ((A.getD k 0 : Nat) : Int) < ((Ls[k].length : Nat) : Int) := by omega
          have b3 : (0 : Int) ≤ (k : Int) ∧ (k : Int) < (Ls.length : Int) := by omega
          have hfbi : fb < wi.heap.size := Nat.lt_of_lt_of_le hfb hBw.size
          have hwi : w.heap.size < wi.heap.size := by rcases hlA with h | h <;> omega
          have HAD := Lib.hid (show ∀ j, (advN Ls A x Ls.length).getD j 0 ≤ (Ls.getD j []).length from fun j => by
            by_cases hj : j < A.length
            · rw [advN_get Ls A x j hj]
              split
              · rename_i h
                have h2 := h.2
                unfold hit at h2
                cases hh : hd Ls A j with
                | none => rw [hh] at h2; cases h2
                | some z => have := hd_lt hh; omega
              · exact hAle j
            · rw [List.getD_eq_getElem?_getD, List.getElem?_eq_none (by rw [advN_len]; omega)]; exact Nat.zero_le _)
          clear k3 hy hkx hstep hpx
          generalize A.getD k 0 = ak at *
          generalize Ls[k].length = kn at *
          have hoA := own_after HOA.out hBi
          have hoO := own_after HOO.out hBi
          go_upto_region 15 with fail
          go_big_region
          have o5 : Ob.Obj (wi.alloc (.cells #[.string (Cd.bs x.key), .int .u64 x.seq, .bool x.del, .string (Cd.bs x.val)] 44)).drew wi.heap.size 44 [.string (Cd.bs x.key), .int .u64 x.seq, .bool x.del, .string (Cd.bs x.val)] := (Ob.Obj.new wi _ _).drew
          have b5 : Below wi.heap.size wi (wi.alloc (.cells #[.string (Cd.bs x.key), .int .u64 x.seq, .bool x.del, .string (Cd.bs x.val)] 44)).drew := ((Below.refl _ _).alloc (Nat.le_refl _) _).drew
          generalize (wi.alloc (.cells #[.string (Cd.bs x.key), .int .u64 x.seq, .bool x.del, .string (Cd.bs x.val)] 44)).drew = w5 at *
          obtain ⟨vb, hvb⟩ : ∃ vb, wi.heap.size = vb := ⟨_, rfl⟩
          have hoA5 := own_after hoA b5
          have hoO5 := own_after hoO b5
          have hap := Ob.rows_apart hoA5 hoO5 (by decide) w.heap.size (by simp [Value.ownBlock])
          have hvO : u4.ownBlock ≠ some vb := fun h => by have := (Ob.row_lt hoO h).2; omega
          rw [hvb] at o5
          have hvw : vb ≠ w.heap.size := by omega
          have hB5 : Below w.heap.size w w5 := hBw.trans (b5.mono hBw.size)
          have c0 := o5.cell 0
          have c1 := o5.cell 1
          have c2 := o5.cell 2
          have c3 := o5.cell 3
          simp at c0 c1 c2 c3
          have hz5 := hB5.size
          rw [hvb]
          clear hoA hoO b5 hvb
          go_upto_region 17 with (at_builtin; refine wpList_append_own _ rfl _ _ 28 rfl w.heap.size 44 j0 (.agg #[.string ⟨#[]⟩, .int .u64 0, .bool false, .string ⟨#[]⟩]) 4 48 Try.underlying28 hj0 hy0 hy1 hy2 rfl (by decide) _ _ _ rfl (hoO5.alloc _) ⟨w5.heap.size, 0, none⟩ 1 1 [_, _, _, _] rfl rfl (by simpa using Vs.cell_four_new w5 _ _ _ _ _) (by simp [Value.oneCell']) (by unfold maxLen; omega) (by omega) (by simp; omega) ?_; intro v6 w6 hown6 hgrow _)
          have hA6 := Sq.row_kept (hoA5.alloc (.cells #[.string (Cd.bs x.key), .int .u64 x.seq, .bool x.del, .string (Cd.bs x.val)] 44)) (Sq.Kept.grown (T := fun b => b = w.heap.size) hgrow (fun r hr h => by subst h; exact hap hr)) (fun g hg => by simpa [Value.ownBlock] using hg.symm)
          have o6 := (o5.alloc (.cells #[.string (Cd.bs x.key), .int .u64 x.seq, .bool x.del, .string (Cd.bs x.val)] 44)).grown hgrow hvO
          have hB6 := (hB5.alloc hz5 (.cells #[.string (Cd.bs x.key), .int .u64 x.seq, .bool x.del, .string (Cd.bs x.val)] 44)).grown hgrow (by simp; omega) (fun j hj => (hoO5.lt j hj).1)
          have hO6 : w6.ownsRow w.heap.size 44 4 v6 (out ++ [x]).length (vcs (out ++ [x])) := by rw [List.length_append, Vs.vcs_snoc]; exact hown6
          have hJ0 : mgJ Ls A x (out ++ [x]) vb v6 w 0 w6 := ⟨hA6, hO6, o6, hvw, hB6⟩
          clear hA6 o6 hB6 hO6 hown6 hgrow c0 c1 c2 c3 hap hvO o5 hoA5 hoO5
          go_wp2_with fail
          go_loopw [9] (fun iv wr => ∃ i : Nat, i ≤ Ls.length ∧ iv = .int .i64 (i : Int) ∧ mgJ Ls A x (out ++ [x]) vb v6 w i wr) (fun iv _ => Ls.length - (intOf iv).toNat)
          case atStart => exact ⟨0, Nat.zero_le _, rfl, hJ0⟩
          case round =>
            obtain ⟨i, hi', rfl, hJ⟩ := hrel
            obtain ⟨wj, rfl⟩ : ∃ wj : World, wj = wr := ⟨_, rfl⟩
            by_cases hlt : i < Ls.length
            · have hle := hAle i
              rw [gL hlt] at hle
              have hij : (0 : Int) ≤ (i : Int) ∧ (i : Int) < (Ls.length : Int) := by omega
              have HFA := Lib.hid (fun W (h : mgJ Ls A x (out ++ [x]) vb v6 w i W) => show (W.cell? ⟨w.heap.size, i, none⟩ = some (.int .i64 ((A.getD i 0 : Nat) : Int)) ∧ W.frozen? ⟨w.heap.size, i, none⟩ = false) ∧
                  (W.cell? ⟨vb, 0, none⟩ = some (.string (Cd.bs x.key)) ∧ W.cell? ⟨vb, 1, none⟩ = some (.int .u64 x.seq) ∧ W.cell? ⟨vb, 2, none⟩ = some (.bool x.del) ∧ W.cell? ⟨vb, 3, none⟩ = some (.string (Cd.bs x.val))) ∧ RowAt W fb (fo + i) Ls[i] from by
                obtain ⟨j1, j2, j3, j4, j5⟩ := h
                refine ⟨⟨?_, j1.frozenAt i⟩, ⟨by simpa using j3.cell 0, by simpa using j3.cell 1, by simpa using j3.cell 2, by simpa using j3.cell 3⟩, (HC.out i hlt).below j5 hfb⟩
                rw [j1.cellAt i (by omega)]
                have hl := advN_len Ls A x i
                have hg := advN_get Ls A x i (by omega) i
                rw [if_neg (fun h => Nat.lt_irrefl _ h.1), gA (by omega)] at hg
                simp only [nc, List.getElem?_map]
                rw [List.getElem?_eq_getElem (by omega), hg]; rfl)
              have hnx : hit Ls A x i = false → ∀ W, mgJ Ls A x (out ++ [x]) vb v6 w i W → mgJ Ls A x (out ++ [x]) vb v6 w (i + 1) W := fun hh W h => by
                unfold mgJ at h ⊢
                rw [advN_succ, if_neg (by rw [hh]; simp)]
                exact h
              have HJ := Lib.hid hJ
              obtain ⟨⟨aI, fI⟩, ⟨c0, c1, c2, c3⟩, ⟨ra, rcap, rb, ro, r1, r2, r3⟩⟩ := HFA.out wj hJ
              by_cases hend : A.getD i 0 < Ls[i].length
              · obtain ⟨z, hz⟩ : ∃ z, Ls[i][A.getD i 0]'hend = z := ⟨_, rfl⟩
                have hh : hit Ls A x i = placeB z x := by
                  unfold hit hd
                  rw [gL hlt, List.getElem?_eq_getElem hend, hz]
                have hzin := HI.out _ (List.getElem_mem hlt) _ (List.getElem_mem hend)
                rw [hz] at hzin
                have HPL := Lib.hid (fun W => Mt.placeR_any z x W hzin.wide hxin.wide)
                have HRZ := Lib.hid (fun W (h : mgJ Ls A x (out ++ [x]) vb v6 w i W) => show ∃ (ra : Option Addr) (rcap rb ro : Nat), W.cell? ⟨fb, fo + i, none⟩ = some (.slice ra Ls[i].length rcap) ∧ (0 < Ls[i].length → ra = some ⟨rb, ro, none⟩ ∧ rb < W.heap.size) ∧ At W rb (ro + A.getD i 0 * 4) z from by
                  obtain ⟨_, _, ⟨ra', rcap', rb', ro', s1, s2, s3⟩⟩ := HFA.out W h
                  exact ⟨ra', rcap', rb', ro', s1, s2, hz ▸ s3 _ hend⟩)
                have b1 : (0 : Int) ≤ ((A.getD i 0 : Nat) : Int) ∧ ((A.getD i 0 : Nat) : Int) < ((Ls[i].length : Nat) : Int) := by omega
                have b4 : ((A.getD i 0 : Nat) : Int) < ((Ls[i].length : Nat) : Int) := b1.2
                have hsml : Ls[i].length ≤ 1048576 := hLn _ (List.getElem_mem hlt)
                have HJS := Lib.hid (fun W (h : mgJ Ls A x (out ++ [x]) vb v6 w i W) (hp : placeB z x = true) => mgJ_store h (hh.trans hp))
                have HJN := Lib.hid (fun W (h : mgJ Ls A x (out ++ [x]) vb v6 w i W) (hp : placeB z x = false) => hnx (hh.trans hp) W h)
                clear r3 hz hh hnx
                generalize A.getD i 0 = ai at *
                generalize Ls[i].length = ln at *
                go_wp2_with fail
                go_big_quiet (fail)
                have hJq := mgJ_below HJ.out (show Below wj.heap.size wj (wj.drewN nq) from belowN (Below.refl _ _) _)
                generalize wj.drewN nq = wq at *
                clear aI fI c0 c1 c2 c3 r1 r2
                obtain ⟨⟨aI, fI⟩, ⟨c0, c1, c2, c3⟩, _⟩ := HFA.out wq hJq
                obtain ⟨ra', rcap', rb', ro', s1, s2, s3⟩ := HRZ.out wq hJq
                obtain ⟨rfl, hrb'⟩ := s2 (by omega)
                obtain ⟨z0, z1, z2, z3⟩ := s3
                obtain ⟨zk, zs, zd, zv⟩ := z
                unfold verV at HPL
                simp only at z0 z1 z2 z3 HPL
                go_wp2_with fail
                go_still_tail 11, (by kernel_rfl)
                change wpList _ _ _ _ _ (World.drew _)
                have hJd := mgJ_below hJq (show Below wq.heap.size wq wq.drew from (Below.refl _ _).drew)
                generalize wq.drew = wd at *
                cases hp : placeB ⟨zk, zs, zd, zv⟩ x with
                | true =>
                  rw [hp] at HPL
                  have HJS2 := Lib.hid (fun W h => HJS.out W h hp)
                  clear aI fI
                  go_wp2_with (go_at_call 27; (with_reducible refine (HPL.out _).mono ?_); rintro e w3 ⟨rfl, hb3⟩; have hJ3 := mgJ_below hJd hb3; have aI := (HFA.out w3 hJ3).1.1; have fI := (HFA.out w3 hJ3).1.2)
                  go_roundw
                  case rel => exact ⟨i + 1, by omega, by go_num, by simpa using HJS2.out _ hJ3⟩
                  case measure => simp [intOf]; omega
                | false =>
                  rw [hp] at HPL
                  have HJN2 := Lib.hid (fun W h => HJN.out W h hp)
                  go_wp2_with (go_at_call 27; (with_reducible refine (HPL.out _).mono ?_); rintro e w3 ⟨rfl, hb3⟩; have hJ3 := mgJ_below hJd hb3)
                  go_roundw
                  case rel => exact ⟨i + 1, by omega, by go_num, HJN2.out _ hJ3⟩
                  case measure => simp [intOf]; omega
              · have hh : hit Ls A x i = false := by
                  unfold hit hd
                  rw [gL hlt, List.getElem?_eq_none (by omega)]
                have HJN := Lib.hid (fun W h => hnx hh W h)
                have hed : decide (((A.getD i 0 : Nat) : Int) < ((Ls[i].length : Nat) : Int)) = false := by rw [decide_eq_false_iff_not]; omega
                clear r3 hh hnx
                generalize A.getD i 0 = ai at *
                generalize Ls[i].length = ln at *
                go_wp2_with fail
                go_big_quiet (fail)
                have hJq := mgJ_below HJ.out (show Below wj.heap.size wj (wj.drewN nq) from belowN (Below.refl _ _) _)
                generalize wj.drewN nq = wq at *
                go_wp2_with fail
                go_roundw
                case rel => exact ⟨i + 1, by omega, by go_num, HJN.out _ hJq⟩
                case measure => simp [intOf]; omega
            · have hie : i = Ls.length := by omega
              rw [hie] at hJ
              obtain ⟨j1, j2, j3, j4, j5⟩ := hJ
              have hid : decide ((i : Int) < (Ls.length : Int)) = false := by simp; omega
              clear hie
              go_wp2_with fail
              go_roundg (T - (out ++ [x]).length)
              case rel => exact ⟨advN Ls A x Ls.length, out ++ [x], rfl, by rw [advN_len]; exact hAl, HAD.out, by rw [hm2]; exact HST.out.symm, by omega, by rw [List.length_append, List.length_singleton]; omega, j1, j2, j5⟩
              case measure => rw [List.length_append, List.length_singleton]; omega
end Mg
end Go.Proofs.Ythcllaombabpbaa

/-
  tapestrylaw09: a list as a sequence (row); lists as sequences (rows).
-/
namespace Go.Proofs.Ythcllaombabpbaa
open Go.RowKit Go.Shelf
set_option linter.unusedSimpArgs false
set_option linter.unusedVariables false
namespace Mg
open Mt (Ver mayB lessB placeB VerIn verV)
open Vs (Vers At vcs)
open Tb (ver0 getD_at own_after lower_row)
attribute [local go_sem] Oper.semAt_some

/-- the blocks that a list's sequence reads -/
abbrev rowT (B fb n : Nat) : Sq.Blocks := fun k => k = B ∨ (0 < n ∧ k = fb)

set_option maxRecDepth 100000 in
set_option maxHeartbeats 2000000 in
theorem row1_seq (n : Nat) (hn : 1 ≤ n) (L : List Ver) (hL : L.length ≤ 1099511627776) (a : Option Addr) (cap fb fo B : Nat) (w : World) (hB : Boxed w B 28 (.slice a L.length cap)) (ha : 0 < L.length → a = some ⟨fb, fo, none⟩)
    (hc : ∀ j (h : j < L.length), At w fb (fo + j * 4) L[j]) :
    Sq.SeqC Fence.wide n Try.prog 33 #[.pointer (some ⟨B, 0, none⟩)] vEnc9 (rowT B fb L.length) (fun ys => ys = L) (fun pre => pre <+: L) w := by
  intro lp J Jx W hW hJ hJx hY h0
  have hBW := hW.boxed (.inl rfl) hB
  have HC := Lib.hid (fun X (h : Sq.Kept (rowT B fb L.length) W X) j (hj : j < L.length) => show At X fb (fo + j * 4) L[j] from by
    obtain ⟨h1, h2, h3, h4⟩ := hc j hj
    have hk := hW.trans h
    have ht : rowT B fb L.length fb := .inr ⟨by omega, rfl⟩
    exact ⟨hk.cell (p := ⟨fb, fo + j * 4, none⟩) ht h1, hk.cell (p := ⟨fb, fo + j * 4 + 1, none⟩) ht h2, hk.cell (p := ⟨fb, fo + j * 4 + 2, none⟩) ht h3, hk.cell (p := ⟨fb, fo + j * 4 + 3, none⟩) ht h4⟩)
  refine callsIn_of_wp Try.func33 rfl trivial ?_ rfl
  simp only [Try.ntmps33, List.size_toArray, List.length_cons, List.length_nil, Nat.reduceAdd, Nat.reduceSub, Array.replicate_succ, Array.replicate_zero, List.push_toArray, List.append_toArray, List.nil_append, List.cons_append]
  gi_wp2_with fail
  gi_loopw [3] (fun i wr => ∃ q : Nat, q ≤ L.length ∧ i = .int .i64 (q : Int) ∧ J (fun _ => False) (L.take q) wr ∧ Sq.Kept (rowT B fb L.length) W wr) (fun i _ => L.length - (intOf i).toNat)
  case atStart => exact ⟨0, Nat.zero_le _, rfl, h0, Sq.Kept.refl _ _⟩
  case round =>
    obtain ⟨q, hq, rfl, hJs, hk⟩ := hrel
    have hb := hk.boxed (.inl rfl) hBW
    have hcb := hb.cell
    by_cases hlt : q < L.length
    · obtain rfl := ha (by omega)
      obtain ⟨e0, e1, e2, e3⟩ := HC.out wr hk q hlt
      have hi1 : (0 : Int) ≤ (q : Int) ∧ (q : Int) < (L.length : Int) := by omega
      have hts := List.take_succ_eq_append_getElem hlt
      have HSP := Lib.hid (show L.take q ++ [L[q]] <+: L by rw [← hts]; exact List.take_prefix _ _)
      have HTS := Lib.hid hts
      obtain ⟨fn, tmps, assign, body, hy, hR⟩ := hY (fun _ => False) (L.take q) L[q] wr hJs (fun k h => h.elim) HSP.out
      have HR := Lib.hid hR
      clear hR hts
      generalize L[q] = x at *
      obtain ⟨xk, xs, xd, xv⟩ := x
      simp only [vEnc9] at hy
      simp only at e0 e1 e2 e3
      gi_wp2
      refine HR.out.mono ?_
      rintro e W3 (⟨rfl, hJ3, hk3⟩ | ⟨rfl, hJx3, hk3⟩)
      · gi_wp2
        go_roundw
        case rel => exact ⟨q + 1, by omega, by go_num, by rw [HTS.out]; exact hJ3, hk.trans (hk3.less (fun k hk _ => .inr hk))⟩
        case measure => simp [intOf]; omega
      · gi_wp2
        refine bodyPost_ret (results_none rfl _ _ _) rfl ?_
        exact ⟨⟨_, rfl⟩, .inr ⟨_, _, HSP.out, hJx3⟩⟩
    · obtain rfl : q = L.length := by omega
      rw [List.take_length] at hJs
      gi_wp2
      go_end0
      exact ⟨⟨_, rfl⟩, .inl ⟨_, _, rfl, hJs⟩⟩

set_option maxHeartbeats 1000000 in
/-- row(l) tells l; what it reads is the list's own block or new -/
theorem row_anyT (v : Value) (L : List Ver) (B : Nat) (w : World) (hV : Vers B w v L) (hBw : B ≤ w.heap.size) (hL : L.length ≤ 1099511627776) :
    Calls Try.prog 13 #[v] w fun e w' => ∃ u T, e = .returned u ∧ Tells w' u L T ∧ (∀ k, T k → k < B ∨ w.heap.size ≤ k) ∧ Below w.heap.size w w' := by
  obtain ⟨a, cap, fb, fo, rfl, ha, hcells⟩ := hV
  have HC := Lib.hid hcells
  clear hcells
  go_enter Try.func13, Try.ntmps13
  go_wp2
  go_ret
  have hb : Below w.heap.size w (w.alloc (.cells #[.slice a L.length cap] 28)) := (Below.refl _ _).alloc (Nat.le_refl _) _
  have hbx := Boxed.new w 28 (.slice a L.length cap)
  refine ⟨_, rowT w.heap.size fb L.length, rfl, ⟨33, #[.pointer (some ⟨w.heap.size, 0, none⟩)], rfl, enters_of Try.func33 (by kernel_rfl) rfl, ?_, fun W hW => ?_⟩, ?_, hb⟩
  · rintro k (rfl | ⟨h0, rfl⟩)
    · simp
    · have := (ha h0).2; simp; omega
  · refine row1_seq 11 (by omega) L hL a cap fb fo w.heap.size W (hW.boxed (.inl rfl) hbx) (fun h => (ha h).1) (fun j hj => ?_)
    have hfb : fb < w.heap.size := Nat.lt_of_lt_of_le (ha (by omega)).2 hBw
    obtain ⟨h1, h2, h3, h4⟩ := (HC.out j hj).below hb hfb
    have ht : rowT w.heap.size fb L.length fb := .inr ⟨by omega, rfl⟩
    exact ⟨hW.cell (p := ⟨fb, fo + j * 4, none⟩) ht h1, hW.cell (p := ⟨fb, fo + j * 4 + 1, none⟩) ht h2, hW.cell (p := ⟨fb, fo + j * 4 + 2, none⟩) ht h3, hW.cell (p := ⟨fb, fo + j * 4 + 3, none⟩) ht h4⟩
  · rintro k (rfl | ⟨h0, rfl⟩)
    · exact .inr (Nat.le_refl _)
    · exact .inl (ha h0).2
/-- row(l) tells l -/
theorem row_any (v : Value) (L : List Ver) (w : World) (hV : Vers w.heap.size w v L) (hL : L.length ≤ 1099511627776) :
    Calls Try.prog 13 #[v] w fun e w' => ∃ u T, e = .returned u ∧ Tells w' u L T ∧ Below w.heap.size w w' := by
  refine (row_anyT v L w.heap.size w hV (Nat.le_refl _) hL).mono ?_
  rintro e w' ⟨u, T, h1, h2, _, h3⟩
  exact ⟨u, T, h1, h2, h3⟩
end Mg
end Go.Proofs.Ythcllaombabpbaa

/-
  Plain mathematics of P9.4: the lists of a row, together, are the row; what it is to tell lists that the loop may write to.
-/
namespace Go.Proofs.Ythcllaombabpbaa
open Go.RowKit
set_option linter.unusedSimpArgs false
set_option linter.unusedVariables false
namespace Mg
open Mt (Ver VerIn verV)
open Vs (Vers At vcs)
open Tb (ver0)
theorem ctN_flat (b : Int) (L : List Ver) : ∀ n, n ≤ L.length → (((ctN b L n).1.map (Tb.part L)).flatten = L.take (ctN b L n).2 ∧ (ctN b L n).2 ≤ n)
  | 0, _ => ⟨rfl, Nat.le_refl _⟩
  | n + 1, h => by
    obtain ⟨h1, h2⟩ := ctN_flat b L n (by omega)
    rw [ctN_succ]
    generalize ctN b L n = st at *
    unfold ctStep
    split
    · refine ⟨?_, Nat.le_refl _⟩
      simp only [List.map_append, List.map_cons, List.map_nil, List.flatten_append, h1, List.flatten_cons, List.flatten_nil, List.append_nil]
      unfold Tb.part
      simp only
      have : n + 1 = st.2 + (n + 1 - st.2) := by omega
      conv => rhs; rw [this]
      rw [List.take_add]
    · exact ⟨h1, by omega⟩
/-- the lists -/
def cutLs (L : List Ver) (b : Int) : List (List Ver) := (cut L b).map (Tb.part L)
theorem cut_flat (L : List Ver) (b : Int) : (cutLs L b).flatten = L := by
  unfold cutLs cut
  obtain ⟨h1, h2⟩ := ctN_flat b L L.length (Nat.le_refl _)
  rw [h1]
  cases hl : L.length with
  | zero => rw [List.eq_nil_of_length_eq_zero hl]; simp
  | succ m =>
    have : (ctN b L (m + 1)).2 = m + 1 := by
      rw [ctN_succ]
      unfold ctStep
      rw [if_pos (.inl hl.symm)]
    rw [this, List.take_of_length_le (by omega)]
theorem cut_each (L : List Ver) (b : Int) : ∀ C ∈ cutLs L b, C ≠ [] ∧ ∀ x ∈ C, x ∈ L := by
  intro C hC
  unfold cutLs at hC
  obtain ⟨p, hp, rfl⟩ := List.mem_map.1 hC
  obtain ⟨h1, h2⟩ := (ctN_in b L L.length).2.2 p hp
  refine ⟨fun e => ?_, fun x hx => List.mem_of_mem_drop (List.mem_of_mem_take hx)⟩
  have := congrArg List.length e
  unfold Tb.part at this
  simp at this
  omega
theorem cut_many (L : List Ver) (b : Int) : (cutLs L b).length ≤ L.length := by
  unfold cutLs; rw [List.length_map]; exact (ctN_in b L L.length).2.1
/-- a list that is told, and where it lies -/
structure Told where
  a : Option Addr
  cap : Nat
  fb : Nat
  fo : Nat
  l : List Ver
abbrev cEnc9 (x : Told) : Array Value := #[.slice x.a x.l.length x.cap]
def CFx (x : Told) (R : Sq.Blocks) (W : World) : Prop :=
  x.l ≠ [] → x.a = some ⟨x.fb, x.fo, none⟩ ∧ R x.fb ∧ x.fb < W.heap.size ∧ (∀ o, W.frozen? ⟨x.fb, o, none⟩ = false) ∧ ∀ j (h : j < x.l.length), At W x.fb (x.fo + j * 4) x.l[j]
def COwn (x : Told) : Sq.Blocks := fun k => x.l ≠ [] ∧ k = x.fb
theorem CFx.mono : ∀ (x : Told) (R R' : Sq.Blocks) (W : World), CFx x R W → (∀ k, R k → R' k) → CFx x R' W := fun x R R' W h hR hn => let ⟨h1, h2, h3⟩ := h hn; ⟨h1, hR _ h2, h3⟩
theorem at_kept {T : Sq.Blocks} {W W' : World} {b o : Nat} {x : Ver} (h : At W b o x) (hk : Sq.Kept T W W') (hT : T b) : At W' b o x :=
  ⟨hk.cell (p := ⟨b, o, none⟩) hT h.1, hk.cell (p := ⟨b, o + 1, none⟩) hT h.2.1, hk.cell (p := ⟨b, o + 2, none⟩) hT h.2.2.1, hk.cell (p := ⟨b, o + 3, none⟩) hT h.2.2.2⟩
theorem CFx.kept : ∀ (x : Told) (R : Sq.Blocks) (W W' : World), CFx x R W → Sq.Kept R W W' → CFx x R W' := fun x R W W' h hk hn => by
  obtain ⟨h1, h2, h3, h4, h5⟩ := h hn
  exact ⟨h1, h2, Nat.lt_of_lt_of_le h3 hk.size, fun o => (World.frozen?_of_block (w := W) (hk.block _ h2 h3)).trans (h4 o), fun j hj => at_kept (h5 j hj) hk h2⟩
theorem CFx.own : ∀ (x : Told) (R : Sq.Blocks) (W : World) (k : Nat), CFx x R W → COwn x k → R k := fun x R W k h hk => by
  obtain ⟨hn, rfl⟩ := hk
  exact (h hn).2.1
/-- A FUNCTION VALUE THAT TELLS THESE LISTS, each in memory that is the loop's from then on, wherever the blocks of T stand as they do. -/
def TellsC (w : World) (v : Value) (Cs : List (List Ver)) (T : Sq.Blocks) : Prop :=
  ∃ (gf : Nat) (lb : Array Value), v = .func (.func gf) #[] lb ∧ (∀ args w, (callFunc gf args).run Try.prog w = .ok (.enter gf args) w) ∧ (∀ k, T k → k < w.heap.size) ∧
    ∀ W, Sq.Kept T w W → Sq.SeqW Fence.wide 11 Try.prog gf lb cEnc9 CFx COwn T (fun ys => ys.map (·.l) = Cs) (fun pre => pre.map (·.l) <+: Cs) W

end Mg
end Go.Proofs.Ythcllaombabpbaa
/-
  Chapter 9 told version by version: what an iterator that keeps nothing back has told behind the first n (for whatever program lands).
-/
namespace Go.Proofs.Ythcllaombabpbaa
open Go.RowKit
set_option linter.unusedVariables false
namespace Sq
/-- where no depth is asked an iterator owes the same at every figure -/
theorem seqC_any {α : Type} {P : Program} {g : Nat} {lb : Array Value} {encs : α → Array Value} {T : Blocks} {S Sp : List α → Prop} {w : World} {n : Nat} (m : Nat) (h : SeqC Fence.wide n P g lb encs T S Sp w) : SeqC Fence.wide m P g lb encs T S Sp w :=
  fun l J Jx W hW hJ hJx hY h0 => callsIn_wide.2 (callsIn_wide.1 (h l J Jx W hW hJ hJx (fun R pre x W1 h1 h2 h3 => anyDepth rfl (n - 1) (hY R pre x W1 h1 h2 h3)) h0))
theorem seqW_any {α : Type} {P : Program} {g : Nat} {lb : Array Value} {encs : α → Array Value} {Fx : α → Blocks → World → Prop} {Own : α → Blocks} {T : Blocks} {S Sp : List α → Prop} {w : World} {n : Nat} (m : Nat) (h : SeqW Fence.wide n P g lb encs Fx Own T S Sp w) : SeqW Fence.wide m P g lb encs Fx Own T S Sp w :=
  fun l J Jx W hW hJ hJx hY h0 => callsIn_wide.2 (callsIn_wide.1 (h l J Jx W hW hJ hJx (fun R pre x W1 h1 h2 h3 h4 => anyDepth rfl (n - 1) (hY R pre x W1 h1 h2 h3 h4)) h0))
end Sq
namespace Mg
open Op (bytesLess)
open Mt (Ver)
open Tb (ver0 getD_at)
theorem pre_len {L pre : List Ver} {x : Ver} (h : pre ++ [x] <+: L) : pre.length < L.length := by have := h.length_le; simp at this; omega
theorem pre_at {L pre : List Ver} {x : Ver} (h : pre ++ [x] <+: L) : L.getD pre.length ver0 = x := by
  obtain ⟨t, rfl⟩ := h
  simp [List.getD_eq_getElem?_getD]
theorem pre_last {L pre : List Ver} {x : Ver} (h : pre ++ [x] <+: L) (h0 : pre ≠ []) : L.getD (pre.length - 1) ver0 = pre.getLast h0 := by
  obtain ⟨t, rfl⟩ := h
  have : 0 < pre.length := List.length_pos_iff.2 h0
  rw [List.getD_eq_getElem?_getD, List.append_assoc, List.getElem?_append_left (by omega), List.getLast_eq_getElem, List.getElem?_eq_getElem (by omega), Option.getD_some]
theorem newG_pre {L pre : List Ver} {x : Ver} (h : pre ++ [x] <+: L) : newG L pre.length = (match pre.getLast? with | none => true | some y => x.key != y.key) := by
  unfold newG
  rw [pre_at h]
  cases hp : pre.getLast? with
  | none => rw [List.getLast?_eq_none_iff] at hp; subst hp; simp
  | some y =>
    have h0 : pre ≠ [] := by rintro rfl; simp at hp
    rw [List.getLast?_eq_some_getLast h0] at hp
    rw [pre_last h h0, Option.some.inj hp]
    have : pre.length ≠ 0 := by simpa using h0
    simp [this]
/-- MERGE's twin for Pairs: what is told only grows -/
theorem prN_grows (seq : Int) (lo : List UInt8) (L : List Ver) (n : Nat) : ∀ m, n ≤ m → (prN seq lo L n).1 <+: (prN seq lo L m).1
  | 0, h => by obtain rfl : n = 0 := by omega
               exact List.prefix_refl _
  | m + 1, h => by
    by_cases he : n = m + 1
    · subst he; exact List.prefix_refl _
    · refine (prN_grows seq lo L n m (by omega)).trans ?_
      rw [prN_succ]
      unfold prStep
      split
      · exact List.prefix_refl _
      · exact List.prefix_append _ _
theorem getD_pre {L M : List Ver} (h : M <+: L) {i : Nat} (hi : i < M.length) : M.getD i ver0 = L.getD i ver0 := by
  obtain ⟨t, rfl⟩ := h
  simp only [List.getD_eq_getElem?_getD]
  rw [List.getElem?_append_left hi]
theorem newG_of_pre {L M : List Ver} (h : M <+: L) {i : Nat} (hi : i < M.length) : newG M i = newG L i := by
  unfold newG
  rw [getD_pre h hi, getD_pre h (by omega : i - 1 < M.length)]
theorem prN_pre (seq : Int) (lo : List UInt8) {L M : List Ver} (h : M <+: L) : ∀ n, n ≤ M.length → prN seq lo M n = prN seq lo L n
  | 0, _ => rfl
  | n + 1, hn => by
    rw [prN_succ, prN_succ, prN_pre seq lo h n (by omega)]
    unfold prStep
    rw [newG_of_pre h (by omega), getD_pre h (by omega)]
theorem below_pre (L : List Ver) (hi : List UInt8) : below L hi <+: L := List.takeWhile_prefix _
/-- the first one that is not below hi ends it -/
theorem below_stop {L pre : List Ver} {x : Ver} {hi : List UInt8} (h : pre ++ [x] <+: L) (hp : ∀ v ∈ pre, (hi.isEmpty || bytesLess v.key hi) = true) (hx : (hi.isEmpty || bytesLess x.key hi) = false) : below L hi = pre := by
  obtain ⟨t, rfl⟩ := h
  unfold below
  rw [List.append_assoc, List.takeWhile_append_of_pos hp, List.singleton_append, List.takeWhile_cons_of_neg (by simpa using hx), List.append_nil]
theorem below_all {L : List Ver} {hi : List UInt8} (hp : ∀ v ∈ L, (hi.isEmpty || bytesLess v.key hi) = true) : below L hi = L := by
  unfold below
  have := List.takeWhile_append_of_pos (l₂ := []) hp
  simpa using this
theorem pairs_stop {L pre : List Ver} {x : Ver} {seq : Int} {lo hi : List UInt8} (h : pre ++ [x] <+: L) (hp : ∀ v ∈ pre, (hi.isEmpty || bytesLess v.key hi) = true) (hx : (hi.isEmpty || bytesLess x.key hi) = false) : pairs L seq lo hi = (prN seq lo L pre.length).1 := by
  unfold pairs
  rw [below_stop h hp hx, prN_pre seq lo ((List.prefix_append pre [x]).trans h) _ (Nat.le_refl _)]
theorem pairs_all {L : List Ver} {seq : Int} {lo hi : List UInt8} (hp : ∀ v ∈ L, (hi.isEmpty || bytesLess v.key hi) = true) : pairs L seq lo hi = (prN seq lo L L.length).1 := by
  unfold pairs
  rw [below_all hp]
/-- what has been told behind the first ones, all below hi, begins what is told -/
theorem pairs_grows {L pre : List Ver} {seq : Int} {lo hi : List UInt8} (h : pre <+: L) (hp : ∀ v ∈ pre, (hi.isEmpty || bytesLess v.key hi) = true) : (prN seq lo L pre.length).1 <+: pairs L seq lo hi := by
  unfold pairs
  have hb : pre <+: below L hi := by
    obtain ⟨t, rfl⟩ := h
    unfold below
    rw [List.takeWhile_append_of_pos hp]
    exact List.prefix_append _ _
  rw [← prN_pre seq lo (below_pre L hi) pre.length hb.length_le]
  exact prN_grows _ _ _ _ _ hb.length_le

/-- what is held back of the group at hand -/
def pend (fl : List Int) (bottom : Bool) (L : List Ver) (n : Nat) : List Ver := (kpN fl bottom L n).2.drop (trim bottom (kpN fl bottom L n).2).length
theorem trim_pre (bottom : Bool) (l : List Ver) : trim bottom l <+: l := by
  unfold trim
  split
  · have := List.dropWhile_suffix (·.del) (l := l.reverse)
    rw [← List.reverse_prefix, List.reverse_reverse] at this
    exact this
  · exact List.prefix_refl _
theorem trim_pend (fl : List Int) (bottom : Bool) (L : List Ver) (n : Nat) : trim bottom (kpN fl bottom L n).2 ++ pend fl bottom L n = (kpN fl bottom L n).2 := by
  unfold pend
  obtain ⟨t, ht⟩ := trim_pre bottom (kpN fl bottom L n).2
  generalize trim bottom (kpN fl bottom L n).2 = A at *
  rw [← ht]
  simp
theorem trim_more (bottom : Bool) (l : List Ver) (v : Ver) : trim bottom (l ++ [v]) = if (bottom && v.del) = true then trim bottom l else l ++ [v] := by
  unfold trim
  cases bottom
  · simp
  · simp only [Bool.true_and, if_true]
    rw [List.reverse_append, List.reverse_singleton, List.singleton_append, List.dropWhile_cons]
    split
    · rfl
    · simp
/-- A VERSION MORE, with which a group begins. -/
theorem kpF_new {fl : List Int} {bottom : Bool} {L : List Ver} {n : Nat} (h : newG L n = true) :
    kpF fl bottom L (n + 1) = kpF fl bottom L n ++ (if (bottom && (L.getD n ver0).del) = true then [] else [L.getD n ver0]) ∧ pend fl bottom L (n + 1) = (if (bottom && (L.getD n ver0).del) = true then [L.getD n ver0] else []) := by
  have hs : kpN fl bottom L (n + 1) = ((kpN fl bottom L n).1 ++ trim bottom (kpN fl bottom L n).2, [L.getD n ver0]) := by
    rw [kpN_succ]; unfold kpStep; rw [if_pos h]
  have ht := trim_more bottom [] (L.getD n ver0)
  rw [List.nil_append] at ht
  have h0 : trim bottom [] = [] := by unfold trim; split <;> rfl
  unfold kpF pend
  rw [hs]
  simp only
  rw [ht, h0]
  split <;> simp
/-- A VERSION MORE of the group at hand that is needed. -/
theorem kpF_seen {fl : List Int} {bottom : Bool} {L : List Ver} {n : Nat} (h : newG L n = false) (hs : seenAt fl L n = true) :
    kpF fl bottom L (n + 1) = kpF fl bottom L n ++ (if (bottom && (L.getD n ver0).del) = true then [] else pend fl bottom L n ++ [L.getD n ver0]) ∧ pend fl bottom L (n + 1) = (if (bottom && (L.getD n ver0).del) = true then pend fl bottom L n ++ [L.getD n ver0] else []) := by
  have h1 : kpN fl bottom L (n + 1) = ((kpN fl bottom L n).1, (kpN fl bottom L n).2 ++ [L.getD n ver0]) := by
    rw [kpN_succ]; unfold kpStep; rw [if_neg (by rw [h]; simp), if_pos hs]
  have hp := trim_pend fl bottom L n
  have ht := trim_more bottom (kpN fl bottom L n).2 (L.getD n ver0)
  unfold kpF
  constructor
  · rw [h1]
    simp only
    rw [ht]
    split
    · simp
    · conv => lhs; rw [← hp]
      simp
  · conv => lhs; unfold pend
    rw [h1]
    simp only
    rw [ht]
    split
    · rw [List.drop_append_of_le_length (trim_pre _ _).length_le]
      rfl
    · simp
/-- A VERSION MORE that is not needed. -/
theorem kpF_skip {fl : List Int} {bottom : Bool} {L : List Ver} {n : Nat} (h : newG L n = false) (hs : seenAt fl L n = false) : kpF fl bottom L (n + 1) = kpF fl bottom L n ∧ pend fl bottom L (n + 1) = pend fl bottom L n := by
  have h1 : kpN fl bottom L (n + 1) = kpN fl bottom L n := by
    rw [kpN_succ]; unfold kpStep; rw [if_neg (by rw [h]; simp), if_neg (by rw [hs]; simp), List.append_nil]
  unfold kpF pend
  rw [h1]
  exact ⟨rfl, rfl⟩
theorem kpF_grows (fl : List Int) (bottom : Bool) (L : List Ver) (n : Nat) : ∀ m, n ≤ m → kpF fl bottom L n <+: kpF fl bottom L m
  | 0, h => by obtain rfl : n = 0 := by omega
               exact List.prefix_refl _
  | m + 1, h => by
    by_cases he : n = m + 1
    · subst he; exact List.prefix_refl _
    · refine (kpF_grows fl bottom L n m (by omega)).trans ?_
      by_cases hn : newG L m = true
      · rw [(kpF_new hn).1]; exact List.prefix_append _ _
      · by_cases hs : seenAt fl L m = true
        · rw [(kpF_seen (by simpa using hn) hs).1]; exact List.prefix_append _ _
        · rw [(kpF_skip (by simpa using hn) (by simpa using hs)).1]; exact List.prefix_refl _

/-- CUT: the version of place n+1 has come; what it decides. -/
theorem ctN_mid {b : Int} {L : List Ver} {n : Nat} (h : n + 1 < L.length) : ctN b L (n + 1) = if newG L (n + 1) = true ∧ b ≤ (bytes ((L.drop (ctN b L n).2).take (n + 1 - (ctN b L n).2)) : Int) then ((ctN b L n).1 ++ [((ctN b L n).2, n + 1 - (ctN b L n).2)], n + 1) else ctN b L n := by
  rw [ctN_succ]
  unfold ctStep
  by_cases hc : newG L (n + 1) = true ∧ b ≤ (bytes ((L.drop (ctN b L n).2).take (n + 1 - (ctN b L n).2)) : Int)
  · rw [if_pos (.inr hc), if_pos hc]
  · rw [if_neg (fun h2 => h2.elim (fun h2 => by omega) hc), if_neg hc]
/-- the end of s has come -/
theorem ctN_end {b : Int} {L : List Ver} {n : Nat} (h : n + 1 = L.length) : ctN b L L.length = ((ctN b L n).1 ++ [((ctN b L n).2, n + 1 - (ctN b L n).2)], n + 1) := by
  rw [← h, ctN_succ]
  unfold ctStep
  rw [if_pos (.inl h)]
theorem ctN_grows (b : Int) (L : List Ver) (n : Nat) : ∀ m, n ≤ m → (ctN b L n).1 <+: (ctN b L m).1
  | 0, h => by obtain rfl : n = 0 := by omega
               exact List.prefix_refl _
  | m + 1, h => by
    by_cases he : n = m + 1
    · subst he; exact List.prefix_refl _
    · refine (ctN_grows b L n m (by omega)).trans ?_
      rw [ctN_succ]
      unfold ctStep
      split
      · exact List.prefix_append _ _
      · exact List.prefix_refl _
theorem cutLs_grows (b : Int) (L : List Ver) (n : Nat) (hn : n ≤ L.length) : ((ctN b L n).1.map (Tb.part L)) <+: cutLs L b := by
  obtain ⟨t, ht⟩ := ctN_grows b L n L.length hn
  exact ⟨t.map (Tb.part L), by unfold cutLs cut; rw [← ht, List.map_append]⟩
/-- bytes of one version more -/
theorem bytes_snoc (l : List Ver) (v : Ver) : bytes (l ++ [v]) = bytes l + (v.key.length + v.val.length + 16) := by
  unfold bytes; rw [List.map_append, List.sum_append]; simp
end Mg
end Go.Proofs.Ythcllaombabpbaa

/-
  A row of uint64 in one block, as an array; two elements swapped; less.
-/
namespace Go.Proofs.Ythcllaombabpbaa
open Go.RowKit Go.Sort
set_option linter.unusedSimpArgs false
set_option linter.unusedVariables false
namespace So6

/-- the block's cells are the array's elements, and others behind -/
def Ar (W : World) (b : Nat) (d : Array Int) (rest : List Value) : Prop := Ob.Obj W b 39 (d.toList.map (Value.int .u64) ++ rest)
theorem Ar.cell {W : World} {b : Nat} {d : Array Int} {rest : List Value} (h : Ar W b d rest) {j : Nat} (hj : j < d.size) : W.cell? ⟨b, j, none⟩ = some (.int .u64 d[j]!) := by
  rw [Ob.Obj.cell h j, List.getElem?_append_left (by simpa using hj), List.getElem?_map, Array.getElem?_toList, Array.getElem?_eq_getElem hj, getElem!_pos d j hj]
  rfl
theorem Ar.frozen {W : World} {b : Nat} {d : Array Int} {rest : List Value} (h : Ar W b d rest) (j : Nat) : W.frozen? ⟨b, j, none⟩ = false := Ob.Obj.frozen h j
theorem Ar.lt {W : World} {b : Nat} {d : Array Int} {rest : List Value} (h : Ar W b d rest) : b < W.heap.size := Ob.Obj.lt h
theorem Ar.drewN {W : World} {b : Nat} {d : Array Int} {rest : List Value} (h : Ar W b d rest) (n : Nat) : Ar (W.drewN n) b d rest := h
theorem Ar.below {W W' : World} {b : Nat} {d : Array Int} {rest : List Value} (h : Ar W b d rest) (hb : Below W.heap.size W W') : Ar W' b d rest := Ob.Obj.below h hb
theorem swp_size (d : Array Int) (i j : Nat) : (swp d i j).size = d.size := by simp [swp]
theorem Ar.set {W : World} {b : Nat} {d : Array Int} {rest : List Value} (h : Ar W b d rest) {i : Nat} (hi : i < d.size) (x : Int) : Ar (W.setCell ⟨b, i, none⟩ (.int .u64 x)) b (d.setIfInBounds i x) rest := by
  have := Ob.Obj.set h i (.int .u64 x)
  unfold Ar
  rw [List.set_append_left _ _ (by simpa using hi)] at this
  rw [Array.toList_setIfInBounds, List.map_set]
  exact this
theorem Ar.swap {W : World} {b : Nat} {d : Array Int} {rest : List Value} (h : Ar W b d rest) {i j : Nat} (hi : i < d.size) (hj : j < d.size) :
    Ar ((W.setCell ⟨b, i, none⟩ (.int .u64 d[j]!)).setCell ⟨b, j, none⟩ (.int .u64 d[i]!)) b (swp d i j) rest :=
  (h.set hi d[j]!).set (by simpa using hj) d[i]!
theorem kept_swap {W : World} {b i j : Nat} (u v : Value) : Sq.Kept (fun k => k ≠ b) W ((W.setCell ⟨b, i, none⟩ u).setCell ⟨b, j, none⟩ v) :=
  (Sq.Kept.setCell _ _ (fun h => h rfl)).trans (Sq.Kept.setCell _ _ (fun h => h rfl))

set_option maxHeartbeats 1000000 in
theorem nan_any (x : Int) (w : World) : Calls Try.prog 94 #[.int .u64 x] w fun e w' => e = .returned (.bool false) ∧ w = w' := by
  go_enter Try.func94, Try.ntmps94
  go_wp2_with fail
  go_ret
  exact ⟨by simp, rfl⟩
set_option maxHeartbeats 1000000 in
theorem less_any (x y : Int) (w : World) : Calls Try.prog 72 #[.int .u64 x, .int .u64 y] w fun e w' => e = .returned (.bool (ltInt x y)) ∧ w' = w := by
  go_enter Try.func72, Try.ntmps72
  go_wp2_with (go_at_call 94; refine (nan_any _ _).mono ?_; rintro e w' ⟨rfl, rfl⟩)
  go_ret
  exact ⟨rfl, rfl⟩

theorem go_one (a j : Nat) (d : Array Int) (hj : a < j) (hl : ltInt d[j]! d[j - 1]! = true) : insInner ltInt a j d = insInner ltInt a (j - 1) (swp d j (j - 1)) := by
  obtain ⟨k, rfl⟩ : ∃ k, j = k + 1 := ⟨j - 1, by omega⟩
  rw [Nat.add_sub_cancel] at hl ⊢
  rw [insInner, if_pos (by simp [hl]; omega)]
theorem go_none (a j : Nat) (d : Array Int) (h : j ≤ a ∨ ltInt d[j]! d[j - 1]! = false) : insInner ltInt a j d = d := by
  cases j with
  | zero => rw [insInner]
  | succ k =>
    rw [Nat.add_sub_cancel] at h
    rw [insInner, if_neg]
    rcases h with h | h
    · simp; intro; omega
    · simp [h]

set_option maxRecDepth 100000 in
set_option maxHeartbeats 4000000 in
theorem ins_any (b cap lo hi : Nat) (d : Array Int) (rest : List Value) (w : World) (hA : Ar w b d rest) (h1 : lo ≤ hi) (h2 : hi ≤ d.size) (hsz : d.size ≤ 1099511627776) :
    Calls Try.prog 84 #[.slice (some ⟨b, 0, none⟩) d.size cap, .int .i64 (lo : Int), .int .i64 (hi : Int)] w fun e w' => e = .returned (.tuple #[]) ∧ Ar w' b (insertionSort ltInt d lo hi) rest ∧ Sq.Kept (fun k => k ≠ b) w w' := by
  go_enter Try.func84, Try.ntmps84
  have hw1 : IntKind.i64.wrap ((lo : Int) + 1) = ((lo + 1 : Nat) : Int) := by rw [IntKind.wrap_i64]; omega
  go_wp2_with fail
  go_loopw [6] (fun i wr => ∃ (q : Nat) (d' : Array Int), lo + 1 ≤ q ∧ q ≤ hi + 1 ∧ i = .int .i64 (q : Int) ∧ d'.size = d.size ∧ insOuter ltInt lo hi q d' = insertionSort ltInt d lo hi ∧ Ar wr b d' rest ∧ Sq.Kept (fun k => k ≠ b) w wr) (fun i _ => hi + 1 - (intOf i).toNat)
  case atStart => exact ⟨lo + 1, d, Nat.le_refl _, by omega, rfl, rfl, rfl, hA, Sq.Kept.refl _ _⟩
  case round =>
    obtain ⟨q, d', hq1, hq2, rfl, hds, hins, hA', hK⟩ := hrel
    obtain ⟨wo, rfl⟩ : ∃ wo : World, wo = wr := ⟨_, rfl⟩
    by_cases hlt : q < hi
    · have hlt2 : (q : Int) < (hi : Int) := by omega
      have hw2 : IntKind.i64.wrap ((q : Int) + 1) = ((q + 1 : Nat) : Int) := by rw [IntKind.wrap_i64]; omega
      have HO := Lib.hid (show insOuter ltInt lo hi (q + 1) (insInner ltInt lo q d') = insertionSort ltInt d lo hi by rw [← hins]; conv => rhs; rw [insOuter, if_pos hlt])
      clear hins
      go_wp2_with fail
      go_loopw [7] (fun i wr => ∃ (j : Nat) (d2 : Array Int), lo ≤ j ∧ j ≤ q ∧ i = .int .i64 (j : Int) ∧ d2.size = d.size ∧ insInner ltInt lo j d2 = insInner ltInt lo q d' ∧ Ar wr b d2 rest ∧ Sq.Kept (fun k => k ≠ b) w wr) (fun i _ => (intOf i).toNat)
      case atStart => exact ⟨q, d', by omega, Nat.le_refl _, rfl, hds, rfl, hA', hK⟩
      case round =>
        obtain ⟨j, d2, hj1, hj2, rfl, hd2, hin, hA2, hK2⟩ := hrel
        by_cases hj : lo < j
        · have hj3 : (lo : Int) < (j : Int) := by omega
          have hw3 : IntKind.i64.wrap ((j : Int) - 1) = ((j - 1 : Nat) : Int) := by rw [IntKind.wrap_i64]; omega
          have hi1 : (0 : Int) ≤ (j : Int) ∧ (j : Int) < (d.size : Int) := by omega
          have hi2 : (0 : Int) ≤ ((j - 1 : Nat) : Int) ∧ ((j - 1 : Nat) : Int) < (d.size : Int) := by omega
          have c1 := hA2.cell (j := j) (by omega)
          have c2 := hA2.cell (j := j - 1) (by omega)
          have f1 := hA2.frozen j
          have f2 := hA2.frozen (j - 1)
          have hgo := go_one lo j d2 hj
          have hno := go_none lo j d2
          have HGO := Lib.hid hgo
          have HNO := Lib.hid hno
          have HIN := Lib.hid hin
          clear hgo hno hin
          go_wp2_with fail
          go_big_quiet ((go_at_call 72; exact Calls.quiet_of_same (less_any _ _ _)))
          have hAq := hA2.drewN nq
          have hKq : Sq.Kept (fun k => k ≠ b) w (wr.drewN nq) := hK2.trans (Sq.Kept.drewN _ _ _)
          have c1 := hAq.cell (j := j) (by omega)
          have c2 := hAq.cell (j := j - 1) (by omega)
          have f1 := hAq.frozen j
          have f2 := hAq.frozen (j - 1)
          have hsw := fun wx (h : wx = wx) => hAq.swap (i := j) (j := j - 1) (by omega) (by omega)
          clear hA2 hK2
          generalize wr.drewN nq = wq at *
          have HAQ := Lib.hid hAq
          have HKQ := Lib.hid hKq
          clear hAq hKq hsw
          cases hL : ltInt d2[j]! d2[j - 1]! with
          | true =>
            go_upto_block 3 with fail
            go_cut [] from 33 to 48 (fun wx => Ar wx b (swp d2 j (j - 1)) rest ∧ Sq.Kept (fun k => k ≠ b) wq wx)
            case first =>
              go_wp2_with fail
              go_region
              all_goals (try go_wp2_with fail)
              all_goals go_meet
              all_goals exact ⟨(HAQ.out.drewN 1).swap (by omega) (by omega), (Sq.Kept.drewN _ _ 1).trans (kept_swap _ _)⟩
            case rest =>
              obtain ⟨hA3, hK3⟩ := hcut
              go_wp2_with fail
              go_roundw
              case rel => exact ⟨j - 1, swp d2 j (j - 1), by omega, by omega, by first | rfl | (simp; done) | go_num, by rw [swp_size]; exact hd2, by rw [← HGO.out hL]; exact HIN.out, hA3, HKQ.out.trans hK3⟩
              case measure => simp [intOf]; omega
          | false =>
            go_wp2_with fail
            exact ⟨⟨q + 1, d2, by omega, by omega, by go_num, hd2, by rw [← HO.out, ← HIN.out, HNO.out (.inr hL)], HAQ.out, HKQ.out⟩, by simp [intOf]; omega⟩
        · have hj3 : ¬ (lo : Int) < (j : Int) := by omega
          have hno := go_none lo j d2 (.inl (by omega))
          have HNO := Lib.hid hno
          have HIN := Lib.hid hin
          have HA2 := Lib.hid hA2
          have HK2 := Lib.hid hK2
          clear hno hin hA2 hK2
          go_wp2_with fail
          go_big_quiet (fail)
          go_wp2_with fail
          exact ⟨⟨q + 1, d2, by omega, by omega, by go_num, hd2, by rw [← HO.out, ← HIN.out, HNO.out], HA2.out.drewN nq, HK2.out.trans (Sq.Kept.drewN _ _ _)⟩, by simp [intOf]; omega⟩
    · have hlt2 : ¬ (q : Int) < (hi : Int) := by omega
      have HI := Lib.hid (show d' = insertionSort ltInt d lo hi by rw [← hins, insOuter, if_neg hlt])
      have HA2 := Lib.hid hA'
      have HK2 := Lib.hid hK
      clear hins hA' hK
      go_wp2_with fail
      go_end0
      exact ⟨rfl, by rw [← HI.out]; exact HA2.out, HK2.out⟩
end So6
end Go.Proofs.Ythcllaombabpbaa

/-
  siftDown, heapSort over a row of uint64.
-/
namespace Go.Proofs.Ythcllaombabpbaa
open Go.RowKit Go.Sort
set_option linter.unusedSimpArgs false
set_option linter.unusedVariables false
namespace So6
theorem sd_stop (hi f q : Nat) (d : Array Int) (h : hi ≤ 2 * q + 1) : siftDown ltInt hi f q d = d := by
  rw [siftDown]; simp [h]
theorem sd_two (hi f q : Nat) (d : Array Int) (h : 2 * q + 2 < hi) (hl : ltInt d[f + (2 * q + 1)]! d[f + (2 * q + 1) + 1]! = true) :
    siftDown ltInt hi f q d = if ltInt d[f + q]! d[f + (2 * q + 2)]! = true then siftDown ltInt hi f (2 * q + 2) (swp d (f + q) (f + (2 * q + 2))) else d := by
  conv => lhs; rw [siftDown]
  have h1 : ¬ hi ≤ 2 * q + 1 := by omega
  have h2 : 2 * q + 1 + 1 < hi := by omega
  simp only [ge_iff_le, h1, dite_false, h2, hl, decide_true, Bool.and_self, if_true]
  cases ltInt d[f + q]! d[f + (2 * q + 2)]! <;> simp [h]
theorem sd_one (hi f q : Nat) (d : Array Int) (h0 : 2 * q + 1 < hi) (h : ¬ 2 * q + 2 < hi ∨ ltInt d[f + (2 * q + 1)]! d[f + (2 * q + 1) + 1]! = false) :
    siftDown ltInt hi f q d = if ltInt d[f + q]! d[f + (2 * q + 1)]! = true then siftDown ltInt hi f (2 * q + 1) (swp d (f + q) (f + (2 * q + 1))) else d := by
  conv => lhs; rw [siftDown]
  have h1 : ¬ hi ≤ 2 * q + 1 := by omega
  have h3 : (decide (2 * q + 1 + 1 < hi) && ltInt d[f + (2 * q + 1)]! d[f + (2 * q + 1) + 1]!) = false := by
    rcases h with h | h
    · have : ¬ 2 * q + 1 + 1 < hi := by omega
      simp [this]
    · simp [h]
  simp only [ge_iff_le, h1, dite_false, h3, Bool.false_eq_true, if_false]
  cases ltInt d[f + q]! d[f + (2 * q + 1)]! <;> simp

/-- a natural number under a name of its own -/
theorem named (n : Nat) : ∃ m : Nat, m ≤ n ∧ n ≤ m := ⟨n, Nat.le_refl _, Nat.le_refl _⟩
theorem sd_two' (hi f q : Nat) (d : Array Int) (C E X0 X1 X2 X3 : Nat) (hC : C ≤ 2 * q + 1 ∧ 2 * q + 1 ≤ C) (hE : E ≤ 2 * q + 2 ∧ 2 * q + 2 ≤ E) (h0 : X0 ≤ f + q ∧ f + q ≤ X0) (h1 : X1 ≤ f + C ∧ f + C ≤ X1) (h2 : X2 ≤ X1 + 1 ∧ X1 + 1 ≤ X2) (h3 : X3 ≤ f + E ∧ f + E ≤ X3)
    (h : E < hi) (hl : ltInt d[X1]! d[X2]! = true) : siftDown ltInt hi f q d = if ltInt d[X0]! d[X3]! = true then siftDown ltInt hi f E (swp d X0 X3) else d := by
  obtain rfl : C = 2 * q + 1 := by omega
  obtain rfl : E = 2 * q + 2 := by omega
  obtain rfl : X0 = f + q := by omega
  obtain rfl : X1 = f + (2 * q + 1) := by omega
  obtain rfl : X2 = f + (2 * q + 1) + 1 := by omega
  obtain rfl : X3 = f + (2 * q + 2) := by omega
  exact sd_two hi f q d h hl
theorem sd_one' (hi f q : Nat) (d : Array Int) (C E X0 X1 X2 : Nat) (hC : C ≤ 2 * q + 1 ∧ 2 * q + 1 ≤ C) (hE : E ≤ 2 * q + 2 ∧ 2 * q + 2 ≤ E) (h0 : X0 ≤ f + q ∧ f + q ≤ X0) (h1 : X1 ≤ f + C ∧ f + C ≤ X1) (h2 : X2 ≤ X1 + 1 ∧ X1 + 1 ≤ X2)
    (hh : C < hi) (h : ¬ E < hi ∨ ltInt d[X1]! d[X2]! = false) : siftDown ltInt hi f q d = if ltInt d[X0]! d[X1]! = true then siftDown ltInt hi f C (swp d X0 X1) else d := by
  obtain rfl : C = 2 * q + 1 := by omega
  obtain rfl : E = 2 * q + 2 := by omega
  obtain rfl : X0 = f + q := by omega
  obtain rfl : X1 = f + (2 * q + 1) := by omega
  obtain rfl : X2 = f + (2 * q + 1) + 1 := by omega
  exact sd_one hi f q d hh h

set_option maxRecDepth 100000 in
set_option maxHeartbeats 4000000 in
theorem sift_any (b cap lo hi f : Nat) (d : Array Int) (rest : List Value) (w : World) (hA : Ar w b d rest) (h2 : f + hi ≤ d.size) (hlo : lo ≤ 1099511627776) (hsz : d.size ≤ 1099511627776) :
    Calls Try.prog 98 #[.slice (some ⟨b, 0, none⟩) d.size cap, .int .i64 (lo : Int), .int .i64 (hi : Int), .int .i64 (f : Int)] w fun e w' => e = .returned (.tuple #[]) ∧ Ar w' b (siftDown ltInt hi f lo d) rest ∧ Sq.Kept (fun k => k ≠ b) w w' := by
  go_enter Try.func98, Try.ntmps98
  go_wp2_with fail
  go_loopw [8] (fun i wr => ∃ (q : Nat) (d' : Array Int), q ≤ 1099511627776 ∧ i = .int .i64 (q : Int) ∧ d'.size = d.size ∧ siftDown ltInt hi f q d' = siftDown ltInt hi f lo d ∧ Ar wr b d' rest ∧ Sq.Kept (fun k => k ≠ b) w wr) (fun i _ => hi - (intOf i).toNat)
  case atStart => exact ⟨lo, d, hlo, rfl, rfl, rfl, hA, Sq.Kept.refl _ _⟩
  case round =>
    obtain ⟨q, d', hq, rfl, hds, hins, hA', hK⟩ := hrel
    obtain ⟨C0, hC0⟩ := named (2 * q)
    obtain ⟨C, hC⟩ := named (2 * q + 1)
    obtain ⟨E, hE⟩ := named (2 * q + 2)
    obtain ⟨X0, hX0⟩ := named (f + q)
    obtain ⟨X1, hX1⟩ := named (f + C)
    obtain ⟨X2, hX2⟩ := named (X1 + 1)
    obtain ⟨X3, hX3⟩ := named (f + E)
    have hw1 : IntKind.i64.wrap (2 * (q : Int)) = (C0 : Int) := by rw [IntKind.wrap_i64]; omega
    have hw2 : IntKind.i64.wrap ((C0 : Int) + 1) = (C : Int) := by rw [IntKind.wrap_i64]; omega
    by_cases hlt : hi ≤ C
    · have hge : (hi : Int) ≤ (C : Int) := by omega
      have HI := Lib.hid (show d' = siftDown ltInt hi f lo d by rw [← hins, sd_stop _ _ _ _ (by omega)])
      have HA2 := Lib.hid hA'
      have HK2 := Lib.hid hK
      clear hins hA' hK
      go_wp2_with fail
      first | go_end0 | refine bodyPost_ret (results_none rfl _ _ _) rfl ?_
      exact ⟨rfl, by rw [← HI.out]; exact HA2.out, HK2.out⟩
    · have hge : ¬ (hi : Int) ≤ (C : Int) := by omega
      have hw3 : IntKind.i64.wrap ((C : Int) + 1) = (E : Int) := by rw [IntKind.wrap_i64]; omega
      have hw4 : IntKind.i64.wrap ((f : Int) + (C : Int)) = (X1 : Int) := by rw [IntKind.wrap_i64]; omega
      have hw5 : IntKind.i64.wrap ((X1 : Int) + 1) = (X2 : Int) := by rw [IntKind.wrap_i64]; omega
      have hw6 : IntKind.i64.wrap ((f : Int) + (q : Int)) = (X0 : Int) := by rw [IntKind.wrap_i64]; omega
      have hw7 : IntKind.i64.wrap ((f : Int) + (E : Int)) = (X3 : Int) := by rw [IntKind.wrap_i64]; omega
      have hi0 : (0 : Int) ≤ (X0 : Int) ∧ (X0 : Int) < (d.size : Int) := by omega
      have hi1 : (0 : Int) ≤ (X1 : Int) ∧ (X1 : Int) < (d.size : Int) := by omega
      have c0 := hA'.cell (j := X0) (by omega)
      have c1 := hA'.cell (j := X1) (by omega)
      have HINS := Lib.hid hins
      clear hins
      by_cases h3 : E < hi
      · have h4 : (E : Int) < (hi : Int) := by omega
        have hi2 : (0 : Int) ≤ (X2 : Int) ∧ (X2 : Int) < (d.size : Int) := by omega
        have hi3 : (0 : Int) ≤ (X3 : Int) ∧ (X3 : Int) < (d.size : Int) := by omega
        have c2 := hA'.cell (j := X2) (by omega)
        have HS2 := Lib.hid (sd_two' hi f q d' C E X0 X1 X2 X3 hC hE hX0 hX1 hX2 hX3 h3)
        have HS1 := Lib.hid (sd_one' hi f q d' C E X0 X1 X2 hC hE hX0 hX1 hX2 (by omega))
        go_wp2_with fail
        go_big_quiet ((go_at_call 72; exact Calls.quiet_of_same (less_any _ _ _)))
        have hAq := hA'.drewN nq
        have hKq : Sq.Kept (fun k => k ≠ b) w (wr.drewN nq) := hK.trans (Sq.Kept.drewN _ _ _)
        clear hA' hK c0 c1 c2
        generalize wr.drewN nq = wq at *
        cases hL : ltInt d'[X1]! d'[X2]! with
        | true =>
          have HS := Lib.hid (HS2.out hL)
          clear HS1 HS2
          have c0 := hAq.cell (j := X0) (by omega)
          have c1 := hAq.cell (j := X3) (by omega)
          go_wp2_with fail
          go_big_quiet ((go_at_call 72; exact Calls.quiet_of_same (less_any _ _ _)))
          have hAs := hAq.drewN nq
          have hKs : Sq.Kept (fun k => k ≠ b) w (wq.drewN nq) := hKq.trans (Sq.Kept.drewN _ _ _)
          clear hAq hKq c0 c1
          generalize wq.drewN nq = ws at *
          cases hM : ltInt d'[X0]! d'[X3]! with
          | true =>
            have c0 := hAs.cell (j := X0) (by omega)
            have c1 := hAs.cell (j := X3) (by omega)
            have f0 := hAs.frozen X0
            have f1 := hAs.frozen X3
            have HN := Lib.hid (show siftDown ltInt hi f E (swp d' X0 X3) = siftDown ltInt hi f lo d by have h := HS.out; rw [if_pos hM] at h; rw [← h]; exact HINS.out)
            have HAS := Lib.hid hAs
            have HKS := Lib.hid hKs
            clear HS HINS hM hAs hKs
            go_wp2_with fail
            go_cut [] from 53 to 75 (fun wx => Ar wx b (swp d' X0 X3) rest ∧ Sq.Kept (fun k => k ≠ b) ws wx)
            case first =>
              go_region
              all_goals (try go_wp2_with fail)
              all_goals go_meet
              all_goals exact ⟨(HAS.out.drewN 1).swap (by omega) (by omega), (Sq.Kept.drewN _ _ 1).trans (kept_swap _ _)⟩
            case rest =>
              obtain ⟨hA3, hK3⟩ := hcut
              go_wp2_with fail
              go_roundw
              case rel => exact ⟨E, swp d' X0 X3, by omega, by first | rfl | (simp; done) | go_num, by rw [swp_size]; exact hds, HN.out, hA3, HKS.out.trans hK3⟩
              case measure => simp [intOf]; omega
          | false =>
            have HN := Lib.hid (show d' = siftDown ltInt hi f lo d by have h := HS.out; rw [if_neg (by rw [hM]; simp)] at h; rw [← HINS.out]; exact h.symm)
            have HAS := Lib.hid hAs
            have HKS := Lib.hid hKs
            clear HS HINS hM hAs hKs
            go_wp2_with fail
            first | go_end0 | refine bodyPost_ret (results_none rfl _ _ _) rfl ?_
            exact ⟨rfl, by rw [← HN.out]; exact HAS.out, HKS.out⟩
        | false =>
          have HS := Lib.hid (HS1.out (.inr hL))
          clear HS1 HS2
          have c0 := hAq.cell (j := X0) (by omega)
          have c1 := hAq.cell (j := X1) (by omega)
          go_wp2_with fail
          go_big_quiet ((go_at_call 72; exact Calls.quiet_of_same (less_any _ _ _)))
          have hAs := hAq.drewN nq
          have hKs : Sq.Kept (fun k => k ≠ b) w (wq.drewN nq) := hKq.trans (Sq.Kept.drewN _ _ _)
          clear hAq hKq c0 c1
          generalize wq.drewN nq = ws at *
          cases hM : ltInt d'[X0]! d'[X1]! with
          | true =>
            have c0 := hAs.cell (j := X0) (by omega)
            have c1 := hAs.cell (j := X1) (by omega)
            have f0 := hAs.frozen X0
            have f1 := hAs.frozen X1
            have HN := Lib.hid (show siftDown ltInt hi f C (swp d' X0 X1) = siftDown ltInt hi f lo d by have h := HS.out; rw [if_pos hM] at h; rw [← h]; exact HINS.out)
            have HAS := Lib.hid hAs
            have HKS := Lib.hid hKs
            clear HS HINS hM hAs hKs
            go_wp2_with fail
            go_cut [] from 53 to 75 (fun wx => Ar wx b (swp d' X0 X1) rest ∧ Sq.Kept (fun k => k ≠ b) ws wx)
            case first =>
              go_region
              all_goals (try go_wp2_with fail)
              all_goals go_meet
              all_goals exact ⟨(HAS.out.drewN 1).swap (by omega) (by omega), (Sq.Kept.drewN _ _ 1).trans (kept_swap _ _)⟩
            case rest =>
              obtain ⟨hA3, hK3⟩ := hcut
              go_wp2_with fail
              go_roundw
              case rel => exact ⟨C, swp d' X0 X1, by omega, by first | rfl | (simp; done) | go_num, by rw [swp_size]; exact hds, HN.out, hA3, HKS.out.trans hK3⟩
              case measure => simp [intOf]; omega
          | false =>
            have HN := Lib.hid (show d' = siftDown ltInt hi f lo d by have h := HS.out; rw [if_neg (by rw [hM]; simp)] at h; rw [← HINS.out]; exact h.symm)
            have HAS := Lib.hid hAs
            have HKS := Lib.hid hKs
            clear HS HINS hM hAs hKs
            go_wp2_with fail
            first | go_end0 | refine bodyPost_ret (results_none rfl _ _ _) rfl ?_
            exact ⟨rfl, by rw [← HN.out]; exact HAS.out, HKS.out⟩
      · have h4 : ¬ (E : Int) < (hi : Int) := by omega
        have HS := Lib.hid (sd_one' hi f q d' C E X0 X1 X2 hC hE hX0 hX1 hX2 (by omega) (.inl h3))
        go_wp2_with fail
        go_big_quiet (fail)
        have hAq := hA'.drewN nq
        have hKq : Sq.Kept (fun k => k ≠ b) w (wr.drewN nq) := hK.trans (Sq.Kept.drewN _ _ _)
        clear hA' hK c0 c1
        generalize wr.drewN nq = wq at *
        have c0 := hAq.cell (j := X0) (by omega)
        have c1 := hAq.cell (j := X1) (by omega)
        go_wp2_with fail
        go_big_quiet ((go_at_call 72; exact Calls.quiet_of_same (less_any _ _ _)))
        have hAs := hAq.drewN nq
        have hKs : Sq.Kept (fun k => k ≠ b) w (wq.drewN nq) := hKq.trans (Sq.Kept.drewN _ _ _)
        clear hAq hKq c0 c1
        generalize wq.drewN nq = ws at *
        cases hM : ltInt d'[X0]! d'[X1]! with
        | true =>
          have c0 := hAs.cell (j := X0) (by omega)
          have c1 := hAs.cell (j := X1) (by omega)
          have f0 := hAs.frozen X0
          have f1 := hAs.frozen X1
          have HN := Lib.hid (show siftDown ltInt hi f C (swp d' X0 X1) = siftDown ltInt hi f lo d by have h := HS.out; rw [if_pos hM] at h; rw [← h]; exact HINS.out)
          have HAS := Lib.hid hAs
          have HKS := Lib.hid hKs
          clear HS HINS hM hAs hKs
          go_wp2_with fail
          go_cut [] from 53 to 75 (fun wx => Ar wx b (swp d' X0 X1) rest ∧ Sq.Kept (fun k => k ≠ b) ws wx)
          case first =>
            go_region
            all_goals (try go_wp2_with fail)
            all_goals go_meet
            all_goals exact ⟨(HAS.out.drewN 1).swap (by omega) (by omega), (Sq.Kept.drewN _ _ 1).trans (kept_swap _ _)⟩
          case rest =>
            obtain ⟨hA3, hK3⟩ := hcut
            go_wp2_with fail
            go_roundw
            case rel => exact ⟨C, swp d' X0 X1, by omega, by first | rfl | (simp; done) | go_num, by rw [swp_size]; exact hds, HN.out, hA3, HKS.out.trans hK3⟩
            case measure => simp [intOf]; omega
        | false =>
          have HN := Lib.hid (show d' = siftDown ltInt hi f lo d by have h := HS.out; rw [if_neg (by rw [hM]; simp)] at h; rw [← HINS.out]; exact h.symm)
          have HAS := Lib.hid hAs
          have HKS := Lib.hid hKs
          clear HS HINS hM hAs hKs
          go_wp2_with fail
          first | go_end0 | refine bodyPost_ret (results_none rfl _ _ _) rfl ?_
          exact ⟨rfl, by rw [← HN.out]; exact HAS.out, HKS.out⟩
end So6
end Go.Proofs.Ythcllaombabpbaa

/-
  heapSort over a row of uint64; reverseRange.
-/
namespace Go.Proofs.Ythcllaombabpbaa
open Go.RowKit Go.Sort
set_option linter.unusedSimpArgs false
set_option linter.unusedVariables false
namespace So6
/-- a counter that runs down to -1: k rounds are left -/
def dn (k : Nat) (i : Value) : Prop := (k = 0 ∧ i = .int .i64 (-1)) ∨ ∃ q : Nat, k = q + 1 ∧ i = .int .i64 (q : Int)
theorem sift_size (hi f : Nat) : ∀ (n q : Nat) (d : Array Int), hi - q ≤ n → (siftDown ltInt hi f q d).size = d.size
  | 0, q, d, h => by rw [sd_stop _ _ _ _ (by omega)]
  | n + 1, q, d, h => by
    by_cases h1 : hi ≤ 2 * q + 1
    · rw [sd_stop _ _ _ _ h1]
    · by_cases h2 : 2 * q + 2 < hi ∧ ltInt d[f + (2 * q + 1)]! d[f + (2 * q + 1) + 1]! = true
      · rw [sd_two _ _ _ _ h2.1 h2.2]
        split
        · rw [sift_size hi f n _ _ (by omega), swp_size]
        · rfl
      · rw [sd_one _ _ _ _ (by omega) (by
          by_cases h3 : 2 * q + 2 < hi
          · exact .inr (by have := fun h4 => h2 ⟨h3, h4⟩; simpa using this)
          · exact .inl h3)]
        split
        · rw [sift_size hi f n _ _ (by omega), swp_size]
        · rfl
theorem wrap_pred (q : Nat) : dn q (.int .i64 ((q : Int) - 1)) := by
  cases q with
  | zero => exact .inl ⟨rfl, rfl⟩
  | succ q => exact .inr ⟨q, rfl, by rw [show ((q + 1 : Nat) : Int) - 1 = (q : Int) by omega]⟩

set_option maxRecDepth 100000 in
set_option maxHeartbeats 4000000 in
theorem heap_any (b cap lo hi : Nat) (d : Array Int) (rest : List Value) (w : World) (hA : Ar w b d rest) (h1 : lo < hi) (h2 : hi ≤ d.size) (hsz : d.size ≤ 1099511627776) :
    Calls Try.prog 85 #[.slice (some ⟨b, 0, none⟩) d.size cap, .int .i64 (lo : Int), .int .i64 (hi : Int)] w fun e w' => e = .returned (.tuple #[]) ∧ Ar w' b (heapSort ltInt d lo hi) rest ∧ Sq.Kept (fun k => k ≠ b) w w' := by
  obtain ⟨N, hN⟩ : ∃ N, hi = lo + N := ⟨hi - lo, by omega⟩
  have HR := Lib.hid (show heapPop ltInt lo N (heapBuild ltInt N lo ((N - 1) / 2 + 1) d) = heapSort ltInt d lo hi by unfold heapSort; rw [show hi - lo = N by omega])
  obtain ⟨K, hK⟩ := named ((N - 1) / 2)
  have HK := Lib.hid hK
  have hKN : K ≤ N := by omega
  have hw1 : IntKind.i64.wrap ((hi : Int) - (lo : Int)) = (N : Int) := by rw [IntKind.wrap_i64]; omega
  have hw2 : IntKind.i64.wrap ((N : Int) - 1) = ((N - 1 : Nat) : Int) := by rw [IntKind.wrap_i64]; omega
  obtain ⟨N1, hN1⟩ := named (N - 1)
  have hw3 : IntKind.i64.wrap ((N : Int) - 1) = (N1 : Int) := by rw [IntKind.wrap_i64]; omega
  have hw4 : IntKind.i64.wrap (Int.tdiv (N1 : Int) 2) = (K : Int) := by
    rw [show Int.tdiv (N1 : Int) 2 = (K : Int) by rw [Int.tdiv_eq_ediv_of_nonneg (by omega)]; omega, IntKind.wrap_i64]; omega
  have hw5 : IntKind.i64.wrap ((N1 : Int) / 2) = (K : Int) := by rw [IntKind.wrap_i64]; omega
  have hw6 : (N1 : Int) / 2 = (K : Int) := by omega
  clear hw2 hK
  have hNp : 1 ≤ N := by omega
  have hNs : lo + N ≤ d.size := by omega
  clear hN
  go_enter Try.func85, Try.ntmps85
  go_wp2_with fail
  go_loopw [9] (fun i wr => ∃ (k : Nat) (d' : Array Int), k ≤ K + 1 ∧ dn k i ∧ d'.size = d.size ∧ heapBuild ltInt N lo k d' = heapBuild ltInt N lo (K + 1) d ∧ Ar wr b d' rest ∧ Sq.Kept (fun k => k ≠ b) w wr) (fun i _ => (intOf i + 1).toNat)
  case atStart => exact ⟨K + 1, d, Nat.le_refl _, .inr ⟨K, rfl, rfl⟩, rfl, rfl, hA, Sq.Kept.refl _ _⟩
  case round =>
    obtain ⟨k, d', hk, hdn, hds, hins, hA', hK'⟩ := hrel
    obtain ⟨wo, rfl⟩ : ∃ wo : World, wo = wr := ⟨_, rfl⟩
    rcases hdn with ⟨rfl, rfl⟩ | ⟨q, rfl, rfl⟩
    · have hB := Lib.hid (show d' = heapBuild ltInt N lo (K + 1) d by rw [← hins]; rfl)
      clear hins
      have hge : ¬ (0 : Int) ≤ -1 := by omega
      go_wp2_with fail
      go_loopw [10] (fun i wr => ∃ (k : Nat) (d2 : Array Int), k ≤ N ∧ dn k i ∧ d2.size = d.size ∧ heapPop ltInt lo k d2 = heapPop ltInt lo N d' ∧ Ar wr b d2 rest ∧ Sq.Kept (fun k => k ≠ b) w wr) (fun i _ => (intOf i + 1).toNat)
      case atStart => exact ⟨N, d', Nat.le_refl _, .inr ⟨N1, by omega, rfl⟩, hds, rfl, hA', hK'⟩
      case round =>
        obtain ⟨k, d2, hk, hdn, hd2, hpop, hA2, hK2⟩ := hrel
        rcases hdn with ⟨rfl, rfl⟩ | ⟨q, rfl, rfl⟩
        · have hP := Lib.hid (show d2 = heapSort ltInt d lo hi by
            rw [← HR.out, show (N - 1) / 2 + 1 = K + 1 by have := HK.out; omega, ← hB.out, ← hpop]; rfl)
          have HA2 := Lib.hid hA2
          have HK2 := Lib.hid hK2
          clear hpop hA2 hK2
          go_wp2_with fail
          first | go_end0 | refine bodyPost_ret (results_none rfl _ _ _) rfl ?_
          exact ⟨rfl, by rw [← hP.out]; exact HA2.out, HK2.out⟩
        · have hge2 : (0 : Int) ≤ (q : Int) := by omega
          obtain ⟨X, hX⟩ := named (lo + q)
          have hw7 : IntKind.i64.wrap ((lo : Int) + (q : Int)) = (X : Int) := by rw [IntKind.wrap_i64]; omega
          have hi0 : (0 : Int) ≤ (lo : Int) ∧ (lo : Int) < (d.size : Int) := by omega
          have hi1 : (0 : Int) ≤ (X : Int) ∧ (X : Int) < (d.size : Int) := by omega
          have c0 := hA2.cell (j := lo) (by omega)
          have c1 := hA2.cell (j := X) (by omega)
          have f0 := hA2.frozen lo
          have f1 := hA2.frozen X
          have c2 := (hA2.set (i := lo) (by omega) d2[X]!).cell (j := X) (by rw [Array.size_setIfInBounds]; omega)
          have f2 := (hA2.set (i := lo) (by omega) d2[X]!).frozen X
          have HPOP := Lib.hid (show heapPop ltInt lo q (siftDown ltInt q lo 0 (swp d2 lo X)) = heapPop ltInt lo N d' by rw [show X = lo + q by omega]; exact hpop)
          have HA2 := Lib.hid hA2
          have HK2 := Lib.hid hK2
          have hwq := wrap_pred q
          have hww : IntKind.i64.wrap ((q : Int) - 1) = (q : Int) - 1 := by rw [IntKind.wrap_i64]; omega
          clear hpop hA2 hK2
          go_upto_region 10 with fail
          go_cut [] from 33 to 51 (fun wx => Ar wx b (swp d2 lo X) rest ∧ Sq.Kept (fun k => k ≠ b) wr wx)
          case first =>
            go_region
            all_goals (try go_wp2_with fail)
            all_goals go_meet
            all_goals exact ⟨(HA2.out.drewN 1).swap (by omega) (by omega), (Sq.Kept.drewN _ _ 1).trans (kept_swap _ _)⟩
          case rest =>
            obtain ⟨hA3, hK3⟩ := hcut
            have hsz3 : (swp d2 lo X).size = d.size := by rw [swp_size]; exact hd2
            have HS := Lib.hid (fun W h => sift_any b cap 0 q lo (swp d2 lo X) rest W h (by rw [hsz3]; omega) (by omega) (by rw [hsz3]; exact hsz))
            rw [hsz3, show ((0 : Nat) : Int) = 0 from rfl] at HS
            have HSZ := Lib.hid (sift_size q lo q 0 (swp d2 lo X) (by omega))
            have HA3 := Lib.hid hA3
            have HK3 := Lib.hid hK3
            have HSZ3 := Lib.hid hsz3
            clear hA3 hK3 hsz3
            go_wp2_with (go_at_call 98; (with_reducible refine (HS.out _ HA3.out).mono ?_); rintro e w4 ⟨rfl, hA4, hK4⟩)
            go_roundw
            case rel => exact ⟨q, siftDown ltInt q lo 0 (swp d2 lo X), by omega, hwq, by rw [HSZ.out]; exact HSZ3.out, HPOP.out, hA4, (HK2.out.trans HK3.out).trans hK4⟩
            case measure => first | (simp [intOf]; done) | (simp [intOf]; omega)
    · have hge2 : (0 : Int) ≤ (q : Int) := by omega
      have HS := Lib.hid (fun W h => sift_any b cap q N lo d' rest W h (by rw [hds]; omega) (by omega) (by rw [hds]; exact hsz))
      rw [hds] at HS
      have HSZ := Lib.hid (sift_size N lo N q d' (by omega))
      have HA2 := Lib.hid hA'
      have HK2 := Lib.hid hK'
      have HI := Lib.hid (show heapBuild ltInt N lo q (siftDown ltInt N lo q d') = heapBuild ltInt N lo (K + 1) d from hins)
      have hwq := wrap_pred q
      have hww : IntKind.i64.wrap ((q : Int) - 1) = (q : Int) - 1 := by rw [IntKind.wrap_i64]; omega
      clear hins hA' hK'
      go_wp2_with (go_at_call 98; (with_reducible refine (HS.out _ HA2.out).mono ?_); rintro e w4 ⟨rfl, hA4, hK4⟩)
      go_roundw
      case rel => exact ⟨q, siftDown ltInt N lo q d', by omega, hwq, by rw [HSZ.out]; exact hds, HI.out, hA4, HK2.out.trans hK4⟩
      case measure => first | (simp [intOf]; done) | (simp [intOf]; omega)
end So6
end Go.Proofs.Ythcllaombabpbaa

/-
  reverseRange over a row of uint64; the random numbers, breakPatterns: only that elements change places.
-/
namespace Go.Proofs.Ythcllaombabpbaa
open Go.RowKit Go.Sort
set_option linter.unusedSimpArgs false
set_option linter.unusedVariables false
namespace So6

set_option maxRecDepth 100000 in
set_option maxHeartbeats 4000000 in
theorem rev_any (b cap lo hi : Nat) (d : Array Int) (rest : List Value) (w : World) (hA : Ar w b d rest) (h1 : lo < hi) (h2 : hi ≤ d.size) (hsz : d.size ≤ 1099511627776) :
    Calls Try.prog 88 #[.slice (some ⟨b, 0, none⟩) d.size cap, .int .i64 (lo : Int), .int .i64 (hi : Int)] w fun e w' => e = .returned (.tuple #[]) ∧ (∃ d', Ar w' b d' rest ∧ PermIn lo hi d d') ∧ Sq.Kept (fun k => k ≠ b) w w' := by
  obtain ⟨H1, hH1⟩ := named (hi - 1)
  have hw1 : IntKind.i64.wrap ((hi : Int) - 1) = (H1 : Int) := by rw [IntKind.wrap_i64]; omega
  go_enter Try.func88, Try.ntmps88
  go_wp2_with fail
  go_loopw [6, 7] (fun i j wr => ∃ (p q : Nat) (d' : Array Int), lo ≤ p ∧ q < hi ∧ i = .int .i64 (p : Int) ∧ j = .int .i64 (q : Int) ∧ d'.size = d.size ∧ PermIn lo hi d d' ∧ Ar wr b d' rest ∧ Sq.Kept (fun k => k ≠ b) w wr) (fun i j _ => (intOf j - intOf i).toNat)
  case atStart => exact ⟨lo, H1, d, Nat.le_refl _, by omega, rfl, rfl, rfl, permIn_refl _ _ _, hA, Sq.Kept.refl _ _⟩
  case round =>
    obtain ⟨p, q, d', hp, hq, rfl, rfl, hds, hperm, hA', hK⟩ := hrel
    by_cases hlt : p < q
    · have hlt2 : (p : Int) < (q : Int) := by omega
      have hi0 : (0 : Int) ≤ (p : Int) ∧ (p : Int) < (d.size : Int) := by omega
      have hi1 : (0 : Int) ≤ (q : Int) ∧ (q : Int) < (d.size : Int) := by omega
      obtain ⟨Q1, hQ1⟩ := named (q - 1)
      have hw2 : IntKind.i64.wrap ((p : Int) + 1) = ((p + 1 : Nat) : Int) := by rw [IntKind.wrap_i64]; omega
      have hw3 : IntKind.i64.wrap ((q : Int) - 1) = (Q1 : Int) := by rw [IntKind.wrap_i64]; omega
      have c0 := hA'.cell (j := p) (by omega)
      have c1 := hA'.cell (j := q) (by omega)
      have f0 := hA'.frozen p
      have f1 := hA'.frozen q
      have hne : ¬ q = p := by omega
      have HA2 := Lib.hid hA'
      have HK2 := Lib.hid hK
      have HP := Lib.hid (permIn_trans _ _ _ lo hi hperm (swp_permIn d' lo hi p q hp (by omega) (by omega) hq (by omega)))
      clear hA' hK hperm
      go_upto_region 3 with fail
      go_cut [] from 14 to 28 (fun wx => Ar wx b (swp d' p q) rest ∧ Sq.Kept (fun k => k ≠ b) wr wx)
      case first =>
        go_region
        all_goals (try go_wp2_with fail)
        all_goals go_meet
        all_goals exact ⟨(HA2.out.drewN 1).swap (by omega) (by omega), (Sq.Kept.drewN _ _ 1).trans (kept_swap _ _)⟩
      case rest =>
        obtain ⟨hA3, hK3⟩ := hcut
        go_wp2_with fail
        go_roundw
        case rel => exact ⟨p + 1, Q1, swp d' p q, by omega, by omega, by first | rfl | (simp; done) | go_num, by first | rfl | (simp; done) | go_num, by rw [swp_size]; exact hds, HP.out, hA3, HK2.out.trans hK3⟩
        case measure => simp [intOf]; omega
    · have hlt2 : ¬ (p : Int) < (q : Int) := by omega
      have HA2 := Lib.hid hA'
      have HK2 := Lib.hid hK
      have HP := Lib.hid hperm
      clear hA' hK hperm
      go_wp2_with fail
      first | go_end0 | refine bodyPost_ret (results_none rfl _ _ _) rfl ?_
      exact ⟨rfl, ⟨_, HA2.out, HP.out⟩, HK2.out⟩

theorem bits_range (op : BinOp) (x y : Int) : 0 ≤ bits op IntKind.u64 x y ∧ bits op IntKind.u64 x y < 18446744073709551616 := by
  have h := wf_bits op IntKind.u64 x y
  simp [Lit.wf, IntKind.min, IntKind.max, IntKind.signed, IntKind.bits] at h
  omega
/-- some number lies in the box -/
def Rn (rb : Nat) (w wx : World) : Prop := ∃ r : Int, (0 ≤ r ∧ r < 18446744073709551616) ∧ Boxed wx rb 140 (.int .u64 r) ∧ Sq.Kept (fun k => k ≠ rb) w wx
theorem rn_of {rb : Nat} {w : World} {x : Int} (h : Boxed w rb 140 (.int .u64 x)) (op : BinOp) (a c : Int) : Rn rb w (w.setCell ⟨rb, 0, none⟩ (.int .u64 (bits op IntKind.u64 a c))).drew :=
  ⟨_, bits_range op a c, h.set _, (Sq.Kept.setCell _ _ (fun h => h rfl)).trans (Sq.Kept.drew _ _)⟩

set_option maxRecDepth 100000 in
set_option maxHeartbeats 4000000 in
theorem next_any (rb : Nat) (x : Int) (w : World) (hx : 0 ≤ x ∧ x < 18446744073709551616) (hB : Boxed w rb 140 (.int .u64 x)) :
    Calls Try.prog 100 #[.pointer (some ⟨rb, 0, none⟩)] w fun e w' => ∃ r : Int, e = .returned (.int .u64 r) ∧ (0 ≤ r ∧ r < 18446744073709551616) ∧ Boxed w' rb 140 (.int .u64 r) ∧ Sq.Kept (fun k => k ≠ rb) w w' := by
  have hc := hB.cell
  have hf := hB.frozen
  have HB := Lib.hid hB
  go_enter Try.func100, Try.ntmps100
  go_upto_region 1 with fail
  go_cut [] from 3 to 11 (fun wx => Rn rb w wx)
  case first =>
    go_region
    all_goals (try go_wp2_with fail)
    all_goals go_meet
    all_goals exact rn_of HB.out _ _ _
  case rest =>
    obtain ⟨x1, hx1, hB1, hK1⟩ := hcut
    have hc1 := hB1.cell
    have hf1 := hB1.frozen
    have HB1 := Lib.hid hB1
    have HK1 := Lib.hid hK1
    clear hB hc hf hB1 hK1
    obtain ⟨w1, rfl⟩ : ∃ w1 : World, w1 = wc := ⟨_, rfl⟩
    go_upto_region 2 with fail
    go_cut [] from 12 to 20 (fun wx => Rn rb w1 wx)
    case first =>
      go_region
      all_goals (try go_wp2_with fail)
      all_goals go_meet
      all_goals exact rn_of HB1.out _ _ _
    case rest =>
      obtain ⟨x2, hx2, hB2, hK2⟩ := hcut
      have hc2 := hB2.cell
      have hf2 := hB2.frozen
      have HB2 := Lib.hid hB2
      have HK2 := Lib.hid hK2
      clear hc1 hf1 hB2 hK2
      obtain ⟨w2, rfl⟩ : ∃ w2 : World, w2 = wc := ⟨_, rfl⟩
      go_upto_region 3 with fail
      go_cut [] from 21 to 29 (fun wx => Rn rb w2 wx)
      case first =>
        go_region
        all_goals (try go_wp2_with fail)
        all_goals go_meet
        all_goals exact rn_of HB2.out _ _ _
      case rest =>
        obtain ⟨x3, hx3, hB3, hK3⟩ := hcut
        have hc3 := hB3.cell
        have HB3 := Lib.hid hB3
        have HK3 := Lib.hid hK3
        clear hc2 hf2 hB3 hK3
        go_wp2_with fail
        go_ret
        exact ⟨x3, rfl, hx3, HB3.out, (HK1.out.trans HK2.out).trans HK3.out⟩
end So6
end Go.Proofs.Ythcllaombabpbaa

/-
  breakPatterns over a row of uint64: only that elements change places.
-/
namespace Go.Proofs.Ythcllaombabpbaa
open Go.RowKit Go.Sort
set_option linter.unusedSimpArgs false
set_option linter.unusedVariables false
namespace So6
theorem pow_aux : ∀ (f x : Nat), 0 < x → x < 2 ^ f → 2 ^ Lib.bitLenAux f x ≤ 2 * x
  | 0, x, h0, h => by simp at h; omega
  | f + 1, x, h0, h => by
    unfold Lib.bitLenAux
    rw [if_neg (by omega)]
    by_cases h1 : x / 2 = 0
    · have : Lib.bitLenAux f (x / 2) = 0 := by rw [h1]; cases f <;> rfl
      rw [this]; simp; omega
    · have ih := pow_aux f (x / 2) (by omega) (by rw [Nat.pow_succ] at h; omega)
      rw [Nat.pow_add, Nat.pow_one]
      omega
theorem pow_len (x : Nat) (h0 : 0 < x) (h : x ≤ 1099511627776) : 2 ^ Lib.bitLen x ≤ 2 * x := pow_aux 64 x h0 (by omega)

def LenOk : Prop := ∀ (x : Nat) (w : World), x ≤ 1099511627776 → Calls Try.prog 71 #[.int .u64 (x : Int)] w fun e w' => e = .returned (.int .i64 (Lib.bitLen x : Int)) ∧ w' = w

set_option maxRecDepth 100000 in
set_option maxHeartbeats 4000000 in
theorem pow2_any (HL : LenOk) (n : Nat) (w : World) (h0 : 0 < n) (h : n ≤ 1099511627776) :
    Calls Try.prog 99 #[.int .i64 (n : Int)] w fun e w' => ∃ M : Nat, e = .returned (.int .u64 (M : Int)) ∧ (1 ≤ M ∧ M ≤ 2 * n) ∧ w' = w := by
  have hp := pow_len n h0 h
  have HLN := Lib.hid (fun W => HL n W h)
  generalize Lib.bitLen n = L at *
  have hL : L ≤ 62 := by
    have h1 : ¬ 63 ≤ L := fun h2 => by
      have := Nat.pow_le_pow_right (show 0 < 2 by omega) h2
      omega
    omega
  have hp1 : 1 ≤ 2 ^ L := Nat.one_le_two_pow
  have hw1 : IntKind.u64.wrap (n : Int) = (n : Int) := by simp [IntKind.wrap, IntKind.signed, IntKind.bits]; omega
  go_enter Try.func99, Try.ntmps99
  go_wp2_with (go_at_call 71; (with_reducible refine (HLN.out _).mono ?_); rintro e w' ⟨rfl, rfl⟩)
  have hwz : IntKind.u64.wrap ((2 : Int) ^ L) = ((2 ^ L : Nat) : Int) := by
    have e : (2 : Int) ^ L = ((2 ^ L : Nat) : Int) := by simp
    rw [e]
    generalize 2 ^ L = Z at *
    simp [IntKind.wrap, IntKind.signed, IntKind.bits]
    omega
  go_ret
  refine ⟨2 ^ L, ?_, ⟨hp1, hp⟩, rfl⟩
  rw [hwz]
  rfl

theorem and_le (x y : Int) (h0 : 0 ≤ y) (h1 : y < 18446744073709551616) : 0 ≤ bits BinOp.and IntKind.u64 x y ∧ bits BinOp.and IntKind.u64 x y ≤ y := by
  refine ⟨(bits_range _ _ _).1, ?_⟩
  obtain ⟨n, rfl⟩ := Int.eq_ofNat_of_zero_le h0
  unfold bits
  simp only
  have hb : (BitVec.ofInt IntKind.u64.bits x &&& BitVec.ofInt IntKind.u64.bits (n : Int)).toNat ≤ n := by
    rw [BitVec.toNat_and]
    refine Nat.le_trans Nat.and_le_right ?_
    have : (BitVec.ofInt IntKind.u64.bits (n : Int)).toNat = n := by
      rw [BitVec.toNat_ofInt]
      show ((n : Int) % 18446744073709551616).toNat = n
      omega
    omega
  generalize (BitVec.ofInt IntKind.u64.bits x &&& BitVec.ofInt IntKind.u64.bits (n : Int)).toNat = Z at *
  simp [IntKind.wrap, IntKind.signed, IntKind.bits]
  omega
end So6
end Go.Proofs.Ythcllaombabpbaa

/-
  breakPatterns over a row of uint64: only that elements change places.
-/
namespace Go.Proofs.Ythcllaombabpbaa
open Go.RowKit Go.Sort
set_option linter.unusedSimpArgs false
set_option linter.unusedVariables false
namespace So6
theorem idx_in {lo hi N Q Q2 A0 I0 E q : Nat} (h8 : 8 ≤ N) (hN : N ≤ hi - lo ∧ hi - lo ≤ N) (hQ : Q ≤ N / 4 ∧ N / 4 ≤ Q) (hQ2 : Q2 ≤ Q * 2 ∧ Q * 2 ≤ Q2) (hA0 : A0 ≤ lo + Q2 ∧ lo + Q2 ≤ A0) (hI0 : I0 ≤ A0 - 1 ∧ A0 - 1 ≤ I0) (hE : E ≤ A0 + 1 ∧ A0 + 1 ≤ E) (h1 : I0 ≤ q) (h2 : q ≤ E) : lo ≤ q ∧ q < hi := by omega
theorem place_in {lo hi N O X : Nat} (hN : N ≤ hi - lo ∧ hi - lo ≤ N) (hX : X ≤ lo + O ∧ lo + O ≤ X) (h : O < N) : lo ≤ X ∧ X < hi := by omega
theorem diff_lt {N Z O : Nat} (hO : O ≤ Z - N ∧ Z - N ≤ O) (h : N ≤ Z) (h2 : Z < 2 * N) : O < N := by omega
theorem meas {E q : Nat} (h : q ≤ E) : E - q < E + 1 - q := by omega
theorem cast_in {q n : Nat} (h : q < n) : (0 : Int) ≤ (q : Int) ∧ (q : Int) < (n : Int) := by omega
theorem wrap_sum {lo O X : Nat} (hX : X ≤ lo + O ∧ lo + O ≤ X) (h : X ≤ 1099511627776) : IntKind.i64.wrap ((lo : Int) + (O : Int)) = (X : Int) := by rw [IntKind.wrap_i64]; omega
theorem wrap_small {Z N : Nat} (h : Z < 2 * N) (hN : N ≤ 1099511627776) : IntKind.i64.wrap (Z : Int) = (Z : Int) := by rw [IntKind.wrap_i64]; omega
theorem wrap_diff {Z N O : Nat} (hO : O ≤ Z - N ∧ Z - N ≤ O) (h : N ≤ Z) (h2 : Z < 2 * N) (hN : N ≤ 1099511627776) : IntKind.i64.wrap ((Z : Int) - (N : Int)) = (O : Int) := by rw [IntKind.wrap_i64]; omega
set_option maxRecDepth 100000 in
set_option maxHeartbeats 4000000 in
theorem break_any (HL : LenOk) (b cap lo hi : Nat) (d : Array Int) (rest : List Value) (w : World) (hA : Ar w b d rest) (h1 : lo < hi) (h2 : hi ≤ d.size) (hsz : d.size ≤ 1099511627776) :
    Calls Try.prog 86 #[.slice (some ⟨b, 0, none⟩) d.size cap, .int .i64 (lo : Int), .int .i64 (hi : Int)] w fun e w' => e = .returned (.tuple #[]) ∧ (∃ d', Ar w' b d' rest ∧ PermIn lo hi d d') ∧ Sq.Kept (fun k => k ≠ b) w w' := by
  obtain ⟨N, hN⟩ := named (hi - lo)
  have hbl := hA.lt
  have hNs : N ≤ 1099511627776 := by omega
  have hw1 : IntKind.i64.wrap ((hi : Int) - (lo : Int)) = (N : Int) := by rw [IntKind.wrap_i64]; omega
  have HA := Lib.hid hA
  clear hA
  go_enter Try.func86, Try.ntmps86
  by_cases h8 : 8 ≤ N
  · have h8' : (8 : Int) ≤ (N : Int) := by omega
    obtain ⟨Q, hQ⟩ := named (N / 4)
    obtain ⟨Q2, hQ2⟩ := named (Q * 2)
    obtain ⟨A0, hA0⟩ := named (lo + Q2)
    obtain ⟨I0, hI0⟩ := named (A0 - 1)
    obtain ⟨E, hE⟩ := named (A0 + 1)
    have hw2 : IntKind.u64.wrap (N : Int) = (N : Int) := by simp [IntKind.wrap, IntKind.signed, IntKind.bits]; omega
    have hw3 : (N : Int) / 4 = (Q : Int) := by omega
    have hw4 : IntKind.i64.wrap ((Q : Int) * 2) = (Q2 : Int) := by rw [IntKind.wrap_i64]; omega
    have hw5 : IntKind.i64.wrap ((lo : Int) + (Q2 : Int)) = (A0 : Int) := by rw [IntKind.wrap_i64]; omega
    have hw6 : IntKind.i64.wrap ((A0 : Int) - 1) = (I0 : Int) := by rw [IntKind.wrap_i64]; omega
    have hw7 : IntKind.i64.wrap ((A0 : Int) + 1) = (E : Int) := by rw [IntKind.wrap_i64]; omega
    have HP := Lib.hid (fun W => pow2_any HL N W (by omega) (by omega))
    go_wp2_with (go_at_call 99; (with_reducible refine (HP.out _).mono ?_); rintro e w4 ⟨M, rfl, ⟨hM1, hM2⟩, rfl⟩)
    have hwb : w.heap.size ≠ b := by omega
    obtain ⟨M1, hM1'⟩ := named (M - 1)
    have hm2 : M1 < 2 * N ∧ (0 : Int) ≤ (M1 : Int) ∧ (M1 : Int) < 18446744073709551616 := by omega
    have hwm : IntKind.u64.wrap ((M : Int) - 1) = (M1 : Int) := by simp [IntKind.wrap, IntKind.signed, IntKind.bits]; omega
    go_loopw [9] (fun i wr => ∃ (q : Nat) (d' : Array Int) (x : Int), I0 ≤ q ∧ q ≤ E + 1 ∧ i = .int .i64 (q : Int) ∧ d'.size = d.size ∧ PermIn lo hi d d' ∧ (0 ≤ x ∧ x < 18446744073709551616) ∧ Ar wr b d' rest ∧ Boxed wr w.heap.size 140 (.int .u64 x) ∧ Sq.Kept (fun k => k ≠ b ∧ k ≠ w.heap.size) w wr) (fun i _ => E + 1 - (intOf i).toNat)
    case atStart => exact ⟨I0, d, (N : Int), Nat.le_refl _, by omega, rfl, rfl, permIn_refl _ _ _, by omega, Ob.Obj.alloc HA.out _, Boxed.new w _ _, Sq.Kept.alloc _ _ _⟩
    case round =>
      obtain ⟨q, d', x, hq1, hq2, rfl, hds, hperm, hx, hA', hB, hK⟩ := hrel
      have HPM := Lib.hid hperm
      have HK := Lib.hid hK
      have HB := Lib.hid hB
      have HAA := Lib.hid hA'
      clear hperm hK hB hA'
      by_cases hlt : q ≤ E
      · have hqi : lo ≤ q ∧ q < hi := idx_in h8 hN hQ hQ2 hA0 hI0 hE hq1 hlt
        have hlt2 : (q : Int) ≤ (E : Int) := by omega
        have hwq : IntKind.i64.wrap ((q : Int) + 1) = ((q + 1 : Nat) : Int) := by rw [IntKind.wrap_i64]; omega
        have HN := Lib.hid (next_any w.heap.size x wr hx HB.out)
        go_upto_region 8 with (go_at_call 100; (with_reducible refine (HN.out).mono ?_); rintro e w4 ⟨r, rfl, hr, hB4, hK4⟩; obtain ⟨hz0, hz1⟩ := and_le r (M1 : Int) hm2.2.1 hm2.2.2; obtain ⟨Z, hZ⟩ := Int.eq_ofNat_of_zero_le hz0; rw [hZ] at hz1; have hzN : Z < 2 * N := Nat.lt_of_le_of_lt (Int.ofNat_le.1 hz1) hm2.1; have hwz : IntKind.i64.wrap (Z : Int) = (Z : Int) := wrap_small hzN hNs; clear hz0 hz1)
        have hA4 : Ar w4 b d' rest := Ob.Obj.kept HAA.out hK4 (hwb.symm)
        have HK4 := Lib.hid hK4
        clear hK4
        by_cases hz : N ≤ Z
        · have hz2 : (N : Int) ≤ (Z : Int) := by omega
          obtain ⟨O, hO⟩ := named (Z - N)
          have hwo : IntKind.i64.wrap ((Z : Int) - (N : Int)) = (O : Int) := wrap_diff hO hz hzN hNs
          have hon : O < N := diff_lt hO hz hzN
          obtain ⟨X, hX⟩ := named (lo + O)
          have hX1 : lo ≤ X ∧ X < hi := place_in hN hX hon
          have hwx : IntKind.i64.wrap ((lo : Int) + (O : Int)) = (X : Int) := wrap_sum hX (Nat.le_trans (Nat.le_of_lt hX1.2) (Nat.le_trans h2 hsz))
          have hi0 : (0 : Int) ≤ (q : Int) ∧ (q : Int) < (d.size : Int) := cast_in (Nat.lt_of_lt_of_le hqi.2 h2)
          have hi1 : (0 : Int) ≤ (X : Int) ∧ (X : Int) < (d.size : Int) := cast_in (Nat.lt_of_lt_of_le hX1.2 h2)
          have c0 := hA4.cell (j := q) (hds ▸ Nat.lt_of_lt_of_le hqi.2 h2)
          have c1 := hA4.cell (j := X) (hds ▸ Nat.lt_of_lt_of_le hX1.2 h2)
          have f0 := hA4.frozen q
          have f1 := hA4.frozen X
          have c2 := (hA4.set (i := q) (hds ▸ Nat.lt_of_lt_of_le hqi.2 h2) d'[X]!).cell (j := X) (by rw [Array.size_setIfInBounds]; exact hds ▸ Nat.lt_of_lt_of_le hX1.2 h2)
          have f2 := (hA4.set (i := q) (hds ▸ Nat.lt_of_lt_of_le hqi.2 h2) d'[X]!).frozen X
          have HA4 := Lib.hid hA4
          have HPS := Lib.hid (permIn_trans _ _ _ lo hi HPM.out (swp_permIn d' lo hi q X hqi.1 hqi.2 hX1.1 hX1.2 (Nat.le_trans h2 (Nat.le_of_eq hds.symm))))
          have hbox : ∀ u v : Value, Boxed ((w4.drew.setCell ⟨b, q, none⟩ u).setCell ⟨b, X, none⟩ v) w.heap.size 140 (.int .u64 r) := fun u v => Ob.Obj.other (p := ⟨b, X, none⟩) (Ob.Obj.other (p := ⟨b, q, none⟩) (W := w4.drew) hB4 hwb u) hwb v
          have HBX := Lib.hid hbox
          clear hA4 hbox hB4
          go_upto_region 10 with fail
          go_region
          all_goals
            have hA5 := (HA4.out.drewN 1).swap (i := q) (j := X) (hds ▸ Nat.lt_of_lt_of_le hqi.2 h2) (hds ▸ Nat.lt_of_lt_of_le hX1.2 h2)
            have hK5 := (Sq.Kept.drewN (fun k => k ≠ b) w4 1).trans (kept_swap (b := b) (i := q) (j := X) (.int .u64 d'[X]!) (.int .u64 d'[q]!))
            have HA5 := Lib.hid hA5
            have HK5 := Lib.hid hK5
            clear hA5 hK5
            try go_wp2_with fail
            go_roundw
            case rel => exact ⟨q + 1, swp d' q X, r, Nat.le_succ_of_le hq1, Nat.succ_le_succ hlt, by first | rfl | (simp; done) | go_num, by rw [swp_size]; exact hds, HPS.out, hr, HA5.out, HBX.out _ _, (HK.out.trans (HK4.out.less fun k hk _ => hk.2)).trans (HK5.out.less fun k hk _ => hk.1)⟩
            case measure => simp [intOf]; exact meas hlt
        · have hz2 : ¬ (N : Int) ≤ (Z : Int) := by omega
          have hon : Z < N := Nat.lt_of_not_le hz
          obtain ⟨X, hX⟩ := named (lo + Z)
          have hX1 : lo ≤ X ∧ X < hi := place_in hN hX hon
          have hwx : IntKind.i64.wrap ((lo : Int) + (Z : Int)) = (X : Int) := wrap_sum hX (Nat.le_trans (Nat.le_of_lt hX1.2) (Nat.le_trans h2 hsz))
          have hi0 : (0 : Int) ≤ (q : Int) ∧ (q : Int) < (d.size : Int) := cast_in (Nat.lt_of_lt_of_le hqi.2 h2)
          have hi1 : (0 : Int) ≤ (X : Int) ∧ (X : Int) < (d.size : Int) := cast_in (Nat.lt_of_lt_of_le hX1.2 h2)
          have c0 := hA4.cell (j := q) (hds ▸ Nat.lt_of_lt_of_le hqi.2 h2)
          have c1 := hA4.cell (j := X) (hds ▸ Nat.lt_of_lt_of_le hX1.2 h2)
          have f0 := hA4.frozen q
          have f1 := hA4.frozen X
          have c2 := (hA4.set (i := q) (hds ▸ Nat.lt_of_lt_of_le hqi.2 h2) d'[X]!).cell (j := X) (by rw [Array.size_setIfInBounds]; exact hds ▸ Nat.lt_of_lt_of_le hX1.2 h2)
          have f2 := (hA4.set (i := q) (hds ▸ Nat.lt_of_lt_of_le hqi.2 h2) d'[X]!).frozen X
          have HA4 := Lib.hid hA4
          have HPS := Lib.hid (permIn_trans _ _ _ lo hi HPM.out (swp_permIn d' lo hi q X hqi.1 hqi.2 hX1.1 hX1.2 (Nat.le_trans h2 (Nat.le_of_eq hds.symm))))
          have hbox : ∀ u v : Value, Boxed ((w4.drew.setCell ⟨b, q, none⟩ u).setCell ⟨b, X, none⟩ v) w.heap.size 140 (.int .u64 r) := fun u v => Ob.Obj.other (p := ⟨b, X, none⟩) (Ob.Obj.other (p := ⟨b, q, none⟩) (W := w4.drew) hB4 hwb u) hwb v
          have HBX := Lib.hid hbox
          clear hA4 hbox hB4
          go_upto_region 10 with fail
          go_region
          all_goals
            have hA5 := (HA4.out.drewN 1).swap (i := q) (j := X) (hds ▸ Nat.lt_of_lt_of_le hqi.2 h2) (hds ▸ Nat.lt_of_lt_of_le hX1.2 h2)
            have hK5 := (Sq.Kept.drewN (fun k => k ≠ b) w4 1).trans (kept_swap (b := b) (i := q) (j := X) (.int .u64 d'[X]!) (.int .u64 d'[q]!))
            have HA5 := Lib.hid hA5
            have HK5 := Lib.hid hK5
            clear hA5 hK5
            try go_wp2_with fail
            go_roundw
            case rel => exact ⟨q + 1, swp d' q X, r, Nat.le_succ_of_le hq1, Nat.succ_le_succ hlt, by first | rfl | (simp; done) | go_num, by rw [swp_size]; exact hds, HPS.out, hr, HA5.out, HBX.out _ _, (HK.out.trans (HK4.out.less fun k hk _ => hk.2)).trans (HK5.out.less fun k hk _ => hk.1)⟩
            case measure => simp [intOf]; exact meas hlt
      · have hlt2 : ¬ (q : Int) ≤ (E : Int) := by omega
        go_wp2_with fail
        first | go_end0 | refine bodyPost_ret (results_none rfl _ _ _) rfl ?_
        exact ⟨rfl, ⟨d', HAA.out, HPM.out⟩, HK.out.less fun k hk hl => ⟨hk, by omega⟩⟩
  · have h8' : ¬ (8 : Int) ≤ (N : Int) := by omega
    go_wp2_with fail
    first | go_end0 | refine bodyPost_ret (results_none rfl _ _ _) rfl ?_
    exact ⟨rfl, ⟨d, HA.out, permIn_refl _ _ _⟩, Sq.Kept.refl _ _⟩
end So6
end Go.Proofs.Ythcllaombabpbaa
