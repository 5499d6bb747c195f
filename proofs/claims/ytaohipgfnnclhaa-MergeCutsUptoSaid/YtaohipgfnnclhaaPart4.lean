import Derived.StillTailTactics
import Derived.Deep.RegionHeld3
import Derived.Deep.LoopGhost
import Derived.LoopTactic
import Derived.BigQuiet
import Derived.Deep.QuietTactic
import Derived.Deep.Quiet
import Derived.OrdersIn
import Derived.CallsIn
import Derived.RangeFuncCalls
import Derived.Test.YtaohipgfnnclhaaPart3
/-
  The document's answer of several rows as one (tapestryref09.Merge).
-/
namespace Go.Proofs.Ytaohipgfnnclhaa
open Go.RowKit
set_option linter.unusedSimpArgs false
set_option linter.unusedVariables false
namespace Mg
open Mt (Ver mayB lessB placeB VerIn verV VerW)
open Vs (Vers At vcs)
open Tb (ver0 getD_at own_after lower_row)
/-- rows of versions that lie in a slice -/
def RowAt (W : World) (b o : Nat) (L : List Ver) : Prop :=
  ∃ (ra : Option Addr) (rcap rb ro : Nat), W.cell? ⟨b, o, none⟩ = some (.slice ra L.length rcap) ∧ (0 < L.length → ra = some ⟨rb, ro, none⟩ ∧ rb < W.heap.size) ∧ ∀ i (h : i < L.length), At W rb (ro + i * 4) L[i]
theorem RowAt.below {W W' : World} {b o : Nat} {L : List Ver} (h : RowAt W b o L) (hb : Below W.heap.size W W') (hl : b < W.heap.size) : RowAt W' b o L := by
  obtain ⟨ra, rcap, rb, ro, h1, h2, h3⟩ := h
  exact ⟨ra, rcap, rb, ro, (hb.cell (p := ⟨b, o, none⟩) hl).trans h1, fun h => ⟨(h2 h).1, Nat.lt_of_lt_of_le (h2 h).2 hb.size⟩, fun i hi => (h3 i hi).below hb (h2 (by omega)).2⟩
def VV (W : World) (v : Value) (Ls : List (List Ver)) : Prop :=
  ∃ (a : Option Addr) (cap b off : Nat), v = .slice a Ls.length cap ∧ (0 < Ls.length → a = some ⟨b, off, none⟩ ∧ b < W.heap.size) ∧ ∀ j (h : j < Ls.length), RowAt W b (off + j) Ls[j]
theorem gL {Ls : List (List Ver)} {j : Nat} (h : j < Ls.length) : Ls.getD j [] = Ls[j] := by rw [List.getD_eq_getElem?_getD, List.getElem?_eq_getElem h, Option.getD_some]
theorem gA {A : List Nat} {j : Nat} (h : j < A.length) : A.getD j 0 = A[j] := by rw [List.getD_eq_getElem?_getD, List.getElem?_eq_getElem h, Option.getD_some]
/-- whose turn it is among the first i -/
def whoR (Ls : List (List Ver)) (A : List Nat) (i : Nat) (who : Value) : Prop :=
  (pickA Ls A i = none ∧ who = .int .i64 (-1)) ∨ ∃ (k : Nat) (x : Ver), k < i ∧ who = .int .i64 (k : Int) ∧ hd Ls A k = some x ∧ pickA Ls A i = some x
def mgI (Ls : List (List Ver)) (T : Nat) (w : World) (gh : Nat) (ov : Value) (wr : World) : Prop :=
  ∃ (A : List Nat) (out : List Ver), gh = T - out.length ∧ A.length = Ls.length ∧ (∀ j, A.getD j 0 ≤ (Ls.getD j []).length) ∧ out ++ mergeA (T - out.length) Ls A = merge Ls ∧ left Ls A ≤ T - out.length ∧ out.length ≤ T ∧
    wr.ownsRow w.heap.size 3 1 (.slice (some ⟨w.heap.size, 0, none⟩) Ls.length Ls.length) Ls.length (nc A) ∧ wr.ownsRow w.heap.size 57 4 ov out.length (vcs out) ∧ Below w.heap.size w wr
def mgJ (Ls : List (List Ver)) (A : List Nat) (x : Ver) (out : List Ver) (vb : Nat) (ov : Value) (w : World) (i : Nat) (wr : World) : Prop :=
  wr.ownsRow w.heap.size 3 1 (.slice (some ⟨w.heap.size, 0, none⟩) Ls.length Ls.length) Ls.length (nc (advN Ls A x i)) ∧ wr.ownsRow w.heap.size 57 4 ov out.length (vcs out) ∧ Ob.Obj wr vb 57 [.string (Cd.bs x.key), .int .u64 x.seq, .bool x.del, .string (Cd.bs x.val)] ∧ vb ≠ w.heap.size ∧ Below w.heap.size w wr
theorem lt_cell9 {w : World} {p : Addr} {v : Value} (hc : w.cell? p = some v) : p.block < w.heap.size := by
  obtain ⟨o, ho, _⟩ := cells_of_cell hc
  exact (Array.getElem?_eq_some_iff.1 ho).1
theorem made_int9 (n : Nat) : (madeCells (Value.int .i64 0).cells (n * 1)).toList = nc (List.replicate n 0) := by
  rw [show (Value.int .i64 0).cells = #[Value.int .i64 0] from rfl, Nat.mul_one, toList_madeCells_one]
  unfold nc
  rw [List.map_replicate]
  rfl
theorem mgJ_below {Ls : List (List Ver)} {A : List Nat} {x : Ver} {out : List Ver} {vb : Nat} {ov : Value} {w : World} {i : Nat} {W W' : World} (h : mgJ Ls A x out vb ov w i W) (hb : Below W.heap.size W W') : mgJ Ls A x out vb ov w i W' := by
  obtain ⟨h1, h2, h3, h4, h5⟩ := h
  exact ⟨own_after h1 hb, own_after h2 hb, h3.below hb, h4, h5.trans (hb.mono h5.size)⟩
theorem nc_set (l : List Nat) (i n : Nat) : (nc l).set i (.int .i64 (n : Int)) = nc (l.set i n) := by unfold nc; rw [List.map_set]
theorem mgJ_store {Ls : List (List Ver)} {A : List Nat} {x : Ver} {out : List Ver} {vb : Nat} {ov : Value} {w : World} {i : Nat} {W : World} (h : mgJ Ls A x out vb ov w i W) (hh : hit Ls A x i = true) :
    mgJ Ls A x out vb ov w (i + 1) (W.setCell ⟨w.heap.size, i, none⟩ (.int .i64 ((A.getD i 0 + 1 : Nat) : Int))) := by
  obtain ⟨h1, h2, h3, h4, h5⟩ := h
  have hap := Ob.rows_apart h1 h2 (by decide)
  refine ⟨?_, Ob.row_other h2 (p := ⟨w.heap.size, i, none⟩) (hap w.heap.size (by simp [Value.ownBlock])) _, h3.other h4 _, h4, h5.setCell (p := ⟨w.heap.size, i, none⟩) (Nat.le_refl _) _⟩
  rw [advN_succ, if_pos hh, ← nc_set]
  exact (World.ownsRow.stored h1 i _).1
theorem left_zero (Ls : List (List Ver)) : ∀ j, (zeros Ls).getD j 0 ≤ (Ls.getD j []).length := fun j => by
  have : (zeros Ls).getD j 0 = 0 := by
    unfold zeros
    by_cases h : j < Ls.length
    · rw [List.getD_eq_getElem?_getD, List.getElem?_eq_getElem (by simpa using h)]; simp
    · rw [List.getD_eq_getElem?_getD, List.getElem?_eq_none (by simpa using h)]; rfl
  omega

set_option maxRecDepth 100000 in
set_option maxHeartbeats 8000000 in
theorem mergeR9_any (v : Value) (Ls : List (List Ver)) (w : World) (hV : VV w v Ls) (hI : ∀ L ∈ Ls, ∀ x ∈ L, VerIn x) (hLn : ∀ L ∈ Ls, L.length ≤ 1048576) (hn : Ls.length ≤ 1048576) (hT : left Ls (zeros Ls) ≤ 1048576) :
    Calls Try.prog 10 #[v] w fun e w' => ∃ u, e = .returned u ∧ w'.ownsRow w.heap.size 57 4 u (merge Ls).length (vcs (merge Ls)) ∧ Below w.heap.size w w' := by
  obtain ⟨j0, hj0, hy0, hy1, hy2⟩ := info_parts info_Ver9
  obtain ⟨i0, hi0, hz0, hz1, hz2⟩ := info_parts info_int9
  obtain ⟨a, cap, fb, fo, rfl, ha, hcells⟩ := hV
  have HC := Lib.hid hcells
  have HI := Lib.hid hI
  obtain ⟨T, hTd⟩ : ∃ T, left Ls (zeros Ls) = T := ⟨_, rfl⟩
  have HM0 := Lib.hid (show merge Ls = mergeA T Ls (zeros Ls) by unfold merge; rw [hTd])
  have HZ := Lib.hid (show left Ls (zeros Ls) ≤ T by omega)
  rw [hTd] at hT
  clear hcells hI hTd
  go_enter Try.func10, Try.ntmps10
  go_wp2_with (refine wpList_make_full _ (by rfl) _ _ 76 (by rfl) w.heap.size 3 i0 (.int .i64 0) 1 Try.underlying76 hi0 hz0 hz1 .i64 .i64 (Ls.length : Int) (Ls.length : Int) Ls.length (by rfl) (by rfl) rfl rfl (by rw [hz2]; omega) (by unfold maxLen; omega) (Nat.le_refl _) ?_; intro w1 hown hgrow; rw [made_int9] at hown; have hb1 := (Below.refl _ _).grown hgrow (Nat.le_refl _) (fun k hk => by cases hk))
  have HO1 := Lib.hid (show w1.ownsRow w.heap.size 3 1 (.slice (some ⟨w.heap.size, 0, none⟩) Ls.length Ls.length) Ls.length (nc (zeros Ls)) from hown)
  clear hown hgrow
  go_loopg [4] T (fun gh ov wr => mgI Ls T w gh ov wr)
  case atStart => exact ⟨zeros Ls, [], rfl, by simp [zeros], left_zero Ls, by rw [List.nil_append]; exact HM0.out.symm, HZ.out, Nat.zero_le _, HO1.out, World.ownsRow_nil _ _ _ _, hb1⟩
  case round =>
    obtain ⟨A, out, rfl, hAl, hAle, hout, hleft, hTn, hownA, hownO, hB⟩ := hrel
    obtain ⟨wo, rfl⟩ : ∃ wo : World, wo = wr := ⟨_, rfl⟩
    have hbs := hB.size
    have hcA : ∀ j (hj : j < Ls.length), wo.cell? ⟨w.heap.size, j, none⟩ = some (Value.int .i64 ((A.getD j 0 : Nat) : Int)) := fun j hj =>
      (hownA.cellAt j (by omega)).trans (by rw [gA (show j < A.length by omega)]; simp [nc, List.getElem?_eq_getElem (show j < A.length by omega)])
    have hlA : w.heap.size < wo.heap.size ∨ Ls.length = 0 := by
      by_cases h0 : 0 < Ls.length
      · exact .inl (lt_cell9 (hcA 0 h0))
      · exact .inr (by omega)
    have HROW := Lib.hid (fun W (h : Below wo.heap.size wo W) j (hj : j < Ls.length) => (HC.out j hj).below (hB.trans (h.mono hbs)) (ha (by omega)).2)
    have HAT := Lib.hid (fun W (h : Below wo.heap.size wo W) j (hj : j < Ls.length) => (h.cell (p := ⟨w.heap.size, j, none⟩) (by rcases hlA with h | h; exact h; omega)).trans (hcA j hj))
    have HOA := Lib.hid hownA
    have HOO := Lib.hid hownO
    have HOUT := Lib.hid hout
    clear hownA hownO hout hcA
    go_wp2_with fail
    go_loopw [5, 6] (fun who iv wr => ∃ i : Nat, i ≤ Ls.length ∧ iv = .int .i64 (i : Int) ∧ whoR Ls A i who ∧ Below wo.heap.size wo wr) (fun _ iv _ => Ls.length - (intOf iv).toNat)
    case atStart => exact ⟨0, Nat.zero_le _, rfl, .inl ⟨rfl, rfl⟩, Below.refl _ _⟩
    case round =>
      obtain ⟨i, hi, rfl, hwho, hBi⟩ := hrel
      obtain ⟨wi, rfl⟩ : ∃ wi : World, wi = wr := ⟨_, rfl⟩
      have hbis := hBi.size
      by_cases hlt : i < Ls.length
      · obtain ⟨rfl, hfb⟩ := ha (by omega)
        have hle := hAle i
        rw [gL hlt] at hle
        have hps := pickA_succ Ls A i
        have hhd : hd Ls A i = Ls[i][A.getD i 0]? := by unfold hd; rw [gL hlt]
        obtain ⟨ra, rcap, rb, ro, r1, r2, r3⟩ := HROW.out wi hBi i hlt
        have aA := HAT.out wi hBi i hlt
        have hij : (0 : Int) ≤ (i : Int) ∧ (i : Int) < (Ls.length : Int) := by omega
        by_cases hend : A.getD i 0 = Ls[i].length
        · have hee : (((A.getD i 0 : Nat) : Int) == ((Ls[i].length : Nat) : Int)) = true := by rw [hend]; simp
          have hh : hd Ls A i = none := by rw [hhd, List.getElem?_eq_none (by omega)]
          rw [hh] at hps
          have hps2 : pickA Ls A (i + 1) = pickA Ls A i := hps
          have HW := Lib.hid (show whoR Ls A (i + 1) u5 from by
            rcases hwho with ⟨h1, h2⟩ | ⟨k, x, h1, h2, h3, h4⟩
            · exact .inl ⟨hps2.trans h1, h2⟩
            · exact .inr ⟨k, x, by omega, h2, h3, hps2.trans h4⟩)
          clear hps hps2 hh hhd hwho r3
          generalize A.getD i 0 = ai at *
          generalize Ls[i].length = ln at *
          clear hend
          go_wp2_with fail
          go_big_quiet (fail)
          go_wp2_with fail
          go_roundw
          case rel => exact ⟨i + 1, by omega, by go_num, HW.out, belowN hBi _⟩
          case measure => simp [intOf]; omega
        · have hai : A.getD i 0 < Ls[i].length := by omega
          have hee : (((A.getD i 0 : Nat) : Int) == ((Ls[i].length : Nat) : Int)) = false := by rw [beq_eq_false_iff_ne]; omega
          have hh : hd Ls A i = some (Ls[i][A.getD i 0]'hai) := by rw [hhd, List.getElem?_eq_getElem hai]
          rw [hh] at hps
          obtain ⟨rfl, hrb⟩ := r2 (by omega)
          obtain ⟨x, hx⟩ : ∃ x, Ls[i][A.getD i 0]'hai = x := ⟨_, rfl⟩
          have hxin := HI.out _ (List.getElem_mem hlt) _ (List.getElem_mem hai)
          rw [hx] at hps hh hxin
          have HX := Lib.hid (fun W (h : Below wo.heap.size wo W) => by have := HROW.out W h i hlt; exact this)
          rcases hwho with ⟨h1, rfl⟩ | ⟨k, y, hk, rfl, hky, hpy⟩
          · have HW := Lib.hid (show whoR Ls A (i + 1) (.int .i64 (i : Int)) from .inr ⟨i, x, by omega, rfl, hh, by rw [hps, h1]; rfl⟩)
            clear hps hh hhd r3 h1 hx
            generalize A.getD i 0 = ai at *
            generalize Ls[i].length = ln at *
            go_wp2_with fail
            go_big_quiet (fail)
            go_wp2_with fail
            go_roundw
            case rel => exact ⟨i + 1, by omega, by go_num, HW.out, belowN hBi _⟩
            case measure => simp [intOf]; omega
          · have hkn : k < Ls.length := by omega
            have hak0 := hd_lt hky
            rw [gL hkn] at hak0
            have hak : A.getD k 0 < Ls[k].length := hak0
            have hy : Ls[k][A.getD k 0]'hak = y := by
              unfold hd at hky
              rw [gL hkn, List.getElem?_eq_getElem hak] at hky
              exact Option.some.inj hky
            have hyin := HI.out _ (List.getElem_mem hkn) _ (List.getElem_mem hak)
            rw [hy] at hyin
            have HLS := Lib.hid (fun W => Mt.lessR_any x y W hxin.wide hyin.wide)
            have hpk : pickA Ls A (i + 1) = some (if lessB x y = true then x else y) := by rw [hps, hpy]; rfl
            have HW2 := Lib.hid (show whoR Ls A (i + 1) (if lessB x y = true then .int .i64 (i : Int) else .int .i64 (k : Int)) from by
              by_cases hl : lessB x y = true
              · rw [if_pos hl] at hpk ⊢; exact .inr ⟨i, x, by omega, rfl, hh, hpk⟩
              · rw [if_neg hl] at hpk ⊢; exact .inr ⟨k, y, by omega, rfl, hky, hpk⟩)
            clear hpk
            have HRI := Lib.hid (fun W (h : Below wo.heap.size wo W) => show ∃ (ra : Option Addr) (rcap rb ro : Nat), W.cell? ⟨fb, fo + i, none⟩ = some (.slice ra Ls[i].length rcap) ∧ (0 < Ls[i].length → ra = some ⟨rb, ro, none⟩ ∧ rb < W.heap.size) ∧ At W rb (ro + A.getD i 0 * 4) x from by
              obtain ⟨ra', rcap', rb', ro', s1, s2, s3⟩ := HROW.out W h i hlt
              exact ⟨ra', rcap', rb', ro', s1, s2, hx ▸ s3 _ hai⟩)
            have HRK := Lib.hid (fun W (h : Below wo.heap.size wo W) => show ∃ (ra : Option Addr) (rcap rb ro : Nat), W.cell? ⟨fb, fo + k, none⟩ = some (.slice ra Ls[k].length rcap) ∧ (0 < Ls[k].length → ra = some ⟨rb, ro, none⟩ ∧ rb < W.heap.size) ∧ At W rb (ro + A.getD k 0 * 4) y from by
              obtain ⟨ra', rcap', rb', ro', s1, s2, s3⟩ := HROW.out W h k hkn
              exact ⟨ra', rcap', rb', ro', s1, s2, hy ▸ s3 _ hak⟩)
            have HAI := Lib.hid (fun W (h : Below wo.heap.size wo W) => HAT.out W h i hlt)
            have HAK := Lib.hid (fun W (h : Below wo.heap.size wo W) => HAT.out W h k hkn)
            have b1 : (0 : Int) ≤ ((A.getD i 0 : Nat) : Int) ∧ ((A.getD i 0 : Nat) : Int) < ((Ls[i].length : Nat) : Int) := by omega
            have b2 : (0 : Int) ≤ ((A.getD k 0 : Nat) : Int) ∧ ((A.getD k 0 : Nat) : Int) < ((Ls[k].length : Nat) : Int) := by omega
            have b3 : (0 : Int) ≤ (k : Int) ∧ (k : Int) < (Ls.length : Int) := by omega
            clear hps hh hhd hx hy r3 hky hpy
            generalize A.getD i 0 = ai at *
            generalize Ls[i].length = ln at *
            generalize A.getD k 0 = ak at *
            generalize Ls[k].length = kn at *
            obtain ⟨xk, xs, xd, xv⟩ := x
            obtain ⟨yk, ys, yd, yv⟩ := y
            unfold verV at HLS
            simp only at HLS
            go_wp2_with fail
            go_big_quiet (fail)
            have hBq : Below wo.heap.size wo (wi.drewN nq) := belowN hBi _
            generalize wi.drewN nq = wq at *
            have hqs := hBq.size
            clear r1 aA
            obtain ⟨ra', rcap', rb', ro', s1, s2, s3⟩ := HRI.out wq hBq
            obtain ⟨ka, kcap, kb, ko, k1, k2, k3⟩ := HRK.out wq hBq
            have aI := HAI.out wq hBq
            have aK := HAK.out wq hBq
            obtain ⟨rfl, hrb'⟩ := s2 (by omega)
            obtain ⟨rfl, hkb⟩ := k2 (by omega)
            obtain ⟨x0, x1, x2, x3⟩ := s3
            obtain ⟨y0, y1, y2, y3⟩ := k3
            simp only at x0 x1 x2 x3 y0 y1 y2 y3
            go_wp2_with fail
            go_still_tail 20, (by kernel_rfl)
            change wpList _ _ _ _ _ (World.drew _)
            have hBd : Below wo.heap.size wo wq.drew := hBq.drew
            generalize wq.drew = wd at *
            cases hl : lessB ⟨xk, xs, xd, xv⟩ ⟨yk, ys, yd, yv⟩ with
            | true =>
              rw [hl] at HLS HW2
              have HW := Lib.hid (show whoR Ls A (i + 1) (.int .i64 (i : Int)) from HW2.out)
              go_wp2_with (go_at_call 23; (with_reducible refine (HLS.out _).mono ?_); rintro e w3 ⟨rfl, hb3⟩; have hB3 := hBd.trans (hb3.mono hBd.size))
              go_roundw
              case rel => exact ⟨i + 1, by omega, by go_num, HW.out, hB3⟩
              case measure => simp [intOf]; omega
            | false =>
              rw [hl] at HLS HW2
              have HW := Lib.hid (show whoR Ls A (i + 1) (.int .i64 (k : Int)) from HW2.out)
              go_wp2_with (go_at_call 23; (with_reducible refine (HLS.out _).mono ?_); rintro e w3 ⟨rfl, hb3⟩; have hB3 := hBd.trans (hb3.mono hBd.size))
              go_roundw
              case rel => exact ⟨i + 1, by omega, by go_num, HW.out, hB3⟩
              case measure => simp [intOf]; omega
      · obtain rfl : i = Ls.length := by omega
        have hBw := hB.trans (hBi.mono hbs)
        rcases hwho with ⟨h1, rfl⟩ | ⟨k, x, hk, rfl, hkx, hpx⟩
        · have HE := Lib.hid (show merge Ls = out by rw [← HOUT.out, mergeA_end h1, List.append_nil])
          have hoO := own_after HOO.out hBi
          clear h1
          go_wp2_with fail
          go_ret
          exact ⟨_, rfl, by rw [HE.out]; exact hoO, hBw⟩
        · obtain ⟨rfl, hfb⟩ := ha (by omega)
          have hdown := left_down hAl hpx
          obtain ⟨m, hm⟩ : ∃ m, T - out.length = m + 1 := ⟨T - out.length - 1, by omega⟩
          have hm2 : T - (out ++ [x]).length = m := by rw [List.length_append, List.length_singleton]; omega
          have hstep : merge Ls = (out ++ [x]) ++ mergeA m Ls (advN Ls A x Ls.length) := by
            rw [← HOUT.out, hm, mergeA, hpx, List.append_assoc]; rfl
          have HST := Lib.hid hstep
          have hak0 := hd_lt hkx
          rw [gL hk] at hak0
          have hak : A.getD k 0 < Ls[k].length := hak0
          have hy : Ls[k][A.getD k 0]'hak = x := by
            unfold hd at hkx
            rw [gL hk, List.getElem?_eq_getElem hak] at hkx
            exact Option.some.inj hkx
          have hxin := HI.out _ (List.getElem_mem hk) _ (List.getElem_mem hak)
          rw [hy] at hxin
          obtain ⟨ka, kcap, kb, ko, k1, k2, k3⟩ := HROW.out wi hBi k hk
          have aK := HAT.out wi hBi k hk
          obtain ⟨rfl, hkb⟩ := k2 (by omega)
          obtain ⟨y0, y1, y2, y3⟩ := k3 _ hak
          rw [hy] at y0 y1 y2 y3
          have b2 : (0 : Int) ≤ ((A.getD k 0 : Nat) : Int) ∧ ((A.getD k 0 : Nat) : Int) < ((Ls[k].length : Nat) : Int) := by omega
          have b3 : (0 : Int) ≤ (k : Int) ∧ (k : Int) < (Ls.length : Int) := by omega
          have hfbi : fb < wi.heap.size := Nat.lt_of_lt_of_le hfb hBw.size
          have hwi : w.heap.size < wi.heap.size := by rcases hlA with h | h <;> omega
          have HAD := Lib.hid (show ∀ j, (advN Ls A x Ls.length).getD j 0 ≤ (Ls.getD j []).length from fun j => by
            by_cases hj : j < A.length
            · rw [advN_get Ls A x j hj]
              split
              · rename_i h
                have h2 := h.2
                unfold hit at h2
                cases hh : hd Ls A j with
                | none => rw [hh] at h2; cases h2
                | some z => have := hd_lt hh; omega
              · exact hAle j
            · rw [List.getD_eq_getElem?_getD, List.getElem?_eq_none (by rw [advN_len]; omega)]; exact Nat.zero_le _)
          clear k3 hy hkx hstep hpx
          generalize A.getD k 0 = ak at *
          generalize Ls[k].length = kn at *
          have hoA := own_after HOA.out hBi
          have hoO := own_after HOO.out hBi
          go_upto_region 15 with fail
          go_big_region
          have o5 : Ob.Obj (wi.alloc (.cells #[.string (Cd.bs x.key), .int .u64 x.seq, .bool x.del, .string (Cd.bs x.val)] 57)).drew wi.heap.size 57 [.string (Cd.bs x.key), .int .u64 x.seq, .bool x.del, .string (Cd.bs x.val)] := (Ob.Obj.new wi _ _).drew
          have b5 : Below wi.heap.size wi (wi.alloc (.cells #[.string (Cd.bs x.key), .int .u64 x.seq, .bool x.del, .string (Cd.bs x.val)] 57)).drew := ((Below.refl _ _).alloc (Nat.le_refl _) _).drew
          generalize (wi.alloc (.cells #[.string (Cd.bs x.key), .int .u64 x.seq, .bool x.del, .string (Cd.bs x.val)] 57)).drew = w5 at *
          obtain ⟨vb, hvb⟩ : ∃ vb, wi.heap.size = vb := ⟨_, rfl⟩
          have hoA5 := own_after hoA b5
          have hoO5 := own_after hoO b5
          have hap := Ob.rows_apart hoA5 hoO5 (by decide) w.heap.size (by simp [Value.ownBlock])
          have hvO : u4.ownBlock ≠ some vb := fun h => by have := (Ob.row_lt hoO h).2; omega
          rw [hvb] at o5
          have hvw : vb ≠ w.heap.size := by omega
          have hB5 : Below w.heap.size w w5 := hBw.trans (b5.mono hBw.size)
          have c0 := o5.cell 0
          have c1 := o5.cell 1
          have c2 := o5.cell 2
          have c3 := o5.cell 3
          simp at c0 c1 c2 c3
          have hz5 := hB5.size
          rw [hvb]
          clear hoA hoO b5 hvb
          go_upto_region 17 with (at_builtin; refine wpList_append_own _ rfl _ _ 28 rfl w.heap.size 57 j0 (.agg #[.string ⟨#[]⟩, .int .u64 0, .bool false, .string ⟨#[]⟩]) 4 48 Try.underlying28 hj0 hy0 hy1 hy2 rfl (by decide) _ _ _ rfl (hoO5.alloc _) ⟨w5.heap.size, 0, none⟩ 1 1 [_, _, _, _] rfl rfl (by simpa using Vs.cell_four_new w5 _ _ _ _ _) (by simp [Value.oneCell']) (by unfold maxLen; omega) (by omega) (by simp; omega) ?_; intro v6 w6 hown6 hgrow _)
          have hA6 := Sq.row_kept (hoA5.alloc (.cells #[.string (Cd.bs x.key), .int .u64 x.seq, .bool x.del, .string (Cd.bs x.val)] 57)) (Sq.Kept.grown (T := fun b => b = w.heap.size) hgrow (fun r hr h => by subst h; exact hap hr)) (fun g hg => by simpa [Value.ownBlock] using hg.symm)
          have o6 := (o5.alloc (.cells #[.string (Cd.bs x.key), .int .u64 x.seq, .bool x.del, .string (Cd.bs x.val)] 57)).grown hgrow hvO
          have hB6 := (hB5.alloc hz5 (.cells #[.string (Cd.bs x.key), .int .u64 x.seq, .bool x.del, .string (Cd.bs x.val)] 57)).grown hgrow (by simp; omega) (fun j hj => (hoO5.lt j hj).1)
          have hO6 : w6.ownsRow w.heap.size 57 4 v6 (out ++ [x]).length (vcs (out ++ [x])) := by rw [List.length_append, Vs.vcs_snoc]; exact hown6
          have hJ0 : mgJ Ls A x (out ++ [x]) vb v6 w 0 w6 := ⟨hA6, hO6, o6, hvw, hB6⟩
          clear hA6 o6 hB6 hO6 hown6 hgrow c0 c1 c2 c3 hap hvO o5 hoA5 hoO5
          go_wp2_with fail
          go_loopw [9] (fun iv wr => ∃ i : Nat, i ≤ Ls.length ∧ iv = .int .i64 (i : Int) ∧ mgJ Ls A x (out ++ [x]) vb v6 w i wr) (fun iv _ => Ls.length - (intOf iv).toNat)
          case atStart => exact ⟨0, Nat.zero_le _, rfl, hJ0⟩
          case round =>
            obtain ⟨i, hi', rfl, hJ⟩ := hrel
            obtain ⟨wj, rfl⟩ : ∃ wj : World, wj = wr := ⟨_, rfl⟩
            by_cases hlt : i < Ls.length
            · have hle := hAle i
              rw [gL hlt] at hle
              have hij : (0 : Int) ≤ (i : Int) ∧ (i : Int) < (Ls.length : Int) := by omega
              have HFA := Lib.hid (fun W (h : mgJ Ls A x (out ++ [x]) vb v6 w i W) => show (W.cell? ⟨w.heap.size, i, none⟩ = some (.int .i64 ((A.getD i 0 : Nat) : Int)) ∧ W.frozen? ⟨w.heap.size, i, none⟩ = false) ∧
                  (W.cell? ⟨vb, 0, none⟩ = some (.string (Cd.bs x.key)) ∧ W.cell? ⟨vb, 1, none⟩ = some (.int .u64 x.seq) ∧ W.cell? ⟨vb, 2, none⟩ = some (.bool x.del) ∧ W.cell? ⟨vb, 3, none⟩ = some (.string (Cd.bs x.val))) ∧ RowAt W fb (fo + i) Ls[i] from by
                obtain ⟨j1, j2, j3, j4, j5⟩ := h
                refine ⟨⟨?_, j1.frozenAt i⟩, ⟨by simpa using j3.cell 0, by simpa using j3.cell 1, by simpa using j3.cell 2, by simpa using j3.cell 3⟩, (HC.out i hlt).below j5 hfb⟩
                rw [j1.cellAt i (by omega)]
                have hl := advN_len Ls A x i
                have hg := advN_get Ls A x i (by omega) i
                rw [if_neg (fun h => Nat.lt_irrefl _ h.1), gA (by omega)] at hg
                simp only [nc, List.getElem?_map]
                rw [List.getElem?_eq_getElem (by omega), hg]; rfl)
              have hnx : hit Ls A x i = false → ∀ W, mgJ Ls A x (out ++ [x]) vb v6 w i W → mgJ Ls A x (out ++ [x]) vb v6 w (i + 1) W := fun hh W h => by
                unfold mgJ at h ⊢
                rw [advN_succ, if_neg (by rw [hh]; simp)]
                exact h
              have HJ := Lib.hid hJ
              obtain ⟨⟨aI, fI⟩, ⟨c0, c1, c2, c3⟩, ⟨ra, rcap, rb, ro, r1, r2, r3⟩⟩ := HFA.out wj hJ
              by_cases hend : A.getD i 0 < Ls[i].length
              · obtain ⟨z, hz⟩ : ∃ z, Ls[i][A.getD i 0]'hend = z := ⟨_, rfl⟩
                have hh : hit Ls A x i = placeB z x := by
                  unfold hit hd
                  rw [gL hlt, List.getElem?_eq_getElem hend, hz]
                have hzin := HI.out _ (List.getElem_mem hlt) _ (List.getElem_mem hend)
                rw [hz] at hzin
                have HPL := Lib.hid (fun W => Mt.placeR_any z x W hzin.wide hxin.wide)
                have HRZ := Lib.hid (fun W (h : mgJ Ls A x (out ++ [x]) vb v6 w i W) => show ∃ (ra : Option Addr) (rcap rb ro : Nat), W.cell? ⟨fb, fo + i, none⟩ = some (.slice ra Ls[i].length rcap) ∧ (0 < Ls[i].length → ra = some ⟨rb, ro, none⟩ ∧ rb < W.heap.size) ∧ At W rb (ro + A.getD i 0 * 4) z from by
                  obtain ⟨_, _, ⟨ra', rcap', rb', ro', s1, s2, s3⟩⟩ := HFA.out W h
                  exact ⟨ra', rcap', rb', ro', s1, s2, hz ▸ s3 _ hend⟩)
                have b1 : (0 : Int) ≤ ((A.getD i 0 : Nat) : Int) ∧ ((A.getD i 0 : Nat) : Int) < ((Ls[i].length : Nat) : Int) := by omega
                have b4 : ((A.getD i 0 : Nat) : Int) < ((Ls[i].length : Nat) : Int) := b1.2
                have hsml : Ls[i].length ≤ 1048576 := hLn _ (List.getElem_mem hlt)
                have HJS := Lib.hid (fun W (h : mgJ Ls A x (out ++ [x]) vb v6 w i W) (hp : placeB z x = true) => mgJ_store h (hh.trans hp))
                have HJN := Lib.hid (fun W (h : mgJ Ls A x (out ++ [x]) vb v6 w i W) (hp : placeB z x = false) => hnx (hh.trans hp) W h)
                clear r3 hz hh hnx
                generalize A.getD i 0 = ai at *
                generalize Ls[i].length = ln at *
                go_wp2_with fail
                go_big_quiet (fail)
                have hJq := mgJ_below HJ.out (show Below wj.heap.size wj (wj.drewN nq) from belowN (Below.refl _ _) _)
                generalize wj.drewN nq = wq at *
                clear aI fI c0 c1 c2 c3 r1 r2
                obtain ⟨⟨aI, fI⟩, ⟨c0, c1, c2, c3⟩, _⟩ := HFA.out wq hJq
                obtain ⟨ra', rcap', rb', ro', s1, s2, s3⟩ := HRZ.out wq hJq
                obtain ⟨rfl, hrb'⟩ := s2 (by omega)
                obtain ⟨z0, z1, z2, z3⟩ := s3
                obtain ⟨zk, zs, zd, zv⟩ := z
                unfold verV at HPL
                simp only at z0 z1 z2 z3 HPL
                go_wp2_with fail
                go_still_tail 11, (by kernel_rfl)
                change wpList _ _ _ _ _ (World.drew _)
                have hJd := mgJ_below hJq (show Below wq.heap.size wq wq.drew from (Below.refl _ _).drew)
                generalize wq.drew = wd at *
                cases hp : placeB ⟨zk, zs, zd, zv⟩ x with
                | true =>
                  rw [hp] at HPL
                  have HJS2 := Lib.hid (fun W h => HJS.out W h hp)
                  clear aI fI
                  go_wp2_with (go_at_call 32; (with_reducible refine (HPL.out _).mono ?_); rintro e w3 ⟨rfl, hb3⟩; have hJ3 := mgJ_below hJd hb3; have aI := (HFA.out w3 hJ3).1.1; have fI := (HFA.out w3 hJ3).1.2)
                  go_roundw
                  case rel => exact ⟨i + 1, by omega, by go_num, by simpa using HJS2.out _ hJ3⟩
                  case measure => simp [intOf]; omega
                | false =>
                  rw [hp] at HPL
                  have HJN2 := Lib.hid (fun W h => HJN.out W h hp)
                  go_wp2_with (go_at_call 32; (with_reducible refine (HPL.out _).mono ?_); rintro e w3 ⟨rfl, hb3⟩; have hJ3 := mgJ_below hJd hb3)
                  go_roundw
                  case rel => exact ⟨i + 1, by omega, by go_num, HJN2.out _ hJ3⟩
                  case measure => simp [intOf]; omega
              · have hh : hit Ls A x i = false := by
                  unfold hit hd
                  rw [gL hlt, List.getElem?_eq_none (by omega)]
                have HJN := Lib.hid (fun W h => hnx hh W h)
                have hed : decide (((A.getD i 0 : Nat) : Int) < ((Ls[i].length : Nat) : Int)) = false := by rw [decide_eq_false_iff_not]; omega
                clear r3 hh hnx
                generalize A.getD i 0 = ai at *
                generalize Ls[i].length = ln at *
                go_wp2_with fail
                go_big_quiet (fail)
                have hJq := mgJ_below HJ.out (show Below wj.heap.size wj (wj.drewN nq) from belowN (Below.refl _ _) _)
                generalize wj.drewN nq = wq at *
                go_wp2_with fail
                go_roundw
                case rel => exact ⟨i + 1, by omega, by go_num, HJN.out _ hJq⟩
                case measure => simp [intOf]; omega
            · have hie : i = Ls.length := by omega
              rw [hie] at hJ
              obtain ⟨j1, j2, j3, j4, j5⟩ := hJ
              have hid : decide ((i : Int) < (Ls.length : Int)) = false := by simp; omega
              clear hie
              go_wp2_with fail
              go_roundg (T - (out ++ [x]).length)
              case rel => exact ⟨advN Ls A x Ls.length, out ++ [x], rfl, by rw [advN_len]; exact hAl, HAD.out, by rw [hm2]; exact HST.out.symm, by omega, by rw [List.length_append, List.length_singleton]; omega, j1, j2, j5⟩
              case measure => rw [List.length_append, List.length_singleton]; omega
end Mg
end Go.Proofs.Ytaohipgfnnclhaa

/-
  tapestrylaw09: a list as a sequence (row); lists as sequences (rows).
-/
namespace Go.Proofs.Ytaohipgfnnclhaa
open Go.RowKit Go.Shelf
set_option linter.unusedSimpArgs false
set_option linter.unusedVariables false
namespace Mg
open Mt (Ver mayB lessB placeB VerIn verV)
open Vs (Vers At vcs)
open Tb (ver0 getD_at own_after lower_row)
attribute [local go_sem] Oper.semAt_some

/-- the blocks that a list's sequence reads -/
abbrev rowT (B fb n : Nat) : Sq.Blocks := fun k => k = B ∨ (0 < n ∧ k = fb)

set_option maxRecDepth 100000 in
set_option maxHeartbeats 2000000 in
theorem row1_seq (n : Nat) (hn : 1 ≤ n) (L : List Ver) (hL : L.length ≤ 1099511627776) (a : Option Addr) (cap fb fo B : Nat) (w : World) (hB : Boxed w B 28 (.slice a L.length cap)) (ha : 0 < L.length → a = some ⟨fb, fo, none⟩)
    (hc : ∀ j (h : j < L.length), At w fb (fo + j * 4) L[j]) :
    Sq.SeqC Fence.wide n Try.prog 38 #[.pointer (some ⟨B, 0, none⟩)] vEnc9 (rowT B fb L.length) (fun ys => ys = L) (fun pre => pre <+: L) w := by
  intro lp J Jx W hW hJ hJx hY h0
  have hBW := hW.boxed (.inl rfl) hB
  have HC := Lib.hid (fun X (h : Sq.Kept (rowT B fb L.length) W X) j (hj : j < L.length) => show At X fb (fo + j * 4) L[j] from by
    obtain ⟨h1, h2, h3, h4⟩ := hc j hj
    have hk := hW.trans h
    have ht : rowT B fb L.length fb := .inr ⟨by omega, rfl⟩
    exact ⟨hk.cell (p := ⟨fb, fo + j * 4, none⟩) ht h1, hk.cell (p := ⟨fb, fo + j * 4 + 1, none⟩) ht h2, hk.cell (p := ⟨fb, fo + j * 4 + 2, none⟩) ht h3, hk.cell (p := ⟨fb, fo + j * 4 + 3, none⟩) ht h4⟩)
  refine callsIn_of_wp Try.func38 rfl trivial ?_ rfl
  simp only [Try.ntmps38, List.size_toArray, List.length_cons, List.length_nil, Nat.reduceAdd, Nat.reduceSub, Array.replicate_succ, Array.replicate_zero, List.push_toArray, List.append_toArray, List.nil_append, List.cons_append]
  gi_wp2_with fail
  gi_loopw [3] (fun i wr => ∃ q : Nat, q ≤ L.length ∧ i = .int .i64 (q : Int) ∧ J (fun _ => False) (L.take q) wr ∧ Sq.Kept (rowT B fb L.length) W wr) (fun i _ => L.length - (intOf i).toNat)
  case atStart => exact ⟨0, Nat.zero_le _, rfl, h0, Sq.Kept.refl _ _⟩
  case round =>
    obtain ⟨q, hq, rfl, hJs, hk⟩ := hrel
    have hb := hk.boxed (.inl rfl) hBW
    have hcb := hb.cell
    by_cases hlt : q < L.length
    · obtain rfl := ha (by omega)
      obtain ⟨e0, e1, e2, e3⟩ := HC.out wr hk q hlt
      have hi1 : (0 : Int) ≤ (q : Int) ∧ (q : Int) < (L.length : Int) := by omega
      have hts := List.take_succ_eq_append_getElem hlt
      have HSP := Lib.hid (show L.take q ++ [L[q]] <+: L by rw [← hts]; exact List.take_prefix _ _)
      have HTS := Lib.hid hts
      obtain ⟨fn, tmps, assign, body, hy, hR⟩ := hY (fun _ => False) (L.take q) L[q] wr hJs (fun k h => h.elim) HSP.out
      have HR := Lib.hid hR
      clear hR hts
      generalize L[q] = x at *
      obtain ⟨xk, xs, xd, xv⟩ := x
      simp only [vEnc9] at hy
      simp only at e0 e1 e2 e3
      gi_wp2
      refine HR.out.mono ?_
      rintro e W3 (⟨rfl, hJ3, hk3⟩ | ⟨rfl, hJx3, hk3⟩)
      · gi_wp2
        go_roundw
        case rel => exact ⟨q + 1, by omega, by go_num, by rw [HTS.out]; exact hJ3, hk.trans (hk3.less (fun k hk _ => .inr hk))⟩
        case measure => simp [intOf]; omega
      · gi_wp2
        refine bodyPost_ret (results_none rfl _ _ _) rfl ?_
        exact ⟨⟨_, rfl⟩, .inr ⟨_, _, HSP.out, hJx3⟩⟩
    · obtain rfl : q = L.length := by omega
      rw [List.take_length] at hJs
      gi_wp2
      go_end0
      exact ⟨⟨_, rfl⟩, .inl ⟨_, _, rfl, hJs⟩⟩

set_option maxHeartbeats 1000000 in
/-- row(l) tells l; what it reads is the list's own block or new -/
theorem row_anyT (v : Value) (L : List Ver) (B : Nat) (w : World) (hV : Vers B w v L) (hBw : B ≤ w.heap.size) (hL : L.length ≤ 1099511627776) :
    Calls Try.prog 15 #[v] w fun e w' => ∃ u T, e = .returned u ∧ Tells w' u L T ∧ (∀ k, T k → k < B ∨ w.heap.size ≤ k) ∧ Below w.heap.size w w' := by
  obtain ⟨a, cap, fb, fo, rfl, ha, hcells⟩ := hV
  have HC := Lib.hid hcells
  clear hcells
  go_enter Try.func15, Try.ntmps15
  go_wp2
  go_ret
  have hb : Below w.heap.size w (w.alloc (.cells #[.slice a L.length cap] 28)) := (Below.refl _ _).alloc (Nat.le_refl _) _
  have hbx := Boxed.new w 28 (.slice a L.length cap)
  refine ⟨_, rowT w.heap.size fb L.length, rfl, ⟨38, #[.pointer (some ⟨w.heap.size, 0, none⟩)], rfl, enters_of Try.func38 (by kernel_rfl) rfl, ?_, fun W hW => ?_⟩, ?_, hb⟩
  · rintro k (rfl | ⟨h0, rfl⟩)
    · simp
    · have := (ha h0).2; simp; omega
  · refine row1_seq 11 (by omega) L hL a cap fb fo w.heap.size W (hW.boxed (.inl rfl) hbx) (fun h => (ha h).1) (fun j hj => ?_)
    have hfb : fb < w.heap.size := Nat.lt_of_lt_of_le (ha (by omega)).2 hBw
    obtain ⟨h1, h2, h3, h4⟩ := (HC.out j hj).below hb hfb
    have ht : rowT w.heap.size fb L.length fb := .inr ⟨by omega, rfl⟩
    exact ⟨hW.cell (p := ⟨fb, fo + j * 4, none⟩) ht h1, hW.cell (p := ⟨fb, fo + j * 4 + 1, none⟩) ht h2, hW.cell (p := ⟨fb, fo + j * 4 + 2, none⟩) ht h3, hW.cell (p := ⟨fb, fo + j * 4 + 3, none⟩) ht h4⟩
  · rintro k (rfl | ⟨h0, rfl⟩)
    · exact .inr (Nat.le_refl _)
    · exact .inl (ha h0).2
/-- row(l) tells l -/
theorem row_any (v : Value) (L : List Ver) (w : World) (hV : Vers w.heap.size w v L) (hL : L.length ≤ 1099511627776) :
    Calls Try.prog 15 #[v] w fun e w' => ∃ u T, e = .returned u ∧ Tells w' u L T ∧ Below w.heap.size w w' := by
  refine (row_anyT v L w.heap.size w hV (Nat.le_refl _) hL).mono ?_
  rintro e w' ⟨u, T, h1, h2, _, h3⟩
  exact ⟨u, T, h1, h2, h3⟩
end Mg
end Go.Proofs.Ytaohipgfnnclhaa

/-
  The dump is laid out.
-/
namespace Go.Proofs.Ytaohipgfnnclhaa
theorem laidOut : laidOutB Try.prog = true := by kernel_rfl
end Go.Proofs.Ytaohipgfnnclhaa

/-
  The program's merge: own (a version in memory of its own).
-/
namespace Go.Proofs.Ytaohipgfnnclhaa
open Go.RowKit Go.Shelf
set_option linter.unusedSimpArgs false
set_option linter.unusedVariables false
namespace Mg
open Mt (Ver mayB lessB placeB VerIn verV)
open Vs (Vers At vcs)

/-- while a version is cloned its box holds the same -/
def OwnS (w : World) (k s d v : Value) (W : World) : Prop := Below w.heap.size w W ∧ Ob.Obj W w.heap.size 57 [k, s, d, v] ∧ Ob.Obj W (w.heap.size + 1) 57 [.string ⟨#[]⟩, .int .u64 0, .bool false, .string ⟨#[]⟩]

theorem OwnS.cells {w W : World} {k s d v : Value} (h : OwnS w k s d v W) : OwnS w k s d v W ∧ W.cell? ⟨w.heap.size, 0, none⟩ = some k ∧ W.cell? ⟨w.heap.size, 3, none⟩ = some v ∧ W.frozen? ⟨w.heap.size, 0, none⟩ = false ∧ W.frozen? ⟨w.heap.size, 3, none⟩ = false :=
  ⟨h, by rw [h.2.1.cell 0]; rfl, by rw [h.2.1.cell 3]; rfl, h.2.1.frozen 0, h.2.1.frozen 3⟩
theorem OwnS.drew {w W : World} {k s d v : Value} (h : OwnS w k s d v W) : OwnS w k s d v W.drew := ⟨h.1.drew, h.2.1.drew, h.2.2.drew⟩
theorem OwnS.next {w W W' : World} {k s d v : Value} (h : OwnS w k s d v W) (hb : Below W.heap.size W W') : OwnS w k s d v W' :=
  ⟨h.1.trans (hb.mono h.1.size), h.2.1.below hb, h.2.2.below hb⟩
theorem OwnS.set0 {w W : World} {k s d v : Value} (h : OwnS w k s d v W) : OwnS w k s d v (W.setCell ⟨w.heap.size, 0, none⟩ k) :=
  ⟨h.1.setCell (Nat.le_refl _) _, by have := h.2.1.set 0 k; simpa using this, h.2.2.other (by simp) _⟩
theorem OwnS.set3 {w W : World} {k s d v : Value} (h : OwnS w k s d v W) : OwnS w k s d v (W.setCell ⟨w.heap.size, 3, none⟩ v) :=
  ⟨h.1.setCell (Nat.le_refl _) _, by have := h.2.1.set 3 v; simpa using this, h.2.2.other (by simp) _⟩

set_option maxRecDepth 100000 in
set_option maxHeartbeats 4000000 in
theorem own_any (k v : List UInt8) (s : Int) (d : Bool) (w : World) (hk : k.length ≤ 1048576) (hv : v.length ≤ 1048576) :
    Calls Try.prog 65 #[.agg #[.string (Cd.bs k), .int .u64 s, .bool d, .string (Cd.bs v)]] w fun e w' => e = .returned (.agg #[.string (Cd.bs k), .int .u64 s, .bool d, .string (Cd.bs v)]) ∧ Below w.heap.size w w' := by
  have HK := Lib.hid (fun W => clone_any (Cd.bs k) W (by show k.length ≤ _; omega))
  have HV := Lib.hid (fun W => clone_any (Cd.bs v) W (by show v.length ≤ _; omega))
  obtain ⟨K, hK⟩ : ∃ K : Value, K = .string (Cd.bs k) := ⟨_, rfl⟩
  obtain ⟨wA, hwA⟩ : ∃ wA, (w.alloc (.cells #[.string (Cd.bs k), .int .u64 s, .bool d, .string (Cd.bs v)] 57)).alloc (.cells #[.string ⟨#[]⟩, .int .u64 0, .bool false, .string ⟨#[]⟩] 57) = wA := ⟨_, rfl⟩
  have hS : OwnS w (.string (Cd.bs k)) (.int .u64 s) (.bool d) (.string (Cd.bs v)) wA := by
    rw [← hwA]
    refine ⟨((Below.refl _ _).alloc (Nat.le_refl _) _).alloc (by simp) _, (Ob.Obj.new w _ _).alloc _, ?_⟩
    have := Ob.Obj.new (w.alloc (.cells #[.string (Cd.bs k), .int .u64 s, .bool d, .string (Cd.bs v)] 57)) 57 [.string ⟨#[]⟩, .int .u64 0, .bool false, .string ⟨#[]⟩]
    rwa [World.size_alloc] at this
  have HWA := Lib.hid hwA
  clear hwA hK K
  have HS0 := Lib.hid hS.cells
  have HS1 := Lib.hid hS.drew.cells
  go_enter Try.func65, Try.ntmps65
  go_upto_region 1 with fail
  rw [HWA.out]
  go_cut [] from 3 to 10 (fun wx => OwnS w (.string (Cd.bs k)) (.int .u64 s) (.bool d) (.string (Cd.bs v)) wx)
  case first =>
    go_region_held3 (fun W => OwnS w (.string (Cd.bs k)) (.int .u64 s) (.bool d) (.string (Cd.bs v)) W ∧ W.cell? ⟨w.heap.size, 0, none⟩ = some (.string (Cd.bs k)) ∧ W.cell? ⟨w.heap.size, 3, none⟩ = some (.string (Cd.bs v)) ∧ W.frozen? ⟨w.heap.size, 0, none⟩ = false ∧ W.frozen? ⟨w.heap.size, 3, none⟩ = false)
      (first | exact HS0.out | exact HS1.out | exact ((show OwnS w (.string (Cd.bs k)) (.int .u64 s) (.bool d) (.string (Cd.bs v)) _ from (by assumption : _ ∧ _).1).next hb9).cells | exact ((show OwnS w (.string (Cd.bs k)) (.int .u64 s) (.bool d) (.string (Cd.bs v)) _ from (by assumption : _ ∧ _).1).set0).cells | exact ((show OwnS w (.string (Cd.bs k)) (.int .u64 s) (.bool d) (.string (Cd.bs v)) _ from (by assumption : _ ∧ _).1).set3).cells)
      (first
      | (go_at_call 40; (with_reducible refine (HK.out _).mono ?_); rintro e w9 ⟨rfl, hb9⟩)
      | (go_at_call 40; (with_reducible refine (HV.out _).mono ?_); rintro e w9 ⟨rfl, hb9⟩))
    all_goals (try go_wp2_with fail)
    all_goals go_meet
    all_goals exact (show OwnS w (.string (Cd.bs k)) (.int .u64 s) (.bool d) (.string (Cd.bs v)) _ ∧ _ from by assumption).1
  case rest =>
    have c0 := hcut.2.1.cell 0
    have c1 := hcut.2.1.cell 1
    have c2 := hcut.2.1.cell 2
    have c3 := hcut.2.1.cell 3
    have d0 := hcut.2.2.cell 0
    have d1 := hcut.2.2.cell 1
    have d2 := hcut.2.2.cell 2
    have d3 := hcut.2.2.cell 3
    have f0 := hcut.2.2.frozen 0
    have f1 := hcut.2.2.frozen 1
    have f2 := hcut.2.2.frozen 2
    have f3 := hcut.2.2.frozen 3
    simp at c0 c1 c2 c3 d0 d1 d2 d3
    have HB := Lib.hid hcut.1
    go_wp2_with fail
    exact bodyPost_ret (v := .agg #[.string (Cd.bs k), .int .u64 s, .bool d, .string (Cd.bs v)]) (by simp [results, Try.results65, go_sem, d0, d1, d2, d3]) rfl ⟨rfl, (((HB.out.setCell (by simp) _).setCell (by simp) _).setCell (by simp) _).setCell (by simp) _⟩
end Mg
end Go.Proofs.Ytaohipgfnnclhaa

/-
  The document's looks at rows of versions (tapestryref06): Same, Bytes, Newest, From.
-/
namespace Go.Proofs.Ytaohipgfnnclhaa
open Go.RowKit
set_option linter.unusedSimpArgs false
set_option linter.unusedVariables false
namespace Mt
open Vs (Vers At)

set_option maxRecDepth 100000 in
set_option maxHeartbeats 4000000 in
theorem sameR_eq (u v : Value) (L : List Ver) (w : World) (hU : Vers w.heap.size w u L) (hV : Vers w.heap.size w v L) (hL : L.length ≤ 4611686018427387904) :
    Calls Try.prog 11 #[u, v] w fun e w' => e = .returned (.bool true) ∧ Below w.heap.size w w' := by
  obtain ⟨a, cap, fb, fo, rfl, ha, hcells⟩ := hU
  obtain ⟨a', cap', gb, go', rfl, ha', hcells'⟩ := hV
  have HC := Lib.hid hcells
  have HD := Lib.hid hcells'
  clear hcells hcells'
  go_enter Try.func11, Try.ntmps11
  go_wp2_with fail
  go_loopw [5] (fun i wr => ∃ q : Nat, q ≤ L.length ∧ i = .int .i64 (q : Int) ∧ Below w.heap.size w wr) (fun i _ => L.length - (intOf i).toNat)
  case atStart => exact ⟨0, Nat.zero_le _, rfl, Below.refl _ _⟩
  case round =>
    obtain ⟨q, hq, rfl, hB⟩ := hrel
    by_cases hlt : q < L.length
    · obtain ⟨rfl, hfb⟩ := ha (by omega)
      obtain ⟨rfl, hgb⟩ := ha' (by omega)
      obtain ⟨e0, e1, e2, e3⟩ := (HC.out q hlt).below hB hfb
      obtain ⟨d0, d1, d2, d3⟩ := (HD.out q hlt).below hB hgb
      have hi1 : (0 : Int) ≤ (q : Int) ∧ (q : Int) < (L.length : Int) := by omega
      generalize L[q] = x at *
      obtain ⟨k, sq, d, val⟩ := x
      simp only at e0 e1 e2 e3 d0 d1 d2 d3
      go_wp2_with fail
      go_big_quiet (fail)
      go_wp2_with fail
      go_roundw
      case rel => exact ⟨q + 1, by omega, by go_num, belowN hB _⟩
      case measure => simp [intOf]; omega
    · obtain rfl : q = L.length := by omega
      go_wp2_with fail
      go_ret
      exact ⟨rfl, hB⟩

theorem bytes_take (L : List Ver) (q : Nat) (h : q < L.length) : ((L.take (q + 1)).map fun x => x.key.length + x.val.length + 16).sum = ((L.take q).map fun x => x.key.length + x.val.length + 16).sum + (L[q].key.length + L[q].val.length + 16) := by
  rw [List.take_succ_eq_append_getElem h, List.map_append, List.sum_append]
  simp
theorem bytes_le (L : List Ver) (h : ∀ x ∈ L, VerIn x) : ∀ q, ((L.take q).map fun x => x.key.length + x.val.length + 16).sum ≤ 2097168 * q := by
  intro q
  induction q with
  | zero => simp
  | succ q ih =>
    by_cases hq : q < L.length
    · rw [bytes_take L q hq]
      obtain ⟨h1, h2, _, _⟩ := h L[q] (List.getElem_mem hq)
      omega
    · rw [List.take_of_length_le (by omega), ← List.take_of_length_le (l := L) (i := q) (by omega)]
      omega

set_option maxRecDepth 100000 in
set_option maxHeartbeats 4000000 in
theorem bytesR6_any (v : Value) (L : List Ver) (w : World) (hV : Vers w.heap.size w v L) (hI : ∀ x ∈ L, VerIn x) (hL : L.length ≤ 1099511627776) :
    Calls Try.prog 42 #[v] w fun e w' => e = .returned (.int .i64 ((L.map fun x => x.key.length + x.val.length + 16).sum : Nat)) ∧ Below w.heap.size w w' := by
  obtain ⟨a, cap, fb, fo, rfl, ha, hcells⟩ := hV
  have HC := Lib.hid hcells
  have HLE := Lib.hid (bytes_le L hI)
  have HIN := Lib.hid hI
  clear hcells hI
  go_enter Try.func42, Try.ntmps42
  go_wp2_with fail
  go_loopw [3, 4] (fun n i wr => ∃ q : Nat, q ≤ L.length ∧ i = .int .i64 (q : Int) ∧ n = .int .i64 (((L.take q).map fun x => x.key.length + x.val.length + 16).sum : Nat) ∧ Below w.heap.size w wr) (fun _ i _ => L.length - (intOf i).toNat)
  case atStart => exact ⟨0, Nat.zero_le _, rfl, by simp, Below.refl _ _⟩
  case round =>
    obtain ⟨q, hq, rfl, rfl, hB⟩ := hrel
    by_cases hlt : q < L.length
    · obtain ⟨rfl, hfb⟩ := ha (by omega)
      obtain ⟨e0, e1, e2, e3⟩ := (HC.out q hlt).below hB hfb
      have hi1 : (0 : Int) ≤ (q : Int) ∧ (q : Int) < (L.length : Int) := by omega
      have HT := Lib.hid (bytes_take L q hlt)
      have hle := HLE.out q
      obtain ⟨h1, h2, _, _⟩ := HIN.out L[q] (List.getElem_mem hlt)
      generalize ((L.take q).map fun x => x.key.length + x.val.length + 16).sum = s1 at *
      generalize L[q] = x at *
      obtain ⟨k, sq, d, val⟩ := x
      simp only at e0 e1 e2 e3 h1 h2
      have hsk : (Cd.bs k).size = k.length := rfl
      have hsv : (Cd.bs val).size = val.length := rfl
      have w1 : IntKind.i64.wrap ((s1 : Int) + (k.length : Int)) = (s1 : Int) + (k.length : Int) := by rw [IntKind.wrap_i64]; omega
      have w2 : IntKind.i64.wrap ((s1 : Int) + (k.length : Int) + (val.length : Int)) = (s1 : Int) + (k.length : Int) + (val.length : Int) := by rw [IntKind.wrap_i64]; omega
      have w3 : IntKind.i64.wrap ((s1 : Int) + (k.length : Int) + (val.length : Int) + 16) = (s1 : Int) + (k.length : Int) + (val.length : Int) + 16 := by rw [IntKind.wrap_i64]; omega
      go_wp2_with fail
      go_big_quiet (fail)
      go_wp2_with fail
      go_roundw
      case rel => exact ⟨q + 1, by omega, by go_num, by rw [HT.out]; simp only [Value.int.injEq, true_and]; omega, belowN hB _⟩
      case measure => simp [intOf]; omega
    · obtain rfl : q = L.length := by omega
      have HE := Lib.hid (show ((L.take L.length).map fun x => x.key.length + x.val.length + 16).sum = (L.map fun x => x.key.length + x.val.length + 16).sum by rw [List.take_length])
      generalize ((L.take L.length).map fun x => x.key.length + x.val.length + 16).sum = s1 at *
      go_wp2_with fail
      go_ret
      exact ⟨by rw [← HE.out]; rfl, hB⟩
def isNew (key : List UInt8) (seq : Int) (x : Ver) : Bool := decide (x.key = key ∧ x.seq ≤ seq)
/-- P6.4 -/
def newestL (L : List Ver) (key : List UInt8) (seq : Int) : Option Ver := L.find? (isNew key seq)
def nwV : Option Ver → Value
  | some x => .tuple #[verV x, .bool true]
  | none => .tuple #[.agg #[.string (Cd.bs []), .int .u64 0, .bool false, .string (Cd.bs [])], .bool false]
theorem newest_some {L : List Ver} {key : List UInt8} {seq : Int} {q : Nat} (hq : q < L.length) (hall : ∀ j (h : j < L.length), j < q → isNew key seq L[j] = false) (h : isNew key seq L[q] = true) : newestL L key seq = some L[q] := by
  unfold newestL
  rw [List.find?_eq_some_iff_getElem]
  exact ⟨h, q, hq, rfl, fun j hj => by rw [hall j (by omega) hj]; rfl⟩
theorem newest_none {L : List Ver} {key : List UInt8} {seq : Int} (hall : ∀ j (h : j < L.length), isNew key seq L[j] = false) : newestL L key seq = none := by
  unfold newestL
  rw [List.find?_eq_none]
  intro x hx
  obtain ⟨j, hj, rfl⟩ := List.getElem_of_mem hx
  rw [hall j hj]
  simp

end Mt
end Go.Proofs.Ytaohipgfnnclhaa
/-
  The document's lists that a row is cut into (tapestryref09.Cut).
-/
namespace Go.Proofs.Ytaohipgfnnclhaa
open Go.RowKit
set_option linter.unusedSimpArgs false
set_option linter.unusedVariables false
namespace Mg
open Mt (Ver mayB lessB placeB VerIn verV)
open Vs (Vers At)
open Tb (ver0 getD_at own_after slc part_vers part_len part_mem info_vers)

theorem ctN_in (b : Int) (L : List Ver) : ∀ n, (ctN b L n).2 ≤ n ∧ (ctN b L n).1.length ≤ n ∧ ∀ p ∈ (ctN b L n).1, 1 ≤ p.2 ∧ p.1 + p.2 ≤ n
  | 0 => ⟨Nat.le_refl _, Nat.le_refl _, fun p hp => (by cases hp)⟩
  | n + 1 => by
    obtain ⟨h1, h2, h3⟩ := ctN_in b L n
    rw [ctN_succ]
    unfold ctStep
    split
    · refine ⟨Nat.le_refl _, by simp; omega, fun p hp => ?_⟩
      rcases List.mem_append.1 hp with hp | hp
      · have := h3 p hp; omega
      · simp at hp; subst hp; simp only; omega
    · exact ⟨by omega, by omega, fun p hp => by have := h3 p hp; omega⟩

set_option maxRecDepth 100000 in
set_option maxHeartbeats 4000000 in
theorem cutR9_any (b : Int) (a : Option Addr) (cap fb fo : Nat) (L : List Ver) (w : World) (hcap : L.length ≤ cap) (ha : 0 < L.length → a = some ⟨fb, fo, none⟩ ∧ fb < w.heap.size) (hcells : ∀ j (h : j < L.length), At w fb (fo + j * 4) L[j])
    (hI : ∀ x ∈ L, VerIn x) (hL : L.length ≤ 1048576) (hc2 : cap ≤ 9223372036854775807) :
    Calls Try.prog 21 #[.slice a L.length cap, .int .i64 b] w fun e w' => ∃ v, e = .returned v ∧ w'.ownsRow w.heap.size 28 1 v (cut L b).length ((cut L b).map (slc fb fo cap)) ∧ Below w.heap.size w w' := by
  obtain ⟨i0, hi0, hz0, hz1, hz2⟩ := info_parts info_vers
  have HC := Lib.hid hcells
  have HM := Lib.hid hI
  clear hcells hI
  go_enter Try.func21, Try.ntmps21
  go_wp2_with fail
  go_loopw [5, 6, 7] (fun o f i wr => ∃ q : Nat, q ≤ L.length ∧ i = .int .i64 (q : Int) ∧ f = .int .i64 ((ctN b L q).2 : Nat) ∧ wr.ownsRow w.heap.size 28 1 o (ctN b L q).1.length ((ctN b L q).1.map (slc fb fo cap)) ∧ Below w.heap.size w wr) (fun _ _ i _ => L.length - (intOf i).toNat)
  case atStart => exact ⟨0, Nat.zero_le _, rfl, rfl, World.ownsRow_nil _ _ _ _, Below.refl _ _⟩
  case round =>
    obtain ⟨q, hq, rfl, rfl, hown, hB⟩ := hrel
    have hbs := hB.size
    by_cases hlt : q < L.length
    · obtain ⟨rfl, hfb⟩ := ha (by omega)
      obtain ⟨c1, c2, c3⟩ := ctN_in b L q
      obtain ⟨e0, _, _, _⟩ := (HC.out q hlt).below hB hfb
      have hsucc := ctN_succ b L q
      have hcst : ctStep b L (ctN b L q) q = if q + 1 = L.length ∨ (newG L (q + 1) = true ∧ b ≤ (bytes ((L.drop (ctN b L q).2).take (q + 1 - (ctN b L q).2)) : Int)) then ((ctN b L q).1 ++ [((ctN b L q).2, q + 1 - (ctN b L q).2)], q + 1) else ctN b L q := rfl
      generalize ctN b L q = st at *
      obtain ⟨ps, fr⟩ := st
      simp only at *
      have hpl : (Tb.part L (fr, q + 1 - fr)).length ≤ 1048576 := by have := part_len L (fr, q + 1 - fr); simp only at this; omega
      have HB := Lib.hid (fun W (hb : Below w.heap.size w W) => Mt.bytesR6_any (slc fb fo cap (fr, q + 1 - fr)) (Tb.part L (fr, q + 1 - fr)) W
        (part_vers (a := some ⟨fb, fo, none⟩) (fun _ => ⟨rfl, Nat.lt_of_lt_of_le hfb hb.size⟩) (fun j hj => (HC.out j hj).below hb hfb) (fr, q + 1 - fr) (by simp only; omega) (by simp only; omega))
        (fun x hx => HM.out x (part_mem hx)) (by omega))
      have hbl := Mt.bytes_le (Tb.part L (fr, q + 1 - fr)) (fun x hx => HM.out x (part_mem hx)) (Tb.part L (fr, q + 1 - fr)).length
      rw [List.take_length] at hbl
      rw [show bytes ((L.drop fr).take (q + 1 - fr)) = ((Tb.part L (fr, q + 1 - fr)).map fun x => x.key.length + x.val.length + 16).sum from rfl] at hcst
      generalize ((Tb.part L (fr, q + 1 - fr)).map fun x => x.key.length + x.val.length + 16).sum = bb at *
      unfold slc at HB
      simp only at HB
      have hi0' : (0 : Int) ≤ (q : Int) ∧ (q : Int) < (L.length : Int) := by omega
      have hi1 : (0 : Int) ≤ (fr : Int) ∧ (fr : Int) ≤ (q : Int) + 1 := by omega
      have hi2 : (q : Int) + 1 ≤ (cap : Int) := by omega
      have hi3 : ((q : Int) + 1).toNat = q + 1 := by omega
      have hi4 : ((q : Int) + 1 - (fr : Int)).toNat = q + 1 - fr := by omega
      by_cases he : q + 1 = L.length
      · have hcc : q + 1 = L.length ∨ (newG L (q + 1) = true ∧ b ≤ (bb : Int)) := .inl he
        rw [if_pos hcc] at hcst
        have hee : ((q : Int) + 1 == (L.length : Int)) = true := by simp; omega
        clear he
        generalize L[q].key = y at *
        have HS := Lib.hid (hsucc.trans hcst)
        clear hsucc hcst hcc
        go_wp2_with fail
        go_big_quiet (fail)
        have hownq := Sq.row_kept hown (Sq.Kept.drewN (fun _ => True) wr nq) (fun _ _ => trivial)
        have hBq : Below w.heap.size w (wr.drewN nq) := belowN hB _
        generalize wr.drewN nq = wq at *
        have hqs := hBq.size
        clear hown hB hbs
        go_wp2_with (first
          | (go_at_call 42; (with_reducible refine (HB.out _ hBq).mono ?_); rintro e w1 ⟨rfl, hb1⟩; have hown1 := own_after hownq hb1; have hB1 := hBq.trans (hb1.mono hqs); have hz9 := hB1.size)
          | (at_builtin; refine wpList_append_own _ rfl _ _ 22 rfl w.heap.size 28 i0 (.slice none 0 0) 1 24 Try.underlying22 hi0 hz0 hz1 hz2 rfl (by decide) _ _ _ rfl (hown1.alloc _) ⟨w1.heap.size, 0, none⟩ 1 1 [_] rfl rfl (cell_one_new _ _ _) (by simp [Value.oneCell']) (by unfold maxLen; omega) (by omega) (by simp; omega) ?_; intro v' w2 hown2 hgrow _))
        go_roundw
        case rel => exact ⟨q + 1, by omega, by go_num, by rw [HS.out]; show _ = Value.int .i64 ((q + 1 : Nat) : Int); go_num, by rw [HS.out]; simpa [List.length_append, slc] using hown2, (hB1.alloc hB1.size _).grown hgrow (by simp; omega) (fun j hj => (Ob.row_lt hown1 hj).1)⟩
        case measure => simp [intOf]; omega
      · have hee : ((q : Int) + 1 == (L.length : Int)) = false := by simp; omega
        have hlt1 : q + 1 < L.length := by omega
        obtain ⟨d0, _, _, _⟩ := (HC.out (q + 1) hlt1).below hB hfb
        have hj1 : (0 : Int) ≤ (q : Int) + 1 ∧ (q : Int) + 1 < (L.length : Int) := by omega
        have hng : newG L (q + 1) = (L[q + 1].key != L[q].key) := by
          show (decide (q + 1 = 0) || (L.getD (q + 1) ver0).key != (L.getD (q + 1 - 1) ver0).key) = _
          rw [getD_at hlt1, Nat.add_sub_cancel, getD_at hlt]; simp
        rw [hng] at hcst
        clear hng
        generalize L[q].key = y at *
        generalize L[q + 1].key = x at *
        by_cases hxy : x = y
        · have hcc : ¬ (q + 1 = L.length ∨ ((x != y) = true ∧ b ≤ (bb : Int))) := fun h => h.elim he (fun h => by simp [hxy] at h)
          rw [if_neg hcc] at hcst
          have hne : (x == y) = true := by simp [hxy]
          clear he hxy
          have HS := Lib.hid (hsucc.trans hcst)
          clear hsucc hcst hcc
          go_wp2_with fail
          go_big_quiet (fail)
          have hownq := Sq.row_kept hown (Sq.Kept.drewN (fun _ => True) wr nq) (fun _ _ => trivial)
          have hBq : Below w.heap.size w (wr.drewN nq) := belowN hB _
          generalize wr.drewN nq = wq at *
          have hqs := hBq.size
          clear hown hB hbs
          go_wp2_with (first
          | (go_at_call 42; (with_reducible refine (HB.out _ hBq).mono ?_); rintro e w1 ⟨rfl, hb1⟩; have hown1 := own_after hownq hb1; have hB1 := hBq.trans (hb1.mono hqs); have hz9 := hB1.size)
          | (at_builtin; refine wpList_append_own _ rfl _ _ 22 rfl w.heap.size 28 i0 (.slice none 0 0) 1 24 Try.underlying22 hi0 hz0 hz1 hz2 rfl (by decide) _ _ _ rfl (hown1.alloc _) ⟨w1.heap.size, 0, none⟩ 1 1 [_] rfl rfl (cell_one_new _ _ _) (by simp [Value.oneCell']) (by unfold maxLen; omega) (by omega) (by simp; omega) ?_; intro v' w2 hown2 hgrow _))
          go_roundw
          case rel => exact ⟨q + 1, by omega, by go_num, by rw [HS.out], by rw [HS.out]; exact hown1, hB1⟩
          case measure => simp [intOf]; omega
        · have hne : (x == y) = false := by simpa using hxy
          by_cases hb : b ≤ (bb : Int)
          · have hcc : q + 1 = L.length ∨ ((x != y) = true ∧ b ≤ (bb : Int)) := .inr ⟨by simp [hxy], hb⟩
            rw [if_pos hcc] at hcst
            clear he hxy
            have HS := Lib.hid (hsucc.trans hcst)
            clear hsucc hcst hcc
            go_wp2_with fail
            go_big_quiet (fail)
            have hownq := Sq.row_kept hown (Sq.Kept.drewN (fun _ => True) wr nq) (fun _ _ => trivial)
            have hBq : Below w.heap.size w (wr.drewN nq) := belowN hB _
            generalize wr.drewN nq = wq at *
            have hqs := hBq.size
            clear hown hB hbs
            go_wp2_with (first
          | (go_at_call 42; (with_reducible refine (HB.out _ hBq).mono ?_); rintro e w1 ⟨rfl, hb1⟩; have hown1 := own_after hownq hb1; have hB1 := hBq.trans (hb1.mono hqs); have hz9 := hB1.size)
          | (at_builtin; refine wpList_append_own _ rfl _ _ 22 rfl w.heap.size 28 i0 (.slice none 0 0) 1 24 Try.underlying22 hi0 hz0 hz1 hz2 rfl (by decide) _ _ _ rfl (hown1.alloc _) ⟨w1.heap.size, 0, none⟩ 1 1 [_] rfl rfl (cell_one_new _ _ _) (by simp [Value.oneCell']) (by unfold maxLen; omega) (by omega) (by simp; omega) ?_; intro v' w2 hown2 hgrow _))
            go_roundw
            case rel => exact ⟨q + 1, by omega, by go_num, by rw [HS.out]; show _ = Value.int .i64 ((q + 1 : Nat) : Int); go_num, by rw [HS.out]; simpa [List.length_append, slc] using hown2, (hB1.alloc hB1.size _).grown hgrow (by simp; omega) (fun j hj => (Ob.row_lt hown1 hj).1)⟩
            case measure => simp [intOf]; omega
          · have hcc : ¬ (q + 1 = L.length ∨ ((x != y) = true ∧ b ≤ (bb : Int))) := fun h => h.elim he (fun h => hb h.2)
            rw [if_neg hcc] at hcst
            have hbd : decide (b ≤ (bb : Int)) = false := by simpa using hb
            clear he hxy hb
            have HS := Lib.hid (hsucc.trans hcst)
            clear hsucc hcst hcc
            go_wp2_with fail
            go_big_quiet (fail)
            have hownq := Sq.row_kept hown (Sq.Kept.drewN (fun _ => True) wr nq) (fun _ _ => trivial)
            have hBq : Below w.heap.size w (wr.drewN nq) := belowN hB _
            generalize wr.drewN nq = wq at *
            have hqs := hBq.size
            clear hown hB hbs
            go_wp2_with (first
          | (go_at_call 42; (with_reducible refine (HB.out _ hBq).mono ?_); rintro e w1 ⟨rfl, hb1⟩; have hown1 := own_after hownq hb1; have hB1 := hBq.trans (hb1.mono hqs); have hz9 := hB1.size)
          | (at_builtin; refine wpList_append_own _ rfl _ _ 22 rfl w.heap.size 28 i0 (.slice none 0 0) 1 24 Try.underlying22 hi0 hz0 hz1 hz2 rfl (by decide) _ _ _ rfl (hown1.alloc _) ⟨w1.heap.size, 0, none⟩ 1 1 [_] rfl rfl (cell_one_new _ _ _) (by simp [Value.oneCell']) (by unfold maxLen; omega) (by omega) (by simp; omega) ?_; intro v' w2 hown2 hgrow _))
            go_roundw
            case rel => exact ⟨q + 1, by omega, by go_num, by rw [HS.out], by rw [HS.out]; exact hown1, hB1⟩
            case measure => simp [intOf]; omega
    · obtain rfl : q = L.length := by omega
      go_wp2_with fail
      go_ret
      exact ⟨_, rfl, hown, hB⟩
end Mg
end Go.Proofs.Ytaohipgfnnclhaa

/-
  Ranges over a function that hands over memory which the loop may write to: what the iterator owes, what the loop owes (as XSeqLaw; Own x: the blocks that are handed over with x; Fx x R W: what is said of them).
-/
namespace Go.Proofs.Ytaohipgfnnclhaa
open Go.RowKit
set_option linter.unusedVariables false
namespace Sq

def SeqW {α : Type} (F : Fence) (n : Nat) (P : Program) (g : Nat) (lb : Array Value) (encs : α → Array Value) (Fx : α → Blocks → World → Prop) (Own : α → Blocks) (T : Blocks) (S Sp : List α → Prop) (w : World) : Prop :=
  ∀ (l : Nat) (J Jx : Blocks → List α → World → Prop) (W : World), Kept T w W → Steady J → Steady Jx →
    (∀ R pre x W1, J R pre W1 → (∀ k, R k → W.heap.size ≤ k ∧ k < W1.heap.size) → Sp (pre ++ [x]) → Fx x R W1 → YieldAt F (n - 1) P l (encs x) W1 fun e W' =>
      (e = .returned (.bool true) ∧ J R (pre ++ [x]) W' ∧ Kept (fun k => (R k ∧ ¬ Own x k) ∨ T k) W1 W') ∨ (e = .returned (.bool false) ∧ Jx R (pre ++ [x]) W' ∧ Kept (fun k => (R k ∧ ¬ Own x k) ∨ T k) W1 W')) →
    J (fun _ => False) [] W →
    CallsIn F n P g (#[.func (.yield l) #[] #[]] ++ lb) W fun e W' => (∃ v, e = .returned v) ∧ ((∃ xs R, S xs ∧ J R xs W') ∨ (∃ pre R, Sp pre ∧ Jx R pre W'))

def postW {α : Type} (Ow T : Blocks) (I : Blocks → List α → World → Prop) (Ix : Code → Blocks → List α → World → Prop) (R : Blocks) (xs : List α) (W : World) : Exit → Act → World → Prop
  | .normal, _, W' => Kept (fun k => (R k ∧ ¬ Ow k) ∨ T k) W W' ∧ I R xs W'
  | .ret, _, W' => Kept (fun k => (R k ∧ ¬ Ow k) ∨ T k) W W' ∧ Ix .ret R xs W'
  | .exit id, _, W' => Kept (fun k => (R k ∧ ¬ Ow k) ∨ T k) W W' ∧ Ix (.exit id) R xs W'
  | .goto t, _, W' => Kept (fun k => (R k ∧ ¬ Ow k) ∨ T k) W W' ∧ Ix (.goto t) R xs W'
  | .panic _, _, _ => False
  | .outgrown, _, _ => False

variable {F : Fence} {n : Nat} {P : Program}

/-- THE STATEMENT 'for .. := range seq { body }' over such a sequence. -/
theorem wp_rangeW {α : Type} {g : Operand} {ps : Array Tmp} {assign body : Code} {Q : Exit → Act → World → Prop} {a : Act} {w : World}
    (hro : F.round = none) (h1 : 1 ≤ n) {gf : Nat} {lb : Array Value} (hg : a.eval g = .func (.func gf) #[] lb) (hFg : F.fn gf) (eg : ∀ args w, (callFunc gf args).run P w = .ok (.enter gf args) w)
    {encs : α → Array Value} {Fx : α → Blocks → World → Prop} {Own : α → Blocks} {T : Blocks} {S Sp : List α → Prop} (hseq : SeqW F (n - 1) P gf lb encs Fx Own T S Sp w)
    (hFm : ∀ x R R' W, Fx x R W → (∀ k, R k → R' k) → Fx x R' W) (hFk : ∀ x R W W', Fx x R W → Kept R W W' → Fx x R W') (hFo : ∀ x R W k, Fx x R W → Own x k → R k) (hT : ∀ k, T k → k < w.heap.size) (hps : ∀ x, (encs x).size = ps.size)
    (I : Blocks → List α → World → Prop) (Ix : Code → Blocks → List α → World → Prop) (Ia : Act → α → Blocks → List α → World → Prop)
    (hI : Steady I) (hIx : ∀ c, Steady (Ix c)) (hIa : ∀ a' x, Steady (Ia a' x)) (h0 : I (fun _ => False) [] w)
    (hassign : ∀ (l : Nat) (R : Blocks) (pre : List α) (x : α) (W : World), (∀ k, R k → w.heap.size ≤ k ∧ k < W.heap.size) → Sp (pre ++ [x]) → I R pre W → Fx x R W →
      assign.wpIn (F.inRound l) (n - 1 - 1) P (Exit.then (fun a' W' => Kept (fun k => R k ∨ T k) W W' ∧ Ia a' x R pre W') (fun _ _ _ => False)) { tmps := (ps.zip (encs x)).foldl (fun t (p, v) => t.setIfInBounds p v) a.tmps, defers := [] } W)
    (hbody : ∀ (l : Nat) (R : Blocks) (pre : List α) (x : α) (a' : Act) (W : World), R l → (∃ r, W.heap[l]? = some (.loop r)) → (∀ k, R k → w.heap.size ≤ k ∧ k < W.heap.size) → Sp (pre ++ [x]) → Ia a' x R pre W → Fx x R W →
      body.wpIn (F.inRound l) (n - 1 - 1) P (postW (Own x) T I Ix R (pre ++ [x]) W) a' W)
    (hdone : ∀ (D : Nat) (R : Blocks) (xs : List α) (W : World), w.heap.size ≤ D → R D → S xs → I R xs W → W.heap[D]? = some (.deferred (some [])) → Q .normal { a with defers := { target := .collected D, args := #[] } :: a.defers } W)
    (hstop : ∀ (D : Nat) (R : Blocks) (c : Code) (pre : List α) (W : World), w.heap.size ≤ D → R D → Sp pre → Ix c R pre W → W.heap[D]? = some (.deferred (some [])) → c.wpIn F n P Q { a with defers := { target := .collected D, args := #[] } :: a.defers } W) :
    (Code.rangeFunc g ps assign body).wpIn F n P Q a w := by
  refine wpIn_rangeFunc ?_
  intro fn hfn
  rw [hro]
  obtain ⟨rec, hrec⟩ : ∃ rec : LoopState → Option Code → Loop, rec = fun st pe => { state := st, pending := pe, fn, tmps := a.tmps, params := ps, assign, body, defers := w.heap.size } := ⟨_, rfl⟩
  obtain ⟨D, hD⟩ : ∃ D, D = w.heap.size := ⟨_, rfl⟩
  obtain ⟨W1, hW1⟩ : ∃ W1, (w.alloc (.deferred (some []))).alloc (.loop (rec .ready none)) = W1 := ⟨_, rfl⟩
  have hsz1 : W1.heap.size = D + 2 := by rw [← hW1]; simp; omega
  -- the blocks of the book-keeping beside those of the iterator's
  let R2 : Blocks → Blocks := fun R k => R k ∨ (k = D ∨ k = D + 1)
  have st0 : Step (fun _ => False) (R2 fun _ => False) w W1 := by
    rw [← hW1]
    refine ⟨(Kept.alloc _ _ _).trans (Kept.alloc _ _ _), fun _ h => h.elim, fun k h => ?_⟩
    rcases h with h | h | h
    · exact h.elim
    · exact .inr (by omega)
    · exact .inr (by omega)
  have hL1 : W1.heap[D + 1]? = some (.loop (rec .ready none)) := by
    rw [← hW1]; have := World.alloc_heap_new (w.alloc (.deferred (some []))) (.loop (rec .ready none)); rw [World.size_alloc, ← hD] at this; exact this
  have hK1 : W1.heap[D]? = some (.deferred (some [])) := by
    rw [← hW1, hD]; exact (Below.heap_alloc _ _ _ (by simp)).trans (World.alloc_heap_new w _)
  have hkT : Kept T w W1 := by rw [← hW1]; exact (Kept.alloc _ _ _).trans (Kept.alloc _ _ _)
  have step2 : ∀ {R R' : Blocks} {X Y : World}, Step R R' X Y → Step (R2 R) (R2 R') X Y := fun st =>
    ⟨st.kept.less fun k hk _ h => hk (.inl h), fun k h => h.elim (fun h => .inl (st.sub k h)) .inr, fun k h => h.elim (fun h => (st.new k h).elim (fun h => .inl (.inl h)) .inr) (fun h => .inl (.inr h))⟩
  refine ⟨D + 1, [{ target := .collected D, args := #[] }], W1, { target := .fn (.func gf) lb, args := #[.func (.yield (D + 1)) #[] #[]] }, W1, gf,
    #[.func (.yield (D + 1)) #[] #[]] ++ lb, W1, ?_, ?_, ?_, ?_, fun _ => h1, ?_⟩
  · rw [← hW1, hrec, hD]; exact run_enterLoop_outer _ _ _ _ _
  · simp only [resolve, hg]
    simp [go_sem]
  · intro f' hf'; simp [Target.leads] at hf'; subst hf'; exact hFg
  · simp [invoke, go_sem, eg]
  · refine (hseq (D + 1)
      (fun R pre W => I (R2 R) pre W ∧ (W.heap[D + 1]? = some (.loop (rec .ready none)) ∧ ¬ R (D + 1)) ∧ (W.heap[D]? = some (.deferred (some [])) ∧ ¬ R D))
      (fun R pre W => ∃ c, Ix c (R2 R) pre W ∧ (W.heap[D + 1]? = some (.loop (rec .done (some c))) ∧ ¬ R (D + 1)) ∧ (W.heap[D]? = some (.deferred (some [])) ∧ ¬ R D))
      W1 hkT
      (fun R R' s X Y hs st => ⟨hI _ _ _ _ _ hs.1 (step2 st), step_obj st hs.2.1.1 hs.2.1.2, step_obj st hs.2.2.1 hs.2.2.2⟩)
      (fun R R' s X Y ⟨c, hs⟩ st => ⟨c, hIx c _ _ _ _ _ hs.1 (step2 st), step_obj st hs.2.1.1 hs.2.1.2, step_obj st hs.2.2.1 hs.2.2.2⟩)
      ?_ ⟨hI _ _ _ _ _ h0 st0, ⟨hL1, fun h => h⟩, ⟨hK1, fun h => h⟩⟩).mono ?_
    · -- one round
      rintro R pre x W ⟨hi, ⟨hl, hnl⟩, ⟨hk, hnk⟩⟩ hbd hsp hfx
      have hlt : D + 1 < W.heap.size := (Array.getElem?_eq_some_iff.1 hl).1
      have hbd2 : ∀ (X : World), W.heap.size ≤ X.heap.size → ∀ k, R2 R k → w.heap.size ≤ k ∧ k < X.heap.size := fun X hX k h => by
        rcases h with h | h | h
        · have := hbd k h; omega
        · omega
        · omega
      have hy := run_yield (P := P) (args := encs x) hl (by rw [hrec]; exact hps x)
      rw [hrec] at hy
      refine ⟨fn, _, assign, body, hy, roundIn_of_wpIn hfn ?_⟩
      clear hy
      refine wpIn_mono (hassign (D + 1) (R2 R) pre x W (hbd2 W (Nat.le_refl _)) hsp hi (hFm _ _ _ _ hfx fun k hk => .inl hk)) ?_
      rintro e a' Wa hpost
      cases e with
      | normal =>
        obtain ⟨hka, hia⟩ := hpost
        have hla : Wa.heap[D + 1]? = some (.loop (rec .ready none)) := (hka.block (D + 1) (.inl (.inr (.inr rfl))) hlt).trans hl
        have hka2 : Wa.heap[D]? = some (.deferred (some [])) := (hka.block D (.inl (.inr (.inl rfl))) (by omega)).trans hk
        have hlta : D + 1 < Wa.heap.size := (Array.getElem?_eq_some_iff.1 hla).1
        refine ⟨_, run_beginRound hla (by rw [hrec]), ?_⟩
        obtain ⟨Wb, hWb⟩ : ∃ Wb, Wa.putObj (D + 1) (.loop { rec .ready none with state := .busy }) = Wb := ⟨_, rfl⟩
        have hlb : Wb.heap[D + 1]? = some (.loop { rec .ready none with state := .busy }) := by rw [← hWb]; exact World.putObj_heap_same hlta
        have hkb : Wb.heap[D]? = some (.deferred (some [])) := by rw [← hWb]; exact (World.putObj_heap_other (by omega)).trans hka2
        have hszb : Wb.heap.size = Wa.heap.size := by rw [← hWb]; simp
        have keptb : ∀ T' : Blocks, ¬ T' (D + 1) → Kept T' Wa Wb := fun T' h => by rw [← hWb]; exact Kept.putObj _ _ h
        have hib := hIa a' x _ _ _ _ _ hia (show Step (R2 R) (R2 R) Wa Wb by rw [← hWb]; exact Step.putObj (R := R2 R) Wa _ (.inr (.inr rfl)))
        have hbody' := hbody (D + 1) (R2 R) pre x a' Wb (.inr (.inr rfl)) ⟨_, hlb⟩ (hbd2 Wb (by rw [hszb]; exact hka.size)) hsp hib (hFm _ _ _ _ (hFk x R _ _ (hFk x R _ _ hfx (hka.less fun k hk _ => .inl (.inl hk))) (keptb R hnl)) fun k hk => .inl hk)
        have hno : ∀ k, Own x k → k ≠ D ∧ k ≠ D + 1 := fun k hk => ⟨fun e => hnk (e ▸ hFo _ _ _ _ hfx hk), fun e => hnl (e ▸ hFo _ _ _ _ hfx hk)⟩
        show Code.wpIn _ _ _ _ _ _ _
        rw [hWb]
        refine wpIn_mono hbody' ?_
        have hnT : ¬ (fun k => (R k ∧ ¬ Own x k) ∨ T k) (D + 1) := fun h => h.elim (fun h => hnl h.1) (fun h => by have := hT _ h; omega)
        have fin : ∀ (jump : Option Code) (W3 : World), Kept (fun k => (R2 R k ∧ ¬ Own x k) ∨ T k) Wb W3 →
            (Instr.endRound (D + 1) jump).run P W3 = .ok (.bool jump.isNone) (W3.putObj (D + 1) (.loop (rec (if jump.isNone then .ready else .done) jump))) ∧
            (W3.putObj (D + 1) (.loop (rec (if jump.isNone then .ready else .done) jump))).heap[D + 1]? = some (.loop (rec (if jump.isNone then .ready else .done) jump)) ∧
            (W3.putObj (D + 1) (.loop (rec (if jump.isNone then .ready else .done) jump))).heap[D]? = some (.deferred (some [])) ∧
            Kept (fun k => (R k ∧ ¬ Own x k) ∨ T k) W (W3.putObj (D + 1) (.loop (rec (if jump.isNone then .ready else .done) jump))) := fun jump W3 hk3 => by
          have hl3 := (hk3.block (D + 1) (.inl ⟨.inr (.inr rfl), fun h => (hno _ h).2 rfl⟩) (by omega)).trans hlb
          have := run_endRound (P := P) jump hl3
          rw [hrec] at this
          refine ⟨by rw [hrec]; exact this, World.putObj_heap_same (Array.getElem?_eq_some_iff.1 hl3).1, (World.putObj_heap_other (by omega)).trans ((hk3.block D (.inl ⟨.inr (.inl rfl), fun h => (hno _ h).1 rfl⟩) (by omega)).trans hkb), ?_⟩
          refine ((hka.less ?_).trans (keptb _ hnT)).trans ((hk3.less ?_).trans (Kept.putObj _ _ hnT))
          · exact fun k h _ => h.elim (fun h => .inl (.inl h.1)) .inr
          · exact fun k h _ => h.elim (fun h => .inl ⟨.inl h.1, h.2⟩) .inr
        rintro e a3 W3 hp
        cases e with
        | normal =>
          obtain ⟨hk3, hi3⟩ := hp
          obtain ⟨hr, hl4, hk4, hkk⟩ := fin none W3 hk3
          exact ⟨_, _, hr, .inl ⟨rfl, ⟨hI _ _ _ _ _ hi3 (Step.putObj _ _ (.inr (.inr rfl))), ⟨hl4, hnl⟩, ⟨hk4, hnk⟩⟩, hkk⟩⟩
        | ret =>
          obtain ⟨hk3, hi3⟩ := hp
          obtain ⟨hr, hl4, hk4, hkk⟩ := fin (some .ret) W3 hk3
          exact ⟨_, _, hr, .inr ⟨rfl, ⟨.ret, hIx _ _ _ _ _ _ hi3 (Step.putObj _ _ (.inr (.inr rfl))), ⟨hl4, hnl⟩, ⟨hk4, hnk⟩⟩, hkk⟩⟩
        | exit id =>
          obtain ⟨hk3, hi3⟩ := hp
          obtain ⟨hr, hl4, hk4, hkk⟩ := fin (some (.exit id)) W3 hk3
          exact ⟨_, _, hr, .inr ⟨rfl, ⟨.exit id, hIx _ _ _ _ _ _ hi3 (Step.putObj _ _ (.inr (.inr rfl))), ⟨hl4, hnl⟩, ⟨hk4, hnk⟩⟩, hkk⟩⟩
        | goto t =>
          obtain ⟨hk3, hi3⟩ := hp
          obtain ⟨hr, hl4, hk4, hkk⟩ := fin (some (.goto t)) W3 hk3
          exact ⟨_, _, hr, .inr ⟨rfl, ⟨.goto t, hIx _ _ _ _ _ _ hi3 (Step.putObj _ _ (.inr (.inr rfl))), ⟨hl4, hnl⟩, ⟨hk4, hnk⟩⟩, hkk⟩⟩
        | panic ch => exact hp.elim
        | outgrown => exact hp.elim
      | ret => exact hpost.elim
      | exit id => exact hpost.elim
      | goto t => exact hpost.elim
      | panic ch => exact hpost.elim
      | outgrown => exact hpost.elim
    · -- behind the iterator
      rintro e W2 ⟨⟨v, rfl⟩, (⟨xs, R, hS, hi, ⟨hl, hnl⟩, ⟨hk, hnk⟩⟩ | ⟨pre, R, hSp, c, hi, ⟨hl, hnl⟩, ⟨hk, hnk⟩⟩)⟩
      · exact ⟨none, _, by have := run_endLoop (P := P) hl (by rw [hrec]; simp); rw [hrec] at this; exact this,
          hdone D (R2 R) xs _ (by omega) (.inr (.inl rfl)) hS (hI _ _ _ _ _ hi (Step.putObj _ _ (.inr (.inr rfl)))) ((World.putObj_heap_other (by omega)).trans hk)⟩
      · exact ⟨some c, _, by have := run_endLoop (P := P) hl (by rw [hrec]; simp); rw [hrec] at this; exact this,
          hstop D (R2 R) c pre _ (by omega) (.inr (.inl rfl)) hSp (hIx c _ _ _ _ _ hi (Step.putObj _ _ (.inr (.inr rfl)))) ((World.putObj_heap_other (by omega)).trans hk)⟩
end Sq
end Go.Proofs.Ytaohipgfnnclhaa

/-
  Plain mathematics of P9.4: the lists of a row, together, are the row; what it is to tell lists that the loop may write to.
-/
namespace Go.Proofs.Ytaohipgfnnclhaa
open Go.RowKit
set_option linter.unusedSimpArgs false
set_option linter.unusedVariables false
namespace Mg
open Mt (Ver VerIn verV)
open Vs (Vers At vcs)
open Tb (ver0)
theorem ctN_flat (b : Int) (L : List Ver) : ∀ n, n ≤ L.length → (((ctN b L n).1.map (Tb.part L)).flatten = L.take (ctN b L n).2 ∧ (ctN b L n).2 ≤ n)
  | 0, _ => ⟨rfl, Nat.le_refl _⟩
  | n + 1, h => by
    obtain ⟨h1, h2⟩ := ctN_flat b L n (by omega)
    rw [ctN_succ]
    generalize ctN b L n = st at *
    unfold ctStep
    split
    · refine ⟨?_, Nat.le_refl _⟩
      simp only [List.map_append, List.map_cons, List.map_nil, List.flatten_append, h1, List.flatten_cons, List.flatten_nil, List.append_nil]
      unfold Tb.part
      simp only
      have : n + 1 = st.2 + (n + 1 - st.2) := by omega
      conv => rhs; rw [this]
      rw [List.take_add]
    · exact ⟨h1, by omega⟩
/-- the lists -/
def cutLs (L : List Ver) (b : Int) : List (List Ver) := (cut L b).map (Tb.part L)
theorem cut_flat (L : List Ver) (b : Int) : (cutLs L b).flatten = L := by
  unfold cutLs cut
  obtain ⟨h1, h2⟩ := ctN_flat b L L.length (Nat.le_refl _)
  rw [h1]
  cases hl : L.length with
  | zero => rw [List.eq_nil_of_length_eq_zero hl]; simp
  | succ m =>
    have : (ctN b L (m + 1)).2 = m + 1 := by
      rw [ctN_succ]
      unfold ctStep
      rw [if_pos (.inl hl.symm)]
    rw [this, List.take_of_length_le (by omega)]
theorem cut_each (L : List Ver) (b : Int) : ∀ C ∈ cutLs L b, C ≠ [] ∧ ∀ x ∈ C, x ∈ L := by
  intro C hC
  unfold cutLs at hC
  obtain ⟨p, hp, rfl⟩ := List.mem_map.1 hC
  obtain ⟨h1, h2⟩ := (ctN_in b L L.length).2.2 p hp
  refine ⟨fun e => ?_, fun x hx => List.mem_of_mem_drop (List.mem_of_mem_take hx)⟩
  have := congrArg List.length e
  unfold Tb.part at this
  simp at this
  omega
theorem cut_many (L : List Ver) (b : Int) : (cutLs L b).length ≤ L.length := by
  unfold cutLs; rw [List.length_map]; exact (ctN_in b L L.length).2.1
/-- a list that is told, and where it lies -/
structure Told where
  a : Option Addr
  cap : Nat
  fb : Nat
  fo : Nat
  l : List Ver
abbrev cEnc9 (x : Told) : Array Value := #[.slice x.a x.l.length x.cap]
def CFx (x : Told) (R : Sq.Blocks) (W : World) : Prop :=
  x.l ≠ [] → x.a = some ⟨x.fb, x.fo, none⟩ ∧ R x.fb ∧ x.fb < W.heap.size ∧ (∀ o, W.frozen? ⟨x.fb, o, none⟩ = false) ∧ ∀ j (h : j < x.l.length), At W x.fb (x.fo + j * 4) x.l[j]
def COwn (x : Told) : Sq.Blocks := fun k => x.l ≠ [] ∧ k = x.fb
theorem CFx.mono : ∀ (x : Told) (R R' : Sq.Blocks) (W : World), CFx x R W → (∀ k, R k → R' k) → CFx x R' W := fun x R R' W h hR hn => let ⟨h1, h2, h3⟩ := h hn; ⟨h1, hR _ h2, h3⟩
theorem at_kept {T : Sq.Blocks} {W W' : World} {b o : Nat} {x : Ver} (h : At W b o x) (hk : Sq.Kept T W W') (hT : T b) : At W' b o x :=
  ⟨hk.cell (p := ⟨b, o, none⟩) hT h.1, hk.cell (p := ⟨b, o + 1, none⟩) hT h.2.1, hk.cell (p := ⟨b, o + 2, none⟩) hT h.2.2.1, hk.cell (p := ⟨b, o + 3, none⟩) hT h.2.2.2⟩
theorem CFx.kept : ∀ (x : Told) (R : Sq.Blocks) (W W' : World), CFx x R W → Sq.Kept R W W' → CFx x R W' := fun x R W W' h hk hn => by
  obtain ⟨h1, h2, h3, h4, h5⟩ := h hn
  exact ⟨h1, h2, Nat.lt_of_lt_of_le h3 hk.size, fun o => (World.frozen?_of_block (w := W) (hk.block _ h2 h3)).trans (h4 o), fun j hj => at_kept (h5 j hj) hk h2⟩
theorem CFx.own : ∀ (x : Told) (R : Sq.Blocks) (W : World) (k : Nat), CFx x R W → COwn x k → R k := fun x R W k h hk => by
  obtain ⟨hn, rfl⟩ := hk
  exact (h hn).2.1
/-- A FUNCTION VALUE THAT TELLS THESE LISTS, each in memory that is the loop's from then on, wherever the blocks of T stand as they do. -/
def TellsC (w : World) (v : Value) (Cs : List (List Ver)) (T : Sq.Blocks) : Prop :=
  ∃ (gf : Nat) (lb : Array Value), v = .func (.func gf) #[] lb ∧ (∀ args w, (callFunc gf args).run Try.prog w = .ok (.enter gf args) w) ∧ (∀ k, T k → k < w.heap.size) ∧
    ∀ W, Sq.Kept T w W → Sq.SeqW Fence.wide 11 Try.prog gf lb cEnc9 CFx COwn T (fun ys => ys.map (·.l) = Cs) (fun pre => pre.map (·.l) <+: Cs) W

def CutOk : Prop := ∀ (sv : Value) (L : List Ver) (T : Sq.Blocks) (b : Int) (w : World), Tells w sv L T → (∀ x ∈ L, VerIn x) → L.length ≤ 1048576 → (-9223372036854775808 ≤ b ∧ b ≤ 9223372036854775807) →
    Calls Try.prog 22 #[sv, .int .i64 b] w fun e w' => ∃ u T', e = .returned u ∧ TellsC w' u (cutLs L b) T' ∧ (∀ k, T' k → T k ∨ w.heap.size ≤ k) ∧ Below w.heap.size w w'
end Mg
end Go.Proofs.Ytaohipgfnnclhaa

/-
  Chapter 9 told version by version: what an iterator that keeps nothing back has told behind the first n (for whatever program lands).
-/
namespace Go.Proofs.Ytaohipgfnnclhaa
open Go.RowKit
set_option linter.unusedVariables false
namespace Sq
/-- where no depth is asked an iterator owes the same at every figure -/
theorem seqC_any {α : Type} {P : Program} {g : Nat} {lb : Array Value} {encs : α → Array Value} {T : Blocks} {S Sp : List α → Prop} {w : World} {n : Nat} (m : Nat) (h : SeqC Fence.wide n P g lb encs T S Sp w) : SeqC Fence.wide m P g lb encs T S Sp w :=
  fun l J Jx W hW hJ hJx hY h0 => callsIn_wide.2 (callsIn_wide.1 (h l J Jx W hW hJ hJx (fun R pre x W1 h1 h2 h3 => anyDepth rfl (n - 1) (hY R pre x W1 h1 h2 h3)) h0))
theorem seqW_any {α : Type} {P : Program} {g : Nat} {lb : Array Value} {encs : α → Array Value} {Fx : α → Blocks → World → Prop} {Own : α → Blocks} {T : Blocks} {S Sp : List α → Prop} {w : World} {n : Nat} (m : Nat) (h : SeqW Fence.wide n P g lb encs Fx Own T S Sp w) : SeqW Fence.wide m P g lb encs Fx Own T S Sp w :=
  fun l J Jx W hW hJ hJx hY h0 => callsIn_wide.2 (callsIn_wide.1 (h l J Jx W hW hJ hJx (fun R pre x W1 h1 h2 h3 h4 => anyDepth rfl (n - 1) (hY R pre x W1 h1 h2 h3 h4)) h0))
end Sq
namespace Mg
open Op (bytesLess)
open Mt (Ver)
open Tb (ver0 getD_at)
theorem pre_len {L pre : List Ver} {x : Ver} (h : pre ++ [x] <+: L) : pre.length < L.length := by have := h.length_le; simp at this; omega
theorem pre_at {L pre : List Ver} {x : Ver} (h : pre ++ [x] <+: L) : L.getD pre.length ver0 = x := by
  obtain ⟨t, rfl⟩ := h
  simp [List.getD_eq_getElem?_getD]
theorem pre_last {L pre : List Ver} {x : Ver} (h : pre ++ [x] <+: L) (h0 : pre ≠ []) : L.getD (pre.length - 1) ver0 = pre.getLast h0 := by
  obtain ⟨t, rfl⟩ := h
  have : 0 < pre.length := List.length_pos_iff.2 h0
  rw [List.getD_eq_getElem?_getD, List.append_assoc, List.getElem?_append_left (by omega), List.getLast_eq_getElem, List.getElem?_eq_getElem (by omega), Option.getD_some]
theorem newG_pre {L pre : List Ver} {x : Ver} (h : pre ++ [x] <+: L) : newG L pre.length = (match pre.getLast? with | none => true | some y => x.key != y.key) := by
  unfold newG
  rw [pre_at h]
  cases hp : pre.getLast? with
  | none => rw [List.getLast?_eq_none_iff] at hp; subst hp; simp
  | some y =>
    have h0 : pre ≠ [] := by rintro rfl; simp at hp
    rw [List.getLast?_eq_some_getLast h0] at hp
    rw [pre_last h h0, Option.some.inj hp]
    have : pre.length ≠ 0 := by simpa using h0
    simp [this]
/-- MERGE's twin for Pairs: what is told only grows -/
theorem prN_grows (seq : Int) (lo : List UInt8) (L : List Ver) (n : Nat) : ∀ m, n ≤ m → (prN seq lo L n).1 <+: (prN seq lo L m).1
  | 0, h => by obtain rfl : n = 0 := by omega
               exact List.prefix_refl _
  | m + 1, h => by
    by_cases he : n = m + 1
    · subst he; exact List.prefix_refl _
    · refine (prN_grows seq lo L n m (by omega)).trans ?_
      rw [prN_succ]
      unfold prStep
      split
      · exact List.prefix_refl _
      · exact List.prefix_append _ _
theorem getD_pre {L M : List Ver} (h : M <+: L) {i : Nat} (hi : i < M.length) : M.getD i ver0 = L.getD i ver0 := by
  obtain ⟨t, rfl⟩ := h
  simp only [List.getD_eq_getElem?_getD]
  rw [List.getElem?_append_left hi]
theorem newG_of_pre {L M : List Ver} (h : M <+: L) {i : Nat} (hi : i < M.length) : newG M i = newG L i := by
  unfold newG
  rw [getD_pre h hi, getD_pre h (by omega : i - 1 < M.length)]
theorem prN_pre (seq : Int) (lo : List UInt8) {L M : List Ver} (h : M <+: L) : ∀ n, n ≤ M.length → prN seq lo M n = prN seq lo L n
  | 0, _ => rfl
  | n + 1, hn => by
    rw [prN_succ, prN_succ, prN_pre seq lo h n (by omega)]
    unfold prStep
    rw [newG_of_pre h (by omega), getD_pre h (by omega)]
theorem below_pre (L : List Ver) (hi : List UInt8) : below L hi <+: L := List.takeWhile_prefix _
/-- the first one that is not below hi ends it -/
theorem below_stop {L pre : List Ver} {x : Ver} {hi : List UInt8} (h : pre ++ [x] <+: L) (hp : ∀ v ∈ pre, (hi.isEmpty || bytesLess v.key hi) = true) (hx : (hi.isEmpty || bytesLess x.key hi) = false) : below L hi = pre := by
  obtain ⟨t, rfl⟩ := h
  unfold below
  rw [List.append_assoc, List.takeWhile_append_of_pos hp, List.singleton_append, List.takeWhile_cons_of_neg (by simpa using hx), List.append_nil]
theorem below_all {L : List Ver} {hi : List UInt8} (hp : ∀ v ∈ L, (hi.isEmpty || bytesLess v.key hi) = true) : below L hi = L := by
  unfold below
  have := List.takeWhile_append_of_pos (l₂ := []) hp
  simpa using this
theorem pairs_stop {L pre : List Ver} {x : Ver} {seq : Int} {lo hi : List UInt8} (h : pre ++ [x] <+: L) (hp : ∀ v ∈ pre, (hi.isEmpty || bytesLess v.key hi) = true) (hx : (hi.isEmpty || bytesLess x.key hi) = false) : pairs L seq lo hi = (prN seq lo L pre.length).1 := by
  unfold pairs
  rw [below_stop h hp hx, prN_pre seq lo ((List.prefix_append pre [x]).trans h) _ (Nat.le_refl _)]
theorem pairs_all {L : List Ver} {seq : Int} {lo hi : List UInt8} (hp : ∀ v ∈ L, (hi.isEmpty || bytesLess v.key hi) = true) : pairs L seq lo hi = (prN seq lo L L.length).1 := by
  unfold pairs
  rw [below_all hp]
/-- what has been told behind the first ones, all below hi, begins what is told -/
theorem pairs_grows {L pre : List Ver} {seq : Int} {lo hi : List UInt8} (h : pre <+: L) (hp : ∀ v ∈ pre, (hi.isEmpty || bytesLess v.key hi) = true) : (prN seq lo L pre.length).1 <+: pairs L seq lo hi := by
  unfold pairs
  have hb : pre <+: below L hi := by
    obtain ⟨t, rfl⟩ := h
    unfold below
    rw [List.takeWhile_append_of_pos hp]
    exact List.prefix_append _ _
  rw [← prN_pre seq lo (below_pre L hi) pre.length hb.length_le]
  exact prN_grows _ _ _ _ _ hb.length_le

/-- what is held back of the group at hand -/
def pend (fl : List Int) (bottom : Bool) (L : List Ver) (n : Nat) : List Ver := (kpN fl bottom L n).2.drop (trim bottom (kpN fl bottom L n).2).length
theorem trim_pre (bottom : Bool) (l : List Ver) : trim bottom l <+: l := by
  unfold trim
  split
  · have := List.dropWhile_suffix (·.del) (l := l.reverse)
    rw [← List.reverse_prefix, List.reverse_reverse] at this
    exact this
  · exact List.prefix_refl _
theorem trim_pend (fl : List Int) (bottom : Bool) (L : List Ver) (n : Nat) : trim bottom (kpN fl bottom L n).2 ++ pend fl bottom L n = (kpN fl bottom L n).2 := by
  unfold pend
  obtain ⟨t, ht⟩ := trim_pre bottom (kpN fl bottom L n).2
  generalize trim bottom (kpN fl bottom L n).2 = A at *
  rw [← ht]
  simp
theorem trim_more (bottom : Bool) (l : List Ver) (v : Ver) : trim bottom (l ++ [v]) = if (bottom && v.del) = true then trim bottom l else l ++ [v] := by
  unfold trim
  cases bottom
  · simp
  · simp only [Bool.true_and, if_true]
    rw [List.reverse_append, List.reverse_singleton, List.singleton_append, List.dropWhile_cons]
    split
    · rfl
    · simp
/-- A VERSION MORE, with which a group begins. -/
theorem kpF_new {fl : List Int} {bottom : Bool} {L : List Ver} {n : Nat} (h : newG L n = true) :
    kpF fl bottom L (n + 1) = kpF fl bottom L n ++ (if (bottom && (L.getD n ver0).del) = true then [] else [L.getD n ver0]) ∧ pend fl bottom L (n + 1) = (if (bottom && (L.getD n ver0).del) = true then [L.getD n ver0] else []) := by
  have hs : kpN fl bottom L (n + 1) = ((kpN fl bottom L n).1 ++ trim bottom (kpN fl bottom L n).2, [L.getD n ver0]) := by
    rw [kpN_succ]; unfold kpStep; rw [if_pos h]
  have ht := trim_more bottom [] (L.getD n ver0)
  rw [List.nil_append] at ht
  have h0 : trim bottom [] = [] := by unfold trim; split <;> rfl
  unfold kpF pend
  rw [hs]
  simp only
  rw [ht, h0]
  split <;> simp
/-- A VERSION MORE of the group at hand that is needed. -/
theorem kpF_seen {fl : List Int} {bottom : Bool} {L : List Ver} {n : Nat} (h : newG L n = false) (hs : seenAt fl L n = true) :
    kpF fl bottom L (n + 1) = kpF fl bottom L n ++ (if (bottom && (L.getD n ver0).del) = true then [] else pend fl bottom L n ++ [L.getD n ver0]) ∧ pend fl bottom L (n + 1) = (if (bottom && (L.getD n ver0).del) = true then pend fl bottom L n ++ [L.getD n ver0] else []) := by
  have h1 : kpN fl bottom L (n + 1) = ((kpN fl bottom L n).1, (kpN fl bottom L n).2 ++ [L.getD n ver0]) := by
    rw [kpN_succ]; unfold kpStep; rw [if_neg (by rw [h]; simp), if_pos hs]
  have hp := trim_pend fl bottom L n
  have ht := trim_more bottom (kpN fl bottom L n).2 (L.getD n ver0)
  unfold kpF
  constructor
  · rw [h1]
    simp only
    rw [ht]
    split
    · simp
    · conv => lhs; rw [← hp]
      simp
  · conv => lhs; unfold pend
    rw [h1]
    simp only
    rw [ht]
    split
    · rw [List.drop_append_of_le_length (trim_pre _ _).length_le]
      rfl
    · simp
/-- A VERSION MORE that is not needed. -/
theorem kpF_skip {fl : List Int} {bottom : Bool} {L : List Ver} {n : Nat} (h : newG L n = false) (hs : seenAt fl L n = false) : kpF fl bottom L (n + 1) = kpF fl bottom L n ∧ pend fl bottom L (n + 1) = pend fl bottom L n := by
  have h1 : kpN fl bottom L (n + 1) = kpN fl bottom L n := by
    rw [kpN_succ]; unfold kpStep; rw [if_neg (by rw [h]; simp), if_neg (by rw [hs]; simp), List.append_nil]
  unfold kpF pend
  rw [h1]
  exact ⟨rfl, rfl⟩
theorem kpF_grows (fl : List Int) (bottom : Bool) (L : List Ver) (n : Nat) : ∀ m, n ≤ m → kpF fl bottom L n <+: kpF fl bottom L m
  | 0, h => by obtain rfl : n = 0 := by omega
               exact List.prefix_refl _
  | m + 1, h => by
    by_cases he : n = m + 1
    · subst he; exact List.prefix_refl _
    · refine (kpF_grows fl bottom L n m (by omega)).trans ?_
      by_cases hn : newG L m = true
      · rw [(kpF_new hn).1]; exact List.prefix_append _ _
      · by_cases hs : seenAt fl L m = true
        · rw [(kpF_seen (by simpa using hn) hs).1]; exact List.prefix_append _ _
        · rw [(kpF_skip (by simpa using hn) (by simpa using hs)).1]; exact List.prefix_refl _

/-- CUT: the version of place n+1 has come; what it decides. -/
theorem ctN_mid {b : Int} {L : List Ver} {n : Nat} (h : n + 1 < L.length) : ctN b L (n + 1) = if newG L (n + 1) = true ∧ b ≤ (bytes ((L.drop (ctN b L n).2).take (n + 1 - (ctN b L n).2)) : Int) then ((ctN b L n).1 ++ [((ctN b L n).2, n + 1 - (ctN b L n).2)], n + 1) else ctN b L n := by
  rw [ctN_succ]
  unfold ctStep
  by_cases hc : newG L (n + 1) = true ∧ b ≤ (bytes ((L.drop (ctN b L n).2).take (n + 1 - (ctN b L n).2)) : Int)
  · rw [if_pos (.inr hc), if_pos hc]
  · rw [if_neg (fun h2 => h2.elim (fun h2 => by omega) hc), if_neg hc]
/-- the end of s has come -/
theorem ctN_end {b : Int} {L : List Ver} {n : Nat} (h : n + 1 = L.length) : ctN b L L.length = ((ctN b L n).1 ++ [((ctN b L n).2, n + 1 - (ctN b L n).2)], n + 1) := by
  rw [← h, ctN_succ]
  unfold ctStep
  rw [if_pos (.inl h)]
theorem ctN_grows (b : Int) (L : List Ver) (n : Nat) : ∀ m, n ≤ m → (ctN b L n).1 <+: (ctN b L m).1
  | 0, h => by obtain rfl : n = 0 := by omega
               exact List.prefix_refl _
  | m + 1, h => by
    by_cases he : n = m + 1
    · subst he; exact List.prefix_refl _
    · refine (ctN_grows b L n m (by omega)).trans ?_
      rw [ctN_succ]
      unfold ctStep
      split
      · exact List.prefix_append _ _
      · exact List.prefix_refl _
theorem cutLs_grows (b : Int) (L : List Ver) (n : Nat) (hn : n ≤ L.length) : ((ctN b L n).1.map (Tb.part L)) <+: cutLs L b := by
  obtain ⟨t, ht⟩ := ctN_grows b L n L.length hn
  exact ⟨t.map (Tb.part L), by unfold cutLs cut; rw [← ht, List.map_append]⟩
/-- bytes of one version more -/
theorem bytes_snoc (l : List Ver) (v : Ver) : bytes (l ++ [v]) = bytes l + (v.key.length + v.val.length + 16) := by
  unfold bytes; rw [List.map_append, List.sum_append]; simp
end Mg
end Go.Proofs.Ytaohipgfnnclhaa

/-
  A region that draws its order and only reads, walked once in the text's order, where the fence lets all in: also within a round of a range over a function.
-/
namespace Go.Proofs.Ytaohipgfnnclhaa
namespace Qr
variable {F : Fence} {n : Nat} {P : Program} {ops : Array Oper} {md : Region.Mode} {C : World → Prop}

/-- the fence lets all in -/
structure Open (F : Fence) : Prop where
  fn : ∀ f, F.fn f
  depth : F.depth = none
  calls : ∀ {P : Program} {n : Nat} {f : FuncId} {args : Array Value} {w : World} {R : Ending → World → Prop}, Calls P f args w R → CallsIn F n P f args w R
theorem open_wide : Open Fence.wide := ⟨fun _ => trivial, rfl, fun h => callsIn_wide.2 h⟩
theorem open_round (l : Nat) : Open (Fence.wide.inRound l) := ⟨fun _ => trivial, rfl, fun h => CallsIn.inRound l (callsIn_wide.2 h)⟩

def notDefer (o : Oper) : Bool := match o.op with | .defer _ => false | _ => true
theorem notDefer_ne {o : Oper} (h : notDefer o = true) : ∀ c, o.op ≠ .defer c := fun c e => by unfold notDefer at h; rw [e] at h; cases h

theorem oper_of_quiet (hO : Open F) {o : Oper} {a : Act} {K : Act → Prop} {K' : Act → World → Prop} {Q' : Exit → Act → World → Prop} {w : World} (hnd : notDefer o = true) (hw : C w) (h : ∀ a w', C w' → K a → K' a w')
    (hh : o.quiet P a C K) : o.wpIn F n P a w K' Q' := by
  obtain ⟨v, h1, h2⟩ := hh
  have h3 := h1 w hw
  unfold Oper.quietAt at h3
  unfold Oper.wpIn
  refine ⟨fun f _ => hO.fn f, ?_⟩
  rw [Oper.semAt_eq _ _ _ (notDefer_ne hnd)]
  generalize (execOp a.eval o).run P w = r at *
  cases r with
  | ok x w' =>
    cases x <;> simp only [Oper.quietUpon] at h3 <;> simp only [Oper.uponIn]
    case value u => obtain ⟨e1, e2⟩ := h3; rw [e1, e2]; exact h _ _ hw h2
    case skip => obtain ⟨e1, e2⟩ := h3; rw [e1, ← e2]; exact h _ _ hw h2
    case enter f args =>
      obtain ⟨e1, hc⟩ := h3
      rw [e1]
      exact ⟨fun hd => (by rw [hO.depth] at hd; cases hd), (hO.calls hc).mono fun e w'' ⟨he, hw''⟩ => by subst he; exact h _ _ hw'' h2⟩
  | halt x w' => simp only [Oper.quietUpon] at h3

theorem op_of_quiet (hO : Open F) (hnd : ops.all notDefer = true) {i : Nat} {a : Act} {K : Act → Prop} {K' : Act → World → Prop} {Q' : Exit → Act → World → Prop} {w : World} (hC : C w) (h : ∀ a w', C w' → K a → K' a w')
    (hh : qOp P ops C i K a) : wpOpIn F n P ops Q' i K' a w := by
  unfold qOp at hh
  unfold wpOpIn
  cases ho : ops[i]? with
  | none => simp only [ho] at hh; exact h _ _ hC hh
  | some o =>
    simp only [ho] at hh
    have hno : notDefer o = true := Array.all_eq_true_iff_forall_mem.1 hnd o (Array.mem_of_getElem? ho)
    by_cases hw : Region.wanted o (yielded ops a.tmps) = true
    · simp only [hw, if_true] at hh ⊢; exact oper_of_quiet hO hno hC h hh
    · simp only [hw] at hh ⊢; exact ⟨fun f _ => hO.fn f, h _ _ hC hh⟩

theorem any_of_quiet (hO : Open F) (hnd : ops.all notDefer = true) {Q : Act → Prop} {Q' : Exit → Act → World → Prop} (hQ : ∀ a w, C w → Q a → Q' .normal a w) : ∀ (fuel : Nat) (listed : Array Bool) (a : Act) (w : World), C w →
    wpAnyQ P md ops C Q fuel listed a → wpAnyIn F n P md ops Q' fuel listed a w
  | 0, _, _, _, hw, h => ⟨h.1, hQ _ _ hw h.2⟩
  | fuel + 1, _, _, _, hw, h => ⟨fun h0 => hQ _ _ hw (h.1 h0), fun i hi => op_of_quiet hO hnd hw (fun a' w' hw' => any_of_quiet hO hnd hQ fuel _ a' w' hw') (h.2 i hi)⟩

/-- one walk of the text's order serves every order, also within a round -/
theorem region_quiet {id : Nat} {Q : Exit → Act → World → Prop} {a : Act} {w : World} {l : List Oper} (hO : Open F) (hm : P.follows .mixedOrders = true) (hB : Region.lexB .any l.toArray = true) (hnd : l.toArray.all notDefer = true)
    (h : wpQuiet P l.toArray (fun w' => ∃ n, w' = w.drewN n) (fun a' => ∀ w', (∃ n, w' = w.drewN n) → Q .normal a' w') l a) : (Code.region id l.toArray true).wpIn F n P Q a w := by
  simp only [Region.lexB, Bool.and_eq_true] at hB
  refine wpIn_region_any hm (any_of_quiet (C := fun w' => ∃ n, w' = w.drewN n) hO hnd (Q := fun a' => ∀ w', (∃ n, w' = w.drewN n) → Q .normal a' w') (fun _ w' hw' h => h w' hw') _ _ _ _ ⟨1, rfl⟩ ?_)
  have := wpAnyQ_lex (P := P) (C := fun w' => ∃ n, w' = w.drewN n) (md := .any) (ops := l.toArray) hB.1 l 0 (Array.replicate l.toArray.size false) a (by simp) (by simpa using hB.2) h
  simpa using this
end Qr
end Go.Proofs.Ytaohipgfnnclhaa

/-
  A region that draws its order, within a round of a range over a function, walked as a plain one.
-/
namespace Go.Proofs.Ytaohipgfnnclhaa
namespace Qr
variable {n : Nat} {P : Program} {ops : Array Oper} {md : Region.Mode}

theorem rows_of_plain {row : String} {args : Array Value} {w : World} {R : Value → World → Prop} (lr : Nat) (h : Rows P row args w R) : RowsIn (Fence.wide.inRound lr) n P row args w R :=
  fun c cs _ => let ⟨v, w', r, s⟩ := h c cs; ⟨v, w', r, stepsIn_wide.2 s⟩

theorem oper_of_plain (lr : Nat) {o : Oper} {a : Act} {K : Act → World → Prop} {Q : Exit → Act → World → Prop} {w : World} (hnd : notDefer o = true) (h : o.wp P a w K Q) : o.wpIn (Fence.wide.inRound lr) n P a w K Q := by
  unfold Oper.wp at h
  unfold Oper.wpIn
  refine ⟨fun f _ => trivial, ?_⟩
  rw [Oper.semAt_eq _ _ _ (notDefer_ne hnd)]
  generalize (execOp a.eval o).run P w = r at *
  cases r with
  | ok x w' =>
    cases x <;> simp only [Oper.upon] at h <;> simp only [Oper.uponIn]
    case value u => exact h
    case skip => exact h
    case defer d => exact h
    case enter f args => exact ⟨fun hd => (by cases hd), CallsIn.inRound lr (callsIn_wide.2 h)⟩
    case row row args => exact ⟨fun hd => (by cases hd), rows_of_plain lr h⟩
  | halt x w' =>
    cases x <;> simp only [Oper.upon] at h <;> simp only [Oper.uponIn]
    exact h

theorem op_of_plain (lr : Nat) (hnd : ops.all notDefer = true) {i : Nat} {a : Act} {K K' : Act → World → Prop} {Q : Exit → Act → World → Prop} {w : World} (hl : ¬ LetsOut Q) (hK : ∀ a w, K a w → K' a w)
    (h : wpOp P ops Q i K a w) : wpOpIn (Fence.wide.inRound lr) n P ops Q i K' a w := by
  unfold wpOp at h
  unfold wpOpIn
  cases ho : ops[i]? with
  | none => simp only [ho] at h; exact hK _ _ h
  | some o =>
    simp only [ho] at h
    have hno : notDefer o = true := Array.all_eq_true_iff_forall_mem.1 hnd o (Array.mem_of_getElem? ho)
    by_cases hw : Region.wanted o (yielded ops a.tmps) = true
    · simp only [hw, if_true] at h ⊢
      rcases h with h | h
      · exact Oper.wpIn_mono hK (oper_of_plain lr hno h)
      · exact absurd h.2 hl
    · simp only [hw] at h ⊢; exact ⟨fun f _ => trivial, hK _ _ h⟩

theorem any_of_plain (lr : Nat) (hnd : ops.all notDefer = true) {Q : Exit → Act → World → Prop} (hl : ¬ LetsOut Q) : ∀ (fuel : Nat) (listed : Array Bool) (a : Act) (w : World),
    wpAny P md ops Q fuel listed a w → wpAnyIn (Fence.wide.inRound lr) n P md ops Q fuel listed a w
  | 0, _, _, _, h => h
  | fuel + 1, _, _, _, h => ⟨h.1, fun i hi => op_of_plain lr hnd hl (fun a' w' => any_of_plain lr hnd hl fuel _ a' w') (h.2 i hi)⟩

/-- the region in a round, from its plain walk -/
theorem region_plain (lr : Nat) {id : Nat} {Q : Exit → Act → World → Prop} {a : Act} {w : World} (hm : P.follows .mixedOrders = true) (hnd : ops.all notDefer = true) (hl : ¬ LetsOut Q)
    (h : wpAny P .any ops Q ops.size (Array.replicate ops.size false) a w.drew) : (Code.region id ops true).wpIn (Fence.wide.inRound lr) n P Q a w :=
  wpIn_region_any hm (any_of_plain lr hnd hl _ _ _ _ h)
end Qr
end Go.Proofs.Ytaohipgfnnclhaa
