import Derived.Lib.AppendStr
import Derived.Deep.AppendLies
import Derived.Below
import Derived.Deep.RegionLaw
import Derived.Deep.RegionHeld3
import Derived.LoopTactic
import Derived.BigQuiet
import Derived.Deep.QuietTactic
import Derived.StillTailTactics
import Derived.Shelf.Strings.Builder1
import Derived.Shelf.Small.Strs
import Derived.Shelf.Strings.BuilderF
import Derived.Shelf.Strings.BuilderK
import Derived.Shelf.Strings.Search1
import Derived.Shelf.Slices.CompactS
import Derived.Test.YtiijkneomecmiaaProg
import Derived.Test.YtiijkneomecmiaaPart3
/-
  append of a string's bytes onto bytes that the call owns: where the new slice lies; as one step of a region that draws its order.
-/
namespace Go.Proofs.Ytiijkneomecmiaa
open Go.RowKit Go.Lib
set_option linter.unusedVariables false
namespace As
section
variable {P : Program} (w : World)
theorem run_lies (t u ty : TypeId) (base : Nat) (e : TypeId) (i : TypeInfo) (ht : P.underlying t = some (.slice e)) (hu : P.underlying u = some .string) (hi : P.info? e = some i) (hz : i.zero = some (.int .u8 0))
    (hsize : i.size = 1) (hby : i.bytes = 1) (v : Value) (n : Nat) (xs : List Value) (hown : w.ownsRow base e 1 v n xs) (s : ByteArray)
    (h63 : n + s.size ≤ maxLen) (hbytes : n + s.size ≤ 140737488355328) (hbase : base ≤ w.heap.size) (k : Nat) (hk : n + s.size = k) :
    ∃ ao cap w', (Builtin.append_ #[t, u] ty #[v, .string s]).run P w = .ok (.slice ao k cap) w' ∧ w'.ownsRow base e 1 (.slice ao k cap) k (xs ++ strCells s) ∧ w.grownBy w' v.ownBlock ∧
      (∀ g, (Value.slice ao k cap).ownBlock = some g → v.ownBlock = some g ∨ g = w.heap.size) := by
  obtain ⟨v', w', hr, h2, h3, h4⟩ := run_append_own_string (P := P) w base t u ty e i ht hu hi hz hsize hby v n xs hown s h63 hbytes hbase
  have hb : ∀ g, v'.ownBlock = some g → v.ownBlock = some g ∨ g = w.heap.size := by
    rcases hown.2 with ⟨hv, hn⟩ | ⟨g, cap, cur, hv, hbg, hg, hnc, hcm, hcs, htake⟩
    · subst hv; subst hn
      by_cases hm : s.size = 0
      · have := h4.2 ⟨rfl, hm⟩
        subst this
        intro g hg; simp [Value.ownBlock] at hg
      · have hr2 := run_append_nil_string (P := P) w t u ty e i (.int .u8 0) ht hu hi hz s (by omega) (by simp only [maxLen] at h63; omega) (by rw [hby]; omega)
        rw [hr2] at hr
        injection hr with e1 e2
        subst e1
        intro g hg; simp [Value.ownBlock] at hg; exact .inr hg.symm
    · subst hv
      by_cases hroom : n + s.size ≤ cap
      · have hcs' : cur.size = cap := by simpa using hcs
        have hr2 := run_append_room_string (P := P) w t u ty e i ht hu hi hsize g n cap cur hg s hroom (by omega)
        rw [hr2] at hr
        injection hr with e1 e2
        subst e1
        intro g' hg'; simp [Value.ownBlock] at hg'; subst hg'; exact .inl rfl
      · have hxl : xs.length = n := by simpa using hown.1
        have hr2 := run_append_grow_string (P := P) w t u ty e i (.int .u8 0) ht hu hi hz ⟨g, 0, none⟩ n cap xs (by rw [hsize]; simpa using hxl) (hown.cells (g := g) rfl) s (by omega) (by simp only [maxLen] at h63; omega) (by rw [hby]; exact growslice_fits (by omega) (by omega))
        rw [hr2] at hr
        injection hr with e1 e2
        subst e1
        intro g' hg'; simp [Value.ownBlock] at hg'; exact .inr hg'.symm
  have hf : ∃ ao cap, v' = .slice ao k cap := by
    rcases h2.2 with ⟨hv, h0⟩ | ⟨g, cap, cur, hv, _⟩
    · exact ⟨none, 0, by rw [hv, ← hk, h0]⟩
    · exact ⟨_, cap, by rw [hv, hk]⟩
  obtain ⟨ao, cap, rfl⟩ := hf
  rw [hk] at h2
  exact ⟨ao, cap, w', hr, h2, h3, hb⟩

/-- at a step of a region that draws its order -/
theorem step {ops : Array Oper} {o : Oper} {a : Act} {K : Act → World → Prop} {Q : Exit → Act → World → Prop} {E : Prop} (hgd : o.guard = none) (sl x : Operand) (t u : TypeId)
    (ho : o.op = .call { callee := .builtin .append, args := #[sl, x], argTypes := #[t, u] })
    (base : Nat) (e : TypeId) (i : TypeInfo) (ht : P.underlying t = some (.slice e)) (hu : P.underlying u = some .string) (hi : P.info? e = some i) (hz : i.zero = some (.int .u8 0))
    (hsize : i.size = 1) (hby : i.bytes = 1)
    (v : Value) (n : Nat) (xs : List Value) (hs : a.eval sl = v) (hown : w.ownsRow base e 1 v n xs) (s : ByteArray) (hx : a.eval x = .string s)
    (h63 : n + s.size ≤ maxLen) (hbytes : n + s.size ≤ 140737488355328) (hbase : base ≤ w.heap.size) (k : Nat) (hk : n + s.size = k)
    (h : ∀ ao cap w', w'.ownsRow base e 1 (.slice ao k cap) k (xs ++ strCells s) → w.grownBy w' v.ownBlock → (∀ g, (Value.slice ao k cap).ownBlock = some g → v.ownBlock = some g ∨ g = w.heap.size) → K (a.put o.dst (.slice ao k cap)) w') :
    if Region.wanted o (yielded ops a.tmps) = true then Oper.wp P o a w K Q else E := by
  have hw : Region.wanted o (yielded ops a.tmps) = true := by simp [Region.wanted, hgd]
  rw [if_pos hw]
  obtain ⟨ao, cap, w', hr, h2, h3, h4⟩ := run_lies (P := P) w t u o.type base e i ht hu hi hz hsize hby v n xs hown s h63 hbytes hbase k hk
  unfold Oper.wp execOp
  simp only [ho, resolve, invoke, builtin, Sem.run_bind, Sem.run_pure, Result.andThen_ok, List.map_toArray, List.map_cons, List.map_nil, hs, hx, hr]
  exact h ao cap w' h2 h3 h4

theorem wpList {ops : Array Oper} {rest : List Oper} {o : Oper} {a : Act} {Q : Exit → Act → World → Prop} (hgd : o.guard = none) (sl x : Operand) (t u : TypeId)
    (ho : o.op = .call { callee := .builtin .append, args := #[sl, x], argTypes := #[t, u] })
    (base : Nat) (e : TypeId) (i : TypeInfo) (ht : P.underlying t = some (.slice e)) (hu : P.underlying u = some .string) (hi : P.info? e = some i) (hz : i.zero = some (.int .u8 0))
    (hsize : i.size = 1) (hby : i.bytes = 1)
    (v : Value) (n : Nat) (xs : List Value) (hs : a.eval sl = v) (hown : w.ownsRow base e 1 v n xs) (s : ByteArray) (hx : a.eval x = .string s)
    (h63 : n + s.size ≤ maxLen) (hbytes : n + s.size ≤ 140737488355328) (hbase : base ≤ w.heap.size) (k : Nat) (hk : n + s.size = k)
    (h : ∀ ao cap w', w'.ownsRow base e 1 (.slice ao k cap) k (xs ++ strCells s) → w.grownBy w' v.ownBlock → (∀ g, (Value.slice ao k cap).ownBlock = some g → v.ownBlock = some g ∨ g = w.heap.size) → Go.wpList P ops Q rest (a.put o.dst (.slice ao k cap)) w') : Go.wpList P ops Q (o :: rest) a w := by
  refine wpList_plain hgd fun K hK => ?_
  obtain ⟨ao, cap, w', hr, h2, h3, h4⟩ := run_lies (P := P) w t u o.type base e i ht hu hi hz hsize hby v n xs hown s h63 hbytes hbase k hk
  unfold Oper.wp execOp
  simp only [ho, resolve, invoke, builtin, Sem.run_bind, Sem.run_pure, Result.andThen_ok, List.map_toArray, List.map_cons, List.map_nil, hs, hx, hr]
  exact hK _ _ (h ao cap w' h2 h3 h4)
end
end As
end Go.Proofs.Ytiijkneomecmiaa

/-
  The program's writer of a block's bytes (table.writer): what lies where, and what add does.
-/
namespace Go.Proofs.Ytiijkneomecmiaa
open Go.RowKit
set_option linter.unusedSimpArgs false
set_option linter.unusedVariables false

theorem info_u8w : (Try.prog.info? 5).map (fun i => (i.zero, i.size, i.bytes)) = some (some (.int .u8 0), 1, 1) := by kernel_rfl
namespace Tb
open Mt (Ver mayB lessB placeB VerIn verV)
open Vs (Vers At)

theorem common_comm : ∀ (a b : List UInt8), Cd.common a b = Cd.common b a
  | [], [] => rfl
  | [], _ :: _ => rfl
  | _ :: _, [] => rfl
  | x :: a, y :: b => by
    by_cases h : x.toNat = y.toNat
    · rw [Cd.common_eq h, Cd.common_eq h.symm, common_comm a b]
    · rw [Cd.common_ne h, Cd.common_ne (fun e => h e.symm)]
theorem ent_at (x : Ver) (many : Nat) (ahead : List UInt8) : ent x (if many % 16 = 0 then [] else ahead) =
    Cd.putU (if many % 16 = 0 then 0 else Cd.common (encKey x) ahead) ++ Cd.putT ((encKey x).drop (if many % 16 = 0 then 0 else Cd.common (encKey x) ahead)) ++ (if x.del = true then [] else Cd.putT x.val) := by
  unfold ent
  split
  · have : Cd.common [] (encKey x) = 0 := by unfold Cd.common; rfl
    rw [this]
  · rw [common_comm]

/-- a writer: its own blocks are of R -/
structure Wr (R : Sq.Blocks) (W : World) (b : Nat) (ao : Option Addr) (cap : Nat) (l : List UInt8) (many : Nat) (ahead : List UInt8) : Prop where
  obj : Ob.Obj W b 50 [.slice ao l.length cap, .int .i64 (many : Int), .string (Cd.bs ahead)]
  row : W.ownsRow 0 5 1 (.slice ao l.length cap) l.length (Cd.cs l)
  inb : R b
  own : ∀ g, (Value.slice ao l.length cap).ownBlock = some g → R g
  lo : ∀ k, R k → k < W.heap.size
variable {R : Sq.Blocks} {W : World} {b : Nat} {ao : Option Addr} {cap : Nat} {l : List UInt8} {many : Nat} {ahead : List UInt8}
theorem Wr.kept {T : Sq.Blocks} {W' : World} (h : Wr R W b ao cap l many ahead) (hk : Sq.Kept T W W') (hT : ∀ k, R k → T k) : Wr R W' b ao cap l many ahead :=
  ⟨h.obj.kept hk (hT b h.inb), Sq.row_kept h.row hk (fun g hg => hT g (h.own g hg)), h.inb, h.own, fun k hk' => Nat.lt_of_lt_of_le (h.lo k hk') hk.size⟩
theorem Wr.below {W' : World} (h : Wr R W b ao cap l many ahead) (hb : Below W.heap.size W W') : Wr R W' b ao cap l many ahead := h.kept (T := fun _ => True) (Sq.Kept.of_below hb) (fun _ _ => trivial)
theorem Wr.lt (h : Wr R W b ao cap l many ahead) : b < W.heap.size := h.obj.lt
theorem strCells_cs (s : List UInt8) : Lib.strCells (Cd.bs s) = Cd.cs s := by simp [Lib.strCells, Cd.cs, Lib.byteCells]
theorem Wr.not_row (h : Wr R W b ao cap l many ahead) : (Value.slice ao l.length cap).ownBlock ≠ some b := h.obj.not_row (by decide) h.row
/-- bytes behind the others -/
theorem Wr.put (h : Wr R W b ao cap l many ahead) {s l2 : List UInt8} (hl : l2 = l ++ s) {ao2 : Option Addr} {cap2 : Nat} {w2 : World}
    (hown : w2.ownsRow 0 5 1 (.slice ao2 l2.length cap2) l2.length (Cd.cs l ++ Lib.strCells (Cd.bs s))) (hg : W.grownBy w2 (Value.slice ao l.length cap).ownBlock)
    (hat : ∀ g, (Value.slice ao2 l2.length cap2).ownBlock = some g → (Value.slice ao l.length cap).ownBlock = some g ∨ g = W.heap.size) :
    ∃ R', Wr R' (w2.setCell ⟨b, 0, none⟩ (.slice ao2 l2.length cap2)) b ao2 cap2 l2 many ahead ∧ Sq.Step R R' W (w2.setCell ⟨b, 0, none⟩ (.slice ao2 l2.length cap2)) := by
  have hob := h.obj.grown hg h.not_row
  rw [strCells_cs, show Cd.cs l ++ Cd.cs s = Cd.cs l2 by rw [hl]; simp [Cd.cs, Lib.byteCells]] at hown
  have hnr := hob.not_row (by decide) hown
  refine ⟨fun k => R k ∨ (Value.slice ao2 l2.length cap2).ownBlock = some k, ⟨?_, Ob.row_other hown hnr _, .inl h.inb, fun g hg => .inr hg, fun k hk => ?_⟩, ⟨?_, fun k hk => .inl hk, fun k hk => ?_⟩⟩
  · have := hob.set 0 (.slice ao2 l2.length cap2)
    simpa using this
  · show k < (w2.setCell _ _).heap.size
    simp only [World.setCell, Array.size_modify]
    rcases hk with hk | hk
    · exact Nat.lt_of_lt_of_le (h.lo k hk) hg.size
    · exact (Ob.row_lt hown hk).2
  · exact (Sq.Kept.grown hg (fun r hr hn => hn (h.own r hr))).trans (Sq.Kept.setCell _ _ (fun hn => hn h.inb))
  · rcases hk with hk | hk
    · exact .inl hk
    · rcases hat k hk with e | e
      · exact .inl (h.own k e)
      · exact .inr (by omega)
/-- the number of versions, and the place of the last -/
theorem Wr.next (h : Wr R W b ao cap l many ahead) (m : Nat) (place : List UInt8) (M : Int) (hM : M = m) :
    Wr R ((W.setCell ⟨b, 1, none⟩ (.int .i64 M)).setCell ⟨b, 2, none⟩ (.string (Cd.bs place))) b ao cap l m place ∧ Sq.Step R R W ((W.setCell ⟨b, 1, none⟩ (.int .i64 M)).setCell ⟨b, 2, none⟩ (.string (Cd.bs place))) := by
  subst hM
  have ho := (h.obj.set 1 (.int .i64 (m : Int))).set 2 (.string (Cd.bs place))
  simp only [List.set_cons_succ, List.set_cons_zero] at ho
  exact ⟨⟨ho, Ob.row_other (Ob.row_other h.row h.not_row _) h.not_row _, h.inb, h.own, fun k hk => by have := h.lo k hk; simpa [World.setCell] using this⟩, (Sq.Step.setCell _ _ h.inb).trans (Sq.Step.setCell _ _ h.inb)⟩

/-- a writer behind some steps of its own -/
def Mid (R : Sq.Blocks) (W0 : World) (b : Nat) (l : List UInt8) (many : Nat) (ahead : List UInt8) (W : World) : Prop := ∃ R' ao cap, Wr R' W b ao cap l many ahead ∧ Sq.Step R R' W0 W
theorem cells3 (h : Wr R W b ao cap l many ahead) : W.cell? ⟨b, 0, none⟩ = some (.slice ao l.length cap) ∧ W.cell? ⟨b, 1, none⟩ = some (.int .i64 (many : Int)) ∧ W.cell? ⟨b, 2, none⟩ = some (.string (Cd.bs ahead)) ∧ W.frozen? ⟨b, 0, none⟩ = false ∧ W.frozen? ⟨b, 1, none⟩ = false ∧ W.frozen? ⟨b, 2, none⟩ = false :=
  ⟨h.obj.cell 0, h.obj.cell 1, h.obj.cell 2, h.obj.frozen 0, h.obj.frozen 1, h.obj.frozen 2⟩

theorem putTc_at (k : List UInt8) (w : World) (h : k.length ≤ 1048576) :
    Calls Try.prog 48 #[.string (Cd.bs k)] w fun e w' => e = .returned (.string (Cd.bs (Cd.putT k))) ∧ Below w.heap.size w w' :=
  putTc_any (Cd.bs k) w h

set_option maxRecDepth 100000 in
set_option maxHeartbeats 8000000 in
theorem add_any (h : Wr R W b ao cap l many ahead) (x : Ver) (hx : mayB x = true) (hl : l.length ≤ 17592186044416) (hm : many ≤ 1048576) (ha : ahead.length ≤ 202) (lo : List UInt8) (hlo : lo = l ++ ent x (if many % 16 = 0 then [] else ahead)) (mo : Nat) (hmo : mo = many + 1) :
    Calls Try.prog 27 #[.pointer (some ⟨b, 0, none⟩), verV x] W fun e w' => e = .returned (.tuple #[]) ∧ Mid R W b lo mo (encKey x) w' := by
  obtain ⟨m1, m2, m3, m4, m5, m6⟩ := may_seq hx
  have hin : VerIn x := ⟨by omega, by omega, by omega, by omega⟩
  have HE := Lib.hid (fun W => encKeyOk x W hin)
  have hel := enc_len x
  rw [ent_at] at hlo
  have HMO := Lib.hid hmo
  clear hmo
  have hcl := common_le (encKey x) ahead
  have HS := Lib.hid (fun W => shared_any (many : Int) many rfl hm (encKey x) ahead W (by omega) (by omega))
  generalize encKey x = key at *
  obtain ⟨n, hn⟩ : ∃ n, n = if many % 16 = 0 then 0 else Cd.common key ahead := ⟨_, rfl⟩
  have hnl : n ≤ key.length := by rw [hn]; split <;> omega
  rw [← hn] at HS hlo
  clear hn hcl
  have HP := Lib.hid (fun W => putUc_at (n : Int) n W rfl (by omega))
  have HX : (Cd.bs key).extract n key.length = Cd.bs (key.drop n) := drop_str key n
  have HT := Lib.hid (fun W => putTc_at (key.drop n) W (by simp; omega))
  have l1 := Cd.putU_len10 n (by omega)
  have l2 : (Cd.putT (key.drop n)).length ≤ 300 := by have := Cd.putU_len10 (key.drop n).length (by simp; omega); unfold Cd.putT; rw [List.length_append]; simp at this ⊢; omega
  have HV := Lib.hid (fun W => putTc_at x.val W (by omega))
  have l3 : (Cd.putT x.val).length ≤ 1048600 := by have := Cd.putU_len10 x.val.length (by omega); unfold Cd.putT; rw [List.length_append]; omega
  rw [← HX] at HT
  generalize Cd.putT (key.drop n) = tk at *
  generalize Cd.putU n = un at *
  generalize Cd.putT x.val = tv at *
  obtain ⟨k, sq, d, val⟩ := x
  unfold verV at *
  simp only at *
  have hwn : IntKind.u64.wrap (n : Int) = (n : Int) := Cd.wrapU_nat (by omega)
  have hsz : (Cd.bs key).size = key.length := rfl
  have hn1 : (0 : Int) ≤ (n : Int) ∧ (n : Int) ≤ (key.length : Int) := by omega
  obtain ⟨L1, hL1⟩ : ∃ L1, L1 = l ++ un := ⟨_, rfl⟩
  obtain ⟨L2, hL2⟩ : ∃ L2, L2 = L1 ++ tk := ⟨_, rfl⟩
  have hl1 : l.length + (Cd.bs un).size = L1.length := by rw [hL1, List.length_append]; rfl
  have hl2 : L1.length + (Cd.bs tk).size = L2.length := by rw [hL2, List.length_append]; rfl
  have hs1 : (Cd.bs un).size = un.length := rfl
  have hs2 : (Cd.bs tk).size = tk.length := rfl
  have HL1 := Lib.hid hL1
  have HL2 := Lib.hid hL2
  have HK1 := Lib.hid (show l.length + (Cd.bs un).size = L1.length ∧ l.length + (Cd.bs un).size ≤ 140737488355328 by omega)
  have HK2 := Lib.hid (show L1.length + (Cd.bs tk).size = L2.length ∧ L1.length + (Cd.bs tk).size ≤ 140737488355328 by omega)
  have hlb : L2.length ≤ 17592186045416 := by omega
  have HLB := Lib.hid hlb
  obtain ⟨i0, hi, hz0, hz1, hz2⟩ := info_parts info_u8w
  have oA := Ob.Obj.new W 24 [.string (Cd.bs k), .int .u64 sq, .bool d, .string (Cd.bs val)]
  have hA : Below W.heap.size W (W.alloc (.cells #[.string (Cd.bs k), .int .u64 sq, .bool d, .string (Cd.bs val)] 24)) := (Below.refl _ _).alloc (Nat.le_refl _) _
  have HB0 := Lib.hid hA
  have H0 := Lib.hid (h.below hA)
  have hblt := h.lt
  have h0lt := fun {k} => h.lo k
  have HLO := Lib.hid hlo
  clear hlo hL1 hL2 hl1 hl2 hs1 hs2 hlb HX h m1 m2 m3 m4 m5 m6 hx
  go_enter Try.func27, Try.ntmps27
  go_wp2_with (go_at_call 6; (with_reducible refine (HE.out _).mono ?_); rintro e w1 ⟨rfl, hb1⟩; have HB1 := Lib.hid (hA.trans (hb1.mono hA.size)); have o1 := oA.below hb1; have H1 := Lib.hid (H0.out.below hb1); have hb1lt := H1.out.lt; have c0 := H1.out.obj.cell 0; have c1 := H1.out.obj.cell 1; have c2 := H1.out.obj.cell 2; simp at c0 c1 c2)
  go_cut [5] (fun r wx => r = .int .i64 (n : Int) ∧ Below w1.heap.size w1 wx)
  case first =>
    go_region_with (go_at_call 46; (with_reducible refine (HS.out _).mono ?_); rintro e w2 ⟨rfl, hb2⟩)
    all_goals (try go_wp2_with fail)
    all_goals go_meet
    all_goals exact ⟨rfl, (Below.refl _ _).drew.trans hb2⟩
  case rest =>
    obtain ⟨rfl, hbc⟩ := hcut
    obtain ⟨W0, hW0⟩ : ∃ W0, W0 = W.alloc (.cells #[.string (Cd.bs k), .int .u64 sq, .bool d, .string (Cd.bs val)] 24) := ⟨_, rfl⟩
    rw [← hW0] at hb1 oA
    have HST := Lib.hid ((Sq.Step.below (R := R) hb1).trans (Sq.Step.below hbc))
    have hfin := (Sq.Step.alloc0 R W (.cells #[.string (Cd.bs k), .int .u64 sq, .bool d, .string (Cd.bs val)] 24))
    rw [← hW0] at hfin
    have HFIN := Lib.hid hfin
    have HOA := Lib.hid oA
    have H2 := Lib.hid (H1.out.below hbc)
    have hRbox := Lib.hid (fun hR => Nat.lt_irrefl _ (h0lt (k := W.heap.size) hR))
    have hb2lt := H2.out.lt
    clear hW0 hb1 oA hfin o1 HB1 HB0 hA
    obtain ⟨d0, d1, d2, fd0, fd1, fd2⟩ := cells3 H2.out
    clear c0 c1 c2
    go_wp2_with fail
    go_cut [] (fun wx => Mid R W0 b L1 many ahead wx)
    case first =>
      refine wp_region_noPanic ?_
      go_region_law (first
        | (go_simp; go_at_call 47; (with_reducible refine (HP.out _).mono ?_); rintro e wc ⟨rfl, hbc3⟩; have HBC3 := Lib.hid ((Below.refl _ _).drew.trans hbc3); have HC3 := Lib.hid (H2.out.below HBC3.out); have hblc3 := HC3.out.lt; obtain ⟨e0, e1, e2, fe0, fe1, fe2⟩ := cells3 HC3.out)
        | (refine As.step _ rfl _ _ 48 9 (by rfl) 0 5 i0 Try.underlying48 Try.underlying9 hi hz0 hz1 hz2 (.slice ao l.length cap) l.length (Cd.cs l) (by rfl) HC3.out.row (Cd.bs un) (by rfl) (by have := HK1.out.2; unfold maxLen; omega) HK1.out.2 (Nat.zero_le _) L1.length HK1.out.1 ?_; intro ao3 cap3 w3 hown3 hgrow3 hat3; have HM3 := Lib.hid (HC3.out.put HL1.out hown3 hgrow3 hat3); have hob3 := HC3.out.obj.grown hgrow3 HC3.out.not_row; have hgl3 := hob3.lt; have g0 := hob3.cell 0; have gf0 := hob3.frozen 0; simp at g0; clear hob3 hown3 hgrow3 hat3))
      all_goals (refine NoPanic.normal ?_; go_wp2_with fail)
      all_goals go_meet
      all_goals exact (let ⟨R', h1, h2⟩ := HM3.out; ⟨R', _, _, h1, (HST.out.trans (Sq.Step.below HBC3.out)).trans h2⟩)
    case rest =>
      obtain ⟨R3, ao3, cap3, h3, st3⟩ := hcut
      have H3 := Lib.hid h3
      have ST3 := Lib.hid st3
      have hb3lt := h3.lt
      obtain ⟨k0, k1, k2, fk0, fk1, fk2⟩ := cells3 h3
      clear h3 st3 d0 d1 d2 fd0 fd1 fd2
      go_wp2_with fail
      go_cut [] (fun wx => Mid R W0 b L2 many ahead wx)
      case first =>
        refine wp_region_noPanic ?_
        go_region_law (first
          | (go_simp; go_at_call 48; (with_reducible refine (HT.out _).mono ?_); rintro e wc ⟨rfl, hbc4⟩; have HBC4 := Lib.hid ((Below.refl _ _).drew.trans hbc4); have HC4 := Lib.hid (H3.out.below HBC4.out); have hblc4 := HC4.out.lt; obtain ⟨e0, e1, e2, fe0, fe1, fe2⟩ := cells3 HC4.out)
          | (refine As.step _ rfl _ _ 48 9 (by rfl) 0 5 i0 Try.underlying48 Try.underlying9 hi hz0 hz1 hz2 (.slice ao3 L1.length cap3) L1.length (Cd.cs L1) (by rfl) HC4.out.row (Cd.bs tk) (by rfl) (by have := HK2.out.2; unfold maxLen; omega) HK2.out.2 (Nat.zero_le _) L2.length HK2.out.1 ?_; intro ao4 cap4 w4 hown4 hgrow4 hat4; have HM4 := Lib.hid (HC4.out.put HL2.out hown4 hgrow4 hat4); have hob4 := HC4.out.obj.grown hgrow4 HC4.out.not_row; have hgl4 := hob4.lt; have g0 := hob4.cell 0; have gf0 := hob4.frozen 0; simp at g0; clear hob4 hown4 hgrow4 hat4))
        all_goals (refine NoPanic.normal ?_; go_wp2_with fail)
        all_goals go_meet
        all_goals exact (let ⟨R', h1, h2⟩ := HM4.out; ⟨R', _, _, h1, (ST3.out.trans (Sq.Step.below HBC4.out)).trans h2⟩)
      case rest =>
        obtain ⟨R4, ao4, cap4, h4, st4⟩ := hcut
        have H4 := Lib.hid h4
        have ST4 := Lib.hid st4
        have hb4lt := h4.lt
        obtain ⟨j0, j1, j2, fj0, fj1, fj2⟩ := cells3 h4
        have o4 := HOA.out.kept st4.kept hRbox.out
        have x2 := o4.cell 2
        have x3 := o4.cell 3
        simp at x2 x3
        have hxl := o4.lt
        clear h4 st4 k0 k1 k2 fk0 fk1 fk2 o4
        cases d with
        | true =>
          have HL3 := Lib.hid (show lo = L2 by rw [HLO.out, HL2.out, HL1.out]; simp)
          go_wp2_with fail
          go_end0
          obtain ⟨n1, n2⟩ := H4.out.next mo key ((many : Int) + 1) (by rw [HMO.out]; rfl)
          exact ⟨rfl, R4, ao4, cap4, by rw [HL3.out]; exact n1, (HFIN.out.trans ST4.out).trans n2⟩
        | false =>
          obtain ⟨L3, hL3⟩ : ∃ L3, L3 = L2 ++ tv := ⟨_, rfl⟩
          have hl3 : L2.length + (Cd.bs tv).size = L3.length := by rw [hL3, List.length_append]; rfl
          have hs3 : (Cd.bs tv).size = tv.length := rfl
          have HK3 := Lib.hid (show L2.length + (Cd.bs tv).size = L3.length ∧ L2.length + (Cd.bs tv).size ≤ 140737488355328 by have := HLB.out; omega)
          have HL4 := Lib.hid (show lo = L3 by rw [HLO.out, hL3, HL2.out, HL1.out]; simp)
          have HL3 := Lib.hid hL3
          clear hL3 hl3 hs3
          go_wp2_with fail
          go_cut [] (fun wx => Mid R W0 b L3 many ahead wx)
          case first =>
            refine wp_region_noPanic ?_
            go_region_law (first
              | (go_simp; go_at_call 48; (with_reducible refine (HV.out _).mono ?_); rintro e wc ⟨rfl, hbc5⟩; have HBC5 := Lib.hid ((Below.refl _ _).drew.trans hbc5); have HC5 := Lib.hid (H4.out.below HBC5.out); have hblc5 := HC5.out.lt; obtain ⟨e0, e1, e2, fe0, fe1, fe2⟩ := cells3 HC5.out)
              | (refine As.step _ rfl _ _ 48 9 (by rfl) 0 5 i0 Try.underlying48 Try.underlying9 hi hz0 hz1 hz2 (.slice ao4 L2.length cap4) L2.length (Cd.cs L2) (by rfl) HC5.out.row (Cd.bs tv) (by rfl) (by have := HK3.out.2; unfold maxLen; omega) HK3.out.2 (Nat.zero_le _) L3.length HK3.out.1 ?_; intro ao5 cap5 w5 hown5 hgrow5 hat5; have HM5 := Lib.hid (HC5.out.put HL3.out hown5 hgrow5 hat5); have hob5 := HC5.out.obj.grown hgrow5 HC5.out.not_row; have hgl5 := hob5.lt; have g0 := hob5.cell 0; have gf0 := hob5.frozen 0; simp at g0; clear hob5 hown5 hgrow5 hat5))
            all_goals (refine NoPanic.normal ?_; go_wp2_with fail)
            all_goals go_meet
            all_goals exact (let ⟨R', h1, h2⟩ := HM5.out; ⟨R', _, _, h1, (ST4.out.trans (Sq.Step.below HBC5.out)).trans h2⟩)
          case rest =>
            obtain ⟨R5, ao5, cap5, h5, st5⟩ := hcut
            have H5 := Lib.hid h5
            have ST5 := Lib.hid st5
            have hb5lt := h5.lt
            obtain ⟨i0', i1', i2', fi0, fi1, fi2⟩ := cells3 h5
            clear h5 st5 j0 j1 j2 fj0 fj1 fj2
            go_wp2_with fail
            go_end0
            obtain ⟨n1, n2⟩ := H5.out.next mo key ((many : Int) + 1) (by rw [HMO.out]; rfl)
            exact ⟨rfl, R5, ao5, cap5, by rw [HL4.out]; exact n1, (HFIN.out.trans ST5.out).trans n2⟩
end Tb
end Go.Proofs.Ytiijkneomecmiaa

/-
  Plain mathematics of chapter 7 (bloom): hashes, places, filters; what was built in is never denied.
-/
namespace Go.Proofs.Ytiijkneomecmiaa
open Go.RowKit
namespace Bm
/-- P7.1, as the walk spells it -/
def hashGo : List UInt8 → Int → Int
  | [], h => h
  | c :: r, h => hashGo r (IntKind.u64.wrap (bits BinOp.xor IntKind.u64 h (c.toNat : Int) * 1099511628211))
def hash (l : List UInt8) : Int := mixOf (hashGo l 14695981039346656037)
def dOf (h : Int) : Int := bits BinOp.or IntKind.u64 (IntKind.u64.wrap (h * 2 ^ 31)) (h / 2 ^ 33)
def placesGo : Nat → Int → Int → Int → List Int
  | 0, _, _, _ => []
  | k + 1, h, d, m => (h % m) :: placesGo k (IntKind.u64.wrap (h + d)) d m
/-- P7.3: a key's bits, k of them, in a filter of m bits -/
def places (key : List UInt8) (k : Nat) (m : Int) : List Int := placesGo k (hash key) (dOf (hash key)) m
/-- a byte with one bit more -/
def orB (x : UInt8) (i : Nat) : UInt8 := UInt8.ofNat (x.toNat ||| 2 ^ (i % 8))
def setB (l : List UInt8) (i : Nat) : List UInt8 := l.set (1 + i / 8) (orB (l.getD (1 + i / 8) 0) i)
def setAll (l : List UInt8) (is : List Int) : List UInt8 := is.foldl (fun l i => setB l i.toNat) l
def fill (k : Nat) (m : Int) (l : List UInt8) (keys : List (List UInt8)) : List UInt8 := keys.foldl (fun l key => setAll l (places key k m)) l
def kOf (b : Int) : Nat := (max (min b 20 * 69 / 100) 1).toNat
/-- how many bytes the bits take -/
def bytesOf (b : Int) (n : Nat) : Nat := ((max (min b 20 * (n : Int)) 64).toNat + 7) / 8
/-- P7.4 -/
def build (b : Int) (keys : List (List UInt8)) : List UInt8 :=
  if b < 1 ∨ keys = [] then [] else fill (kOf b) (8 * (bytesOf b keys.length : Nat)) (UInt8.ofNat (kOf b) :: List.replicate (bytesOf b keys.length) 0) keys
/-- P7.2 -/
def valid (s : List UInt8) : Bool := decide (s = []) || (decide (9 ≤ s.length) && decide (1 ≤ (s.getD 0 0).toNat) && decide ((s.getD 0 0).toNat ≤ 30))
def bitB (s : List UInt8) (i : Nat) : Bool := decide ((s.getD (1 + i / 8) 0).toNat / 2 ^ (i % 8) % 2 = 1)
/-- P7.5 -/
def has (s key : List UInt8) : Bool := if valid s = false ∨ s = [] then true else (places key (s.getD 0 0).toNat (8 * ((s.length : Int) - 1))).all fun i => bitB s i.toNat
def load (s : List UInt8) : Nat × Nat := if valid s = false ∨ s = [] then (0, 0) else (((List.range (8 * (s.length - 1))).filter fun i => bitB s i).length, 8 * (s.length - 1))

theorem setB_len (l : List UInt8) (i : Nat) : (setB l i).length = l.length := by simp [setB]
theorem setAll_len (is : List Int) : ∀ l, (setAll l is).length = l.length := by
  induction is with
  | nil => intro l; rfl
  | cons i r ih => intro l; exact (ih _).trans (setB_len _ _)
theorem fill_len (k : Nat) (m : Int) (keys : List (List UInt8)) : ∀ l, (fill k m l keys).length = l.length := by
  induction keys with
  | nil => intro l; rfl
  | cons x r ih => intro l; exact (ih _).trans (setAll_len _ _)
theorem places_in : ∀ (k : Nat) (h d m : Int), 0 < m → ∀ i ∈ placesGo k h d m, 0 ≤ i ∧ i < m
  | 0, _, _, _, _, i, hi => by cases hi
  | k + 1, h, d, m, hm, i, hi => by
    rcases List.mem_cons.1 hi with rfl | hi
    · exact ⟨Int.emod_nonneg _ (by omega), Int.emod_lt_of_pos _ hm⟩
    · exact places_in k _ d m hm i hi
theorem placesGo_len : ∀ (k : Nat) (h d m : Int), (placesGo k h d m).length = k
  | 0, _, _, _ => rfl
  | k + 1, h, d, m => by rw [placesGo, List.length_cons, placesGo_len k]
/-! ### bytes, one within another -/
/-- all bits of x are y's -/
def Sub (x y : UInt8) : Prop := x ||| y = y
theorem Sub.refl (x : UInt8) : Sub x x := by unfold Sub; simp
theorem Sub.trans {x y z : UInt8} (h : Sub x y) (k : Sub y z) : Sub x z := by unfold Sub at *; rw [← k, ← UInt8.or_assoc, h]
theorem orB_eq (x : UInt8) (i : Nat) : orB x i = x ||| UInt8.ofNat (2 ^ (i % 8)) := by
  unfold orB
  apply UInt8.toNat_inj.1
  have h8 : i % 8 < 8 := Nat.mod_lt _ (by omega)
  have hp : 2 ^ (i % 8) < 256 := Nat.lt_of_lt_of_le (Nat.pow_lt_pow_right (by omega) h8) (Nat.le_refl _)
  have hx := x.toNat_lt
  have := Nat.or_lt_two_pow (x := x.toNat) (y := 2 ^ (i % 8)) (n := 8) (by omega) (by omega)
  rw [UInt8.toNat_or, UInt8.toNat_ofNat', UInt8.toNat_ofNat']
  have e1 : (2 ^ (i % 8)) % 2 ^ 8 = 2 ^ (i % 8) := Nat.mod_eq_of_lt (by omega)
  have e2 : (x.toNat ||| 2 ^ (i % 8)) % 2 ^ 8 = (x.toNat ||| 2 ^ (i % 8)) := Nat.mod_eq_of_lt (by omega)
  rw [e1, e2]
theorem sub_or (x : UInt8) (i : Nat) : Sub x (orB x i) := by rw [orB_eq]; unfold Sub; rw [← UInt8.or_assoc]; simp
theorem or_sub {x y : UInt8} (h : Sub x y) (i : Nat) : Sub (orB x i) (orB y i) := by
  rw [orB_eq, orB_eq]; unfold Sub at *
  rw [UInt8.or_assoc, ← UInt8.or_assoc (UInt8.ofNat _) y, UInt8.or_comm (UInt8.ofNat _) y, UInt8.or_assoc y, ← UInt8.or_assoc x, h]; simp
/-- all bits of a are b's, behind the head -/
def SubL (a b : List UInt8) : Prop := a.length = b.length ∧ ∀ j, 1 ≤ j → Sub (a.getD j 0) (b.getD j 0)
theorem SubL.refl (a : List UInt8) : SubL a a := ⟨rfl, fun _ _ => Sub.refl _⟩
theorem SubL.trans {a b c : List UInt8} (h : SubL a b) (k : SubL b c) : SubL a c := ⟨h.1.trans k.1, fun j hj => (h.2 j hj).trans (k.2 j hj)⟩
theorem getD_set (l : List UInt8) (k j : Nat) (x : UInt8) : (l.set k x).getD j 0 = if k = j ∧ j < l.length then x else l.getD j 0 := by
  simp only [List.getD_eq_getElem?_getD, List.getElem?_set]
  by_cases h : k = j
  · subst h
    by_cases h2 : k < l.length
    · simp [h2]
    · simp [h2]
  · simp [h]
theorem subL_set (l : List UInt8) (i : Nat) : SubL l (setB l i) := by
  refine ⟨(setB_len _ _).symm, fun j _ => ?_⟩
  unfold setB
  rw [getD_set]
  split
  · rename_i h; rw [h.1]; exact sub_or _ _
  · exact Sub.refl _
theorem subL_setAll (is : List Int) : ∀ l, SubL l (setAll l is) := by
  induction is with
  | nil => intro l; exact SubL.refl _
  | cons i r ih => intro l; exact (subL_set l i.toNat).trans (ih _)
theorem subL_fill (k : Nat) (m : Int) (keys : List (List UInt8)) : ∀ l, SubL l (fill k m l keys) := by
  induction keys with
  | nil => intro l; exact SubL.refl _
  | cons x r ih => intro l; exact (subL_setAll _ l).trans (ih _)
theorem fill_app (k : Nat) (m : Int) (l : List UInt8) (a b : List (List UInt8)) : fill k m l (a ++ b) = fill k m (fill k m l a) b := by simp [fill]
theorem bit_or (x : UInt8) (i : Nat) : (orB x i).toNat / 2 ^ (i % 8) % 2 = 1 := by
  have h8 : i % 8 < 8 := Nat.mod_lt _ (by omega)
  have hp : 2 ^ (i % 8) < 256 := Nat.lt_of_lt_of_le (Nat.pow_lt_pow_right (by omega) h8) (Nat.le_refl _)
  have hx := x.toNat_lt
  have := Nat.or_lt_two_pow (x := x.toNat) (y := 2 ^ (i % 8)) (n := 8) (by omega) (by omega)
  unfold orB
  have e2 : (x.toNat ||| 2 ^ (i % 8)) % 2 ^ 8 = (x.toNat ||| 2 ^ (i % 8)) := Nat.mod_eq_of_lt (by omega)
  rw [UInt8.toNat_ofNat', e2]
  have ht : (x.toNat ||| 2 ^ (i % 8)).testBit (i % 8) = true := by simp
  rw [Nat.testBit_eq_decide_div_mod_eq] at ht
  simpa using ht
theorem bit_sub {x y : UInt8} (h : Sub x y) (e : Nat) (hb : x.toNat / 2 ^ e % 2 = 1) : y.toNat / 2 ^ e % 2 = 1 := by
  have h1 : (x.toNat ||| y.toNat) = y.toNat := by rw [← UInt8.toNat_or, h]
  have ht : x.toNat.testBit e = true := by rw [Nat.testBit_eq_decide_div_mod_eq]; simpa using hb
  have h2 : y.toNat.testBit e = true := by rw [← h1, Nat.testBit_or, ht]; simp
  rw [Nat.testBit_eq_decide_div_mod_eq] at h2
  simpa using h2
theorem bitB_sub {a b : List UInt8} (h : SubL a b) (i : Nat) (hb : bitB a i = true) : bitB b i = true := by
  unfold bitB at *
  exact decide_eq_true (bit_sub (h.2 (1 + i / 8) (by omega)) _ (of_decide_eq_true hb))
theorem bitB_set (l : List UInt8) (i : Nat) (hi : 1 + i / 8 < l.length) : bitB (setB l i) i = true := by
  unfold bitB setB
  rw [getD_set, if_pos ⟨rfl, hi⟩]
  exact decide_eq_true (bit_or _ _)
theorem bits_setAll : ∀ (is : List Int) (l : List UInt8), (∀ i ∈ is, 1 + i.toNat / 8 < l.length) → ∀ i ∈ is, bitB (setAll l is) i.toNat = true
  | [], _, _, i, hi => by cases hi
  | x :: r, l, h, i, hi => by
    rcases List.mem_cons.1 hi with rfl | hi
    · exact bitB_sub (subL_setAll r _) _ (bitB_set l _ (h i (List.mem_cons_self ..)))
    · exact bits_setAll r (setB l x.toNat) (fun j hj => by rw [setB_len]; exact h j (List.mem_cons_of_mem _ hj)) i hi
theorem bits_fill (k : Nat) (m : Int) (hm : 0 < m) : ∀ (keys : List (List UInt8)) (l : List UInt8), m ≤ 8 * ((l.length : Int) - 1) → ∀ key ∈ keys, ∀ i ∈ places key k m, bitB (fill k m l keys) i.toNat = true
  | [], _, _, key, hk => by cases hk
  | x :: r, l, hl, key, hk => by
    intro i hi
    rcases List.mem_cons.1 hk with rfl | hk
    · refine bitB_sub (subL_fill k m r _) _ (bits_setAll (places key k m) l (fun j hj => ?_) i hi)
      have := places_in k _ _ m hm j hj
      omega
    · exact bits_fill k m hm r (setAll l (places x k m)) (by rw [setAll_len]; exact hl) key hk i hi
theorem head_set (l : List UInt8) (i : Nat) : (setB l i).getD 0 0 = l.getD 0 0 := by
  unfold setB; rw [getD_set, if_neg (by omega)]
theorem head_setAll (is : List Int) : ∀ l, (setAll l is).getD 0 0 = l.getD 0 0 := by
  induction is with
  | nil => intro l; rfl
  | cons i r ih => intro l; exact (ih _).trans (head_set _ _)
theorem head_fill (k : Nat) (m : Int) (keys : List (List UInt8)) : ∀ l, (fill k m l keys).getD 0 0 = l.getD 0 0 := by
  induction keys with
  | nil => intro l; rfl
  | cons x r ih => intro l; exact (ih _).trans (head_setAll _ _)
theorem kOf_in (b : Int) : 1 ≤ kOf b ∧ kOf b ≤ 13 := by unfold kOf; omega
theorem bytesOf_in (b : Int) (n : Nat) : 8 ≤ bytesOf b n := by unfold bytesOf; omega
theorem build_len {b : Int} {keys : List (List UInt8)} (h : ¬ (b < 1 ∨ keys = [])) : (build b keys).length = 1 + bytesOf b keys.length := by
  unfold build; rw [if_neg h, fill_len]; simp; omega
theorem build_head {b : Int} {keys : List (List UInt8)} (h : ¬ (b < 1 ∨ keys = [])) : ((build b keys).getD 0 0).toNat = kOf b := by
  unfold build; rw [if_neg h, head_fill]
  have := kOf_in b
  simp only [List.getD_cons_zero, UInt8.toNat_ofNat']
  omega
theorem build_valid (b : Int) (keys : List (List UInt8)) : valid (build b keys) = true := by
  by_cases h : b < 1 ∨ keys = []
  · unfold build; rw [if_pos h]; rfl
  · have h1 := build_len h
    have h2 := build_head h
    have h3 := kOf_in b
    have h4 := bytesOf_in b keys.length
    unfold valid
    rw [h2]
    simp only [Bool.or_eq_true, Bool.and_eq_true, decide_eq_true_eq]
    exact .inr ⟨⟨by omega, by omega⟩, by omega⟩
/-- P7.6 -/
theorem has_build (b : Int) (keys : List (List UInt8)) (key : List UInt8) (hk : key ∈ keys) : has (build b keys) key = true := by
  unfold has
  split
  · rfl
  · rename_i hx
    by_cases h : b < 1 ∨ keys = []
    · exact absurd (.inr (by unfold build; rw [if_pos h])) hx
    · have h1 := build_len h
      have h4 := bytesOf_in b keys.length
      rw [build_head h, List.all_eq_true]
      have hm : (8 * (((build b keys).length : Int) - 1)) = 8 * (bytesOf b keys.length : Nat) := by omega
      rw [hm]
      intro i hi
      unfold build
      rw [if_neg h]
      exact bits_fill (kOf b) _ (by omega) keys _ (by simp) key hk i hi
theorem build_nil {b : Int} {keys : List (List UInt8)} (hk : keys ≠ []) : (build b keys = []) ↔ b < 1 := by
  constructor
  · intro h
    by_cases hb : b < 1
    · exact hb
    · have h1 := build_len (b := b) (keys := keys) (fun h => h.elim hb hk)
      rw [h] at h1; simp at h1; omega
  · intro h; unfold build; rw [if_pos (.inl h)]
theorem load_le (s : List UInt8) : (load s).1 ≤ (load s).2 := by
  unfold load
  split
  · exact Nat.le_refl _
  · have := List.length_filter_le (fun i => bitB s i) (List.range (8 * (s.length - 1)))
    simpa using this
theorem load_build {b : Int} {keys : List (List UInt8)} (h : ¬ (b < 1 ∨ keys = [])) : 1 ≤ (load (build b keys)).1 := by
  have hne : ¬ (valid (build b keys) = false ∨ build b keys = []) := by
    rw [build_valid]
    have := build_len h
    intro hx
    rcases hx with hx | hx
    · cases hx
    · rw [hx] at this; simp at this; omega
  obtain ⟨x, hx⟩ := List.exists_mem_of_ne_nil keys (fun e => h (.inr e))
  have hk := kOf_in b
  have hl := build_len h
  have hb8 := bytesOf_in b keys.length
  have hbits := bits_fill (kOf b) (8 * (bytesOf b keys.length : Nat)) (by omega) keys (UInt8.ofNat (kOf b) :: List.replicate (bytesOf b keys.length) 0) (by simp) x hx
  have hp : 0 < (places x (kOf b) (8 * (bytesOf b keys.length : Nat))).length := by unfold places; rw [placesGo_len]; omega
  have hmem := List.getElem_mem hp
  have hin := places_in _ _ _ (8 * ((bytesOf b keys.length : Nat) : Int)) (by omega) _ hmem
  have hb := hbits _ hmem
  generalize (places x (kOf b) (8 * (bytesOf b keys.length : Nat)))[0] = i at *
  unfold load
  rw [if_neg hne]
  refine List.length_pos_iff.2 (fun e => ?_)
  have : i.toNat ∈ (List.range (8 * ((build b keys).length - 1))).filter fun i => bitB (build b keys) i := by
    rw [List.mem_filter, List.mem_range]
    refine ⟨by omega, ?_⟩
    unfold build
    rw [if_neg h]
    exact hb
  rw [e] at this
  cases this
/-- P7.4: of as many bytes, a filter of more keys has all bits of the one of fewer -/
theorem build_union {b : Int} {keys : List (List UInt8)} (n : Nat) (hlen : (build b (keys.take n)).length = (build b keys).length) (hne : build b (keys.take n) ≠ []) : SubL (build b (keys.take n)) (build b keys) ∧ (build b (keys.take n)).getD 0 0 = (build b keys).getD 0 0 := by
  have h1 : ¬ (b < 1 ∨ keys.take n = []) := fun h => hne (by unfold build; rw [if_pos h])
  have h2 : ¬ (b < 1 ∨ keys = []) := fun h => h.elim (fun h => h1 (.inl h)) (fun h => h1 (.inr (by rw [h]; simp)))
  rw [build_len h1, build_len h2] at hlen
  have hb : bytesOf b (keys.take n).length = bytesOf b keys.length := by omega
  have e : build b keys = fill (kOf b) (8 * (bytesOf b keys.length : Nat)) (build b (keys.take n)) (keys.drop n) := by
    unfold build
    rw [if_neg h1, if_neg h2, hb, ← fill_app, List.take_append_drop]
  exact ⟨by rw [e]; exact subL_fill _ _ _ _, by rw [e, head_fill]⟩
end Bm
end Go.Proofs.Ytiijkneomecmiaa

/-
  Plain mathematics of chapter 8: a table's blocks, index, foot (P8.3).
-/
namespace Go.Proofs.Ytiijkneomecmiaa
open Go.RowKit
namespace Tb
open Mt (Ver mayB lessB placeB VerIn verV)
set_option linter.unusedSimpArgs false
/-- one version more: does the block at hand end with it? (the blocks: where each begins, how many it has; where the one at hand begins) -/
def cutStep (block : Int) (L : List Ver) (st : List (Nat × Nat) × Nat) (i : Nat) : List (Nat × Nat) × Nat :=
  if block ≤ ((blk ((L.drop st.2).take (i + 1 - st.2))).length : Int) ∨ i + 1 = L.length then (st.1 ++ [(st.2, i + 1 - st.2)], i + 1) else st
def cutN (block : Int) (L : List Ver) (n : Nat) : List (Nat × Nat) × Nat := (List.range n).foldl (cutStep block L) ([], 0)
/-- the blocks of a list -/
def cuts (block : Int) (L : List Ver) : List (Nat × Nat) := (cutN block L L.length).1
def part (L : List Ver) (p : Nat × Nat) : List Ver := (L.drop p.1).take p.2
def dataF (L : List Ver) (p : Nat × Nat) : List UInt8 := (Fr.put 3 (blk (part L p))).1
def lastOf (L : List Ver) (p : Nat × Nat) : Ver := { L.getD (p.1 + p.2 - 1) ver0 with val := [] }
def spanB (pos : Nat) (L : List Ver) (p : Nat × Nat) : List UInt8 := Cd.putU pos ++ Cd.putU (dataF L p).length ++ Cd.putU p.2 ++ Cd.putT (encKey (lastOf L p))
def bodyStep (L : List Ver) (st : List UInt8 × List UInt8) (p : Nat × Nat) : List UInt8 × List UInt8 := (st.1 ++ dataF L p, st.2 ++ spanB st.1.length L p)
/-- the data's frames, and the index, of the first blocks -/
def bodyN (L : List Ver) (ps : List (Nat × Nat)) (n : Nat) : List UInt8 × List UInt8 := (ps.take n).foldl (bodyStep L) ([], Cd.putU ps.length)
def keyN (L : List Ver) (n : Nat) : List (List UInt8) := ((List.range n).filter fun i => decide (i = 0) || (L.getD i ver0).key != (L.getD (i - 1) ver0).key).map fun i => (L.getD i ver0).key
/-- the keys, each once -/
def keyL (L : List Ver) : List (List UInt8) := keyN L L.length
def footB (L : List Ver) (a b : Nat) : List UInt8 := Cd.putU a ++ Cd.putU b ++ Cd.putU L.length ++ Cd.putT (L.getD 0 ver0).key ++ Cd.putT (L.getD (L.length - 1) ver0).key
def wholeB (L : List Ver) (s ix fl : List UInt8) : List UInt8 :=
  s ++ (Fr.put 5 fl).1 ++ (Fr.put 4 ix).1 ++ (Fr.put 6 (footB L s.length (s ++ (Fr.put 5 fl).1).length)).1 ++ Fr.lit ((s ++ (Fr.put 5 fl).1 ++ (Fr.put 4 ix).1).length % 4294967296)
/-- P8.3 -/
def buildT (block bits : Int) (L : List Ver) : List UInt8 × Nat :=
  if (block < 64 ∨ 4096 < block) ∨ (bits < 0 ∨ 20 < bits) ∨ L = [] then ([], 1) else
  if rising L ≠ 0 then ([], rising L) else
  if 262144 < (bodyN L (cuts block L) (cuts block L).length).2.length ∨ 262144 < (Bm.build bits (keyL L)).length then ([], 5) else
  if 16777216 < (wholeB L (bodyN L (cuts block L) (cuts block L).length).1 (bodyN L (cuts block L) (cuts block L).length).2 (Bm.build bits (keyL L))).length then ([], 5) else
  (wholeB L (bodyN L (cuts block L) (cuts block L).length).1 (bodyN L (cuts block L) (cuts block L).length).2 (Bm.build bits (keyL L)), 0)

theorem cutN_succ (block : Int) (L : List Ver) (n : Nat) : cutN block L (n + 1) = cutStep block L (cutN block L n) n := by
  unfold cutN; rw [List.range_succ, List.foldl_append]; rfl
/-- what the blocks are: each has one version at least, all lie within the first n, and are at most as many -/
theorem cutN_in (block : Int) (L : List Ver) : ∀ n, (cutN block L n).2 ≤ n ∧ (cutN block L n).1.length ≤ n ∧ ∀ p ∈ (cutN block L n).1, 1 ≤ p.2 ∧ p.1 + p.2 ≤ n
  | 0 => ⟨Nat.le_refl _, Nat.le_refl _, fun p hp => (by cases hp)⟩
  | n + 1 => by
    obtain ⟨h1, h2, h3⟩ := cutN_in block L n
    rw [cutN_succ]
    unfold cutStep
    split
    · refine ⟨Nat.le_refl _, by simp; omega, fun p hp => ?_⟩
      rcases List.mem_append.1 hp with hp | hp
      · have := h3 p hp; omega
      · simp at hp; subst hp; simp only; omega
    · exact ⟨by omega, by omega, fun p hp => by have := h3 p hp; omega⟩
theorem bodyN_succ (L : List Ver) (ps : List (Nat × Nat)) (n : Nat) (h : n < ps.length) : bodyN L ps (n + 1) = bodyStep L (bodyN L ps n) ps[n] := by
  unfold bodyN; rw [List.take_succ_eq_append_getElem h, List.foldl_append]; rfl
theorem keyN_succ (L : List Ver) (n : Nat) : keyN L (n + 1) = keyN L n ++ (if n = 0 ∨ (L.getD n ver0).key ≠ (L.getD (n - 1) ver0).key then [(L.getD n ver0).key] else []) := by
  unfold keyN
  rw [List.range_succ, List.filter_append, List.map_append]
  congr 1
  by_cases h : n = 0 ∨ (L.getD n ver0).key ≠ (L.getD (n - 1) ver0).key
  · rw [if_pos h]
    have : (decide (n = 0) || (L.getD n ver0).key != (L.getD (n - 1) ver0).key) = true := by simpa using h
    simp only [List.filter_cons, List.filter_nil, this, if_true, List.map_cons, List.map_nil]
  · rw [if_neg h]
    have : (decide (n = 0) || (L.getD n ver0).key != (L.getD (n - 1) ver0).key) = false := by simpa using h
    simp only [List.filter_cons, List.filter_nil, this, Bool.false_eq_true, if_false, List.map_nil]
theorem keyN_len (L : List Ver) (n : Nat) : (keyN L n).length ≤ n := by
  unfold keyN; rw [List.length_map]
  have := List.length_filter_le (fun i => decide (i = 0) || (L.getD i ver0).key != (L.getD (i - 1) ver0).key) (List.range n)
  simpa using this
theorem frame_len (c : UInt8) (l : List UInt8) : (Fr.put c l).1.length ≤ l.length + 20 := by
  by_cases h : c.toNat = 0 ∨ 262144 < l.length
  · unfold Fr.put; rw [if_pos h]; simp
  · rw [Fr.put_ok (by omega) (by omega), List.length_append, Fr.lit_len, List.length_cons, Cd.putT, List.length_append]
    have := Cd.putU_len10 l.length (by omega)
    omega
theorem part_len (L : List Ver) (p : Nat × Nat) : (part L p).length ≤ p.2 := by unfold part; simp; omega
theorem part_mem {L : List Ver} {p : Nat × Nat} {x : Ver} (h : x ∈ part L p) : x ∈ L := List.mem_of_mem_drop (List.mem_of_mem_take h)
theorem blk_len {L : List Ver} (h : ∀ x ∈ L, x.val.length ≤ 16384) : (blk L).length ≤ 16700 * L.length := blkN_len h _
theorem dataF_len {L : List Ver} (h : ∀ x ∈ L, x.val.length ≤ 16384) (p : Nat × Nat) : (dataF L p).length ≤ 16700 * p.2 + 20 := by
  unfold dataF
  have h1 := frame_len 3 (blk (part L p))
  have h2 := blk_len (L := part L p) (fun x hx => h x (part_mem hx))
  have h3 := part_len L p
  omega
theorem putT_len (l : List UInt8) (h : l.length ≤ 1099511627776) : (Cd.putT l).length ≤ l.length + 10 := by
  rw [Cd.putT, List.length_append]
  have := Cd.putU_len10 l.length (by omega)
  omega
theorem spanB_len (pos : Nat) (L : List Ver) (p : Nat × Nat) (h1 : pos < 18446744073709551616) (h2 : (dataF L p).length < 18446744073709551616) (h3 : p.2 < 18446744073709551616) : (spanB pos L p).length ≤ 260 := by
  unfold spanB
  have e1 := Cd.putU_len10 pos h1
  have e2 := Cd.putU_len10 _ h2
  have e3 := Cd.putU_len10 _ h3
  have e4 := enc_len (lastOf L p)
  have e5 := putT_len (encKey (lastOf L p)) (by omega)
  simp only [List.length_append]
  omega
end Tb
end Go.Proofs.Ytiijkneomecmiaa

/-
  Chapter 7's document side (tapestryref07): Valid, bit, Hash, Places, Load, Has.
-/
namespace Go.Proofs.Ytiijkneomecmiaa
open Go.RowKit
set_option linter.unusedSimpArgs false
set_option linter.unusedVariables false
namespace Bm
theorem bit_eq (s : List UInt8) (i : Nat) (hi : 1 + i / 8 < s.length) : bitB s i = (((s[1 + i / 8].toNat : Int) / 2 ^ (i % 8)).tmod 2 == 1) := by
  unfold bitB
  rw [List.getD_eq_getElem?_getD, List.getElem?_eq_getElem hi, Option.getD_some]
  generalize s[1 + i / 8].toNat = x
  have e1 : ((x : Int) / 2 ^ (i % 8)) = ((x / 2 ^ (i % 8) : Nat) : Int) := by rw [Int.natCast_ediv]; norm_cast
  rw [e1]
  generalize x / 2 ^ (i % 8) = y
  rw [Int.tmod_eq_emod_of_nonneg (by omega), Bool.eq_iff_iff]
  simp
  omega

set_option maxRecDepth 100000 in
set_option maxHeartbeats 2000000 in
theorem hashR_any (l : List UInt8) (w : World) (hl : l.length ≤ 140737488351232) :
    Calls Try.prog 72 #[.string (Cd.bs l)] w fun e w' => e = .returned (.int .u64 (hash l)) ∧ w = w' := by
  go_enter Try.func72, Try.ntmps72
  go_wp2_with fail
  go_loop [3, 4] (fun hv iv => ∃ (p : Nat) (h : Int), p ≤ l.length ∧ hv = .int .u64 h ∧ iv = .int .i64 (p : Int) ∧ (0 ≤ h ∧ h < 18446744073709551616) ∧ Hid (hashGo l 14695981039346656037 = hashGo (l.drop p) h)) (fun _ iv => l.length - (intOf iv).toNat)
  case atStart => exact ⟨0, _, Nat.zero_le _, rfl, rfl, by omega, rfl⟩
  case round =>
    obtain ⟨p, h, hp, rfl, rfl, ⟨hh0, hh1⟩, hgo⟩ := hrel
    by_cases hlt : p < l.length
    · have hi1 : (0 : Int) ≤ (p : Int) ∧ (p : Int) < (l.length : Int) := by omega
      have hcw : IntKind.u64.wrap (((Cd.bs l)[p]'hlt).toNat : Int) = (l[p].toNat : Int) := by
        have := (l[p]).toNat_lt
        show IntKind.u64.wrap (l[p].toNat : Int) = _
        rw [IntKind.wrap_u64]; omega
      have HG := Lib.hid (show hashGo l 14695981039346656037 = hashGo (l.drop (p + 1)) (IntKind.u64.wrap (bits BinOp.xor IntKind.u64 h (l[p].toNat : Int) * 1099511628211)) by
        rw [hgo.out, List.drop_eq_getElem_cons hlt, hashGo])
      clear hgo
      go_wp2_with fail
      go_round
      case rel => exact ⟨p + 1, _, by omega, rfl, by go_num, by rw [IntKind.wrap_u64]; omega, HG⟩
      case measure => simp [intOf]; omega
    · obtain rfl : p = l.length := by omega
      have HE := Lib.hid (show hash l = mixOf h by unfold hash; rw [hgo.out, List.drop_length]; rfl)
      have HM := Lib.hid (fun W => mixr_any h W hh0 (by omega))
      clear hgo
      go_wp2_with (go_at_call 77; (with_reducible refine (HM.out _).mono ?_); rintro e w1 ⟨rfl, rfl⟩)
      go_ret
      exact ⟨by rw [HE.out]; rfl, rfl⟩

/-- cells of numbers -/
def ic (l : List Int) : List Value := l.map fun b => .int .i64 b
theorem info_int7 : (Try.prog.info? 3).map (fun i => (i.zero, i.size, i.bytes)) = some (some (.int .i64 0), 1, 8) := by kernel_rfl
theorem dOf_in {h : Int} (hh : 0 ≤ h ∧ h < 18446744073709551616) : 0 ≤ dOf h ∧ dOf h < 18446744073709551616 := by
  unfold dOf
  obtain ⟨m, hm⟩ := Int.eq_ofNat_of_zero_le (a := IntKind.u64.wrap (h * 2 ^ 31)) (by rw [IntKind.wrap_u64]; omega)
  obtain ⟨n, hn⟩ := Int.eq_ofNat_of_zero_le (a := h / 2 ^ 33) (by omega)
  have hm2 : m < 18446744073709551616 := by have : IntKind.u64.wrap (h * 2 ^ 31) < 18446744073709551616 := by rw [IntKind.wrap_u64]; omega
                                            omega
  have hn2 : n < 18446744073709551616 := by omega
  rw [hm, hn, u64_or_nat m n (by omega) (by omega)]
  have := Nat.or_lt_two_pow (x := m) (y := n) (n := 64) (by omega) (by omega)
  omega
theorem hash_in (l : List UInt8) : 0 ≤ hash l ∧ hash l < 18446744073709551616 := Mt.mix_in _
theorem placesGo_snoc : ∀ (k : Nat) (h d m : Int), ∃ h', placesGo (k + 1) h d m = placesGo k h d m ++ [h' % m] := by
  intro k
  induction k with
  | zero => intro h d m; exact ⟨h, rfl⟩
  | succ k ih => intro h d m; obtain ⟨h', e⟩ := ih (IntKind.u64.wrap (h + d)) d m; exact ⟨h', by rw [placesGo, e, placesGo]; rfl⟩

theorem placesGo_in (key : List UInt8) (k : Nat) (m : Int) (hm : 0 < m) : ∀ i ∈ places key k m, 0 ≤ i ∧ i < m := places_in k _ _ m hm

set_option maxRecDepth 100000 in
set_option maxHeartbeats 4000000 in
theorem placesR_any (key : List UInt8) (k : Nat) (m : Int) (w : World) (hl : key.length ≤ 140737488351232) (hk : k ≤ 1000) (hm : 0 < m ∧ m ≤ 1125899906842624) :
    Calls Try.prog 58 #[.string (Cd.bs key), .int .i64 (k : Int), .int .i64 m] w fun e w' => ∃ v, e = .returned v ∧ w'.ownsRow w.heap.size 3 1 v (places key k m).length (ic (places key k m)) ∧ Below w.heap.size w w' := by
  have hH := hash_in key
  have HP := Lib.hid (show places key k m = placesGo k (hash key) (dOf (hash key)) m from rfl)
  have HH := Lib.hid (fun W => hashR_any key W hl)
  have hD := dOf_in hH
  have HD : bits BinOp.or IntKind.u64 (IntKind.u64.wrap (hash key * 2147483648)) (hash key / 8589934592) = dOf (hash key) := rfl
  obtain ⟨hm0, hm1⟩ := hm
  obtain ⟨hH0, hH1⟩ := hH
  obtain ⟨i0, hi0, hz0, hz1, hz2⟩ := info_parts info_int7
  generalize dOf (hash key) = D at *
  generalize hash key = H at *
  obtain ⟨hD0, hD1⟩ := hD
  go_enter Try.func58, Try.ntmps58
  go_wp2_with (go_at_call 72; (with_reducible refine (HH.out _).mono ?_); rintro e w1 ⟨rfl, rfl⟩)
  go_loopw [7, 9, 10] (fun hv v iv wr => ∃ (q : Nat) (h : Int) (done : List Int), q ≤ k ∧ done.length = q ∧ hv = .int .u64 h ∧ iv = .int .i64 (q : Int) ∧ (0 ≤ h ∧ h < 18446744073709551616) ∧ Hid (placesGo k H D m = done ++ placesGo (k - q) h D m) ∧ wr.ownsRow w.heap.size 3 1 v done.length (ic done) ∧ Below w.heap.size w wr) (fun _ _ iv _ => k - (intOf iv).toNat)
  case atStart => exact ⟨0, H, [], Nat.zero_le _, rfl, rfl, rfl, ⟨hH0, hH1⟩, rfl, World.ownsRow_nil _ _ _ _, Below.refl _ _⟩
  case round =>
    obtain ⟨q, h, done, hq, hdq, rfl, rfl, ⟨hh0, hh1⟩, hgo, hown, hB⟩ := hrel
    have hbs := hB.size
    by_cases hlt : q < k
    · have hi1 : (q : Int) < (k : Int) := by omega
      have hmw : IntKind.u64.wrap m = m := by rw [IntKind.wrap_u64]; omega
      have hr0 : 0 ≤ h % m := Int.emod_nonneg _ (by omega)
      have hr1 : h % m < m := Int.emod_lt_of_pos _ hm0
      have HG := Lib.hid (show placesGo k H D m = (done ++ [h % m]) ++ placesGo (k - (q + 1)) (IntKind.u64.wrap (h + D)) D m by
        rw [hgo.out, show k - q = (k - (q + 1)) + 1 by omega, placesGo, List.append_assoc]; rfl)
      clear hgo
      go_wp2_with (at_builtin; refine wpList_append_own _ rfl _ _ 84 rfl w.heap.size 3 i0 (.int .i64 0) 1 8 Try.underlying84 hi0 hz0 hz1 hz2 rfl (by decide) _ _ _ rfl (hown.alloc _) ⟨wr.heap.size, 0, none⟩ 1 1 [_] rfl rfl (cell_one_new _ _ _) (by simp [Value.oneCell']) (by unfold maxLen; omega) (by omega) (by simp; omega) ?_; intro v' w2 hown2 hgrow _)
      go_roundw
      case rel => exact ⟨q + 1, _, done ++ [h % m], by omega, by simp [hdq], rfl, by go_num, by rw [IntKind.wrap_u64]; omega, HG, by rw [List.length_append, List.length_singleton]; simpa [ic] using hown2, (hB.alloc hbs _).grown hgrow (by simp; omega) (fun j hj => (Ob.row_lt hown hj).1)⟩
      case measure => simp [intOf]; omega
    · obtain rfl : q = k := by omega
      have HE := Lib.hid (show places key q m = done by rw [HP.out, hgo.out, Nat.sub_self]; simp [placesGo])
      clear hgo
      go_wp2_with fail
      go_ret
      exact ⟨_, rfl, by rw [HE.out]; exact hown, hB⟩

theorem filter_snoc (f : Nat → Bool) (q : Nat) : ((List.range (q + 1)).filter f).length = ((List.range q).filter f).length + (if f q then 1 else 0) := by
  rw [List.range_succ, List.filter_append, List.length_append]
  cases h : f q <;> simp [h]

end Bm
end Go.Proofs.Ytiijkneomecmiaa
/-
  Chapter 7's document side: Build.
-/
namespace Go.Proofs.Ytiijkneomecmiaa
open Go.RowKit
set_option linter.unusedSimpArgs false
set_option linter.unusedVariables false
namespace Bm
/-- a slice of texts, in blocks below B -/
def Strs (B : Nat) (W : World) (v : Value) (L : List (List UInt8)) : Prop :=
  ∃ (a : Option Addr) (cap b off : Nat), v = .slice a L.length cap ∧ (0 < L.length → a = some ⟨b, off, none⟩ ∧ b < B) ∧ ∀ j (h : j < L.length), W.cell? ⟨b, off + j, none⟩ = some (.string (Cd.bs L[j]))
theorem Strs.below {B B' : Nat} {W W' : World} {v : Value} {L : List (List UInt8)} (h : Strs B W v L) (hb : Below B' W W') (hB : B ≤ B') : Strs B W' v L := by
  obtain ⟨a, cap, b, off, h1, h2, h3⟩ := h
  exact ⟨a, cap, b, off, h1, h2, fun j hj => (hb.cell (p := ⟨b, off + j, none⟩) (Nat.lt_of_lt_of_le (h2 (by omega)).2 hB)).trans (h3 j hj)⟩
theorem cs_map (l : List UInt8) : Cd.cs l = l.map fun c => Value.int .u8 (c.toNat : Int) := rfl
theorem made_u8 (n : Nat) : (madeCells (Value.int .u8 0).cells (n * 1)).toList = Cd.cs (List.replicate n 0) := by
  rw [show (Value.int .u8 0).cells = #[Value.int .u8 0] from rfl, Nat.mul_one, toList_madeCells_one, cs_map, List.map_replicate]; rfl
theorem cs_setB (l : List UInt8) (i : Nat) (v : Int) (hv : v = ((orB (l.getD (1 + i / 8) 0) i).toNat : Int)) : (Cd.cs l).set (1 + i / 8) (.int .u8 v) = Cd.cs (setB l i) := by
  unfold setB
  rw [cs_map, cs_map, List.map_set, hv]
theorem cs_get (l : List UInt8) (k : Nat) (h : k < l.length) : (Cd.cs l)[k]? = some (.int .u8 ((l.getD k 0).toNat : Int)) := by
  rw [cs_map, List.getElem?_map, List.getElem?_eq_getElem h, List.getD_eq_getElem?_getD, List.getElem?_eq_getElem h]; rfl
theorem or_val (x : UInt8) (i : Nat) : bits BinOp.or IntKind.u8 (x.toNat : Int) (2 ^ min (i % 8) 8 % 256) = ((orB x i).toNat : Int) := by
  have h8 : i % 8 < 8 := Nat.mod_lt _ (by omega)
  have hp : 2 ^ (i % 8) < 256 := Nat.lt_of_lt_of_le (Nat.pow_lt_pow_right (by omega) h8) (Nat.le_refl _)
  have hx := x.toNat_lt
  have ho := Nat.or_lt_two_pow (x := x.toNat) (y := 2 ^ (i % 8)) (n := 8) (by omega) (by omega)
  have e0 : min (i % 8) 8 = i % 8 := Nat.min_eq_left (by omega)
  have e1 : ((2 : Int) ^ (i % 8) % 256) = ((2 ^ (i % 8) : Nat) : Int) := by
    have : ((2 : Int) ^ (i % 8)) = ((2 ^ (i % 8) : Nat) : Int) := by norm_cast
    rw [this]; exact Int.emod_eq_of_lt (Int.natCast_nonneg _) (Int.ofNat_lt.2 hp)
  rw [e0, e1, u8_or_nat _ _ (by omega) (by omega)]
  unfold orB
  rw [UInt8.toNat_ofNat']
  have e2 : (x.toNat ||| 2 ^ (i % 8)) % 2 ^ 8 = (x.toNat ||| 2 ^ (i % 8)) := Nat.mod_eq_of_lt (by omega)
  rw [e2]
theorem cs_set0 (n k : Nat) (h : k < 256) : (Cd.cs (List.replicate (1 + n) 0)).set 0 (.int .u8 (k : Int)) = Cd.cs (UInt8.ofNat k :: List.replicate n 0) := by
  rw [cs_map, cs_map, Nat.add_comm, List.replicate_succ, List.map_cons, List.set_cons_zero, List.map_cons, UInt8.toNat_ofNat', show k % 2 ^ 8 = k from Nat.mod_eq_of_lt h]
theorem setAll_snoc (l : List UInt8) (is : List Int) (i : Int) : setAll l (is ++ [i]) = setB (setAll l is) i.toNat := by simp [setAll]
theorem fill_snoc (k : Nat) (m : Int) (l : List UInt8) (a : List (List UInt8)) (x : List UInt8) : fill k m l (a ++ [x]) = setAll (fill k m l a) (places x k m) := by simp [fill]

set_option maxRecDepth 100000 in
set_option maxHeartbeats 4000000 in
theorem buildR_any (v : Value) (b : Int) (keys : List (List UInt8)) (w : World) (hv : Strs w.heap.size w v keys) (hb : -9223372036854775808 ≤ b ∧ b ≤ 9223372036854775807) (hk : keys.length ≤ 1048576) (hkl : ∀ x ∈ keys, x.length ≤ 1048576) :
    Calls Try.prog 40 #[.int .i64 b, v] w fun e w' => e = .returned (.string (Cd.bs (build b keys))) ∧ Below w.heap.size w w' := by
  obtain ⟨a, cap, fb, fo, rfl, ha, hcells⟩ := hv
  have HC := Lib.hid hcells
  clear hcells
  obtain ⟨hb0, hb1⟩ := hb
  obtain ⟨i0, hi, hz0, hz1, hz2⟩ := info_parts info_u8
  by_cases h1 : b < 1
  · have HE := Lib.hid (show build b keys = [] from if_pos (.inl h1))
    go_enter Try.func40, Try.ntmps40
    go_wp2_with fail
    go_ret
    exact ⟨by rw [HE.out]; rfl, Below.refl _ _⟩
  · by_cases h2 : keys.length = 0
    · have HE := Lib.hid (show build b keys = [] from if_pos (.inr (List.eq_nil_of_length_eq_zero h2)))
      have h2b : ((keys.length : Int) == 0) = true := by simp; exact List.eq_nil_of_length_eq_zero h2
      go_enter Try.func40, Try.ntmps40
      go_wp2_with fail
      go_ret
      exact ⟨by rw [HE.out]; rfl, Below.refl _ _⟩
    · have hbd : build b keys = fill (kOf b) (8 * (bytesOf b keys.length : Nat)) (UInt8.ofNat (kOf b) :: List.replicate (bytesOf b keys.length) 0) keys := if_neg (fun h => h.elim h1 (fun h => h2 (by rw [h]; rfl)))
      have h2b : ((keys.length : Int) == 0) = false := by simpa using fun h => h2 (by rw [h]; rfl)
      have HE := Lib.hid hbd
      have hkk := kOf_in b
      obtain ⟨k, hkd⟩ : ∃ k, kOf b = k := ⟨_, rfl⟩
      obtain ⟨n, hnd⟩ : ∃ n, bytesOf b keys.length = n := ⟨_, rfl⟩
      obtain ⟨b2, hb2⟩ : ∃ b2, min b 20 = b2 := ⟨_, rfl⟩
      have hb2i : 1 ≤ b2 ∧ b2 ≤ 20 := by omega
      have hk2 : max (b2 * 69 / 100) 1 = (k : Int) := by rw [← hkd, ← hb2]; unfold kOf; omega
      obtain ⟨b3, hb3⟩ : ∃ b3, b2 * (keys.length : Int) = b3 := ⟨_, rfl⟩
      have hb3i : 0 ≤ b3 ∧ b3 ≤ 20971520 := by
        have q1 : b2 * (keys.length : Int) ≤ 20 * (keys.length : Int) := Int.mul_le_mul_of_nonneg_right hb2i.2 (by omega)
        have q2 : 0 ≤ b2 * (keys.length : Int) := Int.mul_nonneg (by omega) (by omega)
        omega
      obtain ⟨m0, hm0⟩ : ∃ m0, max b3 64 = m0 := ⟨_, rfl⟩
      have hn2 : ((m0.toNat + 7) / 8 : Nat) = n := by rw [← hnd, ← hm0, ← hb3, ← hb2]; rfl
      have hm0i : 64 ≤ m0 ∧ m0 ≤ 20971520 := by omega
      rw [hkd, hnd] at HE
      rw [hkd] at hkk
      clear hbd hkd hnd
      go_enter Try.func40, Try.ntmps40
      go_wp2_with fail
      go_loop [6] (fun mv => ∃ x : Int, m0 ≤ x ∧ x ≤ 8 * (n : Int) ∧ mv = .int .i64 x) (fun mv => 8 * n - (intOf mv).toNat)
      case atStart => exact ⟨m0, Int.le_refl _, by omega, rfl⟩
      case round =>
        obtain ⟨x, hx0, hx1, rfl⟩ := hrel
        by_cases hx8 : 0 < x % 8
        · go_wp2_with fail
          go_round
          case rel => exact ⟨x + 1, by omega, by omega, by go_num⟩
          case measure => simp [intOf]; omega
        · obtain rfl : x = 8 * (n : Int) := by omega
          have hd8 : 8 * (n : Int) / 8 = (n : Int) := by omega
          have hkc : IntKind.u8.wrap (k : Int) = (k : Int) := by rw [IntKind.wrap_u8]; omega
          have hpos : (0 : Int) ≤ 0 ∧ (0 : Int) < 1 + (n : Int) := by omega
          have hn0 : 8 ≤ n ∧ n ≤ 2621440 := by omega
          clear hx8 hx0 hx1
          go_wp2_with (refine wpList_make_full _ (by rfl) _ _ 48 (by rfl) w.heap.size 5 i0 (.int .u8 0) 1 Try.underlying48 hi hz0 hz1 .i64 .i64 (1 + (n : Int)) (1 + (n : Int)) (1 + n) (by rfl) (by rfl) (by omega) (by omega) (by rw [hz2]; omega) (by unfold maxLen; omega) (Nat.le_refl _) ?_; intro w1 hown hgrow; rw [made_u8] at hown; have hc0 := (hown.cellAt 0 (by omega)).trans (cs_get (List.replicate (1 + n) 0) 0 (by simp; omega)); have hf0 := hown.frozenAt 0; have hst := (World.ownsRow.stored hown 0 (.int .u8 (k : Int))).1; rw [cs_set0 n k (by omega)] at hst; have hbw : Below w.heap.size w (w1.setCell ⟨w.heap.size, 0, none⟩ (.int .u8 (k : Int))) := ((Below.refl _ _).grown hgrow (Nat.le_refl _) (fun k hk => by cases hk)).setCell (p := ⟨w.heap.size, 0, none⟩) (Nat.le_refl _) _; have HST := Lib.hid hst; have HBW := Lib.hid hbw; clear hst hbw hown hgrow)
          have hst := HST.out
          have hbw := HBW.out
          clear HST HBW
          generalize hN : 1 + n = N at *
          obtain ⟨L0, hL0⟩ : ∃ L0, L0 = UInt8.ofNat k :: List.replicate n 0 := ⟨_, rfl⟩
          have hL0l : L0.length = N := by rw [hL0]; simp; omega
          rw [← hL0] at HE hst
          clear hL0
          go_loopw [8] (fun iv wr => ∃ q : Nat, q ≤ keys.length ∧ iv = .int .i64 (q : Int) ∧ wr.ownsRow w.heap.size 5 1 (.slice (some ⟨w.heap.size, 0, none⟩) N N) N (Cd.cs (fill k (8 * (n : Int)) L0 (keys.take q))) ∧ Below w.heap.size w wr) (fun iv _ => keys.length - (intOf iv).toNat)
          case atStart => exact ⟨0, Nat.zero_le _, rfl, hst, hbw⟩
          case round =>
            obtain ⟨q, hq, rfl, hown, hB⟩ := hrel
            obtain ⟨wo, rfl⟩ : ∃ wo : World, wo = wr := ⟨_, rfl⟩
            have hbs := hB.size
            by_cases hlt : q < keys.length
            · obtain ⟨rfl, hfb⟩ := ha (by omega)
              have e0 := (hB.cell (p := ⟨fb, fo + q, none⟩) hfb).trans (HC.out q hlt)
              have hi1 : (0 : Int) ≤ (q : Int) ∧ (q : Int) < (keys.length : Int) := by omega
              have hxl := hkl keys[q] (List.getElem_mem hlt)
              have HT := Lib.hid (show fill k (8 * (n : Int)) L0 (keys.take (q + 1)) = setAll (fill k (8 * (n : Int)) L0 (keys.take q)) (places keys[q] k (8 * (n : Int))) by rw [List.take_succ_eq_append_getElem hlt, fill_snoc])
              have hfl := fill_len k (8 * (n : Int)) (keys.take q) L0
              rw [hL0l] at hfl
              have HP := Lib.hid (fun W => placesR_any keys[q] k (8 * (n : Int)) W (by omega) (by omega) (by omega))
              have hLl : (places keys[q] k (8 * (n : Int))).length = k := placesGo_len _ _ _ _
              have HI := Lib.hid (placesGo_in keys[q] k (8 * (n : Int)) (by omega))
              generalize fill k (8 * (n : Int)) L0 (keys.take q) = F at *
              generalize places keys[q] k (8 * (n : Int)) = L at *
              generalize keys[q] = key at *
              have HO := Lib.hid hown
              go_wp2_with (go_at_call 58; (with_reducible refine (HP.out _).mono ?_); rintro e w2 ⟨v, rfl, hownL, hb2⟩; obtain ⟨ao, cap2, rfl, hg1⟩ := Sq.row_cases hownL; have hown2 := Sq.row_kept HO.out (Sq.Kept.of_below (T := fun _ => True) hb2) (fun _ _ => trivial))
              have hbs2 := hb2.size
              have hwz : w.heap.size < wo.heap.size := (Ob.row_lt hown rfl).2
              go_loopw [10] (fun jv wx => ∃ j : Nat, j ≤ L.length ∧ jv = .int .i64 (j : Int) ∧ wx.ownsRow w.heap.size 5 1 (.slice (some ⟨w.heap.size, 0, none⟩) N N) N (Cd.cs (setAll F (L.take j))) ∧ wx.ownsRow wo.heap.size 3 1 (.slice ao L.length cap2) L.length (ic L) ∧ Below w.heap.size w wx) (fun jv _ => L.length - (intOf jv).toNat)
              case atStart => exact ⟨0, Nat.zero_le _, rfl, hown2, hownL, hB.trans (hb2.mono hbs)⟩
              case round =>
                obtain ⟨j, hj, rfl, hR, hRL, hBx⟩ := hrel
                by_cases hjl : j < L.length
                · obtain ⟨g1, rfl, hg1l, hg1h⟩ := hg1 (by omega)
                  have hgne : g1 ≠ w.heap.size := by omega
                  have e1 := (hRL.cellAt j (by omega)).trans (show (ic L)[j]? = some (.int .i64 L[j]) by simp [ic, hjl])
                  have hi2 : (0 : Int) ≤ (j : Int) ∧ (j : Int) < (L.length : Int) := by omega
                  have hx := HI.out L[j] (List.getElem_mem hjl)
                  have hts := List.take_succ_eq_append_getElem hjl
                  have hsl := setAll_len (L.take j) F
                  rw [hfl] at hsl
                  have HT2 := Lib.hid (show setAll F (L.take (j + 1)) = setB (setAll F (L.take j)) L[j].toNat by rw [hts, setAll_snoc])
                  clear hts
                  generalize setAll F (L.take j) = G at *
                  generalize L[j] = x at *
                  obtain ⟨i, rfl⟩ := Int.eq_ofNat_of_zero_le hx.1
                  rw [Int.toNat_natCast] at HT2
                  obtain ⟨p, hp⟩ : ∃ p, p = 1 + i / 8 := ⟨_, rfl⟩
                  have hpi : (1 : Int) + (i : Int) / 8 = (p : Int) := by omega
                  have hil : p < N := by omega
                  have e2 := (hR.cellAt p (by omega)).trans (cs_get G p (by omega))
                  have f2 := hR.frozenAt p
                  have HST := Lib.hid (fun v => (World.ownsRow.stored hR p v).1)
                  have HRL := Lib.hid (fun v => Ob.row_other hRL (p := ⟨w.heap.size, p, none⟩) (by simp [Value.ownBlock]; omega) v)
                  have HSB := Lib.hid (cs_setB G i)
                  rw [← hp] at HSB
                  have hi3 : (0 : Int) ≤ (p : Int) ∧ (p : Int) < (N : Int) := by omega
                  have hxb := (G.getD p 0).toNat_lt
                  have HOV := Lib.hid (or_val (G.getD p 0) i)
                  generalize (G.getD p 0) = y at *
                  clear hp
                  clear hR hRL
                  go_wp2_with fail
                  go_still_tail 15, (by kernel_rfl)
                  change wpList _ _ _ _ _ (World.drew _)
                  go_wp2_with fail
                  go_roundw
                  case rel => exact ⟨j + 1, by omega, by go_num, by rw [HT2.out, ← HSB.out _ HOV.out]; exact HST.out _, HRL.out _, (hBx.setCell (p := ⟨w.heap.size, p, none⟩) (Nat.le_refl _) _).drew⟩
                  case measure => simp [intOf]; omega
                · obtain rfl : j = L.length := by omega
                  rw [List.take_length] at hR
                  have HR := Lib.hid hR
                  clear hR hRL
                  go_wp2_with fail
                  go_roundw
                  case rel => exact ⟨q + 1, by omega, by go_num, by rw [HT.out]; exact HR.out, hBx⟩
                  case measure => simp [intOf]; omega
            · obtain rfl : q = keys.length := by omega
              rw [List.take_length] at hown
              have hcv := conv_any (l := fill k (8 * (n : Int)) L0 keys) (by rw [fill_len, hL0l]; exact hown)
              go_wp2_with fail
              go_ret
              exact ⟨by rw [HE.out]; rfl, hB⟩
end Bm
end Go.Proofs.Ytiijkneomecmiaa

/-
  The document's blocks of a list of versions, its keys, its frames (tapestryref08.Blocks, keys, put).
-/
namespace Go.Proofs.Ytiijkneomecmiaa
open Go.RowKit
set_option linter.unusedSimpArgs false
set_option linter.unusedVariables false
namespace Tb
open Mt (Ver mayB lessB placeB VerIn verV)
open Vs (Vers At)

theorem own_after {W w : World} {base : Nat} {e : TypeId} {size : Nat} {v : Value} {n : Nat} {xs : List Value} (h : W.ownsRow base e size v n xs) (hb : Below W.heap.size W w) : w.ownsRow base e size v n xs :=
  Sq.row_kept h (Sq.Kept.of_below (T := fun _ => True) hb) (fun _ _ => trivial)
/-- a block as a slice of the list's own memory -/
def slc (fb fo cap : Nat) (p : Nat × Nat) : Value := .slice (some ⟨fb, fo + p.1 * 4, none⟩) p.2 (cap - p.1)
theorem info_vers : (Try.prog.info? 31).map (fun i => (i.zero, i.size, i.bytes)) = some (some (.slice none 0 0), 1, 24) := by kernel_rfl
theorem part_get {L : List Ver} {p : Nat × Nat} {j : Nat} (h : j < (part L p).length) (h' : p.1 + j < L.length) : (part L p)[j] = L[p.1 + j] := by simp [part]
theorem part_vers {B : Nat} {W : World} {a : Option Addr} {fb fo cap : Nat} {L : List Ver} (ha : 0 < L.length → a = some ⟨fb, fo, none⟩ ∧ fb < B) (hc : ∀ j (h : j < L.length), At W fb (fo + j * 4) L[j]) (p : Nat × Nat) (h1 : 1 ≤ p.2) (h : p.1 + p.2 ≤ L.length) : Vers B W (slc fb fo cap p) (part L p) := by
  have hl : (part L p).length = p.2 := by unfold part; simp; omega
  refine ⟨_, _, fb, fo + p.1 * 4, by rw [hl]; rfl, fun _ => ⟨rfl, (ha (by omega)).2⟩, fun j hj => ?_⟩
  rw [hl] at hj
  have := hc (p.1 + j) (by omega)
  rw [show fo + (p.1 + j) * 4 = fo + p.1 * 4 + j * 4 by omega] at this
  rw [part_get _ (by omega)]
  exact this

set_option maxRecDepth 100000 in
set_option maxHeartbeats 4000000 in
theorem blocksR_any (block : Int) (a : Option Addr) (cap fb fo : Nat) (L : List Ver) (w : World) (hcap : L.length ≤ cap) (ha : 0 < L.length → a = some ⟨fb, fo, none⟩ ∧ fb < w.heap.size) (hcells : ∀ j (h : j < L.length), At w fb (fo + j * 4) L[j])
    (hm : ∀ x ∈ L, mayB x = true) (hL : L.length ≤ 1048576) (hc2 : cap ≤ 9223372036854775807) :
    Calls Try.prog 36 #[.int .i64 block, .slice a L.length cap] w fun e w' => ∃ v, e = .returned v ∧ w'.ownsRow w.heap.size 31 1 v (cuts block L).length ((cuts block L).map (slc fb fo cap)) ∧ Below w.heap.size w w' := by
  obtain ⟨i0, hi0, hz0, hz1, hz2⟩ := info_parts info_vers
  have HC := Lib.hid hcells
  have HM := Lib.hid hm
  clear hcells hm
  go_enter Try.func36, Try.ntmps36
  go_wp2_with fail
  go_loopw [5, 6, 7] (fun o f i wr => ∃ q : Nat, q ≤ L.length ∧ i = .int .i64 (q : Int) ∧ f = .int .i64 ((cutN block L q).2 : Nat) ∧ wr.ownsRow w.heap.size 31 1 o (cutN block L q).1.length ((cutN block L q).1.map (slc fb fo cap)) ∧ Below w.heap.size w wr) (fun _ _ i _ => L.length - (intOf i).toNat)
  case atStart => exact ⟨0, Nat.zero_le _, rfl, rfl, World.ownsRow_nil _ _ _ _, Below.refl _ _⟩
  case round =>
    obtain ⟨q, hq, rfl, rfl, hown, hB⟩ := hrel
    have hbs := hB.size
    by_cases hlt : q < L.length
    · obtain ⟨rfl, hfb⟩ := ha (by omega)
      obtain ⟨c1, c2, c3⟩ := cutN_in block L q
      have hsucc := cutN_succ block L q
      have hcst : cutStep block L (cutN block L q) q = if block ≤ ((blk ((L.drop (cutN block L q).2).take (q + 1 - (cutN block L q).2))).length : Int) ∨ q + 1 = L.length then ((cutN block L q).1 ++ [((cutN block L q).2, q + 1 - (cutN block L q).2)], q + 1) else cutN block L q := rfl
      generalize cutN block L q = st at *
      obtain ⟨ps, fr⟩ := st
      simp only at *
      have hpl : (part L (fr, q + 1 - fr)).length ≤ 1048576 := by have := part_len L (fr, q + 1 - fr); simp only at this; omega
      have HB := Lib.hid (fun W (hb : Below w.heap.size w W) => bytesR_any (slc fb fo cap (fr, q + 1 - fr)) (part L (fr, q + 1 - fr)) W
        (part_vers (a := some ⟨fb, fo, none⟩) (fun _ => ⟨rfl, Nat.lt_of_lt_of_le hfb hb.size⟩) (fun j hj => (HC.out j hj).below hb hfb) (fr, q + 1 - fr) (by simp only; omega) (by simp only; omega))
        (fun x hx => HM.out x (part_mem hx)) hpl)
      have hbl := blk_len (L := part L (fr, q + 1 - fr)) (fun x hx => (may_seq (HM.out x (part_mem hx))).2.2.2.2.1)
      rw [show blk ((L.drop fr).take (q + 1 - fr)) = blk (part L (fr, q + 1 - fr)) from rfl] at hcst
      generalize blk (part L (fr, q + 1 - fr)) = bb at *
      unfold slc at HB
      simp only at HB
      have hi1 : (0 : Int) ≤ (fr : Int) ∧ (fr : Int) ≤ (q : Int) + 1 := by omega
      have hi2 : (q : Int) + 1 ≤ (cap : Int) := by omega
      have hi3 : ((q : Int) + 1).toNat = q + 1 := by omega
      have hi4 : ((q : Int) + 1 - (fr : Int)).toNat = q + 1 - fr := by omega
      by_cases hd : block ≤ (bb.length : Int)
      · have hcc : block ≤ (bb.length : Int) ∨ q + 1 = L.length := .inl hd
        rw [if_pos hcc] at hcst
        have hdd : decide (block ≤ (bb.length : Int)) = true := by simpa using hd
        have HS := Lib.hid (hsucc.trans hcst)
        clear hsucc hcst hcc
        go_wp2_with (first
          | (go_at_call 29; (with_reducible refine (HB.out _ hB).mono ?_); rintro e w1 ⟨rfl, hb1⟩; have hown1 := own_after hown hb1; have hB1 := hB.trans (hb1.mono hbs); have hz9 := hB1.size)
          | (at_builtin; refine wpList_append_own _ rfl _ _ 63 rfl w.heap.size 31 i0 (.slice none 0 0) 1 24 Try.underlying63 hi0 hz0 hz1 hz2 rfl (by decide) _ _ _ rfl (hown1.alloc _) ⟨w1.heap.size, 0, none⟩ 1 1 [_] rfl rfl (cell_one_new _ _ _) (by simp [Value.oneCell']) (by unfold maxLen; omega) (by omega) (by simp; omega) ?_; intro v' w2 hown2 hgrow _))
        go_roundw
        case rel => exact ⟨q + 1, by omega, by go_num, by rw [HS.out]; show _ = Value.int .i64 ((q + 1 : Nat) : Int); go_num, by rw [HS.out]; simpa [List.length_append, slc] using hown2, (hB1.alloc hB1.size _).grown hgrow (by simp; omega) (fun j hj => (Ob.row_lt hown1 hj).1)⟩
        case measure => simp [intOf]; omega
      have hdd : decide (block ≤ (bb.length : Int)) = false := by simpa using hd
      by_cases he : q + 1 = L.length
      · have hcc : block ≤ (bb.length : Int) ∨ q + 1 = L.length := .inr he
        rw [if_pos hcc] at hcst
        have hee : ((q : Int) + 1 == (L.length : Int)) = true := by simp; omega
        clear he
        have HS := Lib.hid (hsucc.trans hcst)
        clear hsucc hcst hcc
        go_wp2_with (first
          | (go_at_call 29; (with_reducible refine (HB.out _ hB).mono ?_); rintro e w1 ⟨rfl, hb1⟩; have hown1 := own_after hown hb1; have hB1 := hB.trans (hb1.mono hbs); have hz9 := hB1.size)
          | (at_builtin; refine wpList_append_own _ rfl _ _ 63 rfl w.heap.size 31 i0 (.slice none 0 0) 1 24 Try.underlying63 hi0 hz0 hz1 hz2 rfl (by decide) _ _ _ rfl (hown1.alloc _) ⟨w1.heap.size, 0, none⟩ 1 1 [_] rfl rfl (cell_one_new _ _ _) (by simp [Value.oneCell']) (by unfold maxLen; omega) (by omega) (by simp; omega) ?_; intro v' w2 hown2 hgrow _))
        go_roundw
        case rel => exact ⟨q + 1, by omega, by go_num, by rw [HS.out]; show _ = Value.int .i64 ((q + 1 : Nat) : Int); go_num, by rw [HS.out]; simpa [List.length_append, slc] using hown2, (hB1.alloc hB1.size _).grown hgrow (by simp; omega) (fun j hj => (Ob.row_lt hown1 hj).1)⟩
        case measure => simp [intOf]; omega
      · have hcc : ¬ (block ≤ (bb.length : Int) ∨ q + 1 = L.length) := fun h => h.elim hd he
        rw [if_neg hcc] at hcst
        have hee : ((q : Int) + 1 == (L.length : Int)) = false := by simp; omega
        have HS := Lib.hid (hsucc.trans hcst)
        clear hsucc hcst hcc
        go_wp2_with (first
          | (go_at_call 29; (with_reducible refine (HB.out _ hB).mono ?_); rintro e w1 ⟨rfl, hb1⟩; have hown1 := own_after hown hb1; have hB1 := hB.trans (hb1.mono hbs); have hz9 := hB1.size)
          | (at_builtin; refine wpList_append_own _ rfl _ _ 63 rfl w.heap.size 31 i0 (.slice none 0 0) 1 24 Try.underlying63 hi0 hz0 hz1 hz2 rfl (by decide) _ _ _ rfl (hown1.alloc _) ⟨w1.heap.size, 0, none⟩ 1 1 [_] rfl rfl (cell_one_new _ _ _) (by simp [Value.oneCell']) (by unfold maxLen; omega) (by omega) (by simp; omega) ?_; intro v' w2 hown2 hgrow _))
        go_roundw
        case rel => exact ⟨q + 1, by omega, by go_num, by rw [HS.out], by rw [HS.out]; exact hown1, hB1⟩
        case measure => simp [intOf]; omega
    · obtain rfl : q = L.length := by omega
      have HCU := Lib.hid (show cutN block L L.length = cutN block L L.length from rfl)
      go_wp2_with fail
      go_ret
      exact ⟨_, rfl, hown, hB⟩

set_option maxRecDepth 100000 in
set_option maxHeartbeats 1000000 in
theorem putR8_any (c : UInt8) (l : List UInt8) (w : World) (hs : l.length ≤ 140737488351232) :
    Calls Try.prog 38 #[.int .u8 (c.toNat : Int), .string (Cd.bs l)] w fun e w' => e = .returned (.string (Cd.bs (Fr.put c l).1)) ∧ Below w.heap.size w w' := by
  have HP := Lib.hid (fun W => framePutr_any (c.toNat : Int) c rfl l W hs)
  generalize (Fr.put c l).1 = a at *
  generalize (Fr.put c l).2 = b at *
  go_enter Try.func38, Try.ntmps38
  go_wp2_with (go_at_call 57; (with_reducible refine (HP.out _).mono ?_); rintro e w1 ⟨rfl, hb1⟩)
  go_ret
  exact ⟨rfl, hb1⟩

def sc8 (l : List (List UInt8)) : List Value := l.map fun d => .string (Cd.bs d)
theorem info_str8 : (Try.prog.info? 9).map (fun i => (i.zero, i.size, i.bytes)) = some (some (.string ⟨#[]⟩), 1, 16) := by kernel_rfl

set_option maxRecDepth 100000 in
set_option maxHeartbeats 4000000 in
theorem keysR_any (v : Value) (L : List Ver) (w : World) (hV : Vers w.heap.size w v L) (hL : L.length ≤ 1048576) :
    Calls Try.prog 41 #[v] w fun e w' => ∃ u, e = .returned u ∧ w'.ownsRow w.heap.size 9 1 u (keyL L).length (sc8 (keyL L)) ∧ Below w.heap.size w w' := by
  obtain ⟨i0, hi0, hz0, hz1, hz2⟩ := info_parts info_str8
  obtain ⟨a, cap, fb, fo, rfl, ha, hcells⟩ := hV
  have HC := Lib.hid hcells
  clear hcells
  go_enter Try.func41, Try.ntmps41
  go_wp2_with fail
  go_loopw [3, 4] (fun o i wr => ∃ q : Nat, q ≤ L.length ∧ i = .int .i64 (q : Int) ∧ wr.ownsRow w.heap.size 9 1 o (keyN L q).length (sc8 (keyN L q)) ∧ Below w.heap.size w wr) (fun _ i _ => L.length - (intOf i).toNat)
  case atStart => exact ⟨0, Nat.zero_le _, rfl, World.ownsRow_nil _ _ _ _, Below.refl _ _⟩
  case round =>
    obtain ⟨q, hq, rfl, hown, hB⟩ := hrel
    have hbs := hB.size
    have hnl := keyN_len L q
    by_cases hlt : q < L.length
    · obtain ⟨rfl, hfb⟩ := ha (by omega)
      obtain ⟨e0, _, _, _⟩ := (HC.out q hlt).below hB hfb
      have hsucc := keyN_succ L q
      have hi1 : (0 : Int) ≤ (q : Int) ∧ (q : Int) < (L.length : Int) := by omega
      rw [getD_at hlt] at hsucc
      generalize keyN L q = ks at *
      by_cases h0 : q = 0
      · have hb0 : ((q : Int) == 0) = true := by simp; omega
        rw [if_pos (.inl h0)] at hsucc
        have HS := Lib.hid hsucc
        clear hsucc h0
        generalize L[q].key = x at *
        go_wp2_with fail
        go_big_quiet (fail)
        have hownq := Sq.row_kept hown (Sq.Kept.drewN (fun _ => True) wr nq) (fun _ _ => trivial)
        have hBq : Below w.heap.size w (wr.drewN nq) := belowN hB _
        have eq0 : (wr.drewN nq).cell? ⟨fb, fo + q * 4, none⟩ = some (.string (Cd.bs x)) := e0
        generalize wr.drewN nq = wq at *
        have hqs := hBq.size
        clear hown hB hbs e0
        go_wp2_with (at_builtin; refine wpList_append_own _ rfl _ _ 56 rfl w.heap.size 9 i0 (.string ⟨#[]⟩) 1 16 Try.underlying56 hi0 hz0 hz1 hz2 rfl (by decide) _ _ _ rfl (hownq.alloc _) ⟨wq.heap.size, 0, none⟩ 1 1 [_] rfl rfl (cell_one_new _ _ _) (by simp [Value.oneCell']) (by unfold maxLen; omega) (by omega) (by simp; omega) ?_; intro v' w2 hown2 hgrow _)
        go_roundw
        case rel => exact ⟨q + 1, by omega, by go_num, by rw [HS.out]; simpa [List.length_append, sc8] using hown2, (hBq.alloc hqs _).grown hgrow (by simp; omega) (fun j hj => (Ob.row_lt hownq hj).1)⟩
        case measure => simp [intOf]; omega
      · have hb0 : ((q : Int) == 0) = false := by simp; omega
        have hlt0 : q - 1 < L.length := by omega
        obtain ⟨d0, _, _, _⟩ := (HC.out (q - 1) hlt0).below hB hfb
        have hi2 : IntKind.i64.wrap ((q : Int) - 1) = (q : Int) - 1 := by rw [IntKind.wrap_i64]; omega
        have hi3 : (0 : Int) ≤ (q : Int) - 1 ∧ (q : Int) - 1 < (L.length : Int) := by omega
        have hi4 : ((q : Int) - 1).toNat = q - 1 := by omega
        rw [getD_at hlt0] at hsucc
        generalize L[q].key = x at *
        generalize L[q - 1].key = y at *
        by_cases hxy : x = y
        · rw [if_neg (by simp [h0, hxy])] at hsucc
          have HS := Lib.hid hsucc
          have hne : (x == y) = true := by simp [hxy]
          clear hsucc hxy
          go_wp2_with fail
          go_big_quiet (fail)
          have hownq := Sq.row_kept hown (Sq.Kept.drewN (fun _ => True) wr nq) (fun _ _ => trivial)
          have hBq : Below w.heap.size w (wr.drewN nq) := belowN hB _
          have eq0 : (wr.drewN nq).cell? ⟨fb, fo + q * 4, none⟩ = some (.string (Cd.bs x)) := e0
          generalize wr.drewN nq = wq at *
          have hqs := hBq.size
          clear hown hB hbs e0
          go_wp2_with fail
          go_roundw
          case rel => exact ⟨q + 1, by omega, by go_num, by rw [HS.out, List.append_nil]; exact hownq, hBq⟩
          case measure => simp [intOf]; omega
        · rw [if_pos (.inr hxy)] at hsucc
          have HS := Lib.hid hsucc
          have hne : (x == y) = false := by simpa using hxy
          clear hsucc hxy
          go_wp2_with fail
          go_big_quiet (fail)
          have hownq := Sq.row_kept hown (Sq.Kept.drewN (fun _ => True) wr nq) (fun _ _ => trivial)
          have hBq : Below w.heap.size w (wr.drewN nq) := belowN hB _
          have eq0 : (wr.drewN nq).cell? ⟨fb, fo + q * 4, none⟩ = some (.string (Cd.bs x)) := e0
          generalize wr.drewN nq = wq at *
          have hqs := hBq.size
          clear hown hB hbs e0
          go_wp2_with (at_builtin; refine wpList_append_own _ rfl _ _ 56 rfl w.heap.size 9 i0 (.string ⟨#[]⟩) 1 16 Try.underlying56 hi0 hz0 hz1 hz2 rfl (by decide) _ _ _ rfl (hownq.alloc _) ⟨wq.heap.size, 0, none⟩ 1 1 [_] rfl rfl (cell_one_new _ _ _) (by simp [Value.oneCell']) (by unfold maxLen; omega) (by omega) (by simp; omega) ?_; intro v' w2 hown2 hgrow _)
          go_roundw
          case rel => exact ⟨q + 1, by omega, by go_num, by rw [HS.out]; simpa [List.length_append, sc8] using hown2, (hBq.alloc hqs _).grown hgrow (by simp; omega) (fun j hj => (Ob.row_lt hownq hj).1)⟩
          case measure => simp [intOf]; omega
    · obtain rfl : q = L.length := by omega
      go_wp2_with fail
      go_ret
      exact ⟨_, rfl, hown, hB⟩
end Tb
end Go.Proofs.Ytiijkneomecmiaa

/-
  What the library's functions answer at this dump: the library's contracts, one application each.
-/
namespace Go.Proofs
open Go.Shelf
def Try.lays169_ren : Go.Shelf.Ren := ⟨fun | 169 => 53 | n => n, fun | 70 => 77 | 9 => 9 | 0 => 0 | 72 => 79 | 37 => 48 | 127 => 104 | 3 => 3 | 5 => 5 | n => n, fun | n => n⟩
theorem Try.lays169 : Go.Proofs.Lays.n169 Try.prog Try.lays169_ren := {
  mixed := by kernel_rfl
  f169 := Try.func53.trans (congrArg some (by kernel_rfl))
  t0 := Try.underlying0
  a0 := Try.isAgg0
  z0 := Try.sizeOf0
  v0 := Try.zeroValue0
  t3 := Try.underlying3
  a3 := Try.isAgg3
  z3 := Try.sizeOf3
  v3 := Try.zeroValue3
  t9 := Try.underlying9
  a9 := Try.isAgg9
  z9 := Try.sizeOf9
  v9 := Try.zeroValue9
  t37 := Try.underlying48
  a37 := Try.isAgg48
  z37 := Try.sizeOf48
  v37 := Try.zeroValue48
  t70 := Try.underlying77
  a70 := Try.isAgg77
  z70 := Try.sizeOf77
  v70 := Try.zeroValue77
  t72 := Try.underlying79
  a72 := Try.isAgg79
  z72 := Try.sizeOf79
  v72 := Try.zeroValue79
  t127 := Try.underlying104
  a127 := Try.isAgg104
  z127 := Try.sizeOf104
  v127 := Try.zeroValue104 }
theorem Try.Builder_Extra_169 : Builder.Extra Try.prog Try.lays169_ren := {
  sizeBuilder := by kernel_rfl
  liesBuilder := by kernel_rfl
  t5 := Try.underlying5
  a5 := Try.isAgg5
  z5 := Try.sizeOf5
  v5 := Try.zeroValue5
  infoByte := by kernel_rfl
  cellsByte := by kernel_rfl
  sizeByte := by kernel_rfl
  neB5 := by decide }
open Go.RowKit in
theorem Try.Builder_String_any_k (B b : Nat) (l : List UInt8) (w : World) (h : Lib.IsBuilderF 79 5 B b (Lib.byteCells l) w) (hBw : B ≤ w.heap.size) :
    Calls Try.prog 53 #[.pointer (some ⟨b, 0, none⟩)] w fun e w' => e = .returned (.string ⟨l.toArray⟩) ∧ (Lib.IsBuilderF 79 5 B b (Lib.byteCells l) w' ∧ Below B w w' ∧ Lib.OthersKept 5 (some b) w w') := Any.Builder_String_any_k Try.lays169 Try.Builder_Extra_169 B b l w h hBw
def Try.lays194_ren : Go.Shelf.Ren := ⟨fun | 194 => 55 | n => n, fun | 31 => 56 | 9 => 9 | 3 => 3 | 4 => 4 | 0 => 0 | n => n, fun | n => n⟩
theorem Try.lays194 : Go.Proofs.Lays.n194 Try.prog Try.lays194_ren := {
  mixed := by kernel_rfl
  f194 := Try.func55.trans (congrArg some (by kernel_rfl))
  t0 := Try.underlying0
  a0 := Try.isAgg0
  z0 := Try.sizeOf0
  v0 := Try.zeroValue0
  t3 := Try.underlying3
  a3 := Try.isAgg3
  z3 := Try.sizeOf3
  v3 := Try.zeroValue3
  t4 := Try.underlying4
  a4 := Try.isAgg4
  z4 := Try.sizeOf4
  v4 := Try.zeroValue4
  t9 := Try.underlying9
  a9 := Try.isAgg9
  z9 := Try.sizeOf9
  v9 := Try.zeroValue9
  t31 := Try.underlying56
  a31 := Try.isAgg56
  z31 := Try.sizeOf56
  v31 := Try.zeroValue56 }
open Go.RowKit Go.Lib Go.Sort in
theorem Try.slices_Compact_string (blk off cap : Nat) (zs : List (List UInt8)) (w : World) (hH : Holds encStr w blk off zs.toArray) (hsz : zs.length ≤ 9223372036854775807) (hcap : zs.length ≤ cap) :
    Calls Try.prog 55 #[.slice (some ⟨blk, off, none⟩) zs.length cap] w fun e w' => e = .returned (.slice (some ⟨blk, off, none⟩) (Lib.compact zs).length cap) ∧ ∃ q, w' = putRow encStr (Sort.ahead w q) blk off (Lib.compact zs ++ List.replicate (zs.length - (Lib.compact zs).length) []).toArray := Any.slices_Compact_string Try.lays194 blk off cap zs w hH hsz hcap
open Go.RowKit Go.Lib Go.Sort in
theorem Try.slices_Compact_string_empty (a : Option Addr) (cap : Nat) (w : World) :
    Calls Try.prog 55 #[.slice a 0 cap] w fun e w' => e = .returned (.slice a 0 cap) ∧ w' = w := Any.slices_Compact_string_empty Try.lays194 a cap w
end Go.Proofs

namespace Go.Proofs.Ytiijkneomecmiaa
open Go.RowKit
set_option linter.unusedSimpArgs false
set_option linter.unusedVariables false

/-- a frame's answer as Go hands it back -/
abbrev frameV (r : (UInt8 × List UInt8) × Nat × Nat) : Value := .tuple #[.agg #[.int .u8 (r.1.1.toNat : Int), .string (Cd.bs r.1.2)], .int .i64 r.2.1, .int .i64 r.2.2]

end Go.Proofs.Ytiijkneomecmiaa
namespace Go.Proofs.Ytiijkneomecmiaa
open Go.RowKit
set_option linter.unusedSimpArgs false
set_option linter.unusedVariables false

/-- frames with their places, as cells -/
def atCells (out : List (Nat × (UInt8 × List UInt8))) : List Value := (out.map fun x => [Value.int .i64 x.1, .int .u8 x.2.1.toNat, .string (Cd.bs x.2.2)]).flatten
theorem atCells_snoc (out : List (Nat × (UInt8 × List UInt8))) (x : Nat × (UInt8 × List UInt8)) : atCells (out ++ [x]) = atCells out ++ [.int .i64 x.1, .int .u8 x.2.1.toNat, .string (Cd.bs x.2.2)] := by simp [atCells]
theorem cell_three_new (w : World) (a b c : Value) (t : TypeId) : ∀ j u, [a, b, c][j]? = some u → (w.alloc (.cells #[a, b, c] t)).cell? ((⟨w.heap.size, 0, none⟩ : Addr).add j) = some u := by
  intro j u hj
  match j, hj with
  | 0, hj => simp at hj; subst hj; simp [Addr.add]
  | 1, hj => simp at hj; subst hj; simp [Addr.add]
  | 2, hj => simp at hj; subst hj; simp [Addr.add]
  | (j + 3), hj => simp at hj

/-- what is owned stays owned behind whatever keeps the blocks that there are -/
theorem own_below {W w : World} {base : Nat} {e : TypeId} {size : Nat} {v : Value} {n : Nat} {xs : List Value} (h : W.ownsRow base e size v n xs) (hb : Below W.heap.size W w) : w.ownsRow base e size v n xs := by
  refine ⟨h.1, ?_⟩
  rcases h.2 with h | ⟨g, cap, cur, h1, h2, h3, h4⟩
  · exact .inl h
  · exact .inr ⟨g, cap, cur, h1, h2, (hb.block g (Array.getElem?_eq_some_iff.1 h3).1).trans h3, h4⟩

end Go.Proofs.Ytiijkneomecmiaa
/-
  Plain mathematics of P2.5: what was put is taken; no beginning of it is a frame; one byte turned is seen; frames one behind the other.
-/
namespace Go.Proofs.Ytiijkneomecmiaa
namespace Fr
open Go.RowKit

/-! what was put is taken -/
theorem takeT_putT' (s r : List UInt8) (m : Int) (h : s.length < 18446744073709551616) (hm : s.length ≤ m.toNat) : Cd.takeT (Cd.putT s ++ r) m = (s, (Cd.putT s).length, 0) := by
  have hu := Cd.takeU_putU s.length (s ++ r) h
  have e : Cd.putT s ++ r = Cd.putU s.length ++ (s ++ r) := by rw [Cd.putT, List.append_assoc]
  rw [e, Cd.takeT_text hu hm (by simp)]
  simp [Cd.putT]
theorem lit4 (n : Nat) (x : List UInt8) : (lit n ++ x).take 4 = lit n := by rw [List.take_left' (lit_len n)]
theorem lit4d (n : Nat) (x : List UInt8) : (lit n ++ x).drop 4 = x := by rw [List.drop_left' (lit_len n)]
theorem lit5d (n : Nat) (c : UInt8) (x : List UInt8) : (lit n ++ c :: x).drop 5 = x := by
  have : (lit n ++ c :: x).drop 5 = ((lit n ++ c :: x).drop 4).drop 1 := by rw [List.drop_drop]
  rw [this, lit4d]; rfl
theorem lit4g (n : Nat) (c : UInt8) (x : List UInt8) : (lit n ++ c :: x).getD 4 0 = c := by
  rw [List.getD_eq_getElem?_getD, List.getElem?_append_right (by rw [lit_len]; omega), lit_len]; rfl
theorem litlen (n : Nat) (c : UInt8) (x : List UInt8) : (lit n ++ c :: x).length = 5 + x.length := by rw [List.length_append, lit_len, List.length_cons]; omega
/-- whatever stands in the sum's place: the frame is there just where the sum is the right one -/
theorem take_form {n : Nat} {c : UInt8} {l r : List UInt8} (hc : ¬ c.toNat = 0) (hl : l.length ≤ 262144) :
    take (lit n ++ c :: (Cd.putT l ++ r)) = if lit (sum (c :: Cd.putT l)) = lit n then ((c, l), 5 + (Cd.putT l).length, 0) else ((0, []), 0, 3) := by
  have ht := takeT_putT' l r 262144 (by omega) (by simpa using hl)
  have h5 : 5 ≤ (lit n ++ c :: (Cd.putT l ++ r)).length := by rw [litlen]; omega
  have h0 : ¬ ((lit n ++ c :: (Cd.putT l ++ r)).getD 4 0).toNat = 0 := by rw [lit4g]; exact hc
  have hr : ((lit n ++ c :: (Cd.putT l ++ r)).drop 4).take ((Cd.putT l).length + 1) = c :: Cd.putT l := by rw [lit4d, List.take_succ_cons, List.take_left' rfl]
  by_cases hs : lit (sum (c :: Cd.putT l)) = lit n
  · rw [take_ok (t := l) (n := (Cd.putT l).length) h5 h0 (by rw [lit5d]; exact ht) (by rw [hr, lit4]; exact hs), if_pos hs, lit4g]
  · rw [take_bad (t := l) (n := (Cd.putT l).length) h5 h0 (by rw [lit5d]; exact ht) (by rw [hr, lit4]; exact hs), if_neg hs]
theorem take_put {c : UInt8} {l r : List UInt8} (hc : ¬ c.toNat = 0) (hl : l.length ≤ 262144) :
    take ((put c l).1 ++ r) = ((c, l), (put c l).1.length, 0) := by
  have e : (lit (sum (c :: Cd.putT l)) ++ c :: Cd.putT l) ++ r = lit (sum (c :: Cd.putT l)) ++ c :: (Cd.putT l ++ r) := by simp
  rw [put_ok hc hl]
  show take ((lit (sum (c :: Cd.putT l)) ++ c :: Cd.putT l) ++ r) = _
  rw [e, take_form hc hl, if_pos rfl]
  show _ = ((c, l), (lit (sum (c :: Cd.putT l)) ++ c :: Cd.putT l).length, 0)
  rw [litlen]

/-! no beginning is a frame -/
theorem takeGo_cut (m : Nat) : ∀ (i acc k : Nat), i ≤ 9 → m * 128 ^ i < 18446744073709551616 → (0 < i → 1 ≤ m) → k < (Cd.putU m).length → Cd.takeGo ((Cd.putU m).take k) i acc = (0, 0, 2) := by
  induction m using Nat.strongRecOn with
  | ind m ih =>
    intro i acc k hi hm h1 hk
    cases k with
    | zero => simp [Cd.takeGo]
    | succ k =>
      have h9 : (128 : Nat) ^ 9 = 9223372036854775808 := by decide
      by_cases h : m < 128
      · rw [Cd.putU_last h] at hk; simp at hk
      · have e := Cd.ofNat_low (m := m % 128 + 128) (by omega)
        have hi8 : i ≠ 9 := by
          rintro rfl
          have : 128 * 128 ^ 9 ≤ m * 128 ^ 9 := Nat.mul_le_mul_right _ (by omega)
          omega
        rw [Cd.putU_more (by omega), List.length_cons] at hk
        rw [Cd.putU_more (by omega), List.take_succ_cons, Cd.go_more (by rw [e]; omega) (by rw [e]; omega)]
        have hs := Cd.put_step (m := m) (k := i) (Nat.le_refl _)
        exact ih (m / 128) (by omega) (i + 1) _ k (by omega) (by omega) (by omega) (by omega)
theorem takeU_cut (m k : Nat) (h : m < 18446744073709551616) (hk : k < (Cd.putU m).length) : Cd.takeU ((Cd.putU m).take k) = (0, 0, 2) :=
  takeGo_cut m 0 0 k (by omega) (by simpa using h) (by omega) hk
theorem takeT_cut (l : List UInt8) (k : Nat) (hl : l.length ≤ 262144) (hk : k < (Cd.putT l).length) : Cd.takeT ((Cd.putT l).take k) 262144 = ([], 0, 2) := by
  unfold Cd.putT at hk ⊢
  rw [List.length_append] at hk
  by_cases h : k < (Cd.putU l.length).length
  · rw [List.take_append_of_le_length (by omega)]
    exact Cd.takeT_err (takeU_cut _ _ (by omega) h) (by omega)
  · rw [List.take_append, List.take_of_length_le (by omega)]
    have hu := Cd.takeU_putU l.length (l.take (k - (Cd.putU l.length).length)) (by omega)
    exact Cd.takeT_more hu (by simpa using hl) (by rw [List.length_append, List.length_take]; omega)
theorem take_cut {c : UInt8} {l : List UInt8} (hc : ¬ c.toNat = 0) (hl : l.length ≤ 262144) (k : Nat) (hk : k < (put c l).1.length) : (take ((put c l).1.take k)).2.2 = 2 := by
  rw [put_ok hc hl] at hk ⊢
  simp only at hk ⊢
  rw [litlen] at hk
  by_cases h5 : k < 5
  · rw [take_few (by rw [List.length_take]; omega)]
  · have e : (lit (sum (c :: Cd.putT l)) ++ c :: Cd.putT l).take k = lit (sum (c :: Cd.putT l)) ++ c :: (Cd.putT l).take (k - 5) := by
      rw [List.take_append, List.take_of_length_le (by rw [lit_len]; omega), lit_len, show k - 4 = (k - 5) + 1 from by omega, List.take_succ_cons]
    rw [e, take_err (t := []) (n := 0) (e := 2) (by rw [litlen]; omega) (by rw [lit4g]; exact hc) (by rw [lit5d]; exact takeT_cut l (k - 5) hl (by omega)) (by omega)]

/-! one byte turned is seen -/
theorem xor_cancel {a b p : Nat} (h : a ^^^ p = b ^^^ p) : a = b := by
  have h2 := congrArg (· ^^^ p) h
  simpa [Nat.xor_assoc] using h2
theorem xor_cancel_l {a b p : Nat} (h : p ^^^ a = p ^^^ b) : a = b := xor_cancel (p := p) (by rw [Nat.xor_comm a p, Nat.xor_comm b p]; exact h)
theorem step_mixed {a b : Nat} (ha : a < 4294967296) (hb : b < 4294967296) (h : a / 2 ^^^ 3988292384 = b / 2) : False := by
  have h2 : 3988292384 = a / 2 ^^^ b / 2 := by rw [← h, ← Nat.xor_assoc, Nat.xor_self, Nat.zero_xor]
  have h3 : a / 2 ^^^ b / 2 < 2 ^ 31 := Nat.xor_lt_two_pow (by omega) (by omega)
  omega
theorem step_inj {a b : Nat} (ha : a < 4294967296) (hb : b < 4294967296) (h : step a = step b) : a = b := by
  by_cases oa : a % 2 = 1
  · by_cases ob : b % 2 = 1
    · rw [step_odd oa, step_odd ob] at h
      have := xor_cancel h; omega
    · rw [step_odd oa, step_even ob] at h
      exact (step_mixed ha hb h).elim
  · by_cases ob : b % 2 = 1
    · rw [step_even oa, step_odd ob] at h
      exact (step_mixed hb ha h.symm).elim
    · rw [step_even oa, step_even ob] at h; omega
theorem steps_inj {a b : Nat} (ha : a < 4294967296) (hb : b < 4294967296) : ∀ k, steps k a = steps k b → a = b
  | 0, h => h
  | k + 1, h => steps_inj ha hb k (step_inj (steps_lt ha k) (steps_lt hb k) h)
theorem byte_inj {a b : Nat} (ha : a < 4294967296) (hb : b < 4294967296) (c : UInt8) (h : byte a c = byte b c) : a = b := by
  have hc := c.toNat_lt
  exact xor_cancel (steps_inj (xor_lt32 ha (by omega)) (xor_lt32 hb (by omega)) 8 h)
theorem byte_inj_c {a : Nat} (ha : a < 4294967296) {c d : UInt8} (h : byte a c = byte a d) : c = d := by
  have hc := c.toNat_lt
  have hd := d.toNat_lt
  exact UInt8.toNat_inj.1 (xor_cancel_l (steps_inj (xor_lt32 ha (by omega)) (xor_lt32 ha (by omega)) 8 h))
theorem run_inj (l : List UInt8) : ∀ {a b : Nat}, a < 4294967296 → b < 4294967296 → run a l = run b l → a = b := by
  induction l with
  | nil => intro a b _ _ h; exact h
  | cons c l ih => intro a b ha hb h; exact byte_inj ha hb c (ih (byte_lt ha c) (byte_lt hb c) h)
theorem sum_turned {a b : List UInt8} {c d : UInt8} (h : c ≠ d) : sum (a ++ c :: b) ≠ sum (a ++ d :: b) := by
  intro e
  unfold sum at e
  have e2 := xor_cancel_l e
  rw [run_app, run_app] at e2
  have hr := run_lt a (n := 4294967295) (by omega)
  exact h (byte_inj_c hr (run_inj b (byte_lt hr c) (byte_lt hr d) e2))

/-- whatever four bytes stand in the sum's place -/
theorem take_form4 {h : List UInt8} {c : UInt8} {l r : List UInt8} (hh : h.length = 4) (hc : ¬ c.toNat = 0) (hl : l.length ≤ 262144) :
    take (h ++ c :: (Cd.putT l ++ r)) = if lit (sum (c :: Cd.putT l)) = h then ((c, l), 5 + (Cd.putT l).length, 0) else ((0, []), 0, 3) := by
  have ht := takeT_putT' l r 262144 (by omega) (by simpa using hl)
  have hlen : (h ++ c :: (Cd.putT l ++ r)).length = 5 + (Cd.putT l ++ r).length := by rw [List.length_append, hh, List.length_cons]; omega
  have h4 : (h ++ c :: (Cd.putT l ++ r)).take 4 = h := List.take_left' hh
  have h4d : (h ++ c :: (Cd.putT l ++ r)).drop 4 = c :: (Cd.putT l ++ r) := List.drop_left' hh
  have h5d : (h ++ c :: (Cd.putT l ++ r)).drop 5 = Cd.putT l ++ r := by
    have : (h ++ c :: (Cd.putT l ++ r)).drop 5 = ((h ++ c :: (Cd.putT l ++ r)).drop 4).drop 1 := by rw [List.drop_drop]
    rw [this, h4d]; rfl
  have hg : (h ++ c :: (Cd.putT l ++ r)).getD 4 0 = c := by
    rw [List.getD_eq_getElem?_getD, List.getElem?_append_right (by omega), hh]; rfl
  have h5 : 5 ≤ (h ++ c :: (Cd.putT l ++ r)).length := by omega
  have h0 : ¬ ((h ++ c :: (Cd.putT l ++ r)).getD 4 0).toNat = 0 := by rw [hg]; exact hc
  have hr : ((h ++ c :: (Cd.putT l ++ r)).drop 4).take ((Cd.putT l).length + 1) = c :: Cd.putT l := by rw [h4d, List.take_succ_cons, List.take_left' rfl]
  by_cases hs : lit (sum (c :: Cd.putT l)) = h
  · rw [take_ok (t := l) (n := (Cd.putT l).length) h5 h0 (by rw [h5d]; exact ht) (by rw [hr, h4]; exact hs), if_pos hs, hg]
  · rw [take_bad (t := l) (n := (Cd.putT l).length) h5 h0 (by rw [h5d]; exact ht) (by rw [hr, h4]; exact hs), if_neg hs]
/-- a frame of which one byte, in its sum, its kind or its load, is another one is refused -/
theorem take_turned {c : UInt8} {l : List UInt8} (hc : ¬ c.toNat = 0) (hl : l.length ≤ 262144) (p : Nat) (x : UInt8) (hp : p < (put c l).1.length) (hpl : p ≤ 4 ∨ (put c l).1.length - l.length ≤ p) (hx : x ≠ (put c l).1.getD p 0) :
    (take ((put c l).1.set p x)).2.2 = 3 := by
  rw [put_ok hc hl] at hp hpl hx ⊢
  simp only at hp hpl hx ⊢
  rw [litlen] at hp hpl
  rcases Nat.lt_trichotomy p 4 with h | h | h
  · have e : (lit (sum (c :: Cd.putT l)) ++ c :: Cd.putT l).set p x = (lit (sum (c :: Cd.putT l))).set p x ++ c :: (Cd.putT l ++ []) := by
      rw [List.set_append_left _ _ (by rw [lit_len]; exact h), List.append_nil]
    rw [e, take_form4 (by rw [List.length_set, lit_len]) hc hl, if_neg]
    intro he
    apply hx
    have := congrArg (fun z => z.getD p 0) he
    simp only [List.getD_eq_getElem?_getD] at this ⊢
    rw [List.getElem?_set_self (by rw [lit_len]; exact h)] at this
    rw [List.getElem?_append_left (by rw [lit_len]; exact h), this]; rfl
  · subst h
    have e : (lit (sum (c :: Cd.putT l)) ++ c :: Cd.putT l).set 4 x = lit (sum (c :: Cd.putT l)) ++ x :: (Cd.putT l ++ []) := by
      rw [List.set_append_right _ _ (by rw [lit_len]; omega), lit_len, List.append_nil]; rfl
    rw [lit4g] at hx
    rw [e]
    by_cases h0 : x.toNat = 0
    · rw [take_zero (by rw [litlen]; omega) (by rw [lit4g]; exact h0)]
    · rw [take_form h0 hl, if_neg]
      intro he
      have := lit_inj (sum_lt _) (sum_lt _) he
      exact sum_turned (a := []) (b := Cd.putT l) hx this
  · obtain ⟨q, hq⟩ : ∃ q, q = p - 5 - (Cd.putU l.length).length := ⟨_, rfl⟩
    have hpt : (Cd.putT l).length = (Cd.putU l.length).length + l.length := by rw [Cd.putT, List.length_append]
    have hql : q < l.length := by omega
    have hpq : p = 4 + 1 + ((Cd.putU l.length).length + q) := by omega
    have hlen : (l.set q x).length = l.length := List.length_set
    have e : (lit (sum (c :: Cd.putT l)) ++ c :: Cd.putT l).set p x = lit (sum (c :: Cd.putT l)) ++ c :: (Cd.putT (l.set q x) ++ []) := by
      rw [List.set_append_right _ _ (by rw [lit_len]; omega), lit_len, show p - 4 = ((Cd.putU l.length).length + q) + 1 from by omega, List.set_cons_succ, List.append_nil]
      unfold Cd.putT
      rw [hlen, List.set_append_right _ _ (by omega), show (Cd.putU l.length).length + q - (Cd.putU l.length).length = q from by omega]
    have hg : (lit (sum (c :: Cd.putT l)) ++ c :: Cd.putT l).getD p 0 = l[q] := by
      rw [List.getD_eq_getElem?_getD, List.getElem?_append_right (by rw [lit_len]; omega), lit_len, show p - 4 = ((Cd.putU l.length).length + q) + 1 from by omega, List.getElem?_cons_succ]
      unfold Cd.putT
      rw [List.getElem?_append_right (by omega), show (Cd.putU l.length).length + q - (Cd.putU l.length).length = q from by omega, List.getElem?_eq_getElem hql]; rfl
    rw [hg] at hx
    rw [e, take_form hc (by rw [hlen]; exact hl), if_neg]
    intro he
    have hs := lit_inj (sum_lt _) (sum_lt _) he
    have e1 : l.set q x = l.take q ++ x :: l.drop (q + 1) := List.set_eq_take_append_cons_drop ▸ (by rw [if_pos hql])
    have e2 : l = l.take q ++ l[q] :: l.drop (q + 1) := by rw [← List.drop_eq_getElem_cons hql, List.take_append_drop]
    have f1 : c :: Cd.putT (l.set q x) = (c :: (Cd.putU l.length ++ l.take q)) ++ x :: l.drop (q + 1) := by unfold Cd.putT; rw [hlen, e1]; simp
    have f2 : c :: Cd.putT l = (c :: (Cd.putU l.length ++ l.take q)) ++ l[q] :: l.drop (q + 1) := by
      unfold Cd.putT
      conv => lhs; rw [e2]
      simp
    rw [f1, f2] at hs
    exact sum_turned hx hs

/-! frames one behind the other -/
theorem allGo_ge (l : List UInt8) (p : Nat) : p ≤ (allGo l p).2 := by
  by_cases h : p < l.length ∧ (take (l.drop p)).2.2 = 0 ∧ 0 < (take (l.drop p)).2.1
  · rw [allGo_more h]
    have := allGo_ge l (p + (take (l.drop p)).2.1)
    simp only; omega
  · rw [allGo_stop h]; exact Nat.le_refl _
termination_by l.length - p
theorem allGo_put {pre r : List UInt8} {c : UInt8} {l : List UInt8} (hc : ¬ c.toNat = 0) (hl : l.length ≤ 262144) :
    allGo (pre ++ ((put c l).1 ++ r)) pre.length = ((pre.length, (c, l)) :: (allGo (pre ++ ((put c l).1 ++ r)) (pre.length + (put c l).1.length)).1, (allGo (pre ++ ((put c l).1 ++ r)) (pre.length + (put c l).1.length)).2) := by
  have ht : take ((pre ++ ((put c l).1 ++ r)).drop pre.length) = ((c, l), (put c l).1.length, 0) := by rw [List.drop_left' rfl]; exact take_put hc hl
  have hp : 5 ≤ (put c l).1.length := by rw [put_ok hc hl]; simp only; rw [litlen]; omega
  have := allGo_more (l := pre ++ ((put c l).1 ++ r)) (p := pre.length) (by rw [ht]; exact ⟨by rw [List.length_append, List.length_append]; omega, rfl, by show 0 < (put c l).1.length; omega⟩)
  rw [ht] at this
  exact this
end Fr
end Go.Proofs.Ytiijkneomecmiaa

namespace Go.Proofs.Ytiijkneomecmiaa
open Go.RowKit
set_option linter.unusedSimpArgs false
set_option linter.unusedVariables false

theorem and_one {q : Nat} (h : q < 4294967296) : bits BinOp.and IntKind.u32 (q : Int) 1 = ((q % 2 : Nat) : Int) := by
  rw [show (1 : Int) = ((1 : Nat) : Int) from rfl, u32_and_nat _ _ h (by omega), Nat.and_one_is_mod]
theorem walk_oddc {n : Nat} (hn : n < 4294967296) (h : n % 2 = 1) : bits BinOp.xor IntKind.u32 ((n : Int) / 2) 3988292384 = (Fr.step n : Int) := by
  rw [← Fr.walk_odd hn h]; congr 1; omega

set_option maxRecDepth 100000 in
set_option maxHeartbeats 1000000 in
theorem sumc_same (s : ByteArray) (w : World) (hs : s.size ≤ maxLen) :
    Calls Try.prog 70 #[.string s] w fun e w' => e = .returned (.int .u32 (Fr.sum s.data.toList)) ∧ w = w' := by
  unfold maxLen at hs
  go_enter Try.func70, Try.ntmps70
  go_wp2_with fail
  go_loop [3, 8] (fun n i => ∃ k m : Nat, k ≤ s.size ∧ i = .int .i64 k ∧ n = .int .u32 m ∧ m = Fr.run 4294967295 (s.data.toList.take k)) (fun _ i => s.size - (intOf i).toNat)
  case atStart => exact ⟨0, _, Nat.zero_le _, rfl, rfl, rfl⟩
  case round =>
    obtain ⟨k, m, hk, rfl, rfl, hm⟩ := hrel
    have hlt0 : m < 4294967296 := by rw [hm]; exact Fr.run_lt _ (by omega)
    have HM := Lib.hid hm
    have HL := Lib.hid hlt0
    clear hm hlt0
    by_cases hlt : k < s.size
    · have hx := Fr.walk_in HL.out s[k]
      have hw := Fr.wrap32_byte s[k]
      have HT := Lib.hid (Cd.take_s s k hlt)
      go_wp2_with fail
      clear hw
      go_loop [3, 17] (fun n j => ∃ i q : Nat, i ≤ 8 ∧ j = .int .i64 i ∧ n = .int .u32 q ∧ q = Fr.steps i (m ^^^ s[k].toNat)) (fun _ j => 8 - (intOf j).toNat)
      case atStart => exact ⟨0, _, Nat.zero_le _, rfl, by first | rfl | rw [hx], rfl⟩
      case round =>
        obtain ⟨i, q, hi, rfl, rfl, hq⟩ := hrel
        have hlq : q < 4294967296 := by rw [hq]; exact Fr.steps_lt (Fr.xor_lt32 HL.out (by have := s[k].toNat_lt; omega)) _
        have HQ := Lib.hid hq
        have HLQ := Lib.hid hlq
        clear hq hlq hx
        by_cases h8 : i < 8
        · have hand := and_one (q := q) HLQ.out
          by_cases ho : q % 2 = 1
          · have hob : (bits BinOp.and IntKind.u32 (q : Int) 1 == 1) = true := by rw [hand]; simp; omega
            have hs1 := walk_oddc HLQ.out ho
            clear hand
            go_wp2
            go_round
            case rel => exact ⟨i + 1, Fr.step q, by omega, by go_num, by first | rfl | rw [hs1], by rw [HQ.out]; rfl⟩
            case measure => simp [intOf]; omega
          · have hob : (bits BinOp.and IntKind.u32 (q : Int) 1 == 1) = false := by rw [hand]; simp; omega
            have HO := Lib.hid ho
            clear ho hand
            go_wp2
            go_round
            case rel => exact ⟨i + 1, Fr.step q, by omega, by go_num, by rw [Fr.step_even HO.out]; simp, by rw [HQ.out]; rfl⟩
            case measure => simp [intOf]; omega
        · obtain rfl : i = 8 := by omega
          go_wp2
          go_round
          case rel => exact ⟨k + 1, q, by omega, by go_num, rfl, by rw [HT.out, Fr.run_snoc, ← HM.out]; exact HQ.out⟩
          case measure => simp [intOf]; omega
    · obtain rfl : k = s.size := by omega
      go_wp2
      go_ret
      exact ⟨by rw [Fr.sum, ← Cd.take_all s, ← HM.out, ← Fr.walk_out HL.out]; rfl, rfl⟩

theorem litByte_shr (n k : Nat) : Value.int .u8 ((n : Int) / 2 ^ (8 * k) % 256) = .int .u8 ((Fr.litByte n k).toNat : Int) := by
  congr 1; unfold Fr.litByte; rw [UInt8.toNat_ofNat', show (256 : Nat) ^ k = 2 ^ (8 * k) from by rw [Nat.pow_mul]]
  have : ((2 : Int) ^ (8 * k)) = ((2 ^ (8 * k) : Nat) : Int) := by simp
  rw [this]; omega

set_option maxRecDepth 100000 in
set_option maxHeartbeats 1000000 in
theorem putSum_any (N : Int) (n : Nat) (w : World) (hN : N = n) (h1 : n < 4294967296) :
    Calls Try.prog 69 #[.int .u32 N] w fun e w' => e = .returned (.string (Cd.bs (Fr.lit n))) ∧ Below w.heap.size w w' := by
  subst hN
  have HN := Lib.hid h1
  clear h1
  go_enter Try.func69, Try.ntmps69
  go_wp2_with fail
  go_loopw [5] (fun i wr => ∃ (k : Nat), k ≤ 4 ∧ i = .int .i64 k ∧ Row4 wr w.heap.size (Fr.litPart n k) ∧ Below w.heap.size w wr) (fun i _ => 4 - (intOf i).toNat)
  case atStart => exact ⟨0, Nat.zero_le _, rfl, Row4.new _ _ _, (Below.refl _ _).alloc (Nat.le_refl _) _⟩
  case round =>
    obtain ⟨k, hk, rfl, hr, hb⟩ := hrel
    by_cases hk4 : k < 4
    · have hc := (hr k hk4).1
      have hf := (hr k hk4).2
      have HR := Lib.hid hr
      clear hr
      go_wp2
      go_roundw
      case rel => exact ⟨k + 1, by omega, by go_num, HR.out.store hk4 (litByte_shr n k), hb.setCell (p := ⟨w.heap.size, k, none⟩) (Nat.le_refl _) _⟩
      case measure => simp [intOf]; omega
    · obtain rfl : k = 4 := by omega
      have hcv := hr.conv (c := 4) (Fr.litPart_len _ _)
      go_wp2
      go_ret
      exact ⟨by rw [Fr.litPart_done]; rfl, hb⟩
end Go.Proofs.Ytiijkneomecmiaa
