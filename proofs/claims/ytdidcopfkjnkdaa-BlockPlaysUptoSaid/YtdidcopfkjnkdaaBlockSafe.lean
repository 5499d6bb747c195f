/-
  The walk of the law BlockSafe.
-/
import Derived.Test.YtdidcopfkjnkdaaBlockSafeP
import Derived.Deep.RegionWith
import Derived.Deep.RegionWith
import Derived.Deep.RegionWith
import Derived.Deep.RegionWith
import Derived.Deep.RegionWith
import Derived.Deep.RegionWith
import Derived.Deep.RegionWith
namespace Go.Proofs.Ytdidcopfkjnkdaa
open Go.RowKit
set_option linter.unusedSimpArgs false
set_option linter.unusedVariables false
variable {DevAt : Nat → Nat → Sq.Blocks → Bl.St → World → Prop}

theorem made_str (n : Nat) : (madeCells (Value.string ⟨#[]⟩).cells (n * 1)).toList = strCells (List.replicate n []) := by
  rw [show (Value.string ⟨#[]⟩).cells = #[Value.string ⟨#[]⟩] from rfl, Nat.mul_one, toList_madeCells_one]
  unfold strCells
  rw [List.map_replicate]

/-- the acts that came in, in a row -/
structure Acts (w : World) (a : Option Addr) (b off : Nat) (L : List AAct) : Prop where
  at' : 0 < L.length → a = some ⟨b, off, none⟩ ∧ b < w.heap.size
  cells : ∀ k (h : k < L.length), w.cell? ⟨b, off + k * 4, none⟩ = some (.int .i64 L[k].kind) ∧ w.cell? ⟨b, off + k * 4 + 1, none⟩ = some (.int .i64 L[k].i) ∧ w.cell? ⟨b, off + k * 4 + 2, none⟩ = some (.int .i64 L[k].n) ∧ w.cell? ⟨b, off + k * 4 + 3, none⟩ = some L[k].kv
  ok : ∀ x ∈ L, x.Ok w
  len : L.length ≤ 1048576

theorem held_set (l : List Bl.Dat) (k : Nat) (h : l.length = 40) (hk : k < 40) : (strCells (l.take k ++ List.replicate (40 - k) [])).set k (.string (Cd.bs (l[k]'(by omega)))) = strCells (l.take (k + 1) ++ List.replicate (40 - (k + 1)) []) := by
  rw [strCells_set]
  congr 1
  apply List.ext_getElem?
  intro j
  rw [List.getElem?_set]
  by_cases hj : k = j
  · subst hj
    rw [if_pos rfl, if_pos (by simp; omega), List.getElem?_append_left (by simp; omega), List.getElem?_take, if_pos (by omega), List.getElem?_eq_getElem]
  · rw [if_neg hj]
    by_cases h1 : j < k
    · rw [List.getElem?_append_left (by simp; omega), List.getElem?_append_left (by simp; omega), List.getElem?_take, List.getElem?_take, if_pos h1, if_pos (by omega)]
    · rw [List.getElem?_append_right (by simp; omega), List.getElem?_append_right (by simp; omega), List.getElem?_replicate, List.getElem?_replicate]
      simp only [List.length_take, h]
      have e : (j - min k 40 < 40 - k) ↔ (j - min (k + 1) 40 < 40 - (k + 1)) := by omega
      simp only [e]

/-- writing a block of bytes of a number -/
theorem write_any (D : DevOk DevAt) {B0 bd : Nat} {S : Sq.Blocks} {σ : Bl.St} {W : World} (hd : DevAt B0 bd S σ W) (hn : Bnd σ) (i n : Int) (hi : -9223372036854775808 ≤ i ∧ i ≤ 9223372036854775807) :
    Calls Try.prog 16 #[.pointer (some ⟨bd, 0, none⟩), .int .i64 i, .string (Cd.bs (fillD n 256))] W fun e w' => (∃ v, e = .returned v) ∧ ∃ S', DevAt B0 bd S' (Bl.write σ i (fillD n 256)).1 w' ∧ Sq.Step S S' W w' :=
  (D.write hd hn i (fillD n 256) hi (by rw [fillD_len]; omega)).mono fun e w' h => ⟨⟨_, h.1⟩, h.2⟩

/-- the memory of the second half: the disk, the act's box, what was held, what was written -/
structure Mem3 (DevAt : Nat → Nat → Sq.Blocks → Bl.St → World → Prop) (B0 bd gh gw : Nat) (w : World) (v0 v1 v2 v3 : Value) (H : List Bl.Dat) (S : Sq.Blocks) (σ : Bl.St) (wl : List Bool) (W : World) : Prop where
  dev : DevAt B0 bd S σ W
  below : Below w.heap.size w W
  box : Box4c W w.heap.size v0 v1 v2 v3 w.heap.size
  held : W.ownsRow w.heap.size 9 1 (.slice (some ⟨gh, 0, none⟩) 40 40) 40 (strCells H)
  heldS : ¬ S gh
  wrote : W.ownsRow w.heap.size 4 1 (.slice (some ⟨gw, 0, none⟩) 40 40) 40 (bCells wl)
  wroteS : ¬ S gw
  base : w.heap.size < B0
  ne : w.heap.size < gh ∧ gh < gw
namespace Mem3
variable {B0 bd gh gw : Nat} {w : World} {v0 v1 v2 v3 : Value} {H : List Bl.Dat} {S S' : Sq.Blocks} {σ σ' : Bl.St} {wl : List Bool} {W W' : World}
theorem at_below (D : DevOk DevAt) (h : Mem3 DevAt B0 bd gh gw w v0 v1 v2 v3 H S σ wl W) (hb : Below W.heap.size W W') : Mem3 DevAt B0 bd gh gw w v0 v1 v2 v3 H S σ wl W' :=
  ⟨D.kept h.dev (Sq.Kept.of_below hb), h.below.trans (hb.mono h.below.size), h.box.kept (Sq.Kept.of_below (T := fun _ => True) hb) trivial, Sq.row_kept h.held (Sq.Kept.of_below (T := fun _ => True) hb) (fun _ _ => trivial), h.heldS, Sq.row_kept h.wrote (Sq.Kept.of_below (T := fun _ => True) hb) (fun _ _ => trivial), h.wroteS, h.base, h.ne⟩
theorem step (D : DevOk DevAt) (h : Mem3 DevAt B0 bd gh gw w v0 v1 v2 v3 H S σ wl W) (hd : DevAt B0 bd S' σ' W') (st : Sq.Step S S' W W') : Mem3 DevAt B0 bd gh gw w v0 v1 v2 v3 H S' σ' wl W' := by
  have own : ∀ {g g' : Nat}, (Value.slice (some ⟨g, 0, none⟩) 40 40).ownBlock = some g' → g = g' := fun h => by simpa [Value.ownBlock] using h
  exact ⟨hd, h.below.trans (st.kept.below (B := w.heap.size) (fun x hx hs => by have := (D.lo h.dev x hs).1; have := h.base; omega) h.below.size), h.box.kept st.kept (fun hs => by have := (D.lo h.dev _ hs).1; have := h.base; omega),
    Sq.row_kept h.held st.kept (fun g hg => own hg ▸ h.heldS), Sq.step_not st (Ob.row_lt h.held (g := gh) rfl).2 h.heldS,
    Sq.row_kept h.wrote st.kept (fun g hg => own hg ▸ h.wroteS), Sq.step_not st (Ob.row_lt h.wrote (g := gw) rfl).2 h.wroteS, h.base, h.ne⟩
theorem mark (D : DevOk DevAt) (h : Mem3 DevAt B0 bd gh gw w v0 v1 v2 v3 H S σ wl W) (m : Nat) : Mem3 DevAt B0 bd gh gw w v0 v1 v2 v3 H S σ (wl.set m true) (W.setCell ⟨gw, m, none⟩ (.bool true)) := by
  have own : ∀ {g g' : Nat}, (Value.slice (some ⟨g, 0, none⟩) 40 40).ownBlock = some g' → g = g' := fun h => by simpa [Value.ownBlock] using h
  have hne := h.ne
  have hk : Sq.Kept (fun x => x ≠ gw) W (W.setCell ⟨gw, m, none⟩ (.bool true)) := Sq.Kept.setCell _ _ (fun h => h rfl)
  refine ⟨D.kept h.dev (hk.less fun k hs _ e => h.wroteS (e ▸ hs)), h.below.setCell (p := ⟨gw, m, none⟩) (by show w.heap.size ≤ gw; omega) _, h.box.kept hk (by omega), Sq.row_kept h.held hk (fun g hg => by rw [← own hg]; omega), h.heldS, ?_, h.wroteS, h.base, hne⟩
  have := (World.ownsRow.stored h.wrote m (.bool true)).1
  rw [show (bCells wl).set m (.bool true) = bCells (wl.set m true) by simp [bCells, List.map_set]] at this
  exact this
end Mem3
/-- what was written, and what is safe -/
structure SInv (H : List Bl.Dat) (σ : Bl.St) (wl : List Bool) : Prop where
  safe : σ.safe = H
  len : wl.length = 40
  mem : ∀ x ∈ σ.wait, wl.getD x.1 false = true
theorem SInv.write {H : List Bl.Dat} {σ : Bl.St} {wl : List Bool} {k : Nat} (h : SInv H σ wl) (hI : Bl.WInv k σ) (hH : H.length = 40) (i : Int) (s : Bl.Dat) :
    SInv H (Bl.write σ i s).1 (if 0 ≤ i ∧ i < 40 then wl.set i.toNat true else wl) := by
  refine ⟨(Bl.write_safe hI i s).trans h.safe, by split <;> simp [h.len], fun x hx => ?_⟩
  have hlt : x.1 < 40 := by have := ((hI.write i s).ok.inW x hx).1; rw [(hI.write i s).len] at this; exact this
  have hset : ∀ m, wl.getD x.1 false = true → (wl.set m true).getD x.1 false = true := fun m hm => by
    simp only [List.getD_eq_getElem?_getD, List.getElem?_set] at hm ⊢
    split
    · split <;> simp_all
    · exact hm
  rcases Bl.write_mem hI i s x hx with hx | ⟨he, _⟩
  · split
    · exact hset _ (h.mem x hx)
    · exact h.mem x hx
  · rw [if_pos (by omega)]
    simp only [List.getD_eq_getElem?_getD, List.getElem?_set]
    rw [if_pos (by omega), if_pos (by rw [h.len]; omega)]; rfl

set_option maxRecDepth 100000 in
set_option maxHeartbeats 4000000 in
theorem blockSafe_walk (D : DevOk DevAt) (a1 a2 : Option Addr) (c1 c2 b1 b2 o1 o2 : Nat) (L1 L2 : List AAct) (x : AAct) (w : World)
    (A1 : Acts w a1 b1 o1 L1) (A2 : Acts w a2 b2 o2 L2) (hx : x.Ok w) :
    Calls Try.prog 4 #[.slice a1 L1.length c1, .slice a2 L2.length c2, .agg #[.int .i64 x.kind, .int .i64 x.i, .int .i64 x.n, x.kv]] w fun e w' => e = .returned (.bool true) ∧ Below w.heap.size w w' := by
  obtain ⟨i0, hi0, hz0, hz1, hz2⟩ := info_parts info_string
  obtain ⟨j0, hj0, hy0, hy1, hy2⟩ := info_parts info_bool
  obtain ⟨xk, xi, xn, kv, keep⟩ := x
  obtain ⟨ka, kcap, hkv⟩ := hx.row.form
  simp only at hkv
  subst hkv
  obtain ⟨_, hxi, hxn, hrow, hlen⟩ := hx
  simp only at hxi hxn hrow hlen
  have hN := Lib.hid fun W => D.new 40 W (by omega) (by omega)
  have hl1 := A1.len
  have hl2 := A2.len
  go_enter Try.func4, Try.ntmps4
  obtain ⟨wA, hwA⟩ : ∃ wA, w.alloc (.cells #[.int .i64 xk, .int .i64 xi, .int .i64 xn, .slice ka keep.length kcap] 33) = wA := ⟨_, rfl⟩
  have bx0 : Box4c wA w.heap.size (.int .i64 xk) (.int .i64 xi) (.int .i64 xn) (.slice ka keep.length kcap) w.heap.size := by rw [← hwA]; exact Box4c.new w _ _ _ _ _ _
  have b0 : Below w.heap.size w wA := by rw [← hwA]; exact (Below.refl _ w).alloc (Nat.le_refl _) _
  go_wp2_with (go_at_call 8; refine (hN.out _).mono ?_; rintro e w1 ⟨bd, Sd, rfl, hd1, q1⟩)
  have hBA : w.heap.size + 1 ≤ wA.heap.size := by rw [← hwA]; simp
  have bw1 := b0.trans (q1.mono b0.size)
  have bx1 := bx0.kept (Sq.Kept.of_below (T := fun _ => True) q1) trivial
  generalize wA.heap.size = B0 at hd1 hBA
  clear hN q1 bx0 b0
  go_loopw [9] (fun j wr => ∃ (k : Nat) (S : Sq.Blocks) (σ : Bl.St), k ≤ L1.length ∧ j = .int .i64 k ∧ DevAt B0 bd S σ wr ∧ Below w.heap.size w wr ∧ Bl.WInv k σ ∧ Box4c wr w.heap.size (.int .i64 xk) (.int .i64 xi) (.int .i64 xn) (.slice ka keep.length kcap) w.heap.size) (fun j _ => L1.length - (intOf j).toNat)
  case atStart => exact ⟨0, Sd, Bl.new 40, Nat.zero_le _, rfl, hd1, bw1, Bl.WInv.new, bx1⟩
  case round =>
    obtain ⟨k, S, σ, hk, rfl, hd, hb, hI, bx⟩ := hrel
    by_cases hlt : k < L1.length
    · obtain ⟨rfl, hbl⟩ := A1.at' (by omega)
      obtain ⟨_, q1, q2, _⟩ := A1.cells k hlt
      have hy := A1.ok L1[k] (List.getElem_mem hlt)
      have hbs := hb.size
      have e1 := (hb.cell (p := ⟨b1, o1 + k * 4 + 1, none⟩) hbl).trans q1
      have e2 := (hb.cell (p := ⟨b1, o1 + k * 4 + 2, none⟩) hbl).trans q2
      have hii := hy.i1
      have hnn := hy.n1
      clear q1 q2 hy
      generalize L1[k].i = ii at *
      generalize L1[k].n = nn at *
      have hi1 : (0 : Int) ≤ (k : Int) ∧ (k : Int) < (L1.length : Int) := by omega
      have hbnd := hI.bnd (by omega)
      have hlb : b1 < wr.heap.size := Nat.lt_of_lt_of_le hbl hbs
      have hF := Lib.hid ((filled_any nn 256 wr.drew hnn.1 hnn.2 (by omega)).mono (fun e w3 h => (⟨h.1, ((Below.refl _ wr).drew).trans h.2⟩ : e = .returned (.string (Cd.bs (fillD nn 256))) ∧ Below wr.heap.size wr w3)))
      go_wp2_with fail
      go_region_with (first
        | (go_at_call 17; refine hF.out.mono ?_; rintro e w3 ⟨rfl, p3⟩; have hd3 := D.kept hd (Sq.Kept.of_below (T := S) p3); have bx3 := bx.kept (Sq.Kept.of_below (T := fun _ => True) p3) trivial; have f1 := (p3.cell (p := ⟨b1, o1 + k * 4 + 1, none⟩) hlb).trans e1)
        | (go_at_call 16; refine (write_any D hd3 hbnd ii nn hii).mono ?_; rintro e w4 ⟨⟨v4, rfl⟩, S4, hd4, st4⟩))
      all_goals (have b4 := (hb.trans (p3.mono hbs)).trans (st4.kept.below (B := w.heap.size) (fun x hx hs => by have := (D.lo hd3 x hs).1; omega) (Nat.le_trans hbs p3.size)))
      all_goals (have hK : ∃ (k' : Nat) (S : Sq.Blocks) (σ : Bl.St), k' ≤ L1.length ∧ k + 1 = k' ∧ DevAt B0 bd S σ w4 ∧ Below w.heap.size w w4 ∧ Bl.WInv k' σ ∧ Box4c w4 w.heap.size (.int .i64 xk) (.int .i64 xi) (.int .i64 xn) (.slice ka keep.length kcap) w.heap.size := ⟨k + 1, S4, _, by omega, rfl, hd4, b4, hI.write _ _, bx3.kept st4.kept (fun hs => by have := (D.lo hd3 _ hs).1; omega)⟩)
      all_goals clear hd3 bx3 f1 hd4 st4 b4 p3 hd hb hI bx
      all_goals go_wp2_with fail
      all_goals (obtain ⟨k', S5, σ5, h1, h2, h3⟩ := hK)
      all_goals exact ⟨⟨k', S5, σ5, h1, by subst h2; go_num, h3⟩, by simp [intOf]; omega⟩
    · obtain rfl : k = L1.length := by omega
      obtain ⟨hIs, hE, hW0⟩ := hI.sync
      have hSy := D.sync hd (hI.bnd (by omega))
      rw [hE] at hSy
      have HSy := Lib.hid hSy
      have hbs := hb.size
      clear hSy
      go_wp2_with (first
        | (go_at_call 18; refine HSy.out.mono ?_; rintro e w3 ⟨rfl, S3, hd3, st3⟩; have b3 := hb.trans (st3.kept.below (B := w.heap.size) (fun x hx hs => by have := (D.lo hd x hs).1; omega) hbs))
        | (refine wpList_make_full _ (by rfl) _ _ 37 (by rfl) w.heap.size 9 i0 (.string ⟨#[]⟩) 1 Try.underlying37 hi0 hz0 hz1 .i64 .i64 40 40 40 (by rfl) (by rfl) rfl rfl (by rw [hz2]; omega) (by unfold maxLen; omega) b3.size ?_; intro w4 hown hgrow; rw [made_str] at hown; have b4 : Below w3.heap.size w3 w4 := (Below.refl _ _).grown hgrow (Nat.le_refl _) (fun k hk => by cases hk)))
      have hd4 := D.kept hd3 (Sq.Kept.of_below (T := S3) b4)
      have hB4 := b3.trans (b4.mono b3.size)
      have bx3 := bx.kept st3.kept (fun hs => by have := (D.lo hd _ hs).1; omega)
      have bx4 := bx3.kept (Sq.Kept.of_below (T := fun _ => True) b4) trivial
      have hg4 : ¬ S3 w3.heap.size := fun hs => by have := (D.lo hd3 _ hs).2; omega
      have hgl : w.heap.size < w3.heap.size := bx3.lt
      generalize w3.heap.size = gh at hown hg4 hgl
      generalize (Bl.sync σ).1 = σ2 at hIs hW0 hd4
      clear HSy bx3 hd3 st3 b3 b4 hgrow hd hb hI bx hE bx1 bw1 hd1
      have hlen2 := hIs.len
      have hb2 := hIs.bnd (by omega)
      have hrd2 := Lib.hid fun (j : Nat) (hj : j < 40) => Bl.read_free hIs.up hW0 j (by omega)
      go_loopw [11] (fun j wr => ∃ (k : Nat) (S : Sq.Blocks), k ≤ 40 ∧ j = .int .i64 k ∧ DevAt B0 bd S σ2 wr ∧ Below w.heap.size w wr ∧ Box4c wr w.heap.size (.int .i64 xk) (.int .i64 xi) (.int .i64 xn) (.slice ka keep.length kcap) w.heap.size ∧ ¬ S gh ∧ wr.ownsRow w.heap.size 9 1 (.slice (some ⟨gh, 0, none⟩) 40 40) 40 (strCells (σ2.safe.take k ++ List.replicate (40 - k) []))) (fun j _ => 40 - (intOf j).toNat)
      case atStart => exact ⟨0, S3, Nat.zero_le _, rfl, hd4, hB4, bx4, hg4, by simpa using hown⟩
      case round =>
        obtain ⟨k, S, hk, rfl, hd, hb, bx, hgS, hR⟩ := hrel
        by_cases hlt : k < 40
        · have hrd := hrd2.out k hlt
          have hD := D.read hd hb2 (k : Int) (by omega)
          rw [hrd] at hD
          have HD := Lib.hid hD
          have hi1 : (0 : Int) ≤ (k : Int) ∧ (k : Int) < 40 := by omega
          have hbs := hb.size
          have HR := Lib.hid fun v => (World.ownsRow.stored hR k v).1
          clear hrd hD
          go_wp2_with (go_at_call 14; refine HD.out.mono ?_; rintro e w5 ⟨rfl, S5, hd5, st5⟩; have hR5 := Sq.row_kept hR st5.kept (fun g hg => by { have e : gh = g := by { simpa [Value.ownBlock] using hg }; exact e ▸ hgS }); have hc5 := hR5.cellAt k (by omega); have hf5 := hR5.frozenAt k; rw [strCells_getD _ k (by simp; omega)] at hc5)
          have hg5 : ¬ S5 gh := fun hs => (st5.new gh hs).elim hgS (fun h => by have := (Ob.row_lt hR (g := gh) rfl).2; omega)
          have b5 := hb.trans (st5.kept.below (B := w.heap.size) (fun x hx hs => by have := (D.lo hd x hs).1; omega) hbs)
          have bx5 := bx.kept st5.kept (fun hs => by have := (D.lo hd _ hs).1; omega)
          exact ⟨⟨k + 1, S5, hlt, by go_num, D.kept hd5 (Sq.Kept.setCell _ _ hg5), b5.setCell (p := ⟨gh, k, none⟩) (Nat.le_of_lt hgl) _, bx5.kept (Sq.Kept.setCell (T := fun x => x ≠ gh) _ _ (fun h => h rfl)) (by omega), hg5, by rw [← held_set σ2.safe k hlen2 hlt]; exact (World.ownsRow.stored hR5 k _).1⟩, by simp [intOf]; omega⟩
        · obtain rfl : k = 40 := by omega
          rw [show σ2.safe.take 40 ++ List.replicate (40 - 40) [] = σ2.safe by rw [List.take_of_length_le (by omega)]; simp] at hR
          have hbs := hb.size
          go_wp2_with (refine wpList_make_full _ (by rfl) _ _ 31 (by rfl) w.heap.size 4 j0 (.bool false) 1 Try.underlying31 hj0 hy0 hy1 .i64 .i64 40 40 40 (by rfl) (by rfl) rfl rfl (by rw [hy2]; omega) (by unfold maxLen; omega) hbs ?_; intro w5 hown hgrow; rw [made_bool] at hown; have p5 : Below wr.heap.size wr w5 := (Below.refl _ _).grown hgrow (Nat.le_refl _) (fun k hk => by cases hk))
          have hd5 := D.kept hd (Sq.Kept.of_below (T := S) p5)
          have b5 := hb.trans (p5.mono hbs)
          have bx5 := bx.kept (Sq.Kept.of_below (T := fun _ => True) p5) trivial
          have hR5 := Sq.row_kept hR (Sq.Kept.of_below (T := fun _ => True) p5) (fun _ _ => trivial)
          have hgw : ¬ S wr.heap.size := fun hs => by have := (D.lo hd _ hs).2; omega
          have hgl2 : w.heap.size < gh ∧ gh < wr.heap.size := ⟨hgl, (Ob.row_lt hR (g := gh) rfl).2⟩
          generalize wr.heap.size = gw at hown hgw hgl2
          have hHl := hIs.len
          have hSI : SInv σ2.safe σ2 (List.replicate 40 false) := ⟨rfl, by simp, fun x hx => by rw [hW0] at hx; simp at hx⟩
          have hM : Mem3 DevAt B0 bd gh gw w (.int .i64 xk) (.int .i64 xi) (.int .i64 xn) (.slice ka keep.length kcap) σ2.safe S σ2 (List.replicate 40 false) w5 := ⟨hd5, b5, bx5, hR5, hgS, by rw [show bCells (List.replicate 40 false) = List.replicate 40 (.bool false) by simp [bCells]]; exact hown, hgw, by omega, hgl2⟩
          generalize σ2.safe = H at hSI hM hHl
          clear hgrow p5 hd hb bx hR hW0 hrd2 hd5 b5 bx5 hR5 hown hgS hgw hd4 hB4 bx4 hg4
          go_loopw [15] (fun j wr => ∃ (k : Nat) (S : Sq.Blocks) (σ : Bl.St) (wl : List Bool), k ≤ L2.length ∧ j = .int .i64 k ∧ Mem3 DevAt B0 bd gh gw w (.int .i64 xk) (.int .i64 xi) (.int .i64 xn) (.slice ka keep.length kcap) H S σ wl wr ∧ Bl.WInv (L1.length + 1 + k) σ ∧ SInv H σ wl) (fun j _ => L2.length - (intOf j).toNat)
          case atStart => exact ⟨0, S, σ2, List.replicate 40 false, Nat.zero_le _, rfl, hM, hIs, hSI⟩
          case round =>
            clear hM hIs hSI
            obtain ⟨k, S, σ, wl, hk, rfl, hM, hI, hSI⟩ := hrel
            by_cases hlt : k < L2.length
            · obtain ⟨rfl, hbl⟩ := A2.at' (by omega)
              obtain ⟨_, q1, q2, _⟩ := A2.cells k hlt
              have hy := A2.ok L2[k] (List.getElem_mem hlt)
              have hii := hy.i1
              have hnn := hy.n1
              have e1 := (hM.below.cell (p := ⟨b2, o2 + k * 4 + 1, none⟩) hbl).trans q1
              have e2 := (hM.below.cell (p := ⟨b2, o2 + k * 4 + 2, none⟩) hbl).trans q2
              clear q1 q2 hy
              generalize L2[k].i = ii at *
              generalize L2[k].n = nn at *
              have hi1 : (0 : Int) ≤ (k : Int) ∧ (k : Int) < (L2.length : Int) := by omega
              have hbnd := hI.bnd (by omega)
              have hF := Lib.hid fun W => filled_any nn 256 W hnn.1 hnn.2 (by omega)
              have hSI' := hSI.write hI hHl ii (fillD nn 256)
              by_cases hin : 0 ≤ ii ∧ ii < 40
              · obtain ⟨m, rfl⟩ := Int.eq_ofNat_of_zero_le hin.1
                have hwl := hSI.len
                have hc5 := hM.wrote.cellAt m (by omega)
                have hf5 := hM.wrote.frozenAt m
                have hMm := hM.mark D m
                rw [show (bCells wl)[m]? = some (.bool (wl[m]'(by omega))) by simp [bCells, show m < wl.length by omega]] at hc5
                have hel : (wr.setCell ⟨gw, m, none⟩ (.bool true)).cell? ⟨b2, o2 + k * 4 + 2, none⟩ = some (.int .i64 nn) := by
                  have hne : b2 ≠ gw := by have := hM.ne; omega
                  rw [World.cell?_of_block (w := wr) (Below.heap_setCell wr ⟨gw, m, none⟩ _ b2 hne)]; exact e2
                rw [if_pos (by omega), Int.toNat_natCast] at hSI'
                have HS := Lib.hid hSI'
                clear hSI'
                go_wp2_with (first
                  | (go_at_call 17; refine (hF.out _).mono ?_; rintro e w3 ⟨rfl, p3⟩; have hM3 := hMm.at_below D p3)
                  | (go_at_call 16; refine (write_any D hM3.dev hbnd (m : Int) nn hii).mono ?_; rintro e w4 ⟨⟨v4, rfl⟩, S4, hd4, st4⟩; have hM4 := hM3.step D hd4 st4))
                go_roundw
                case rel => exact ⟨k + 1, S4, _, _, by omega, by go_num, hM4, hI.write _ _, HS.out⟩
                case measure => simp [intOf]; omega
              · rw [if_neg hin] at hSI'
                have HS := Lib.hid hSI'
                clear hSI'
                have hK : ∀ w', (∃ S', Mem3 DevAt B0 bd gh gw w (.int .i64 xk) (.int .i64 xi) (.int .i64 xn) (.slice ka keep.length kcap) H S' (Bl.write σ ii (fillD nn 256)).1 wl w') → ∃ (k' : Nat) (S : Sq.Blocks) (σ : Bl.St) (wl : List Bool), k' ≤ L2.length ∧ k + 1 = k' ∧ Mem3 DevAt B0 bd gh gw w (.int .i64 xk) (.int .i64 xi) (.int .i64 xn) (.slice ka keep.length kcap) H S σ wl w' ∧ Bl.WInv (L1.length + 1 + k') σ ∧ SInv H σ wl := fun w' ⟨S', h⟩ => ⟨k + 1, S', _, wl, by omega, rfl, h, hI.write _ _, HS.out⟩
                have HK := Lib.hid hK
                clear hK
                go_wp2_with (first
                  | (go_at_call 17; refine (hF.out _).mono ?_; rintro e w3 ⟨rfl, p3⟩; have hM3 := hM.at_below D p3)
                  | (go_at_call 16; refine (write_any D hM3.dev hbnd ii nn hii).mono ?_; rintro e w4 ⟨⟨v4, rfl⟩, S4, hd4, st4⟩; have hM4 := hM3.step D hd4 st4))
                all_goals (obtain ⟨k', S5, σ5, wl5, h1, h2, h3⟩ := HK.out _ ⟨_, hM4⟩)
                all_goals exact ⟨⟨k', S5, σ5, wl5, h1, by subst h2; go_num, h3⟩, by simp [intOf]; omega⟩
            · obtain rfl : k = L2.length := by omega
              have hrow' : BoolRow S wr (.slice ka keep.length kcap) keep := (hrow.later hM.below (B0 := B0) (by omega)).less (fun k hs => (D.lo hM.dev k hs).1)
              have hC := Lib.hid (D.crash hM.dev (hI.bnd (by omega)) _ keep xi xn hrow' (by omega) hxi hxn)
              have g1 := hM.box.c1
              have g2 := hM.box.c2
              have g3 := hM.box.c3
              have hkeep : ∀ j, wl.getD j false = false → (Bl.crash σ keep xi xn).safe.getD j [] = H.getD j [] := fun j hj => by
                rw [← hSI.safe]
                exact Bl.keepGo_other σ.wait 0 σ.safe fun x hx e => by have := hSI.mem x hx; rw [e, hj] at this; cases this
              have nr := Bl.Near.crash hI.ok keep xi xn
              have hbc : Bnd (Bl.crash σ keep xi xn) := ⟨nr.ok, by simp [Bl.crash], by have := nr.acts; have := hI.acts; omega, by have := nr.epochs; have := hI.epochs; omega⟩
              have hrd : ∀ j : Nat, j < 40 → Bl.read (Bl.crash σ keep xi xn) (j : Int) = ((Bl.crash σ keep xi xn).safe.getD j [], 0) := fun j hj => Bl.read_free rfl rfl j (by rw [nr.safe, hI.len]; exact hj)
              generalize Bl.crash σ keep xi xn = σ4 at hC hkeep hbc hrd
              have hwl := hSI.len
              have HK := Lib.hid hkeep
              have HR := Lib.hid hrd
              clear hkeep hrd nr hI hSI
              go_wp2_with (go_at_call 12; refine hC.out.mono ?_; rintro e w5 ⟨⟨v5, rfl⟩, S5, hd5, st5⟩; have hM5 := hM.step D hd5 st5)
              clear hC hM hrow' g1 g2 g3 hd5 st5
              go_loopw [17] (fun j wr => ∃ (k : Nat) (S : Sq.Blocks), k ≤ 40 ∧ j = .int .i64 k ∧ Mem3 DevAt B0 bd gh gw w (.int .i64 xk) (.int .i64 xi) (.int .i64 xn) (.slice ka keep.length kcap) H S σ4 wl wr) (fun j _ => 40 - (intOf j).toNat)
              case atStart => exact ⟨0, S5, Nat.zero_le _, rfl, hM5⟩
              case round =>
                clear hM5
                obtain ⟨k, S6, hk, rfl, hM⟩ := hrel
                by_cases hlt : k < 40
                · have hrd := HR.out k hlt
                  have hD := D.read hM.dev hbc (k : Int) (by omega)
                  rw [hrd] at hD
                  have hi1 : (0 : Int) ≤ (k : Int) ∧ (k : Int) < 40 := by omega
                  have hcH := (fun W (h : Mem3 DevAt B0 bd gh gw w (.int .i64 xk) (.int .i64 xi) (.int .i64 xn) (.slice ka keep.length kcap) H S6 σ4 wl W) => h)
                  have hb1 : (bCells wl)[k]? = some (.bool (wl.getD k false)) := by simp [bCells, List.getD_eq_getElem?_getD, show k < wl.length by omega]
                  have hb2 := strCells_getD H k (by omega)
                  cases hwk : wl.getD k false with
                  | true =>
                    rw [hwk] at hb1
                    have HD := Lib.hid hD
                    have HB := Lib.hid hb1
                    clear hrd hD hwk hb1 hb2 hcH
                    go_wp2_with (go_at_call 14; refine HD.out.mono ?_; rintro e w6 ⟨rfl, S7, hd7, st7⟩; have hM7 := hM.step D hd7 st7; have c1 := (hM7.wrote.cellAt k (by omega)).trans HB.out)
                    exact ⟨⟨k + 1, S7, hlt, by go_num, hM7⟩, by simp [intOf]; omega⟩
                  | false =>
                    rw [hwk] at hb1
                    rw [HK.out k hwk] at hD
                    have HD := Lib.hid hD
                    have HB := Lib.hid hb1
                    have HB2 := Lib.hid hb2
                    clear hrd hD hwk hb1 hb2 hcH
                    go_wp2_with (go_at_call 14; refine HD.out.mono ?_; rintro e w6 ⟨rfl, S7, hd7, st7⟩; have hM7 := hM.step D hd7 st7; have c1 := (hM7.wrote.cellAt k (by omega)).trans HB.out; have c2 := (hM7.held.cellAt k (by omega)).trans HB2.out)
                    exact ⟨⟨k + 1, S7, hlt, by go_num, hM7⟩, by simp [intOf]; omega⟩
                · obtain rfl : k = 40 := by omega
                  go_wp2_with fail
                  go_ret
                  exact ⟨rfl, hM.below⟩
end Go.Proofs.Ytdidcopfkjnkdaa
