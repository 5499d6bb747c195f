/-
  The program's disk: New, Pending.
-/
import Derived.Test.YtdidcopfkjnkdaaBlockDevD
import Derived.Test.YtdidcopfkjnkdaaShelf
import Derived.Lib.Repeat
namespace Go.Proofs.Ytdidcopfkjnkdaa
open Go.RowKit Go.Maps
set_option linter.unusedSimpArgs false
set_option linter.unusedVariables false

namespace Bd
variable {B0 b mb : Nat} {S : Sq.Blocks} {σ σ' : Bl.St} {W W' : World} {sv wv : Value}

theorem made_string (n : Nat) : (madeCells (Value.string ⟨#[]⟩).cells (n * 1)).toList = strCells (List.replicate n []) := by
  rw [show (Value.string ⟨#[]⟩).cells = #[Value.string ⟨#[]⟩] from rfl, Nat.mul_one, toList_madeCells_one]
  unfold strCells; rw [List.map_replicate]
theorem made_int (n : Nat) : (madeCells (Value.int .i64 0).cells (n * 1)).toList = iCells (List.replicate n 0) := by
  rw [show (Value.int .i64 0).cells = #[Value.int .i64 0] from rfl, Nat.mul_one, toList_madeCells_one]
  unfold iCells; rw [List.map_replicate]; rfl
theorem repeat_nought : (Lib.repeatL ((⟨#[0]⟩ : ByteArray).data.toList) 256) = Bl.noughts := by
  show Lib.repeatL (List.replicate 1 0) 256 = _
  rw [Lib.repeatL_replicate, Nat.mul_one]; rfl
/-- the rows of noughts as they are filled -/
def part (n k : Nat) : List Bl.Dat := List.replicate k Bl.noughts ++ List.replicate (n - k) []
theorem part_len {n k : Nat} (h : k ≤ n) : (part n k).length = n := by simp [part]; omega
theorem part_set {n k : Nat} (h : k < n) : (part n k).set k Bl.noughts = part n (k + 1) := by
  unfold part
  rw [List.set_append, if_neg (by simp), List.length_replicate, Nat.sub_self]
  rw [show n - k = (n - (k + 1)) + 1 from by omega, List.replicate_succ, List.set_cons_zero, List.replicate_succ' (n := k), List.append_assoc]
  rfl
/-- the numbers of blocks as they are filled -/
def ipart (l : List Nat) (k : Nat) : List Nat := l.take k ++ List.replicate (l.length - k) 0
theorem ipart_len {l : List Nat} {k : Nat} (h : k ≤ l.length) : (ipart l k).length = l.length := by simp [ipart]; omega
theorem ipart_set {l : List Nat} {k : Nat} (h : k < l.length) : (ipart l k).set k l[k] = ipart l (k + 1) := by
  unfold ipart
  rw [List.set_append, if_neg (by simp; omega), List.length_take, Nat.min_eq_left (by omega), Nat.sub_self]
  rw [show l.length - k = (l.length - (k + 1)) + 1 from by omega, List.replicate_succ, List.set_cons_zero, List.take_succ_eq_append_getElem h, List.append_assoc]
  rfl

theorem ipart_get {l : List Nat} {k : Nat} (h : k < l.length) : (iCells (ipart l k))[k]? = some (.int .i64 0) := by
  have h1 : (List.map (fun (k : Nat) => Value.int .i64 (k : Int)) (l.take k)).length = k := by rw [List.length_map, List.length_take]; omega
  unfold iCells ipart
  rw [List.map_append, List.getElem?_append_right (by omega), h1, Nat.sub_self, List.map_replicate, List.getElem?_replicate, if_pos (by omega)]; rfl

theorem newObj (n : Nat) (sv : Value) (mb : Nat) : cells sv (.slice none 0 0) mb (Bl.new n) = sv :: .slice none 0 0 :: .map (some mb) :: [.bool false, .int .i64 0, .int .i64 0, .int .i64 0] := rfl

set_option maxRecDepth 100000 in
set_option maxHeartbeats 4000000 in
theorem new_any (n : Nat) (W : World) (h1 : 40 ≤ n) (h2 : n ≤ 16384) :
    Calls Try.prog 8 #[.int .i64 (n : Int)] W fun e w' => ∃ b S, e = .returned (.tuple #[.pointer (some ⟨b, 0, none⟩), .int .i64 0]) ∧ At W.heap.size b S (Bl.new n) w' ∧ Below W.heap.size W w' := by
  obtain ⟨i0, hi, hz0, hz1, hz2⟩ := info_parts info_string
  have hN := fun w => Try.strings_Repeat ⟨#[0]⟩ 256 w (by omega) (by decide)
  rw [repeat_nought] at hN
  have HN := Lib.hid hN
  clear hN
  go_enter Try.func8, Try.ntmps8
  go_wp2_with (refine wpList_make_full _ (by rfl) _ _ 37 (by rfl) W.heap.size 9 i0 (.string ⟨#[]⟩) 1 Try.underlying37 hi hz0 hz1 .i64 .i64 (n : Int) (n : Int) n (by rfl) (by rfl) rfl rfl (by rw [hz2]; omega) (by unfold maxLen; omega) (Nat.le_refl _) ?_; intro w1 hown hgrow; rw [made_string] at hown)
  have hgr : Below W.heap.size W w1 := (Below.refl _ _).grown hgrow (Nat.le_refl _) (fun k hk => by cases hk)
  have hs1 := hgr.size
  have hlt1 : W.heap.size < w1.heap.size := (Ob.row_lt hown rfl).2
  go_wp2_with (go_at_call 26; refine (HN.out _).mono ?_; rintro e w2 ⟨rfl, hb2⟩; have hobj2 : Ob.Obj w2 w1.heap.size 58 (.slice (some ⟨W.heap.size, 0, none⟩) n n :: .slice none 0 0 :: .map none :: [.bool false, .int .i64 0, .int .i64 0, .int .i64 0]) := (Ob.Obj.new w1 _ (.slice (some ⟨W.heap.size, 0, none⟩) n n :: .slice none 0 0 :: .map none :: [.bool false, .int .i64 0, .int .i64 0, .int .i64 0])).below hb2; have c02 := hobj2.cell 0; simp at c02)
  have hk2 : Sq.Kept (fun _ => True) w1 w2 := (Sq.Kept.alloc _ _ _).trans (Sq.Kept.of_below hb2)
  have hown2 : w2.ownsRow W.heap.size 9 1 (.slice (some ⟨W.heap.size, 0, none⟩) n n) n (strCells (part n 0)) := by
    have := Sq.row_kept hown hk2 (fun _ _ => trivial)
    simpa [part] using this
  have hB2 : Below W.heap.size W w2 := hgr.trans (hk2.below (fun _ _ => trivial) hs1)
  clear hgr hgrow hown hk2 hb2
  go_loopw [23] (fun i wr => ∃ k : Nat, k ≤ n ∧ i = .int .i64 k ∧ Ob.Obj wr w1.heap.size 58 (.slice (some ⟨W.heap.size, 0, none⟩) n n :: .slice none 0 0 :: .map none :: [.bool false, .int .i64 0, .int .i64 0, .int .i64 0]) ∧ wr.ownsRow W.heap.size 9 1 (.slice (some ⟨W.heap.size, 0, none⟩) n n) n (strCells (part n k)) ∧ Below W.heap.size W wr) (fun i _ => n - (intOf i).toNat)
  case atStart => exact ⟨0, Nat.zero_le _, rfl, hobj2, hown2, hB2⟩
  case round =>
    obtain ⟨k, hk, rfl, hobj, hown, hB⟩ := hrel
    have c0 := hobj.cell 0
    simp at c0
    by_cases hlt : k < n
    · have hst := (World.ownsRow.stored hown k (.string (Cd.bs Bl.noughts))).1
      rw [strCells_set, part_set hlt] at hst
      have hcell := (hown.cellAt k (by omega)).trans (strCells_get (part n k) k (by rw [part_len hk]; exact hlt))
      have hfr := hown.frozenAt k
      have hob' := hobj.other (p := ⟨W.heap.size, k, none⟩) (by show w1.heap.size ≠ W.heap.size; omega) (.string (Cd.bs Bl.noughts))
      have HST := Lib.hid hst
      have HOB := Lib.hid hob'
      have hi1 : (0 : Int) ≤ (k : Int) ∧ (k : Int) < (n : Int) := by omega
      clear hst hob' hobj hown
      go_wp2_with fail
      go_roundw
      case rel => exact ⟨k + 1, by omega, by go_num, HOB.out, HST.out, hB.setCell (p := ⟨W.heap.size, k, none⟩) (Nat.le_refl _) _⟩
      case measure => simp [intOf]; omega
    · obtain rfl : k = n := by omega
      have hSt := settle_any hobj
      have HSt := Lib.hid hSt
      clear hSt
      go_wp2_with (go_at_call 27; refine HSt.out.mono ?_; rintro e w4 ⟨⟨v, rfl⟩, k1, k2, k3, k4⟩)
      go_ret2
      have hso := Sq.row_kept hown k3 (fun g hg e => hobj.not_row (by decide) hown (by rw [hg, e]))
      have e1 : part k k = (Bl.new k).safe := by simp [part, Bl.new]
      have e2 : (Bl.new k).safe.length = k := by simp [Bl.new]
      have hbs := hB.size
      have hl := hobj.lt
      refine ⟨w1.heap.size, fun x => x = w1.heap.size ∨ x = W.heap.size ∨ x = wr.heap.size, rfl, ⟨_, _, wr.heap.size, ⟨by rw [newObj]; exact k1, by rw [e2, ← e1]; exact hso, World.ownsRow_nil _ _ _ _, k2, .inl rfl, fun g hg => ?_, fun g hg => by simp [Value.ownBlock] at hg, .inr (.inr rfl), fun x hx => ?_⟩⟩, hB.trans (k3.below (fun x hx => by omega) hbs)⟩
      · have : W.heap.size = g := by simpa [Value.ownBlock] using hg
        exact .inr (.inl this.symm)
      · rcases hx with rfl | rfl | rfl <;> omega

set_option maxRecDepth 100000 in
set_option maxHeartbeats 1000000 in
theorem newBad_any (n : Int) (W : World) (hn1 : -9223372036854775808 ≤ n) (hn2 : n ≤ 9223372036854775807) (h : n < 40 ∨ 16384 < n) :
    Calls Try.prog 8 #[.int .i64 n] W fun e w' => e = .returned (.tuple #[.pointer none, .int .i64 1]) ∧ Below W.heap.size W w' := by
  rcases h with h | h
  · go_enter Try.func8, Try.ntmps8
    go_wp2_with fail
    go_ret2
    exact ⟨rfl, Below.refl _ _⟩
  · have h' : ¬ n < 40 := by omega
    go_enter Try.func8, Try.ntmps8
    go_wp2_with fail
    go_ret2
    exact ⟨rfl, Below.refl _ _⟩

set_option maxRecDepth 100000 in
set_option maxHeartbeats 4000000 in
theorem pending_any (h : Rows B0 b S σ W sv wv mb) (hw : σ.wait.length ≤ 1073741824) (ho : Bl.Ok σ) :
    Calls Try.prog 21 #[.pointer (some ⟨b, 0, none⟩)] W fun e w' => ∃ v, e = .returned v ∧ w'.ownsRow W.heap.size 3 1 v (σ.wait.map (·.1)).length (iCells (σ.wait.map (·.1))) ∧ Below W.heap.size W w' := by
  obtain ⟨i0, hi, hz0, hz1, hz2⟩ := info_parts info_int
  have hRw := h.wait
  obtain ⟨ao1, cap1, rfl, hg1⟩ := Sq.row_cases hRw
  have c1 := h.obj.cell 1
  simp [cells] at c1
  have hlb := h.obj.lt
  have hnb := ho.blocks
  obtain ⟨N, hN⟩ : ∃ N, N = σ.wait.length := ⟨_, rfl⟩
  have hN2 : (σ.wait.map (·.1)).length = N := by rw [hN]; simp
  rw [← hN] at c1 hw hg1 hRw
  have HN := Lib.hid hN
  have HN2 := Lib.hid hN2
  clear hN hN2 h
  go_enter Try.func21, Try.ntmps21
  go_wp2_with (refine wpList_make_full _ (by rfl) _ _ 49 (by rfl) W.heap.size 3 i0 (.int .i64 0) 1 Try.underlying49 hi hz0 hz1 .i64 .i64 (N : Int) (N : Int) N (by rfl) (by rfl) rfl rfl (by rw [hz2]; omega) (by unfold maxLen; omega) (Nat.le_refl _) ?_; intro w1 hown hgrow; rw [made_int] at hown; have c11 := ((Below.refl W.heap.size W).grown hgrow (Nat.le_refl _) (fun k hk => by cases hk)).cell (p := ⟨b, 1, none⟩) hlb; rw [c1] at c11)
  have hgr : Below W.heap.size W w1 := (Below.refl _ _).grown hgrow (Nat.le_refl _) (fun k hk => by cases hk)
  have hown0 : w1.ownsRow W.heap.size 3 1 (.slice (some ⟨W.heap.size, 0, none⟩) N N) N (iCells (ipart (σ.wait.map (·.1)) 0)) := by
    have := hown
    unfold ipart; rw [HN2.out]; simpa using this
  clear hown hgrow
  go_loopw [19] (fun i wr => ∃ k : Nat, k ≤ N ∧ i = .int .i64 k ∧ wr.ownsRow W.heap.size 3 1 (.slice (some ⟨W.heap.size, 0, none⟩) N N) N (iCells (ipart (σ.wait.map (·.1)) k)) ∧ Below W.heap.size W wr) (fun i _ => N - (intOf i).toNat)
  case atStart => exact ⟨0, Nat.zero_le _, rfl, hown0, hgr⟩
  case round =>
    obtain ⟨k, hk, rfl, hown, hB⟩ := hrel
    by_cases hlt : k < N
    · have hlt' : k < σ.wait.length := by have := HN.out; omega
      obtain ⟨g1, rfl, _, hlg1⟩ := hg1 (by omega)
      have hcs := wCells_get σ.wait k hlt'
      have hc0 := (hB.cell (p := ⟨g1, k * 2, none⟩) hlg1).trans ((hRw.cellAt (k * 2) (by omega)).trans hcs.1)
      have hc1 := (hB.cell (p := ⟨g1, k * 2 + 1, none⟩) hlg1).trans ((hRw.cellAt (k * 2 + 1) (by omega)).trans hcs.2)
      have hst := (World.ownsRow.stored hown k (.int .i64 (σ.wait[k].1 : Int))).1
      have hip : (iCells (ipart (σ.wait.map (·.1)) k)).set k (.int .i64 (σ.wait[k].1 : Int)) = iCells (ipart (σ.wait.map (·.1)) (k + 1)) := by
        rw [← ipart_set (l := σ.wait.map (·.1)) (k := k) (by simpa using hlt')]
        unfold iCells; rw [List.map_set]; simp
      rw [hip] at hst
      have hcell := hown.cellAt k (by omega)
      rw [ipart_get (by simpa using hlt')] at hcell
      have hfr := hown.frozenAt k
      have hlo := (Ob.row_lt hown rfl).2
      generalize hx : σ.wait[k] = x at hc0 hc1 hst
      have HST := Lib.hid hst
      have hi1 : (0 : Int) ≤ (k : Int) ∧ (k : Int) < (N : Int) := by omega
      have hbs := hB.size
      clear hst hown hcs hx hip
      go_wp2_with fail
      go_roundw
      case rel => exact ⟨k + 1, by omega, by go_num, by first | exact HST.out | exact HST.out.alloc _, by first | exact (hB.alloc hbs _).setCell (p := ⟨W.heap.size, k, none⟩) (Nat.le_refl _) _ | exact (hB.setCell (p := ⟨W.heap.size, k, none⟩) (Nat.le_refl _) _).alloc (by simp [World.setCell]; exact hbs) _⟩
      case measure => simp [intOf]; omega
    · obtain rfl : k = N := by omega
      go_wp2_with fail
      go_ret
      refine ⟨_, rfl, ?_, hB⟩
      have e : ipart (σ.wait.map (·.1)) k = σ.wait.map (·.1) := by unfold ipart; rw [HN2.out, Nat.sub_self, List.take_of_length_le (by rw [HN2.out]; exact Nat.le_refl _)]; simp
      rw [HN2.out]; rw [e] at hown; exact hown
end Bd
end Go.Proofs.Ytdidcopfkjnkdaa
