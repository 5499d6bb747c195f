import Derived.Test.YtaghifnihjlpjaaPart4
/-
  The program's roots: DecodeRoot, at whatever bytes.
-/
namespace Go.Proofs.Ytaghifnihjlpjaa
open Go.RowKit
set_option linter.unusedSimpArgs false
set_option linter.unusedVariables false
namespace Fd
/-- what DecodeRoot leaves -/
def DecOut (d : Option Fi.Root) (w : World) (e : Ending) (w' : World) : Prop :=
  match d with
  | some r => ∃ fv L, e = .returned (.tuple #[.agg #[.int .u64 (r.gen : Int), fv], .int .i64 0]) ∧ Fi.OwnF w.heap.size w' fv L ∧ L.map (·.1) = r.files ∧ Below w.heap.size w w'
  | none => e = .returned (.tuple #[.agg #[.int .u64 0, .slice none 0 0], .int .i64 3]) ∧ Below w.heap.size w w'

theorem ownLower {B B' : Nat} {W : World} {fv : Value} {L : List (Fi.File × Value)} (h : Fi.OwnF B W fv L) (hB : B' ≤ B) : Fi.OwnF B' W fv L :=
  ⟨lower h.row hB, fun x hx => lower (h.ints x hx) hB⟩
theorem rootIn {B : Nat} {W : World} {fv : Value} {L : List (Fi.File × Value)} {r : Fi.Root} (h : Fi.OwnF B W fv L) (hL : L.map (·.1) = r.files) (g1 : r.gen ≤ 4611686018427387904) (l1 : r.files.length ≤ 64) (h1 : ∀ f ∈ r.files, Fi.FileIn f) : Fi.RootIn W r.gen fv L :=
  ⟨by omega, h.files, fun x hx => h1 x.1 (by rw [← hL]; exact List.mem_map_of_mem hx), by rw [← hL, List.length_map] at l1; omega⟩

set_option maxRecDepth 100000 in
set_option maxHeartbeats 8000000 in
theorem decodeRoot_any (l : Fi.Dat) (n : Int) (w : World) (hn : Fi.inI64 n) (hl : l.length ≤ 140737488351232) :
    Calls Try.prog 7 #[.string (Cd.bs l), .int .i64 n] w (DecOut (Fi.decode l n) w) := by
  rw [← Fi.decR_decode]
  have HTK := Lib.hid (fun W => frameTakec_any l W hl)
  have hdec : Fi.decR l n = if (Fr.take l).2.2 ≠ 0 then none else if (Fi.encode (Fi.tkRoot (Fr.take l).1.2) n).2 = 0 ∧ (Fi.encode (Fi.tkRoot (Fr.take l).1.2) n).1 = l.take (Fr.take l).2.1 then some (Fi.tkRoot (Fr.take l).1.2) else none := rfl
  have hkl : (Fr.take l).2.1 ≤ l.length := (Fr.take_len l).1
  have hll : (Fr.take l).1.2.length ≤ 262144 := Fr.take_load l
  have bO := Ob.Obj.new w 25 [.int .u64 0, .slice none 0 0]
  have hW : Below w.heap.size w (w.alloc (.cells #[.int .u64 0, .slice none 0 0] 25)) := (Below.refl _ _).alloc (Nat.le_refl _) _
  generalize Fr.take l = tk at *
  obtain ⟨⟨kd, ld⟩, k, e0⟩ := tk
  simp only at hdec hkl hll
  by_cases he : e0 = 0
  · subst he
    rw [if_neg (by simp)] at hdec
    obtain ⟨rg, rl, rf⟩ := Fi.tkRoot_in ld
    have hENC := fun W fv L (R : Fi.RootIn W (Fi.tkRoot ld).gen fv L) (hL : L.map (·.1) = (Fi.tkRoot ld).files) => (show Calls Try.prog 5 #[.agg #[.int .u64 ((Fi.tkRoot ld).gen : Int), fv], .int .i64 n] W fun e w' =>
        e = .returned (.tuple #[.string (Cd.bs (Fi.encode (Fi.tkRoot ld) n).1), .int .i64 ((Fi.encode (Fi.tkRoot ld) n).2 : Int)]) ∧ Below W.heap.size W w' from by
      have := encOk (Fi.tkRoot ld).gen fv L n W hn R
      rw [hL] at this
      exact this)
    have HENC := Lib.hid hENC
    have HRT := Lib.hid (fun W t (h : Tk W t (ld, false)) => root_any t ld W h (by omega))
    generalize Fi.tkRoot ld = r at *
    generalize Fi.encode r n = pr at *
    obtain ⟨pb, pe⟩ := pr
    simp only at hdec
    have h4 : ((Cd.bs l).extract 0 k).toList = l.take k := by rw [Lib.extract_toList]; rfl
    have hml : (Cd.bs pb).toList = pb := by rw [ByteArray.toList_mk]
    have hki : (0 : Int) ≤ (k : Int) ∧ (k : Int) ≤ (l.length : Int) := by omega
    have hsz : (Cd.bs l).size = l.length := rfl
    have HH4 := Lib.hid h4
    have HML := Lib.hid hml
    clear hENC h4 hml hsz
    by_cases hpe : pe = 0
    · subst hpe
      by_cases hpb : pb = l.take k
      · rw [hdec, if_pos ⟨rfl, hpb⟩]
        have hne : (pb == ((Cd.bs l).extract 0 k).toList) = true := by rw [HH4.out]; simpa using hpb
        clear hdec hpb
        go_enter Try.func7, Try.ntmps7
        go_wp2_with (first
          | (go_at_call 22; (with_reducible refine (HTK.out _).mono ?_); rintro e w1 ⟨rfl, hb1⟩; have hz1 := hb1.size; simp at hz1; have HO1 := Lib.hid (((bO.below hb1).alloc (.cells #[.int .u8 (kd.toNat : Int), .string (Cd.bs ld)] 52)).alloc (.cells #[.string (Cd.bs ld), .bool false] 57)); have HT1 := Lib.hid (show Tk ((w1.alloc (.cells #[.int .u8 (kd.toNat : Int), .string (Cd.bs ld)] 52)).alloc (.cells #[.string (Cd.bs ld), .bool false] 57)) (w1.heap.size + 1) (ld, false) by simpa [Tk] using Ob.Obj.new (w1.alloc (.cells #[.int .u8 (kd.toNat : Int), .string (Cd.bs ld)] 52)) 57 [.string (Cd.bs ld), .bool false]); have HB1 := Lib.hid (((hW.trans (hb1.mono (by simp))).alloc (by omega) (.cells #[.int .u8 (kd.toNat : Int), .string (Cd.bs ld)] 52)).alloc (by simp; omega) (.cells #[.string (Cd.bs ld), .bool false] 57)))
          | (go_at_call 23; (with_reducible refine (HRT.out _ _ HT1.out).mono ?_); rintro e w2 ⟨fv, L, rfl, hown, hL, hk2⟩; obtain ⟨ao, cap, rfl, hg⟩ := Sq.row_cases hown.row; have HO2 := Lib.hid ((HO1.out.kept hk2 (by omega)).alloc (.cells #[.int .u64 (r.gen : Int), .slice ao L.length cap] 25)); have hz2 := hk2.size; simp at hz2; have HB2 := Lib.hid ((HB1.out.trans (hk2.below (B := w.heap.size) (fun k hk => by omega) (by simp; omega))).alloc (by omega) (.cells #[.int .u64 (r.gen : Int), .slice ao L.length cap] 25)); have HR2 := Lib.hid (Ob.Obj.new w2 25 [.int .u64 (r.gen : Int), .slice ao L.length cap]); have HW2 := Lib.hid (ownLower (B' := w.heap.size) (hown.kept (Sq.Kept.alloc (fun _ => True) _ (.cells #[.int .u64 (r.gen : Int), .slice ao L.length cap] 25)) (fun _ _ => trivial)) (by simp; omega)); have HRI := Lib.hid (rootIn HW2.out hL rg rl rf); have HLL := Lib.hid hL; clear hL hown)
          | (go_at_call 5; (with_reducible refine (HENC.out _ _ _ HRI.out HLL.out).mono ?_); rintro e w3 ⟨rfl, hb3⟩; have HO3 := Lib.hid (HO2.out.below hb3); have c0 := HO3.out.cell 0; have c1 := HO3.out.cell 1; have f0 := HO3.out.frozen 0; have f1 := HO3.out.frozen 1; have hlt := HO3.out.lt; have hR3 := HR2.out.below hb3; have d0 := hR3.cell 0; have d1 := hR3.cell 1; have hlr := hR3.lt; clear hR3; simp at c0 c1 d0 d1; have HB3 := Lib.hid (HB2.out.trans (hb3.mono (by simp; omega)))))
        refine bodyPost_ret (v := .tuple #[.agg #[.int .u64 (r.gen : Int), .slice ao L.length cap], .int .i64 0]) (by simp [results, Try.results7, go_sem, c0, c1, hlt]) rfl ?_
        exact ⟨_, L, rfl, OwnF.set (OwnF.set (HW2.out.kept (Sq.Kept.of_below hb3 |>.less (T' := fun _ => True) (fun _ _ h => trivial)) (fun _ _ => trivial)) HO3.out 0 _) (HO3.out.set 0 _) 1 _, HLL.out, (HB3.out.setCell (by simp) _).setCell (by simp) _⟩
      · rw [hdec, if_neg (fun h => hpb h.2)]
        have hne : (pb == ((Cd.bs l).extract 0 k).toList) = false := by rw [HH4.out]; simpa using hpb
        clear hdec hpb
        go_enter Try.func7, Try.ntmps7
        go_wp2_with (first
          | (go_at_call 22; (with_reducible refine (HTK.out _).mono ?_); rintro e w1 ⟨rfl, hb1⟩; have hz1 := hb1.size; simp at hz1; have HO1 := Lib.hid (((bO.below hb1).alloc (.cells #[.int .u8 (kd.toNat : Int), .string (Cd.bs ld)] 52)).alloc (.cells #[.string (Cd.bs ld), .bool false] 57)); have HT1 := Lib.hid (show Tk ((w1.alloc (.cells #[.int .u8 (kd.toNat : Int), .string (Cd.bs ld)] 52)).alloc (.cells #[.string (Cd.bs ld), .bool false] 57)) (w1.heap.size + 1) (ld, false) by simpa [Tk] using Ob.Obj.new (w1.alloc (.cells #[.int .u8 (kd.toNat : Int), .string (Cd.bs ld)] 52)) 57 [.string (Cd.bs ld), .bool false]); have HB1 := Lib.hid (((hW.trans (hb1.mono (by simp))).alloc (by omega) (.cells #[.int .u8 (kd.toNat : Int), .string (Cd.bs ld)] 52)).alloc (by simp; omega) (.cells #[.string (Cd.bs ld), .bool false] 57)))
          | (go_at_call 23; (with_reducible refine (HRT.out _ _ HT1.out).mono ?_); rintro e w2 ⟨fv, L, rfl, hown, hL, hk2⟩; obtain ⟨ao, cap, rfl, hg⟩ := Sq.row_cases hown.row; have HO2 := Lib.hid ((HO1.out.kept hk2 (by omega)).alloc (.cells #[.int .u64 (r.gen : Int), .slice ao L.length cap] 25)); have hz2 := hk2.size; simp at hz2; have HB2 := Lib.hid ((HB1.out.trans (hk2.below (B := w.heap.size) (fun k hk => by omega) (by simp; omega))).alloc (by omega) (.cells #[.int .u64 (r.gen : Int), .slice ao L.length cap] 25)); have HR2 := Lib.hid (Ob.Obj.new w2 25 [.int .u64 (r.gen : Int), .slice ao L.length cap]); have HW2 := Lib.hid (ownLower (B' := w.heap.size) (hown.kept (Sq.Kept.alloc (fun _ => True) _ (.cells #[.int .u64 (r.gen : Int), .slice ao L.length cap] 25)) (fun _ _ => trivial)) (by simp; omega)); have HRI := Lib.hid (rootIn HW2.out hL rg rl rf); have HLL := Lib.hid hL; clear hL hown)
          | (go_at_call 5; (with_reducible refine (HENC.out _ _ _ HRI.out HLL.out).mono ?_); rintro e w3 ⟨rfl, hb3⟩; have HO3 := Lib.hid (HO2.out.below hb3); have c0 := HO3.out.cell 0; have c1 := HO3.out.cell 1; have f0 := HO3.out.frozen 0; have f1 := HO3.out.frozen 1; have hlt := HO3.out.lt; have hR3 := HR2.out.below hb3; have d0 := hR3.cell 0; have d1 := hR3.cell 1; have hlr := hR3.lt; clear hR3; simp at c0 c1 d0 d1; have HB3 := Lib.hid (HB2.out.trans (hb3.mono (by simp; omega)))))
        refine bodyPost_ret (v := .tuple #[.agg #[.int .u64 0, .slice none 0 0], .int .i64 3]) (by simp [results, Try.results7, go_sem, c0, c1, hlt]) rfl ?_
        exact ⟨rfl, (HB3.out.setCell (by simp) _).setCell (by simp) _⟩
    · rw [hdec, if_neg (fun h => hpe h.1)]
      have heb : (((pe : Nat) : Int) != 0) = true := by simp; omega
      have heb2 : (((pe : Nat) : Int) == 0) = false := by simp; omega
      clear hdec hpe
      go_enter Try.func7, Try.ntmps7
      go_wp2_with (first
        | (go_at_call 22; (with_reducible refine (HTK.out _).mono ?_); rintro e w1 ⟨rfl, hb1⟩; have hz1 := hb1.size; simp at hz1; have HO1 := Lib.hid (((bO.below hb1).alloc (.cells #[.int .u8 (kd.toNat : Int), .string (Cd.bs ld)] 52)).alloc (.cells #[.string (Cd.bs ld), .bool false] 57)); have HT1 := Lib.hid (show Tk ((w1.alloc (.cells #[.int .u8 (kd.toNat : Int), .string (Cd.bs ld)] 52)).alloc (.cells #[.string (Cd.bs ld), .bool false] 57)) (w1.heap.size + 1) (ld, false) by simpa [Tk] using Ob.Obj.new (w1.alloc (.cells #[.int .u8 (kd.toNat : Int), .string (Cd.bs ld)] 52)) 57 [.string (Cd.bs ld), .bool false]); have HB1 := Lib.hid (((hW.trans (hb1.mono (by simp))).alloc (by omega) (.cells #[.int .u8 (kd.toNat : Int), .string (Cd.bs ld)] 52)).alloc (by simp; omega) (.cells #[.string (Cd.bs ld), .bool false] 57)))
        | (go_at_call 23; (with_reducible refine (HRT.out _ _ HT1.out).mono ?_); rintro e w2 ⟨fv, L, rfl, hown, hL, hk2⟩; obtain ⟨ao, cap, rfl, hg⟩ := Sq.row_cases hown.row; have HO2 := Lib.hid ((HO1.out.kept hk2 (by omega)).alloc (.cells #[.int .u64 (r.gen : Int), .slice ao L.length cap] 25)); have hz2 := hk2.size; simp at hz2; have HB2 := Lib.hid ((HB1.out.trans (hk2.below (B := w.heap.size) (fun k hk => by omega) (by simp; omega))).alloc (by omega) (.cells #[.int .u64 (r.gen : Int), .slice ao L.length cap] 25)); have HR2 := Lib.hid (Ob.Obj.new w2 25 [.int .u64 (r.gen : Int), .slice ao L.length cap]); have HW2 := Lib.hid (ownLower (B' := w.heap.size) (hown.kept (Sq.Kept.alloc (fun _ => True) _ (.cells #[.int .u64 (r.gen : Int), .slice ao L.length cap] 25)) (fun _ _ => trivial)) (by simp; omega)); have HRI := Lib.hid (rootIn HW2.out hL rg rl rf); have HLL := Lib.hid hL; clear hL hown)
        | (go_at_call 5; (with_reducible refine (HENC.out _ _ _ HRI.out HLL.out).mono ?_); rintro e w3 ⟨rfl, hb3⟩; have HO3 := Lib.hid (HO2.out.below hb3); have c0 := HO3.out.cell 0; have c1 := HO3.out.cell 1; have f0 := HO3.out.frozen 0; have f1 := HO3.out.frozen 1; have hlt := HO3.out.lt; have hR3 := HR2.out.below hb3; have d0 := hR3.cell 0; have d1 := hR3.cell 1; have hlr := hR3.lt; clear hR3; simp at c0 c1 d0 d1; have HB3 := Lib.hid (HB2.out.trans (hb3.mono (by simp; omega)))))
      refine bodyPost_ret (v := .tuple #[.agg #[.int .u64 0, .slice none 0 0], .int .i64 3]) (by simp [results, Try.results7, go_sem, c0, c1, hlt]) rfl ?_
      exact ⟨rfl, (HB3.out.setCell (by simp) _).setCell (by simp) _⟩
  · rw [if_pos he] at hdec
    rw [hdec]
    have heb : (((e0 : Nat) : Int) != 0) = true := by simp; omega
    have heb2 : (((e0 : Nat) : Int) == 0) = false := by simp; omega
    clear he hdec
    go_enter Try.func7, Try.ntmps7
    go_wp2_with (go_at_call 22; refine (HTK.out _).mono ?_; rintro e w1 ⟨rfl, hb1⟩; have bO1 := (bO.below hb1).alloc (.cells #[.int .u8 (kd.toNat : Int), .string (Cd.bs ld)] 52); have c0 := bO1.cell 0; have c1 := bO1.cell 1; have f0 := bO1.frozen 0; have f1 := bO1.frozen 1; have hlt := bO1.lt; simp at c0 c1)
    refine bodyPost_ret (v := .tuple #[.agg #[.int .u64 0, .slice none 0 0], .int .i64 3]) (by simp [results, Try.results7, go_sem, c0, c1, hlt]) rfl ?_
    exact ⟨rfl, (((hW.trans (hb1.mono (by simp))).alloc (by have := hb1.size; simp at this; omega) _).setCell (by simp) _).setCell (by simp) _⟩
end Fd
end Go.Proofs.Ytaghifnihjlpjaa

/-
  The walks of the laws of layer 4 on roots, as their frames call them.
-/
namespace Go.Proofs.Ytaghifnihjlpjaa
open Go.RowKit Fi
theorem laidOut : laidOutB Try.prog = true := by kernel_rfl
theorem decBackOk : DecBackOk := by
  intro r n rest w hn h0 hf hr
  have hlen : ((Fi.encode r n).1 ++ rest).length ≤ 140737488351232 := by
    have := Fi.encode_len (r := r) (n := n)
    rw [List.length_append]; omega
  refine (Fd.decodeRoot_any ((Fi.encode r n).1 ++ rest) n w hn hlen).mono fun e w' h => ?_
  rw [Fi.decode_encode h0] at h
  obtain ⟨fv, L, h1, h2, h3, h4⟩ := h
  exact ⟨fv, L, h1, h2.files, h3, h4⟩
theorem filesRoots_law (g : Nat) (fv : Value) (L : List (Fi.File × Value)) (n : Int) (w : World) (R : Fi.RootIn w g fv L) (n1 : -9223372036854775808 ≤ n) (n2 : n ≤ 9223372036854775807) :
    Calls Try.prog 3 #[.agg #[.int .u64 (g : Int), fv], .int .i64 n] w fun e w' => e = .returned (.bool true) ∧ Below w.heap.size w w' := filesRoots_walk Fd.encOk g fv L n w R n1 n2
theorem filesBack_law (g : Nat) (fv : Value) (L : List (Fi.File × Value)) (n : Int) (s : ByteArray) (w : World) (R : Fi.RootIn w g fv L) (n1 : -9223372036854775808 ≤ n) (n2 : n ≤ 9223372036854775807) (hs : s.size ≤ 1048576) :
    Calls Try.prog 4 #[.agg #[.int .u64 (g : Int), fv], .int .i64 n, .string s] w fun e w' => e = .returned (.bool true) ∧ Below w.heap.size w w' := filesBack_walk Fd.encOk decBackOk g fv L n s w R n1 n2 hs
end Go.Proofs.Ytaghifnihjlpjaa
