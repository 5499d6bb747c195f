/-
  P6.1, P6.2: the order of versions, towers' heights: plain, the document's answers (tapestryref06), the law MemtableOrder over what the program owes.
-/
import Derived.Test.YtgfpkbdinfdkfaaCodecBig
import Derived.Test.YtgfpkbdinfdkfaaFilesRootR
import Derived.Test.YtgfpkbdinfdkfaaGen
import Derived.Test.YtgfpkbdinfdkfaaObj
import Derived.LoopTactic
import Derived.BigQuiet
import Derived.Deep.QuietTactic
namespace Go.Proofs.Ytgfpkbdinfdkfaa
open Go.RowKit
set_option linter.unusedSimpArgs false
set_option linter.unusedVariables false
namespace Mt
open Op (bytesLess)
/-- a version: its key, its sequence number, whether it takes away, its value -/
structure Ver where
  key : List UInt8
  seq : Int
  del : Bool
  val : List UInt8
def lessB (a b : Ver) : Bool := if a.key = b.key then decide (b.seq < a.seq) else bytesLess a.key b.key
def placeB (a b : Ver) : Bool := decide (a.key = b.key ∧ a.seq = b.seq)
theorem less_total (a b : Ver) : (lessB a b && lessB b a) = false ∧ (lessB a b || lessB b a) = !placeB a b := by
  unfold lessB placeB
  by_cases h : a.key = b.key
  · rw [if_pos h, if_pos h.symm]
    by_cases h1 : a.seq < b.seq
    · have h2 : ¬ b.seq < a.seq := by omega
      have h3 : ¬ a.seq = b.seq := by omega
      simp [h, h1, h2, h3]
    · by_cases h2 : b.seq < a.seq
      · have h3 : ¬ a.seq = b.seq := by omega
        simp [h, h1, h2, h3]
      · have h3 : a.seq = b.seq := by omega
        simp [h, h3]
  · rw [if_neg h, if_neg (fun e => h e.symm)]
    have ht := Fi.bl_total a.key b.key
    have hne : (b.key == a.key) = false := by simpa using fun e => h e.symm
    rw [hne, Bool.or_false] at ht
    rw [ht]
    have : decide (a.key = b.key ∧ a.seq = b.seq) = false := by simp [h]
    rw [this]
    cases bytesLess b.key a.key <;> simp
/-- P6.2 -/
def hgtGo : Nat → Nat → Int → Nat
  | 0, n, _ => n
  | f + 1, n, x => if n < 8 ∧ x % 4 = 0 then hgtGo f (n + 1) (x / 4) else n
def seedOf (seed seq : Int) : Int := mixOf (bits BinOp.xor IntKind.u64 seed (mixOf seq))
def height (seed seq : Int) : Nat := hgtGo 7 1 (seedOf seed seq)
def VerIn (a : Ver) : Prop := a.key.length ≤ 1048576 ∧ a.val.length ≤ 1048576 ∧ 0 ≤ a.seq ∧ a.seq < 18446744073709551616
/-- however long -/
def VerW (a : Ver) : Prop := a.key.length ≤ 140737488351232 ∧ a.val.length ≤ 140737488351232 ∧ 0 ≤ a.seq ∧ a.seq < 18446744073709551616
theorem VerIn.wide {a : Ver} (h : VerIn a) : VerW a := ⟨Nat.le_trans h.1 (by omega), Nat.le_trans h.2.1 (by omega), h.2.2.1, h.2.2.2⟩
def verV (a : Ver) : Value := .agg #[.string (Cd.bs a.key), .int .u64 a.seq, .bool a.del, .string (Cd.bs a.val)]

set_option maxRecDepth 100000 in
set_option maxHeartbeats 2000000 in
theorem lessR_any (a b : Ver) (w : World) (ha : VerW a) (hb : VerW b) :
    Calls Try.prog 20 #[verV a, verV b] w fun e w' => e = .returned (.bool (lessB a b)) ∧ Below w.heap.size w w' := by
  obtain ⟨ak, aq, ad, av⟩ := a
  obtain ⟨bk, bq, bd, bv⟩ := b
  unfold verV
  simp only
  obtain ⟨_, _, _, _⟩ := ha
  obtain ⟨_, _, _, _⟩ := hb
  by_cases h : ak = bk
  · subst h
    by_cases h1 : bq < aq
    · have e : lessB ⟨ak, aq, ad, av⟩ ⟨ak, bq, bd, bv⟩ = true := by simp [lessB, h1]
      rw [e]
      clear e
      go_enter Try.func20, Try.ntmps20
      go_wp2_with fail
      go_ret
      exact ⟨rfl, ((Below.refl _ _).alloc (Nat.le_refl _) _).alloc (by simp) _⟩
    · have e : lessB ⟨ak, aq, ad, av⟩ ⟨ak, bq, bd, bv⟩ = false := by simp [lessB, h1]
      have h2 : decide (bq < aq) = false := decide_eq_false h1
      have H2 := Lib.hid h2
      rw [e]
      clear e
      go_enter Try.func20, Try.ntmps20
      go_wp2_with fail
      go_ret
      exact ⟨by rw [← H2.out]; first | rfl | (rw [H2.out]; rfl), ((Below.refl _ _).alloc (Nat.le_refl _) _).alloc (by simp) _⟩
  · have hne : (ak == bk) = false := by simpa using h
    have e : lessB ⟨ak, aq, ad, av⟩ ⟨bk, bq, bd, bv⟩ = bytesLess ak bk := by simp [lessB, h]
    rw [e]
    clear e h
    go_enter Try.func20, Try.ntmps20
    go_wp2_with fail
    go_ret
    exact ⟨rfl, ((Below.refl _ _).alloc (Nat.le_refl _) _).alloc (by simp) _⟩

set_option maxRecDepth 100000 in
set_option maxHeartbeats 2000000 in
theorem placeR_any (a b : Ver) (w : World) (ha : VerW a) (hb : VerW b) :
    Calls Try.prog 19 #[verV a, verV b] w fun e w' => e = .returned (.bool (placeB a b)) ∧ Below w.heap.size w w' := by
  obtain ⟨ak, aq, ad, av⟩ := a
  obtain ⟨bk, bq, bd, bv⟩ := b
  unfold verV
  simp only
  obtain ⟨_, _, _, _⟩ := ha
  obtain ⟨_, _, _, _⟩ := hb
  by_cases h : ak = bk
  · subst h
    by_cases h1 : aq = bq
    · subst h1
      have e : placeB ⟨ak, aq, ad, av⟩ ⟨ak, aq, bd, bv⟩ = true := by simp [placeB]
      rw [e]
      clear e
      go_enter Try.func19, Try.ntmps19
      go_wp2_with fail
      go_ret
      exact ⟨rfl, ((Below.refl _ _).alloc (Nat.le_refl _) _).alloc (by simp) _⟩
    · have h2 : (aq == bq) = false := by simpa using h1
      have e : placeB ⟨ak, aq, ad, av⟩ ⟨ak, bq, bd, bv⟩ = false := by simp [placeB, h1]
      rw [e]
      clear e h1
      go_enter Try.func19, Try.ntmps19
      go_wp2_with fail
      go_ret
      exact ⟨rfl, ((Below.refl _ _).alloc (Nat.le_refl _) _).alloc (by simp) _⟩
  · have hne : (ak == bk) = false := by simpa using h
    have e : placeB ⟨ak, aq, ad, av⟩ ⟨bk, bq, bd, bv⟩ = false := by simp [placeB, h]
    rw [e]
    clear e h
    go_enter Try.func19, Try.ntmps19
    go_wp2_with fail
    go_ret
    exact ⟨rfl, ((Below.refl _ _).alloc (Nat.le_refl _) _).alloc (by simp) _⟩

theorem xor_in {a b : Int} (ha : 0 ≤ a ∧ a < 18446744073709551616) (hb : 0 ≤ b ∧ b < 18446744073709551616) : 0 ≤ bits BinOp.xor IntKind.u64 a b ∧ bits BinOp.xor IntKind.u64 a b < 18446744073709551616 := by
  obtain ⟨m, rfl⟩ := Int.eq_ofNat_of_zero_le ha.1
  obtain ⟨n, rfl⟩ := Int.eq_ofNat_of_zero_le hb.1
  rw [u64_xor_nat m n (by omega) (by omega)]
  have := Nat.xor_lt_two_pow (x := m) (y := n) (n := 64) (by omega) (by omega)
  omega
theorem mix_in (N : Int) : 0 ≤ mixOf N ∧ mixOf N < 18446744073709551616 := by
  unfold mixOf
  simp only
  have key : ∀ x : Int, 0 ≤ IntKind.u64.wrap x ∧ IntKind.u64.wrap x < 18446744073709551616 := fun x => by rw [IntKind.wrap_u64]; omega
  have h := key (bits BinOp.xor IntKind.u64 (IntKind.u64.wrap (bits BinOp.xor IntKind.u64 (IntKind.u64.wrap (N + 11400714819323198485)) (IntKind.u64.wrap (N + 11400714819323198485) / 1073741824) * 13787848793156543929)) (IntKind.u64.wrap (bits BinOp.xor IntKind.u64 (IntKind.u64.wrap (N + 11400714819323198485)) (IntKind.u64.wrap (N + 11400714819323198485) / 1073741824) * 13787848793156543929) / 134217728) * 10723151780598845931)
  exact xor_in h (by omega)

set_option maxRecDepth 100000 in
set_option maxHeartbeats 2000000 in
theorem heightR_any (sd sq : Int) (w : World) (hs : 0 ≤ sd ∧ sd < 18446744073709551616) (hq : 0 ≤ sq ∧ sq < 18446744073709551616) :
    Calls Try.prog 21 #[.int .u64 sd, .int .u64 sq] w fun e w' => e = .returned (.int .i64 (height sd sq : Nat)) ∧ w' = w := by
  have HM1 := Lib.hid (fun W => mixr_any sq W hq.1 (by omega))
  have hm := mix_in sq
  have hsd : seedOf sd sq = mixOf (bits BinOp.xor IntKind.u64 sd (mixOf sq)) := rfl
  have hh : height sd sq = hgtGo 7 1 (seedOf sd sq) := rfl
  generalize mixOf sq = m at *
  have hx := xor_in hs hm
  have HM2 := Lib.hid (fun W => mixr_any (bits BinOp.xor IntKind.u64 sd m) W hx.1 (by omega))
  have hr := mix_in (bits BinOp.xor IntKind.u64 sd m)
  rw [← hsd] at HM2 hr
  generalize seedOf sd sq = X at *
  have HH := Lib.hid hh
  clear hsd hx hm hh
  go_enter Try.func21, Try.ntmps21
  go_wp2_with (first
    | (go_at_call 35; (with_reducible refine (HM1.out _).mono ?_); rintro e w1 ⟨rfl, rfl⟩)
    | (go_at_call 35; (with_reducible refine (HM2.out _).mono ?_); rintro e w1 ⟨rfl, rfl⟩))
  go_loop [5, 6] (fun xv nv => ∃ (n : Nat) (x : Int), 1 ≤ n ∧ n ≤ 8 ∧ xv = .int .u64 x ∧ nv = .int .i64 (n : Int) ∧ (0 ≤ x ∧ x < 18446744073709551616) ∧ Hid (hgtGo 7 1 X = hgtGo (8 - n) n x)) (fun _ nv => 8 - (intOf nv).toNat)
  case atStart => exact ⟨1, X, Nat.le_refl _, by omega, rfl, rfl, hr, rfl⟩
  case round =>
    obtain ⟨n, x, hn1, hn2, rfl, rfl, ⟨hx0, hx1⟩, hgo⟩ := hrel
    by_cases h1 : n < 8
    · have h1i : (n : Int) < 8 := by omega
      by_cases h2 : x % 4 = 0
      · have h2b : (x % 4 == 0) = true := by simpa using h2
        have HG := Lib.hid (show hgtGo 7 1 X = hgtGo (8 - (n + 1)) (n + 1) (x / 4) by rw [hgo.out, show 8 - n = (8 - (n + 1)) + 1 by omega, hgtGo, if_pos ⟨h1, h2⟩])
        clear hgo h2
        go_wp2_with fail
        go_round
        case rel => exact ⟨n + 1, x / 4, by omega, by omega, rfl, by go_num, ⟨by omega, by omega⟩, HG⟩
        case measure => simp [intOf]; omega
      · have h2b : (x % 4 == 0) = false := by simpa using h2
        have HE := Lib.hid (show height sd sq = n by rw [HH.out, hgo.out, show 8 - n = (8 - (n + 1)) + 1 by omega, hgtGo, if_neg (fun h => h2 h.2)])
        clear hgo h2
        go_wp2_with fail
        go_ret
        exact ⟨by rw [HE.out]; rfl, rfl⟩
    · obtain rfl : n = 8 := by omega
      have HE := Lib.hid (show height sd sq = 8 by rw [HH.out, hgo.out]; rfl)
      clear hgo
      go_wp2_with fail
      go_ret
      exact ⟨by rw [HE.out]; rfl, rfl⟩

def LessOk : Prop := ∀ (a b : Ver) (w : World), VerW a → VerW b → Calls Try.prog 17 #[verV a, verV b] w fun e w' => e = .returned (.bool (lessB a b)) ∧ Below w.heap.size w w'

def HeightOk : Prop := ∀ (sd sq : Int) (w : World), (0 ≤ sd ∧ sd < 18446744073709551616) → (0 ≤ sq ∧ sq < 18446744073709551616) → Calls Try.prog 18 #[.int .u64 sd, .int .u64 sq] w fun e w' => e = .returned (.int .i64 (height sd sq : Nat)) ∧ Below w.heap.size w w'

set_option maxRecDepth 100000 in
set_option maxHeartbeats 4000000 in
theorem memtableOrder_walk (LL : LessOk) (HH : HeightOk) (ak : ByteArray) (aq : Int) (ad : Bool) (av : ByteArray) (bk : ByteArray) (bq : Int) (bd : Bool) (bv : ByteArray) (sd : Int) (w : World)
    (a1 : ak.size ≤ 140737488351232) (a2 : 0 ≤ aq) (a3 : aq ≤ 18446744073709551615) (a4 : av.size ≤ 140737488351232) (b1 : bk.size ≤ 140737488351232) (b2 : 0 ≤ bq) (b3 : bq ≤ 18446744073709551615) (b4 : bv.size ≤ 140737488351232) (s1 : 0 ≤ sd) (s2 : sd ≤ 18446744073709551615) :
    Calls Try.prog 5 #[.agg #[.string ak, .int .u64 aq, .bool ad, .string av], .agg #[.string bk, .int .u64 bq, .bool bd, .string bv], .int .u64 sd] w fun e w' => e = .returned (.bool true) ∧ Below w.heap.size w w' := by
  obtain ⟨ak, rfl⟩ : ∃ l, ak = Cd.bs l := ⟨ak.data.toList, (Lib.mk_data ak).symm⟩
  obtain ⟨av, rfl⟩ : ∃ l, av = Cd.bs l := ⟨av.data.toList, (Lib.mk_data av).symm⟩
  obtain ⟨bk, rfl⟩ : ∃ l, bk = Cd.bs l := ⟨bk.data.toList, (Lib.mk_data bk).symm⟩
  obtain ⟨bv, rfl⟩ : ∃ l, bv = Cd.bs l := ⟨bv.data.toList, (Lib.mk_data bv).symm⟩
  have hA : VerW ⟨ak, aq, ad, av⟩ := ⟨a1, a4, a2, by simp only; omega⟩
  have hB : VerW ⟨bk, bq, bd, bv⟩ := ⟨b1, b4, b2, by simp only; omega⟩
  obtain ⟨t1, t2⟩ := less_total ⟨ak, aq, ad, av⟩ ⟨bk, bq, bd, bv⟩
  have L1 := Lib.hid (fun W => LL _ _ W hA hB)
  have L2 := Lib.hid (fun W => LL _ _ W hB hA)
  have R1 := Lib.hid (fun W => lessR_any _ _ W hA hB)
  have P1 := Lib.hid (fun W => placeR_any _ _ W hA hB)
  have H1 := Lib.hid (fun W => HH sd aq W ⟨s1, by omega⟩ ⟨a2, by omega⟩)
  have H2 := Lib.hid (fun W => heightR_any sd aq W ⟨s1, by omega⟩ ⟨a2, by omega⟩)
  unfold verV at L1 L2 R1 P1
  simp only at L1 L2 R1 P1
  have hW : Below w.heap.size w ((w.alloc (.cells #[.string (Cd.bs ak), .int .u64 aq, .bool ad, .string (Cd.bs av)] 33)).alloc (.cells #[.string (Cd.bs bk), .int .u64 bq, .bool bd, .string (Cd.bs bv)] 33)) := ((Below.refl _ _).alloc (Nat.le_refl _) _).alloc (by simp) _
  have oA := (Ob.Obj.new w 33 [.string (Cd.bs ak), .int .u64 aq, .bool ad, .string (Cd.bs av)]).alloc (.cells #[.string (Cd.bs bk), .int .u64 bq, .bool bd, .string (Cd.bs bv)] 33)
  have oB := Ob.Obj.new (w.alloc (.cells #[.string (Cd.bs ak), .int .u64 aq, .bool ad, .string (Cd.bs av)] 33)) 33 [.string (Cd.bs bk), .int .u64 bq, .bool bd, .string (Cd.bs bv)]
  rw [show (w.alloc (.cells #[.string (Cd.bs ak), .int .u64 aq, .bool ad, .string (Cd.bs av)] 33)).heap.size = w.heap.size + 1 by simp] at oB
  generalize height sd aq = hg at *
  cases hl1 : lessB ⟨ak, aq, ad, av⟩ ⟨bk, bq, bd, bv⟩ <;> cases hl2 : lessB ⟨bk, bq, bd, bv⟩ ⟨ak, aq, ad, av⟩ <;> cases hp : placeB ⟨ak, aq, ad, av⟩ ⟨bk, bq, bd, bv⟩ <;> rw [hl1, hl2] at t1 t2 <;> rw [hp] at t2 <;> rw [hl1] at L1 R1 <;> rw [hl2] at L2 <;> rw [hp] at P1 <;> (first | (exfalso; revert t1 t2; decide) | skip)
  all_goals
    clear t1 t2 hl1 hl2 hp
    go_enter Try.func5, Try.ntmps5
    go_wp2_with (first
      | (go_at_call 17; (with_reducible refine (L1.out _).mono ?_); rintro e w1 ⟨rfl, hb1⟩; have HB1 := Lib.hid (hW.trans (hb1.mono hW.size)); have oA1 := oA.below hb1; have oB1 := oB.below hb1; have x10 := oA1.cell 0; have x11 := oA1.cell 1; have x12 := oA1.cell 2; have x13 := oA1.cell 3; have y10 := oB1.cell 0; have y11 := oB1.cell 1; have y12 := oB1.cell 2; have y13 := oB1.cell 3; simp at x10 x11 x12 x13 y10 y11 y12 y13)
      | (go_at_call 17; (with_reducible refine (L2.out _).mono ?_); rintro e w2 ⟨rfl, hb2⟩; have HB2 := Lib.hid (HB1.out.trans (hb2.mono HB1.out.size)); have oA2 := oA1.below hb2; have oB2 := oB1.below hb2; have x20 := oA2.cell 0; have x21 := oA2.cell 1; have x22 := oA2.cell 2; have x23 := oA2.cell 3; have y20 := oB2.cell 0; have y21 := oB2.cell 1; have y22 := oB2.cell 2; have y23 := oB2.cell 3; simp at x20 x21 x22 x23 y20 y21 y22 y23)
      | (go_at_call 18; (with_reducible refine (H1.out _).mono ?_); rintro e w3 ⟨rfl, hb3⟩; have HB3 := Lib.hid (HB2.out.trans (hb3.mono HB2.out.size)); have oA3 := oA2.below hb3; have oB3 := oB2.below hb3; have x30 := oA3.cell 0; have x31 := oA3.cell 1; have x32 := oA3.cell 2; have x33 := oA3.cell 3; have y30 := oB3.cell 0; have y31 := oB3.cell 1; have y32 := oB3.cell 2; have y33 := oB3.cell 3; simp at x30 x31 x32 x33 y30 y31 y32 y33)
      | (go_at_call 19; (with_reducible refine (P1.out _).mono ?_); rintro e w4 ⟨rfl, hb4⟩; have HB4 := Lib.hid (HB3.out.trans (hb4.mono HB3.out.size)); have oA4 := oA3.below hb4; have oB4 := oB3.below hb4; have x40 := oA4.cell 0; have x41 := oA4.cell 1; have x42 := oA4.cell 2; have x43 := oA4.cell 3; have y40 := oB4.cell 0; have y41 := oB4.cell 1; have y42 := oB4.cell 2; have y43 := oB4.cell 3; simp at x40 x41 x42 x43 y40 y41 y42 y43)
      | (go_at_call 20; (with_reducible refine (R1.out _).mono ?_); rintro e w5 ⟨rfl, hb5⟩; have HB5 := Lib.hid (HB4.out.trans (hb5.mono HB4.out.size)); have oA5 := oA4.below hb5; have x51 := oA5.cell 1; simp at x51)
      | (go_at_call 21; (with_reducible refine (H2.out _).mono ?_); rintro e w6 ⟨rfl, rfl⟩))
    go_ret
    exact ⟨rfl, HB5.out⟩
end Mt
end Go.Proofs.Ytgfpkbdinfdkfaa
