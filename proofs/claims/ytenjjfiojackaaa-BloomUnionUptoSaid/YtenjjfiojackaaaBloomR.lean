/-
  Chapter 7's document side (tapestryref07): Valid, bit, Hash, Places, Load, Has.
-/
import Derived.Test.YtenjjfiojackaaaBloomP
import Derived.Test.YtenjjfiojackaaaCodecBig
import Derived.Test.YtenjjfiojackaaaFilesRootR
import Derived.Test.YtenjjfiojackaaaMemOrder
import Derived.LoopTactic
import Derived.BigQuiet
import Derived.Deep.QuietTactic
namespace Go.Proofs.Ytenjjfiojackaaa
open Go.RowKit
set_option linter.unusedSimpArgs false
set_option linter.unusedVariables false
namespace Bm
theorem bit_eq (s : List UInt8) (i : Nat) (hi : 1 + i / 8 < s.length) : bitB s i = (((s[1 + i / 8].toNat : Int) / 2 ^ (i % 8)).tmod 2 == 1) := by
  unfold bitB
  rw [List.getD_eq_getElem?_getD, List.getElem?_eq_getElem hi, Option.getD_some]
  generalize s[1 + i / 8].toNat = x
  have e1 : ((x : Int) / 2 ^ (i % 8)) = ((x / 2 ^ (i % 8) : Nat) : Int) := by rw [Int.natCast_ediv]; norm_cast
  rw [e1]
  generalize x / 2 ^ (i % 8) = y
  rw [Int.tmod_eq_emod_of_nonneg (by omega), Bool.eq_iff_iff]
  simp
  omega

set_option maxRecDepth 100000 in
set_option maxHeartbeats 2000000 in
theorem bitR_any (s : List UInt8) (i : Nat) (w : World) (hi : 1 + i / 8 < s.length) (hs : s.length ≤ 140737488351232) :
    Calls Try.prog 23 #[.string (Cd.bs s), .int .i64 (i : Int)] w fun e w' => e = .returned (.bool (bitB s i)) ∧ w = w' := by
  have hI0 : (0 : Int) ≤ (i : Int) := by omega
  have hI1 : (i : Int) ≤ 1125899906842624 := by omega
  have hk1 : (0 : Int) ≤ 1 + (i : Int) / 8 ∧ 1 + (i : Int) / 8 < (s.length : Int) := by omega
  have HE := Lib.hid (bit_eq s i hi)
  go_enter Try.func23, Try.ntmps23
  go_wp2_with fail
  go_ret
  exact ⟨by rw [HE.out]; rfl, rfl⟩

set_option maxRecDepth 100000 in
set_option maxHeartbeats 2000000 in
theorem hashR_any (l : List UInt8) (w : World) (hl : l.length ≤ 140737488351232) :
    Calls Try.prog 10 #[.string (Cd.bs l)] w fun e w' => e = .returned (.int .u64 (hash l)) ∧ w = w' := by
  go_enter Try.func10, Try.ntmps10
  go_wp2_with fail
  go_loop [3, 4] (fun hv iv => ∃ (p : Nat) (h : Int), p ≤ l.length ∧ hv = .int .u64 h ∧ iv = .int .i64 (p : Int) ∧ (0 ≤ h ∧ h < 18446744073709551616) ∧ Hid (hashGo l 14695981039346656037 = hashGo (l.drop p) h)) (fun _ iv => l.length - (intOf iv).toNat)
  case atStart => exact ⟨0, _, Nat.zero_le _, rfl, rfl, by omega, rfl⟩
  case round =>
    obtain ⟨p, h, hp, rfl, rfl, ⟨hh0, hh1⟩, hgo⟩ := hrel
    by_cases hlt : p < l.length
    · have hi1 : (0 : Int) ≤ (p : Int) ∧ (p : Int) < (l.length : Int) := by omega
      have hcw : IntKind.u64.wrap (((Cd.bs l)[p]'hlt).toNat : Int) = (l[p].toNat : Int) := by
        have := (l[p]).toNat_lt
        show IntKind.u64.wrap (l[p].toNat : Int) = _
        rw [IntKind.wrap_u64]; omega
      have HG := Lib.hid (show hashGo l 14695981039346656037 = hashGo (l.drop (p + 1)) (IntKind.u64.wrap (bits BinOp.xor IntKind.u64 h (l[p].toNat : Int) * 1099511628211)) by
        rw [hgo.out, List.drop_eq_getElem_cons hlt, hashGo])
      clear hgo
      go_wp2_with fail
      go_round
      case rel => exact ⟨p + 1, _, by omega, rfl, by go_num, by rw [IntKind.wrap_u64]; omega, HG⟩
      case measure => simp [intOf]; omega
    · obtain rfl : p = l.length := by omega
      have HE := Lib.hid (show hash l = mixOf h by unfold hash; rw [hgo.out, List.drop_length]; rfl)
      have HM := Lib.hid (fun W => mixr_any h W hh0 (by omega))
      clear hgo
      go_wp2_with (go_at_call 20; (with_reducible refine (HM.out _).mono ?_); rintro e w1 ⟨rfl, rfl⟩)
      go_ret
      exact ⟨by rw [HE.out]; rfl, rfl⟩

set_option maxRecDepth 100000 in
set_option maxHeartbeats 2000000 in
theorem validR_any (s : List UInt8) (w : World) (hs : s.length ≤ 140737488351232) :
    Calls Try.prog 16 #[.string (Cd.bs s)] w fun e w' => e = .returned (.bool (valid s)) ∧ w = w' := by
  have hsz : (Cd.bs s).size = s.length := rfl
  by_cases h0 : s = []
  · subst h0
    go_enter Try.func16, Try.ntmps16
    go_wp2_with fail
    go_ret
    exact ⟨rfl, rfl⟩
  · have h0b : s.isEmpty = false := by simpa using h0
    by_cases h1 : (9 : Int) ≤ (s.length : Int)
    · have hl : 0 < s.length := by omega
      have hg : s.getD 0 0 = s[0] := by rw [List.getD_eq_getElem?_getD, List.getElem?_eq_getElem hl, Option.getD_some]
      go_enter Try.func16, Try.ntmps16
      have HE1 := Lib.hid (fun (h : ((s[0]'hl).toNat : Int) < 1) => show valid s = false by unfold valid; rw [hg]; simp [h0]; omega)
      have HE2 := Lib.hid (fun (h : (1 : Int) ≤ ((s[0]'hl).toNat : Int)) => show valid s = decide (((s[0]'hl).toNat : Int) ≤ 30) by unfold valid; rw [hg, Bool.eq_iff_iff]; simp [h0]; omega)
      go_wp2_with fail
      · rename_i h
        go_ret
        exact ⟨by rw [HE2.out h]; rfl, rfl⟩
      · rename_i h
        go_ret
        exact ⟨by rw [HE1.out h]; rfl, rfl⟩
    · have h1b : decide ((9 : Int) ≤ (s.length : Int)) = false := by simpa using h1
      have HE := Lib.hid (show valid s = false by unfold valid; simp [h0]; omega)
      go_enter Try.func16, Try.ntmps16
      go_wp2_with fail
      go_ret
      exact ⟨by rw [HE.out]; rfl, rfl⟩

/-- cells of numbers -/
def ic (l : List Int) : List Value := l.map fun b => .int .i64 b
theorem info_int7 : (Try.prog.info? 3).map (fun i => (i.zero, i.size, i.bytes)) = some (some (.int .i64 0), 1, 8) := by kernel_rfl
theorem dOf_in {h : Int} (hh : 0 ≤ h ∧ h < 18446744073709551616) : 0 ≤ dOf h ∧ dOf h < 18446744073709551616 := by
  unfold dOf
  obtain ⟨m, hm⟩ := Int.eq_ofNat_of_zero_le (a := IntKind.u64.wrap (h * 2 ^ 31)) (by rw [IntKind.wrap_u64]; omega)
  obtain ⟨n, hn⟩ := Int.eq_ofNat_of_zero_le (a := h / 2 ^ 33) (by omega)
  have hm2 : m < 18446744073709551616 := by have : IntKind.u64.wrap (h * 2 ^ 31) < 18446744073709551616 := by rw [IntKind.wrap_u64]; omega
                                            omega
  have hn2 : n < 18446744073709551616 := by omega
  rw [hm, hn, u64_or_nat m n (by omega) (by omega)]
  have := Nat.or_lt_two_pow (x := m) (y := n) (n := 64) (by omega) (by omega)
  omega
theorem hash_in (l : List UInt8) : 0 ≤ hash l ∧ hash l < 18446744073709551616 := Mt.mix_in _
theorem placesGo_snoc : ∀ (k : Nat) (h d m : Int), ∃ h', placesGo (k + 1) h d m = placesGo k h d m ++ [h' % m] := by
  intro k
  induction k with
  | zero => intro h d m; exact ⟨h, rfl⟩
  | succ k ih => intro h d m; obtain ⟨h', e⟩ := ih (IntKind.u64.wrap (h + d)) d m; exact ⟨h', by rw [placesGo, e, placesGo]; rfl⟩

theorem placesGo_in (key : List UInt8) (k : Nat) (m : Int) (hm : 0 < m) : ∀ i ∈ places key k m, 0 ≤ i ∧ i < m := places_in k _ _ m hm

set_option maxRecDepth 100000 in
set_option maxHeartbeats 4000000 in
theorem placesR_any (key : List UInt8) (k : Nat) (m : Int) (w : World) (hl : key.length ≤ 140737488351232) (hk : k ≤ 1000) (hm : 0 < m ∧ m ≤ 1125899906842624) :
    Calls Try.prog 19 #[.string (Cd.bs key), .int .i64 (k : Int), .int .i64 m] w fun e w' => ∃ v, e = .returned v ∧ w'.ownsRow w.heap.size 3 1 v (places key k m).length (ic (places key k m)) ∧ Below w.heap.size w w' := by
  have hH := hash_in key
  have HP := Lib.hid (show places key k m = placesGo k (hash key) (dOf (hash key)) m from rfl)
  have HH := Lib.hid (fun W => hashR_any key W hl)
  have hD := dOf_in hH
  have HD : bits BinOp.or IntKind.u64 (IntKind.u64.wrap (hash key * 2147483648)) (hash key / 8589934592) = dOf (hash key) := rfl
  obtain ⟨hm0, hm1⟩ := hm
  obtain ⟨hH0, hH1⟩ := hH
  obtain ⟨i0, hi0, hz0, hz1, hz2⟩ := info_parts info_int7
  generalize dOf (hash key) = D at *
  generalize hash key = H at *
  obtain ⟨hD0, hD1⟩ := hD
  go_enter Try.func19, Try.ntmps19
  go_wp2_with (go_at_call 10; (with_reducible refine (HH.out _).mono ?_); rintro e w1 ⟨rfl, rfl⟩)
  go_loopw [7, 9, 10] (fun hv v iv wr => ∃ (q : Nat) (h : Int) (done : List Int), q ≤ k ∧ done.length = q ∧ hv = .int .u64 h ∧ iv = .int .i64 (q : Int) ∧ (0 ≤ h ∧ h < 18446744073709551616) ∧ Hid (placesGo k H D m = done ++ placesGo (k - q) h D m) ∧ wr.ownsRow w.heap.size 3 1 v done.length (ic done) ∧ Below w.heap.size w wr) (fun _ _ iv _ => k - (intOf iv).toNat)
  case atStart => exact ⟨0, H, [], Nat.zero_le _, rfl, rfl, rfl, ⟨hH0, hH1⟩, rfl, World.ownsRow_nil _ _ _ _, Below.refl _ _⟩
  case round =>
    obtain ⟨q, h, done, hq, hdq, rfl, rfl, ⟨hh0, hh1⟩, hgo, hown, hB⟩ := hrel
    have hbs := hB.size
    by_cases hlt : q < k
    · have hi1 : (q : Int) < (k : Int) := by omega
      have hmw : IntKind.u64.wrap m = m := by rw [IntKind.wrap_u64]; omega
      have hr0 : 0 ≤ h % m := Int.emod_nonneg _ (by omega)
      have hr1 : h % m < m := Int.emod_lt_of_pos _ hm0
      have HG := Lib.hid (show placesGo k H D m = (done ++ [h % m]) ++ placesGo (k - (q + 1)) (IntKind.u64.wrap (h + D)) D m by
        rw [hgo.out, show k - q = (k - (q + 1)) + 1 by omega, placesGo, List.append_assoc]; rfl)
      clear hgo
      go_wp2_with (at_builtin; refine wpList_append_own _ rfl _ _ 39 rfl w.heap.size 3 i0 (.int .i64 0) 1 8 Try.underlying39 hi0 hz0 hz1 hz2 rfl (by decide) _ _ _ rfl (hown.alloc _) ⟨wr.heap.size, 0, none⟩ 1 1 [_] rfl rfl (cell_one_new _ _ _) (by simp [Value.oneCell']) (by unfold maxLen; omega) (by omega) (by simp; omega) ?_; intro v' w2 hown2 hgrow _)
      go_roundw
      case rel => exact ⟨q + 1, _, done ++ [h % m], by omega, by simp [hdq], rfl, by go_num, by rw [IntKind.wrap_u64]; omega, HG, by rw [List.length_append, List.length_singleton]; simpa [ic] using hown2, (hB.alloc hbs _).grown hgrow (by simp; omega) (fun j hj => (Ob.row_lt hown hj).1)⟩
      case measure => simp [intOf]; omega
    · obtain rfl : q = k := by omega
      have HE := Lib.hid (show places key q m = done by rw [HP.out, hgo.out, Nat.sub_self]; simp [placesGo])
      clear hgo
      go_wp2_with fail
      go_ret
      exact ⟨_, rfl, by rw [HE.out]; exact hown, hB⟩

theorem filter_snoc (f : Nat → Bool) (q : Nat) : ((List.range (q + 1)).filter f).length = ((List.range q).filter f).length + (if f q then 1 else 0) := by
  rw [List.range_succ, List.filter_append, List.length_append]
  cases h : f q <;> simp [h]

set_option maxRecDepth 100000 in
set_option maxHeartbeats 4000000 in
theorem loadR_any (s : List UInt8) (w : World) (hs : s.length ≤ 140737488351232) :
    Calls Try.prog 14 #[.string (Cd.bs s)] w fun e w' => e = .returned (.tuple #[.int .i64 ((load s).1 : Int), .int .i64 ((load s).2 : Int)]) ∧ w = w' := by
  have HV := Lib.hid (fun W => validR_any s W hs)
  by_cases h0 : valid s = false ∨ s = []
  · have HE := Lib.hid (show load s = (0, 0) from if_pos h0)
    cases hv : valid s with
    | false =>
      rw [hv] at HV
      clear h0
      go_enter Try.func14, Try.ntmps14
      go_wp2_with (go_at_call 16; (with_reducible refine (HV.out _).mono ?_); rintro e w1 ⟨rfl, rfl⟩)
      go_ret2
      exact ⟨by rw [HE.out]; rfl, rfl⟩
    | true =>
      have h1 : s.isEmpty = true := by rcases h0 with h | h; (rw [hv] at h; cases h); simp [h]
      rw [hv] at HV
      clear h0
      go_enter Try.func14, Try.ntmps14
      go_wp2_with (go_at_call 16; (with_reducible refine (HV.out _).mono ?_); rintro e w1 ⟨rfl, rfl⟩)
      go_ret2
      exact ⟨by rw [HE.out]; rfl, rfl⟩
  · have HE := Lib.hid (show load s = (((List.range (8 * (s.length - 1))).filter fun i => bitB s i).length, 8 * (s.length - 1)) from if_neg h0)
    have hv : valid s = true := by cases h : valid s; exact absurd (.inl h) h0; rfl
    have h1 : s.isEmpty = false := by simpa using fun h => h0 (.inr h)
    have hl : 0 < s.length := by cases s with | nil => simp at h1 | cons => simp
    rw [hv] at HV
    clear h0
    obtain ⟨m, hm⟩ : ∃ m, m = 8 * (s.length - 1) := ⟨_, rfl⟩
    have hmi : 8 * ((s.length : Int) - 1) = (m : Int) := by omega
    rw [← hm] at HE
    go_enter Try.func14, Try.ntmps14
    go_wp2_with (go_at_call 16; (with_reducible refine (HV.out _).mono ?_); rintro e w1 ⟨rfl, rfl⟩)
    go_loop [6, 7] (fun nv iv => ∃ q : Nat, q ≤ m ∧ nv = .int .i64 ((((List.range q).filter fun i => bitB s i).length : Nat) : Int) ∧ iv = .int .i64 (q : Int)) (fun _ iv => m - (intOf iv).toNat)
    case atStart => exact ⟨0, Nat.zero_le _, rfl, rfl⟩
    case round =>
      obtain ⟨q, hq, rfl, rfl⟩ := hrel
      by_cases hlt : q < m
      · have hi1 : (q : Int) < (m : Int) := by omega
        have HB := Lib.hid (fun W => bitR_any s q W (by omega) hs)
        have HF := Lib.hid (filter_snoc (fun i => bitB s i) q)
        have hfl : ((List.range q).filter fun i => bitB s i).length ≤ q := by have := List.length_filter_le (fun i => bitB s i) (List.range q); simpa using this
        generalize ((List.range q).filter fun i => bitB s i).length = c at *
        cases hb : bitB s q with
        | true =>
          rw [hb] at HB
          have HF2 := Lib.hid (show ((List.range (q + 1)).filter fun i => bitB s i).length = c + 1 by rw [HF.out, hb]; rfl)
          clear hb
          go_wp2_with (go_at_call 23; (with_reducible refine (HB.out _).mono ?_); rintro e w1 ⟨rfl, rfl⟩)
          go_round
          case rel => exact ⟨q + 1, by omega, by rw [HF2.out]; go_num, by go_num⟩
          case measure => simp [intOf]; omega
        | false =>
          rw [hb] at HB
          have HF2 := Lib.hid (show ((List.range (q + 1)).filter fun i => bitB s i).length = c by rw [HF.out, hb]; rfl)
          clear hb
          go_wp2_with (go_at_call 23; (with_reducible refine (HB.out _).mono ?_); rintro e w1 ⟨rfl, rfl⟩)
          go_round
          case rel => exact ⟨q + 1, by omega, by rw [HF2.out], by go_num⟩
          case measure => simp [intOf]; omega
      · obtain rfl : q = m := by omega
        go_wp2_with fail
        go_ret2
        exact ⟨by rw [HE.out, hm]; simp, rfl⟩

set_option maxRecDepth 100000 in
set_option maxHeartbeats 4000000 in
theorem hasR_any (s key : List UInt8) (w : World) (hs : s.length ≤ 140737488351232) (hkl : key.length ≤ 140737488351232) :
    Calls Try.prog 15 #[.string (Cd.bs s), .string (Cd.bs key)] w fun e w' => e = .returned (.bool (has s key)) ∧ Below w.heap.size w w' := by
  have HV := Lib.hid (fun W => validR_any s W hs)
  by_cases h0 : valid s = false ∨ s = []
  · have HE := Lib.hid (show has s key = true from if_pos h0)
    cases hv : valid s with
    | false =>
      rw [hv] at HV
      clear h0
      go_enter Try.func15, Try.ntmps15
      go_wp2_with (go_at_call 16; (with_reducible refine (HV.out _).mono ?_); rintro e w1 ⟨rfl, rfl⟩)
      go_ret
      exact ⟨by rw [HE.out]; rfl, Below.refl _ _⟩
    | true =>
      have h1 : s.isEmpty = true := by rcases h0 with h | h; (rw [hv] at h; cases h); simp [h]
      rw [hv] at HV
      clear h0
      go_enter Try.func15, Try.ntmps15
      go_wp2_with (go_at_call 16; (with_reducible refine (HV.out _).mono ?_); rintro e w1 ⟨rfl, rfl⟩)
      go_ret
      exact ⟨by rw [HE.out]; rfl, Below.refl _ _⟩
  · have HE := Lib.hid (show has s key = ((places key (s.getD 0 0).toNat (8 * ((s.length : Int) - 1))).all fun i => bitB s i.toNat) from if_neg h0)
    have hv : valid s = true := by cases h : valid s; exact absurd (.inl h) h0; rfl
    have h1 : s.isEmpty = false := by simpa using fun h => h0 (.inr h)
    have hl9 : 9 ≤ s.length ∧ (s.getD 0 0).toNat ≤ 30 := by
      have := hv; unfold valid at this
      have h2 : s ≠ [] := fun h => h0 (.inr h)
      simp [h2] at this
      simp; omega
    obtain ⟨hl9, h30⟩ := hl9
    have hl : 0 < s.length := by omega
    have hi0 : (0 : Int) < (s.length : Int) := by omega
    have hg : s.getD 0 0 = s[0] := by rw [List.getD_eq_getElem?_getD, List.getElem?_eq_getElem hl, Option.getD_some]
    have hgc : (((Cd.bs s)[0]'hl).toNat : Int) = ((s.getD 0 0).toNat : Int) := by rw [hg]; rfl
    rw [hv] at HV
    clear h0 hg
    have hin := placesGo_in key (s.getD 0 0).toNat (8 * ((s.length : Int) - 1)) (by omega)
    have HP := Lib.hid (fun W => placesR_any key (s.getD 0 0).toNat (8 * ((s.length : Int) - 1)) W hkl (by omega) (by omega))
    have hpl := placesGo_len (s.getD 0 0).toNat (hash key) (dOf (hash key)) (8 * ((s.length : Int) - 1))
    rw [show placesGo (s.getD 0 0).toNat (hash key) (dOf (hash key)) (8 * ((s.length : Int) - 1)) = places key (s.getD 0 0).toNat (8 * ((s.length : Int) - 1)) from rfl] at hpl
    generalize (s.getD 0 0).toNat = k at *
    generalize places key k (8 * ((s.length : Int) - 1)) = L at *
    go_enter Try.func15, Try.ntmps15
    go_wp2_with (first
      | (go_at_call 16; (with_reducible refine (HV.out _).mono ?_); rintro e w1 ⟨rfl, rfl⟩)
      | (go_at_call 19; (with_reducible refine (HP.out _).mono ?_); rintro e w1 ⟨v, rfl, hown, hb1⟩; obtain ⟨ao, cap, rfl, hg1⟩ := Sq.row_cases hown))
    go_loopw [7] (fun iv wr => ∃ q : Nat, q ≤ L.length ∧ iv = .int .i64 (q : Int) ∧ Hid (∀ x ∈ L.take q, bitB s x.toNat = true) ∧ wr = w1) (fun iv _ => L.length - (intOf iv).toNat)
    case atStart => exact ⟨0, Nat.zero_le _, rfl, fun p hp => by simp at hp, rfl⟩
    case round =>
      obtain ⟨q, hq, rfl, hall, rfl⟩ := hrel
      by_cases hlt : q < L.length
      · obtain ⟨g1, rfl, _, hl1⟩ := hg1 (by omega)
        have e1 := (hown.cellAt q (by omega)).trans (show (ic L)[q]? = some (.int .i64 L[q]) by simp [ic, hlt])
        have hi1 : (0 : Int) ≤ (q : Int) ∧ (q : Int) < (L.length : Int) := by omega
        have hx := hin L[q] (List.getElem_mem hlt)
        have HM := Lib.hid (show L[q] ∈ L from List.getElem_mem hlt)
        have hall2 : bitB s L[q].toNat = true → ∀ x ∈ L.take (q + 1), bitB s x.toNat = true := fun h p hp => by
          rw [List.take_succ_eq_append_getElem hlt] at hp
          rcases List.mem_append.1 hp with hp | hp
          · exact hall.out p hp
          · simp at hp; subst hp; exact h
        have HA := Lib.hid hall2
        clear hall2 hall
        generalize L[q] = x at *
        obtain ⟨n, rfl⟩ := Int.eq_ofNat_of_zero_le hx.1
        have HB := Lib.hid (fun W => bitR_any s n W (by omega) hs)
        cases hb : bitB s n with
        | true =>
          rw [hb] at HB
          have HA2 := Lib.hid (HA.out hb)
          clear hb HA
          go_wp2_with (go_at_call 23; (with_reducible refine (HB.out _).mono ?_); rintro e w3 ⟨rfl, rfl⟩)
          go_roundw
          case rel => exact ⟨q + 1, by omega, by go_num, HA2, trivial⟩
          case measure => simp [intOf]; omega
        | false =>
          rw [hb] at HB
          have HE2 := Lib.hid (show has s key = false by
            rw [HE.out, List.all_eq_false]; exact ⟨_, HM.out, by simp [hb]⟩)
          clear hb HA
          go_wp2_with (go_at_call 23; (with_reducible refine (HB.out _).mono ?_); rintro e w3 ⟨rfl, rfl⟩)
          go_ret
          exact ⟨by rw [HE2.out]; rfl, hb1⟩
      · obtain rfl : q = L.length := by omega
        have HE2 := Lib.hid (show has s key = true by
          rw [HE.out, List.all_eq_true]; intro x hx; exact hall.out x (by rwa [List.take_length]))
        clear hall
        go_wp2_with fail
        go_ret
        exact ⟨by rw [HE2.out]; rfl, hb1⟩
end Bm
end Go.Proofs.Ytenjjfiojackaaa
