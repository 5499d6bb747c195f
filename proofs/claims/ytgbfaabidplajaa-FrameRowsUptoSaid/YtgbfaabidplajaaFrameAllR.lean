import Derived.Test.YtgbfaabidplajaaFrameTakeR
namespace Go.Proofs.Ytgbfaabidplajaa
open Go.RowKit
set_option linter.unusedSimpArgs false
set_option linter.unusedVariables false

theorem info_At : (Try.prog.info? 45).map (fun i => (i.zero, i.size, i.bytes)) = some (some (.agg #[.int .i64 0, .int .u8 0, .string ⟨#[]⟩]), 3, 32) := by kernel_rfl

/-- frames with their places, as cells -/
def atCells (out : List (Nat × (UInt8 × List UInt8))) : List Value := (out.map fun x => [Value.int .i64 x.1, .int .u8 x.2.1.toNat, .string (Cd.bs x.2.2)]).flatten
theorem atCells_snoc (out : List (Nat × (UInt8 × List UInt8))) (x : Nat × (UInt8 × List UInt8)) : atCells (out ++ [x]) = atCells out ++ [.int .i64 x.1, .int .u8 x.2.1.toNat, .string (Cd.bs x.2.2)] := by simp [atCells]
theorem cell_three_new (w : World) (a b c : Value) (t : TypeId) : ∀ j u, [a, b, c][j]? = some u → (w.alloc (.cells #[a, b, c] t)).cell? ((⟨w.heap.size, 0, none⟩ : Addr).add j) = some u := by
  intro j u hj
  match j, hj with
  | 0, hj => simp at hj; subst hj; simp [Addr.add]
  | 1, hj => simp at hj; subst hj; simp [Addr.add]
  | 2, hj => simp at hj; subst hj; simp [Addr.add]
  | (j + 3), hj => simp at hj

/-- what is owned stays owned behind whatever keeps the blocks that there are -/
theorem own_below {W w : World} {base : Nat} {e : TypeId} {size : Nat} {v : Value} {n : Nat} {xs : List Value} (h : W.ownsRow base e size v n xs) (hb : Below W.heap.size W w) : w.ownsRow base e size v n xs := by
  refine ⟨h.1, ?_⟩
  rcases h.2 with h | ⟨g, cap, cur, h1, h2, h3, h4⟩
  · exact .inl h
  · exact .inr ⟨g, cap, cur, h1, h2, (hb.block g (Array.getElem?_eq_some_iff.1 h3).1).trans h3, h4⟩

set_option maxRecDepth 100000 in
set_option maxHeartbeats 2000000 in
theorem frameAllr_any (l : List UInt8) (w : World) (hs : l.length ≤ 1048576) :
    Calls Try.prog 16 #[.string (Cd.bs l)] w fun e w' => ∃ v, e = .returned (.tuple #[v, .int .i64 (Fr.all l).2]) ∧ w'.ownsRow w.heap.size 45 3 v (Fr.all l).1.length (atCells (Fr.all l).1) ∧ Below w.heap.size w w' := by
  obtain ⟨i0, hi, hz0, hz1, hz2⟩ := info_parts info_At
  go_enter Try.func16, Try.ntmps16
  go_wp2_with fail
  go_loopw [4, 5] (fun v i wr => ∃ (p : Nat) (out : List (Nat × (UInt8 × List UInt8))), p ≤ l.length ∧ i = .int .i64 p ∧ out.length ≤ p ∧ wr.ownsRow w.heap.size 45 3 v out.length (atCells out) ∧ Below w.heap.size w wr ∧ Fr.all l = (out ++ (Fr.allGo l p).1, (Fr.allGo l p).2)) (fun _ i _ => l.length - (intOf i).toNat)
  case atStart => exact ⟨0, [], Nat.zero_le _, rfl, Nat.zero_le _, World.ownsRow_nil _ _ _ _, Below.refl _ _, rfl⟩
  case round =>
    obtain ⟨p, out, hp, rfl, hol, hown, hb, hgo⟩ := hrel
    have HG := Lib.hid hgo
    clear hgo
    have hbs := hb.size
    by_cases hlt : p < l.length
    · obtain ⟨f, n, e, ht⟩ : ∃ f n e, Fr.take (l.drop p) = (f, n, e) := ⟨_, _, _, rfl⟩
      obtain ⟨q1, q2, q3⟩ := Fr.take_len (l.drop p)
      rw [ht] at q1 q2 q3
      simp only [List.length_drop] at q1 q2 q3
      have hT : ∀ W, Calls Try.prog 14 #[.string ((Cd.bs l).extract p l.length)] W fun e' w' => e' = .returned (frameV (f, n, e)) ∧ Below W.heap.size W w' := fun W => by
        have hx : (Cd.bs l).extract p l.length = Cd.bs (l.drop p) := by rw [ByteArray.extract_mk, List.take_of_length_le (by simp)]
        rw [hx]
        have := frameTaker_any (l.drop p) W (by rw [List.length_drop]; omega)
        rwa [ht] at this
      have HT := Lib.hid hT
      have HTT := Lib.hid ht
      clear hT ht
      by_cases he : e = 0
      · subst he
        have h5 := q2 rfl
        clear q2 q3
        go_wp2_with (first
          | (go_at_call 14; refine (HT.out _).mono ?_; rintro e w1 ⟨rfl, hb1⟩; have hown1 := own_below hown hb1; have hb1' := hb.trans (hb1.mono hbs); have hs1 := hb1'.size)
          | (at_builtin; refine wpList_append_own _ rfl _ _ 38 rfl w.heap.size 45 i0 (.agg #[.int .i64 0, .int .u8 0, .string ⟨#[]⟩]) 3 32 Try.underlying38 hi hz0 hz1 hz2 rfl (by decide) _ _ _ rfl ((hown1.alloc _).alloc _) ⟨w1.heap.size + 1, 0, none⟩ 1 1 [_, _, _] rfl rfl (by simpa using cell_three_new (w1.alloc (.cells #[.int .u8 f.1.toNat, .string (Cd.bs f.2)] 23)) _ _ _ _) (by simp [Value.oneCell']) (by unfold maxLen; omega) (by omega) (by simp; omega) ?_; intro v' w2 hown2 hgrow _; have hb2 := ((hb1'.alloc hs1 _).alloc (by simp; omega) _).grown hgrow (by simp; omega) (fun j hj => (hown1.lt j hj).1); clear hgrow))
        go_roundw
        case rel => exact ⟨p + n, out ++ [(p, f)], by omega, by go_num, by simp; omega, by rw [atCells_snoc, List.length_append, List.length_singleton]; exact hown2, hb2, by
          rw [HG.out, Fr.allGo_more (l := l) (p := p) (by rw [HTT.out]; exact ⟨hlt, rfl, by show 0 < n; omega⟩), HTT.out]; simp⟩
        case measure => simp [intOf]; omega
      · have hbe : (((e : Nat) : Int) == 0) = false := by simp; omega
        clear q2 q3
        go_wp2_with (first
          | (go_at_call 14; refine (HT.out _).mono ?_; rintro e w1 ⟨rfl, hb1⟩; have hown1 := own_below hown hb1; have hb1' := hb.trans (hb1.mono hbs); have hs1 := hb1'.size))
        have hst := Fr.allGo_stop (l := l) (p := p) (by rw [HTT.out]; rintro ⟨_, h, _⟩; exact he h)
        have hg := HG.out
        rw [hst, List.append_nil] at hg
        go_ret2
        exact ⟨_, by rw [hg]; rfl, by rw [hg]; exact hown1.alloc _, hb1'.alloc hs1 _⟩
    · obtain rfl : p = l.length := by omega
      have hst := Fr.allGo_stop (l := l) (p := l.length) (by rintro ⟨h, _⟩; omega)
      have hg := HG.out
      rw [hst, List.append_nil] at hg
      have HGG := Lib.hid hg
      clear hst hg
      go_wp2_with fail
      go_ret2
      exact ⟨_, by rw [HGG.out]; rfl, by rw [HGG.out]; exact hown, hb⟩
end Go.Proofs.Ytgbfaabidplajaa
