/-
  The program's nodes and the document's table: plain.
-/
import Derived.Test.YtgfpkbdinfdkfaaMemAddNew
import Derived.Test.YtgfpkbdinfdkfaaMemLevelDev
import Derived.Test.YtgfpkbdinfdkfaaMemFromSeq
import Derived.Test.YtgfpkbdinfdkfaaMemStepsR
namespace Go.Proofs.Ytgfpkbdinfdkfaa
open Go.RowKit
set_option linter.unusedSimpArgs false
set_option linter.unusedVariables false
namespace Md
open Op (bytesLess)
open Mt (Ver VerIn VerW verV lessB mayB placeB Tab vers put there spot fromL inGo stGo)
def tabOf (ns : List Nd) : Tab := ns.map fun x => (x.v, x.h)
theorem tab_len (ns : List Nd) : (tabOf ns).length = ns.length := by simp [tabOf]
theorem tab_get (ns : List Nd) (i : Nat) (h : i < (tabOf ns).length) : (tabOf ns)[i] = ((ns[i]'(by rw [tab_len] at h; exact h)).v, (ns[i]'(by rw [tab_len] at h; exact h)).h) := List.getElem_map ..
theorem tab_vers (ns : List Nd) : vers (tabOf ns) = ns.map (·.v) := by simp [tabOf, vers]
theorem tab_put (ns : List Nd) (v : Ver) (h nb r : Nat) : tabOf (preOf ns v ++ ⟨nb, v, h, r⟩ :: postOf ns v) = put (tabOf ns) v h := by
  unfold put
  rw [Mt.take_spot, Mt.drop_spot]
  unfold tabOf preOf postOf
  rw [List.map_append, List.map_cons, List.takeWhile_map, List.dropWhile_map]
  rfl
theorem tab_there (ns : List Nd) (v : Ver) : there (tabOf ns) v = thereN ns v := by
  unfold there thereN
  rw [tab_vers, List.any_map]
  rfl
theorem tab_ordered {ns : List Nd} (h : (ns.map (·.v)).Pairwise fun a b => lessB a b = true) : Mt.Ordered (tabOf ns) := by
  unfold Mt.Ordered
  rw [tab_vers]
  exact h
theorem may_in {v : Ver} (h : mayB v = true) : VerIn v := by
  unfold mayB at h
  simp only [Bool.and_eq_true, decide_eq_true_eq] at h
  obtain ⟨⟨⟨⟨⟨h1, h2⟩, h3⟩, h4⟩, h5⟩, _⟩ := h
  exact ⟨by omega, by omega, by omega, by omega⟩
theorem tab_in {ns : List Nd} (h : ∀ x ∈ ns, mayB x.v = true) : ∀ x ∈ tabOf ns, VerIn x.1 := by
  intro x hx
  obtain ⟨y, hy, rfl⟩ := List.mem_map.1 hx
  exact may_in (h y hy)
theorem vers_mem {ns : List Nd} (h : ∀ x ∈ ns, mayB x.v = true) : ∀ x ∈ ns.map (·.v), VerIn x := by
  intro x hx
  obtain ⟨y, hy, rfl⟩ := List.mem_map.1 hx
  exact may_in (h y hy)
theorem tab_level {ns : List Nd} (l : Nat) : Mt.level (tabOf ns) (l : Int) = lvN ns l := by
  unfold Mt.level lvN tabOf
  rw [List.filter_map, List.map_map]
  have e : ((fun x : Ver × Nat => decide (0 ≤ (l : Int) ∧ (l : Int) < (x.2 : Int))) ∘ fun x : Nd => (x.v, x.h)) = fun x => decide (l < x.h) := by
    funext x
    simp
  rw [e]
  rfl
theorem tab_level_out {ns : List Nd} (hh : ∀ x ∈ ns, x.h ≤ 8) {l : Int} (h : l < 0 ∨ 8 ≤ l) : Mt.level (tabOf ns) l = [] := by
  unfold Mt.level
  rw [List.map_eq_nil_iff, List.filter_eq_nil_iff]
  intro x hx
  obtain ⟨y, hy, rfl⟩ := List.mem_map.1 hx
  have := hh y hy
  simp
  omega
/-- a place ahead of a key -/
theorem top_less {v : Ver} (h : mayB v = true) (key : List UInt8) : lessB v (topV key) = bytesLess v.key key := by
  have h2 := (may_in h).2.2.2
  unfold lessB topV
  simp only
  by_cases e : v.key = key
  · rw [if_pos e, e, Mt.bl_irrefl]
    exact decide_eq_false (by omega)
  · rw [if_neg e]
theorem tab_from {ns : List Nd} (ho : (ns.map (·.v)).Pairwise fun a b => lessB a b = true) (hm : ∀ x ∈ ns, mayB x.v = true) (key : List UInt8) : (postOf ns (topV key)).map (·.v) = fromL (ns.map (·.v)) key := by
  have hp := pre_post ns (topV key)
  have h1 := pre_less ns (topV key)
  have h2 := post_not ho (topV key)
  have hm1 : ∀ x ∈ preOf ns (topV key), mayB x.v = true := fun x hx => hm x (by rw [← hp]; exact List.mem_append_left _ hx)
  have hm2 : ∀ x ∈ postOf ns (topV key), mayB x.v = true := fun x hx => hm x (by rw [← hp]; exact List.mem_append_right _ hx)
  conv => rhs; rw [← hp]
  unfold fromL
  rw [List.map_append, List.filter_append]
  rw [show ((preOf ns (topV key)).map (·.v)).filter (fun x => !bytesLess x.key key) = [] from by
    rw [List.filter_eq_nil_iff]
    intro x hx
    obtain ⟨y, hy, rfl⟩ := List.mem_map.1 hx
    have := h1 y hy
    rw [top_less (hm1 y hy)] at this
    simp [this]]
  rw [List.nil_append]
  symm
  rw [List.filter_eq_self]
  intro x hx
  obtain ⟨y, hy, rfl⟩ := List.mem_map.1 hx
  have := h2 y hy
  rw [top_less (hm2 y hy)] at this
  simp [this]
/-- along one level -/
theorem in_walk {pre post : List Nd} {key : List UInt8} (hp1 : ∀ x ∈ pre, bytesLess x.v.key key = true) (hp2 : ∀ x ∈ post, bytesLess x.v.key key = false) (l : Nat) :
    ∀ (scan : List Nd) (i : Nat) (st : St) (p : Int), pre.drop i = scan → i ≤ pre.length → p + 1 = ((pre.length - st.rest.length : Nat) : Int) →
      ∃ p', inGo (tabOf (pre ++ post)) key (l : Int) ((tabOf (pre ++ post)).length - i) i p st.n = (p', (walkL l st scan).n) ∧ p' + 1 = ((pre.length - (walkL l st scan).rest.length : Nat) : Int)
  | [], i, st, p, hd, hi, hp => by
    have hie : i = pre.length := by
      have := congrArg List.length hd
      rw [List.length_drop] at this
      simp at this
      omega
    refine ⟨p, ?_, hp⟩
    have hlen : (tabOf (pre ++ post)).length = pre.length + post.length := by rw [tab_len, List.length_append]
    by_cases hlt : i < (tabOf (pre ++ post)).length
    · have hq : (tabOf (pre ++ post))[i].1 ∈ post.map (·.v) := by
        rw [tab_get]
        rw [hlen] at hlt
        simp only
        rw [List.getElem_append_right (by omega)]
        exact List.mem_map_of_mem (List.getElem_mem _)
      obtain ⟨y, hy, he⟩ := List.mem_map.1 hq
      have hk : bytesLess (tabOf (pre ++ post))[i].1.key key = false := by rw [← he]; exact hp2 y hy
      rw [Mt.in_stop hlt hk]
      rfl
    · rw [Mt.in_end (by omega)]
      rfl
  | x :: s, i, st, p, hd, hi, hp => by
    have hil : i < pre.length := by
      rcases Nat.lt_or_ge i pre.length with h | h
      · exact h
      · rw [List.drop_of_length_le h] at hd; cases hd
    have hx : pre[i] = x := by
      rw [List.drop_eq_getElem_cons hil] at hd
      injection hd
    have hds : pre.drop (i + 1) = s := by
      rw [List.drop_eq_getElem_cons hil] at hd
      injection hd
    have hlt : i < (tabOf (pre ++ post)).length := by rw [tab_len, List.length_append]; omega
    have hti : (tabOf (pre ++ post))[i] = (x.v, x.h) := by
      rw [tab_get]
      simp only [List.getElem_append_left hil, hx]
    have hk : bytesLess (tabOf (pre ++ post))[i].1.key key = true := by rw [hti]; exact hp1 x (hx ▸ List.getElem_mem hil)
    rw [Mt.in_step hlt hk, hti]
    rw [walkL]
    simp only
    by_cases hl : l < x.h
    · rw [if_pos (by omega), if_pos hl]
      have hsl : s.length = pre.length - (i + 1) := by rw [← hds, List.length_drop]
      exact in_walk hp1 hp2 l s (i + 1) ⟨some x, s, st.n + 1⟩ (i : Int) hds (by omega) (by show (i : Int) + 1 = ((pre.length - s.length : Nat) : Int); omega)
    · rw [if_neg (by omega), if_neg hl]
      exact in_walk hp1 hp2 l s (i + 1) st p hds (by omega) hp
theorem stands_drop {pre : List Nd} {st : St} (h : Stands pre st) : pre.drop (pre.length - st.rest.length) = st.rest ∧ st.rest.length ≤ pre.length := by
  rcases h with ⟨_, h⟩ | ⟨a, c, _, h⟩
  · rw [h]; simp
  · rw [h]
    have : (a ++ c :: st.rest).length - st.rest.length = a.length + 1 := by rw [List.length_append, List.length_cons]; omega
    rw [this]
    refine ⟨?_, by rw [List.length_append, List.length_cons]; omega⟩
    rw [show a ++ c :: st.rest = (a ++ [c]) ++ st.rest by simp, show a.length + 1 = (a ++ [c]).length by simp]
    exact List.drop_left
theorem st_walk {pre post : List Nd} {key : List UInt8} (hp1 : ∀ x ∈ pre, bytesLess x.v.key key = true) (hp2 : ∀ x ∈ post, bytesLess x.v.key key = false) :
    ∀ (k j : Nat) (p : Int), k + j = 8 → p + 1 = ((pre.length - (stJ pre j).rest.length : Nat) : Int) → stGo (tabOf (pre ++ post)) key k p (stJ pre j).n = (stJ pre 8).n
  | 0, j, p, hj, _ => by
    obtain rfl : j = 8 := by omega
    rfl
  | k + 1, j, p, hj, hp => by
    obtain ⟨h1, h2⟩ := stands_drop (stJ_stands pre j)
    rw [stGo]
    have hi : (p + 1).toNat = pre.length - (stJ pre j).rest.length := by rw [hp]; rfl
    rw [hi]
    obtain ⟨p', e1, e2⟩ := in_walk (post := post) hp1 hp2 k (stJ pre j).rest _ (stJ pre j) p h1 (by omega) hp
    have hs : walkL k (stJ pre j) (stJ pre j).rest = stJ pre (j + 1) := by
      show _ = walkL (7 - j) (stJ pre j) (stJ pre j).rest
      rw [show 7 - j = k by omega]
    rw [hs] at e1 e2
    rw [e1]
    exact st_walk hp1 hp2 k (j + 1) p' (by omega) e2
theorem tab_steps {ns : List Nd} (ho : (ns.map (·.v)).Pairwise fun a b => lessB a b = true) (hm : ∀ x ∈ ns, mayB x.v = true) (key : List UInt8) : Mt.steps (tabOf ns) key = (stJ (preOf ns (topV key)) 8).n := by
  have hp := pre_post ns (topV key)
  have h1 := pre_less ns (topV key)
  have h2 := post_not ho (topV key)
  have hm1 : ∀ x ∈ preOf ns (topV key), mayB x.v = true := fun x hx => hm x (by rw [← hp]; exact List.mem_append_left _ hx)
  have hm2 : ∀ x ∈ postOf ns (topV key), mayB x.v = true := fun x hx => hm x (by rw [← hp]; exact List.mem_append_right _ hx)
  unfold Mt.steps
  have := st_walk (pre := preOf ns (topV key)) (post := postOf ns (topV key)) (key := key) (fun x hx => by rw [← top_less (hm1 x hx)]; exact h1 x hx) (fun x hx => by rw [← top_less (hm2 x hx)]; exact h2 x hx) 8 0 (-1) rfl (by show (-1 : Int) + 1 = (((preOf ns (topV key)).length - (preOf ns (topV key)).length : Nat) : Int); omega)
  rw [hp] at this
  exact this
end Md
end Go.Proofs.Ytgfpkbdinfdkfaa
