/-
  The program's skip list: a node put in, level by level; plain.
-/
import Derived.Test.YtgfpkbdinfdkfaaMemLook
namespace Go.Proofs.Ytgfpkbdinfdkfaa
open Go.RowKit
set_option linter.unusedSimpArgs false
set_option linter.unusedVariables false
namespace Md
open Op (bytesLess)
open Mt (Ver VerIn VerW verV lessB)
theorem nodup_ne {L u t : List Nd} {c d : Nd} (h : (L.map (·.b)).Nodup) (e : L = u ++ c :: t) (hd : d ∈ t) : c.b ≠ d.b := by
  subst e
  rw [List.map_append, List.map_cons, List.nodup_append] at h
  have := (List.nodup_cons.1 h.2.1).1
  exact fun e => this (e ▸ List.mem_map_of_mem hd)
theorem nodup_ne' {L u t : List Nd} {c d : Nd} (h : (L.map (·.b)).Nodup) (e : L = u ++ c :: t) (hd : d ∈ u) : d.b ≠ c.b := by
  subst e
  rw [List.map_append, List.map_cons, List.nodup_append] at h
  exact h.2.2 d.b (List.mem_map_of_mem hd) c.b (List.mem_cons_self ..)
theorem chain_iff {W : World} : ∀ {ns : List Nd}, Chain W ns ↔ ∀ a c r, ns = a ++ c :: r → Ob.Obj W c.b 69 (ndC c r)
  | [] => ⟨fun _ a c r e => by cases a <;> simp at e, fun _ => trivial⟩
  | x :: ns => by
    constructor
    · intro h a c r e
      rw [e] at h
      exact h.at_
    · intro h
      exact ⟨h [] x ns rfl, chain_iff.2 fun a c r e => h (x :: a) c r (by rw [e]; rfl)⟩
/-- where a node of a row with one in between lies -/
theorem split3 {pre post a r : List Nd} {x c : Nd} (e : pre ++ x :: post = a ++ c :: r) :
    (∃ s, pre = a ++ c :: s ∧ r = s ++ x :: post) ∨ (a = pre ∧ c = x ∧ r = post) ∨ (∃ s, a = pre ++ x :: s ∧ post = s ++ c :: r) := by
  rcases List.append_eq_append_iff.1 e with ⟨a', h1, h2⟩ | ⟨a', h1, h2⟩
  · cases a' with
    | nil =>
      simp only [List.nil_append, List.cons.injEq] at h2
      exact .inr (.inl ⟨by rw [h1]; simp, h2.1.symm, h2.2.symm⟩)
    | cons y s =>
      simp only [List.cons_append, List.cons.injEq] at h2
      obtain ⟨rfl, h2⟩ := h2
      exact .inr (.inr ⟨s, h1, h2⟩)
  · cases a' with
    | nil =>
      simp only [List.nil_append, List.cons.injEq] at h2
      exact .inr (.inl ⟨by rw [h1]; simp, h2.1, h2.2⟩)
    | cons y s =>
      simp only [List.cons_append, List.cons.injEq] at h2
      obtain ⟨rfl, h2⟩ := h2
      exact .inl ⟨s, h1, h2⟩
theorem nx_other {m l nb r : Nat} {v : Ver} {post : List Nd} (h : m ≠ l) : ∀ s : List Nd, nx m (s ++ ⟨nb, v, l, r⟩ :: post) = nx m (s ++ ⟨nb, v, l + 1, r⟩ :: post)
  | [] => by
    unfold nx
    by_cases hm : m < l
    · rw [List.nil_append, List.nil_append, List.find?_cons_of_pos (by simpa using hm), List.find?_cons_of_pos (by simp; omega)]
    · rw [List.nil_append, List.nil_append, List.find?_cons_of_neg (by simp; omega), List.find?_cons_of_neg (by simp; omega)]
  | y :: s => by
    have ih := nx_other (nb := nb) (r := r) (v := v) (post := post) h s
    unfold nx at *
    by_cases hy : m < y.h
    · rw [List.cons_append, List.cons_append, List.find?_cons_of_pos (by simpa using hy), List.find?_cons_of_pos (by simpa using hy)]
    · rw [List.cons_append, List.cons_append, List.find?_cons_of_neg (by simpa using hy), List.find?_cons_of_neg (by simpa using hy)]
      exact ih
theorem nx_ahead {l : Nat} {c : Nd} (hc : l < c.h) {t t' u : List Nd} : ∀ s : List Nd, nx l (s ++ c :: u ++ t) = nx l (s ++ c :: u ++ t')
  | [] => by
    unfold nx
    rw [List.nil_append, List.cons_append, List.cons_append, List.find?_cons_of_pos (by simpa using hc), List.find?_cons_of_pos (by simpa using hc)]
  | y :: s => by
    have ih := nx_ahead hc (t := t) (t' := t') (u := u) s
    unfold nx at *
    by_cases hy : l < y.h
    · rw [List.cons_append, List.cons_append, List.cons_append, List.find?_cons_of_pos (by simpa using hy), List.find?_cons_of_pos (by simpa using hy)]
    · rw [List.cons_append, List.cons_append, List.cons_append, List.find?_cons_of_neg (by simpa using hy), List.find?_cons_of_neg (by simpa using hy)]
      exact ih
/-- the table with a node put in up to a level -/
structure Half (tb : Nat) (ns : List Nd) (many bytes : Int) (W : World) : Prop where
  head : Ob.Obj W tb 60 (hdC ns many bytes)
  chain : Chain W ns
theorem hdC_set {ns ns' : List Nd} {many bytes : Int} {l : Nat} {u : Value} (hl : l < 8) (e : ∀ m, m < 8 → m ≠ l → nx m ns' = nx m ns) (hv : nx l ns' = u) : hdC ns' many bytes = (hdC ns many bytes).set l u := by
  have : links 8 ns' = (links 8 ns).set l u := links_set hl (fun m hm hml => by unfold lk; rw [if_pos hm, if_pos hm, e m hm hml]) (by unfold lk; rw [if_pos hl]; exact hv)
  unfold hdC
  rw [this, List.set_append_left _ _ (by rw [links_len]; exact hl)]
theorem ndC_set {c : Nd} {r r' : List Nd} {l : Nat} {u : Value} (hl : l < 8) (hc : l < c.h) (e : ∀ m, m < 8 → m ≠ l → nx m r' = nx m r) (hv : nx l r' = u) : ndC c r' = (ndC c r).set (5 + l) u := by
  have : links c.h r' = (links c.h r).set l u := links_set hl (fun m hm hml => by unfold lk; rw [e m hm hml]) (by unfold lk; rw [if_pos hc]; exact hv)
  unfold ndC
  rw [this, List.set_append_right _ _ (by simp)]
  simp
theorem ndC_same {c : Nd} {r r' : List Nd} (e : ∀ m, m < 8 → m < c.h → nx m r' = nx m r) : ndC c r' = ndC c r := by
  have : links c.h r' = links c.h r := links_ext fun m hm => by
    unfold lk
    by_cases h : m < c.h
    · rw [if_pos h, if_pos h, e m hm h]
    · rw [if_neg h, if_neg h]
  unfold ndC
  rw [this]
/-- ONE LEVEL MORE -/
theorem half_step {tb nb r : Nat} {v : Ver} {pre post : List Nd} {many bytes : Int} {W : World} {l : Nat} {st : St} (hl : l < 8)
    (H : Half tb (pre ++ ⟨nb, v, l, r⟩ :: post) many bytes W) (hnd : (tb :: (pre ++ (⟨nb, v, l, r⟩ : Nd) :: post).map (·.b)).Nodup)
    (hs : Stands pre st) (hr : ∀ x ∈ st.rest, x.h ≤ l) (hc : ∀ c, st.cur = some c → l < c.h) :
    Half tb (pre ++ ⟨nb, v, l + 1, r⟩ :: post) many bytes ((W.setCell ⟨nb, 5 + l, none⟩ (nx l post)).setCell ⟨twB tb st.cur, twO st.cur + l, none⟩ (.pointer (some ⟨nb, 0, none⟩))) := by
  obtain ⟨hnh, hnn⟩ := List.nodup_cons.1 hnd
  have tne : ∀ d ∈ (pre ++ (⟨nb, v, l, r⟩ : Nd) :: post), tb ≠ d.b := fun d hd e => hnh (e ▸ List.mem_map_of_mem hd)
  have hxm : (⟨nb, v, l, r⟩ : Nd) ∈ pre ++ (⟨nb, v, l, r⟩ : Nd) :: post := by simp
  have hnbt : tb ≠ nb := tne _ hxm
  have hpm : ∀ d ∈ pre, d ∈ pre ++ (⟨nb, v, l, r⟩ : Nd) :: post := fun d hd => List.mem_append_left _ hd
  have hqm : ∀ d ∈ post, d ∈ pre ++ (⟨nb, v, l, r⟩ : Nd) :: post := fun d hd => List.mem_append_right _ (List.mem_cons_of_mem _ hd)
  have hcpre : ∀ c, st.cur = some c → c ∈ pre := fun c h => by
    rcases hs with ⟨h1, _⟩ | ⟨a, c', h1, h2⟩
    · rw [h1] at h; cases h
    · rw [h1] at h; injection h with h; subst h; rw [h2]; simp
  have hcb : ∀ c, st.cur = some c → nb ≠ c.b := fun c h e => nodup_ne' hnn rfl (hcpre c h) e.symm
  constructor
  · -- the head
    have h0 := H.head.other (p := ⟨nb, 5 + l, none⟩) hnbt (nx l post)
    rcases hs with ⟨h1, h2⟩ | ⟨a, c, h1, h2⟩
    · rw [h1]
      have := h0.set l (.pointer (some ⟨nb, 0, none⟩))
      rw [← hdC_set (ns := pre ++ ⟨nb, v, l, r⟩ :: post) (ns' := pre ++ ⟨nb, v, l + 1, r⟩ :: post) hl (fun m _ hm => (nx_other hm _).symm) (by rw [find_here (by rw [← h2]; exact hr) (by simp)])] at this
      simpa [twB, twO] using this
    · rw [h1]
      have h3 := h0.other (p := ⟨twB tb (some c), twO (some c) + l, none⟩) (tne _ (hpm _ (hcpre c h1))) (.pointer (some ⟨nb, 0, none⟩))
      have e : hdC (pre ++ ⟨nb, v, l + 1, r⟩ :: post) many bytes = hdC (pre ++ ⟨nb, v, l, r⟩ :: post) many bytes := by
        have : links 8 (pre ++ ⟨nb, v, l + 1, r⟩ :: post) = links 8 (pre ++ ⟨nb, v, l, r⟩ :: post) := links_ext fun m hm => by
          unfold lk
          rw [if_pos hm, if_pos hm]
          by_cases hml : m = l
          · subst hml; rw [h2]; exact nx_ahead (hc c h1) _
          · exact (nx_other hml _).symm
        unfold hdC
        rw [this]
      rw [e]
      exact h3
  · refine chain_iff.2 fun a c s e => ?_
    rcases split3 e with ⟨s', e1, e2⟩ | ⟨e1, e2, e3⟩ | ⟨s', e1, e2⟩
    · -- a node ahead
      have hcp : c ∈ pre := by rw [e1]; simp
      have ho := (show Chain W (a ++ c :: (s' ++ ⟨nb, v, l, r⟩ :: post)) from by have := H.chain; rw [e1] at this; simpa using this).at_
      have h0 := ho.other (p := ⟨nb, 5 + l, none⟩) (fun e => nodup_ne' hnn rfl hcp e) (nx l post)
      subst e2
      rcases hs with ⟨h1, h2⟩ | ⟨a2, d, h1, h2⟩
      · have h3 := h0.other (p := ⟨twB tb st.cur, twO st.cur + l, none⟩) (by rw [h1]; exact fun e => tne _ (hpm _ hcp) e.symm) (.pointer (some ⟨nb, 0, none⟩))
        have hch : c.h ≤ l := hr c (by rw [h2]; exact hcp)
        rw [ndC_same (r := s' ++ ⟨nb, v, l, r⟩ :: post) (fun m hm hmc => (nx_other (by omega) _).symm)]
        exact h3
      · have hd := hc d h1
        rw [h1]
        have e3 := e1.symm.trans h2
        rcases List.append_eq_append_iff.1 e3 with ⟨t, k1, k2⟩ | ⟨t, k1, k2⟩
        · cases t with
          | nil =>
            simp only [List.nil_append, List.cons.injEq] at k2
            obtain ⟨rfl, k2⟩ := k2
            have h3 := h0.set (5 + l) (.pointer (some ⟨nb, 0, none⟩))
            rw [← ndC_set (r := s' ++ ⟨nb, v, l, r⟩ :: post) (r' := s' ++ ⟨nb, v, l + 1, r⟩ :: post) hl hd (fun m _ hm => (nx_other hm _).symm) (by rw [find_here (by rw [k2]; exact hr) (by simp)])] at h3
            exact h3
          | cons y t =>
            simp only [List.cons_append, List.cons.injEq] at k2
            obtain ⟨rfl, k2⟩ := k2
            have hne : c.b ≠ d.b := nodup_ne hnn (u := a) (c := c) (t := s' ++ ⟨nb, v, l, r⟩ :: post) (by rw [e1]; simp) (by rw [k2]; simp)
            have h3 := h0.other (p := ⟨twB tb (some d), twO (some d) + l, none⟩) hne (.pointer (some ⟨nb, 0, none⟩))
            rw [ndC_same (r := s' ++ ⟨nb, v, l, r⟩ :: post) (fun m hm hmc => by
              by_cases hml : m = l
              · subst hml; rw [k2]; exact nx_ahead hd _
              · exact (nx_other hml _).symm)]
            exact h3
        · cases t with
          | nil =>
            simp only [List.nil_append, List.cons.injEq] at k2
            obtain ⟨rfl, k2⟩ := k2
            have h3 := h0.set (5 + l) (.pointer (some ⟨nb, 0, none⟩))
            rw [← ndC_set (r := s' ++ ⟨nb, v, l, r⟩ :: post) (r' := s' ++ ⟨nb, v, l + 1, r⟩ :: post) hl hd (fun m _ hm => (nx_other hm _).symm) (by rw [find_here (by rw [← k2]; exact hr) (by simp)])] at h3
            exact h3
          | cons y t =>
            simp only [List.cons_append, List.cons.injEq] at k2
            obtain ⟨rfl, k2⟩ := k2
            have hcr : c ∈ st.rest := by rw [k2]; simp
            have hch := hr c hcr
            have hne : d.b ≠ c.b := nodup_ne hnn (u := a2) (c := d) (t := st.rest ++ ⟨nb, v, l, r⟩ :: post) (by rw [h2]; simp) (by simp [hcr])
            have h3 := h0.other (p := ⟨twB tb (some d), twO (some d) + l, none⟩) (fun e => hne e.symm) (.pointer (some ⟨nb, 0, none⟩))
            rw [ndC_same (r := s' ++ ⟨nb, v, l, r⟩ :: post) (fun m hm hmc => (nx_other (by omega) _).symm)]
            exact h3
    · -- the new node
      subst e1; subst e2; subst e3
      have ho := H.chain.at_
      have h0 := ho.set (5 + l) (nx l s)
      have h3 := h0.other (p := ⟨twB tb st.cur, twO st.cur + l, none⟩) (by
        show nb ≠ twB tb st.cur
        cases hcc : st.cur with
        | none => exact hnbt.symm
        | some d => exact hcb d hcc) (.pointer (some ⟨nb, 0, none⟩))
      have e4 : ndC ⟨nb, v, l + 1, r⟩ s = (ndC ⟨nb, v, l, r⟩ s).set (5 + l) (nx l s) := by
        have : links (l + 1) s = (links l s).set l (nx l s) := links_set hl (fun m hm hml => by
          unfold lk
          by_cases h : m < l
          · rw [if_pos h, if_pos (by omega)]
          · rw [if_neg h, if_neg (by omega)]) (by unfold lk; rw [if_pos (by omega)])
        unfold ndC
        simp only
        rw [this, List.set_append_right _ _ (by simp)]
        simp
      rw [e4]
      exact h3
    · -- a node behind
      have hcq : c ∈ post := by rw [e2]; simp
      have ho := (show Chain W ((pre ++ ⟨nb, v, l, r⟩ :: s') ++ c :: s) from by have := H.chain; rw [e2] at this; simpa using this).at_
      have h0 := ho.other (p := ⟨nb, 5 + l, none⟩) (fun e => nodup_ne hnn (u := pre) rfl hcq e.symm) (nx l post)
      exact h0.other (p := ⟨twB tb st.cur, twO st.cur + l, none⟩) (by
        show c.b ≠ twB tb st.cur
        cases hcc : st.cur with
        | none => exact fun e => tne _ (hqm _ hcq) e.symm
        | some d =>
          obtain ⟨u, t, ht⟩ := List.append_of_mem (hcpre d hcc)
          exact fun e => nodup_ne hnn (u := u) (c := d) (t := t ++ ⟨nb, v, l, r⟩ :: post) (by rw [ht]; simp) (by simp [hcq]) e.symm) _
/-- a node without a tower is not met -/
theorem nx_flat {m nb r : Nat} {v : Ver} {post : List Nd} : ∀ s : List Nd, nx m (s ++ ⟨nb, v, 0, r⟩ :: post) = nx m (s ++ post)
  | [] => by unfold nx; rw [List.nil_append, List.find?_cons_of_neg (by simp)]; rfl
  | y :: s => by
    have ih := nx_flat (m := m) (nb := nb) (r := r) (v := v) (post := post) s
    unfold nx at *
    by_cases hy : m < y.h
    · rw [List.cons_append, List.cons_append, List.find?_cons_of_pos (by simpa using hy), List.find?_cons_of_pos (by simpa using hy)]
    · rw [List.cons_append, List.cons_append, List.find?_cons_of_neg (by simpa using hy), List.find?_cons_of_neg (by simpa using hy)]
      exact ih
theorem half_start {tb nb r : Nat} {v : Ver} {pre post : List Nd} {many bytes : Int} {W : World}
    (H : Half tb (pre ++ post) many bytes W) (hn : Ob.Obj W nb 69 (ndC ⟨nb, v, 0, r⟩ post)) : Half tb (pre ++ ⟨nb, v, 0, r⟩ :: post) many bytes W := by
  constructor
  · have : links 8 (pre ++ ⟨nb, v, 0, r⟩ :: post) = links 8 (pre ++ post) := links_ext fun m hm => by unfold lk; rw [if_pos hm, if_pos hm]; exact nx_flat _
    unfold hdC
    rw [this]
    exact H.head
  · refine chain_iff.2 fun a c s e => ?_
    rcases split3 e with ⟨s', e1, e2⟩ | ⟨e1, e2, e3⟩ | ⟨s', e1, e2⟩
    · have ho := (show Chain W (a ++ c :: (s' ++ post)) from by have := H.chain; rw [e1] at this; simpa using this).at_
      rw [e2, ndC_same (r := s' ++ post) (fun m _ _ => nx_flat _)]
      exact ho
    · subst e2; subst e3; exact hn
    · exact (show Chain W ((pre ++ s') ++ c :: s) from by have := H.chain; rw [e2] at this; simpa using this).at_
end Md
end Go.Proofs.Ytgfpkbdinfdkfaa
