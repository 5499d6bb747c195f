/-
  The program's skip list: how it lies in memory, what a look goes along; plain.
-/
import Derived.Test.YtgfpkbdinfdkfaaMemPlain
import Derived.Test.YtgfpkbdinfdkfaaVersOwn
namespace Go.Proofs.Ytgfpkbdinfdkfaa
open Go.RowKit
set_option linter.unusedSimpArgs false
set_option linter.unusedVariables false
namespace Md
open Op (bytesLess)
open Mt (Ver VerIn verV lessB)
/-- a node: its block, its version, its tower's height, its rank -/
structure Nd where
  b : Nat
  v : Ver
  h : Nat
  r : Nat
/-- the pointer to the first node of a row that is higher than a level -/
def nx (l : Nat) (rest : List Nd) : Value := match rest.find? (fun x => decide (l < x.h)) with | some x => .pointer (some ⟨x.b, 0, none⟩) | none => .pointer none
/-- a link at a level, of a tower of a height -/
def lk (h : Nat) (rest : List Nd) (l : Nat) : Value := if l < h then nx l rest else .pointer none
def links (h : Nat) (rest : List Nd) : List Value := [lk h rest 0, lk h rest 1, lk h rest 2, lk h rest 3, lk h rest 4, lk h rest 5, lk h rest 6, lk h rest 7]
def ndC (x : Nd) (rest : List Nd) : List Value := [.string (Cd.bs x.v.key), .int .u64 x.v.seq, .bool x.v.del, .string (Cd.bs x.v.val), .int .i64 (x.r : Int)] ++ links x.h rest
def hdC (ns : List Nd) (many bytes : Int) : List Value := links 8 ns ++ [.int .i64 many, .int .i64 bytes]
theorem links_get (h : Nat) (rest : List Nd) (l : Nat) (hl : l < 8) : (links h rest)[l]? = some (lk h rest l) := by
  match l, hl with
  | 0, _ => rfl
  | 1, _ => rfl
  | 2, _ => rfl
  | 3, _ => rfl
  | 4, _ => rfl
  | 5, _ => rfl
  | 6, _ => rfl
  | 7, _ => rfl
theorem links_len (h : Nat) (rest : List Nd) : (links h rest).length = 8 := rfl
theorem ndC_link (x : Nd) (rest : List Nd) (l : Nat) (hl : l < 8) : (ndC x rest)[5 + l]? = some (lk x.h rest l) := by
  rw [show ndC x rest = [.string (Cd.bs x.v.key), .int .u64 x.v.seq, .bool x.v.del, .string (Cd.bs x.v.val), .int .i64 (x.r : Int)] ++ links x.h rest from rfl, List.getElem?_append_right (by simp)]
  simpa using links_get x.h rest l hl
theorem hdC_link (ns : List Nd) (m b : Int) (l : Nat) (hl : l < 8) : (hdC ns m b)[l]? = some (lk 8 ns l) := by
  rw [show hdC ns m b = links 8 ns ++ [.int .i64 m, .int .i64 b] from rfl, List.getElem?_append_left (by rw [links_len]; exact hl)]
  exact links_get 8 ns l hl
theorem links_ext {h h' : Nat} {r r' : List Nd} (e : ∀ l, l < 8 → lk h r l = lk h' r' l) : links h r = links h' r' := by
  unfold links
  rw [e 0 (by decide), e 1 (by decide), e 2 (by decide), e 3 (by decide), e 4 (by decide), e 5 (by decide), e 6 (by decide), e 7 (by decide)]
theorem links_set {h h' : Nat} {r r' : List Nd} {j : Nat} {v : Value} (hj : j < 8) (e : ∀ l, l < 8 → l ≠ j → lk h r l = lk h' r' l) (hv : lk h r j = v) : links h r = (links h' r').set j v := by
  subst hv
  unfold links
  match j, hj with
  | 0, _ => simp only [List.set]; rw [e 1 (by decide) (by decide), e 2 (by decide) (by decide), e 3 (by decide) (by decide), e 4 (by decide) (by decide), e 5 (by decide) (by decide), e 6 (by decide) (by decide), e 7 (by decide) (by decide)]
  | 1, _ => simp only [List.set]; rw [e 0 (by decide) (by decide), e 2 (by decide) (by decide), e 3 (by decide) (by decide), e 4 (by decide) (by decide), e 5 (by decide) (by decide), e 6 (by decide) (by decide), e 7 (by decide) (by decide)]
  | 2, _ => simp only [List.set]; rw [e 0 (by decide) (by decide), e 1 (by decide) (by decide), e 3 (by decide) (by decide), e 4 (by decide) (by decide), e 5 (by decide) (by decide), e 6 (by decide) (by decide), e 7 (by decide) (by decide)]
  | 3, _ => simp only [List.set]; rw [e 0 (by decide) (by decide), e 1 (by decide) (by decide), e 2 (by decide) (by decide), e 4 (by decide) (by decide), e 5 (by decide) (by decide), e 6 (by decide) (by decide), e 7 (by decide) (by decide)]
  | 4, _ => simp only [List.set]; rw [e 0 (by decide) (by decide), e 1 (by decide) (by decide), e 2 (by decide) (by decide), e 3 (by decide) (by decide), e 5 (by decide) (by decide), e 6 (by decide) (by decide), e 7 (by decide) (by decide)]
  | 5, _ => simp only [List.set]; rw [e 0 (by decide) (by decide), e 1 (by decide) (by decide), e 2 (by decide) (by decide), e 3 (by decide) (by decide), e 4 (by decide) (by decide), e 6 (by decide) (by decide), e 7 (by decide) (by decide)]
  | 6, _ => simp only [List.set]; rw [e 0 (by decide) (by decide), e 1 (by decide) (by decide), e 2 (by decide) (by decide), e 3 (by decide) (by decide), e 4 (by decide) (by decide), e 5 (by decide) (by decide), e 7 (by decide) (by decide)]
  | 7, _ => simp only [List.set]; rw [e 0 (by decide) (by decide), e 1 (by decide) (by decide), e 2 (by decide) (by decide), e 3 (by decide) (by decide), e 4 (by decide) (by decide), e 5 (by decide) (by decide), e 6 (by decide) (by decide)]

/-- nodes one behind the other -/
def Chain (W : World) : List Nd → Prop
  | [] => True
  | x :: r => Ob.Obj W x.b 69 (ndC x r) ∧ Chain W r
theorem Chain.at_ {W : World} : ∀ {a : List Nd} {x : Nd} {r : List Nd}, Chain W (a ++ x :: r) → Ob.Obj W x.b 69 (ndC x r)
  | [], _, _, h => h.1
  | _ :: a, _, _, h => Chain.at_ (a := a) h.2
theorem Chain.tail {W : World} : ∀ {a r : List Nd}, Chain W (a ++ r) → Chain W r
  | [], _, h => h
  | _ :: a, _, h => Chain.tail (a := a) h.2
theorem Chain.kept {T : Sq.Blocks} {W W' : World} : ∀ {ns : List Nd}, Chain W ns → Sq.Kept T W W' → (∀ x ∈ ns, T x.b) → Chain W' ns
  | [], _, _, _ => trivial
  | x :: r, h, hk, hT => ⟨h.1.kept hk (hT x (List.mem_cons_self ..)), Chain.kept h.2 hk (fun y hy => hT y (List.mem_cons_of_mem _ hy))⟩

/-- THE PROGRAM's TABLE at block tb: its nodes in order -/
structure TabAt (B0 tb : Nat) (ns : List Nd) (W : World) : Prop where
  head : Ob.Obj W tb 60 (hdC ns (ns.length : Int) ((ns.map fun x => x.v.key.length + x.v.val.length + 16).sum : Nat))
  chain : Chain W ns
  ord : (ns.map (·.v)).Pairwise fun a b => lessB a b = true
  hgt : ∀ x ∈ ns, 1 ≤ x.h ∧ x.h ≤ 8
  rank : ∀ x ∈ ns, x.r < ns.length
  may : ∀ x ∈ ns, Mt.mayB x.v = true
  nodup : (tb :: ns.map (·.b)).Nodup
  lo : B0 ≤ tb ∧ ∀ x ∈ ns, B0 ≤ x.b
/-- the blocks of a table -/
def Foot (tb : Nat) (ns : List Nd) : Sq.Blocks := fun k => k = tb ∨ ∃ x ∈ ns, x.b = k
theorem TabAt.kept {B0 tb : Nat} {ns : List Nd} {W W' : World} (h : TabAt B0 tb ns W) (hk : Sq.Kept (Foot tb ns) W W') : TabAt B0 tb ns W' :=
  { head := h.head.kept hk (.inl rfl), chain := h.chain.kept hk (fun x hx => .inr ⟨x, hx, rfl⟩), ord := h.ord, hgt := h.hgt, rank := h.rank, may := h.may, nodup := h.nodup, lo := h.lo }
theorem TabAt.below {B0 tb : Nat} {ns : List Nd} {W W' : World} (h : TabAt B0 tb ns W) (hb : Below W.heap.size W W') : TabAt B0 tb ns W' := h.kept (Sq.Kept.of_below hb)
theorem chain_lt {W : World} : ∀ {ns : List Nd}, Chain W ns → ∀ x ∈ ns, x.b < W.heap.size
  | x :: r, h, y, hy => by
    rcases List.mem_cons.1 hy with rfl | hy
    · exact h.1.lt
    · exact chain_lt h.2 y hy
theorem TabAt.foot {B0 tb : Nat} {ns : List Nd} {W : World} (h : TabAt B0 tb ns W) : ∀ k, Foot tb ns k → B0 ≤ k ∧ k < W.heap.size := by
  rintro k (rfl | ⟨x, hx, rfl⟩)
  · exact ⟨h.lo.1, h.head.lt⟩
  · exact ⟨h.lo.2 x hx, chain_lt h.chain x hx⟩

theorem find_cut {l : Nat} : ∀ {rest : List Nd} {post : List Nd}, (∀ x ∈ rest, x.h ≤ l) → nx l (rest ++ post) = nx l post
  | [], _, _ => rfl
  | x :: r, post, h => by
    have hx := h x (List.mem_cons_self ..)
    have ih := find_cut (l := l) (rest := r) (post := post) (fun y hy => h y (List.mem_cons_of_mem _ hy))
    unfold nx at *
    rw [List.cons_append, List.find?_cons_of_neg (by simp; omega)]
    exact ih
theorem find_here {l : Nat} {a : List Nd} {x : Nd} {s : List Nd} (h : ∀ y ∈ a, y.h ≤ l) (hx : l < x.h) : nx l (a ++ x :: s) = .pointer (some ⟨x.b, 0, none⟩) := by
  rw [find_cut h]
  unfold nx
  rw [List.find?_cons_of_pos (by simpa using hx)]
/-- a row without one higher, or up to the first such -/
theorem split_at (l : Nat) : ∀ rest : List Nd, (∀ x ∈ rest, x.h ≤ l) ∨ ∃ a x s, rest = a ++ x :: s ∧ (∀ y ∈ a, y.h ≤ l) ∧ l < x.h
  | [] => .inl (fun _ h => by cases h)
  | x :: r => by
    by_cases h : l < x.h
    · exact .inr ⟨[], x, r, rfl, fun _ h => (by cases h), h⟩
    · rcases split_at l r with h2 | ⟨a, y, s, rfl, h2, h3⟩
      · exact .inl fun y hy => by rcases List.mem_cons.1 hy with rfl | hy; omega; exact h2 y hy
      · exact .inr ⟨x :: a, y, s, rfl, fun z hz => by rcases List.mem_cons.1 hz with rfl | hz; omega; exact h2 z hz, h3⟩

/-- where a look stands: at the head or a node; what lies behind it up to the place; so many links -/
structure St where
  cur : Option Nd
  rest : List Nd
  n : Nat
def walkL (l : Nat) : St → List Nd → St
  | st, [] => st
  | st, x :: s => if l < x.h then walkL l ⟨some x, s, st.n + 1⟩ s else walkL l st s
theorem walkL_none {l : Nat} {st : St} : ∀ {rest : List Nd}, (∀ x ∈ rest, x.h ≤ l) → walkL l st rest = st
  | [], _ => rfl
  | x :: r, h => by
    have hx := h x (List.mem_cons_self ..)
    rw [walkL, if_neg (by omega)]
    exact walkL_none (fun y hy => h y (List.mem_cons_of_mem _ hy))
theorem walkL_here {l : Nat} {st : St} {x : Nd} {s : List Nd} (hx : l < x.h) : ∀ {a : List Nd}, (∀ y ∈ a, y.h ≤ l) → walkL l st (a ++ x :: s) = walkL l ⟨some x, s, st.n + 1⟩ s
  | [], _ => by rw [List.nil_append, walkL, if_pos hx]
  | y :: a, h => by
    have hy := h y (List.mem_cons_self ..)
    rw [List.cons_append, walkL, if_neg (by omega)]
    exact walkL_here hx (fun z hz => h z (List.mem_cons_of_mem _ hz))
/-- behind the levels 7 down to 8 - j -/
def stJ (pre : List Nd) : Nat → St
  | 0 => ⟨none, pre, 0⟩
  | j + 1 => walkL (7 - j) (stJ pre j) (stJ pre j).rest
/-- it stands somewhere in the row -/
def Stands (pre : List Nd) (st : St) : Prop := (st.cur = none ∧ st.rest = pre) ∨ ∃ a c, st.cur = some c ∧ pre = a ++ c :: st.rest
theorem walkL_stands {pre : List Nd} {l : Nat} : ∀ {scan : List Nd} {st : St}, Stands pre st → (∃ a, st.rest = a ++ scan) → Stands pre (walkL l st scan)
  | [], st, h, _ => h
  | x :: s, st, h, hs => by
    obtain ⟨a, ha⟩ := hs
    rw [walkL]
    split
    · refine walkL_stands ?_ ⟨[], rfl⟩
      rcases h with ⟨_, h2⟩ | ⟨a', c, _, h2⟩
      · exact .inr ⟨a, x, rfl, by rw [← h2]; exact ha⟩
      · exact .inr ⟨a' ++ c :: a, x, rfl, by rw [h2, ha]; simp⟩
    · exact walkL_stands h ⟨a ++ [x], by rw [ha]; simp⟩
theorem walkL_rest {l : Nat} : ∀ {scan : List Nd} {st : St}, (∀ a, st.rest = a ++ scan → ∀ x ∈ a, x.h ≤ l) → (∃ a, st.rest = a ++ scan) → ∀ x ∈ (walkL l st scan).rest, x.h ≤ l
  | [], st, h, hs => fun x hx => by
    obtain ⟨a, ha⟩ := hs
    rw [List.append_nil] at ha
    exact h a (by rw [List.append_nil]; exact ha) x (by rw [← ha]; exact hx)
  | y :: s, st, h, hs => fun x hx => by
    obtain ⟨a, ha⟩ := hs
    rw [walkL] at hx
    split at hx
    · exact walkL_rest (st := ⟨some y, s, st.n + 1⟩) (fun a' (e : s = a' ++ s) z hz => by
        have : a' = [] := by have := congrArg List.length e; rw [List.length_append] at this; exact List.length_eq_zero_iff.1 (by omega)
        subst this; cases hz) ⟨[], rfl⟩ x hx
    · rename_i hlt
      refine walkL_rest (st := st) (fun a' e z hz => ?_) ⟨a ++ [y], by rw [ha]; simp⟩ x hx
      have e2 : a ++ [y] = a' := by
        rw [ha, show a ++ y :: s = (a ++ [y]) ++ s by simp] at e
        exact List.append_cancel_right e
      subst e2
      rw [List.mem_append, List.mem_singleton] at hz
      rcases hz with hz | rfl
      · exact h a ha z hz
      · omega
theorem walkL_cur {l : Nat} : ∀ {scan : List Nd} {st : St}, (∀ c, st.cur = some c → l < c.h) → ∀ c, (walkL l st scan).cur = some c → l < c.h
  | [], st, h => h
  | y :: s, st, h => by
    rw [walkL]
    split
    · rename_i hl
      exact walkL_cur (fun c e => by injection e with e; subst e; exact hl)
    · exact walkL_cur h
theorem stJ_stands (pre : List Nd) : ∀ j, Stands pre (stJ pre j)
  | 0 => .inl ⟨rfl, rfl⟩
  | j + 1 => walkL_stands (stJ_stands pre j) ⟨[], rfl⟩
theorem stJ_rest (pre : List Nd) (j : Nat) : ∀ x ∈ (stJ pre (j + 1)).rest, x.h ≤ 7 - j :=
  walkL_rest (fun a e x hx => by
    have : a = [] := by have := congrArg List.length e; rw [List.length_append] at this; exact List.length_eq_zero_iff.1 (by omega)
    subst this; cases hx) ⟨[], rfl⟩
theorem stJ_cur (pre : List Nd) : ∀ j c, (stJ pre (j + 1)).cur = some c → 7 - j < c.h
  | 0, c, h => walkL_cur (fun c e => by cases e) c h
  | j + 1, c, h => walkL_cur (fun c e => by have := stJ_cur pre j c e; omega) c h
theorem walkL_n {l : Nat} : ∀ {scan : List Nd} {st : St}, st.n ≤ (walkL l st scan).n ∧ (walkL l st scan).n ≤ st.n + scan.length
  | [], st => ⟨Nat.le_refl _, by simp [walkL]⟩
  | y :: s, st => by
    rw [walkL]
    split
    · have := walkL_n (l := l) (scan := s) (st := ⟨some y, s, st.n + 1⟩)
      simp only [List.length_cons] at *
      omega
    · have := walkL_n (l := l) (scan := s) (st := st)
      simp only [List.length_cons] at *
      omega
/-- the address of a tower -/
def tw (tb : Nat) : Option Nd → Value
  | none => .pointer (some ⟨tb, 0, none⟩)
  | some x => .pointer (some ⟨x.b, 5, none⟩)
/-- what a look tells: ahead, level by level -/
def aheadV (tb : Nat) (pre : List Nd) (l : Nat) : Value := tw tb (stJ pre (8 - l)).cur
def lookV (tb : Nat) (pre : List Nd) : Value := .tuple #[.agg #[aheadV tb pre 0, aheadV tb pre 1, aheadV tb pre 2, aheadV tb pre 3, aheadV tb pre 4, aheadV tb pre 5, aheadV tb pre 6, aheadV tb pre 7], .int .i64 ((stJ pre 8).n : Int)]
def preOf (ns : List Nd) (pl : Ver) : List Nd := ns.takeWhile fun x => lessB x.v pl
def postOf (ns : List Nd) (pl : Ver) : List Nd := ns.dropWhile fun x => lessB x.v pl
theorem pre_post (ns : List Nd) (pl : Ver) : preOf ns pl ++ postOf ns pl = ns := List.takeWhile_append_dropWhile
theorem pre_less (ns : List Nd) (pl : Ver) : ∀ x ∈ preOf ns pl, lessB x.v pl = true := fun x hx => by
  have := List.all_takeWhile (l := ns) (p := fun x => lessB x.v pl)
  exact List.all_eq_true.1 this x hx
theorem post_not {ns : List Nd} (hord : (ns.map (·.v)).Pairwise fun a b => lessB a b = true) (pl : Ver) : ∀ x ∈ postOf ns pl, lessB x.v pl = false := by
  induction ns with
  | nil => intro x hx; cases hx
  | cons y r ih =>
    rw [List.map_cons, List.pairwise_cons] at hord
    intro x hx
    unfold postOf at hx
    cases hy : lessB y.v pl with
    | true => rw [List.dropWhile_cons_of_pos (by simpa using hy)] at hx; exact ih hord.2 x hx
    | false =>
      rw [List.dropWhile_cons_of_neg (by simp [hy])] at hx
      rcases List.mem_cons.1 hx with rfl | hx
      · exact hy
      · cases h : lessB x.v pl with
        | false => rfl
        | true =>
          have := Mt.less_trans (hord.1 x.v (List.mem_map_of_mem hx)) h
          rw [hy] at this; cases this
end Md
end Go.Proofs.Ytgfpkbdinfdkfaa
