/-
  OUR OWN TEXT. TyI, Ll, Rc1, Bf1, one behind the other.
-/
import Derived.Test.YtofflfaineodmaaGreatZc
import Derived.Test.YtofflfaineodmaaGreatZg
import Derived.Lib.Small
namespace Go.Proofs.YtofflfaineodmaaGreat
open Go.RowKit

structure In where
  rule : Int
  tags : List Int
def In.R (q : Option Nat) (w : World) (r : List Value) (x : In) : Prop := ∃ a_tags c_tags, r = [.int .i64 x.rule, .slice a_tags x.tags.length c_tags] ∧ IntsAt q w a_tags x.tags
abbrev InsAt (q : Option Nat) (w : World) (a : Option Addr) (xs : List In) : Prop := RowsAt (In.R q) q 47 2 w a xs
theorem InsAt.below {q : Option Nat} {w w' : World} {a : Option Addr} {xs : List In} (h : InsAt q w a xs) (hb : Below w.heap.size w w') : InsAt q w' a xs := RowsAt.below h (fun _ _ _ ⟨a_tags, c_tags, e, h_tags⟩ => ⟨a_tags, c_tags, e, h_tags.below hb⟩) hb
theorem InsAt.low {B : Nat} {w w' : World} {a : Option Addr} {xs : List In} (h : InsAt (some B) w a xs) (hb : Low B w w') : InsAt (some B) w' a xs := RowsAt.low h (fun _ _ _ ⟨a_tags, c_tags, e, h_tags⟩ => ⟨a_tags, c_tags, e, h_tags.low hb⟩) hb
theorem InsAt.older {B B' : Nat} (hB : B' ≤ B) {w : World} {a : Option Addr} {xs : List In} (h : InsAt (some B) w a xs) : InsAt (some B') w a xs := RowsAt.weak h (fun _ => Qb.older hB) (fun _ _ _ ⟨a_tags, c_tags, e, h_tags⟩ => ⟨a_tags, c_tags, e, h_tags.older hB⟩)
theorem InsAt.bare {q : Option Nat} {w : World} {a : Option Addr} {xs : List In} (h : InsAt q w a xs) : InsAt none w a xs := RowsAt.weak h (fun b _ => Qb.bare _ _ b) (fun _ _ _ ⟨a_tags, c_tags, e, h_tags⟩ => ⟨a_tags, c_tags, e, h_tags.bare⟩)
theorem InsAt.get {q : Option Nat} {w : World} {a : Option Addr} {xs : List In} {i : Nat} {x : In} (h : InsAt q w a xs) (hi : xs[i]? = some x) : ∃ b o a_tags c_tags, a = some ⟨b, o, none⟩ ∧ Qb q w 47 b ∧ w.cell? ⟨b, o + i * 2, none⟩ = some (.int .i64 x.rule) ∧ w.cell? ⟨b, o + i * 2 + 1, none⟩ = some (.slice a_tags x.tags.length c_tags) ∧ IntsAt q w a_tags x.tags := by
  obtain ⟨b, o, r, h1, h2, h3, h4, h5⟩ := h i x hi
  obtain ⟨a_tags, c_tags, rfl, h_tags⟩ := h5
  exact ⟨b, o, a_tags, c_tags, h1, h2, h4 0 _ rfl, h4 1 _ rfl, h_tags⟩
def In.sz (x : In) : Nat := x.tags.length
def In.le (N : Nat) (x : In) : Prop := x.tags.length ≤ N
theorem In.le_sz (N : Nat) (x : In) (h : x.sz ≤ N) : x.le N := by
  exact h
end Go.Proofs.YtofflfaineodmaaGreat

namespace Go.Proofs.YtofflfaineodmaaGreat
open Go.RowKit

def icells (xs : List Int) : List Value := xs.map (Value.int .i64)
structure OLL (w : World) (base : Nat) (v : Value) (n : Nat) (xss : List (List Int)) (vs : List Value) : Prop where
  num : n = xss.length
  len : vs.length = xss.length
  own : w.ownsRow base 43 1 v n vs
  each : ∀ (i : Nat) (xs : List Int) (x : Value), xss[i]? = some xs → vs[i]? = some x → (∃ a c, x = .slice a xs.length c) ∧ w.ownsRow base 3 1 x xs.length (icells xs)
  apart : ∀ x ∈ vs, Apart v x
  pair : vs.Pairwise Apart

/-- A block of theirs. -/
def InLL (v : Value) (vs : List Value) (g : Nat) : Prop := v.ownBlock = some g ∨ ∃ x ∈ vs, x.ownBlock = some g

theorem OLL.each' {w : World} {base : Nat} {v : Value} {n : Nat} {xss : List (List Int)} {vs : List Value} (h : OLL w base v n xss vs) {x : Value} (hx : x ∈ vs) : ∃ xs ∈ xss, w.ownsRow base 3 1 x xs.length (icells xs) := by
  obtain ⟨i, hi, rfl⟩ := List.getElem_of_mem hx
  have hf : i < xss.length := by rw [← h.len]; exact hi
  exact ⟨xss[i], List.getElem_mem hf, (h.each i _ _ (List.getElem?_eq_getElem hf) (List.getElem?_eq_getElem hi)).2⟩
theorem OLL.range {w : World} {base : Nat} {v : Value} {n : Nat} {xss : List (List Int)} {vs : List Value} (h : OLL w base v n xss vs) {g : Nat} (hg : InLL v vs g) : base ≤ g ∧ g < w.heap.size := by
  rcases hg with hg | ⟨x, hx, hg⟩
  · exact h.own.lt g hg
  · obtain ⟨xs, _, ho⟩ := h.each' hx
    exact ho.lt g hg
theorem OLL.kept {w w' : World} {base : Nat} {v : Value} {n : Nat} {xss : List (List Int)} {vs : List Value} (h : OLL w base v n xss vs) (hb : ∀ g, InLL v vs g → w'.heap[g]? = w.heap[g]?) : OLL w' base v n xss vs :=
  ⟨h.num, h.len, owns_of_block h.own (fun g hg => hb g (.inl hg)), fun i f x hf hx => ⟨(h.each i f x hf hx).1, owns_of_block (h.each i f x hf hx).2 (fun g hg => hb g (.inr ⟨x, List.mem_of_getElem? hx, hg⟩))⟩, h.apart, h.pair⟩
theorem OLL.below {w w' : World} {base : Nat} {v : Value} {n : Nat} {xss : List (List Int)} {vs : List Value} (h : OLL w base v n xss vs) (hb : Below w.heap.size w w') : OLL w' base v n xss vs :=
  h.kept fun g hg => hb.block g (h.range hg).2
theorem OLL.lower {w : World} {base base' : Nat} {v : Value} {n : Nat} {xss : List (List Int)} {vs : List Value} (h : OLL w base v n xss vs) (hb : base' ≤ base) : OLL w base' v n xss vs :=
  ⟨h.num, h.len, owns_base h.own hb, fun i f x hf hx => ⟨(h.each i f x hf hx).1, owns_base (h.each i f x hf hx).2 hb⟩, h.apart, h.pair⟩
theorem OLL.nil (w : World) (base : Nat) : OLL w base (.slice none 0 0) 0 [] [] :=
  ⟨rfl, rfl, World.ownsRow_nil _ _ _ _, fun i f x hf => by simp at hf, fun x hx => by simp at hx, List.Pairwise.nil⟩

/-- One list more, by append. -/
theorem OLL.snoc {w w' : World} {base : Nat} {v v' : Value} {n : Nat} {xss : List (List Int)} {vs : List Value} {xs : List Int} {x : Value} (h : OLL w base v n xss vs) (hx : (∃ a c, x = .slice a xs.length c) ∧ w.ownsRow base 3 1 x xs.length (icells xs))
    (hxv : Apart v x) (hxs : ∀ y ∈ vs, Apart y x) (ho : w'.ownsRow base 43 1 v' (n + 1) (vs ++ [x])) (hg : w.grownBy w' v.ownBlock) (hl : v'.ownBlock = v.ownBlock ∨ v'.ownBlock = some w.heap.size) : OLL w' base v' (n + 1) (xss ++ [xs]) (vs ++ [x]) := by
  have hblk : ∀ y : Value, (y ∈ vs ∨ y = x) → ∀ g, y.ownBlock = some g → g < w.heap.size ∧ w'.heap[g]? = w.heap[g]? := by
    intro y hy g hgy
    have hlt : g < w.heap.size := by
      rcases hy with hy | rfl
      · exact (h.range (.inr ⟨y, hy, hgy⟩)).2
      · exact (hx.2.lt g hgy).2
    refine ⟨hlt, hg.block g hlt ?_⟩
    intro e
    rcases hy with hy | rfl
    · exact h.apart y hy g e.symm hgy
    · exact hxv g e.symm hgy
  have hapart : ∀ y : Value, (y ∈ vs ∨ y = x) → Apart v' y := by
    intro y hy g hgv hgy
    rcases hl with hl | hl
    · rw [hl] at hgv
      rcases hy with hy | rfl
      · exact h.apart y hy g hgv hgy
      · exact hxv g hgv hgy
    · rw [hl] at hgv
      injection hgv with hgv
      have := (hblk y hy g hgy).1
      omega
  refine ⟨by simp [h.num], by simp [h.len], ho, ?_, ?_, ?_⟩
  · intro i f y hf hy
    by_cases hi : i < xss.length
    · rw [List.getElem?_append_left hi] at hf
      rw [List.getElem?_append_left (by rw [h.len]; exact hi)] at hy
      exact ⟨(h.each i f y hf hy).1, owns_of_block (h.each i f y hf hy).2 (fun g hgy => (hblk y (.inl (List.mem_of_getElem? hy)) g hgy).2)⟩
    · have hil : i < (xss ++ [xs]).length := (List.getElem?_eq_some_iff.1 hf).1
      simp at hil
      obtain rfl : i = xss.length := by omega
      simp at hf
      rw [List.getElem?_append_right (by rw [h.len]; exact Nat.le_refl _)] at hy
      simp [h.len] at hy
      subst hf hy
      exact ⟨hx.1, owns_of_block hx.2 (fun g hgy => (hblk _ (.inr rfl) g hgy).2)⟩
  · intro y hy
    rcases List.mem_append.1 hy with hy | hy
    · exact hapart y (.inl hy)
    · simp at hy
      exact hapart y (.inr hy)
  · rw [List.pairwise_append]
    exact ⟨h.pair, by simp, fun y hy z hz => by simp at hz; subst hz; exact hxs y hy⟩

theorem IntsAt.owns {w : World} {base n : Nat} {a : Option Addr} {c : Nat} {xs : List Int} (h : w.ownsRow base 3 1 (.slice a n c) n (icells xs)) : IntsAt none w a xs := by
  intro i s hs
  have k0 : (icells xs)[i]? = some (.int .i64 s) := by simp [icells, hs]
  obtain ⟨g, rfl, _, h0, _⟩ := owns_cell h k0
  refine ⟨g, 0, [.int .i64 s], rfl, Qb.bare _ _ _, rfl, ?_, rfl⟩
  intro j v hj
  have hj0 : j = 0 := by
    have := (List.getElem?_eq_some_iff.1 hj).1
    simp at this
    exact this
  subst hj0
  simp at hj
  subst hj
  simpa using h0
/-- Lists of numbers that lie in memory. -/
def IssAt (w : World) (a : Option Addr) (xss : List (List Int)) : Prop :=
  ∀ (i : Nat) (xs : List Int), xss[i]? = some xs → ∃ b o a' c', a = some ⟨b, o, none⟩ ∧ w.cell? ⟨b, o + i, none⟩ = some (.slice a' xs.length c') ∧ IntsAt none w a' xs
theorem IssAt.below {w w' : World} {a : Option Addr} {xss : List (List Int)} (h : IssAt w a xss) (hb : Below w.heap.size w w') : IssAt w' a xss := by
  intro i xs hx
  obtain ⟨b, o, a', c', e, hc, hi⟩ := h i xs hx
  exact ⟨b, o, a', c', e, cell_below hb hc, hi.below hb⟩
theorem OLL.at {w : World} {base : Nat} {a : Option Addr} {n c : Nat} {xss : List (List Int)} {vs : List Value} (h : OLL w base (.slice a n c) n xss vs) : IssAt w a xss := by
  intro i xs hx
  have hi : i < xss.length := (List.getElem?_eq_some_iff.1 hx).1
  have hv : vs[i]? = some (vs[i]'(by rw [h.len]; exact hi)) := List.getElem?_eq_getElem _
  obtain ⟨⟨a', c', e⟩, ho⟩ := h.each i xs _ hx hv
  obtain ⟨g, rfl, _, h0, _⟩ := owns_cell h.own hv
  rw [e] at h0 ho
  exact ⟨g, 0, a', c', rfl, by simpa using h0, IntsAt.owns ho⟩
end Go.Proofs.YtofflfaineodmaaGreat

namespace Go.Proofs.YtofflfaineodmaaGreat
open Go.RowKit

def geI (x y : Int) : Bool := decide (y ≤ x)
/-- The numbers, the greatest first. -/
def recy (xs : List Int) : List Int := xs.mergeSort geI
def Falls (ys : List Int) : Prop := ys.Pairwise (fun x y => y ≤ x)
theorem recy_perm (xs : List Int) : (recy xs).Perm xs := List.mergeSort_perm xs geI
theorem recy_len (xs : List Int) : (recy xs).length = xs.length := (recy_perm xs).length_eq
theorem recy_falls (xs : List Int) : Falls (recy xs) := by
  have tr : ∀ a b c : Int, geI a b = true → geI b c = true → geI a c = true := fun a b c h1 h2 => by simp only [geI, decide_eq_true_eq] at *; omega
  have to : ∀ a b : Int, (geI a b || geI b a) = true := fun a b => by simp only [geI, Bool.or_eq_true, decide_eq_true_eq]; omega
  have h := List.pairwise_mergeSort tr to xs
  unfold Falls recy
  exact h.imp (fun hab => by simpa [geI] using hab)
theorem recy_eq {xs ys : List Int} (hp : ys.Perm xs) (hs : Falls ys) : ys = recy xs :=
  List.Perm.eq_of_pairwise (le := fun x y : Int => y ≤ x) (fun a b _ _ h1 h2 => by omega) hs (recy_falls xs) (hp.trans (recy_perm xs).symm)

theorem falls_at {ys : List Int} (h : Falls ys) {i j : Nat} {x y : Int} (hij : i < j) (hx : ys[i]? = some x) (hy : ys[j]? = some y) : y ≤ x := by
  obtain ⟨hi, rfl⟩ := List.getElem?_eq_some_iff.1 hx
  obtain ⟨hj, rfl⟩ := List.getElem?_eq_some_iff.1 hy
  exact (List.pairwise_iff_getElem.1 h) i j hi hj hij
/-- One number at its place. -/
theorem falls_put {ys : List Int} (h : Falls ys) {k : Nat} {t : Int} (hk : k ≤ ys.length) (hd : ∀ y ∈ ys.drop k, y < t) (hl : k = 0 ∨ ∃ x, ys[k - 1]? = some x ∧ t ≤ x) : Falls (ys.take k ++ [t] ++ ys.drop k) := by
  have ht : ∀ x ∈ ys.take k, t ≤ x := by
    intro x hx
    rcases hl with rfl | ⟨z, hz, htz⟩
    · simp at hx
    · obtain ⟨i, hi, rfl⟩ := List.getElem_of_mem hx
      rw [List.length_take] at hi
      have hi' : i < ys.length := by omega
      have hik : i < k := by omega
      have hxi : (ys.take k)[i]'(by rw [List.length_take]; exact hi) = ys[i] := by simp
      rw [hxi]
      by_cases he : i = k - 1
      · subst he
        rw [List.getElem?_eq_getElem hi'] at hz
        injection hz with hz
        omega
      · have := falls_at h (i := i) (j := k - 1) (by omega) (List.getElem?_eq_getElem hi') hz
        omega
  unfold Falls at *
  rw [List.append_assoc, List.pairwise_append]
  refine ⟨h.sublist (List.take_sublist _ _), ?_, ?_⟩
  · rw [List.singleton_append, List.pairwise_cons]
    exact ⟨fun y hy => Int.le_of_lt (hd y hy), h.sublist (List.drop_sublist _ _)⟩
  · intro x hx y hy
    have h1 := ht x hx
    rcases List.mem_append.1 hy with hy | hy
    · simp at hy
      subst hy
      exact h1
    · have := hd y hy
      omega
theorem perm_put (ys : List Int) (k : Nat) (t : Int) {zs : List Int} (h : ys.Perm zs) : (ys.take k ++ [t] ++ ys.drop k).Perm (zs ++ [t]) := by
  have h1 : (ys.take k ++ [t] ++ ys.drop k).Perm (ys.take k ++ ys.drop k ++ [t]) := by
    rw [List.append_assoc, List.append_assoc]
    exact List.Perm.append_left _ List.perm_append_comm
  rw [List.take_append_drop] at h1
  exact h1.trans (h.append_right _)
/-- What Recency answers. -/
def recA (xs : List Int) : List Int := if xs.length ≤ 1000 then recy xs else []
theorem recA_len (xs : List Int) : (recA xs).length ≤ xs.length := by
  unfold recA
  split
  · rw [recy_len]; exact Nat.le_refl _
  · exact Nat.zero_le _
theorem recA_yes {xs : List Int} (h : xs.length ≤ 1000) : recA xs = recy xs := if_pos h
theorem recA_no {xs : List Int} (h : ¬ xs.length ≤ 1000) : recA xs = [] := if_neg h
end Go.Proofs.YtofflfaineodmaaGreat

namespace Go.Proofs.YtofflfaineodmaaGreat
open Go.RowKit

/-- As slices.Compare tells it. -/
def lexC : List Int → List Int → Int
  | [], [] => 0
  | [], _ :: _ => -1
  | _ :: _, [] => 1
  | x :: a, y :: b => if Lib.compareInt x y = 0 then lexC a b else Lib.compareInt x y
/-- As the model tells it. -/
def lexT : List Int → List Int → Int
  | x :: a, y :: b => if x < y then -1 else if y < x then 1 else lexT a b
  | [], b => - (b.length : Int)
  | x :: a, [] => ((x :: a).length : Int)
theorem cmp_cases (x y : Int) : (x < y ∧ Lib.compareInt x y = -1) ∨ (y < x ∧ Lib.compareInt x y = 1) ∨ (x = y ∧ Lib.compareInt x y = 0) := by
  unfold Lib.compareInt
  by_cases h1 : x < y
  · exact .inl ⟨h1, by simp [h1]⟩
  · by_cases h2 : y < x
    · exact .inr (.inl ⟨h2, by simp [h1, h2]⟩)
    · exact .inr (.inr ⟨by omega, by simp [h1, h2]⟩)
theorem lex_sign : ∀ (a b : List Int), (lexT a b < 0 ↔ lexC a b < 0) ∧ (0 < lexT a b ↔ 0 < lexC a b)
  | [], [] => by simp [lexT, lexC]
  | [], y :: b => by
    simp only [lexT, lexC, List.length_cons]
    omega
  | x :: a, [] => by
    simp only [lexT, lexC, List.length_cons]
    omega
  | x :: a, y :: b => by
    have h := lex_sign a b
    rcases cmp_cases x y with ⟨h1, h2⟩ | ⟨h1, h2⟩ | ⟨h1, h2⟩
    · simp [lexT, lexC, h1, h2]
    · have h3 : ¬ x < y := by omega
      simp [lexT, lexC, h1, h2, h3]
    · subst h1
      simp [lexT, lexC, h2, h]
theorem lex_zero (a b : List Int) : lexT a b = 0 ↔ lexC a b = 0 := by
  have h := lex_sign a b
  omega
theorem lexC_swap : ∀ (a b : List Int), lexC b a = - lexC a b
  | [], [] => by simp [lexC]
  | [], y :: b => by simp [lexC]
  | x :: a, [] => by simp [lexC]
  | x :: a, y :: b => by
    have h := lexC_swap a b
    rcases cmp_cases x y with ⟨h1, h2⟩ | ⟨h1, h2⟩ | ⟨h1, h2⟩ <;> rcases cmp_cases y x with ⟨h3, h4⟩ | ⟨h3, h4⟩ | ⟨h3, h4⟩
    all_goals first | (exfalso; omega) | simp [lexC, h2, h4, h]
theorem lexT_bound : ∀ (a b : List Int), - ((a.length : Int) + (b.length : Int) + 1) ≤ lexT a b ∧ lexT a b ≤ (a.length : Int) + (b.length : Int) + 1
  | [], b => by simp [lexT]; omega
  | x :: a, [] => by simp [lexT]; omega
  | x :: a, y :: b => by
    have h := lexT_bound a b
    simp only [lexT, List.length_cons]
    split
    · omega
    · split <;> omega

/-- The first that is not zero. -/
def orI : List Int → Int
  | [] => 0
  | x :: r => if x = 0 then orI r else x

/-- An instantiation that names a rule. -/
def placedI (rs : List Ru) (x : In) : Bool := decide (0 ≤ x.rule) && (decide (x.rule < (rs.length : Int)) && decide (x.tags.length ≤ 3))
def salOf (rs : List Ru) (x : In) : Int := ((rs[x.rule.toNat]?).map Ru.sal).getD 0
/-- What the program asks: below zero where a comes ahead of b. -/
def aheadC (rs : List Ru) (a b : In) : Int := orI [Lib.compareInt (salOf rs b) (salOf rs a), lexC (recA b.tags) (recA a.tags), orI [Lib.compareInt a.rule b.rule, lexC a.tags b.tags]]
def befI (rs : List Ru) (a b : In) : Bool := decide (aheadC rs a b < 0)
/-- What the model asks. -/
def befS (rs : List Ru) (a b : In) : Bool :=
  if salOf rs a ≠ salOf rs b then decide (salOf rs b < salOf rs a)
  else if lexT (recA a.tags) (recA b.tags) ≠ 0 then decide (0 < lexT (recA a.tags) (recA b.tags))
  else if a.rule ≠ b.rule then decide (a.rule < b.rule)
  else decide (lexT a.tags b.tags < 0)
theorem bef_same (rs : List Ru) (a b : In) : befS rs a b = befI rs a b := by
  unfold befS befI aheadC
  rcases cmp_cases (salOf rs b) (salOf rs a) with ⟨h1, h2⟩ | ⟨h1, h2⟩ | ⟨h1, h2⟩
  · have h3 : salOf rs a ≠ salOf rs b := by omega
    simp [orI, h1, h2, h3]
  · have h3 : salOf rs a ≠ salOf rs b := by omega
    have h4 : ¬ salOf rs b < salOf rs a := by omega
    simp [orI, h2, h3, h4]
  · rw [if_neg (by omega)]
    have hz := lex_zero (recA a.tags) (recA b.tags)
    have hs := lex_sign (recA a.tags) (recA b.tags)
    have hw := lexC_swap (recA a.tags) (recA b.tags)
    by_cases h0 : lexT (recA a.tags) (recA b.tags) = 0
    · rw [if_neg (by omega)]
      have h5 : lexC (recA b.tags) (recA a.tags) = 0 := by omega
      rcases cmp_cases a.rule b.rule with ⟨h6, h7⟩ | ⟨h6, h7⟩ | ⟨h6, h7⟩
      · have h8 : a.rule ≠ b.rule := by omega
        simp [orI, h2, h5, h7, h8, h6]
      · have h8 : a.rule ≠ b.rule := by omega
        have h9 : ¬ a.rule < b.rule := by omega
        simp [orI, h2, h5, h7, h8, h9]
      · have h10 := lex_sign a.tags b.tags
        rw [if_neg (by omega)]
        have h11 : decide (lexT a.tags b.tags < 0) = decide (lexC a.tags b.tags < 0) := by
          by_cases hd : lexC a.tags b.tags < 0
          · simp [hd, h10.1.2 hd]
          · have : ¬ lexT a.tags b.tags < 0 := fun h => hd (h10.1.1 h)
            simp [hd, this]
        rw [h11]
        by_cases hd : lexC a.tags b.tags = 0
        · simp [orI, h2, h5, h7, hd]
        · simp [orI, h2, h5, h7, hd]
    · rw [if_pos h0]
      have h5 : lexC (recA b.tags) (recA a.tags) ≠ 0 := by omega
      by_cases h6 : 0 < lexT (recA a.tags) (recA b.tags)
      · have h7 : lexC (recA b.tags) (recA a.tags) < 0 := by have := hs.2.1 h6; omega
        simp [orI, h2, h5, h6, h7]
      · have h7 : ¬ lexC (recA b.tags) (recA a.tags) < 0 := by have := fun h => h6 (hs.2.2 h); omega
        simp [orI, h2, h5, h6, h7]
/-- What Before answers. -/
def bef (rs : List Ru) (a b : In) : Bool := placedI rs a && (placedI rs b && (decide ((chk rs).1 = 0) && befI rs a b))
theorem chkGo_zero : ∀ (pre s : List Ru) (k : Nat), (chkGo pre s k).1 = 0 → chkGo pre s k = (0, 0, 0)
  | pre, [], k, _ => rfl
  | pre, r :: s, k, h => by
    unfold chkGo at *
    split at h
    · rename_i h1
      rw [if_pos h1]
      exact chkGo_zero _ _ _ h
    · rename_i h1
      exact absurd h h1
theorem chk_zero {rs : List Ru} (h : (chk rs).1 = 0) : chk rs = (0, 0, 0) := by
  unfold chk at *
  split at h
  · rename_i h1
    rw [if_pos h1]
    exact chkGo_zero _ _ _ h
  · cases h
end Go.Proofs.YtofflfaineodmaaGreat
