/-
  OUR OWN TEXT. Nr1, Rk2, Pt9, one behind the other.
-/
import Derived.Test.YtdhpoagjmiligaaGreatDoorKba
import Derived.Test.YtdhpoagjmiligaaGreatDoorKbc
import Derived.Test.YtdhpoagjmiligaaGreatDoorKal
import Derived.Test.YtdhpoagjmiligaaGreatDoorKag
import Derived.Deep.CutBlock
import Derived.Deep.DeepCutAuto
namespace Go.Proofs.YtdhpoagjmiligaaGreatDoor
open Go.RowKit

/-- How an element lies in memory: its cells beside its row; how long that is, its cells; types and sizes of both. -/
structure NK (α : Type) where
  cell : α → Value → List Value
  len : α → Nat
  inner : α → List Value
  t : TypeId
  m : Nat
  e : TypeId
  k : Nat
/-- A row that is owned, each element with a row of its own. -/
structure NRow {α : Type} (K : NK α) (w : World) (B : Nat) (a : Option Addr) (c : Nat) (M : List (α × Value)) : Prop where
  row : w.ownsRow B K.t K.m (.slice a M.length c) M.length (M.flatMap fun x => K.cell x.1 x.2)
  all : ∀ x ∈ M, ∃ la lc, x.2 = .slice la (K.len x.1) lc ∧ w.ownsRow B K.e K.k x.2 (K.len x.1) (K.inner x.1)
  pair : M.Pairwise fun x y => Apart x.2 y.2
variable {α : Type} {K : NK α} {w w' : World} {B : Nat} {a : Option Addr} {c : Nat} {M : List (α × Value)}
theorem NRow.nil (K : NK α) (w : World) (B : Nat) : NRow K w B none 0 [] := ⟨World.ownsRow_nil _ _ _ _, fun x hx => by simp at hx, List.Pairwise.nil⟩
/-- Carried where their blocks stand. -/
theorem NRow.keep (h : NRow K w B a c M) (hr : ∀ g, (Value.slice a M.length c).ownBlock = some g → w'.heap[g]? = w.heap[g]?) (hv : ∀ x ∈ M, ∀ g, x.2.ownBlock = some g → w'.heap[g]? = w.heap[g]?) : NRow K w' B a c M :=
  ⟨owns_of_block h.row hr, fun x hx => by
    obtain ⟨la, lc, e1, e2⟩ := h.all x hx
    exact ⟨la, lc, e1, owns_of_block e2 (hv x hx)⟩, h.pair⟩
theorem NRow.rlt (h : NRow K w B a c M) : ∀ g, (Value.slice a M.length c).ownBlock = some g → B ≤ g ∧ g < w.heap.size := fun g hg => h.row.lt g hg
theorem NRow.vlt (h : NRow K w B a c M) : ∀ x ∈ M, ∀ g, x.2.ownBlock = some g → B ≤ g ∧ g < w.heap.size := fun x hx g hg => by
  obtain ⟨la, lc, _, e2⟩ := h.all x hx
  exact e2.lt g hg
theorem NRow.rty (h : NRow K w B a c M) : ∀ g, (Value.slice a M.length c).ownBlock = some g → ∃ cs, w.heap[g]? = some (.cells cs K.t (0, 0)) := fun _ hg => own_type h.row hg
theorem NRow.vty (h : NRow K w B a c M) : ∀ x ∈ M, ∀ g, x.2.ownBlock = some g → ∃ cs, w.heap[g]? = some (.cells cs K.e (0, 0)) := fun x hx g hg => by
  obtain ⟨la, lc, _, e2⟩ := h.all x hx
  exact own_type e2 hg
theorem NRow.below (h : NRow K w B a c M) (hb : Below w.heap.size w w') : NRow K w' B a c M := h.keep (fun g hg => hb.block g (h.rlt g hg).2) (fun x hx g hg => hb.block g (h.vlt x hx g hg).2)
theorem NRow.mko {pb : Nat} (h : NRow K w B a c M) (hm : MkO (some pb) w w') (hp : pb < B) : NRow K w' B a c M :=
  h.keep (fun g hg => hm.block g (h.rlt g hg).2 (fun e => by injection e with e; have := (h.rlt g hg).1; omega)) (fun x hx g hg => hm.block g (h.vlt x hx g hg).2 (fun e => by injection e with e; have := (h.vlt x hx g hg).1; omega))
theorem ty_ne {g : Nat} {c1 c2 : Array Value} {t1 t2 : TypeId} (h1 : w.heap[g]? = some (.cells c1 t1 (0, 0))) (h2 : w.heap[g]? = some (.cells c2 t2 (0, 0))) (hne : t1 ≠ t2) : False := by
  rw [h1] at h2
  injection h2 with h2
  injection h2 with _ h2 _
  exact hne h2
theorem NRow.mkx {pb : Nat} {ob : Option Nat} (h : NRow K w B a c M) (hm : MkX pb ob w w') (hp : pb < B) (ho : ∀ g, ob = some g → ∃ cs, w.heap[g]? = some (.cells cs 139 (0, 0))) (h1 : K.t ≠ 139) (h2 : K.e ≠ 139) : NRow K w' B a c M :=
  h.keep (fun g hg => hm.block g (h.rlt g hg).2 (fun e => by have := (h.rlt g hg).1; omega) (fun e => by
    obtain ⟨c1, e1⟩ := h.rty g hg
    obtain ⟨c2, e2⟩ := ho g e
    exact ty_ne e1 e2 h1)) (fun x hx g hg => hm.block g (h.vlt x hx g hg).2 (fun e => by have := (h.vlt x hx g hg).1; omega) (fun e => by
    obtain ⟨c1, e1⟩ := h.vty x hx g hg
    obtain ⟨c2, e2⟩ := ho g e
    exact ty_ne e1 e2 h2))
theorem NRow.turned {b : Nat} {cs : Array Value} {t : TypeId} (h : NRow K w B a c M) (ht : Turned w w' b) (hb : w.heap[b]? = some (.cells cs t (0, 0))) (h1 : K.t ≠ t) (h2 : K.e ≠ t) : NRow K w' B a c M :=
  h.keep (fun g hg => ht.block g (fun e => by
    obtain ⟨c1, e1⟩ := h.rty g hg
    subst e
    exact ty_ne e1 hb h1)) (fun x hx g hg => ht.block g (fun e => by
    obtain ⟨c1, e1⟩ := h.vty x hx g hg
    subst e
    exact ty_ne e1 hb h2))
theorem NRow.grown {row : Option Nat} {t : TypeId} (h : NRow K w B a c M) (hg : w.grownBy w' row) (ht : ∀ k, row = some k → ∃ cs, w.heap[k]? = some (.cells cs t (0, 0))) (h1 : K.t ≠ t) (h2 : K.e ≠ t) : NRow K w' B a c M :=
  h.keep (fun g hg' => hg.block g (h.rlt g hg').2 (fun e => by
    obtain ⟨c1, e1⟩ := h.rty g hg'
    obtain ⟨c2, e2⟩ := ht g e.symm
    exact ty_ne e1 e2 h1)) (fun x hx g hg' => hg.block g (h.vlt x hx g hg').2 (fun e => by
    obtain ⟨c1, e1⟩ := h.vty x hx g hg'
    obtain ⟨c2, e2⟩ := ht g e.symm
    exact ty_ne e1 e2 h2))
theorem NRow.base {B' : Nat} (h : NRow K w B a c M) (hb : B' ≤ B) : NRow K w B' a c M := ⟨owns_base h.row hb, fun x hx => by
  obtain ⟨la, lc, e1, e2⟩ := h.all x hx
  exact ⟨la, lc, e1, owns_base e2 hb⟩, h.pair⟩
/-- One more, newer than the others: w0 the world ahead of its reading, w the one in which its cells were appended, w' behind. -/
theorem NRow.more {w0 w1 : World} {C : Nat} {x : α} {v : Value} {a' : Option Addr} {c' : Nat} (h0 : NRow K w0 B a c M) (h : NRow K w B a c M) (hx : w1.ownsRow C K.e K.k v (K.len x) (K.inner x)) (hC : w0.heap.size ≤ C) (hBC : B ≤ C) (hv : ∃ la lc, v = .slice la (K.len x) lc) (hx2 : w.ownsRow C K.e K.k v (K.len x) (K.inner x))
    (hg : w.grownBy w' (Value.slice a M.length c).ownBlock) (ho : w'.ownsRow B K.t K.m (.slice a' (M.length + 1) c') (M.length + 1) ((M.flatMap fun x => K.cell x.1 x.2) ++ K.cell x v)) (hne : K.t ≠ K.e) : NRow K w' B a' c' (M ++ [(x, v)]) := by
  obtain ⟨la, lc, hv⟩ := hv
  refine ⟨by simpa using ho, fun y hy => ?_, ?_⟩
  · rcases List.mem_append.1 hy with hy | hy
    · obtain ⟨la', lc', e1, e2⟩ := h.all y hy
      exact ⟨la', lc', e1, own_grown e2 hg (fun k hk => own_type h.row hk) hne⟩
    · simp at hy
      subst hy
      exact ⟨la, lc, hv, owns_base (own_grown hx2 hg (fun k hk => own_type h.row hk) hne) hBC⟩
  · refine List.pairwise_append.2 ⟨h.pair, by simp, fun y hy z hz g hg1 hg2 => ?_⟩
    simp at hz
    subst hz
    have h3 := (h0.vlt y hy g hg1).2
    have h4 := (hx.lt g hg2).1
    omega
def ptK : NK Pt := ⟨ptP, fun x => x.terms.length, fun x => x.terms.flatMap tmC, 80, 3, 111, 6⟩
def acK : NK Ac := ⟨acL, fun x => x.args.length, fun x => inC x.args, 84, 4, 3, 1⟩
theorem pMany_err {k : Int} {rd : List Wd → Px α} {n : Nat} {l : List Wd} {f : Flt} (h : nextW l = .error f) : pMany k rd n l = .error f := by
  cases n <;> simp [pMany, h]
theorem pMany_end {k : Int} {rd : List Wd → Px α} {n : Nat} {l r : List Wd} {x : Wd} (h : nextW l = .ok (x, r)) (hx : pkW x = k) : pMany k rd n l = .ok ([], l) := by
  cases n <;> simp [pMany, h, hx]
theorem pMany_open {k : Int} {rd : List Wd → Px α} {n m : Nat} {l r : List Wd} {x : Wd} {f : Flt} (h : nextW l = .ok (x, r)) (hx : pkW x ≠ k) (hm : n ≤ m) (ho : openW ((m - n : Nat) : Int) m l = .error f) : pMany k rd n l = .error f := by
  unfold openW at ho
  rw [h] at ho
  simp only at ho
  cases n with
  | zero =>
    by_cases h40 : pkW x = 40
    · rw [if_pos ⟨h40, by simp⟩] at ho
      injection ho with ho
      simp [pMany, h, h40, ← ho]
      exact fun e => absurd (h40.trans e) hx
    · rw [if_neg (fun e => h40 e.1), takeW_not h h40] at ho
      injection ho with ho
      simp [pMany, h, hx, h40, ← ho]
  | succ n =>
    rw [if_neg (fun e => by have := e.2; omega)] at ho
    simp [pMany, h, hx, ho]
theorem pMany_more {n m : Nat} {l r l1 : List Wd} {x y : Wd} (h : nextW l = .ok (x, r)) (hm : n ≤ m) (ho : openW ((m - n : Nat) : Int) m l = .ok (y, l1)) : ∃ q, n = q + 1 ∧ takeW 40 l = .ok (y, l1) := by
  unfold openW at ho
  rw [h] at ho
  simp only at ho
  cases n with
  | zero =>
    by_cases h40 : pkW x = 40
    · rw [if_pos ⟨h40, by simp⟩] at ho
      cases ho
    · rw [if_neg (fun e => h40 e.1), takeW_not h h40] at ho
      cases ho
  | succ n =>
    rw [if_neg (fun e => by have := e.2; omega)] at ho
    exact ⟨n, rfl, ho⟩
theorem pMany_bad {k : Int} {rd : List Wd → Px α} {n : Nat} {l r l1 : List Wd} {x y : Wd} {f : Flt} (h : nextW l = .ok (x, r)) (hx : pkW x ≠ k) (ht : takeW 40 l = .ok (y, l1)) (hc : rd l1 = .error f) : pMany k rd (n + 1) l = .error f := by
  simp [pMany, h, hx, ht, hc]
theorem pMany_step {k : Int} {rd : List Wd → Px α} {n : Nat} {l r l1 l2 : List Wd} {x y : Wd} {v : α} {M : List α} (h : nextW l = .ok (x, r)) (hx : pkW x ≠ k) (ht : takeW 40 l = .ok (y, l1)) (hc : rd l1 = .ok (v, l2)) : preL M (pMany k rd (n + 1) l) = preL (M ++ [v]) (pMany k rd n l2) := by
  simp only [pMany, h, hx, ht, hc, if_false]
  cases pMany k rd n l2 with
  | error f => rfl
  | ok p =>
    obtain ⟨vs, l3⟩ := p
    simp [preL]
theorem pManyS_err {σ : Type} {k : Int} {rd : σ → List Wd → Px (α × σ)} {n : Nat} {s : σ} {l : List Wd} {f : Flt} (h : nextW l = .error f) : pManyS k rd n s l = .error f := by
  cases n <;> simp [pManyS, h]
theorem pManyS_end {σ : Type} {k : Int} {rd : σ → List Wd → Px (α × σ)} {n : Nat} {s : σ} {l r : List Wd} {x : Wd} (h : nextW l = .ok (x, r)) (hx : pkW x = k) : pManyS k rd n s l = .ok (([], s), l) := by
  cases n <;> simp [pManyS, h, hx]
theorem pManyS_open {σ : Type} {k : Int} {rd : σ → List Wd → Px (α × σ)} {n m : Nat} {s : σ} {l r : List Wd} {x : Wd} {f : Flt} (h : nextW l = .ok (x, r)) (hx : pkW x ≠ k) (hm : n ≤ m) (ho : openW ((m - n : Nat) : Int) m l = .error f) : pManyS k rd n s l = .error f := by
  unfold openW at ho
  rw [h] at ho
  simp only at ho
  cases n with
  | zero =>
    by_cases h40 : pkW x = 40
    · rw [if_pos ⟨h40, by simp⟩] at ho
      injection ho with ho
      simp [pManyS, h, h40, ← ho]
      exact fun e => absurd (h40.trans e) hx
    · rw [if_neg (fun e => h40 e.1), takeW_not h h40] at ho
      injection ho with ho
      simp [pManyS, h, hx, h40, ← ho]
  | succ n =>
    rw [if_neg (fun e => by have := e.2; omega)] at ho
    simp [pManyS, h, hx, ho]
theorem pManyS_bad {σ : Type} {k : Int} {rd : σ → List Wd → Px (α × σ)} {n : Nat} {s : σ} {l r l1 : List Wd} {x y : Wd} {f : Flt} (h : nextW l = .ok (x, r)) (hx : pkW x ≠ k) (ht : takeW 40 l = .ok (y, l1)) (hc : rd s l1 = .error f) : pManyS k rd (n + 1) s l = .error f := by
  simp [pManyS, h, hx, ht, hc]
theorem pManyS_step {σ : Type} {k : Int} {rd : σ → List Wd → Px (α × σ)} {n : Nat} {s s1 : σ} {l r l1 l2 : List Wd} {x y : Wd} {v : α} {M : List α} (h : nextW l = .ok (x, r)) (hx : pkW x ≠ k) (ht : takeW 40 l = .ok (y, l1)) (hc : rd s l1 = .ok ((v, s1), l2)) : preE M (pManyS k rd (n + 1) s l) = preE (M ++ [v]) (pManyS k rd n s1 l2) := by
  simp only [pManyS, h, hx, ht, hc, if_false]
  cases pManyS k rd n s1 l2 with
  | error f => rfl
  | ok p =>
    obtain ⟨⟨vs, s2⟩, l3⟩ := p
    simp [preE]
end Go.Proofs.YtdhpoagjmiligaaGreatDoor

namespace Go.Proofs.YtdhpoagjmiligaaGreatDoor
open Go.RowKit
attribute [local go_sem ↓] Go.wp_at_zero Go.wp_at_succ

/-- Whether a number's mark is yes. -/
def ngK (k : Int) : Bool := k.tmod 3 == 0
def mkP (k : Int) (x : Pt) : Pt := ⟨ngK k, mText (k + 1), gMk mkT (fun _ => 6) (k + 1 + 1) x.terms⟩
def szP (x : Pt) : Nat := 2 + gSum (fun _ => 6) x.terms
def mkPV (k : Int) (x : Pt × Value) : Pt × Value := (mkP k x.1, x.2)
def szPV (x : Pt × Value) : Nat := szP x.1
def mkA (k : Int) (x : Ac) : Ac := ⟨k, k + 1, mText (k + 1 + 1), mkIs (k + 1 + 1 + 1) x.args.length⟩
def szA (x : Ac) : Nat := 3 + x.args.length
def mkAV (k : Int) (x : Ac × Value) : Ac × Value := (mkA k x.1, x.2)
def szAV (x : Ac × Value) : Nat := szA x.1
/-- A block of such a row's. -/
def InN {α : Type} (v : Value) (M : List (α × Value)) (g : Nat) : Prop := v.ownBlock = some g ∨ ∃ x ∈ M, x.2.ownBlock = some g
theorem own_apart {w : World} {B t t' m m' n n' : Nat} {v u : Value} {xs ys : List Value} (h : w.ownsRow B t m v n xs) (h' : w.ownsRow B t' m' u n' ys) (hne : t ≠ t') {g : Nat} (hg : v.ownBlock = some g) (hg' : u.ownBlock = some g) : False := by
  obtain ⟨c1, e1⟩ := own_type h hg
  obtain ⟨c2, e2⟩ := own_type h' hg'
  exact ty_ne e1 e2 hne
theorem Mk.of_mko {o : Option Nat} {w w' : World} (h : MkO o w w') : Mk (fun g => o = some g) w w' := ⟨h.rest, h.block⟩
theorem NRow.marked {α : Type} {K : NK α} {w w2 : World} {B : Nat} {a : Option Addr} {c : Nat} {X Y : List (α × Value)} {x x' : α} {v : Value} (h : NRow K w B a c (X ++ (x, v) :: Y)) (hl : K.len x' = K.len x)
    (hr : w2.ownsRow B K.t K.m (.slice a (X ++ (x, v) :: Y).length c) (X ++ (x, v) :: Y).length ((X ++ (x', v) :: Y).flatMap fun y => K.cell y.1 y.2)) (hx : w2.ownsRow B K.e K.k v (K.len x') (K.inner x')) (hm : Mk (fun g => (Value.slice a (X ++ (x, v) :: Y).length c).ownBlock = some g ∨ v.ownBlock = some g) w w2) (hne : K.t ≠ K.e) : NRow K w2 B a c (X ++ (x', v) :: Y) := by
  have hlen : (X ++ (x', v) :: Y).length = (X ++ (x, v) :: Y).length := by simp
  have hp := h.pair
  rw [List.pairwise_append] at hp
  have hother : ∀ y : α × Value, y ∈ X ∨ y ∈ Y → ∃ la lc, y.2 = .slice la (K.len y.1) lc ∧ w2.ownsRow B K.e K.k y.2 (K.len y.1) (K.inner y.1) := by
    intro y hy
    have hym : y ∈ X ++ (x, v) :: Y := by rcases hy with hy | hy <;> simp [hy]
    obtain ⟨la, lc, e1, e2⟩ := h.all y hym
    refine ⟨la, lc, e1, owns_of_block e2 fun g hg => hm.block g (e2.lt g hg).2 ?_⟩
    rintro (e | e)
    · exact own_apart h.row e2 hne e hg
    · rcases hy with hy | hy
      · exact hp.2.2 y hy (x, v) (by simp) g hg e
      · exact (List.pairwise_cons.1 hp.2.1).1 y hy g e hg
  refine ⟨by rw [hlen]; exact hr, fun y hy => ?_, ?_⟩
  · rcases List.mem_append.1 hy with hy | hy
    · exact hother y (.inl hy)
    · rcases List.mem_cons.1 hy with rfl | hy
      · obtain ⟨la, lc, e1, _⟩ := h.all (x, v) (by simp)
        exact ⟨la, lc, by rw [show v = .slice la (K.len x) lc from e1, hl], hx⟩
      · exact hother y (.inr hy)
  · have h1 := (List.pairwise_map (f := Prod.snd) (R := Apart)).2 h.pair
    have h2 : (X ++ (x, v) :: Y).map Prod.snd = (X ++ (x', v) :: Y).map Prod.snd := by simp
    rw [h2] at h1
    exact List.pairwise_map.1 h1
theorem set2T {p : Nat} {A B : List Value} (hA : A.length = p) (z x0 x1 y0 y1 : Value) : (((A ++ ([x0, x1, z] ++ B)).set (p) y0).set (p + 1) y1) = A ++ ([y0, y1, z] ++ B) := by
  subst hA
  simp
theorem set3T {p : Nat} {A B : List Value} (hA : A.length = p) (z x0 x1 x2 y0 y1 y2 : Value) : ((((A ++ ([x0, x1, x2, z] ++ B)).set (p) y0).set (p + 1) y1).set (p + 2) y2) = A ++ ([y0, y1, y2, z] ++ B) := by
  subst hA
  simp
set_option maxRecDepth 100000 in
set_option maxHeartbeats 6400000 in
theorem markPatternS_mk (a : Option Addr) (c : Nat) (M : List (Pt × Value)) (B : Nat) (k0 : Int) (w : World) (ho : NRow ptK w B a c M) (hl : M.length ≤ 1048576) (hs : ∀ x ∈ M, x.1.terms.length ≤ 1048576) (hk : 0 < k0) (hk' : k0 + (gSum szPV M : Int) ≤ 100000000) :
    Calls Tryz.prog 53 #[.slice a M.length c, .int .i64 k0] w fun e w' => e = .returned (.int .i64 (k0 + (gSum szPV M : Int))) ∧ NRow ptK w' B a c (gMk mkPV szPV k0 M) ∧ Mk (InN (.slice a M.length c) M) w w' := by
  go_enter Tryz.func53, Tryz.ntmps53
  go_wp2
  go_loopw [1, 5] (fun kv i wr => ∃ (j : Nat), j ≤ M.length ∧ i = .int .i64 j ∧ kv = .int .i64 (k0 + (gSum szPV (M.take j) : Int)) ∧ NRow ptK wr B a c (gMk mkPV szPV k0 (M.take j) ++ M.drop j) ∧ Mk (InN (.slice a M.length c) M) w wr) (fun _ i _ => M.length - (intOf i).toNat)
  case atStart => exact ⟨0, by omega, rfl, by simp [gSum], by simpa [gMk] using ho, Mk.refl _ _⟩
  case round =>
    obtain ⟨j, hj, rfl, rfl, ho1, hm⟩ := hrel
    have HM := hidX hm
    clear hm ho
    by_cases hjl : j < M.length
    · obtain ⟨⟨x, v⟩, hxj⟩ : ∃ x, M[j]? = some x := ⟨M[j], by simp [hjl]⟩
      obtain ⟨hKn, hKpos, hKle⟩ := gStep (sz := szPV) hxj hk hk'
      have hMn := gMk_take (mk := mkPV) (sz := szPV) (k := k0) hxj
      have hAl : (gMk mkPV szPV k0 (M.take j)).length = j := by rw [gMk_len, List.length_take]; omega
      rw [drop_cons hxj] at ho1
      obtain ⟨la, lc, ev, hox⟩ := ho1.all (x, v) (by simp)
      have ev' : v = .slice la x.terms.length lc := ev
      clear ev
      subst ev'
      have hLl : (gMk mkPV szPV k0 (M.take j) ++ (x, Value.slice la x.terms.length lc) :: M.drop (j + 1)).length = M.length := by simp [hAl]; omega
      have hrow := ho1.row
      rw [flat_midG, hLl] at hrow
      have hfl : ((gMk mkPV szPV k0 (M.take j)).flatMap fun y => (ptK).cell y.1 y.2).length = j * 3 := by rw [flat_lenG (m := 3) _ (fun _ _ => rfl), hAl]
      obtain ⟨m0, e0⟩ : ∃ K : Int, K = k0 + (gSum szPV (M.take j) : Int) := ⟨_, rfl⟩
      rw [← e0] at hKn hKpos hKle hMn
      have hz : ((szPV (x, Value.slice la x.terms.length lc) : Nat) : Int) = ((2 + gSum (fun _ => 6) x.terms : Nat) : Int) := rfl
      rw [hz] at hKn hKle
      have g0 : 0 < m0 ∧ m0 + ((2 : Nat) : Int) ≤ 100000000 := ⟨hKpos, by omega⟩
      rw [← e0]
      obtain ⟨m1, e1⟩ : ∃ x : Int, x = m0 + 1 := ⟨_, rfl⟩
      obtain ⟨hw1, g1⟩ := wrapS e1 g0
      obtain ⟨m2, e2⟩ : ∃ x : Int, x = m1 + 1 := ⟨_, rfl⟩
      obtain ⟨hw2, g2⟩ := wrapS e2 g1
      have b1 := bndS g1
      have hE : m2 + ((gSum (fun _ => 6) x.terms : Nat) : Int) = k0 + (gSum szPV (M.take (j + 1)) : Int) := by
        rw [hKn, e2, e1]
        omega
      have hB : 0 < m2 ∧ m2 + ((gSum (fun _ => 6) x.terms : Nat) : Int) ≤ 100000000 := by
        refine ⟨g2.1, ?_⟩
        rw [e2, e1]
        omega
      have hML : ([.bool (ngK m0), .string (mText m1), Value.slice la x.terms.length lc] : List Value) = (ptK).cell (mkP m0 x) (.slice la x.terms.length lc) := by
        rw [e1]
        rfl
      have hIN : (mkP m0 x).terms = gMk mkT (fun _ => 6) m2 x.terms := by
        rw [e2, e1]
        rfl
      obtain ⟨g, rfl, hbg, c0, f0⟩ := owns_cell (j := j * 3) (x := .bool x.neg) hrow (by rw [List.getElem?_append_right (by omega), hfl, show j * 3 - j * 3 = 0 by omega]; rfl)
      obtain ⟨_, he1, _, c1, f1⟩ := owns_cell (j := j * 3 + 1) (x := .string x.cls) hrow (by rw [List.getElem?_append_right (by omega), hfl, show j * 3 + 1 - j * 3 = 1 by omega]; rfl)
      cases he1
      obtain ⟨_, he2, _, c2, f2⟩ := owns_cell (j := j * 3 + 2) (x := .slice la x.terms.length lc) hrow (by rw [List.getElem?_append_right (by omega), hfl, show j * 3 + 2 - j * 3 = 2 by omega]; rfl)
      cases he2
      have hgl : g < wr.heap.size := World.block_lt_of_cell? wr ⟨g, _, none⟩ c0
      have hsf : x.terms.length ≤ 1048576 := hs _ (List.mem_of_getElem? hxj)
      have hne : ∀ g', (Value.slice la x.terms.length lc).ownBlock = some g' → g' ≠ g := fun g' hg' e => own_apart hrow hox (by decide) rfl (by rw [hg', e])
      have hmem : ∀ g', (Value.slice (some ⟨g, 0, none⟩) M.length c).ownBlock = some g' ∨ (Value.slice la x.terms.length lc).ownBlock = some g' → InN (.slice (some ⟨g, 0, none⟩) M.length c) M g' := by
        rintro g' (h | h)
        · exact .inl h
        · exact .inr ⟨_, List.mem_of_getElem? hxj, h⟩
      have HO := hidX ho1
      have HX := hidX hox
      have HR := hidX hrow
      have HE := hidX hE
      have HL := hidX hML
      have HN := hidX hMn
      have HF := hidX hfl
      have HIN := hidX hIN
      have HLl := hidX hLl
      have HME := hidX hmem
      clear ho1 hox hrow hE hML hMn hfl hAl hKn hKpos hKle hIN hLl hmem hz hxj f2 e0 e1 e2 g0 g1 g2
      go_wp2_with fail
      refine (markText_any m1 _ b1.1 b1.2).mono ?_
      rintro e w1 ⟨rfl, hb1⟩
      obtain ⟨hc1, hf1⟩ := bcell hb1
      have hgl1 : g < w1.heap.size := by
        have := hb1.size
        (try simp at this)
        omega
      go_wp2_with fail
      have m0' := fun (u : World) (p : Nat) (y : Value) => Mk.set (S := fun g' => (Value.slice (some ⟨g, 0, none⟩) M.length c).ownBlock = some g') (w := u) (p := ⟨g, p, none⟩) rfl y
      have s0 := (HR.out.stored (j * 3) (.bool (ngK m0))).1
      have t0 := (Mk.refl (fun g' => (Value.slice (some ⟨g, 0, none⟩) M.length c).ownBlock = some g') wr).trans (m0' _ (j * 3) (.bool (ngK m0)))
      have s1 := owns_of_block s0 (w' := w1) (fun g' hg' => hb1.block g' (by cases hg'; simpa using hgl))
      have t1 := t0.trans (Mk.of_below hb1)
      have s2 := (s1.stored (j * 3 + 1) (.string (mText m1))).1
      have t2 := t1.trans (m0' _ (j * 3 + 1) (.string (mText m1)))
      have R1 := hidX s2
      have T1 := hidX t2
      have OX := hidX (owns_of_block HX.out (fun g' hg' => T1.out.block g' (HX.out.lt g' hg').2 (fun e => hne g' hg' (by cases e; rfl))))
      have s1 : wr.heap.size ≤ w1.heap.size := by
        have := T1.out.rest.size
        simpa using this
      clear m0' s0 s2 t0 t1 t2
      refine (markTermS_mk la lc x.terms B m2 _ OX.out hsf hB.1 hB.2).mono ?_
      rintro e w9 ⟨rfl, ho9, hm9⟩
      replace hm9 : Mk (fun g' => (Value.slice la x.terms.length lc).ownBlock = some g') _ w9 := hm9
      have r9 := owns_of_block R1.out (w' := w9) (fun g' hg' => hm9.block g' (by cases hg'; simp; omega) (fun e => hne g' e (by cases hg'; rfl)))
      replace r9 := owns_cells r9 (set2T HF.out _ _ _ _ _)
      rw [HL.out] at r9
      have mk2 := (T1.out.mono (fun _ h => Or.inl h)).trans (hm9.mono (fun _ h => Or.inr h)) (S := fun g' => (Value.slice (some ⟨g, 0, none⟩) M.length c).ownBlock = some g' ∨ (Value.slice la x.terms.length lc).ownBlock = some g')
      have hS := HO.out.marked (x' := mkP m0 x) (by show (mkP m0 x).terms.length = x.terms.length; rw [HIN.out]; simp [gMk_len]) (by rw [HLl.out, flat_midG]; exact r9) (by show w9.ownsRow _ _ _ _ (mkP m0 x).terms.length (((mkP m0 x).terms).flatMap tmC); rw [HIN.out, show (gMk mkT (fun _ => 6) m2 x.terms).length = x.terms.length from by simp [gMk_len]]; exact ho9) (by rw [HLl.out]; exact mk2) (by decide)
      have mk3 := HM.out.trans (mk2.mono HME.out)
      rw [show gMk mkPV szPV k0 (M.take j) ++ (mkP m0 x, Value.slice la x.terms.length lc) :: M.drop (j + 1) = gMk mkPV szPV k0 (M.take (j + 1)) ++ M.drop (j + 1) from by rw [HN.out, List.append_assoc, List.singleton_append]; rfl] at hS
      have S5 := hidX hS
      have M5 := hidX mk3
      clear mk2 hS mk3 r9 ho9 hm9
      go_wp2_with fail
      go_roundw
      case rel => exact ⟨j + 1, by omega, by go_num, by rw [← HE.out], S5.out, M5.out⟩
      case measure => simp [intOf]; omega
    · go_wp2
      go_ret
      obtain rfl : j = M.length := by omega
      rw [List.drop_eq_nil_of_le (Nat.le_refl _), List.append_nil, List.take_of_length_le (Nat.le_refl _)] at ho1
      rw [List.take_of_length_le (Nat.le_refl _)]
      exact ⟨rfl, ho1, HM.out⟩
set_option maxRecDepth 100000 in
set_option maxHeartbeats 6400000 in
theorem markActionS_mk (a : Option Addr) (c : Nat) (M : List (Ac × Value)) (B : Nat) (k0 : Int) (w : World) (ho : NRow acK w B a c M) (hl : M.length ≤ 1048576) (hs : ∀ x ∈ M, x.1.args.length ≤ 1048576) (hk : 0 < k0) (hk' : k0 + (gSum szAV M : Int) ≤ 100000000) :
    Calls Tryz.prog 55 #[.slice a M.length c, .int .i64 k0] w fun e w' => e = .returned (.int .i64 (k0 + (gSum szAV M : Int))) ∧ NRow acK w' B a c (gMk mkAV szAV k0 M) ∧ Mk (InN (.slice a M.length c) M) w w' := by
  go_enter Tryz.func55, Tryz.ntmps55
  go_wp2
  go_loopw [1, 5] (fun kv i wr => ∃ (j : Nat), j ≤ M.length ∧ i = .int .i64 j ∧ kv = .int .i64 (k0 + (gSum szAV (M.take j) : Int)) ∧ NRow acK wr B a c (gMk mkAV szAV k0 (M.take j) ++ M.drop j) ∧ Mk (InN (.slice a M.length c) M) w wr) (fun _ i _ => M.length - (intOf i).toNat)
  case atStart => exact ⟨0, by omega, rfl, by simp [gSum], by simpa [gMk] using ho, Mk.refl _ _⟩
  case round =>
    obtain ⟨j, hj, rfl, rfl, ho1, hm⟩ := hrel
    have HM := hidX hm
    clear hm ho
    by_cases hjl : j < M.length
    · obtain ⟨⟨x, v⟩, hxj⟩ : ∃ x, M[j]? = some x := ⟨M[j], by simp [hjl]⟩
      obtain ⟨hKn, hKpos, hKle⟩ := gStep (sz := szAV) hxj hk hk'
      have hMn := gMk_take (mk := mkAV) (sz := szAV) (k := k0) hxj
      have hAl : (gMk mkAV szAV k0 (M.take j)).length = j := by rw [gMk_len, List.length_take]; omega
      rw [drop_cons hxj] at ho1
      obtain ⟨la, lc, ev, hox⟩ := ho1.all (x, v) (by simp)
      have ev' : v = .slice la x.args.length lc := ev
      clear ev
      subst ev'
      have hLl : (gMk mkAV szAV k0 (M.take j) ++ (x, Value.slice la x.args.length lc) :: M.drop (j + 1)).length = M.length := by simp [hAl]; omega
      have hrow := ho1.row
      rw [flat_midG, hLl] at hrow
      have hfl : ((gMk mkAV szAV k0 (M.take j)).flatMap fun y => (acK).cell y.1 y.2).length = j * 4 := by rw [flat_lenG (m := 4) _ (fun _ _ => rfl), hAl]
      obtain ⟨m0, e0⟩ : ∃ K : Int, K = k0 + (gSum szAV (M.take j) : Int) := ⟨_, rfl⟩
      rw [← e0] at hKn hKpos hKle hMn
      have hz : ((szAV (x, Value.slice la x.args.length lc) : Nat) : Int) = ((3 + x.args.length : Nat) : Int) := rfl
      rw [hz] at hKn hKle
      have g0 : 0 < m0 ∧ m0 + ((3 : Nat) : Int) ≤ 100000000 := ⟨hKpos, by omega⟩
      rw [← e0]
      obtain ⟨m1, e1⟩ : ∃ x : Int, x = m0 + 1 := ⟨_, rfl⟩
      obtain ⟨hw1, g1⟩ := wrapS e1 g0
      obtain ⟨m2, e2⟩ : ∃ x : Int, x = m1 + 1 := ⟨_, rfl⟩
      obtain ⟨hw2, g2⟩ := wrapS e2 g1
      obtain ⟨m3, e3⟩ : ∃ x : Int, x = m2 + 1 := ⟨_, rfl⟩
      obtain ⟨hw3, g3⟩ := wrapS e3 g2
      have b2 := bndS g2
      have hE : m3 + ((x.args.length : Nat) : Int) = k0 + (gSum szAV (M.take (j + 1)) : Int) := by
        rw [hKn, e3, e2, e1]
        omega
      have hB : 0 < m3 ∧ m3 + ((x.args.length : Nat) : Int) ≤ 100000000 := by
        refine ⟨g3.1, ?_⟩
        rw [e3, e2, e1]
        omega
      have hML : ([.int .i64 m0, .int .i64 m1, .string (mText m2), Value.slice la x.args.length lc] : List Value) = (acK).cell (mkA m0 x) (.slice la x.args.length lc) := by
        rw [e2, e1]
        rfl
      have hIN : (mkA m0 x).args = mkIs m3 x.args.length := by
        rw [e3, e2, e1]
        rfl
      obtain ⟨g, rfl, hbg, c0, f0⟩ := owns_cell (j := j * 4) (x := .int .i64 x.kind) hrow (by rw [List.getElem?_append_right (by omega), hfl, show j * 4 - j * 4 = 0 by omega]; rfl)
      obtain ⟨_, he1, _, c1, f1⟩ := owns_cell (j := j * 4 + 1) (x := .int .i64 x.k) hrow (by rw [List.getElem?_append_right (by omega), hfl, show j * 4 + 1 - j * 4 = 1 by omega]; rfl)
      cases he1
      obtain ⟨_, he2, _, c2, f2⟩ := owns_cell (j := j * 4 + 2) (x := .string x.cls) hrow (by rw [List.getElem?_append_right (by omega), hfl, show j * 4 + 2 - j * 4 = 2 by omega]; rfl)
      cases he2
      obtain ⟨_, he3, _, c3, f3⟩ := owns_cell (j := j * 4 + 3) (x := .slice la x.args.length lc) hrow (by rw [List.getElem?_append_right (by omega), hfl, show j * 4 + 3 - j * 4 = 3 by omega]; rfl)
      cases he3
      have hgl : g < wr.heap.size := World.block_lt_of_cell? wr ⟨g, _, none⟩ c0
      have hsf : x.args.length ≤ 1048576 := hs _ (List.mem_of_getElem? hxj)
      have hne : ∀ g', (Value.slice la x.args.length lc).ownBlock = some g' → g' ≠ g := fun g' hg' e => own_apart hrow hox (by decide) rfl (by rw [hg', e])
      have hmem : ∀ g', (Value.slice (some ⟨g, 0, none⟩) M.length c).ownBlock = some g' ∨ (Value.slice la x.args.length lc).ownBlock = some g' → InN (.slice (some ⟨g, 0, none⟩) M.length c) M g' := by
        rintro g' (h | h)
        · exact .inl h
        · exact .inr ⟨_, List.mem_of_getElem? hxj, h⟩
      have HO := hidX ho1
      have HX := hidX hox
      have HR := hidX hrow
      have HE := hidX hE
      have HL := hidX hML
      have HN := hidX hMn
      have HF := hidX hfl
      have HIN := hidX hIN
      have HLl := hidX hLl
      have HME := hidX hmem
      clear ho1 hox hrow hE hML hMn hfl hAl hKn hKpos hKle hIN hLl hmem hz hxj f3 e0 e1 e2 e3 g0 g1 g2 g3
      go_wp2_with fail
      refine (markText_any m2 _ b2.1 b2.2).mono ?_
      rintro e w1 ⟨rfl, hb1⟩
      obtain ⟨hc1, hf1⟩ := bcell hb1
      have hgl1 : g < w1.heap.size := by
        have := hb1.size
        (try simp at this)
        omega
      go_wp2_with fail
      have m0' := fun (u : World) (p : Nat) (y : Value) => Mk.set (S := fun g' => (Value.slice (some ⟨g, 0, none⟩) M.length c).ownBlock = some g') (w := u) (p := ⟨g, p, none⟩) rfl y
      have s0 := (HR.out.stored (j * 4) (.int .i64 m0)).1
      have t0 := (Mk.refl (fun g' => (Value.slice (some ⟨g, 0, none⟩) M.length c).ownBlock = some g') wr).trans (m0' _ (j * 4) (.int .i64 m0))
      have s1 := (s0.stored (j * 4 + 1) (.int .i64 m1)).1
      have t1 := t0.trans (m0' _ (j * 4 + 1) (.int .i64 m1))
      have s2 := owns_of_block s1 (w' := w1) (fun g' hg' => hb1.block g' (by cases hg'; simpa using hgl))
      have t2 := t1.trans (Mk.of_below hb1)
      have s3 := (s2.stored (j * 4 + 2) (.string (mText m2))).1
      have t3 := t2.trans (m0' _ (j * 4 + 2) (.string (mText m2)))
      have R1 := hidX s3
      have T1 := hidX t3
      have OX := hidX (owns_of_block HX.out (fun g' hg' => T1.out.block g' (HX.out.lt g' hg').2 (fun e => hne g' hg' (by cases e; rfl))))
      have s1 : wr.heap.size ≤ w1.heap.size := by
        have := T1.out.rest.size
        simpa using this
      clear m0' s0 s2 s3 t0 t1 t2 t3
      refine (markIntS_own la lc x.args B m3 _ OX.out hsf hB.1 hB.2).mono ?_
      rintro e w9 ⟨rfl, ho9, hm9⟩
      replace hm9 : Mk (fun g' => (Value.slice la x.args.length lc).ownBlock = some g') _ w9 := Mk.of_mko hm9
      have r9 := owns_of_block R1.out (w' := w9) (fun g' hg' => hm9.block g' (by cases hg'; simp; omega) (fun e => hne g' e (by cases hg'; rfl)))
      replace r9 := owns_cells r9 (set3T HF.out _ _ _ _ _ _ _)
      rw [HL.out] at r9
      have mk2 := (T1.out.mono (fun _ h => Or.inl h)).trans (hm9.mono (fun _ h => Or.inr h)) (S := fun g' => (Value.slice (some ⟨g, 0, none⟩) M.length c).ownBlock = some g' ∨ (Value.slice la x.args.length lc).ownBlock = some g')
      have hS := HO.out.marked (x' := mkA m0 x) (by show (mkA m0 x).args.length = x.args.length; rw [HIN.out]; simp [mkIs]) (by rw [HLl.out, flat_midG]; exact r9) (by show w9.ownsRow _ _ _ _ (mkA m0 x).args.length (inC ((mkA m0 x).args)); rw [HIN.out, show (mkIs m3 x.args.length).length = x.args.length from by simp [mkIs]]; exact ho9) (by rw [HLl.out]; exact mk2) (by decide)
      have mk3 := HM.out.trans (mk2.mono HME.out)
      rw [show gMk mkAV szAV k0 (M.take j) ++ (mkA m0 x, Value.slice la x.args.length lc) :: M.drop (j + 1) = gMk mkAV szAV k0 (M.take (j + 1)) ++ M.drop (j + 1) from by rw [HN.out, List.append_assoc, List.singleton_append]; rfl] at hS
      have S5 := hidX hS
      have M5 := hidX mk3
      clear mk2 hS mk3 r9 ho9 hm9
      go_wp2_with fail
      go_roundw
      case rel => exact ⟨j + 1, by omega, by go_num, by rw [← HE.out], S5.out, M5.out⟩
      case measure => simp [intOf]; omega
    · go_wp2
      go_ret
      obtain rfl : j = M.length := by omega
      rw [List.drop_eq_nil_of_le (Nat.le_refl _), List.append_nil, List.take_of_length_le (Nat.le_refl _)] at ho1
      rw [List.take_of_length_le (Nat.le_refl _)]
      exact ⟨rfl, ho1, HM.out⟩
set_option maxRecDepth 100000 in
set_option maxHeartbeats 6400000 in
theorem heldPatternS_mk (a : Option Addr) (c : Nat) (M : List Pt) (k0 : Int) (w : World) {q : Option Nat} (hv : PtsAt q w a (gMk mkP szP k0 M)) (hl : M.length ≤ 1048576) (hs : ∀ x ∈ M, x.terms.length ≤ 1048576) (hk : 0 < k0) (hk' : k0 + (gSum szP M : Int) ≤ 100000000) :
    Calls Tryz.prog 56 #[.slice a M.length c, .int .i64 k0] w fun e w' => e = .returned (.int .i64 (k0 + (gSum szP M : Int))) ∧ Below w.heap.size w w' := by
  go_enter Tryz.func56, Tryz.ntmps56
  go_wp2
  go_loopw [1, 5] (fun kv i wr => ∃ (j : Nat), j ≤ M.length ∧ i = .int .i64 j ∧ kv = .int .i64 (k0 + (gSum szP (M.take j) : Int)) ∧ Below w.heap.size w wr) (fun _ i _ => M.length - (intOf i).toNat)
  case atStart => exact ⟨0, by omega, rfl, by simp [gSum], Below.refl _ _⟩
  case round =>
    obtain ⟨j, hj, rfl, rfl, hb⟩ := hrel
    by_cases hjl : j < M.length
    · obtain ⟨x, hxj⟩ : ∃ x, M[j]? = some x := ⟨M[j], by simp [hjl]⟩
      obtain ⟨hKn, hKpos, hKle⟩ := gStep (sz := szP) hxj hk hk'
      have hat := gMk_at (mk := mkP) (sz := szP) (k := k0) hxj
      obtain ⟨m0, e0⟩ : ∃ K : Int, K = k0 + (gSum szP (M.take j) : Int) := ⟨_, rfl⟩
      rw [← e0] at hKn hKpos hKle hat
      have hz : ((szP x : Nat) : Int) = ((2 + gSum (fun _ => 6) x.terms : Nat) : Int) := rfl
      rw [hz] at hKn hKle
      have g0 : 0 < m0 ∧ m0 + ((2 : Nat) : Int) ≤ 100000000 := ⟨hKpos, by omega⟩
      rw [← e0]
      obtain ⟨m1, e1⟩ : ∃ x : Int, x = m0 + 1 := ⟨_, rfl⟩
      obtain ⟨hw1, g1⟩ := wrapS e1 g0
      obtain ⟨m2, e2⟩ : ∃ x : Int, x = m1 + 1 := ⟨_, rfl⟩
      obtain ⟨hw2, g2⟩ := wrapS e2 g1
      have b1 := bndS g1
      have hE : m2 + ((gSum (fun _ => 6) x.terms : Nat) : Int) = k0 + (gSum szP (M.take (j + 1)) : Int) := by
        rw [hKn, e2, e1]
        omega
      have hB : 0 < m2 ∧ m2 + ((gSum (fun _ => 6) x.terms : Nat) : Int) ≤ 100000000 := by
        refine ⟨g2.1, ?_⟩
        rw [e2, e1]
        omega
      have hIN : (mkP m0 x).terms = gMk mkT (fun _ => 6) m2 x.terms := by
        rw [e2, e1]
        rfl
      have hILn : (mkP m0 x).terms.length = x.terms.length := by rw [hIN]; simp [gMk_len]
      obtain ⟨b, o, sa, sc, rfl, _, d0, d1, d2, hsl⟩ := (PtsAt.below hv hb).get hat
      rw [hILn] at d2
      rw [hIN] at hsl
      have c0 : wr.cell? ⟨b, o + j * 3, none⟩ = some (.bool (ngK m0)) := d0
      have c1 : wr.cell? ⟨b, o + j * 3 + 1, none⟩ = some (.string (mText m1)) := by
        rw [e1]
        exact d1
      have c2 := d2
      have hsf : x.terms.length ≤ 1048576 := hs x (List.mem_of_getElem? hxj)
      have HE := hidX hE
      have HB := hidX hb
      have HSL := hidX hsl
      have hnn : ¬ (m2 + ((gSum (fun _ => 6) x.terms : Nat) : Int) < 0) := by omega
      clear hE hat hKn hKpos hKle hb hsl hIN hILn hz hxj e0 e1 e2 g0 g1 g2 d0 d1 d2
      have hu0 : (!(ngK m0 == (m0.tmod 3 == 0))) = false := by simp [ngK]
      go_wp2_with fail
      go_region_held3 (fun w' => w'.cell? ⟨b, o + j * 3 + 1, none⟩ = some (.string (mText m1))) ((first | with_reducible exact cell_below hb1 (by assumption) | exact c1))
        ((go_at_call 52; refine (markText_any m1 _ b1.1 b1.2).mono ?_; rintro e w1 ⟨rfl, hb1⟩))
      replace c2 := cell_below hb1 c2
      have HSL1 := hidX (TmsAt.below (w := wr.drew) HSL.out hb1)
      have HB1 := hidX (HB.out.drew.trans (hb1.mono HB.out.size))
      go_wp2_with (go_at_call 94; refine (heldTermS_mk sa sc x.terms m2 w1 HSL1.out hsf hB.1 hB.2).mono ?_; rintro e w9 ⟨rfl, hb9⟩)
      go_roundw
      case rel => exact ⟨j + 1, by omega, by go_num, by rw [← HE.out], HB1.out.trans (hb9.mono HB1.out.size)⟩
      case measure => simp [intOf]; omega
    · go_wp2
      go_ret
      obtain rfl : j = M.length := by omega
      rw [List.take_of_length_le (Nat.le_refl _)]
      exact ⟨rfl, hb⟩
set_option maxRecDepth 100000 in
set_option maxHeartbeats 6400000 in
theorem heldActionS_mk (a : Option Addr) (c : Nat) (M : List Ac) (k0 : Int) (w : World) {q : Option Nat} (hv : AcsAt q w a (gMk mkA szA k0 M)) (hl : M.length ≤ 1048576) (hs : ∀ x ∈ M, x.args.length ≤ 1048576) (hk : 0 < k0) (hk' : k0 + (gSum szA M : Int) ≤ 100000000) :
    Calls Tryz.prog 58 #[.slice a M.length c, .int .i64 k0] w fun e w' => e = .returned (.int .i64 (k0 + (gSum szA M : Int))) ∧ Below w.heap.size w w' := by
  go_enter Tryz.func58, Tryz.ntmps58
  go_wp2
  go_loopw [1, 5] (fun kv i wr => ∃ (j : Nat), j ≤ M.length ∧ i = .int .i64 j ∧ kv = .int .i64 (k0 + (gSum szA (M.take j) : Int)) ∧ Below w.heap.size w wr) (fun _ i _ => M.length - (intOf i).toNat)
  case atStart => exact ⟨0, by omega, rfl, by simp [gSum], Below.refl _ _⟩
  case round =>
    obtain ⟨j, hj, rfl, rfl, hb⟩ := hrel
    by_cases hjl : j < M.length
    · obtain ⟨x, hxj⟩ : ∃ x, M[j]? = some x := ⟨M[j], by simp [hjl]⟩
      obtain ⟨hKn, hKpos, hKle⟩ := gStep (sz := szA) hxj hk hk'
      have hat := gMk_at (mk := mkA) (sz := szA) (k := k0) hxj
      obtain ⟨m0, e0⟩ : ∃ K : Int, K = k0 + (gSum szA (M.take j) : Int) := ⟨_, rfl⟩
      rw [← e0] at hKn hKpos hKle hat
      have hz : ((szA x : Nat) : Int) = ((3 + x.args.length : Nat) : Int) := rfl
      rw [hz] at hKn hKle
      have g0 : 0 < m0 ∧ m0 + ((3 : Nat) : Int) ≤ 100000000 := ⟨hKpos, by omega⟩
      rw [← e0]
      obtain ⟨m1, e1⟩ : ∃ x : Int, x = m0 + 1 := ⟨_, rfl⟩
      obtain ⟨hw1, g1⟩ := wrapS e1 g0
      obtain ⟨m2, e2⟩ : ∃ x : Int, x = m1 + 1 := ⟨_, rfl⟩
      obtain ⟨hw2, g2⟩ := wrapS e2 g1
      obtain ⟨m3, e3⟩ : ∃ x : Int, x = m2 + 1 := ⟨_, rfl⟩
      obtain ⟨hw3, g3⟩ := wrapS e3 g2
      have b2 := bndS g2
      have hE : m3 + ((x.args.length : Nat) : Int) = k0 + (gSum szA (M.take (j + 1)) : Int) := by
        rw [hKn, e3, e2, e1]
        omega
      have hB : 0 < m3 ∧ m3 + ((x.args.length : Nat) : Int) ≤ 100000000 := by
        refine ⟨g3.1, ?_⟩
        rw [e3, e2, e1]
        omega
      have hIN : (mkA m0 x).args = mkIs m3 x.args.length := by
        rw [e3, e2, e1]
        rfl
      have hILn : (mkA m0 x).args.length = x.args.length := by rw [hIN]; simp [mkIs]
      obtain ⟨b, o, sa, sc, rfl, _, d0, d1, d2, d3, hsl⟩ := (AcsAt.below hv hb).get hat
      rw [hILn] at d3
      rw [hIN] at hsl
      have c0 : wr.cell? ⟨b, o + j * 4, none⟩ = some (.int .i64 m0) := d0
      have c1 : wr.cell? ⟨b, o + j * 4 + 1, none⟩ = some (.int .i64 m1) := by
        rw [e1]
        exact d1
      have c2 : wr.cell? ⟨b, o + j * 4 + 2, none⟩ = some (.string (mText m2)) := by
        rw [e2, e1]
        exact d2
      have c3 := d3
      have hsf : x.args.length ≤ 1048576 := hs x (List.mem_of_getElem? hxj)
      have HE := hidX hE
      have HB := hidX hb
      have HSL := hidX hsl
      have hnn : ¬ (m3 + ((x.args.length : Nat) : Int) < 0) := by omega
      clear hE hat hKn hKpos hKle hb hsl hIN hILn hz hxj e0 e1 e2 e3 g0 g1 g2 g3 d0 d1 d2 d3
      go_wp2_with fail
      go_region_held3 (fun w' => w'.cell? ⟨b, o + j * 4 + 2, none⟩ = some (.string (mText m2))) ((first | with_reducible exact cell_below hb1 (by assumption) | exact c2))
        ((go_at_call 52; refine (markText_any m2 _ b2.1 b2.2).mono ?_; rintro e w1 ⟨rfl, hb1⟩))
      replace c3 := cell_below hb1 c3
      have HSL1 := hidX (IntsAt.below (w := wr.drew) HSL.out hb1)
      have HB1 := hidX (HB.out.drew.trans (hb1.mono HB.out.size))
      go_wp2_with (go_at_call 95; refine (heldIntS_any sa sc x.args.length m3 w1 HSL1.out hsf hB.1 hB.2).mono ?_; rintro e w9 ⟨rfl, hb9⟩)
      go_roundw
      case rel => exact ⟨j + 1, by omega, by go_num, by rw [← HE.out], HB1.out.trans (hb9.mono HB1.out.size)⟩
      case measure => simp [intOf]; omega
    · go_wp2
      go_ret
      obtain rfl : j = M.length := by omega
      rw [List.take_of_length_le (Nat.le_refl _)]
      exact ⟨rfl, hb⟩
end Go.Proofs.YtdhpoagjmiligaaGreatDoor

namespace Go.Proofs.YtdhpoagjmiligaaGreatDoor
open Go.RowKit Go.Maps
attribute [local go_sem ↓] Go.wp_at_zero Go.wp_at_succ

def ruL (n : ByteArray) (s : Int) (pv ev av : Value) : List Value := [.string n, .int .i64 s, pv, ev, av]
theorem ruL_one (n : ByteArray) (s : Int) (a1 a2 a3 : Option Addr) (n1 n2 n3 c1 c2 c3 : Nat) : ∀ v ∈ ruL n s (.slice a1 n1 c1) (.slice a2 n2 c2) (.slice a3 n3 c3), v.oneCell' = true := by
  intro v hv
  simp [ruL] at hv
  rcases hv with rfl | rfl | rfl | rfl | rfl <;> rfl
theorem infoRuP : (Tryz.prog.info? 46).map (·.size) = some 5 := by kernel_rfl
theorem infoPF1 : (Tryz.prog.info? 80).map (fun i => (i.zero, i.size, i.bytes)) = some (some (.agg #[.bool false, .string ⟨#[]⟩, .slice none 0 0]), 3, 48) := by kernel_rfl
theorem infoAF1 : (Tryz.prog.info? 84).map (fun i => (i.zero, i.size, i.bytes)) = some (some (.agg #[.int .i64 0, .int .i64 0, .string ⟨#[]⟩, .slice none 0 0]), 4, 56) := by kernel_rfl
/-- A rule with the rows that it holds. -/
structure RX where
  ru : Ru
  pa : Option Addr
  pc : Nat
  MP : List (Pt × Value)
  ea : Option Addr
  ec : Nat
  aa : Option Addr
  ac : Nat
  MA : List (Ac × Value)
def RX.pv (x : RX) : Value := .slice x.pa x.MP.length x.pc
def RX.ev (x : RX) : Value := .slice x.ea x.ru.exprs.length x.ec
def RX.av (x : RX) : Value := .slice x.aa x.MA.length x.ac
def RX.cells (x : RX) : List Value := ruL x.ru.name x.ru.sal x.pv x.ev x.av
structure ROwn (w : World) (B : Nat) (x : RX) : Prop where
  pts : NRow ptK w B x.pa x.pc x.MP
  exs : w.ownsRow B 139 8 x.ev x.ru.exprs.length (x.ru.exprs.flatMap exC)
  acs : NRow acK w B x.aa x.ac x.MA
  mp : x.MP.map Prod.fst = x.ru.pats
  ma : x.MA.map Prod.fst = x.ru.acts
/-- What a rule's reading leaves. -/
def RuPost (w : World) (pb : Nat) (src : Bs) (a : Option Addr) (c : Nat) (am cm rv lv : Value) (r : Px Ru) (e : Ending) (w' : World) : Prop := MkO (some pb) w w' ∧ match r with
  | .error f => e = fltE f
  | .ok (ru, l) => ∃ x : RX, x.ru = ru ∧ e = .returned (.agg x.cells.toArray) ∧ ROwn w' w.heap.size x ∧ ∃ ev bv, PSt w' pb src a c l (RL am cm rv lv ev bv)
theorem RuPost.err {w w' : World} {pb : Nat} {src : Bs} {a : Option Addr} {c : Nat} {am cm rv lv : Value} {r : Px Ru} {f : Flt} (hr : r = .error f) (hm : MkO (some pb) w w') : RuPost w pb src a c am cm rv lv r (fltE f) w' := by
  subst hr
  exact ⟨hm, rfl⟩
def lenP (bx j : Nat) (w : World) : Nat := match w.cell? ⟨bx, j, none⟩ with
  | some v => sliceLen v
  | none => 0
def nilV : Value := .slice none 0 0
/-- In a rule, at its patterns: bx the rule's box, rb the answer's. -/
structure PatS (w wx : World) (pb bx rb : Nat) (src : Bs) (a : Option Addr) (c : Nat) (am cm rv lv : Value) (nm : ByteArray) (sl : Int) (l : List Wd) (pa : Option Addr) (pc : Nat) (MP : List (Pt × Value)) : Prop where
  mo : MkO (some pb) w wx
  ps : PSt wx pb src a c l (RL am cm rv lv (.slice none 0 0) (.int .i64 0))
  pts : NRow ptK wx w.heap.size pa pc MP
  bq : wx.heap[bx]? = some (.cells (ruL nm sl (.slice pa MP.length pc) nilV nilV).toArray 46 (0, 0))
  rq : wx.heap[rb]? = some (.cells (ruL ⟨#[]⟩ 0 nilV nilV nilV).toArray 46 (0, 0))
theorem PatS.below {w wx wt : World} {pb bx rb : Nat} {src : Bs} {a : Option Addr} {c : Nat} {am cm rv lv : Value} {nm : ByteArray} {sl : Int} {l : List Wd} {pa : Option Addr} {pc : Nat} {MP : List (Pt × Value)} (h : PatS w wx pb bx rb src a c am cm rv lv nm sl l pa pc MP) (hb : Below wx.heap.size wx wt) : PatS w wt pb bx rb src a c am cm rv lv nm sl l pa pc MP :=
  ⟨h.mo.trans (MkO.of_below hb), h.ps.below hb, h.pts.below hb, (hb.block bx (lt_of_block' h.bq)).trans h.bq, (hb.block rb (lt_of_block' h.rq)).trans h.rq⟩
theorem PatS.mko {w wx wt : World} {pb bx rb : Nat} {src : Bs} {a : Option Addr} {c : Nat} {am cm rv lv : Value} {nm : ByteArray} {sl : Int} {l l' : List Wd} {pa : Option Addr} {pc : Nat} {MP : List (Pt × Value)} (h : PatS w wx pb bx rb src a c am cm rv lv nm sl l pa pc MP) (hm : MkO (some pb) wx wt) (hp : PSt wt pb src a c l' (RL am cm rv lv (.slice none 0 0) (.int .i64 0))) (h1 : pb < w.heap.size) (h2 : pb ≠ bx) (h3 : pb ≠ rb) : PatS w wt pb bx rb src a c am cm rv lv nm sl l' pa pc MP :=
  ⟨h.mo.trans hm, hp, h.pts.mko hm h1, (hm.block bx (lt_of_block' h.bq) (fun e => h2 (by injection e))).trans h.bq, (hm.block rb (lt_of_block' h.rq) (fun e => h3 (by injection e))).trans h.rq⟩
theorem pListE_inv : ∀ {n : Nat} {s s' : ES} {l l' : List Wd} {vs : List Int}, s.1.length ≤ s.2 → s.2 ≤ 60 → pListE (pExpr 20) n s l = .ok ((vs, s'), l') → s'.1.length ≤ s'.2 ∧ s'.2 ≤ 60 := by
  intro n
  induction n with
  | zero =>
    intro s s' l l' vs h1 h2 h
    unfold pListE at h
    cases hr : nextW l with
    | error f => rw [hr] at h; cases h
    | ok q =>
      rw [hr] at h
      simp only at h
      split at h
      · injection h with h
        injection h with h _
        injection h with _ h
        subst h
        exact ⟨h1, h2⟩
      · split at h <;> cases h
  | succ n ih =>
    intro s s' l l' vs h1 h2 h
    unfold pListE at h
    cases hr : nextW l with
    | error f => rw [hr] at h; cases h
    | ok q =>
      rw [hr] at h
      simp only at h
      split at h
      · injection h with h
        injection h with h _
        injection h with _ h
        subst h
        exact ⟨h1, h2⟩
      · cases hv : pExpr 20 s l with
        | error f => rw [hv] at h; cases h
        | ok q =>
          obtain ⟨⟨v, s1⟩, l1⟩ := q
          rw [hv] at h
          simp only at h
          obtain ⟨j1, j2⟩ := pExpr_inv 20 s l l1 0 v s1 (by omega) h2 hv
          cases hp : pListE (pExpr 20) n s1 l1 with
          | error f => rw [hp] at h; cases h
          | ok p =>
            obtain ⟨⟨ws, s2⟩, l2⟩ := p
            rw [hp] at h
            simp only at h
            injection h with h
            injection h with h _
            injection h with _ h
            subst h
            exact ih (by omega) j2 hp
theorem andP_invX {α β : Type} {r : Px α} {k : α → List Wd → Px β} {y : β} {l : List Wd} (h : andP r k = .ok (y, l)) : ∃ x l1, r = .ok (x, l1) ∧ k x l1 = .ok (y, l) := by
  cases r with
  | error f => cases h
  | ok q => exact ⟨q.1, q.2, rfl, h⟩
theorem pAct_inv {s s' : ES} {l l' : List Wd} {v : Ac} (h1 : s.1.length ≤ s.2) (h2 : s.2 ≤ 60) (h : pAct s l = .ok ((v, s'), l')) : s'.1.length ≤ s'.2 ∧ s'.2 ≤ 60 := by
  obtain ⟨x, l1, _, h⟩ := andP_invX h
  split at h
  · obtain ⟨y, l2, _, h⟩ := andP_invX h
    injection h with h
    injection h with h _
    injection h with _ h
    subst h
    exact ⟨h1, h2⟩
  · split at h
    · obtain ⟨y, l2, _, h⟩ := andP_invX h
      obtain ⟨⟨vs, s1⟩, l3, hp, h⟩ := andP_invX h
      injection h with h
      injection h with h _
      injection h with _ h
      subst h
      exact pListE_inv h1 h2 hp
    · split at h
      · obtain ⟨y, l2, _, h⟩ := andP_invX h
        obtain ⟨z, l3, _, h⟩ := andP_invX h
        injection h with h
        injection h with h _
        injection h with _ h
        subst h
        exact ⟨h1, h2⟩
      · split at h
        · obtain ⟨y, l2, _, h⟩ := andP_invX h
          obtain ⟨⟨vs, s1⟩, l3, hp, h⟩ := andP_invX h
          injection h with h
          injection h with h _
          injection h with _ h
          subst h
          exact pListE_inv h1 h2 hp
        · cases h
theorem MkO.mkx {pb : Nat} {ob : Option Nat} {u v w : World} (h : MkO (some pb) u v) (k : MkX pb ob v w) (ho : ∀ g, ob = some g → u.heap.size ≤ g) : MkO (some pb) u w :=
  ⟨h.rest.trans k.rest, fun g hg hp => (k.block g (Nat.lt_of_lt_of_le hg h.rest.size) (fun e => hp (by rw [e])) (fun e => by have := ho g e; omega)).trans (h.block g hg hp)⟩
/-- In a rule, at its actions. -/
structure ActS (w wx : World) (pb bx rb : Nat) (src : Bs) (a : Option Addr) (c : Nat) (am cm rv lv : Value) (nm : ByteArray) (sl : Int) (pa : Option Addr) (pc : Nat) (MP : List (Pt × Value)) (l : List Wd) (s : ES) (ea : Option Addr) (ec : Nat) (aa : Option Addr) (ac : Nat) (MA : List (Ac × Value)) : Prop where
  mo : MkO (some pb) w wx
  st : ExS wx w.heap.size pb src a c l am cm rv lv s ea ec
  pts : NRow ptK wx w.heap.size pa pc MP
  acs : NRow acK wx w.heap.size aa ac MA
  bq : wx.heap[bx]? = some (.cells (ruL nm sl (.slice pa MP.length pc) nilV (.slice aa MA.length ac)).toArray 46 (0, 0))
  rq : wx.heap[rb]? = some (.cells (ruL ⟨#[]⟩ 0 nilV nilV nilV).toArray 46 (0, 0))
  hk : s.1.length ≤ s.2
  h60 : s.2 ≤ 60
theorem ActS.below {w wx wt : World} {pb bx rb : Nat} {src : Bs} {a : Option Addr} {c : Nat} {am cm rv lv : Value} {nm : ByteArray} {sl : Int} {pa : Option Addr} {pc : Nat} {MP : List (Pt × Value)} {l : List Wd} {s : ES} {ea : Option Addr} {ec : Nat} {aa : Option Addr} {ac : Nat} {MA : List (Ac × Value)} (h : ActS w wx pb bx rb src a c am cm rv lv nm sl pa pc MP l s ea ec aa ac MA) (hb : Below wx.heap.size wx wt) : ActS w wt pb bx rb src a c am cm rv lv nm sl pa pc MP l s ea ec aa ac MA :=
  ⟨h.mo.trans (MkO.of_below hb), h.st.below hb, h.pts.below hb, h.acs.below hb, (hb.block bx (lt_of_block' h.bq)).trans h.bq, (hb.block rb (lt_of_block' h.rq)).trans h.rq, h.hk, h.h60⟩
theorem ActS.mko {w wx wt : World} {pb bx rb : Nat} {src : Bs} {a : Option Addr} {c : Nat} {am cm rv lv : Value} {nm : ByteArray} {sl : Int} {pa : Option Addr} {pc : Nat} {MP : List (Pt × Value)} {l l' : List Wd} {s : ES} {ea : Option Addr} {ec : Nat} {aa : Option Addr} {ac : Nat} {MA : List (Ac × Value)} (h : ActS w wx pb bx rb src a c am cm rv lv nm sl pa pc MP l s ea ec aa ac MA) (hm : MkO (some pb) wx wt) (hp : PSt wt pb src a c l' (RE am cm rv lv s ea ec)) (h2 : pb ≠ bx) (h3 : pb ≠ rb) : ActS w wt pb bx rb src a c am cm rv lv nm sl pa pc MP l' s ea ec aa ac MA :=
  ⟨h.mo.trans hm, h.st.mko hm hp, h.pts.mko hm h.st.lt, h.acs.mko hm h.st.lt, (hm.block bx (lt_of_block' h.bq) (fun e => h2 (by injection e))).trans h.bq, (hm.block rb (lt_of_block' h.rq) (fun e => h3 (by injection e))).trans h.rq, h.hk, h.h60⟩
theorem box_ne {w : World} {g b : Nat} {B : Nat} {s : ES} {ea : Option Addr} {ec : Nat} {cs : Array Value} (ho : w.ownsRow B 139 8 (.slice ea s.1.length ec) s.1.length (s.1.flatMap exC)) (hb : w.heap[b]? = some (.cells cs 46 (0, 0))) (hg : obE s ea ec = some g) : g ≠ b := fun e => by
  obtain ⟨c1, e1⟩ := own_type ho hg
  subst e
  exact ty_ne e1 hb (by decide)
/-- Behind one more action's reading (not yet put in). -/
theorem ActS.mkx {w wx wt : World} {pb bx rb : Nat} {src : Bs} {a : Option Addr} {c : Nat} {am cm rv lv : Value} {nm : ByteArray} {sl : Int} {pa : Option Addr} {pc : Nat} {MP : List (Pt × Value)} {l l' : List Wd} {s s' : ES} {ea ea' : Option Addr} {ec ec' : Nat} {aa : Option Addr} {ac : Nat} {MA : List (Ac × Value)} (h : ActS w wx pb bx rb src a c am cm rv lv nm sl pa pc MP l s ea ec aa ac MA) (hm : MkX pb (obE s ea ec) wx wt) (hs : ExS wt w.heap.size pb src a c l' am cm rv lv s' ea' ec') (h2 : pb ≠ bx) (h3 : pb ≠ rb) (hk : s'.1.length ≤ s'.2) (h60 : s'.2 ≤ 60) : ActS w wt pb bx rb src a c am cm rv lv nm sl pa pc MP l' s' ea' ec' aa ac MA :=
  ⟨h.mo.mkx hm (fun g hg => (h.st.ow.lt g hg).1), hs, h.pts.mkx hm h.st.lt h.st.row (by decide) (by decide), h.acs.mkx hm h.st.lt h.st.row (by decide) (by decide), (hm.block bx (lt_of_block' h.bq) h2 (fun e => box_ne h.st.ow h.bq e rfl)).trans h.bq, (hm.block rb (lt_of_block' h.rq) h3 (fun e => box_ne h.st.ow h.rq e rfl)).trans h.rq, hk, h60⟩
set_option maxRecDepth 100000 in
set_option maxHeartbeats 12800000 in
theorem prule_any (w : World) (pb mb : Nat) (src : Bs) (a : Option Addr) (c : Nat) (l : List Wd) (cm rv lv ev0 bv0 : Value) (h : PSt w pb src a c l (RL (.map (some mb)) cm rv lv ev0 bv0)) (hM : FnMap w pb mb actF) (hne : pb < mb) : Calls Tryz.prog 50 #[.pointer (some ⟨pb, 0, none⟩)] w (RuPost w pb src a c (.map (some mb)) cm rv lv (pRule l)) := by
  have hwf2 := wfield2
  have hwf3 := wfield3
  have HP := hidX h
  have HM := hidX hM
  have hpb := h.lt
  have hml := hM.lt
  clear h hM
  go_enter Tryz.func50, Tryz.ntmps50
  go_upto_region 1 with fail
  refine lift_alloc ?_
  intro w1 hW1 hq1
  have P1 := hidX (HP.out.below hW1)
  have M1 := hidX (MkO.of_below hW1 : MkO (some pb) w w1)
  have HF := hidX (take_any w1 pb src a c l _ 97 P1.out)
  have hrb : w.heap.size < w1.heap.size := lt_of_block' hq1
  have HQ1 := hidX hq1
  clear hW1 hq1
  cases hr : takeW 97 l with
  | error f =>
    have HT : Hid (pRule l = .error f) := show _ = _ from by unfold pRule; rw [hr]; rfl
    rw [hr] at HF
    go_wp2_with (first | (go_at_call 78; refine HF.out.mono ?_; rintro e w2 ⟨hm2, rfl⟩; unfold fltE) | fail)
    exact ⟨rfl, RuPost.err HT.out (M1.out.trans hm2)⟩
  | ok p =>
    obtain ⟨x, l1⟩ := p
    rw [hr] at HF
    go_upto_region 2 with (first | (go_at_call 78; refine HF.out.mono ?_; rintro e w2 ⟨hm2, hw2, hp2⟩; replace hw2 : e = .returned (pwA x) := hw2; subst hw2; unfold pwA) | fail)
    refine lift_alloc ?_
    intro w3 hW3 hq3
    obtain ⟨L, X, HLX, hLl, hq3, y0⟩ := wd_box hq3
    have s2 := hm2.rest.size
    have s3 : w2.heap.size < w3.heap.size := lt_of_block' hq3
    have M3 := hidX ((M1.out.trans hm2).trans (MkO.of_below hW3))
    have P3 := hidX (hp2.below hW3)
    have HRB3 := hidX ((hW3.block w.heap.size (by omega)).trans ((hm2.block w.heap.size hrb (fun e => by injection e; omega)).trans HQ1.out))
    have y2 := (wd_text HLX hq3).1
    have hbq := beq_lit (mkS (ptW x)) ruleT
    rw [bs_mkS] at hbq
    clear hW3 hm2 hp2 HF HQ1 M1 P1
    by_cases hk : ptW x = ruleT
    · have HR1 : Hid (pRule l = andP (takeW 97 l1) fun nm l2 => andP (takeW 48 l2) fun sl l3 => andP (pMany 62 pPat 6 l3) fun ps l4 => andP (takeW 62 l4) fun _ l5 => andP (pManyS 41 pAct 8 ([], 0) l5) fun q l6 => andP (takeW 41 l6) fun _ l7 => .ok (⟨mkS (ptW nm), sl.num, ps, q.2.1, q.1⟩, l7)) := show _ = _ from by unfold pRule; rw [hr, andP_okX, if_pos hk]
      rw [decide_eq_true hk] at hbq
      replace hbq : ((mkS (ptW x)).toList == [114, 117, 108, 101]) = true := hbq
      clear hk hr
      have c6 := P3.out.cell (j := 4) rfl
      have c7 := P3.out.cell (j := 5) rfl
      obtain ⟨cs3, hqp⟩ : ∃ cs, w3.heap[pb]? = some (.cells cs 62 (0, 0)) := by
        obtain ⟨k', hs'⟩ := P3.out.sc
        exact ⟨_, hs'.blk⟩
      have f6 := froz_of hqp 6
      have f7 := froz_of hqp 7
      go_upto_region 5 with fail
      refine lift_eq ?_
      intro w4 hw4
      have P4 := hidX (show PSt w4 pb src a c l1 (RL (.map (some mb)) cm rv lv (.slice none 0 0) (.int .i64 0)) from (P3.out.cellSet (j := 4) (v := .slice none 0 0) rfl).cellSet (j := 5) (v := .int .i64 0) hw4)
      have m4 : MkO (some pb) w3 w4 := by rw [hw4]; exact (MkO.set _).trans (MkO.set _)
      have M4 := hidX (M3.out.trans m4)
      have s4 := m4.rest.size
      have HRB4 := hidX ((m4.block w.heap.size (by omega) (fun e => by injection e; omega)).trans HRB3.out)
      clear hw4 m4 c6 c7 f6 f7 hqp P3 M3 HRB3 y2 hbq
      have HNM := hidX (take_any w4 pb src a c l1 _ 97 P4.out)
      cases hn : takeW 97 l1 with
      | error f =>
        have HT : Hid (pRule l = .error f) := show _ = _ from by rw [HR1.out, hn]; rfl
        rw [hn] at HNM
        go_wp2_with (first | (go_at_call 78; refine HNM.out.mono ?_; rintro e w5 ⟨hm5, rfl⟩; unfold fltE) | fail)
        exact ⟨rfl, RuPost.err HT.out (M4.out.trans hm5)⟩
      | ok p =>
        obtain ⟨nm, l2⟩ := p
        rw [hn] at HNM
        go_upto_region 6 with (first | (go_at_call 78; refine HNM.out.mono ?_; rintro e w5 ⟨hm5, hw5, hp5⟩; replace hw5 : e = .returned (pwA nm) := hw5; subst hw5; unfold pwA) | fail)
        refine lift_alloc ?_
        intro w6 hW6 hq6
        have s5 := hm5.rest.size
        have s6 : w5.heap.size < w6.heap.size := lt_of_block' hq6
        have P6 := hidX (hp5.below hW6)
        have M6 := hidX ((M4.out.trans hm5).trans (MkO.of_below hW6))
        have HB6 := hidX (show w6.heap[w5.heap.size]? = some (.cells (ruL (mkS (ptW nm)) 0 nilV nilV nilV).toArray 46 (0, 0)) from hq6)
        have HRB6 := hidX ((hW6.block w.heap.size (by omega)).trans ((hm5.block w.heap.size (by omega) (fun e => by injection e; omega)).trans HRB4.out))
        have HSL := hidX (take_any w6 pb src a c l2 _ 48 P6.out)
        clear hW6 hq6 hm5 hp5 HNM P4 M4 HRB4
        cases hs : takeW 48 l2 with
        | error f =>
          have HT : Hid (pRule l = .error f) := show _ = _ from by rw [HR1.out, hn, andP_okX, hs]; rfl
          rw [hs] at HSL
          go_wp2_with (first | (go_at_call 78; refine HSL.out.mono ?_; rintro e w7 ⟨hm7, rfl⟩; unfold fltE) | fail)
          exact ⟨rfl, RuPost.err HT.out (M6.out.trans hm7)⟩
        | ok p =>
          obtain ⟨sl, l3⟩ := p
          have HR2 : Hid (pRule l = andP (pMany 62 pPat 6 l3) fun ps l4 => andP (takeW 62 l4) fun _ l5 => andP (pManyS 41 pAct 8 ([], 0) l5) fun q l6 => andP (takeW 41 l6) fun _ l7 => .ok (⟨mkS (ptW nm), sl.num, ps, q.2.1, q.1⟩, l7)) := show _ = _ from by rw [HR1.out, hn, andP_okX, hs, andP_okX]
          rw [hs] at HSL
          clear hn hs HR1
          go_upto_block 0 with (first | (go_at_call 78; refine HSL.out.mono ?_; rintro e w7 ⟨hm7, hw7, hp7⟩; replace hw7 : e = .returned (pwA sl) := hw7; subst hw7; unfold pwA; have s7 := hm7.rest.size; have hq7 := (hm7.block w5.heap.size s6 (fun e => by injection e; omega)).trans HB6.out; have d1 := cell_of hq7 (j := 1) rfl; have f1 := froz_of hq7 1) | fail)
          refine lift_setW hq7 ?_
          intro w8 hq8 ht8
          have S8 := hidX (show PatS w w8 pb w5.heap.size w.heap.size src a c (.map (some mb)) cm rv lv (mkS (ptW nm)) sl.num l3 none 0 [] from ⟨(M6.out.trans hm7).turn ht8 (by omega), hp7.turned ht8 (by omega), NRow.nil _ _ _, hq8, (ht8.block w.heap.size (by omega)).trans ((hm7.block w.heap.size (by omega) (fun e => by injection e; omega)).trans HRB6.out)⟩)
          have hbx : w.heap.size < w5.heap.size := by omega
          clear hm7 hp7 s7 hq7 d1 f1 hq8 ht8 HSL HB6 HRB6 P6 M6
          go_cut [] (fun wx => ∃ l4 pa pc MP, PatS w wx pb w5.heap.size w.heap.size src a c (.map (some mb)) cm rv lv (mkS (ptW nm)) sl.num l4 pa pc MP ∧ pMany 62 pPat 6 l3 = .ok (MP.map Prod.fst, l4))
          case first =>
            go_wp2_with fail
            go_loopw [] (fun wr => ∃ (n : Nat) (l' : List Wd) (pa : Option Addr) (pc : Nat) (MP : List (Pt × Value)), MP.length + n = 6 ∧ PatS w wr pb w5.heap.size w.heap.size src a c (.map (some mb)) cm rv lv (mkS (ptW nm)) sl.num l' pa pc MP ∧ pMany 62 pPat 6 l3 = preL (MP.map Prod.fst) (pMany 62 pPat n l')) (fun wr => 6 - lenP w5.heap.size 2 wr)
            case atStart => exact ⟨6, l3, none, 0, [], rfl, S8.out, by unfold preL; cases pMany 62 pPat 6 l3 <;> rfl⟩
            case round =>
              obtain ⟨n, l', pa, pc, MP, hMn, hst, hpl⟩ := hrel
              have ST := hidX hst
              have PL := hidX hpl
              have HAH := hidX (ahead_any wr pb src a c l' _ 62 hst.ps)
              have c2 := cell_of hst.bq (j := 2) rfl
              have HML : Hid (lenP w5.heap.size 2 wr = MP.length) := show _ = _ from by unfold lenP; rw [c2]; rfl
              have hbl : w5.heap.size < wr.heap.size := lt_of_block' hst.bq
              clear hst hpl S8
              cases hr : nextW l' with
              | error f =>
                have HT : Hid (pRule l = .error f) := show _ = _ from by rw [HR2.out, PL.out, pMany_err hr]; rfl
                rw [hr] at HAH
                go_wp2_with (first | (go_at_call 48; refine HAH.out.mono ?_; rintro e w10 ⟨hb10, rfl⟩; unfold fltE) | fail)
                exact ⟨rfl, RuPost.err HT.out (ST.out.below hb10).mo⟩
              | ok p =>
                obtain ⟨x', r⟩ := p
                rw [hr] at HAH
                by_cases hx : pkW x' = 62
                · have HT : Hid (pMany 62 pPat 6 l3 = .ok (MP.map Prod.fst, l')) := show _ = _ from by rw [PL.out, pMany_end hr hx]; simp [preL]
                  replace HAH : Hid (Calls Tryz.prog 48 #[.pointer (some ⟨pb, 0, none⟩), .int .i32 62] wr fun e w' => Below wr.heap.size wr w' ∧ e = .returned (.bool true)) := by
                    rw [← decide_eq_true hx]
                    exact HAH
                  clear hx
                  go_wp2_with (first | (go_at_call 48; refine HAH.out.mono ?_; rintro e w10 ⟨hb10, rfl⟩) | fail)
                  go_meet
                  exact ⟨l', pa, pc, MP, ST.out.below hb10, HT.out⟩
                · replace HAH : Hid (Calls Tryz.prog 48 #[.pointer (some ⟨pb, 0, none⟩), .int .i32 62] wr fun e w' => Below wr.heap.size wr w' ∧ e = .returned (.bool false)) := by
                    rw [← decide_eq_false hx]
                    exact HAH
                  have HOP := hidX (fun u (hu : Below wr.heap.size wr u) => open_any u pb src a c l' _ (MP.length : Int) 6 (ST.out.below hu).ps)
                  have hnM : (MP.length : Int) = ((6 - n : Nat) : Int) := by omega
                  cases ho : openW (MP.length : Int) 6 l' with
                  | error f =>
                    have HT : Hid (pRule l = .error f) := show _ = _ from by rw [HR2.out, PL.out, pMany_open (m := 6) hr hx (by omega) (by rw [← hnM]; exact ho)]; rfl
                    rw [ho] at HOP
                    clear hx hnM ho
                    go_upto_region 8 with (first | (go_at_call 48; refine HAH.out.mono ?_; rintro e w10 ⟨hb10, rfl⟩) | fail)
                    have d2 := cell_below hb10 c2
                    go_wp2_with (first | (go_at_call 49; refine (HOP.out _ hb10).mono ?_; rintro e w11 ⟨hm11, rfl⟩; unfold fltE) | fail)
                    exact ⟨rfl, RuPost.err HT.out ((ST.out.below hb10).mo.trans hm11)⟩
                  | ok p =>
                    obtain ⟨y, l1'⟩ := p
                    obtain ⟨n, rfl, htk⟩ := pMany_more (m := 6) (n := n) hr (by omega) (by rw [← hnM]; exact ho)
                    rw [ho] at HOP
                    clear hnM ho
                    have HCM := hidX (fun u (hu : PSt u pb src a c l1' (RL (.map (some mb)) cm rv lv (.slice none 0 0) (.int .i64 0))) => ppattern_any u pb src a c l1' _ hu)
                    go_upto_region 8 with (first | (go_at_call 48; refine HAH.out.mono ?_; rintro e w10 ⟨hb10, rfl⟩) | fail)
                    have d2 := cell_below hb10 c2
                    go_upto_region 9 with (first | (go_at_call 49; refine (HOP.out _ hb10).mono ?_; rintro e w11 ⟨hm11, he11, hp11⟩; replace he11 : e = .returned (.tuple #[]) := he11; subst he11) | fail)
                    have S11 := hidX ((ST.out.below hb10).mko hm11 hp11 hpb (by omega) (by omega))
                    have s10 := hb10.size
                    have s11 := hm11.rest.size
                    have e2 := cell_of S11.out.bq (j := 2) rfl
                    clear hm11 hp11 hb10 d2 c2 HOP HAH
                    cases hc : pPat l1' with
                    | error f =>
                      have HT : Hid (pRule l = .error f) := show _ = _ from by rw [HR2.out, PL.out, pMany_bad hr hx htk hc]; rfl
                      rw [hc] at HCM
                      clear hx
                      refine wp_region_pa (fun ch u => RuPost w pb src a c (.map (some mb)) cm rv lv (pRule l) (.panicked ch) u) (fun _ _ _ h1 h2 => ⟨h1, h2⟩) ?_
                      refine wp_region_held_drew (S := (fun _ => True)) (by kernel_rfl) ?_ (fun hHeld => ?_)
                      · trivial
                      refine tkP 0 hHeld ?_
                      (try simp only [pA, pZ, pS])
                      refine tkP 2 hHeld ?_
                      (try simp only [pA, pZ, pS])
                      refine wpAnyH_ready (rs := [1, 3]) (by kernel_rfl) (by simp) ?_
                      refine AllReadyH.cons (o := ?o1) ?ho1 (fun K hK => ?step1) (AllReadyH.cons (o := ?o2) ?ho2 (fun K hK => ?step2) AllReadyH.nil)
                      case ho1 => (simp only [List.getElem?_toArray, List.getElem?_cons_succ, List.getElem?_cons_zero]; rfl)
                      case ho2 => (simp only [List.getElem?_toArray, List.getElem?_cons_succ, List.getElem?_cons_zero]; rfl)
                      case step1 =>
                        go_simp
                        refine hK.out _ _ ?hS3 (fun hHeld' => ?rest3)
                        case hS3 => ((try dsimp only); all_goals trivial)
                        clear hK K
                        (try simp only [pA, pZ, pS])
                        clear hHeld
                        have hHeld := hHeld'
                        clear hHeld'
                        refine wpAnyH_ready (rs := [3]) (by kernel_rfl) (by simp) ?_
                        refine AllReadyH.cons (o := ?o4) ?ho4 (fun K hK => ?step4) AllReadyH.nil
                        case ho4 => (simp only [List.getElem?_toArray, List.getElem?_cons_succ, List.getElem?_cons_zero]; rfl)
                        go_simp
                        (go_at_call 87; refine (HCM.out _ (S11.out.below ((Below.refl _ _).drew)).ps).mono ?_; rintro e w12 ⟨hm12, rfl⟩; unfold fltE)
                        go_wp2_with fail
                        exact ⟨rfl, RuPost.err HT.out (S11.out.mo.drew.trans hm12)⟩
                      case step2 =>
                        go_simp
                        (go_at_call 87; refine (HCM.out _ (S11.out.below ((Below.refl _ _).drew)).ps).mono ?_; rintro e w12 ⟨hm12, rfl⟩; unfold fltE)
                        go_wp2_with fail
                        exact ⟨rfl, RuPost.err HT.out (S11.out.mo.drew.trans hm12)⟩
                    | ok q =>
                      obtain ⟨v, l2'⟩ := q
                      have PL2 := hidX (PL.out.trans (pMany_step (M := MP.map Prod.fst) hr hx htk hc))
                      rw [hc] at HCM
                      clear hx
                      refine wp_region_noPanic ?_
                      refine wp_region_held_drew (S := (fun _ => True)) (by kernel_rfl) ?_ (fun hHeld => ?_)
                      · (try dsimp only)
                        all_goals trivial
                      refine tk 0 hHeld ?_
                      (try simp only [pA, pZ, pS])
                      refine tk 2 hHeld ?_
                      (try simp only [pA, pZ, pS])
                      refine wpAnyH_ready (rs := [1, 3]) (by kernel_rfl) (by simp) ?_
                      refine AllReadyH.cons (o := ?o5) ?ho5 (fun K hK => ?step5) (AllReadyH.cons (o := ?o6) ?ho6 (fun K hK => ?step6) AllReadyH.nil)
                      case ho5 => (simp only [List.getElem?_toArray, List.getElem?_cons_succ, List.getElem?_cons_zero]; rfl)
                      case ho6 => (simp only [List.getElem?_toArray, List.getElem?_cons_succ, List.getElem?_cons_zero]; rfl)
                      case step5 =>
                        go_simp
                        refine hK.out _ _ ?hS7 (fun hHeld' => ?rest7)
                        case hS7 => ((try dsimp only); all_goals trivial)
                        clear hK K
                        (try simp only [pA, pZ, pS])
                        clear hHeld
                        have hHeld := hHeld'
                        clear hHeld'
                        refine wpAnyH_ready (rs := [3]) (by kernel_rfl) (by simp) ?_
                        refine AllReadyH.cons (o := ?o8) ?ho8 (fun K hK => ?step8) AllReadyH.nil
                        case ho8 => (simp only [List.getElem?_toArray, List.getElem?_cons_succ, List.getElem?_cons_zero]; rfl)
                        go_simp
                        (go_at_call 87; refine (HCM.out _ (S11.out.below ((Below.refl _ _).drew)).ps).mono ?_; rintro e w12 ⟨hm12, ⟨va, vc, rfl, ho12⟩, hp12⟩; unfold ptP; have s12 := hm12.rest.size; simp at s12; have hq12 := (hm12.block w5.heap.size (by simp; omega) (fun e => by injection e; omega)).trans S11.out.bq; have g2 := cell_of hq12 (j := 2) rfl)
                        refine hK.out _ _ ?hS9 (fun hHeld' => ?rest9)
                        case hS9 => ((try dsimp only); all_goals trivial)
                        clear hK K
                        (try simp only [pA, pZ, pS])
                        clear hHeld
                        have hHeld := hHeld'
                        clear hHeld'
                        refine wpAnyH_ready (rs := [4]) (by kernel_rfl) (by simp) ?_
                        refine AllReadyH.cons (o := ?o10) ?ho10 (fun K hK => ?step10) AllReadyH.nil
                        case ho10 => (simp only [List.getElem?_toArray, List.getElem?_cons_succ, List.getElem?_cons_zero]; rfl)
                        go_simp
                        have HA12 := hidX (fun o' => (Below.refl _ _).alloc (Nat.le_refl _) o' : ∀ o', Below w12.heap.size w12 (w12.alloc o')); have g2a : ∀ o', (w12.alloc o').cell? ⟨w5.heap.size, 2, none⟩ = some (.slice pa MP.length pc) := fun o' => cell_below (HA12.out o') g2
                        refine hK.out _ _ ?hS11 (fun hHeld' => ?rest11)
                        case hS11 => ((try dsimp only); all_goals trivial)
                        clear hK K
                        (try simp only [pA, pZ, pS])
                        clear hHeld
                        have hHeld := hHeld'
                        clear hHeld'
                        have S12 := hidX ((S11.out.below ((Below.refl _ _).drew)).mko hm12 hp12 hpb (by omega) (by omega))
                        refine wpAnyH_ready (rs := [5]) (by kernel_rfl) (by simp) ?_
                        refine AllReadyH.cons (o := ?o12) ?ho12 (fun K hK => ?step12) AllReadyH.nil
                        case ho12 => (simp only [List.getElem?_toArray, List.getElem?_cons_succ, List.getElem?_cons_zero]; rfl)
                        (refine step_append_any (by rfl) (.tmp 36) (.tmp 39) 42 (by rfl) w.heap.size 80 _ 3 48 Tryz.underlying42 infoPF1 (by rfl) (by omega) _ MP.length _ (by rfl) (S12.out.below (HA12.out _)).pts.row (some ⟨_, 0, none⟩) 1 1 (by rfl) (ptP v (.slice va v.terms.length vc)) (by rfl) (fun e => by cases e) (news_new _ _ _ _ (by simp)) (ptP_one _ _ _ _) (by unfold maxLen; omega) (by omega) (by have := S12.out.mo.rest.size; simp; omega) ?_; intro a13 c13 w13 ho13 hg13 hl13)
                        refine hK.out _ _ ?hS13 (fun hHeld' => ?rest13)
                        case hS13 => ((try dsimp only); all_goals trivial)
                        clear hK K
                        (try simp only [pA, pZ, pS])
                        clear hHeld
                        have hHeld := hHeld'
                        clear hHeld'
                        have hrow : ∀ k, (Value.slice pa MP.length pc).ownBlock = some k → w.heap.size ≤ k := fun k hk => (S12.out.pts.rlt k hk).1
                        have SA := hidX (fun o' => S12.out.below (HA12.out o'))
                        have N13 := hidX (NRow.more (S11.out.below ((Below.refl _ _).drew)).pts (SA.out _).pts ho12 (Nat.le_refl _) (by simp; omega) ⟨va, vc, rfl⟩ (own_bel ho12 (HA12.out _)) hg13.out ho13.out (by decide))
                        have P13 := hidX ((SA.out _).ps.keep ((Below.refl _ _).grown hg13.out (by simp; omega) (fun k hk => by have := hrow k hk; omega)))
                        have B13 := hidX (box_grown (SA.out _).bq hg13.out (SA.out _).pts.rty (by decide))
                        have R13 := hidX (box_grown (SA.out _).rq hg13.out (SA.out _).pts.rty (by decide))
                        have M13 := hidX ((SA.out _).mo.grown hg13.out hrow)
                        have f2 := cell_of B13.out (j := 2) rfl
                        have z2 := froz_of B13.out 2
                        have s13 : w5.heap.size < w13.heap.size := lt_of_block' B13.out
                        refine tk 6 hHeld ?_
                        (try simp only [pA, pZ, pS])
                        refine wpAnyH_ready (rs := [7]) (by kernel_rfl) (by simp) ?_
                        refine AllReadyH.cons (o := ?o14) ?ho14 (fun K hK => ?step14) AllReadyH.nil
                        case ho14 => (simp only [List.getElem?_toArray, List.getElem?_cons_succ, List.getElem?_cons_zero]; rfl)
                        go_simp
                        refine hK.out _ _ ?hS15 (fun hHeld' => ?rest15)
                        case hS15 => ((try dsimp only); all_goals trivial)
                        clear hK K
                        (try dsimp only)
                        clear hHeld
                        have hHeld := hHeld'
                        clear hHeld'
                        refine wpAnyH_done (by kernel_rfl) ?_ _
                        refine NoPanic.normal ?_
                        clear hHeld
                        refine lift_setW B13.out ?_
                        intro w14 hq14 ht14
                        have S14 := hidX (show PatS w w14 pb w5.heap.size w.heap.size src a c (.map (some mb)) cm rv lv (mkS (ptW nm)) sl.num l2' a13 c13 (MP ++ [(v, .slice va v.terms.length vc)]) from ⟨M13.out.turn ht14 (by omega), P13.out.turned ht14 (by omega), N13.out.turned ht14 B13.out (by decide) (by decide), by simpa [ruL] using hq14, (ht14.block w.heap.size (by omega)).trans R13.out⟩)
                        have HL14 : Hid (lenP w5.heap.size 2 w14 = MP.length + 1) := show _ = _ from by unfold lenP; rw [cell_of S14.out.bq (j := 2) rfl]; simp [sliceLen]
                        clear hq14 ht14 f2 z2
                        go_wp2_with fail
                        go_roundw
                        case rel => exact ⟨n, l2', a13, c13, MP ++ [(v, .slice va v.terms.length vc)], by simp; omega, S14.out, by simpa using PL2.out⟩
                        case measure =>
                          change 6 - lenP w5.heap.size 2 w14 < 6 - lenP w5.heap.size 2 wr
                          rw [HL14.out, HML.out]
                          omega
                      case step6 =>
                        go_simp
                        (go_at_call 87; refine (HCM.out _ (S11.out.below ((Below.refl _ _).drew)).ps).mono ?_; rintro e w12 ⟨hm12, ⟨va, vc, rfl, ho12⟩, hp12⟩; unfold ptP; have s12 := hm12.rest.size; simp at s12; have hq12 := (hm12.block w5.heap.size (by simp; omega) (fun e => by injection e; omega)).trans S11.out.bq; have g2 := cell_of hq12 (j := 2) rfl)
                        refine hK.out _ _ ?hS16 (fun hHeld' => ?rest16)
                        case hS16 => ((try dsimp only); all_goals trivial)
                        clear hK K
                        (try simp only [pA, pZ, pS])
                        clear hHeld
                        have hHeld := hHeld'
                        clear hHeld'
                        refine wpAnyH_ready (rs := [1, 4]) (by kernel_rfl) (by simp) ?_
                        refine AllReadyH.cons (o := ?o17) ?ho17 (fun K hK => ?step17) (AllReadyH.cons (o := ?o18) ?ho18 (fun K hK => ?step18) AllReadyH.nil)
                        case ho17 => (simp only [List.getElem?_toArray, List.getElem?_cons_succ, List.getElem?_cons_zero]; rfl)
                        case ho18 => (simp only [List.getElem?_toArray, List.getElem?_cons_succ, List.getElem?_cons_zero]; rfl)
                        case step17 =>
                          go_simp
                          refine hK.out _ _ ?hS19 (fun hHeld' => ?rest19)
                          case hS19 => ((try dsimp only); all_goals trivial)
                          clear hK K
                          (try simp only [pA, pZ, pS])
                          clear hHeld
                          have hHeld := hHeld'
                          clear hHeld'
                          refine wpAnyH_ready (rs := [4]) (by kernel_rfl) (by simp) ?_
                          refine AllReadyH.cons (o := ?o20) ?ho20 (fun K hK => ?step20) AllReadyH.nil
                          case ho20 => (simp only [List.getElem?_toArray, List.getElem?_cons_succ, List.getElem?_cons_zero]; rfl)
                          go_simp
                          have HA12 := hidX (fun o' => (Below.refl _ _).alloc (Nat.le_refl _) o' : ∀ o', Below w12.heap.size w12 (w12.alloc o')); have g2a : ∀ o', (w12.alloc o').cell? ⟨w5.heap.size, 2, none⟩ = some (.slice pa MP.length pc) := fun o' => cell_below (HA12.out o') g2
                          refine hK.out _ _ ?hS21 (fun hHeld' => ?rest21)
                          case hS21 => ((try dsimp only); all_goals trivial)
                          clear hK K
                          (try simp only [pA, pZ, pS])
                          clear hHeld
                          have hHeld := hHeld'
                          clear hHeld'
                          have S12 := hidX ((S11.out.below ((Below.refl _ _).drew)).mko hm12 hp12 hpb (by omega) (by omega))
                          refine wpAnyH_ready (rs := [5]) (by kernel_rfl) (by simp) ?_
                          refine AllReadyH.cons (o := ?o22) ?ho22 (fun K hK => ?step22) AllReadyH.nil
                          case ho22 => (simp only [List.getElem?_toArray, List.getElem?_cons_succ, List.getElem?_cons_zero]; rfl)
                          (refine step_append_any (by rfl) (.tmp 36) (.tmp 39) 42 (by rfl) w.heap.size 80 _ 3 48 Tryz.underlying42 infoPF1 (by rfl) (by omega) _ MP.length _ (by rfl) (S12.out.below (HA12.out _)).pts.row (some ⟨_, 0, none⟩) 1 1 (by rfl) (ptP v (.slice va v.terms.length vc)) (by rfl) (fun e => by cases e) (news_new _ _ _ _ (by simp)) (ptP_one _ _ _ _) (by unfold maxLen; omega) (by omega) (by have := S12.out.mo.rest.size; simp; omega) ?_; intro a13 c13 w13 ho13 hg13 hl13)
                          refine hK.out _ _ ?hS23 (fun hHeld' => ?rest23)
                          case hS23 => ((try dsimp only); all_goals trivial)
                          clear hK K
                          (try simp only [pA, pZ, pS])
                          clear hHeld
                          have hHeld := hHeld'
                          clear hHeld'
                          have hrow : ∀ k, (Value.slice pa MP.length pc).ownBlock = some k → w.heap.size ≤ k := fun k hk => (S12.out.pts.rlt k hk).1
                          have SA := hidX (fun o' => S12.out.below (HA12.out o'))
                          have N13 := hidX (NRow.more (S11.out.below ((Below.refl _ _).drew)).pts (SA.out _).pts ho12 (Nat.le_refl _) (by simp; omega) ⟨va, vc, rfl⟩ (own_bel ho12 (HA12.out _)) hg13.out ho13.out (by decide))
                          have P13 := hidX ((SA.out _).ps.keep ((Below.refl _ _).grown hg13.out (by simp; omega) (fun k hk => by have := hrow k hk; omega)))
                          have B13 := hidX (box_grown (SA.out _).bq hg13.out (SA.out _).pts.rty (by decide))
                          have R13 := hidX (box_grown (SA.out _).rq hg13.out (SA.out _).pts.rty (by decide))
                          have M13 := hidX ((SA.out _).mo.grown hg13.out hrow)
                          have f2 := cell_of B13.out (j := 2) rfl
                          have z2 := froz_of B13.out 2
                          have s13 : w5.heap.size < w13.heap.size := lt_of_block' B13.out
                          refine tk 6 hHeld ?_
                          (try simp only [pA, pZ, pS])
                          refine wpAnyH_ready (rs := [7]) (by kernel_rfl) (by simp) ?_
                          refine AllReadyH.cons (o := ?o24) ?ho24 (fun K hK => ?step24) AllReadyH.nil
                          case ho24 => (simp only [List.getElem?_toArray, List.getElem?_cons_succ, List.getElem?_cons_zero]; rfl)
                          go_simp
                          refine hK.out _ _ ?hS25 (fun hHeld' => ?rest25)
                          case hS25 => ((try dsimp only); all_goals trivial)
                          clear hK K
                          (try dsimp only)
                          clear hHeld
                          have hHeld := hHeld'
                          clear hHeld'
                          refine wpAnyH_done (by kernel_rfl) ?_ _
                          refine NoPanic.normal ?_
                          clear hHeld
                          refine lift_setW B13.out ?_
                          intro w14 hq14 ht14
                          have S14 := hidX (show PatS w w14 pb w5.heap.size w.heap.size src a c (.map (some mb)) cm rv lv (mkS (ptW nm)) sl.num l2' a13 c13 (MP ++ [(v, .slice va v.terms.length vc)]) from ⟨M13.out.turn ht14 (by omega), P13.out.turned ht14 (by omega), N13.out.turned ht14 B13.out (by decide) (by decide), by simpa [ruL] using hq14, (ht14.block w.heap.size (by omega)).trans R13.out⟩)
                          have HL14 : Hid (lenP w5.heap.size 2 w14 = MP.length + 1) := show _ = _ from by unfold lenP; rw [cell_of S14.out.bq (j := 2) rfl]; simp [sliceLen]
                          clear hq14 ht14 f2 z2
                          go_wp2_with fail
                          go_roundw
                          case rel => exact ⟨n, l2', a13, c13, MP ++ [(v, .slice va v.terms.length vc)], by simp; omega, S14.out, by simpa using PL2.out⟩
                          case measure =>
                            change 6 - lenP w5.heap.size 2 w14 < 6 - lenP w5.heap.size 2 wr
                            rw [HL14.out, HML.out]
                            omega
                        case step18 =>
                          go_simp
                          have HA12 := hidX (fun o' => (Below.refl _ _).alloc (Nat.le_refl _) o' : ∀ o', Below w12.heap.size w12 (w12.alloc o')); have g2a : ∀ o', (w12.alloc o').cell? ⟨w5.heap.size, 2, none⟩ = some (.slice pa MP.length pc) := fun o' => cell_below (HA12.out o') g2
                          refine hK.out _ _ ?hS26 (fun hHeld' => ?rest26)
                          case hS26 => ((try dsimp only); all_goals trivial)
                          clear hK K
                          (try simp only [pA, pZ, pS])
                          clear hHeld
                          have hHeld := hHeld'
                          clear hHeld'
                          refine wpAnyH_ready (rs := [1]) (by kernel_rfl) (by simp) ?_
                          refine AllReadyH.cons (o := ?o27) ?ho27 (fun K hK => ?step27) AllReadyH.nil
                          case ho27 => (simp only [List.getElem?_toArray, List.getElem?_cons_succ, List.getElem?_cons_zero]; rfl)
                          go_simp
                          refine hK.out _ _ ?hS28 (fun hHeld' => ?rest28)
                          case hS28 => ((try dsimp only); all_goals trivial)
                          clear hK K
                          (try simp only [pA, pZ, pS])
                          clear hHeld
                          have hHeld := hHeld'
                          clear hHeld'
                          have S12 := hidX ((S11.out.below ((Below.refl _ _).drew)).mko hm12 hp12 hpb (by omega) (by omega))
                          refine wpAnyH_ready (rs := [5]) (by kernel_rfl) (by simp) ?_
                          refine AllReadyH.cons (o := ?o29) ?ho29 (fun K hK => ?step29) AllReadyH.nil
                          case ho29 => (simp only [List.getElem?_toArray, List.getElem?_cons_succ, List.getElem?_cons_zero]; rfl)
                          (refine step_append_any (by rfl) (.tmp 36) (.tmp 39) 42 (by rfl) w.heap.size 80 _ 3 48 Tryz.underlying42 infoPF1 (by rfl) (by omega) _ MP.length _ (by rfl) (S12.out.below (HA12.out _)).pts.row (some ⟨_, 0, none⟩) 1 1 (by rfl) (ptP v (.slice va v.terms.length vc)) (by rfl) (fun e => by cases e) (news_new _ _ _ _ (by simp)) (ptP_one _ _ _ _) (by unfold maxLen; omega) (by omega) (by have := S12.out.mo.rest.size; simp; omega) ?_; intro a13 c13 w13 ho13 hg13 hl13)
                          refine hK.out _ _ ?hS30 (fun hHeld' => ?rest30)
                          case hS30 => ((try dsimp only); all_goals trivial)
                          clear hK K
                          (try simp only [pA, pZ, pS])
                          clear hHeld
                          have hHeld := hHeld'
                          clear hHeld'
                          have hrow : ∀ k, (Value.slice pa MP.length pc).ownBlock = some k → w.heap.size ≤ k := fun k hk => (S12.out.pts.rlt k hk).1
                          have SA := hidX (fun o' => S12.out.below (HA12.out o'))
                          have N13 := hidX (NRow.more (S11.out.below ((Below.refl _ _).drew)).pts (SA.out _).pts ho12 (Nat.le_refl _) (by simp; omega) ⟨va, vc, rfl⟩ (own_bel ho12 (HA12.out _)) hg13.out ho13.out (by decide))
                          have P13 := hidX ((SA.out _).ps.keep ((Below.refl _ _).grown hg13.out (by simp; omega) (fun k hk => by have := hrow k hk; omega)))
                          have B13 := hidX (box_grown (SA.out _).bq hg13.out (SA.out _).pts.rty (by decide))
                          have R13 := hidX (box_grown (SA.out _).rq hg13.out (SA.out _).pts.rty (by decide))
                          have M13 := hidX ((SA.out _).mo.grown hg13.out hrow)
                          have f2 := cell_of B13.out (j := 2) rfl
                          have z2 := froz_of B13.out 2
                          have s13 : w5.heap.size < w13.heap.size := lt_of_block' B13.out
                          refine tk 6 hHeld ?_
                          (try simp only [pA, pZ, pS])
                          refine wpAnyH_ready (rs := [7]) (by kernel_rfl) (by simp) ?_
                          refine AllReadyH.cons (o := ?o31) ?ho31 (fun K hK => ?step31) AllReadyH.nil
                          case ho31 => (simp only [List.getElem?_toArray, List.getElem?_cons_succ, List.getElem?_cons_zero]; rfl)
                          go_simp
                          refine hK.out _ _ ?hS32 (fun hHeld' => ?rest32)
                          case hS32 => ((try dsimp only); all_goals trivial)
                          clear hK K
                          (try dsimp only)
                          clear hHeld
                          have hHeld := hHeld'
                          clear hHeld'
                          refine wpAnyH_done (by kernel_rfl) ?_ _
                          refine NoPanic.normal ?_
                          clear hHeld
                          refine lift_setW B13.out ?_
                          intro w14 hq14 ht14
                          have S14 := hidX (show PatS w w14 pb w5.heap.size w.heap.size src a c (.map (some mb)) cm rv lv (mkS (ptW nm)) sl.num l2' a13 c13 (MP ++ [(v, .slice va v.terms.length vc)]) from ⟨M13.out.turn ht14 (by omega), P13.out.turned ht14 (by omega), N13.out.turned ht14 B13.out (by decide) (by decide), by simpa [ruL] using hq14, (ht14.block w.heap.size (by omega)).trans R13.out⟩)
                          have HL14 : Hid (lenP w5.heap.size 2 w14 = MP.length + 1) := show _ = _ from by unfold lenP; rw [cell_of S14.out.bq (j := 2) rfl]; simp [sliceLen]
                          clear hq14 ht14 f2 z2
                          go_wp2_with fail
                          go_roundw
                          case rel => exact ⟨n, l2', a13, c13, MP ++ [(v, .slice va v.terms.length vc)], by simp; omega, S14.out, by simpa using PL2.out⟩
                          case measure =>
                            change 6 - lenP w5.heap.size 2 w14 < 6 - lenP w5.heap.size 2 wr
                            rw [HL14.out, HML.out]
                            omega
          case rest =>
            obtain ⟨l4, pa, pc, MP, hst, hpm⟩ := hcut
            obtain ⟨w9, rfl⟩ : ∃ v, v = wc := ⟨wc, rfl⟩
            have ST := hidX hst
            have HR3 : Hid (pRule l = andP (takeW 62 l4) fun _ l5 => andP (pManyS 41 pAct 8 ([], 0) l5) fun q l6 => andP (takeW 41 l6) fun _ l7 => .ok (⟨mkS (ptW nm), sl.num, MP.map Prod.fst, q.2.1, q.1⟩, l7)) := show _ = _ from by rw [HR2.out, hpm]; rfl
            have HTH := hidX (take_any w9 pb src a c l4 _ 62 hst.ps)
            clear hst hpm S8 HR2
            cases hth : takeW 62 l4 with
            | error f =>
              have HT : Hid (pRule l = .error f) := show _ = _ from by rw [HR3.out, hth]; rfl
              rw [hth] at HTH
              go_wp2_with (first | (go_at_call 78; refine HTH.out.mono ?_; rintro e w20 ⟨hm20, rfl⟩; unfold fltE) | fail)
              exact ⟨rfl, RuPost.err HT.out (ST.out.mo.trans hm20)⟩
            | ok p =>
              obtain ⟨th, l5⟩ := p
              have HR4 : Hid (pRule l = andP (pManyS 41 pAct 8 ([], 0) l5) fun q l6 => andP (takeW 41 l6) fun _ l7 => .ok (⟨mkS (ptW nm), sl.num, MP.map Prod.fst, q.2.1, q.1⟩, l7)) := show _ = _ from by rw [HR3.out, hth]; rfl
              rw [hth] at HTH
              clear hth HR3
              go_upto_block 2 with (first | (go_at_call 78; refine HTH.out.mono ?_; rintro e w20 ⟨hm20, hw20, hp20⟩; replace hw20 : e = .returned (pwA th) := hw20; subst hw20; unfold pwA) | fail)
              have S20 := hidX (show ActS w w20 pb w5.heap.size w.heap.size src a c (.map (some mb)) cm rv lv (mkS (ptW nm)) sl.num pa pc MP l5 ([], 0) none 0 none 0 [] from ⟨ST.out.mo.trans hm20, ⟨hp20, World.ownsRow_nil _ _ _ _, hpb, (ST.out.mo.trans hm20).rest.size⟩, ST.out.pts.mko hm20 hpb, NRow.nil _ _ _, (hm20.block w5.heap.size (lt_of_block' ST.out.bq) (fun e => by injection e; omega)).trans ST.out.bq, (hm20.block w.heap.size (lt_of_block' ST.out.rq) (fun e => by injection e; omega)).trans ST.out.rq, by simp, by simp⟩)
              clear hm20 hp20 HTH ST
              go_cut [] (fun wx => ∃ l6 s' ea' ec' aa ac MA, ActS w wx pb w5.heap.size w.heap.size src a c (.map (some mb)) cm rv lv (mkS (ptW nm)) sl.num pa pc MP l6 s' ea' ec' aa ac MA ∧ pManyS 41 pAct 8 ([], 0) l5 = .ok ((MA.map Prod.fst, s'), l6))
              case first =>
                go_wp2_with fail
                go_loopw [] (fun wr => ∃ (n : Nat) (l' : List Wd) (s' : ES) (ea' : Option Addr) (ec' : Nat) (aa : Option Addr) (ac : Nat) (MA : List (Ac × Value)), MA.length + n = 8 ∧ ActS w wr pb w5.heap.size w.heap.size src a c (.map (some mb)) cm rv lv (mkS (ptW nm)) sl.num pa pc MP l' s' ea' ec' aa ac MA ∧ pManyS 41 pAct 8 ([], 0) l5 = preE (MA.map Prod.fst) (pManyS 41 pAct n s' l')) (fun wr => 8 - lenP w5.heap.size 4 wr)
                case atStart => exact ⟨8, l5, ([], 0), none, 0, none, 0, [], rfl, S20.out, by unfold preE; cases pManyS 41 pAct 8 ([], 0) l5 <;> rfl⟩
                case round =>
                  obtain ⟨n, l', s', ea', ec', aa, ac, MA, hMn, hst, hpl⟩ := hrel
                  have ST := hidX hst
                  have PL := hidX hpl
                  have HAH := hidX (ahead_any wr pb src a c l' _ 41 hst.st.ps)
                  have c4 := cell_of hst.bq (j := 4) rfl
                  have HML : Hid (lenP w5.heap.size 4 wr = MA.length) := show _ = _ from by unfold lenP; rw [c4]; rfl
                  have hbl : w5.heap.size < wr.heap.size := lt_of_block' hst.bq
                  clear hst hpl S20
                  cases hr : nextW l' with
                  | error f =>
                    have HT : Hid (pRule l = .error f) := show _ = _ from by rw [HR4.out, PL.out, pManyS_err hr]; rfl
                    rw [hr] at HAH
                    go_wp2_with (first | (go_at_call 48; refine HAH.out.mono ?_; rintro e w10 ⟨hb10, rfl⟩; unfold fltE) | fail)
                    exact ⟨rfl, RuPost.err HT.out (ST.out.below hb10).mo⟩
                  | ok p =>
                    obtain ⟨x', r⟩ := p
                    rw [hr] at HAH
                    by_cases hx : pkW x' = 41
                    · have HT : Hid (pManyS 41 pAct 8 ([], 0) l5 = .ok ((MA.map Prod.fst, s'), l')) := show _ = _ from by rw [PL.out, pManyS_end hr hx]; simp [preE]
                      replace HAH : Hid (Calls Tryz.prog 48 #[.pointer (some ⟨pb, 0, none⟩), .int .i32 41] wr fun e w' => Below wr.heap.size wr w' ∧ e = .returned (.bool true)) := by
                        rw [← decide_eq_true hx]
                        exact HAH
                      clear hx
                      go_wp2_with (first | (go_at_call 48; refine HAH.out.mono ?_; rintro e w10 ⟨hb10, rfl⟩) | fail)
                      go_meet
                      exact ⟨l', s', ea', ec', aa, ac, MA, ST.out.below hb10, HT.out⟩
                    · replace HAH : Hid (Calls Tryz.prog 48 #[.pointer (some ⟨pb, 0, none⟩), .int .i32 41] wr fun e w' => Below wr.heap.size wr w' ∧ e = .returned (.bool false)) := by
                        rw [← decide_eq_false hx]
                        exact HAH
                      have HOP := hidX (fun u (hu : Below wr.heap.size wr u) => open_any u pb src a c l' _ (MA.length : Int) 8 (ST.out.below hu).st.ps)
                      have hnM : (MA.length : Int) = ((8 - n : Nat) : Int) := by omega
                      cases ho : openW (MA.length : Int) 8 l' with
                      | error f =>
                        have HT : Hid (pRule l = .error f) := show _ = _ from by rw [HR4.out, PL.out, pManyS_open (m := 8) hr hx (by omega) (by rw [← hnM]; exact ho)]; rfl
                        rw [ho] at HOP
                        clear hx hnM ho
                        go_upto_region 12 with (first | (go_at_call 48; refine HAH.out.mono ?_; rintro e w10 ⟨hb10, rfl⟩) | fail)
                        have d4 := cell_below hb10 c4
                        go_wp2_with (first | (go_at_call 49; refine (HOP.out _ hb10).mono ?_; rintro e w11 ⟨hm11, rfl⟩; unfold fltE) | fail)
                        exact ⟨rfl, RuPost.err HT.out ((ST.out.below hb10).mo.trans hm11)⟩
                      | ok p =>
                        obtain ⟨y, l1'⟩ := p
                        obtain ⟨n, rfl, htk⟩ := pMany_more (m := 8) (n := n) hr (by omega) (by rw [← hnM]; exact ho)
                        rw [ho] at HOP
                        clear hnM ho
                        go_upto_region 12 with (first | (go_at_call 48; refine HAH.out.mono ?_; rintro e w10 ⟨hb10, rfl⟩) | fail)
                        have d4 := cell_below hb10 c4
                        go_upto_region 13 with (first | (go_at_call 49; refine (HOP.out _ hb10).mono ?_; rintro e w11 ⟨hm11, he11, hp11⟩; replace he11 : e = .returned (.tuple #[]) := he11; subst he11) | fail)
                        have S11 := hidX ((ST.out.below hb10).mko hm11 hp11 (by omega) (by omega))
                        have HCM := hidX (paction_any w11.drew w.heap.size pb mb src a c l1' cm rv lv s' ea' ec' (S11.out.below ((Below.refl _ _).drew)).st S11.out.hk S11.out.h60 (HM.out.mko S11.out.mo.drew (Nat.ne_of_lt hne)) hne)
                        have s10 := hb10.size
                        have s11 := hm11.rest.size
                        have e4 := cell_of S11.out.bq (j := 4) rfl
                        clear hm11 hp11 hb10 d4 c4 HOP HAH
                        cases hc : pAct s' l1' with
                        | error f =>
                          have HT : Hid (pRule l = .error f) := show _ = _ from by rw [HR4.out, PL.out, pManyS_bad hr hx htk hc]; rfl
                          rw [hc] at HCM
                          clear hx
                          refine wp_region_pa (fun ch u => RuPost w pb src a c (.map (some mb)) cm rv lv (pRule l) (.panicked ch) u) (fun _ _ _ h1 h2 => ⟨h1, h2⟩) ?_
                          refine wp_region_held_drew (S := (fun _ => True)) (by kernel_rfl) ?_ (fun hHeld => ?_)
                          · trivial
                          refine tkP 0 hHeld ?_
                          (try simp only [pA, pZ, pS])
                          refine tkP 2 hHeld ?_
                          (try simp only [pA, pZ, pS])
                          refine wpAnyH_ready (rs := [1, 3]) (by kernel_rfl) (by simp) ?_
                          refine AllReadyH.cons (o := ?o33) ?ho33 (fun K hK => ?step33) (AllReadyH.cons (o := ?o34) ?ho34 (fun K hK => ?step34) AllReadyH.nil)
                          case ho33 => (simp only [List.getElem?_toArray, List.getElem?_cons_succ, List.getElem?_cons_zero]; rfl)
                          case ho34 => (simp only [List.getElem?_toArray, List.getElem?_cons_succ, List.getElem?_cons_zero]; rfl)
                          case step33 =>
                            go_simp
                            refine hK.out _ _ ?hS35 (fun hHeld' => ?rest35)
                            case hS35 => ((try dsimp only); all_goals trivial)
                            clear hK K
                            (try simp only [pA, pZ, pS])
                            clear hHeld
                            have hHeld := hHeld'
                            clear hHeld'
                            refine wpAnyH_ready (rs := [3]) (by kernel_rfl) (by simp) ?_
                            refine AllReadyH.cons (o := ?o36) ?ho36 (fun K hK => ?step36) AllReadyH.nil
                            case ho36 => (simp only [List.getElem?_toArray, List.getElem?_cons_succ, List.getElem?_cons_zero]; rfl)
                            go_simp
                            (go_at_call 88; refine (HCM.out).mono ?_; rintro e w12 ⟨hm12, rfl⟩; unfold fltE)
                            go_wp2_with fail
                            exact ⟨rfl, RuPost.err HT.out (S11.out.mo.drew.mkx hm12 (fun g hg => (S11.out.st.ow.lt g hg).1))⟩
                          case step34 =>
                            go_simp
                            (go_at_call 88; refine (HCM.out).mono ?_; rintro e w12 ⟨hm12, rfl⟩; unfold fltE)
                            go_wp2_with fail
                            exact ⟨rfl, RuPost.err HT.out (S11.out.mo.drew.mkx hm12 (fun g hg => (S11.out.st.ow.lt g hg).1))⟩
                        | ok q =>
                          obtain ⟨⟨v, s2⟩, l2'⟩ := q
                          obtain ⟨hk2, h62⟩ := pAct_inv ST.out.hk ST.out.h60 hc
                          have PL2 := hidX (PL.out.trans (pManyS_step (M := MA.map Prod.fst) hr hx htk hc))
                          rw [hc] at HCM
                          clear hx
                          refine wp_region_noPanic ?_
                          refine wp_region_held_drew (S := (fun _ => True)) (by kernel_rfl) ?_ (fun hHeld => ?_)
                          · (try dsimp only)
                            all_goals trivial
                          refine tk 0 hHeld ?_
                          (try simp only [pA, pZ, pS])
                          refine tk 2 hHeld ?_
                          (try simp only [pA, pZ, pS])
                          refine wpAnyH_ready (rs := [1, 3]) (by kernel_rfl) (by simp) ?_
                          refine AllReadyH.cons (o := ?o37) ?ho37 (fun K hK => ?step37) (AllReadyH.cons (o := ?o38) ?ho38 (fun K hK => ?step38) AllReadyH.nil)
                          case ho37 => (simp only [List.getElem?_toArray, List.getElem?_cons_succ, List.getElem?_cons_zero]; rfl)
                          case ho38 => (simp only [List.getElem?_toArray, List.getElem?_cons_succ, List.getElem?_cons_zero]; rfl)
                          case step37 =>
                            go_simp
                            refine hK.out _ _ ?hS39 (fun hHeld' => ?rest39)
                            case hS39 => ((try dsimp only); all_goals trivial)
                            clear hK K
                            (try simp only [pA, pZ, pS])
                            clear hHeld
                            have hHeld := hHeld'
                            clear hHeld'
                            refine wpAnyH_ready (rs := [3]) (by kernel_rfl) (by simp) ?_
                            refine AllReadyH.cons (o := ?o40) ?ho40 (fun K hK => ?step40) AllReadyH.nil
                            case ho40 => (simp only [List.getElem?_toArray, List.getElem?_cons_succ, List.getElem?_cons_zero]; rfl)
                            go_simp
                            (go_at_call 88; refine HCM.out.mono ?_; rintro e w12 ⟨hm12, ⟨va, vc, rfl, ho12⟩, ea12, ec12, hs12, hr12⟩; unfold acL; have s12 := hm12.rest.size; simp at s12; have hq12 := (hm12.block w5.heap.size (by simp; omega) (by omega) (fun e => box_ne S11.out.st.ow S11.out.bq e rfl)).trans S11.out.bq; have g4 := cell_of hq12 (j := 4) rfl)
                            refine hK.out _ _ ?hS41 (fun hHeld' => ?rest41)
                            case hS41 => ((try dsimp only); all_goals trivial)
                            clear hK K
                            (try dsimp only)
                            clear hHeld
                            have hHeld := hHeld'
                            clear hHeld'
                            refine wpAnyH_ready (rs := [4]) (by kernel_rfl) (by simp) ?_
                            refine AllReadyH.cons (o := ?o42) ?ho42 (fun K hK => ?step42) AllReadyH.nil
                            case ho42 => (simp only [List.getElem?_toArray, List.getElem?_cons_succ, List.getElem?_cons_zero]; rfl)
                            go_simp
                            have HA12 := hidX (fun o' => (Below.refl _ _).alloc (Nat.le_refl _) o' : ∀ o', Below w12.heap.size w12 (w12.alloc o')); have g4a : ∀ o', (w12.alloc o').cell? ⟨w5.heap.size, 4, none⟩ = some (.slice aa MA.length ac) := fun o' => cell_below (HA12.out o') g4
                            refine hK.out _ _ ?hS43 (fun hHeld' => ?rest43)
                            case hS43 => ((try dsimp only); all_goals trivial)
                            clear hK K
                            (try simp only [pA, pZ, pS])
                            clear hHeld
                            have hHeld := hHeld'
                            clear hHeld'
                            have S12 := hidX ((S11.out.below ((Below.refl _ _).drew)).mkx hm12 hs12 (by omega) (by omega) hk2 h62)
                            refine wpAnyH_ready (rs := [5]) (by kernel_rfl) (by simp) ?_
                            refine AllReadyH.cons (o := ?o44) ?ho44 (fun K hK => ?step44) AllReadyH.nil
                            case ho44 => (simp only [List.getElem?_toArray, List.getElem?_cons_succ, List.getElem?_cons_zero]; rfl)
                            (refine step_append_any (by rfl) (.tmp 53) (.tmp 56) 44 (by rfl) w.heap.size 84 _ 4 56 Tryz.underlying44 infoAF1 (by rfl) (by omega) _ MA.length _ (by rfl) (S12.out.below (HA12.out _)).acs.row (some ⟨_, 0, none⟩) 1 1 (by rfl) (acL v (.slice va v.args.length vc)) (by rfl) (fun e => by cases e) (news_new _ _ _ _ (by simp)) (acL_one _ _ _ _) (by unfold maxLen; omega) (by omega) (by have := S12.out.mo.rest.size; simp; omega) ?_; intro a13 c13 w13 ho13 hg13 hl13)
                            refine hK.out _ _ ?hS45 (fun hHeld' => ?rest45)
                            case hS45 => ((try dsimp only); all_goals trivial)
                            clear hK K
                            (try simp only [pA, pZ, pS])
                            clear hHeld
                            have hHeld := hHeld'
                            clear hHeld'
                            have hrow : ∀ k, (Value.slice aa MA.length ac).ownBlock = some k → w.heap.size ≤ k := fun k hk => (S12.out.acs.rlt k hk).1
                            have SA := hidX (fun o' => S12.out.below (HA12.out o'))
                            have N13 := hidX (NRow.more (S11.out.below ((Below.refl _ _).drew)).acs (SA.out _).acs ho12 (Nat.le_refl _) (by simp; omega) ⟨va, vc, rfl⟩ (own_bel ho12 (HA12.out _)) hg13.out ho13.out (by decide))
                            have P13 := hidX ((SA.out _).st.ps.keep ((Below.refl _ _).grown hg13.out (by simp; omega) (fun k hk => by have := hrow k hk; omega)))
                            have E13 := hidX (own_grown (SA.out _).st.ow hg13.out (SA.out _).acs.rty (by decide))
                            have T13 := hidX ((SA.out _).pts.grown hg13.out (SA.out _).acs.rty (by decide) (by decide))
                            have B13 := hidX (box_grown (SA.out _).bq hg13.out (SA.out _).acs.rty (by decide))
                            have R13 := hidX (box_grown (SA.out _).rq hg13.out (SA.out _).acs.rty (by decide))
                            have M13 := hidX ((SA.out _).mo.grown hg13.out hrow)
                            have X13 := hidX (show ExS w13 w.heap.size pb src a c l2' (.map (some mb)) cm rv lv s2 ea12 ec12 from ⟨P13.out, E13.out, hpb, M13.out.rest.size⟩)
                            have f4 := cell_of B13.out (j := 4) rfl
                            have z4 := froz_of B13.out 4
                            have s13 : w5.heap.size < w13.heap.size := lt_of_block' B13.out
                            refine tk 6 hHeld ?_
                            (try simp only [pA, pZ, pS])
                            refine wpAnyH_ready (rs := [7]) (by kernel_rfl) (by simp) ?_
                            refine AllReadyH.cons (o := ?o46) ?ho46 (fun K hK => ?step46) AllReadyH.nil
                            case ho46 => (simp only [List.getElem?_toArray, List.getElem?_cons_succ, List.getElem?_cons_zero]; rfl)
                            go_simp
                            refine hK.out _ _ ?hS47 (fun hHeld' => ?rest47)
                            case hS47 => ((try dsimp only); all_goals trivial)
                            clear hK K
                            (try dsimp only)
                            clear hHeld
                            have hHeld := hHeld'
                            clear hHeld'
                            refine wpAnyH_done (by kernel_rfl) ?_ _
                            refine NoPanic.normal ?_
                            clear hHeld
                            refine lift_setW B13.out ?_
                            intro w14 hq14 ht14
                            have S14 := hidX (show ActS w w14 pb w5.heap.size w.heap.size src a c (.map (some mb)) cm rv lv (mkS (ptW nm)) sl.num pa pc MP l2' s2 ea12 ec12 a13 c13 (MA ++ [(v, .slice va v.args.length vc)]) from ⟨M13.out.turn ht14 (by omega), X13.out.turned ht14 (by omega) B13.out (fun _ k hk => box_ne X13.out.ow B13.out hk), T13.out.turned ht14 B13.out (by decide) (by decide), N13.out.turned ht14 B13.out (by decide) (by decide), by simpa [ruL] using hq14, (ht14.block w.heap.size (by omega)).trans R13.out, hk2, h62⟩)
                            have HL14 : Hid (lenP w5.heap.size 4 w14 = MA.length + 1) := show _ = _ from by unfold lenP; rw [cell_of S14.out.bq (j := 4) rfl]; simp [sliceLen]
                            clear hq14 ht14 f4 z4
                            go_wp2_with fail
                            go_roundw
                            case rel => exact ⟨n, l2', s2, ea12, ec12, a13, c13, MA ++ [(v, .slice va v.args.length vc)], by simp; omega, S14.out, by simpa using PL2.out⟩
                            case measure =>
                              change 8 - lenP w5.heap.size 4 w14 < 8 - lenP w5.heap.size 4 wr
                              rw [HL14.out, HML.out]
                              omega
                          case step38 =>
                            go_simp
                            (go_at_call 88; refine HCM.out.mono ?_; rintro e w12 ⟨hm12, ⟨va, vc, rfl, ho12⟩, ea12, ec12, hs12, hr12⟩; unfold acL; have s12 := hm12.rest.size; simp at s12; have hq12 := (hm12.block w5.heap.size (by simp; omega) (by omega) (fun e => box_ne S11.out.st.ow S11.out.bq e rfl)).trans S11.out.bq; have g4 := cell_of hq12 (j := 4) rfl)
                            refine hK.out _ _ ?hS48 (fun hHeld' => ?rest48)
                            case hS48 => ((try dsimp only); all_goals trivial)
                            clear hK K
                            (try dsimp only)
                            clear hHeld
                            have hHeld := hHeld'
                            clear hHeld'
                            refine wpAnyH_ready (rs := [1, 4]) (by kernel_rfl) (by simp) ?_
                            refine AllReadyH.cons (o := ?o49) ?ho49 (fun K hK => ?step49) (AllReadyH.cons (o := ?o50) ?ho50 (fun K hK => ?step50) AllReadyH.nil)
                            case ho49 => (simp only [List.getElem?_toArray, List.getElem?_cons_succ, List.getElem?_cons_zero]; rfl)
                            case ho50 => (simp only [List.getElem?_toArray, List.getElem?_cons_succ, List.getElem?_cons_zero]; rfl)
                            case step49 =>
                              go_simp
                              refine hK.out _ _ ?hS51 (fun hHeld' => ?rest51)
                              case hS51 => ((try dsimp only); all_goals trivial)
                              clear hK K
                              (try simp only [pA, pZ, pS])
                              clear hHeld
                              have hHeld := hHeld'
                              clear hHeld'
                              refine wpAnyH_ready (rs := [4]) (by kernel_rfl) (by simp) ?_
                              refine AllReadyH.cons (o := ?o52) ?ho52 (fun K hK => ?step52) AllReadyH.nil
                              case ho52 => (simp only [List.getElem?_toArray, List.getElem?_cons_succ, List.getElem?_cons_zero]; rfl)
                              go_simp
                              have HA12 := hidX (fun o' => (Below.refl _ _).alloc (Nat.le_refl _) o' : ∀ o', Below w12.heap.size w12 (w12.alloc o')); have g4a : ∀ o', (w12.alloc o').cell? ⟨w5.heap.size, 4, none⟩ = some (.slice aa MA.length ac) := fun o' => cell_below (HA12.out o') g4
                              refine hK.out _ _ ?hS53 (fun hHeld' => ?rest53)
                              case hS53 => ((try dsimp only); all_goals trivial)
                              clear hK K
                              (try simp only [pA, pZ, pS])
                              clear hHeld
                              have hHeld := hHeld'
                              clear hHeld'
                              have S12 := hidX ((S11.out.below ((Below.refl _ _).drew)).mkx hm12 hs12 (by omega) (by omega) hk2 h62)
                              refine wpAnyH_ready (rs := [5]) (by kernel_rfl) (by simp) ?_
                              refine AllReadyH.cons (o := ?o54) ?ho54 (fun K hK => ?step54) AllReadyH.nil
                              case ho54 => (simp only [List.getElem?_toArray, List.getElem?_cons_succ, List.getElem?_cons_zero]; rfl)
                              (refine step_append_any (by rfl) (.tmp 53) (.tmp 56) 44 (by rfl) w.heap.size 84 _ 4 56 Tryz.underlying44 infoAF1 (by rfl) (by omega) _ MA.length _ (by rfl) (S12.out.below (HA12.out _)).acs.row (some ⟨_, 0, none⟩) 1 1 (by rfl) (acL v (.slice va v.args.length vc)) (by rfl) (fun e => by cases e) (news_new _ _ _ _ (by simp)) (acL_one _ _ _ _) (by unfold maxLen; omega) (by omega) (by have := S12.out.mo.rest.size; simp; omega) ?_; intro a13 c13 w13 ho13 hg13 hl13)
                              refine hK.out _ _ ?hS55 (fun hHeld' => ?rest55)
                              case hS55 => ((try dsimp only); all_goals trivial)
                              clear hK K
                              (try simp only [pA, pZ, pS])
                              clear hHeld
                              have hHeld := hHeld'
                              clear hHeld'
                              have hrow : ∀ k, (Value.slice aa MA.length ac).ownBlock = some k → w.heap.size ≤ k := fun k hk => (S12.out.acs.rlt k hk).1
                              have SA := hidX (fun o' => S12.out.below (HA12.out o'))
                              have N13 := hidX (NRow.more (S11.out.below ((Below.refl _ _).drew)).acs (SA.out _).acs ho12 (Nat.le_refl _) (by simp; omega) ⟨va, vc, rfl⟩ (own_bel ho12 (HA12.out _)) hg13.out ho13.out (by decide))
                              have P13 := hidX ((SA.out _).st.ps.keep ((Below.refl _ _).grown hg13.out (by simp; omega) (fun k hk => by have := hrow k hk; omega)))
                              have E13 := hidX (own_grown (SA.out _).st.ow hg13.out (SA.out _).acs.rty (by decide))
                              have T13 := hidX ((SA.out _).pts.grown hg13.out (SA.out _).acs.rty (by decide) (by decide))
                              have B13 := hidX (box_grown (SA.out _).bq hg13.out (SA.out _).acs.rty (by decide))
                              have R13 := hidX (box_grown (SA.out _).rq hg13.out (SA.out _).acs.rty (by decide))
                              have M13 := hidX ((SA.out _).mo.grown hg13.out hrow)
                              have X13 := hidX (show ExS w13 w.heap.size pb src a c l2' (.map (some mb)) cm rv lv s2 ea12 ec12 from ⟨P13.out, E13.out, hpb, M13.out.rest.size⟩)
                              have f4 := cell_of B13.out (j := 4) rfl
                              have z4 := froz_of B13.out 4
                              have s13 : w5.heap.size < w13.heap.size := lt_of_block' B13.out
                              refine tk 6 hHeld ?_
                              (try simp only [pA, pZ, pS])
                              refine wpAnyH_ready (rs := [7]) (by kernel_rfl) (by simp) ?_
                              refine AllReadyH.cons (o := ?o56) ?ho56 (fun K hK => ?step56) AllReadyH.nil
                              case ho56 => (simp only [List.getElem?_toArray, List.getElem?_cons_succ, List.getElem?_cons_zero]; rfl)
                              go_simp
                              refine hK.out _ _ ?hS57 (fun hHeld' => ?rest57)
                              case hS57 => ((try dsimp only); all_goals trivial)
                              clear hK K
                              (try dsimp only)
                              clear hHeld
                              have hHeld := hHeld'
                              clear hHeld'
                              refine wpAnyH_done (by kernel_rfl) ?_ _
                              refine NoPanic.normal ?_
                              clear hHeld
                              refine lift_setW B13.out ?_
                              intro w14 hq14 ht14
                              have S14 := hidX (show ActS w w14 pb w5.heap.size w.heap.size src a c (.map (some mb)) cm rv lv (mkS (ptW nm)) sl.num pa pc MP l2' s2 ea12 ec12 a13 c13 (MA ++ [(v, .slice va v.args.length vc)]) from ⟨M13.out.turn ht14 (by omega), X13.out.turned ht14 (by omega) B13.out (fun _ k hk => box_ne X13.out.ow B13.out hk), T13.out.turned ht14 B13.out (by decide) (by decide), N13.out.turned ht14 B13.out (by decide) (by decide), by simpa [ruL] using hq14, (ht14.block w.heap.size (by omega)).trans R13.out, hk2, h62⟩)
                              have HL14 : Hid (lenP w5.heap.size 4 w14 = MA.length + 1) := show _ = _ from by unfold lenP; rw [cell_of S14.out.bq (j := 4) rfl]; simp [sliceLen]
                              clear hq14 ht14 f4 z4
                              go_wp2_with fail
                              go_roundw
                              case rel => exact ⟨n, l2', s2, ea12, ec12, a13, c13, MA ++ [(v, .slice va v.args.length vc)], by simp; omega, S14.out, by simpa using PL2.out⟩
                              case measure =>
                                change 8 - lenP w5.heap.size 4 w14 < 8 - lenP w5.heap.size 4 wr
                                rw [HL14.out, HML.out]
                                omega
                            case step50 =>
                              go_simp
                              have HA12 := hidX (fun o' => (Below.refl _ _).alloc (Nat.le_refl _) o' : ∀ o', Below w12.heap.size w12 (w12.alloc o')); have g4a : ∀ o', (w12.alloc o').cell? ⟨w5.heap.size, 4, none⟩ = some (.slice aa MA.length ac) := fun o' => cell_below (HA12.out o') g4
                              refine hK.out _ _ ?hS58 (fun hHeld' => ?rest58)
                              case hS58 => ((try dsimp only); all_goals trivial)
                              clear hK K
                              (try simp only [pA, pZ, pS])
                              clear hHeld
                              have hHeld := hHeld'
                              clear hHeld'
                              refine wpAnyH_ready (rs := [1]) (by kernel_rfl) (by simp) ?_
                              refine AllReadyH.cons (o := ?o59) ?ho59 (fun K hK => ?step59) AllReadyH.nil
                              case ho59 => (simp only [List.getElem?_toArray, List.getElem?_cons_succ, List.getElem?_cons_zero]; rfl)
                              go_simp
                              refine hK.out _ _ ?hS60 (fun hHeld' => ?rest60)
                              case hS60 => ((try dsimp only); all_goals trivial)
                              clear hK K
                              (try simp only [pA, pZ, pS])
                              clear hHeld
                              have hHeld := hHeld'
                              clear hHeld'
                              have S12 := hidX ((S11.out.below ((Below.refl _ _).drew)).mkx hm12 hs12 (by omega) (by omega) hk2 h62)
                              refine wpAnyH_ready (rs := [5]) (by kernel_rfl) (by simp) ?_
                              refine AllReadyH.cons (o := ?o61) ?ho61 (fun K hK => ?step61) AllReadyH.nil
                              case ho61 => (simp only [List.getElem?_toArray, List.getElem?_cons_succ, List.getElem?_cons_zero]; rfl)
                              (refine step_append_any (by rfl) (.tmp 53) (.tmp 56) 44 (by rfl) w.heap.size 84 _ 4 56 Tryz.underlying44 infoAF1 (by rfl) (by omega) _ MA.length _ (by rfl) (S12.out.below (HA12.out _)).acs.row (some ⟨_, 0, none⟩) 1 1 (by rfl) (acL v (.slice va v.args.length vc)) (by rfl) (fun e => by cases e) (news_new _ _ _ _ (by simp)) (acL_one _ _ _ _) (by unfold maxLen; omega) (by omega) (by have := S12.out.mo.rest.size; simp; omega) ?_; intro a13 c13 w13 ho13 hg13 hl13)
                              refine hK.out _ _ ?hS62 (fun hHeld' => ?rest62)
                              case hS62 => ((try dsimp only); all_goals trivial)
                              clear hK K
                              (try simp only [pA, pZ, pS])
                              clear hHeld
                              have hHeld := hHeld'
                              clear hHeld'
                              have hrow : ∀ k, (Value.slice aa MA.length ac).ownBlock = some k → w.heap.size ≤ k := fun k hk => (S12.out.acs.rlt k hk).1
                              have SA := hidX (fun o' => S12.out.below (HA12.out o'))
                              have N13 := hidX (NRow.more (S11.out.below ((Below.refl _ _).drew)).acs (SA.out _).acs ho12 (Nat.le_refl _) (by simp; omega) ⟨va, vc, rfl⟩ (own_bel ho12 (HA12.out _)) hg13.out ho13.out (by decide))
                              have P13 := hidX ((SA.out _).st.ps.keep ((Below.refl _ _).grown hg13.out (by simp; omega) (fun k hk => by have := hrow k hk; omega)))
                              have E13 := hidX (own_grown (SA.out _).st.ow hg13.out (SA.out _).acs.rty (by decide))
                              have T13 := hidX ((SA.out _).pts.grown hg13.out (SA.out _).acs.rty (by decide) (by decide))
                              have B13 := hidX (box_grown (SA.out _).bq hg13.out (SA.out _).acs.rty (by decide))
                              have R13 := hidX (box_grown (SA.out _).rq hg13.out (SA.out _).acs.rty (by decide))
                              have M13 := hidX ((SA.out _).mo.grown hg13.out hrow)
                              have X13 := hidX (show ExS w13 w.heap.size pb src a c l2' (.map (some mb)) cm rv lv s2 ea12 ec12 from ⟨P13.out, E13.out, hpb, M13.out.rest.size⟩)
                              have f4 := cell_of B13.out (j := 4) rfl
                              have z4 := froz_of B13.out 4
                              have s13 : w5.heap.size < w13.heap.size := lt_of_block' B13.out
                              refine tk 6 hHeld ?_
                              (try simp only [pA, pZ, pS])
                              refine wpAnyH_ready (rs := [7]) (by kernel_rfl) (by simp) ?_
                              refine AllReadyH.cons (o := ?o63) ?ho63 (fun K hK => ?step63) AllReadyH.nil
                              case ho63 => (simp only [List.getElem?_toArray, List.getElem?_cons_succ, List.getElem?_cons_zero]; rfl)
                              go_simp
                              refine hK.out _ _ ?hS64 (fun hHeld' => ?rest64)
                              case hS64 => ((try dsimp only); all_goals trivial)
                              clear hK K
                              (try dsimp only)
                              clear hHeld
                              have hHeld := hHeld'
                              clear hHeld'
                              refine wpAnyH_done (by kernel_rfl) ?_ _
                              refine NoPanic.normal ?_
                              clear hHeld
                              refine lift_setW B13.out ?_
                              intro w14 hq14 ht14
                              have S14 := hidX (show ActS w w14 pb w5.heap.size w.heap.size src a c (.map (some mb)) cm rv lv (mkS (ptW nm)) sl.num pa pc MP l2' s2 ea12 ec12 a13 c13 (MA ++ [(v, .slice va v.args.length vc)]) from ⟨M13.out.turn ht14 (by omega), X13.out.turned ht14 (by omega) B13.out (fun _ k hk => box_ne X13.out.ow B13.out hk), T13.out.turned ht14 B13.out (by decide) (by decide), N13.out.turned ht14 B13.out (by decide) (by decide), by simpa [ruL] using hq14, (ht14.block w.heap.size (by omega)).trans R13.out, hk2, h62⟩)
                              have HL14 : Hid (lenP w5.heap.size 4 w14 = MA.length + 1) := show _ = _ from by unfold lenP; rw [cell_of S14.out.bq (j := 4) rfl]; simp [sliceLen]
                              clear hq14 ht14 f4 z4
                              go_wp2_with fail
                              go_roundw
                              case rel => exact ⟨n, l2', s2, ea12, ec12, a13, c13, MA ++ [(v, .slice va v.args.length vc)], by simp; omega, S14.out, by simpa using PL2.out⟩
                              case measure =>
                                change 8 - lenP w5.heap.size 4 w14 < 8 - lenP w5.heap.size 4 wr
                                rw [HL14.out, HML.out]
                                omega
              case rest =>
                obtain ⟨l6, s', ea', ec', aa, ac, MA, hst, hpm⟩ := hcut
                obtain ⟨w30, rfl⟩ : ∃ v, v = wc := ⟨wc, rfl⟩
                have ST := hidX hst
                have HR5 : Hid (pRule l = andP (takeW 41 l6) fun _ l7 => .ok (⟨mkS (ptW nm), sl.num, MP.map Prod.fst, s'.1, MA.map Prod.fst⟩, l7)) := show _ = _ from by rw [HR4.out, hpm]; rfl
                have HTK := hidX (take_any w30 pb src a c l6 _ 41 hst.st.ps)
                clear hst hpm S20 HR4
                cases hc : takeW 41 l6 with
                | error f =>
                  have HT : Hid (pRule l = .error f) := show _ = _ from by rw [HR5.out, hc]; rfl
                  rw [hc] at HTK
                  go_wp2_with (first | (go_at_call 78; refine HTK.out.mono ?_; rintro e w31 ⟨hm31, rfl⟩; unfold fltE) | fail)
                  exact ⟨rfl, RuPost.err HT.out (ST.out.mo.trans hm31)⟩
                | ok p =>
                  obtain ⟨y, l7⟩ := p
                  have HT : Hid (pRule l = .ok (⟨mkS (ptW nm), sl.num, MP.map Prod.fst, s'.1, MA.map Prod.fst⟩, l7)) := show _ = _ from by rw [HR5.out, hc]; rfl
                  rw [hc] at HTK
                  clear hc HR5
                  go_upto_region 15 with (first | (go_at_call 78; refine HTK.out.mono ?_; rintro e w31 ⟨hm31, hw31, hp31⟩; replace hw31 : e = .returned (pwA y) := hw31; subst hw31; unfold pwA) | fail)
                  have S31 := hidX (ST.out.mko hm31 hp31 (by omega) (by omega))
                  have c6 := S31.out.st.ps.cell (j := 4) rfl
                  have d3 := cell_of S31.out.bq (j := 3) rfl
                  have f3 := froz_of S31.out.bq 3
                  clear hm31 hp31 HTK ST
                  go_upto_region 16 with fail
                  refine lift_setW S31.out.bq ?_
                  intro w32 hq32 ht32
                  have OB31 : ∀ k, obE s' ea' ec' = some k → k ≠ w5.heap.size := fun k hk => box_ne S31.out.st.ow S31.out.bq hk
                  have hbq := (show w32.heap[w5.heap.size]? = some (.cells (ruL (mkS (ptW nm)) sl.num (.slice pa MP.length pc) (.slice ea' s'.1.length ec') (.slice aa MA.length ac)).toArray 46 (0, 0)) from by simpa [ruL] using hq32)
                  have hrq := (ht32.block w.heap.size (by omega)).trans S31.out.rq
                  have P32 := hidX (S31.out.st.turned ht32 (by omega) S31.out.bq (fun _ => OB31))
                  have N32 := hidX (S31.out.pts.turned ht32 S31.out.bq (by decide) (by decide))
                  have A32 := hidX (S31.out.acs.turned ht32 S31.out.bq (by decide) (by decide))
                  have M32 := hidX (S31.out.mo.turn ht32 (by omega))
                  have OR : ∀ k, obE s' ea' ec' = some k → k ≠ w.heap.size := fun k hk => box_ne P32.out.ow hrq hk
                  clear c6 d3 f3 hq32 ht32 OB31
                  go_wp2_with (first | (refine wpList_load_blk (by rfl) 46 (.tmp 4) (by rfl) w5.heap.size (ruL (mkS (ptW nm)) sl.num (.slice pa MP.length pc) (.slice ea' s'.1.length ec') (.slice aa MA.length ac)) (by rfl) 46 (0, 0) hbq _ Tryz.underlying46 rfl infoRuP ?_) | (refine wpList_store_blk (by rfl) 46 (.tmp 2) (.tmp 66) (by rfl) w.heap.size (ruL (mkS (ptW nm)) sl.num (.slice pa MP.length pc) (.slice ea' s'.1.length ec') (.slice aa MA.length ac)) (by rfl) (by rfl) _ 46 hrq (by rfl) infoRuP (ruL_one _ _ _ _ _ _ _ _ _ _ _) ?_; intro w33 hb33 ht33) | fail)
                  have hld := run_loadVar_mid (P := Tryz.prog) w33 w.heap.size 0 46 (ruL (mkS (ptW nm)) sl.num (.slice pa MP.length pc) (.slice ea' s'.1.length ec') (.slice aa MA.length ac)) _ (range_blk hb33.out) Tryz.underlying46 rfl infoRuP
                  (try go_frame)
                  refine bodyPost_ret (v := .agg (ruL (mkS (ptW nm)) sl.num (.slice pa MP.length pc) (.slice ea' s'.1.length ec') (.slice aa MA.length ac)).toArray) (by simp [results, Tryz.results50, asAddr, hld]) rfl ⟨M32.out.turn ht33.out (Nat.le_refl _), ?_⟩
                  rw [HT.out]
                  have P33 := P32.out.turned ht33.out (by omega) hrq (fun _ => OR)
                  exact ⟨⟨⟨mkS (ptW nm), sl.num, MP.map Prod.fst, s'.1, MA.map Prod.fst⟩, pa, pc, MP, ea', ec', aa, ac, MA⟩, rfl, rfl, ⟨N32.out.turned ht33.out hrq (by decide) (by decide), P33.ow, A32.out.turned ht33.out hrq (by decide) (by decide), rfl, rfl⟩, _, _, P33.ps⟩
    · have HT : Hid (pRule l = .error (3, x.pos)) := show _ = _ from by unfold pRule; rw [hr, andP_okX, if_neg hk]
      rw [decide_eq_false hk] at hbq
      replace hbq : ((mkS (ptW x)).toList == [114, 117, 108, 101]) = false := hbq
      clear hk hr
      go_wp2_with (first | (refine wpList_load_blk (by rfl) 116 (.tmp 3) (by rfl) w2.heap.size L (by rfl) 116 (0, 0) hq3 _ Tryz.underlying116 rfl hLl.1 ?_) | (go_at_call 86; refine (fault_L HLX 3 _).mono ?_; rintro e w4 ⟨rfl, hb4⟩) | fail)
      exact ⟨rfl, RuPost.err HT.out (M3.out.trans (MkO.of_below hb4))⟩
end Go.Proofs.YtdhpoagjmiligaaGreatDoor
