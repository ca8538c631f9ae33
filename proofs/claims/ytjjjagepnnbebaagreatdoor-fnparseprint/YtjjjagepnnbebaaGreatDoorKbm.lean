/-
  OUR OWN TEXT. Nr1, Pt9, Pt10, Rt2, Rt3, one behind the other.
-/
import Derived.Test.YtjjjagepnnbebaaGreatDoorPt8m
import Derived.Test.YtjjjagepnnbebaaGreatDoorKbj
import Derived.Deep.CutBlock
import Derived.Deep.DeepCutAuto
import Derived.Test.YtjjjagepnnbebaaGreatDoorRt1m
import Derived.Test.YtjjjagepnnbebaaGreatDoorKaq
namespace Go.Proofs.YtjjjagepnnbebaaGreatDoor
open Go.RowKit

/-- How an element lies in memory: its cells beside its row; how long that is, its cells; types and sizes of both. -/
structure NK (α : Type) where
  cell : α → Value → List Value
  len : α → Nat
  inner : α → List Value
  t : TypeId
  m : Nat
  e : TypeId
  k : Nat
/-- A row that is owned, each element with a row of its own. -/
structure NRow {α : Type} (K : NK α) (w : World) (B : Nat) (a : Option Addr) (c : Nat) (M : List (α × Value)) : Prop where
  row : w.ownsRow B K.t K.m (.slice a M.length c) M.length (M.flatMap fun x => K.cell x.1 x.2)
  all : ∀ x ∈ M, ∃ la lc, x.2 = .slice la (K.len x.1) lc ∧ w.ownsRow B K.e K.k x.2 (K.len x.1) (K.inner x.1)
  pair : M.Pairwise fun x y => Apart x.2 y.2
variable {α : Type} {K : NK α} {w w' : World} {B : Nat} {a : Option Addr} {c : Nat} {M : List (α × Value)}
theorem NRow.nil (K : NK α) (w : World) (B : Nat) : NRow K w B none 0 [] := ⟨World.ownsRow_nil _ _ _ _, fun x hx => by simp at hx, List.Pairwise.nil⟩
/-- Carried where their blocks stand. -/
theorem NRow.keep (h : NRow K w B a c M) (hr : ∀ g, (Value.slice a M.length c).ownBlock = some g → w'.heap[g]? = w.heap[g]?) (hv : ∀ x ∈ M, ∀ g, x.2.ownBlock = some g → w'.heap[g]? = w.heap[g]?) : NRow K w' B a c M :=
  ⟨owns_of_block h.row hr, fun x hx => by
    obtain ⟨la, lc, e1, e2⟩ := h.all x hx
    exact ⟨la, lc, e1, owns_of_block e2 (hv x hx)⟩, h.pair⟩
theorem NRow.rlt (h : NRow K w B a c M) : ∀ g, (Value.slice a M.length c).ownBlock = some g → B ≤ g ∧ g < w.heap.size := fun g hg => h.row.lt g hg
theorem NRow.vlt (h : NRow K w B a c M) : ∀ x ∈ M, ∀ g, x.2.ownBlock = some g → B ≤ g ∧ g < w.heap.size := fun x hx g hg => by
  obtain ⟨la, lc, _, e2⟩ := h.all x hx
  exact e2.lt g hg
theorem NRow.rty (h : NRow K w B a c M) : ∀ g, (Value.slice a M.length c).ownBlock = some g → ∃ cs, w.heap[g]? = some (.cells cs K.t (0, 0)) := fun _ hg => own_type h.row hg
theorem NRow.vty (h : NRow K w B a c M) : ∀ x ∈ M, ∀ g, x.2.ownBlock = some g → ∃ cs, w.heap[g]? = some (.cells cs K.e (0, 0)) := fun x hx g hg => by
  obtain ⟨la, lc, _, e2⟩ := h.all x hx
  exact own_type e2 hg
theorem NRow.below (h : NRow K w B a c M) (hb : Below w.heap.size w w') : NRow K w' B a c M := h.keep (fun g hg => hb.block g (h.rlt g hg).2) (fun x hx g hg => hb.block g (h.vlt x hx g hg).2)
theorem NRow.mko {pb : Nat} (h : NRow K w B a c M) (hm : MkO (some pb) w w') (hp : pb < B) : NRow K w' B a c M :=
  h.keep (fun g hg => hm.block g (h.rlt g hg).2 (fun e => by injection e with e; have := (h.rlt g hg).1; omega)) (fun x hx g hg => hm.block g (h.vlt x hx g hg).2 (fun e => by injection e with e; have := (h.vlt x hx g hg).1; omega))
theorem ty_ne {g : Nat} {c1 c2 : Array Value} {t1 t2 : TypeId} (h1 : w.heap[g]? = some (.cells c1 t1 (0, 0))) (h2 : w.heap[g]? = some (.cells c2 t2 (0, 0))) (hne : t1 ≠ t2) : False := by
  rw [h1] at h2
  injection h2 with h2
  injection h2 with _ h2 _
  exact hne h2
theorem NRow.mkx {pb : Nat} {ob : Option Nat} (h : NRow K w B a c M) (hm : MkX pb ob w w') (hp : pb < B) (ho : ∀ g, ob = some g → ∃ cs, w.heap[g]? = some (.cells cs 97 (0, 0))) (h1 : K.t ≠ 97) (h2 : K.e ≠ 97) : NRow K w' B a c M :=
  h.keep (fun g hg => hm.block g (h.rlt g hg).2 (fun e => by have := (h.rlt g hg).1; omega) (fun e => by
    obtain ⟨c1, e1⟩ := h.rty g hg
    obtain ⟨c2, e2⟩ := ho g e
    exact ty_ne e1 e2 h1)) (fun x hx g hg => hm.block g (h.vlt x hx g hg).2 (fun e => by have := (h.vlt x hx g hg).1; omega) (fun e => by
    obtain ⟨c1, e1⟩ := h.vty x hx g hg
    obtain ⟨c2, e2⟩ := ho g e
    exact ty_ne e1 e2 h2))
theorem NRow.turned {b : Nat} {cs : Array Value} {t : TypeId} (h : NRow K w B a c M) (ht : Turned w w' b) (hb : w.heap[b]? = some (.cells cs t (0, 0))) (h1 : K.t ≠ t) (h2 : K.e ≠ t) : NRow K w' B a c M :=
  h.keep (fun g hg => ht.block g (fun e => by
    obtain ⟨c1, e1⟩ := h.rty g hg
    subst e
    exact ty_ne e1 hb h1)) (fun x hx g hg => ht.block g (fun e => by
    obtain ⟨c1, e1⟩ := h.vty x hx g hg
    subst e
    exact ty_ne e1 hb h2))
theorem NRow.grown {row : Option Nat} {t : TypeId} (h : NRow K w B a c M) (hg : w.grownBy w' row) (ht : ∀ k, row = some k → ∃ cs, w.heap[k]? = some (.cells cs t (0, 0))) (h1 : K.t ≠ t) (h2 : K.e ≠ t) : NRow K w' B a c M :=
  h.keep (fun g hg' => hg.block g (h.rlt g hg').2 (fun e => by
    obtain ⟨c1, e1⟩ := h.rty g hg'
    obtain ⟨c2, e2⟩ := ht g e.symm
    exact ty_ne e1 e2 h1)) (fun x hx g hg' => hg.block g (h.vlt x hx g hg').2 (fun e => by
    obtain ⟨c1, e1⟩ := h.vty x hx g hg'
    obtain ⟨c2, e2⟩ := ht g e.symm
    exact ty_ne e1 e2 h2))
theorem NRow.base {B' : Nat} (h : NRow K w B a c M) (hb : B' ≤ B) : NRow K w B' a c M := ⟨owns_base h.row hb, fun x hx => by
  obtain ⟨la, lc, e1, e2⟩ := h.all x hx
  exact ⟨la, lc, e1, owns_base e2 hb⟩, h.pair⟩
/-- One more, newer than the others: w0 the world ahead of its reading, w the one in which its cells were appended, w' behind. -/
theorem NRow.more {w0 w1 : World} {C : Nat} {x : α} {v : Value} {a' : Option Addr} {c' : Nat} (h0 : NRow K w0 B a c M) (h : NRow K w B a c M) (hx : w1.ownsRow C K.e K.k v (K.len x) (K.inner x)) (hC : w0.heap.size ≤ C) (hBC : B ≤ C) (hv : ∃ la lc, v = .slice la (K.len x) lc) (hx2 : w.ownsRow C K.e K.k v (K.len x) (K.inner x))
    (hg : w.grownBy w' (Value.slice a M.length c).ownBlock) (ho : w'.ownsRow B K.t K.m (.slice a' (M.length + 1) c') (M.length + 1) ((M.flatMap fun x => K.cell x.1 x.2) ++ K.cell x v)) (hne : K.t ≠ K.e) : NRow K w' B a' c' (M ++ [(x, v)]) := by
  obtain ⟨la, lc, hv⟩ := hv
  refine ⟨by simpa using ho, fun y hy => ?_, ?_⟩
  · rcases List.mem_append.1 hy with hy | hy
    · obtain ⟨la', lc', e1, e2⟩ := h.all y hy
      exact ⟨la', lc', e1, own_grown e2 hg (fun k hk => own_type h.row hk) hne⟩
    · simp at hy
      subst hy
      exact ⟨la, lc, hv, owns_base (own_grown hx2 hg (fun k hk => own_type h.row hk) hne) hBC⟩
  · refine List.pairwise_append.2 ⟨h.pair, by simp, fun y hy z hz g hg1 hg2 => ?_⟩
    simp at hz
    subst hz
    have h3 := (h0.vlt y hy g hg1).2
    have h4 := (hx.lt g hg2).1
    omega
def ptK : NK Pt := ⟨ptP, fun x => x.terms.length, fun x => x.terms.flatMap tmC, 78, 3, 95, 6⟩
def acK : NK Ac := ⟨acL, fun x => x.args.length, fun x => inC x.args, 73, 4, 3, 1⟩
theorem pMany_err {k : Int} {rd : List Wd → Px α} {n : Nat} {l : List Wd} {f : Flt} (h : nextW l = .error f) : pMany k rd n l = .error f := by
  cases n <;> simp [pMany, h]
theorem pMany_end {k : Int} {rd : List Wd → Px α} {n : Nat} {l r : List Wd} {x : Wd} (h : nextW l = .ok (x, r)) (hx : pkW x = k) : pMany k rd n l = .ok ([], l) := by
  cases n <;> simp [pMany, h, hx]
theorem pMany_open {k : Int} {rd : List Wd → Px α} {n m : Nat} {l r : List Wd} {x : Wd} {f : Flt} (h : nextW l = .ok (x, r)) (hx : pkW x ≠ k) (hm : n ≤ m) (ho : openW ((m - n : Nat) : Int) m l = .error f) : pMany k rd n l = .error f := by
  unfold openW at ho
  rw [h] at ho
  simp only at ho
  cases n with
  | zero =>
    by_cases h40 : pkW x = 40
    · rw [if_pos ⟨h40, by simp⟩] at ho
      injection ho with ho
      simp [pMany, h, h40, ← ho]
      exact fun e => absurd (h40.trans e) hx
    · rw [if_neg (fun e => h40 e.1), takeW_not h h40] at ho
      injection ho with ho
      simp [pMany, h, hx, h40, ← ho]
  | succ n =>
    rw [if_neg (fun e => by have := e.2; omega)] at ho
    simp [pMany, h, hx, ho]
theorem pMany_more {n m : Nat} {l r l1 : List Wd} {x y : Wd} (h : nextW l = .ok (x, r)) (hm : n ≤ m) (ho : openW ((m - n : Nat) : Int) m l = .ok (y, l1)) : ∃ q, n = q + 1 ∧ takeW 40 l = .ok (y, l1) := by
  unfold openW at ho
  rw [h] at ho
  simp only at ho
  cases n with
  | zero =>
    by_cases h40 : pkW x = 40
    · rw [if_pos ⟨h40, by simp⟩] at ho
      cases ho
    · rw [if_neg (fun e => h40 e.1), takeW_not h h40] at ho
      cases ho
  | succ n =>
    rw [if_neg (fun e => by have := e.2; omega)] at ho
    exact ⟨n, rfl, ho⟩
theorem pMany_bad {k : Int} {rd : List Wd → Px α} {n : Nat} {l r l1 : List Wd} {x y : Wd} {f : Flt} (h : nextW l = .ok (x, r)) (hx : pkW x ≠ k) (ht : takeW 40 l = .ok (y, l1)) (hc : rd l1 = .error f) : pMany k rd (n + 1) l = .error f := by
  simp [pMany, h, hx, ht, hc]
theorem pMany_step {k : Int} {rd : List Wd → Px α} {n : Nat} {l r l1 l2 : List Wd} {x y : Wd} {v : α} {M : List α} (h : nextW l = .ok (x, r)) (hx : pkW x ≠ k) (ht : takeW 40 l = .ok (y, l1)) (hc : rd l1 = .ok (v, l2)) : preL M (pMany k rd (n + 1) l) = preL (M ++ [v]) (pMany k rd n l2) := by
  simp only [pMany, h, hx, ht, hc, if_false]
  cases pMany k rd n l2 with
  | error f => rfl
  | ok p =>
    obtain ⟨vs, l3⟩ := p
    simp [preL]
theorem pManyS_err {σ : Type} {k : Int} {rd : σ → List Wd → Px (α × σ)} {n : Nat} {s : σ} {l : List Wd} {f : Flt} (h : nextW l = .error f) : pManyS k rd n s l = .error f := by
  cases n <;> simp [pManyS, h]
theorem pManyS_end {σ : Type} {k : Int} {rd : σ → List Wd → Px (α × σ)} {n : Nat} {s : σ} {l r : List Wd} {x : Wd} (h : nextW l = .ok (x, r)) (hx : pkW x = k) : pManyS k rd n s l = .ok (([], s), l) := by
  cases n <;> simp [pManyS, h, hx]
theorem pManyS_open {σ : Type} {k : Int} {rd : σ → List Wd → Px (α × σ)} {n m : Nat} {s : σ} {l r : List Wd} {x : Wd} {f : Flt} (h : nextW l = .ok (x, r)) (hx : pkW x ≠ k) (hm : n ≤ m) (ho : openW ((m - n : Nat) : Int) m l = .error f) : pManyS k rd n s l = .error f := by
  unfold openW at ho
  rw [h] at ho
  simp only at ho
  cases n with
  | zero =>
    by_cases h40 : pkW x = 40
    · rw [if_pos ⟨h40, by simp⟩] at ho
      injection ho with ho
      simp [pManyS, h, h40, ← ho]
      exact fun e => absurd (h40.trans e) hx
    · rw [if_neg (fun e => h40 e.1), takeW_not h h40] at ho
      injection ho with ho
      simp [pManyS, h, hx, h40, ← ho]
  | succ n =>
    rw [if_neg (fun e => by have := e.2; omega)] at ho
    simp [pManyS, h, hx, ho]
theorem pManyS_bad {σ : Type} {k : Int} {rd : σ → List Wd → Px (α × σ)} {n : Nat} {s : σ} {l r l1 : List Wd} {x y : Wd} {f : Flt} (h : nextW l = .ok (x, r)) (hx : pkW x ≠ k) (ht : takeW 40 l = .ok (y, l1)) (hc : rd s l1 = .error f) : pManyS k rd (n + 1) s l = .error f := by
  simp [pManyS, h, hx, ht, hc]
theorem pManyS_step {σ : Type} {k : Int} {rd : σ → List Wd → Px (α × σ)} {n : Nat} {s s1 : σ} {l r l1 l2 : List Wd} {x y : Wd} {v : α} {M : List α} (h : nextW l = .ok (x, r)) (hx : pkW x ≠ k) (ht : takeW 40 l = .ok (y, l1)) (hc : rd s l1 = .ok ((v, s1), l2)) : preE M (pManyS k rd (n + 1) s l) = preE (M ++ [v]) (pManyS k rd n s1 l2) := by
  simp only [pManyS, h, hx, ht, hc, if_false]
  cases pManyS k rd n s1 l2 with
  | error f => rfl
  | ok p =>
    obtain ⟨⟨vs, s2⟩, l3⟩ := p
    simp [preE]
end Go.Proofs.YtjjjagepnnbebaaGreatDoor

namespace Go.Proofs.YtjjjagepnnbebaaGreatDoor
open Go.RowKit Go.Maps
attribute [local go_sem ↓] Go.wp_at_zero Go.wp_at_succ

def ruL (n : ByteArray) (s : Int) (pv ev av : Value) : List Value := [.string n, .int .i64 s, pv, ev, av]
theorem ruL_one (n : ByteArray) (s : Int) (a1 a2 a3 : Option Addr) (n1 n2 n3 c1 c2 c3 : Nat) : ∀ v ∈ ruL n s (.slice a1 n1 c1) (.slice a2 n2 c2) (.slice a3 n3 c3), v.oneCell' = true := by
  intro v hv
  simp [ruL] at hv
  rcases hv with rfl | rfl | rfl | rfl | rfl <;> rfl
theorem infoRuP : (Tryz.prog.info? 39).map (·.size) = some 5 := by kernel_rfl
theorem infoPF1 : (Tryz.prog.info? 78).map (fun i => (i.zero, i.size, i.bytes)) = some (some (.agg #[.bool false, .string ⟨#[]⟩, .slice none 0 0]), 3, 48) := by kernel_rfl
theorem infoAF1 : (Tryz.prog.info? 73).map (fun i => (i.zero, i.size, i.bytes)) = some (some (.agg #[.int .i64 0, .int .i64 0, .string ⟨#[]⟩, .slice none 0 0]), 4, 56) := by kernel_rfl
/-- A rule with the rows that it holds. -/
structure RX where
  ru : Ru
  pa : Option Addr
  pc : Nat
  MP : List (Pt × Value)
  ea : Option Addr
  ec : Nat
  aa : Option Addr
  ac : Nat
  MA : List (Ac × Value)
def RX.pv (x : RX) : Value := .slice x.pa x.MP.length x.pc
def RX.ev (x : RX) : Value := .slice x.ea x.ru.exprs.length x.ec
def RX.av (x : RX) : Value := .slice x.aa x.MA.length x.ac
def RX.cells (x : RX) : List Value := ruL x.ru.name x.ru.sal x.pv x.ev x.av
structure ROwn (w : World) (B : Nat) (x : RX) : Prop where
  pts : NRow ptK w B x.pa x.pc x.MP
  exs : w.ownsRow B 97 8 x.ev x.ru.exprs.length (x.ru.exprs.flatMap exC)
  acs : NRow acK w B x.aa x.ac x.MA
  mp : x.MP.map Prod.fst = x.ru.pats
  ma : x.MA.map Prod.fst = x.ru.acts
/-- What a rule's reading leaves. -/
def RuPost (w : World) (pb : Nat) (src : Bs) (a : Option Addr) (c : Nat) (am cm rv lv : Value) (r : Px Ru) (e : Ending) (w' : World) : Prop := MkO (some pb) w w' ∧ match r with
  | .error f => e = fltE f
  | .ok (ru, l) => ∃ x : RX, x.ru = ru ∧ e = .returned (.agg x.cells.toArray) ∧ ROwn w' w.heap.size x ∧ ∃ ev bv, PSt w' pb src a c l (RL am cm rv lv ev bv)
theorem RuPost.err {w w' : World} {pb : Nat} {src : Bs} {a : Option Addr} {c : Nat} {am cm rv lv : Value} {r : Px Ru} {f : Flt} (hr : r = .error f) (hm : MkO (some pb) w w') : RuPost w pb src a c am cm rv lv r (fltE f) w' := by
  subst hr
  exact ⟨hm, rfl⟩
def lenP (bx j : Nat) (w : World) : Nat := match w.cell? ⟨bx, j, none⟩ with
  | some v => sliceLen v
  | none => 0
def nilV : Value := .slice none 0 0
/-- In a rule, at its patterns: bx the rule's box, rb the answer's. -/
structure PatS (w wx : World) (pb bx rb : Nat) (src : Bs) (a : Option Addr) (c : Nat) (am cm rv lv : Value) (nm : ByteArray) (sl : Int) (l : List Wd) (pa : Option Addr) (pc : Nat) (MP : List (Pt × Value)) : Prop where
  mo : MkO (some pb) w wx
  ps : PSt wx pb src a c l (RL am cm rv lv (.slice none 0 0) (.int .i64 0))
  pts : NRow ptK wx w.heap.size pa pc MP
  bq : wx.heap[bx]? = some (.cells (ruL nm sl (.slice pa MP.length pc) nilV nilV).toArray 39 (0, 0))
  rq : wx.heap[rb]? = some (.cells (ruL ⟨#[]⟩ 0 nilV nilV nilV).toArray 39 (0, 0))
theorem PatS.below {w wx wt : World} {pb bx rb : Nat} {src : Bs} {a : Option Addr} {c : Nat} {am cm rv lv : Value} {nm : ByteArray} {sl : Int} {l : List Wd} {pa : Option Addr} {pc : Nat} {MP : List (Pt × Value)} (h : PatS w wx pb bx rb src a c am cm rv lv nm sl l pa pc MP) (hb : Below wx.heap.size wx wt) : PatS w wt pb bx rb src a c am cm rv lv nm sl l pa pc MP :=
  ⟨h.mo.trans (MkO.of_below hb), h.ps.below hb, h.pts.below hb, (hb.block bx (lt_of_block' h.bq)).trans h.bq, (hb.block rb (lt_of_block' h.rq)).trans h.rq⟩
theorem PatS.mko {w wx wt : World} {pb bx rb : Nat} {src : Bs} {a : Option Addr} {c : Nat} {am cm rv lv : Value} {nm : ByteArray} {sl : Int} {l l' : List Wd} {pa : Option Addr} {pc : Nat} {MP : List (Pt × Value)} (h : PatS w wx pb bx rb src a c am cm rv lv nm sl l pa pc MP) (hm : MkO (some pb) wx wt) (hp : PSt wt pb src a c l' (RL am cm rv lv (.slice none 0 0) (.int .i64 0))) (h1 : pb < w.heap.size) (h2 : pb ≠ bx) (h3 : pb ≠ rb) : PatS w wt pb bx rb src a c am cm rv lv nm sl l' pa pc MP :=
  ⟨h.mo.trans hm, hp, h.pts.mko hm h1, (hm.block bx (lt_of_block' h.bq) (fun e => h2 (by injection e))).trans h.bq, (hm.block rb (lt_of_block' h.rq) (fun e => h3 (by injection e))).trans h.rq⟩
theorem pListE_inv : ∀ {n : Nat} {s s' : ES} {l l' : List Wd} {vs : List Int}, s.1.length ≤ s.2 → s.2 ≤ 60 → pListE (pExpr 20) n s l = .ok ((vs, s'), l') → s'.1.length ≤ s'.2 ∧ s'.2 ≤ 60 := by
  intro n
  induction n with
  | zero =>
    intro s s' l l' vs h1 h2 h
    unfold pListE at h
    cases hr : nextW l with
    | error f => rw [hr] at h; cases h
    | ok q =>
      rw [hr] at h
      simp only at h
      split at h
      · injection h with h
        injection h with h _
        injection h with _ h
        subst h
        exact ⟨h1, h2⟩
      · split at h <;> cases h
  | succ n ih =>
    intro s s' l l' vs h1 h2 h
    unfold pListE at h
    cases hr : nextW l with
    | error f => rw [hr] at h; cases h
    | ok q =>
      rw [hr] at h
      simp only at h
      split at h
      · injection h with h
        injection h with h _
        injection h with _ h
        subst h
        exact ⟨h1, h2⟩
      · cases hv : pExpr 20 s l with
        | error f => rw [hv] at h; cases h
        | ok q =>
          obtain ⟨⟨v, s1⟩, l1⟩ := q
          rw [hv] at h
          simp only at h
          obtain ⟨j1, j2⟩ := pExpr_inv 20 s l l1 0 v s1 (by omega) h2 hv
          cases hp : pListE (pExpr 20) n s1 l1 with
          | error f => rw [hp] at h; cases h
          | ok p =>
            obtain ⟨⟨ws, s2⟩, l2⟩ := p
            rw [hp] at h
            simp only at h
            injection h with h
            injection h with h _
            injection h with _ h
            subst h
            exact ih (by omega) j2 hp
theorem andP_invX {α β : Type} {r : Px α} {k : α → List Wd → Px β} {y : β} {l : List Wd} (h : andP r k = .ok (y, l)) : ∃ x l1, r = .ok (x, l1) ∧ k x l1 = .ok (y, l) := by
  cases r with
  | error f => cases h
  | ok q => exact ⟨q.1, q.2, rfl, h⟩
theorem pAct_inv {s s' : ES} {l l' : List Wd} {v : Ac} (h1 : s.1.length ≤ s.2) (h2 : s.2 ≤ 60) (h : pAct s l = .ok ((v, s'), l')) : s'.1.length ≤ s'.2 ∧ s'.2 ≤ 60 := by
  obtain ⟨x, l1, _, h⟩ := andP_invX h
  split at h
  · obtain ⟨y, l2, _, h⟩ := andP_invX h
    injection h with h
    injection h with h _
    injection h with _ h
    subst h
    exact ⟨h1, h2⟩
  · split at h
    · obtain ⟨y, l2, _, h⟩ := andP_invX h
      obtain ⟨⟨vs, s1⟩, l3, hp, h⟩ := andP_invX h
      injection h with h
      injection h with h _
      injection h with _ h
      subst h
      exact pListE_inv h1 h2 hp
    · split at h
      · obtain ⟨y, l2, _, h⟩ := andP_invX h
        obtain ⟨z, l3, _, h⟩ := andP_invX h
        injection h with h
        injection h with h _
        injection h with _ h
        subst h
        exact ⟨h1, h2⟩
      · split at h
        · obtain ⟨y, l2, _, h⟩ := andP_invX h
          obtain ⟨⟨vs, s1⟩, l3, hp, h⟩ := andP_invX h
          injection h with h
          injection h with h _
          injection h with _ h
          subst h
          exact pListE_inv h1 h2 hp
        · cases h
theorem MkO.mkx {pb : Nat} {ob : Option Nat} {u v w : World} (h : MkO (some pb) u v) (k : MkX pb ob v w) (ho : ∀ g, ob = some g → u.heap.size ≤ g) : MkO (some pb) u w :=
  ⟨h.rest.trans k.rest, fun g hg hp => (k.block g (Nat.lt_of_lt_of_le hg h.rest.size) (fun e => hp (by rw [e])) (fun e => by have := ho g e; omega)).trans (h.block g hg hp)⟩
/-- In a rule, at its actions. -/
structure ActS (w wx : World) (pb bx rb : Nat) (src : Bs) (a : Option Addr) (c : Nat) (am cm rv lv : Value) (nm : ByteArray) (sl : Int) (pa : Option Addr) (pc : Nat) (MP : List (Pt × Value)) (l : List Wd) (s : ES) (ea : Option Addr) (ec : Nat) (aa : Option Addr) (ac : Nat) (MA : List (Ac × Value)) : Prop where
  mo : MkO (some pb) w wx
  st : ExS wx w.heap.size pb src a c l am cm rv lv s ea ec
  pts : NRow ptK wx w.heap.size pa pc MP
  acs : NRow acK wx w.heap.size aa ac MA
  bq : wx.heap[bx]? = some (.cells (ruL nm sl (.slice pa MP.length pc) nilV (.slice aa MA.length ac)).toArray 39 (0, 0))
  rq : wx.heap[rb]? = some (.cells (ruL ⟨#[]⟩ 0 nilV nilV nilV).toArray 39 (0, 0))
  hk : s.1.length ≤ s.2
  h60 : s.2 ≤ 60
theorem ActS.below {w wx wt : World} {pb bx rb : Nat} {src : Bs} {a : Option Addr} {c : Nat} {am cm rv lv : Value} {nm : ByteArray} {sl : Int} {pa : Option Addr} {pc : Nat} {MP : List (Pt × Value)} {l : List Wd} {s : ES} {ea : Option Addr} {ec : Nat} {aa : Option Addr} {ac : Nat} {MA : List (Ac × Value)} (h : ActS w wx pb bx rb src a c am cm rv lv nm sl pa pc MP l s ea ec aa ac MA) (hb : Below wx.heap.size wx wt) : ActS w wt pb bx rb src a c am cm rv lv nm sl pa pc MP l s ea ec aa ac MA :=
  ⟨h.mo.trans (MkO.of_below hb), h.st.below hb, h.pts.below hb, h.acs.below hb, (hb.block bx (lt_of_block' h.bq)).trans h.bq, (hb.block rb (lt_of_block' h.rq)).trans h.rq, h.hk, h.h60⟩
theorem ActS.mko {w wx wt : World} {pb bx rb : Nat} {src : Bs} {a : Option Addr} {c : Nat} {am cm rv lv : Value} {nm : ByteArray} {sl : Int} {pa : Option Addr} {pc : Nat} {MP : List (Pt × Value)} {l l' : List Wd} {s : ES} {ea : Option Addr} {ec : Nat} {aa : Option Addr} {ac : Nat} {MA : List (Ac × Value)} (h : ActS w wx pb bx rb src a c am cm rv lv nm sl pa pc MP l s ea ec aa ac MA) (hm : MkO (some pb) wx wt) (hp : PSt wt pb src a c l' (RE am cm rv lv s ea ec)) (h2 : pb ≠ bx) (h3 : pb ≠ rb) : ActS w wt pb bx rb src a c am cm rv lv nm sl pa pc MP l' s ea ec aa ac MA :=
  ⟨h.mo.trans hm, h.st.mko hm hp, h.pts.mko hm h.st.lt, h.acs.mko hm h.st.lt, (hm.block bx (lt_of_block' h.bq) (fun e => h2 (by injection e))).trans h.bq, (hm.block rb (lt_of_block' h.rq) (fun e => h3 (by injection e))).trans h.rq, h.hk, h.h60⟩
theorem box_ne {w : World} {g b : Nat} {B : Nat} {s : ES} {ea : Option Addr} {ec : Nat} {cs : Array Value} (ho : w.ownsRow B 97 8 (.slice ea s.1.length ec) s.1.length (s.1.flatMap exC)) (hb : w.heap[b]? = some (.cells cs 39 (0, 0))) (hg : obE s ea ec = some g) : g ≠ b := fun e => by
  obtain ⟨c1, e1⟩ := own_type ho hg
  subst e
  exact ty_ne e1 hb (by decide)
/-- Behind one more action's reading (not yet put in). -/
theorem ActS.mkx {w wx wt : World} {pb bx rb : Nat} {src : Bs} {a : Option Addr} {c : Nat} {am cm rv lv : Value} {nm : ByteArray} {sl : Int} {pa : Option Addr} {pc : Nat} {MP : List (Pt × Value)} {l l' : List Wd} {s s' : ES} {ea ea' : Option Addr} {ec ec' : Nat} {aa : Option Addr} {ac : Nat} {MA : List (Ac × Value)} (h : ActS w wx pb bx rb src a c am cm rv lv nm sl pa pc MP l s ea ec aa ac MA) (hm : MkX pb (obE s ea ec) wx wt) (hs : ExS wt w.heap.size pb src a c l' am cm rv lv s' ea' ec') (h2 : pb ≠ bx) (h3 : pb ≠ rb) (hk : s'.1.length ≤ s'.2) (h60 : s'.2 ≤ 60) : ActS w wt pb bx rb src a c am cm rv lv nm sl pa pc MP l' s' ea' ec' aa ac MA :=
  ⟨h.mo.mkx hm (fun g hg => (h.st.ow.lt g hg).1), hs, h.pts.mkx hm h.st.lt h.st.row (by decide) (by decide), h.acs.mkx hm h.st.lt h.st.row (by decide) (by decide), (hm.block bx (lt_of_block' h.bq) h2 (fun e => box_ne h.st.ow h.bq e rfl)).trans h.bq, (hm.block rb (lt_of_block' h.rq) h3 (fun e => box_ne h.st.ow h.rq e rfl)).trans h.rq, hk, h60⟩
set_option maxRecDepth 100000 in
set_option maxHeartbeats 12800000 in
theorem prule_any (w : World) (pb mb : Nat) (src : Bs) (a : Option Addr) (c : Nat) (l : List Wd) (cm rv lv ev0 bv0 : Value) (h : PSt w pb src a c l (RL (.map (some mb)) cm rv lv ev0 bv0)) (hM : FnMap w pb mb actF) (hne : pb < mb) : Calls Tryz.prog 48 #[.pointer (some ⟨pb, 0, none⟩)] w (RuPost w pb src a c (.map (some mb)) cm rv lv (pRule l)) := by
  have hwf2 := wfield2
  have hwf3 := wfield3
  have HP := hidX h
  have HM := hidX hM
  have hpb := h.lt
  have hml := hM.lt
  clear h hM
  go_enter Tryz.func48, Tryz.ntmps48
  go_upto_region 1 with fail
  refine lift_alloc ?_
  intro w1 hW1 hq1
  have P1 := hidX (HP.out.below hW1)
  have M1 := hidX (MkO.of_below hW1 : MkO (some pb) w w1)
  have HF := hidX (take_any w1 pb src a c l _ 97 P1.out)
  have hrb : w.heap.size < w1.heap.size := lt_of_block' hq1
  have HQ1 := hidX hq1
  clear hW1 hq1
  cases hr : takeW 97 l with
  | error f =>
    have HT : Hid (pRule l = .error f) := show _ = _ from by unfold pRule; rw [hr]; rfl
    rw [hr] at HF
    go_wp2_with (first | (go_at_call 85; refine HF.out.mono ?_; rintro e w2 ⟨hm2, rfl⟩; unfold fltE) | fail)
    exact ⟨rfl, RuPost.err HT.out (M1.out.trans hm2)⟩
  | ok p =>
    obtain ⟨x, l1⟩ := p
    rw [hr] at HF
    go_upto_region 2 with (first | (go_at_call 85; refine HF.out.mono ?_; rintro e w2 ⟨hm2, hw2, hp2⟩; replace hw2 : e = .returned (pwA x) := hw2; subst hw2; unfold pwA) | fail)
    refine lift_alloc ?_
    intro w3 hW3 hq3
    obtain ⟨L, X, HLX, hLl, hq3, y0⟩ := wd_box hq3
    have s2 := hm2.rest.size
    have s3 : w2.heap.size < w3.heap.size := lt_of_block' hq3
    have M3 := hidX ((M1.out.trans hm2).trans (MkO.of_below hW3))
    have P3 := hidX (hp2.below hW3)
    have HRB3 := hidX ((hW3.block w.heap.size (by omega)).trans ((hm2.block w.heap.size hrb (fun e => by injection e; omega)).trans HQ1.out))
    have y2 := (wd_text HLX hq3).1
    have hbq := beq_lit (mkS (ptW x)) ruleT
    rw [bs_mkS] at hbq
    clear hW3 hm2 hp2 HF HQ1 M1 P1
    by_cases hk : ptW x = ruleT
    · have HR1 : Hid (pRule l = andP (takeW 97 l1) fun nm l2 => andP (takeW 48 l2) fun sl l3 => andP (pMany 62 pPat 6 l3) fun ps l4 => andP (takeW 62 l4) fun _ l5 => andP (pManyS 41 pAct 8 ([], 0) l5) fun q l6 => andP (takeW 41 l6) fun _ l7 => .ok (⟨mkS (ptW nm), sl.num, ps, q.2.1, q.1⟩, l7)) := show _ = _ from by unfold pRule; rw [hr, andP_okX, if_pos hk]
      rw [decide_eq_true hk] at hbq
      replace hbq : ((mkS (ptW x)).toList == [114, 117, 108, 101]) = true := hbq
      clear hk hr
      have c6 := P3.out.cell (j := 4) rfl
      have c7 := P3.out.cell (j := 5) rfl
      obtain ⟨cs3, hqp⟩ : ∃ cs, w3.heap[pb]? = some (.cells cs 56 (0, 0)) := by
        obtain ⟨k', hs'⟩ := P3.out.sc
        exact ⟨_, hs'.blk⟩
      have f6 := froz_of hqp 6
      have f7 := froz_of hqp 7
      go_upto_region 5 with fail
      refine lift_eq ?_
      intro w4 hw4
      have P4 := hidX (show PSt w4 pb src a c l1 (RL (.map (some mb)) cm rv lv (.slice none 0 0) (.int .i64 0)) from (P3.out.cellSet (j := 4) (v := .slice none 0 0) rfl).cellSet (j := 5) (v := .int .i64 0) hw4)
      have m4 : MkO (some pb) w3 w4 := by rw [hw4]; exact (MkO.set _).trans (MkO.set _)
      have M4 := hidX (M3.out.trans m4)
      have s4 := m4.rest.size
      have HRB4 := hidX ((m4.block w.heap.size (by omega) (fun e => by injection e; omega)).trans HRB3.out)
      clear hw4 m4 c6 c7 f6 f7 hqp P3 M3 HRB3 y2 hbq
      have HNM := hidX (take_any w4 pb src a c l1 _ 97 P4.out)
      cases hn : takeW 97 l1 with
      | error f =>
        have HT : Hid (pRule l = .error f) := show _ = _ from by rw [HR1.out, hn]; rfl
        rw [hn] at HNM
        go_wp2_with (first | (go_at_call 85; refine HNM.out.mono ?_; rintro e w5 ⟨hm5, rfl⟩; unfold fltE) | fail)
        exact ⟨rfl, RuPost.err HT.out (M4.out.trans hm5)⟩
      | ok p =>
        obtain ⟨nm, l2⟩ := p
        rw [hn] at HNM
        go_upto_region 6 with (first | (go_at_call 85; refine HNM.out.mono ?_; rintro e w5 ⟨hm5, hw5, hp5⟩; replace hw5 : e = .returned (pwA nm) := hw5; subst hw5; unfold pwA) | fail)
        refine lift_alloc ?_
        intro w6 hW6 hq6
        have s5 := hm5.rest.size
        have s6 : w5.heap.size < w6.heap.size := lt_of_block' hq6
        have P6 := hidX (hp5.below hW6)
        have M6 := hidX ((M4.out.trans hm5).trans (MkO.of_below hW6))
        have HB6 := hidX (show w6.heap[w5.heap.size]? = some (.cells (ruL (mkS (ptW nm)) 0 nilV nilV nilV).toArray 39 (0, 0)) from hq6)
        have HRB6 := hidX ((hW6.block w.heap.size (by omega)).trans ((hm5.block w.heap.size (by omega) (fun e => by injection e; omega)).trans HRB4.out))
        have HSL := hidX (take_any w6 pb src a c l2 _ 48 P6.out)
        clear hW6 hq6 hm5 hp5 HNM P4 M4 HRB4
        cases hs : takeW 48 l2 with
        | error f =>
          have HT : Hid (pRule l = .error f) := show _ = _ from by rw [HR1.out, hn, andP_okX, hs]; rfl
          rw [hs] at HSL
          go_wp2_with (first | (go_at_call 85; refine HSL.out.mono ?_; rintro e w7 ⟨hm7, rfl⟩; unfold fltE) | fail)
          exact ⟨rfl, RuPost.err HT.out (M6.out.trans hm7)⟩
        | ok p =>
          obtain ⟨sl, l3⟩ := p
          have HR2 : Hid (pRule l = andP (pMany 62 pPat 6 l3) fun ps l4 => andP (takeW 62 l4) fun _ l5 => andP (pManyS 41 pAct 8 ([], 0) l5) fun q l6 => andP (takeW 41 l6) fun _ l7 => .ok (⟨mkS (ptW nm), sl.num, ps, q.2.1, q.1⟩, l7)) := show _ = _ from by rw [HR1.out, hn, andP_okX, hs, andP_okX]
          rw [hs] at HSL
          clear hn hs HR1
          go_upto_block 0 with (first | (go_at_call 85; refine HSL.out.mono ?_; rintro e w7 ⟨hm7, hw7, hp7⟩; replace hw7 : e = .returned (pwA sl) := hw7; subst hw7; unfold pwA; have s7 := hm7.rest.size; have hq7 := (hm7.block w5.heap.size s6 (fun e => by injection e; omega)).trans HB6.out; have d1 := cell_of hq7 (j := 1) rfl; have f1 := froz_of hq7 1) | fail)
          refine lift_setW hq7 ?_
          intro w8 hq8 ht8
          have S8 := hidX (show PatS w w8 pb w5.heap.size w.heap.size src a c (.map (some mb)) cm rv lv (mkS (ptW nm)) sl.num l3 none 0 [] from ⟨(M6.out.trans hm7).turn ht8 (by omega), hp7.turned ht8 (by omega), NRow.nil _ _ _, hq8, (ht8.block w.heap.size (by omega)).trans ((hm7.block w.heap.size (by omega) (fun e => by injection e; omega)).trans HRB6.out)⟩)
          have hbx : w.heap.size < w5.heap.size := by omega
          clear hm7 hp7 s7 hq7 d1 f1 hq8 ht8 HSL HB6 HRB6 P6 M6
          go_cut [] (fun wx => ∃ l4 pa pc MP, PatS w wx pb w5.heap.size w.heap.size src a c (.map (some mb)) cm rv lv (mkS (ptW nm)) sl.num l4 pa pc MP ∧ pMany 62 pPat 6 l3 = .ok (MP.map Prod.fst, l4))
          case first =>
            go_wp2_with fail
            go_loopw [] (fun wr => ∃ (n : Nat) (l' : List Wd) (pa : Option Addr) (pc : Nat) (MP : List (Pt × Value)), MP.length + n = 6 ∧ PatS w wr pb w5.heap.size w.heap.size src a c (.map (some mb)) cm rv lv (mkS (ptW nm)) sl.num l' pa pc MP ∧ pMany 62 pPat 6 l3 = preL (MP.map Prod.fst) (pMany 62 pPat n l')) (fun wr => 6 - lenP w5.heap.size 2 wr)
            case atStart => exact ⟨6, l3, none, 0, [], rfl, S8.out, by unfold preL; cases pMany 62 pPat 6 l3 <;> rfl⟩
            case round =>
              obtain ⟨n, l', pa, pc, MP, hMn, hst, hpl⟩ := hrel
              have ST := hidX hst
              have PL := hidX hpl
              have HAH := hidX (ahead_any wr pb src a c l' _ 62 hst.ps)
              have c2 := cell_of hst.bq (j := 2) rfl
              have HML : Hid (lenP w5.heap.size 2 wr = MP.length) := show _ = _ from by unfold lenP; rw [c2]; rfl
              have hbl : w5.heap.size < wr.heap.size := lt_of_block' hst.bq
              clear hst hpl S8
              cases hr : nextW l' with
              | error f =>
                have HT : Hid (pRule l = .error f) := show _ = _ from by rw [HR2.out, PL.out, pMany_err hr]; rfl
                rw [hr] at HAH
                go_wp2_with (first | (go_at_call 46; refine HAH.out.mono ?_; rintro e w10 ⟨hb10, rfl⟩; unfold fltE) | fail)
                exact ⟨rfl, RuPost.err HT.out (ST.out.below hb10).mo⟩
              | ok p =>
                obtain ⟨x', r⟩ := p
                rw [hr] at HAH
                by_cases hx : pkW x' = 62
                · have HT : Hid (pMany 62 pPat 6 l3 = .ok (MP.map Prod.fst, l')) := show _ = _ from by rw [PL.out, pMany_end hr hx]; simp [preL]
                  replace HAH : Hid (Calls Tryz.prog 46 #[.pointer (some ⟨pb, 0, none⟩), .int .i32 62] wr fun e w' => Below wr.heap.size wr w' ∧ e = .returned (.bool true)) := by
                    rw [← decide_eq_true hx]
                    exact HAH
                  clear hx
                  go_wp2_with (first | (go_at_call 46; refine HAH.out.mono ?_; rintro e w10 ⟨hb10, rfl⟩) | fail)
                  go_meet
                  exact ⟨l', pa, pc, MP, ST.out.below hb10, HT.out⟩
                · replace HAH : Hid (Calls Tryz.prog 46 #[.pointer (some ⟨pb, 0, none⟩), .int .i32 62] wr fun e w' => Below wr.heap.size wr w' ∧ e = .returned (.bool false)) := by
                    rw [← decide_eq_false hx]
                    exact HAH
                  have HOP := hidX (fun u (hu : Below wr.heap.size wr u) => open_any u pb src a c l' _ (MP.length : Int) 6 (ST.out.below hu).ps)
                  have hnM : (MP.length : Int) = ((6 - n : Nat) : Int) := by omega
                  cases ho : openW (MP.length : Int) 6 l' with
                  | error f =>
                    have HT : Hid (pRule l = .error f) := show _ = _ from by rw [HR2.out, PL.out, pMany_open (m := 6) hr hx (by omega) (by rw [← hnM]; exact ho)]; rfl
                    rw [ho] at HOP
                    clear hx hnM ho
                    go_upto_region 8 with (first | (go_at_call 46; refine HAH.out.mono ?_; rintro e w10 ⟨hb10, rfl⟩) | fail)
                    have d2 := cell_below hb10 c2
                    go_wp2_with (first | (go_at_call 47; refine (HOP.out _ hb10).mono ?_; rintro e w11 ⟨hm11, rfl⟩; unfold fltE) | fail)
                    exact ⟨rfl, RuPost.err HT.out ((ST.out.below hb10).mo.trans hm11)⟩
                  | ok p =>
                    obtain ⟨y, l1'⟩ := p
                    obtain ⟨n, rfl, htk⟩ := pMany_more (m := 6) (n := n) hr (by omega) (by rw [← hnM]; exact ho)
                    rw [ho] at HOP
                    clear hnM ho
                    have HCM := hidX (fun u (hu : PSt u pb src a c l1' (RL (.map (some mb)) cm rv lv (.slice none 0 0) (.int .i64 0))) => ppattern_any u pb src a c l1' _ hu)
                    go_upto_region 8 with (first | (go_at_call 46; refine HAH.out.mono ?_; rintro e w10 ⟨hb10, rfl⟩) | fail)
                    have d2 := cell_below hb10 c2
                    go_upto_region 9 with (first | (go_at_call 47; refine (HOP.out _ hb10).mono ?_; rintro e w11 ⟨hm11, he11, hp11⟩; replace he11 : e = .returned (.tuple #[]) := he11; subst he11) | fail)
                    have S11 := hidX ((ST.out.below hb10).mko hm11 hp11 hpb (by omega) (by omega))
                    have s10 := hb10.size
                    have s11 := hm11.rest.size
                    have e2 := cell_of S11.out.bq (j := 2) rfl
                    clear hm11 hp11 hb10 d2 c2 HOP HAH
                    cases hc : pPat l1' with
                    | error f =>
                      have HT : Hid (pRule l = .error f) := show _ = _ from by rw [HR2.out, PL.out, pMany_bad hr hx htk hc]; rfl
                      rw [hc] at HCM
                      clear hx
                      refine wp_region_pa (fun ch u => RuPost w pb src a c (.map (some mb)) cm rv lv (pRule l) (.panicked ch) u) (fun _ _ _ h1 h2 => ⟨h1, h2⟩) ?_
                      refine wp_region_held_drew (S := (fun _ => True)) (by kernel_rfl) ?_ (fun hHeld => ?_)
                      · trivial
                      refine tkP 0 hHeld ?_
                      (try simp only [pA, pZ, pS])
                      refine tkP 2 hHeld ?_
                      (try simp only [pA, pZ, pS])
                      refine wpAnyH_ready (rs := [1, 3]) (by kernel_rfl) (by simp) ?_
                      refine AllReadyH.cons (o := ?o1) ?ho1 (fun K hK => ?step1) (AllReadyH.cons (o := ?o2) ?ho2 (fun K hK => ?step2) AllReadyH.nil)
                      case ho1 => (simp only [List.getElem?_toArray, List.getElem?_cons_succ, List.getElem?_cons_zero]; rfl)
                      case ho2 => (simp only [List.getElem?_toArray, List.getElem?_cons_succ, List.getElem?_cons_zero]; rfl)
                      case step1 =>
                        go_simp
                        refine hK.out _ _ ?hS3 (fun hHeld' => ?rest3)
                        case hS3 => ((try dsimp only); all_goals trivial)
                        clear hK K
                        (try simp only [pA, pZ, pS])
                        clear hHeld
                        have hHeld := hHeld'
                        clear hHeld'
                        refine wpAnyH_ready (rs := [3]) (by kernel_rfl) (by simp) ?_
                        refine AllReadyH.cons (o := ?o4) ?ho4 (fun K hK => ?step4) AllReadyH.nil
                        case ho4 => (simp only [List.getElem?_toArray, List.getElem?_cons_succ, List.getElem?_cons_zero]; rfl)
                        go_simp
                        (go_at_call 94; refine (HCM.out _ (S11.out.below ((Below.refl _ _).drew)).ps).mono ?_; rintro e w12 ⟨hm12, rfl⟩; unfold fltE)
                        go_wp2_with fail
                        exact ⟨rfl, RuPost.err HT.out (S11.out.mo.drew.trans hm12)⟩
                      case step2 =>
                        go_simp
                        (go_at_call 94; refine (HCM.out _ (S11.out.below ((Below.refl _ _).drew)).ps).mono ?_; rintro e w12 ⟨hm12, rfl⟩; unfold fltE)
                        go_wp2_with fail
                        exact ⟨rfl, RuPost.err HT.out (S11.out.mo.drew.trans hm12)⟩
                    | ok q =>
                      obtain ⟨v, l2'⟩ := q
                      have PL2 := hidX (PL.out.trans (pMany_step (M := MP.map Prod.fst) hr hx htk hc))
                      rw [hc] at HCM
                      clear hx
                      refine wp_region_noPanic ?_
                      refine wp_region_held_drew (S := (fun _ => True)) (by kernel_rfl) ?_ (fun hHeld => ?_)
                      · (try dsimp only)
                        all_goals trivial
                      refine tk 0 hHeld ?_
                      (try simp only [pA, pZ, pS])
                      refine tk 2 hHeld ?_
                      (try simp only [pA, pZ, pS])
                      refine wpAnyH_ready (rs := [1, 3]) (by kernel_rfl) (by simp) ?_
                      refine AllReadyH.cons (o := ?o5) ?ho5 (fun K hK => ?step5) (AllReadyH.cons (o := ?o6) ?ho6 (fun K hK => ?step6) AllReadyH.nil)
                      case ho5 => (simp only [List.getElem?_toArray, List.getElem?_cons_succ, List.getElem?_cons_zero]; rfl)
                      case ho6 => (simp only [List.getElem?_toArray, List.getElem?_cons_succ, List.getElem?_cons_zero]; rfl)
                      case step5 =>
                        go_simp
                        refine hK.out _ _ ?hS7 (fun hHeld' => ?rest7)
                        case hS7 => ((try dsimp only); all_goals trivial)
                        clear hK K
                        (try simp only [pA, pZ, pS])
                        clear hHeld
                        have hHeld := hHeld'
                        clear hHeld'
                        refine wpAnyH_ready (rs := [3]) (by kernel_rfl) (by simp) ?_
                        refine AllReadyH.cons (o := ?o8) ?ho8 (fun K hK => ?step8) AllReadyH.nil
                        case ho8 => (simp only [List.getElem?_toArray, List.getElem?_cons_succ, List.getElem?_cons_zero]; rfl)
                        go_simp
                        (go_at_call 94; refine (HCM.out _ (S11.out.below ((Below.refl _ _).drew)).ps).mono ?_; rintro e w12 ⟨hm12, ⟨va, vc, rfl, ho12⟩, hp12⟩; unfold ptP; have s12 := hm12.rest.size; simp at s12; have hq12 := (hm12.block w5.heap.size (by simp; omega) (fun e => by injection e; omega)).trans S11.out.bq; have g2 := cell_of hq12 (j := 2) rfl)
                        refine hK.out _ _ ?hS9 (fun hHeld' => ?rest9)
                        case hS9 => ((try dsimp only); all_goals trivial)
                        clear hK K
                        (try simp only [pA, pZ, pS])
                        clear hHeld
                        have hHeld := hHeld'
                        clear hHeld'
                        refine wpAnyH_ready (rs := [4]) (by kernel_rfl) (by simp) ?_
                        refine AllReadyH.cons (o := ?o10) ?ho10 (fun K hK => ?step10) AllReadyH.nil
                        case ho10 => (simp only [List.getElem?_toArray, List.getElem?_cons_succ, List.getElem?_cons_zero]; rfl)
                        go_simp
                        have HA12 := hidX (fun o' => (Below.refl _ _).alloc (Nat.le_refl _) o' : ∀ o', Below w12.heap.size w12 (w12.alloc o')); have g2a : ∀ o', (w12.alloc o').cell? ⟨w5.heap.size, 2, none⟩ = some (.slice pa MP.length pc) := fun o' => cell_below (HA12.out o') g2
                        refine hK.out _ _ ?hS11 (fun hHeld' => ?rest11)
                        case hS11 => ((try dsimp only); all_goals trivial)
                        clear hK K
                        (try simp only [pA, pZ, pS])
                        clear hHeld
                        have hHeld := hHeld'
                        clear hHeld'
                        have S12 := hidX ((S11.out.below ((Below.refl _ _).drew)).mko hm12 hp12 hpb (by omega) (by omega))
                        refine wpAnyH_ready (rs := [5]) (by kernel_rfl) (by simp) ?_
                        refine AllReadyH.cons (o := ?o12) ?ho12 (fun K hK => ?step12) AllReadyH.nil
                        case ho12 => (simp only [List.getElem?_toArray, List.getElem?_cons_succ, List.getElem?_cons_zero]; rfl)
                        (refine step_append_any (by rfl) (.tmp 36) (.tmp 39) 35 (by rfl) w.heap.size 78 _ 3 48 Tryz.underlying35 infoPF1 (by rfl) (by omega) _ MP.length _ (by rfl) (S12.out.below (HA12.out _)).pts.row (some ⟨_, 0, none⟩) 1 1 (by rfl) (ptP v (.slice va v.terms.length vc)) (by rfl) (fun e => by cases e) (news_new _ _ _ _ (by simp)) (ptP_one _ _ _ _) (by unfold maxLen; omega) (by omega) (by have := S12.out.mo.rest.size; simp; omega) ?_; intro a13 c13 w13 ho13 hg13 hl13)
                        refine hK.out _ _ ?hS13 (fun hHeld' => ?rest13)
                        case hS13 => ((try dsimp only); all_goals trivial)
                        clear hK K
                        (try simp only [pA, pZ, pS])
                        clear hHeld
                        have hHeld := hHeld'
                        clear hHeld'
                        have hrow : ∀ k, (Value.slice pa MP.length pc).ownBlock = some k → w.heap.size ≤ k := fun k hk => (S12.out.pts.rlt k hk).1
                        have SA := hidX (fun o' => S12.out.below (HA12.out o'))
                        have N13 := hidX (NRow.more (S11.out.below ((Below.refl _ _).drew)).pts (SA.out _).pts ho12 (Nat.le_refl _) (by simp; omega) ⟨va, vc, rfl⟩ (own_bel ho12 (HA12.out _)) hg13.out ho13.out (by decide))
                        have P13 := hidX ((SA.out _).ps.keep ((Below.refl _ _).grown hg13.out (by simp; omega) (fun k hk => by have := hrow k hk; omega)))
                        have B13 := hidX (box_grown (SA.out _).bq hg13.out (SA.out _).pts.rty (by decide))
                        have R13 := hidX (box_grown (SA.out _).rq hg13.out (SA.out _).pts.rty (by decide))
                        have M13 := hidX ((SA.out _).mo.grown hg13.out hrow)
                        have f2 := cell_of B13.out (j := 2) rfl
                        have z2 := froz_of B13.out 2
                        have s13 : w5.heap.size < w13.heap.size := lt_of_block' B13.out
                        refine tk 6 hHeld ?_
                        (try simp only [pA, pZ, pS])
                        refine wpAnyH_ready (rs := [7]) (by kernel_rfl) (by simp) ?_
                        refine AllReadyH.cons (o := ?o14) ?ho14 (fun K hK => ?step14) AllReadyH.nil
                        case ho14 => (simp only [List.getElem?_toArray, List.getElem?_cons_succ, List.getElem?_cons_zero]; rfl)
                        go_simp
                        refine hK.out _ _ ?hS15 (fun hHeld' => ?rest15)
                        case hS15 => ((try dsimp only); all_goals trivial)
                        clear hK K
                        (try dsimp only)
                        clear hHeld
                        have hHeld := hHeld'
                        clear hHeld'
                        refine wpAnyH_done (by kernel_rfl) ?_ _
                        refine NoPanic.normal ?_
                        clear hHeld
                        refine lift_setW B13.out ?_
                        intro w14 hq14 ht14
                        have S14 := hidX (show PatS w w14 pb w5.heap.size w.heap.size src a c (.map (some mb)) cm rv lv (mkS (ptW nm)) sl.num l2' a13 c13 (MP ++ [(v, .slice va v.terms.length vc)]) from ⟨M13.out.turn ht14 (by omega), P13.out.turned ht14 (by omega), N13.out.turned ht14 B13.out (by decide) (by decide), by simpa [ruL] using hq14, (ht14.block w.heap.size (by omega)).trans R13.out⟩)
                        have HL14 : Hid (lenP w5.heap.size 2 w14 = MP.length + 1) := show _ = _ from by unfold lenP; rw [cell_of S14.out.bq (j := 2) rfl]; simp [sliceLen]
                        clear hq14 ht14 f2 z2
                        go_wp2_with fail
                        go_roundw
                        case rel => exact ⟨n, l2', a13, c13, MP ++ [(v, .slice va v.terms.length vc)], by simp; omega, S14.out, by simpa using PL2.out⟩
                        case measure =>
                          change 6 - lenP w5.heap.size 2 w14 < 6 - lenP w5.heap.size 2 wr
                          rw [HL14.out, HML.out]
                          omega
                      case step6 =>
                        go_simp
                        (go_at_call 94; refine (HCM.out _ (S11.out.below ((Below.refl _ _).drew)).ps).mono ?_; rintro e w12 ⟨hm12, ⟨va, vc, rfl, ho12⟩, hp12⟩; unfold ptP; have s12 := hm12.rest.size; simp at s12; have hq12 := (hm12.block w5.heap.size (by simp; omega) (fun e => by injection e; omega)).trans S11.out.bq; have g2 := cell_of hq12 (j := 2) rfl)
                        refine hK.out _ _ ?hS16 (fun hHeld' => ?rest16)
                        case hS16 => ((try dsimp only); all_goals trivial)
                        clear hK K
                        (try simp only [pA, pZ, pS])
                        clear hHeld
                        have hHeld := hHeld'
                        clear hHeld'
                        refine wpAnyH_ready (rs := [1, 4]) (by kernel_rfl) (by simp) ?_
                        refine AllReadyH.cons (o := ?o17) ?ho17 (fun K hK => ?step17) (AllReadyH.cons (o := ?o18) ?ho18 (fun K hK => ?step18) AllReadyH.nil)
                        case ho17 => (simp only [List.getElem?_toArray, List.getElem?_cons_succ, List.getElem?_cons_zero]; rfl)
                        case ho18 => (simp only [List.getElem?_toArray, List.getElem?_cons_succ, List.getElem?_cons_zero]; rfl)
                        case step17 =>
                          go_simp
                          refine hK.out _ _ ?hS19 (fun hHeld' => ?rest19)
                          case hS19 => ((try dsimp only); all_goals trivial)
                          clear hK K
                          (try simp only [pA, pZ, pS])
                          clear hHeld
                          have hHeld := hHeld'
                          clear hHeld'
                          refine wpAnyH_ready (rs := [4]) (by kernel_rfl) (by simp) ?_
                          refine AllReadyH.cons (o := ?o20) ?ho20 (fun K hK => ?step20) AllReadyH.nil
                          case ho20 => (simp only [List.getElem?_toArray, List.getElem?_cons_succ, List.getElem?_cons_zero]; rfl)
                          go_simp
                          have HA12 := hidX (fun o' => (Below.refl _ _).alloc (Nat.le_refl _) o' : ∀ o', Below w12.heap.size w12 (w12.alloc o')); have g2a : ∀ o', (w12.alloc o').cell? ⟨w5.heap.size, 2, none⟩ = some (.slice pa MP.length pc) := fun o' => cell_below (HA12.out o') g2
                          refine hK.out _ _ ?hS21 (fun hHeld' => ?rest21)
                          case hS21 => ((try dsimp only); all_goals trivial)
                          clear hK K
                          (try simp only [pA, pZ, pS])
                          clear hHeld
                          have hHeld := hHeld'
                          clear hHeld'
                          have S12 := hidX ((S11.out.below ((Below.refl _ _).drew)).mko hm12 hp12 hpb (by omega) (by omega))
                          refine wpAnyH_ready (rs := [5]) (by kernel_rfl) (by simp) ?_
                          refine AllReadyH.cons (o := ?o22) ?ho22 (fun K hK => ?step22) AllReadyH.nil
                          case ho22 => (simp only [List.getElem?_toArray, List.getElem?_cons_succ, List.getElem?_cons_zero]; rfl)
                          (refine step_append_any (by rfl) (.tmp 36) (.tmp 39) 35 (by rfl) w.heap.size 78 _ 3 48 Tryz.underlying35 infoPF1 (by rfl) (by omega) _ MP.length _ (by rfl) (S12.out.below (HA12.out _)).pts.row (some ⟨_, 0, none⟩) 1 1 (by rfl) (ptP v (.slice va v.terms.length vc)) (by rfl) (fun e => by cases e) (news_new _ _ _ _ (by simp)) (ptP_one _ _ _ _) (by unfold maxLen; omega) (by omega) (by have := S12.out.mo.rest.size; simp; omega) ?_; intro a13 c13 w13 ho13 hg13 hl13)
                          refine hK.out _ _ ?hS23 (fun hHeld' => ?rest23)
                          case hS23 => ((try dsimp only); all_goals trivial)
                          clear hK K
                          (try simp only [pA, pZ, pS])
                          clear hHeld
                          have hHeld := hHeld'
                          clear hHeld'
                          have hrow : ∀ k, (Value.slice pa MP.length pc).ownBlock = some k → w.heap.size ≤ k := fun k hk => (S12.out.pts.rlt k hk).1
                          have SA := hidX (fun o' => S12.out.below (HA12.out o'))
                          have N13 := hidX (NRow.more (S11.out.below ((Below.refl _ _).drew)).pts (SA.out _).pts ho12 (Nat.le_refl _) (by simp; omega) ⟨va, vc, rfl⟩ (own_bel ho12 (HA12.out _)) hg13.out ho13.out (by decide))
                          have P13 := hidX ((SA.out _).ps.keep ((Below.refl _ _).grown hg13.out (by simp; omega) (fun k hk => by have := hrow k hk; omega)))
                          have B13 := hidX (box_grown (SA.out _).bq hg13.out (SA.out _).pts.rty (by decide))
                          have R13 := hidX (box_grown (SA.out _).rq hg13.out (SA.out _).pts.rty (by decide))
                          have M13 := hidX ((SA.out _).mo.grown hg13.out hrow)
                          have f2 := cell_of B13.out (j := 2) rfl
                          have z2 := froz_of B13.out 2
                          have s13 : w5.heap.size < w13.heap.size := lt_of_block' B13.out
                          refine tk 6 hHeld ?_
                          (try simp only [pA, pZ, pS])
                          refine wpAnyH_ready (rs := [7]) (by kernel_rfl) (by simp) ?_
                          refine AllReadyH.cons (o := ?o24) ?ho24 (fun K hK => ?step24) AllReadyH.nil
                          case ho24 => (simp only [List.getElem?_toArray, List.getElem?_cons_succ, List.getElem?_cons_zero]; rfl)
                          go_simp
                          refine hK.out _ _ ?hS25 (fun hHeld' => ?rest25)
                          case hS25 => ((try dsimp only); all_goals trivial)
                          clear hK K
                          (try dsimp only)
                          clear hHeld
                          have hHeld := hHeld'
                          clear hHeld'
                          refine wpAnyH_done (by kernel_rfl) ?_ _
                          refine NoPanic.normal ?_
                          clear hHeld
                          refine lift_setW B13.out ?_
                          intro w14 hq14 ht14
                          have S14 := hidX (show PatS w w14 pb w5.heap.size w.heap.size src a c (.map (some mb)) cm rv lv (mkS (ptW nm)) sl.num l2' a13 c13 (MP ++ [(v, .slice va v.terms.length vc)]) from ⟨M13.out.turn ht14 (by omega), P13.out.turned ht14 (by omega), N13.out.turned ht14 B13.out (by decide) (by decide), by simpa [ruL] using hq14, (ht14.block w.heap.size (by omega)).trans R13.out⟩)
                          have HL14 : Hid (lenP w5.heap.size 2 w14 = MP.length + 1) := show _ = _ from by unfold lenP; rw [cell_of S14.out.bq (j := 2) rfl]; simp [sliceLen]
                          clear hq14 ht14 f2 z2
                          go_wp2_with fail
                          go_roundw
                          case rel => exact ⟨n, l2', a13, c13, MP ++ [(v, .slice va v.terms.length vc)], by simp; omega, S14.out, by simpa using PL2.out⟩
                          case measure =>
                            change 6 - lenP w5.heap.size 2 w14 < 6 - lenP w5.heap.size 2 wr
                            rw [HL14.out, HML.out]
                            omega
                        case step18 =>
                          go_simp
                          have HA12 := hidX (fun o' => (Below.refl _ _).alloc (Nat.le_refl _) o' : ∀ o', Below w12.heap.size w12 (w12.alloc o')); have g2a : ∀ o', (w12.alloc o').cell? ⟨w5.heap.size, 2, none⟩ = some (.slice pa MP.length pc) := fun o' => cell_below (HA12.out o') g2
                          refine hK.out _ _ ?hS26 (fun hHeld' => ?rest26)
                          case hS26 => ((try dsimp only); all_goals trivial)
                          clear hK K
                          (try simp only [pA, pZ, pS])
                          clear hHeld
                          have hHeld := hHeld'
                          clear hHeld'
                          refine wpAnyH_ready (rs := [1]) (by kernel_rfl) (by simp) ?_
                          refine AllReadyH.cons (o := ?o27) ?ho27 (fun K hK => ?step27) AllReadyH.nil
                          case ho27 => (simp only [List.getElem?_toArray, List.getElem?_cons_succ, List.getElem?_cons_zero]; rfl)
                          go_simp
                          refine hK.out _ _ ?hS28 (fun hHeld' => ?rest28)
                          case hS28 => ((try dsimp only); all_goals trivial)
                          clear hK K
                          (try simp only [pA, pZ, pS])
                          clear hHeld
                          have hHeld := hHeld'
                          clear hHeld'
                          have S12 := hidX ((S11.out.below ((Below.refl _ _).drew)).mko hm12 hp12 hpb (by omega) (by omega))
                          refine wpAnyH_ready (rs := [5]) (by kernel_rfl) (by simp) ?_
                          refine AllReadyH.cons (o := ?o29) ?ho29 (fun K hK => ?step29) AllReadyH.nil
                          case ho29 => (simp only [List.getElem?_toArray, List.getElem?_cons_succ, List.getElem?_cons_zero]; rfl)
                          (refine step_append_any (by rfl) (.tmp 36) (.tmp 39) 35 (by rfl) w.heap.size 78 _ 3 48 Tryz.underlying35 infoPF1 (by rfl) (by omega) _ MP.length _ (by rfl) (S12.out.below (HA12.out _)).pts.row (some ⟨_, 0, none⟩) 1 1 (by rfl) (ptP v (.slice va v.terms.length vc)) (by rfl) (fun e => by cases e) (news_new _ _ _ _ (by simp)) (ptP_one _ _ _ _) (by unfold maxLen; omega) (by omega) (by have := S12.out.mo.rest.size; simp; omega) ?_; intro a13 c13 w13 ho13 hg13 hl13)
                          refine hK.out _ _ ?hS30 (fun hHeld' => ?rest30)
                          case hS30 => ((try dsimp only); all_goals trivial)
                          clear hK K
                          (try simp only [pA, pZ, pS])
                          clear hHeld
                          have hHeld := hHeld'
                          clear hHeld'
                          have hrow : ∀ k, (Value.slice pa MP.length pc).ownBlock = some k → w.heap.size ≤ k := fun k hk => (S12.out.pts.rlt k hk).1
                          have SA := hidX (fun o' => S12.out.below (HA12.out o'))
                          have N13 := hidX (NRow.more (S11.out.below ((Below.refl _ _).drew)).pts (SA.out _).pts ho12 (Nat.le_refl _) (by simp; omega) ⟨va, vc, rfl⟩ (own_bel ho12 (HA12.out _)) hg13.out ho13.out (by decide))
                          have P13 := hidX ((SA.out _).ps.keep ((Below.refl _ _).grown hg13.out (by simp; omega) (fun k hk => by have := hrow k hk; omega)))
                          have B13 := hidX (box_grown (SA.out _).bq hg13.out (SA.out _).pts.rty (by decide))
                          have R13 := hidX (box_grown (SA.out _).rq hg13.out (SA.out _).pts.rty (by decide))
                          have M13 := hidX ((SA.out _).mo.grown hg13.out hrow)
                          have f2 := cell_of B13.out (j := 2) rfl
                          have z2 := froz_of B13.out 2
                          have s13 : w5.heap.size < w13.heap.size := lt_of_block' B13.out
                          refine tk 6 hHeld ?_
                          (try simp only [pA, pZ, pS])
                          refine wpAnyH_ready (rs := [7]) (by kernel_rfl) (by simp) ?_
                          refine AllReadyH.cons (o := ?o31) ?ho31 (fun K hK => ?step31) AllReadyH.nil
                          case ho31 => (simp only [List.getElem?_toArray, List.getElem?_cons_succ, List.getElem?_cons_zero]; rfl)
                          go_simp
                          refine hK.out _ _ ?hS32 (fun hHeld' => ?rest32)
                          case hS32 => ((try dsimp only); all_goals trivial)
                          clear hK K
                          (try dsimp only)
                          clear hHeld
                          have hHeld := hHeld'
                          clear hHeld'
                          refine wpAnyH_done (by kernel_rfl) ?_ _
                          refine NoPanic.normal ?_
                          clear hHeld
                          refine lift_setW B13.out ?_
                          intro w14 hq14 ht14
                          have S14 := hidX (show PatS w w14 pb w5.heap.size w.heap.size src a c (.map (some mb)) cm rv lv (mkS (ptW nm)) sl.num l2' a13 c13 (MP ++ [(v, .slice va v.terms.length vc)]) from ⟨M13.out.turn ht14 (by omega), P13.out.turned ht14 (by omega), N13.out.turned ht14 B13.out (by decide) (by decide), by simpa [ruL] using hq14, (ht14.block w.heap.size (by omega)).trans R13.out⟩)
                          have HL14 : Hid (lenP w5.heap.size 2 w14 = MP.length + 1) := show _ = _ from by unfold lenP; rw [cell_of S14.out.bq (j := 2) rfl]; simp [sliceLen]
                          clear hq14 ht14 f2 z2
                          go_wp2_with fail
                          go_roundw
                          case rel => exact ⟨n, l2', a13, c13, MP ++ [(v, .slice va v.terms.length vc)], by simp; omega, S14.out, by simpa using PL2.out⟩
                          case measure =>
                            change 6 - lenP w5.heap.size 2 w14 < 6 - lenP w5.heap.size 2 wr
                            rw [HL14.out, HML.out]
                            omega
          case rest =>
            obtain ⟨l4, pa, pc, MP, hst, hpm⟩ := hcut
            obtain ⟨w9, rfl⟩ : ∃ v, v = wc := ⟨wc, rfl⟩
            have ST := hidX hst
            have HR3 : Hid (pRule l = andP (takeW 62 l4) fun _ l5 => andP (pManyS 41 pAct 8 ([], 0) l5) fun q l6 => andP (takeW 41 l6) fun _ l7 => .ok (⟨mkS (ptW nm), sl.num, MP.map Prod.fst, q.2.1, q.1⟩, l7)) := show _ = _ from by rw [HR2.out, hpm]; rfl
            have HTH := hidX (take_any w9 pb src a c l4 _ 62 hst.ps)
            clear hst hpm S8 HR2
            cases hth : takeW 62 l4 with
            | error f =>
              have HT : Hid (pRule l = .error f) := show _ = _ from by rw [HR3.out, hth]; rfl
              rw [hth] at HTH
              go_wp2_with (first | (go_at_call 85; refine HTH.out.mono ?_; rintro e w20 ⟨hm20, rfl⟩; unfold fltE) | fail)
              exact ⟨rfl, RuPost.err HT.out (ST.out.mo.trans hm20)⟩
            | ok p =>
              obtain ⟨th, l5⟩ := p
              have HR4 : Hid (pRule l = andP (pManyS 41 pAct 8 ([], 0) l5) fun q l6 => andP (takeW 41 l6) fun _ l7 => .ok (⟨mkS (ptW nm), sl.num, MP.map Prod.fst, q.2.1, q.1⟩, l7)) := show _ = _ from by rw [HR3.out, hth]; rfl
              rw [hth] at HTH
              clear hth HR3
              go_upto_block 2 with (first | (go_at_call 85; refine HTH.out.mono ?_; rintro e w20 ⟨hm20, hw20, hp20⟩; replace hw20 : e = .returned (pwA th) := hw20; subst hw20; unfold pwA) | fail)
              have S20 := hidX (show ActS w w20 pb w5.heap.size w.heap.size src a c (.map (some mb)) cm rv lv (mkS (ptW nm)) sl.num pa pc MP l5 ([], 0) none 0 none 0 [] from ⟨ST.out.mo.trans hm20, ⟨hp20, World.ownsRow_nil _ _ _ _, hpb, (ST.out.mo.trans hm20).rest.size⟩, ST.out.pts.mko hm20 hpb, NRow.nil _ _ _, (hm20.block w5.heap.size (lt_of_block' ST.out.bq) (fun e => by injection e; omega)).trans ST.out.bq, (hm20.block w.heap.size (lt_of_block' ST.out.rq) (fun e => by injection e; omega)).trans ST.out.rq, by simp, by simp⟩)
              clear hm20 hp20 HTH ST
              go_cut [] (fun wx => ∃ l6 s' ea' ec' aa ac MA, ActS w wx pb w5.heap.size w.heap.size src a c (.map (some mb)) cm rv lv (mkS (ptW nm)) sl.num pa pc MP l6 s' ea' ec' aa ac MA ∧ pManyS 41 pAct 8 ([], 0) l5 = .ok ((MA.map Prod.fst, s'), l6))
              case first =>
                go_wp2_with fail
                go_loopw [] (fun wr => ∃ (n : Nat) (l' : List Wd) (s' : ES) (ea' : Option Addr) (ec' : Nat) (aa : Option Addr) (ac : Nat) (MA : List (Ac × Value)), MA.length + n = 8 ∧ ActS w wr pb w5.heap.size w.heap.size src a c (.map (some mb)) cm rv lv (mkS (ptW nm)) sl.num pa pc MP l' s' ea' ec' aa ac MA ∧ pManyS 41 pAct 8 ([], 0) l5 = preE (MA.map Prod.fst) (pManyS 41 pAct n s' l')) (fun wr => 8 - lenP w5.heap.size 4 wr)
                case atStart => exact ⟨8, l5, ([], 0), none, 0, none, 0, [], rfl, S20.out, by unfold preE; cases pManyS 41 pAct 8 ([], 0) l5 <;> rfl⟩
                case round =>
                  obtain ⟨n, l', s', ea', ec', aa, ac, MA, hMn, hst, hpl⟩ := hrel
                  have ST := hidX hst
                  have PL := hidX hpl
                  have HAH := hidX (ahead_any wr pb src a c l' _ 41 hst.st.ps)
                  have c4 := cell_of hst.bq (j := 4) rfl
                  have HML : Hid (lenP w5.heap.size 4 wr = MA.length) := show _ = _ from by unfold lenP; rw [c4]; rfl
                  have hbl : w5.heap.size < wr.heap.size := lt_of_block' hst.bq
                  clear hst hpl S20
                  cases hr : nextW l' with
                  | error f =>
                    have HT : Hid (pRule l = .error f) := show _ = _ from by rw [HR4.out, PL.out, pManyS_err hr]; rfl
                    rw [hr] at HAH
                    go_wp2_with (first | (go_at_call 46; refine HAH.out.mono ?_; rintro e w10 ⟨hb10, rfl⟩; unfold fltE) | fail)
                    exact ⟨rfl, RuPost.err HT.out (ST.out.below hb10).mo⟩
                  | ok p =>
                    obtain ⟨x', r⟩ := p
                    rw [hr] at HAH
                    by_cases hx : pkW x' = 41
                    · have HT : Hid (pManyS 41 pAct 8 ([], 0) l5 = .ok ((MA.map Prod.fst, s'), l')) := show _ = _ from by rw [PL.out, pManyS_end hr hx]; simp [preE]
                      replace HAH : Hid (Calls Tryz.prog 46 #[.pointer (some ⟨pb, 0, none⟩), .int .i32 41] wr fun e w' => Below wr.heap.size wr w' ∧ e = .returned (.bool true)) := by
                        rw [← decide_eq_true hx]
                        exact HAH
                      clear hx
                      go_wp2_with (first | (go_at_call 46; refine HAH.out.mono ?_; rintro e w10 ⟨hb10, rfl⟩) | fail)
                      go_meet
                      exact ⟨l', s', ea', ec', aa, ac, MA, ST.out.below hb10, HT.out⟩
                    · replace HAH : Hid (Calls Tryz.prog 46 #[.pointer (some ⟨pb, 0, none⟩), .int .i32 41] wr fun e w' => Below wr.heap.size wr w' ∧ e = .returned (.bool false)) := by
                        rw [← decide_eq_false hx]
                        exact HAH
                      have HOP := hidX (fun u (hu : Below wr.heap.size wr u) => open_any u pb src a c l' _ (MA.length : Int) 8 (ST.out.below hu).st.ps)
                      have hnM : (MA.length : Int) = ((8 - n : Nat) : Int) := by omega
                      cases ho : openW (MA.length : Int) 8 l' with
                      | error f =>
                        have HT : Hid (pRule l = .error f) := show _ = _ from by rw [HR4.out, PL.out, pManyS_open (m := 8) hr hx (by omega) (by rw [← hnM]; exact ho)]; rfl
                        rw [ho] at HOP
                        clear hx hnM ho
                        go_upto_region 12 with (first | (go_at_call 46; refine HAH.out.mono ?_; rintro e w10 ⟨hb10, rfl⟩) | fail)
                        have d4 := cell_below hb10 c4
                        go_wp2_with (first | (go_at_call 47; refine (HOP.out _ hb10).mono ?_; rintro e w11 ⟨hm11, rfl⟩; unfold fltE) | fail)
                        exact ⟨rfl, RuPost.err HT.out ((ST.out.below hb10).mo.trans hm11)⟩
                      | ok p =>
                        obtain ⟨y, l1'⟩ := p
                        obtain ⟨n, rfl, htk⟩ := pMany_more (m := 8) (n := n) hr (by omega) (by rw [← hnM]; exact ho)
                        rw [ho] at HOP
                        clear hnM ho
                        go_upto_region 12 with (first | (go_at_call 46; refine HAH.out.mono ?_; rintro e w10 ⟨hb10, rfl⟩) | fail)
                        have d4 := cell_below hb10 c4
                        go_upto_region 13 with (first | (go_at_call 47; refine (HOP.out _ hb10).mono ?_; rintro e w11 ⟨hm11, he11, hp11⟩; replace he11 : e = .returned (.tuple #[]) := he11; subst he11) | fail)
                        have S11 := hidX ((ST.out.below hb10).mko hm11 hp11 (by omega) (by omega))
                        have HCM := hidX (paction_any w11.drew w.heap.size pb mb src a c l1' cm rv lv s' ea' ec' (S11.out.below ((Below.refl _ _).drew)).st S11.out.hk S11.out.h60 (HM.out.mko S11.out.mo.drew (Nat.ne_of_lt hne)) hne)
                        have s10 := hb10.size
                        have s11 := hm11.rest.size
                        have e4 := cell_of S11.out.bq (j := 4) rfl
                        clear hm11 hp11 hb10 d4 c4 HOP HAH
                        cases hc : pAct s' l1' with
                        | error f =>
                          have HT : Hid (pRule l = .error f) := show _ = _ from by rw [HR4.out, PL.out, pManyS_bad hr hx htk hc]; rfl
                          rw [hc] at HCM
                          clear hx
                          refine wp_region_pa (fun ch u => RuPost w pb src a c (.map (some mb)) cm rv lv (pRule l) (.panicked ch) u) (fun _ _ _ h1 h2 => ⟨h1, h2⟩) ?_
                          refine wp_region_held_drew (S := (fun _ => True)) (by kernel_rfl) ?_ (fun hHeld => ?_)
                          · trivial
                          refine tkP 0 hHeld ?_
                          (try simp only [pA, pZ, pS])
                          refine tkP 2 hHeld ?_
                          (try simp only [pA, pZ, pS])
                          refine wpAnyH_ready (rs := [1, 3]) (by kernel_rfl) (by simp) ?_
                          refine AllReadyH.cons (o := ?o33) ?ho33 (fun K hK => ?step33) (AllReadyH.cons (o := ?o34) ?ho34 (fun K hK => ?step34) AllReadyH.nil)
                          case ho33 => (simp only [List.getElem?_toArray, List.getElem?_cons_succ, List.getElem?_cons_zero]; rfl)
                          case ho34 => (simp only [List.getElem?_toArray, List.getElem?_cons_succ, List.getElem?_cons_zero]; rfl)
                          case step33 =>
                            go_simp
                            refine hK.out _ _ ?hS35 (fun hHeld' => ?rest35)
                            case hS35 => ((try dsimp only); all_goals trivial)
                            clear hK K
                            (try simp only [pA, pZ, pS])
                            clear hHeld
                            have hHeld := hHeld'
                            clear hHeld'
                            refine wpAnyH_ready (rs := [3]) (by kernel_rfl) (by simp) ?_
                            refine AllReadyH.cons (o := ?o36) ?ho36 (fun K hK => ?step36) AllReadyH.nil
                            case ho36 => (simp only [List.getElem?_toArray, List.getElem?_cons_succ, List.getElem?_cons_zero]; rfl)
                            go_simp
                            (go_at_call 95; refine (HCM.out).mono ?_; rintro e w12 ⟨hm12, rfl⟩; unfold fltE)
                            go_wp2_with fail
                            exact ⟨rfl, RuPost.err HT.out (S11.out.mo.drew.mkx hm12 (fun g hg => (S11.out.st.ow.lt g hg).1))⟩
                          case step34 =>
                            go_simp
                            (go_at_call 95; refine (HCM.out).mono ?_; rintro e w12 ⟨hm12, rfl⟩; unfold fltE)
                            go_wp2_with fail
                            exact ⟨rfl, RuPost.err HT.out (S11.out.mo.drew.mkx hm12 (fun g hg => (S11.out.st.ow.lt g hg).1))⟩
                        | ok q =>
                          obtain ⟨⟨v, s2⟩, l2'⟩ := q
                          obtain ⟨hk2, h62⟩ := pAct_inv ST.out.hk ST.out.h60 hc
                          have PL2 := hidX (PL.out.trans (pManyS_step (M := MA.map Prod.fst) hr hx htk hc))
                          rw [hc] at HCM
                          clear hx
                          refine wp_region_noPanic ?_
                          refine wp_region_held_drew (S := (fun _ => True)) (by kernel_rfl) ?_ (fun hHeld => ?_)
                          · (try dsimp only)
                            all_goals trivial
                          refine tk 0 hHeld ?_
                          (try simp only [pA, pZ, pS])
                          refine tk 2 hHeld ?_
                          (try simp only [pA, pZ, pS])
                          refine wpAnyH_ready (rs := [1, 3]) (by kernel_rfl) (by simp) ?_
                          refine AllReadyH.cons (o := ?o37) ?ho37 (fun K hK => ?step37) (AllReadyH.cons (o := ?o38) ?ho38 (fun K hK => ?step38) AllReadyH.nil)
                          case ho37 => (simp only [List.getElem?_toArray, List.getElem?_cons_succ, List.getElem?_cons_zero]; rfl)
                          case ho38 => (simp only [List.getElem?_toArray, List.getElem?_cons_succ, List.getElem?_cons_zero]; rfl)
                          case step37 =>
                            go_simp
                            refine hK.out _ _ ?hS39 (fun hHeld' => ?rest39)
                            case hS39 => ((try dsimp only); all_goals trivial)
                            clear hK K
                            (try simp only [pA, pZ, pS])
                            clear hHeld
                            have hHeld := hHeld'
                            clear hHeld'
                            refine wpAnyH_ready (rs := [3]) (by kernel_rfl) (by simp) ?_
                            refine AllReadyH.cons (o := ?o40) ?ho40 (fun K hK => ?step40) AllReadyH.nil
                            case ho40 => (simp only [List.getElem?_toArray, List.getElem?_cons_succ, List.getElem?_cons_zero]; rfl)
                            go_simp
                            (go_at_call 95; refine HCM.out.mono ?_; rintro e w12 ⟨hm12, ⟨va, vc, rfl, ho12⟩, ea12, ec12, hs12, hr12⟩; unfold acL; have s12 := hm12.rest.size; simp at s12; have hq12 := (hm12.block w5.heap.size (by simp; omega) (by omega) (fun e => box_ne S11.out.st.ow S11.out.bq e rfl)).trans S11.out.bq; have g4 := cell_of hq12 (j := 4) rfl)
                            refine hK.out _ _ ?hS41 (fun hHeld' => ?rest41)
                            case hS41 => ((try dsimp only); all_goals trivial)
                            clear hK K
                            (try dsimp only)
                            clear hHeld
                            have hHeld := hHeld'
                            clear hHeld'
                            refine wpAnyH_ready (rs := [4]) (by kernel_rfl) (by simp) ?_
                            refine AllReadyH.cons (o := ?o42) ?ho42 (fun K hK => ?step42) AllReadyH.nil
                            case ho42 => (simp only [List.getElem?_toArray, List.getElem?_cons_succ, List.getElem?_cons_zero]; rfl)
                            go_simp
                            have HA12 := hidX (fun o' => (Below.refl _ _).alloc (Nat.le_refl _) o' : ∀ o', Below w12.heap.size w12 (w12.alloc o')); have g4a : ∀ o', (w12.alloc o').cell? ⟨w5.heap.size, 4, none⟩ = some (.slice aa MA.length ac) := fun o' => cell_below (HA12.out o') g4
                            refine hK.out _ _ ?hS43 (fun hHeld' => ?rest43)
                            case hS43 => ((try dsimp only); all_goals trivial)
                            clear hK K
                            (try simp only [pA, pZ, pS])
                            clear hHeld
                            have hHeld := hHeld'
                            clear hHeld'
                            have S12 := hidX ((S11.out.below ((Below.refl _ _).drew)).mkx hm12 hs12 (by omega) (by omega) hk2 h62)
                            refine wpAnyH_ready (rs := [5]) (by kernel_rfl) (by simp) ?_
                            refine AllReadyH.cons (o := ?o44) ?ho44 (fun K hK => ?step44) AllReadyH.nil
                            case ho44 => (simp only [List.getElem?_toArray, List.getElem?_cons_succ, List.getElem?_cons_zero]; rfl)
                            (refine step_append_any (by rfl) (.tmp 53) (.tmp 56) 37 (by rfl) w.heap.size 73 _ 4 56 Tryz.underlying37 infoAF1 (by rfl) (by omega) _ MA.length _ (by rfl) (S12.out.below (HA12.out _)).acs.row (some ⟨_, 0, none⟩) 1 1 (by rfl) (acL v (.slice va v.args.length vc)) (by rfl) (fun e => by cases e) (news_new _ _ _ _ (by simp)) (acL_one _ _ _ _) (by unfold maxLen; omega) (by omega) (by have := S12.out.mo.rest.size; simp; omega) ?_; intro a13 c13 w13 ho13 hg13 hl13)
                            refine hK.out _ _ ?hS45 (fun hHeld' => ?rest45)
                            case hS45 => ((try dsimp only); all_goals trivial)
                            clear hK K
                            (try simp only [pA, pZ, pS])
                            clear hHeld
                            have hHeld := hHeld'
                            clear hHeld'
                            have hrow : ∀ k, (Value.slice aa MA.length ac).ownBlock = some k → w.heap.size ≤ k := fun k hk => (S12.out.acs.rlt k hk).1
                            have SA := hidX (fun o' => S12.out.below (HA12.out o'))
                            have N13 := hidX (NRow.more (S11.out.below ((Below.refl _ _).drew)).acs (SA.out _).acs ho12 (Nat.le_refl _) (by simp; omega) ⟨va, vc, rfl⟩ (own_bel ho12 (HA12.out _)) hg13.out ho13.out (by decide))
                            have P13 := hidX ((SA.out _).st.ps.keep ((Below.refl _ _).grown hg13.out (by simp; omega) (fun k hk => by have := hrow k hk; omega)))
                            have E13 := hidX (own_grown (SA.out _).st.ow hg13.out (SA.out _).acs.rty (by decide))
                            have T13 := hidX ((SA.out _).pts.grown hg13.out (SA.out _).acs.rty (by decide) (by decide))
                            have B13 := hidX (box_grown (SA.out _).bq hg13.out (SA.out _).acs.rty (by decide))
                            have R13 := hidX (box_grown (SA.out _).rq hg13.out (SA.out _).acs.rty (by decide))
                            have M13 := hidX ((SA.out _).mo.grown hg13.out hrow)
                            have X13 := hidX (show ExS w13 w.heap.size pb src a c l2' (.map (some mb)) cm rv lv s2 ea12 ec12 from ⟨P13.out, E13.out, hpb, M13.out.rest.size⟩)
                            have f4 := cell_of B13.out (j := 4) rfl
                            have z4 := froz_of B13.out 4
                            have s13 : w5.heap.size < w13.heap.size := lt_of_block' B13.out
                            refine tk 6 hHeld ?_
                            (try simp only [pA, pZ, pS])
                            refine wpAnyH_ready (rs := [7]) (by kernel_rfl) (by simp) ?_
                            refine AllReadyH.cons (o := ?o46) ?ho46 (fun K hK => ?step46) AllReadyH.nil
                            case ho46 => (simp only [List.getElem?_toArray, List.getElem?_cons_succ, List.getElem?_cons_zero]; rfl)
                            go_simp
                            refine hK.out _ _ ?hS47 (fun hHeld' => ?rest47)
                            case hS47 => ((try dsimp only); all_goals trivial)
                            clear hK K
                            (try dsimp only)
                            clear hHeld
                            have hHeld := hHeld'
                            clear hHeld'
                            refine wpAnyH_done (by kernel_rfl) ?_ _
                            refine NoPanic.normal ?_
                            clear hHeld
                            refine lift_setW B13.out ?_
                            intro w14 hq14 ht14
                            have S14 := hidX (show ActS w w14 pb w5.heap.size w.heap.size src a c (.map (some mb)) cm rv lv (mkS (ptW nm)) sl.num pa pc MP l2' s2 ea12 ec12 a13 c13 (MA ++ [(v, .slice va v.args.length vc)]) from ⟨M13.out.turn ht14 (by omega), X13.out.turned ht14 (by omega) B13.out (fun _ k hk => box_ne X13.out.ow B13.out hk), T13.out.turned ht14 B13.out (by decide) (by decide), N13.out.turned ht14 B13.out (by decide) (by decide), by simpa [ruL] using hq14, (ht14.block w.heap.size (by omega)).trans R13.out, hk2, h62⟩)
                            have HL14 : Hid (lenP w5.heap.size 4 w14 = MA.length + 1) := show _ = _ from by unfold lenP; rw [cell_of S14.out.bq (j := 4) rfl]; simp [sliceLen]
                            clear hq14 ht14 f4 z4
                            go_wp2_with fail
                            go_roundw
                            case rel => exact ⟨n, l2', s2, ea12, ec12, a13, c13, MA ++ [(v, .slice va v.args.length vc)], by simp; omega, S14.out, by simpa using PL2.out⟩
                            case measure =>
                              change 8 - lenP w5.heap.size 4 w14 < 8 - lenP w5.heap.size 4 wr
                              rw [HL14.out, HML.out]
                              omega
                          case step38 =>
                            go_simp
                            (go_at_call 95; refine HCM.out.mono ?_; rintro e w12 ⟨hm12, ⟨va, vc, rfl, ho12⟩, ea12, ec12, hs12, hr12⟩; unfold acL; have s12 := hm12.rest.size; simp at s12; have hq12 := (hm12.block w5.heap.size (by simp; omega) (by omega) (fun e => box_ne S11.out.st.ow S11.out.bq e rfl)).trans S11.out.bq; have g4 := cell_of hq12 (j := 4) rfl)
                            refine hK.out _ _ ?hS48 (fun hHeld' => ?rest48)
                            case hS48 => ((try dsimp only); all_goals trivial)
                            clear hK K
                            (try dsimp only)
                            clear hHeld
                            have hHeld := hHeld'
                            clear hHeld'
                            refine wpAnyH_ready (rs := [1, 4]) (by kernel_rfl) (by simp) ?_
                            refine AllReadyH.cons (o := ?o49) ?ho49 (fun K hK => ?step49) (AllReadyH.cons (o := ?o50) ?ho50 (fun K hK => ?step50) AllReadyH.nil)
                            case ho49 => (simp only [List.getElem?_toArray, List.getElem?_cons_succ, List.getElem?_cons_zero]; rfl)
                            case ho50 => (simp only [List.getElem?_toArray, List.getElem?_cons_succ, List.getElem?_cons_zero]; rfl)
                            case step49 =>
                              go_simp
                              refine hK.out _ _ ?hS51 (fun hHeld' => ?rest51)
                              case hS51 => ((try dsimp only); all_goals trivial)
                              clear hK K
                              (try simp only [pA, pZ, pS])
                              clear hHeld
                              have hHeld := hHeld'
                              clear hHeld'
                              refine wpAnyH_ready (rs := [4]) (by kernel_rfl) (by simp) ?_
                              refine AllReadyH.cons (o := ?o52) ?ho52 (fun K hK => ?step52) AllReadyH.nil
                              case ho52 => (simp only [List.getElem?_toArray, List.getElem?_cons_succ, List.getElem?_cons_zero]; rfl)
                              go_simp
                              have HA12 := hidX (fun o' => (Below.refl _ _).alloc (Nat.le_refl _) o' : ∀ o', Below w12.heap.size w12 (w12.alloc o')); have g4a : ∀ o', (w12.alloc o').cell? ⟨w5.heap.size, 4, none⟩ = some (.slice aa MA.length ac) := fun o' => cell_below (HA12.out o') g4
                              refine hK.out _ _ ?hS53 (fun hHeld' => ?rest53)
                              case hS53 => ((try dsimp only); all_goals trivial)
                              clear hK K
                              (try simp only [pA, pZ, pS])
                              clear hHeld
                              have hHeld := hHeld'
                              clear hHeld'
                              have S12 := hidX ((S11.out.below ((Below.refl _ _).drew)).mkx hm12 hs12 (by omega) (by omega) hk2 h62)
                              refine wpAnyH_ready (rs := [5]) (by kernel_rfl) (by simp) ?_
                              refine AllReadyH.cons (o := ?o54) ?ho54 (fun K hK => ?step54) AllReadyH.nil
                              case ho54 => (simp only [List.getElem?_toArray, List.getElem?_cons_succ, List.getElem?_cons_zero]; rfl)
                              (refine step_append_any (by rfl) (.tmp 53) (.tmp 56) 37 (by rfl) w.heap.size 73 _ 4 56 Tryz.underlying37 infoAF1 (by rfl) (by omega) _ MA.length _ (by rfl) (S12.out.below (HA12.out _)).acs.row (some ⟨_, 0, none⟩) 1 1 (by rfl) (acL v (.slice va v.args.length vc)) (by rfl) (fun e => by cases e) (news_new _ _ _ _ (by simp)) (acL_one _ _ _ _) (by unfold maxLen; omega) (by omega) (by have := S12.out.mo.rest.size; simp; omega) ?_; intro a13 c13 w13 ho13 hg13 hl13)
                              refine hK.out _ _ ?hS55 (fun hHeld' => ?rest55)
                              case hS55 => ((try dsimp only); all_goals trivial)
                              clear hK K
                              (try simp only [pA, pZ, pS])
                              clear hHeld
                              have hHeld := hHeld'
                              clear hHeld'
                              have hrow : ∀ k, (Value.slice aa MA.length ac).ownBlock = some k → w.heap.size ≤ k := fun k hk => (S12.out.acs.rlt k hk).1
                              have SA := hidX (fun o' => S12.out.below (HA12.out o'))
                              have N13 := hidX (NRow.more (S11.out.below ((Below.refl _ _).drew)).acs (SA.out _).acs ho12 (Nat.le_refl _) (by simp; omega) ⟨va, vc, rfl⟩ (own_bel ho12 (HA12.out _)) hg13.out ho13.out (by decide))
                              have P13 := hidX ((SA.out _).st.ps.keep ((Below.refl _ _).grown hg13.out (by simp; omega) (fun k hk => by have := hrow k hk; omega)))
                              have E13 := hidX (own_grown (SA.out _).st.ow hg13.out (SA.out _).acs.rty (by decide))
                              have T13 := hidX ((SA.out _).pts.grown hg13.out (SA.out _).acs.rty (by decide) (by decide))
                              have B13 := hidX (box_grown (SA.out _).bq hg13.out (SA.out _).acs.rty (by decide))
                              have R13 := hidX (box_grown (SA.out _).rq hg13.out (SA.out _).acs.rty (by decide))
                              have M13 := hidX ((SA.out _).mo.grown hg13.out hrow)
                              have X13 := hidX (show ExS w13 w.heap.size pb src a c l2' (.map (some mb)) cm rv lv s2 ea12 ec12 from ⟨P13.out, E13.out, hpb, M13.out.rest.size⟩)
                              have f4 := cell_of B13.out (j := 4) rfl
                              have z4 := froz_of B13.out 4
                              have s13 : w5.heap.size < w13.heap.size := lt_of_block' B13.out
                              refine tk 6 hHeld ?_
                              (try simp only [pA, pZ, pS])
                              refine wpAnyH_ready (rs := [7]) (by kernel_rfl) (by simp) ?_
                              refine AllReadyH.cons (o := ?o56) ?ho56 (fun K hK => ?step56) AllReadyH.nil
                              case ho56 => (simp only [List.getElem?_toArray, List.getElem?_cons_succ, List.getElem?_cons_zero]; rfl)
                              go_simp
                              refine hK.out _ _ ?hS57 (fun hHeld' => ?rest57)
                              case hS57 => ((try dsimp only); all_goals trivial)
                              clear hK K
                              (try dsimp only)
                              clear hHeld
                              have hHeld := hHeld'
                              clear hHeld'
                              refine wpAnyH_done (by kernel_rfl) ?_ _
                              refine NoPanic.normal ?_
                              clear hHeld
                              refine lift_setW B13.out ?_
                              intro w14 hq14 ht14
                              have S14 := hidX (show ActS w w14 pb w5.heap.size w.heap.size src a c (.map (some mb)) cm rv lv (mkS (ptW nm)) sl.num pa pc MP l2' s2 ea12 ec12 a13 c13 (MA ++ [(v, .slice va v.args.length vc)]) from ⟨M13.out.turn ht14 (by omega), X13.out.turned ht14 (by omega) B13.out (fun _ k hk => box_ne X13.out.ow B13.out hk), T13.out.turned ht14 B13.out (by decide) (by decide), N13.out.turned ht14 B13.out (by decide) (by decide), by simpa [ruL] using hq14, (ht14.block w.heap.size (by omega)).trans R13.out, hk2, h62⟩)
                              have HL14 : Hid (lenP w5.heap.size 4 w14 = MA.length + 1) := show _ = _ from by unfold lenP; rw [cell_of S14.out.bq (j := 4) rfl]; simp [sliceLen]
                              clear hq14 ht14 f4 z4
                              go_wp2_with fail
                              go_roundw
                              case rel => exact ⟨n, l2', s2, ea12, ec12, a13, c13, MA ++ [(v, .slice va v.args.length vc)], by simp; omega, S14.out, by simpa using PL2.out⟩
                              case measure =>
                                change 8 - lenP w5.heap.size 4 w14 < 8 - lenP w5.heap.size 4 wr
                                rw [HL14.out, HML.out]
                                omega
                            case step50 =>
                              go_simp
                              have HA12 := hidX (fun o' => (Below.refl _ _).alloc (Nat.le_refl _) o' : ∀ o', Below w12.heap.size w12 (w12.alloc o')); have g4a : ∀ o', (w12.alloc o').cell? ⟨w5.heap.size, 4, none⟩ = some (.slice aa MA.length ac) := fun o' => cell_below (HA12.out o') g4
                              refine hK.out _ _ ?hS58 (fun hHeld' => ?rest58)
                              case hS58 => ((try dsimp only); all_goals trivial)
                              clear hK K
                              (try simp only [pA, pZ, pS])
                              clear hHeld
                              have hHeld := hHeld'
                              clear hHeld'
                              refine wpAnyH_ready (rs := [1]) (by kernel_rfl) (by simp) ?_
                              refine AllReadyH.cons (o := ?o59) ?ho59 (fun K hK => ?step59) AllReadyH.nil
                              case ho59 => (simp only [List.getElem?_toArray, List.getElem?_cons_succ, List.getElem?_cons_zero]; rfl)
                              go_simp
                              refine hK.out _ _ ?hS60 (fun hHeld' => ?rest60)
                              case hS60 => ((try dsimp only); all_goals trivial)
                              clear hK K
                              (try simp only [pA, pZ, pS])
                              clear hHeld
                              have hHeld := hHeld'
                              clear hHeld'
                              have S12 := hidX ((S11.out.below ((Below.refl _ _).drew)).mkx hm12 hs12 (by omega) (by omega) hk2 h62)
                              refine wpAnyH_ready (rs := [5]) (by kernel_rfl) (by simp) ?_
                              refine AllReadyH.cons (o := ?o61) ?ho61 (fun K hK => ?step61) AllReadyH.nil
                              case ho61 => (simp only [List.getElem?_toArray, List.getElem?_cons_succ, List.getElem?_cons_zero]; rfl)
                              (refine step_append_any (by rfl) (.tmp 53) (.tmp 56) 37 (by rfl) w.heap.size 73 _ 4 56 Tryz.underlying37 infoAF1 (by rfl) (by omega) _ MA.length _ (by rfl) (S12.out.below (HA12.out _)).acs.row (some ⟨_, 0, none⟩) 1 1 (by rfl) (acL v (.slice va v.args.length vc)) (by rfl) (fun e => by cases e) (news_new _ _ _ _ (by simp)) (acL_one _ _ _ _) (by unfold maxLen; omega) (by omega) (by have := S12.out.mo.rest.size; simp; omega) ?_; intro a13 c13 w13 ho13 hg13 hl13)
                              refine hK.out _ _ ?hS62 (fun hHeld' => ?rest62)
                              case hS62 => ((try dsimp only); all_goals trivial)
                              clear hK K
                              (try simp only [pA, pZ, pS])
                              clear hHeld
                              have hHeld := hHeld'
                              clear hHeld'
                              have hrow : ∀ k, (Value.slice aa MA.length ac).ownBlock = some k → w.heap.size ≤ k := fun k hk => (S12.out.acs.rlt k hk).1
                              have SA := hidX (fun o' => S12.out.below (HA12.out o'))
                              have N13 := hidX (NRow.more (S11.out.below ((Below.refl _ _).drew)).acs (SA.out _).acs ho12 (Nat.le_refl _) (by simp; omega) ⟨va, vc, rfl⟩ (own_bel ho12 (HA12.out _)) hg13.out ho13.out (by decide))
                              have P13 := hidX ((SA.out _).st.ps.keep ((Below.refl _ _).grown hg13.out (by simp; omega) (fun k hk => by have := hrow k hk; omega)))
                              have E13 := hidX (own_grown (SA.out _).st.ow hg13.out (SA.out _).acs.rty (by decide))
                              have T13 := hidX ((SA.out _).pts.grown hg13.out (SA.out _).acs.rty (by decide) (by decide))
                              have B13 := hidX (box_grown (SA.out _).bq hg13.out (SA.out _).acs.rty (by decide))
                              have R13 := hidX (box_grown (SA.out _).rq hg13.out (SA.out _).acs.rty (by decide))
                              have M13 := hidX ((SA.out _).mo.grown hg13.out hrow)
                              have X13 := hidX (show ExS w13 w.heap.size pb src a c l2' (.map (some mb)) cm rv lv s2 ea12 ec12 from ⟨P13.out, E13.out, hpb, M13.out.rest.size⟩)
                              have f4 := cell_of B13.out (j := 4) rfl
                              have z4 := froz_of B13.out 4
                              have s13 : w5.heap.size < w13.heap.size := lt_of_block' B13.out
                              refine tk 6 hHeld ?_
                              (try simp only [pA, pZ, pS])
                              refine wpAnyH_ready (rs := [7]) (by kernel_rfl) (by simp) ?_
                              refine AllReadyH.cons (o := ?o63) ?ho63 (fun K hK => ?step63) AllReadyH.nil
                              case ho63 => (simp only [List.getElem?_toArray, List.getElem?_cons_succ, List.getElem?_cons_zero]; rfl)
                              go_simp
                              refine hK.out _ _ ?hS64 (fun hHeld' => ?rest64)
                              case hS64 => ((try dsimp only); all_goals trivial)
                              clear hK K
                              (try dsimp only)
                              clear hHeld
                              have hHeld := hHeld'
                              clear hHeld'
                              refine wpAnyH_done (by kernel_rfl) ?_ _
                              refine NoPanic.normal ?_
                              clear hHeld
                              refine lift_setW B13.out ?_
                              intro w14 hq14 ht14
                              have S14 := hidX (show ActS w w14 pb w5.heap.size w.heap.size src a c (.map (some mb)) cm rv lv (mkS (ptW nm)) sl.num pa pc MP l2' s2 ea12 ec12 a13 c13 (MA ++ [(v, .slice va v.args.length vc)]) from ⟨M13.out.turn ht14 (by omega), X13.out.turned ht14 (by omega) B13.out (fun _ k hk => box_ne X13.out.ow B13.out hk), T13.out.turned ht14 B13.out (by decide) (by decide), N13.out.turned ht14 B13.out (by decide) (by decide), by simpa [ruL] using hq14, (ht14.block w.heap.size (by omega)).trans R13.out, hk2, h62⟩)
                              have HL14 : Hid (lenP w5.heap.size 4 w14 = MA.length + 1) := show _ = _ from by unfold lenP; rw [cell_of S14.out.bq (j := 4) rfl]; simp [sliceLen]
                              clear hq14 ht14 f4 z4
                              go_wp2_with fail
                              go_roundw
                              case rel => exact ⟨n, l2', s2, ea12, ec12, a13, c13, MA ++ [(v, .slice va v.args.length vc)], by simp; omega, S14.out, by simpa using PL2.out⟩
                              case measure =>
                                change 8 - lenP w5.heap.size 4 w14 < 8 - lenP w5.heap.size 4 wr
                                rw [HL14.out, HML.out]
                                omega
              case rest =>
                obtain ⟨l6, s', ea', ec', aa, ac, MA, hst, hpm⟩ := hcut
                obtain ⟨w30, rfl⟩ : ∃ v, v = wc := ⟨wc, rfl⟩
                have ST := hidX hst
                have HR5 : Hid (pRule l = andP (takeW 41 l6) fun _ l7 => .ok (⟨mkS (ptW nm), sl.num, MP.map Prod.fst, s'.1, MA.map Prod.fst⟩, l7)) := show _ = _ from by rw [HR4.out, hpm]; rfl
                have HTK := hidX (take_any w30 pb src a c l6 _ 41 hst.st.ps)
                clear hst hpm S20 HR4
                cases hc : takeW 41 l6 with
                | error f =>
                  have HT : Hid (pRule l = .error f) := show _ = _ from by rw [HR5.out, hc]; rfl
                  rw [hc] at HTK
                  go_wp2_with (first | (go_at_call 85; refine HTK.out.mono ?_; rintro e w31 ⟨hm31, rfl⟩; unfold fltE) | fail)
                  exact ⟨rfl, RuPost.err HT.out (ST.out.mo.trans hm31)⟩
                | ok p =>
                  obtain ⟨y, l7⟩ := p
                  have HT : Hid (pRule l = .ok (⟨mkS (ptW nm), sl.num, MP.map Prod.fst, s'.1, MA.map Prod.fst⟩, l7)) := show _ = _ from by rw [HR5.out, hc]; rfl
                  rw [hc] at HTK
                  clear hc HR5
                  go_upto_region 15 with (first | (go_at_call 85; refine HTK.out.mono ?_; rintro e w31 ⟨hm31, hw31, hp31⟩; replace hw31 : e = .returned (pwA y) := hw31; subst hw31; unfold pwA) | fail)
                  have S31 := hidX (ST.out.mko hm31 hp31 (by omega) (by omega))
                  have c6 := S31.out.st.ps.cell (j := 4) rfl
                  have d3 := cell_of S31.out.bq (j := 3) rfl
                  have f3 := froz_of S31.out.bq 3
                  clear hm31 hp31 HTK ST
                  go_upto_region 16 with fail
                  refine lift_setW S31.out.bq ?_
                  intro w32 hq32 ht32
                  have OB31 : ∀ k, obE s' ea' ec' = some k → k ≠ w5.heap.size := fun k hk => box_ne S31.out.st.ow S31.out.bq hk
                  have hbq := (show w32.heap[w5.heap.size]? = some (.cells (ruL (mkS (ptW nm)) sl.num (.slice pa MP.length pc) (.slice ea' s'.1.length ec') (.slice aa MA.length ac)).toArray 39 (0, 0)) from by simpa [ruL] using hq32)
                  have hrq := (ht32.block w.heap.size (by omega)).trans S31.out.rq
                  have P32 := hidX (S31.out.st.turned ht32 (by omega) S31.out.bq (fun _ => OB31))
                  have N32 := hidX (S31.out.pts.turned ht32 S31.out.bq (by decide) (by decide))
                  have A32 := hidX (S31.out.acs.turned ht32 S31.out.bq (by decide) (by decide))
                  have M32 := hidX (S31.out.mo.turn ht32 (by omega))
                  have OR : ∀ k, obE s' ea' ec' = some k → k ≠ w.heap.size := fun k hk => box_ne P32.out.ow hrq hk
                  clear c6 d3 f3 hq32 ht32 OB31
                  go_wp2_with (first | (refine wpList_load_blk (by rfl) 39 (.tmp 4) (by rfl) w5.heap.size (ruL (mkS (ptW nm)) sl.num (.slice pa MP.length pc) (.slice ea' s'.1.length ec') (.slice aa MA.length ac)) (by rfl) 39 (0, 0) hbq _ Tryz.underlying39 rfl infoRuP ?_) | (refine wpList_store_blk (by rfl) 39 (.tmp 2) (.tmp 66) (by rfl) w.heap.size (ruL (mkS (ptW nm)) sl.num (.slice pa MP.length pc) (.slice ea' s'.1.length ec') (.slice aa MA.length ac)) (by rfl) (by rfl) _ 39 hrq (by rfl) infoRuP (ruL_one _ _ _ _ _ _ _ _ _ _ _) ?_; intro w33 hb33 ht33) | fail)
                  have hld := run_loadVar_mid (P := Tryz.prog) w33 w.heap.size 0 39 (ruL (mkS (ptW nm)) sl.num (.slice pa MP.length pc) (.slice ea' s'.1.length ec') (.slice aa MA.length ac)) _ (range_blk hb33.out) Tryz.underlying39 rfl infoRuP
                  (try go_frame)
                  refine bodyPost_ret (v := .agg (ruL (mkS (ptW nm)) sl.num (.slice pa MP.length pc) (.slice ea' s'.1.length ec') (.slice aa MA.length ac)).toArray) (by simp [results, Tryz.results48, asAddr, hld]) rfl ⟨M32.out.turn ht33.out (Nat.le_refl _), ?_⟩
                  rw [HT.out]
                  have P33 := P32.out.turned ht33.out (by omega) hrq (fun _ => OR)
                  exact ⟨⟨⟨mkS (ptW nm), sl.num, MP.map Prod.fst, s'.1, MA.map Prod.fst⟩, pa, pc, MP, ea', ec', aa, ac, MA⟩, rfl, rfl, ⟨N32.out.turned ht33.out hrq (by decide) (by decide), P33.ow, A32.out.turned ht33.out hrq (by decide) (by decide), rfl, rfl⟩, _, _, P33.ps⟩
    · have HT : Hid (pRule l = .error (3, x.pos)) := show _ = _ from by unfold pRule; rw [hr, andP_okX, if_neg hk]
      rw [decide_eq_false hk] at hbq
      replace hbq : ((mkS (ptW x)).toList == [114, 117, 108, 101]) = false := hbq
      clear hk hr
      go_wp2_with (first | (refine wpList_load_blk (by rfl) 131 (.tmp 3) (by rfl) w2.heap.size L (by rfl) 131 (0, 0) hq3 _ Tryz.underlying131 rfl hLl.1 ?_) | (go_at_call 93; refine (fault_L HLX 3 _).mono ?_; rintro e w4 ⟨rfl, hb4⟩) | fail)
      exact ⟨rfl, RuPost.err HT.out (M3.out.trans (MkO.of_below hb4))⟩
end Go.Proofs.YtjjjagepnnbebaaGreatDoor

namespace Go.Proofs.YtjjjagepnnbebaaGreatDoor
open Go.RowKit Go.Maps
attribute [local go_sem ↓] Go.wp_at_zero Go.wp_at_succ

theorem infoRF : (Tryz.prog.info? 39).map (fun i => (i.zero, i.size, i.bytes)) = some (some (.agg #[.string ⟨#[]⟩, .int .i64 0, .slice none 0 0, .slice none 0 0, .slice none 0 0]), 5, 96) := by kernel_rfl
/-- A block of a rule's. -/
def InX (x : RX) (g : Nat) : Prop := x.pv.ownBlock = some g ∨ (∃ y ∈ x.MP, y.2.ownBlock = some g) ∨ x.ev.ownBlock = some g ∨ x.av.ownBlock = some g ∨ ∃ y ∈ x.MA, y.2.ownBlock = some g
theorem ROwn.blk {w : World} {B : Nat} {x : RX} (h : ROwn w B x) {g : Nat} (hg : InX x g) : B ≤ g ∧ g < w.heap.size := by
  rcases hg with hg | ⟨y, hy, hg⟩ | hg | hg | ⟨y, hy, hg⟩
  · exact h.pts.rlt g hg
  · exact h.pts.vlt y hy g hg
  · exact h.exs.lt g hg
  · exact h.acs.rlt g hg
  · exact h.acs.vlt y hy g hg
theorem ROwn.typ {w : World} {B : Nat} {x : RX} (h : ROwn w B x) {g : Nat} (hg : InX x g) : ∃ cs t, w.heap[g]? = some (.cells cs t (0, 0)) ∧ t ≠ 39 := by
  rcases hg with hg | ⟨y, hy, hg⟩ | hg | hg | ⟨y, hy, hg⟩
  · obtain ⟨cs, e⟩ := h.pts.rty g hg; exact ⟨cs, _, e, by decide⟩
  · obtain ⟨cs, e⟩ := h.pts.vty y hy g hg; exact ⟨cs, _, e, by decide⟩
  · obtain ⟨cs, e⟩ := own_type h.exs hg; exact ⟨cs, _, e, by decide⟩
  · obtain ⟨cs, e⟩ := h.acs.rty g hg; exact ⟨cs, _, e, by decide⟩
  · obtain ⟨cs, e⟩ := h.acs.vty y hy g hg; exact ⟨cs, _, e, by decide⟩
theorem ROwn.keep {w w' : World} {B : Nat} {x : RX} (h : ROwn w B x) (hk : ∀ g, InX x g → w'.heap[g]? = w.heap[g]?) : ROwn w' B x :=
  ⟨h.pts.keep (fun g hg => hk g (.inl hg)) (fun y hy g hg => hk g (.inr (.inl ⟨y, hy, hg⟩))), owns_of_block h.exs (fun g hg => hk g (.inr (.inr (.inl hg)))), h.acs.keep (fun g hg => hk g (.inr (.inr (.inr (.inl hg))))) (fun y hy g hg => hk g (.inr (.inr (.inr (.inr ⟨y, hy, hg⟩))))), h.mp, h.ma⟩
theorem ROwn.base {w : World} {B B' : Nat} {x : RX} (h : ROwn w B x) (hb : B' ≤ B) : ROwn w B' x := ⟨h.pts.base hb, owns_base h.exs hb, h.acs.base hb, h.mp, h.ma⟩
theorem ROwn.below {w w' : World} {B : Nat} {x : RX} (h : ROwn w B x) (hb : Below w.heap.size w w') : ROwn w' B x := h.keep (fun g hg => hb.block g (h.blk hg).2)
theorem ROwn.mko {w w' : World} {B pb : Nat} {x : RX} (h : ROwn w B x) (hm : MkO (some pb) w w') (hp : pb < B) : ROwn w' B x := h.keep (fun g hg => hm.block g (h.blk hg).2 (fun e => by injection e with e; have := (h.blk hg).1; omega))
theorem ROwn.grown {w w' : World} {B : Nat} {x : RX} {row : Option Nat} (h : ROwn w B x) (hg : w.grownBy w' row) (ht : ∀ k, row = some k → ∃ cs, w.heap[k]? = some (.cells cs 39 (0, 0))) : ROwn w' B x :=
  h.keep (fun g hx => hg.block g (h.blk hx).2 (fun e => by
    obtain ⟨c1, t1, e1, n1⟩ := h.typ hx
    obtain ⟨c2, e2⟩ := ht g e.symm
    exact ty_ne e1 e2 n1))
/-- A row of rules that is owned, each with rows of its own. -/
structure RRow (w : World) (B : Nat) (a : Option Addr) (c : Nat) (M : List RX) : Prop where
  row : w.ownsRow B 39 5 (.slice a M.length c) M.length (M.flatMap RX.cells)
  all : ∀ x ∈ M, ROwn w B x
  pair : M.Pairwise fun x y => ∀ g, InX x g → ¬ InX y g
theorem RRow.nil (w : World) (B : Nat) : RRow w B none 0 [] := ⟨World.ownsRow_nil _ _ _ _, fun x hx => by simp at hx, List.Pairwise.nil⟩
theorem RRow.mko {w w' : World} {B pb : Nat} {a : Option Addr} {c : Nat} {M : List RX} (h : RRow w B a c M) (hm : MkO (some pb) w w') (hp : pb < B) : RRow w' B a c M := ⟨own_mko h.row hm hp, fun x hx => (h.all x hx).mko hm hp, h.pair⟩
theorem RRow.below {w w' : World} {B : Nat} {a : Option Addr} {c : Nat} {M : List RX} (h : RRow w B a c M) (hb : Below w.heap.size w w') : RRow w' B a c M := ⟨own_bel h.row hb, fun x hx => (h.all x hx).below hb, h.pair⟩
/-- A rule whose rows are newer stands apart. -/
theorem RRow.newer {w w' : World} {B C : Nat} {a : Option Addr} {c : Nat} {M : List RX} {v : RX} (h : RRow w B a c M) (hC : w.heap.size ≤ C) (hv : ROwn w' C v) : (M ++ [v]).Pairwise fun x y => ∀ g, InX x g → ¬ InX y g :=
  List.pairwise_append.2 ⟨h.pair, by simp, fun x hx y hy g hg hg' => by
    simp at hy
    subst hy
    have h3 := ((h.all x hx).blk hg).2
    have h4 := (hv.blk hg').1
    omega⟩
theorem RX.cells_one (x : RX) : ∀ v ∈ x.cells, v.oneCell' = true := ruL_one _ _ _ _ _ _ _ _ _ _ _
def lenR (pb : Nat) (w : World) : Nat := match w.cell? ⟨pb, 4, none⟩ with
  | some v => sliceLen v
  | none => 0
/-- What all rules leave. -/
def SrcPost (w : World) (pb : Nat) (src : Bs) (a : Option Addr) (c : Nat) (am cm lv : Value) (r : Px (List Ru)) (e : Ending) (w' : World) : Prop := MkO (some pb) w w' ∧ match r with
  | .error f => e = fltE f
  | .ok (vs, l) => e = .returned (.tuple #[]) ∧ ∃ ra rc M ev bv, M.map RX.ru = vs ∧ RRow w' w.heap.size ra rc M ∧ PSt w' pb src a c l (RL am cm (.slice ra M.length rc) lv ev bv)
theorem SrcPost.err {w w' : World} {pb : Nat} {src : Bs} {a : Option Addr} {c : Nat} {am cm lv : Value} {r : Px (List Ru)} {f : Flt} (hr : r = .error f) (hm : MkO (some pb) w w') : SrcPost w pb src a c am cm lv r (fltE f) w' := by
  subst hr
  exact ⟨hm, rfl⟩
set_option maxRecDepth 100000 in
set_option maxHeartbeats 6400000 in
theorem source_any (w : World) (pb mb : Nat) (src : Bs) (a : Option Addr) (c : Nat) (l : List Wd) (cm lv ev0 bv0 : Value) (h : PSt w pb src a c l (RL (.map (some mb)) cm (.slice none 0 0) lv ev0 bv0)) (hM : FnMap w pb mb actF) (hne : pb < mb) : Calls Tryz.prog 17 #[.pointer (some ⟨pb, 0, none⟩)] w (SrcPost w pb src a c (.map (some mb)) cm lv (pRules l)) := by
  have HP := hidX h
  have HM := hidX hM
  have hpb := h.lt
  clear h hM
  go_enter Tryz.func17, Tryz.ntmps17
  go_wp2_with fail
  go_loopw [2] (fun _ wr => ∃ (ra : Option Addr) (rc n : Nat) (M : List RX) (l' : List Wd) (ev bv : Value), M.length + n = 16 ∧ RRow wr w.heap.size ra rc M ∧ PSt wr pb src a c l' (RL (.map (some mb)) cm (.slice ra M.length rc) lv ev bv) ∧ MkO (some pb) w wr ∧ pRules l = preL (M.map RX.ru) (pMany 0 pRule n l')) (fun _ wr => 16 - lenR pb wr)
  case atStart => exact ⟨none, 0, 16, [], l, ev0, bv0, rfl, RRow.nil _ _, HP.out, MkO.refl _ _, by unfold pRules preL; cases pMany 0 pRule 16 l <;> rfl⟩
  case round =>
    obtain ⟨la, lc, n, M, l', ev, bv, hMn, hco, hps, hmk, hpl⟩ := hrel
    have OW := hidX hco
    have PS := hidX hps
    have MK := hidX hmk
    have PL := hidX hpl
    have HAH := hidX (ahead_any wr pb src a c l' _ 0 hps)
    have c5 : wr.cell? ⟨pb, 4, none⟩ = some (.slice la M.length lc) := hps.cell (j := 2) rfl
    have HML : Hid (lenR pb wr = M.length) := show _ = _ from by unfold lenR; rw [c5]; rfl
    clear hco hps hmk hpl
    cases hr : nextW l' with
    | error f =>
      have HT : Hid (pRules l = .error f) := show _ = _ from by rw [PL.out, pMany_err hr]; rfl
      rw [hr] at HAH
      go_wp2_with (first | (go_at_call 46; refine HAH.out.mono ?_; rintro e w2 ⟨hb2, rfl⟩; unfold fltE) | fail)
      exact ⟨rfl, SrcPost.err HT.out (MK.out.trans (MkO.of_below hb2))⟩
    | ok p =>
      obtain ⟨x, r⟩ := p
      rw [hr] at HAH
      by_cases hx : pkW x = 0
      · have HT : Hid (pRules l = .ok (M.map RX.ru, l')) := show _ = _ from by rw [PL.out, pMany_end hr hx]; simp [preL]
        replace HAH : Hid (Calls Tryz.prog 46 #[.pointer (some ⟨pb, 0, none⟩), .int .i32 0] wr fun e w' => Below wr.heap.size wr w' ∧ e = .returned (.bool true)) := by
          rw [← decide_eq_true hx]
          exact HAH
        clear hx
        go_wp2_with (first | (go_at_call 46; refine HAH.out.mono ?_; rintro e w2 ⟨hb2, rfl⟩) | fail)
        refine bodyPost_end (results_none rfl _ _ _) rfl ⟨MK.out.trans (MkO.of_below hb2), ?_⟩
        rw [HT.out]
        exact ⟨rfl, la, lc, M, ev, bv, rfl, OW.out.mko (MkO.of_below hb2) hpb, PS.out.below hb2⟩
      · replace HAH : Hid (Calls Tryz.prog 46 #[.pointer (some ⟨pb, 0, none⟩), .int .i32 0] wr fun e w' => Below wr.heap.size wr w' ∧ e = .returned (.bool false)) := by
          rw [← decide_eq_false hx]
          exact HAH
        have HOP := hidX (fun u (hu : Below wr.heap.size wr u) => open_any u pb src a c l' _ (M.length : Int) 16 (PS.out.below hu))
        have hnM : (M.length : Int) = ((16 - n : Nat) : Int) := by omega
        cases ho : openW (M.length : Int) 16 l' with
        | error f =>
          have HT : Hid (pRules l = .error f) := show _ = _ from by rw [PL.out, pMany_open (n := n) (m := 16) hr hx (by omega) (by rw [← hnM]; exact ho)]; rfl
          rw [ho] at HOP
          clear hx hnM ho
          go_upto_region 1 with (first | (go_at_call 46; refine HAH.out.mono ?_; rintro e w2 ⟨hb2, rfl⟩) | fail)
          have d5 := cell_below hb2 c5
          go_wp2_with (first | (go_at_call 47; refine (HOP.out _ hb2).mono ?_; rintro e w3 ⟨hm3, rfl⟩; unfold fltE) | fail)
          exact ⟨rfl, SrcPost.err HT.out ((MK.out.trans (MkO.of_below hb2)).trans hm3)⟩
        | ok p =>
          obtain ⟨y, l1⟩ := p
          obtain ⟨n, rfl, htk⟩ := pMany_more (n := n) (m := 16) hr (by omega) (by rw [← hnM]; exact ho)
          rw [ho] at HOP
          clear hnM ho
          have HCM := hidX (fun u (hu : PSt u pb src a c l1 (RL (.map (some mb)) cm (.slice la M.length lc) lv ev bv)) (hm : MkO (some pb) w u) => prule_any u pb mb src a c l1 _ _ _ _ _ hu (HM.out.mko hm (Nat.ne_of_lt hne)) hne)
          go_upto_region 1 with (first | (go_at_call 46; refine HAH.out.mono ?_; rintro e w2 ⟨hb2, rfl⟩) | fail)
          have d5 := cell_below hb2 c5
          go_upto_region 2 with (first | (go_at_call 47; refine (HOP.out _ hb2).mono ?_; rintro e w3 ⟨hm3, rfl, hp3⟩) | fail)
          have M3 := hidX ((MK.out.trans (MkO.of_below hb2)).trans hm3)
          have O3 := hidX ((OW.out.mko (MkO.of_below hb2) hpb).mko hm3 hpb)
          have P3 := hidX hp3
          have e5 : w3.cell? ⟨pb, 4, none⟩ = some (.slice la M.length lc) := hp3.cell (j := 2) rfl
          clear hm3 hp3 hb2 d5 c5 HOP HAH
          cases hc : pRule l1 with
          | error f =>
            have HT : Hid (pRules l = .error f) := show _ = _ from by rw [PL.out, pMany_bad hr hx htk hc]; rfl
            rw [hc] at HCM
            clear hx
            refine wp_region_pa (fun ch u => SrcPost w pb src a c (.map (some mb)) cm lv (pRules l) (.panicked ch) u) (fun _ _ _ h1 h2 => ⟨h1, h2⟩) ?_
            refine wp_region_held_drew (S := (fun _ => True)) (by kernel_rfl) ?_ (fun hHeld => ?_)
            · trivial
            refine tkP 0 hHeld ?_
            (try simp only [pA, pZ, pS])
            refine tkP 1 hHeld ?_
            (try simp only [pA, pZ, pS])
            refine tkP 2 hHeld ?_
            (try simp only [pA, pZ, pS])
            refine tkP 3 hHeld ?_
            (try simp only [pA, pZ, pS])
            refine tkP 5 hHeld ?_
            (try simp only [pA, pZ, pS])
            refine wpAnyH_ready (rs := [4, 6]) (by kernel_rfl) (by simp) ?_
            refine AllReadyH.cons (o := ?o1) ?ho1 (fun K hK => ?step1) (AllReadyH.cons (o := ?o2) ?ho2 (fun K hK => ?step2) AllReadyH.nil)
            case ho1 => (simp only [List.getElem?_toArray, List.getElem?_cons_succ, List.getElem?_cons_zero]; rfl)
            case ho2 => (simp only [List.getElem?_toArray, List.getElem?_cons_succ, List.getElem?_cons_zero]; rfl)
            case step1 =>
              go_simp
              refine hK.out _ _ ?hS3 (fun hHeld' => ?rest3)
              case hS3 => ((try dsimp only); all_goals trivial)
              clear hK K
              (try simp only [pA, pZ, pS])
              clear hHeld
              have hHeld := hHeld'
              clear hHeld'
              refine wpAnyH_ready (rs := [6]) (by kernel_rfl) (by simp) ?_
              refine AllReadyH.cons (o := ?o4) ?ho4 (fun K hK => ?step4) AllReadyH.nil
              case ho4 => (simp only [List.getElem?_toArray, List.getElem?_cons_succ, List.getElem?_cons_zero]; rfl)
              go_simp
              (go_at_call 48; refine (HCM.out _ (P3.out.below ((Below.refl _ _).drew)) M3.out.drew).mono ?_; rintro e w4 ⟨hm4, rfl⟩; unfold fltE)
              go_wp2_with fail
              exact ⟨rfl, SrcPost.err HT.out (M3.out.drew.trans hm4)⟩
            case step2 =>
              go_simp
              (go_at_call 48; refine (HCM.out _ (P3.out.below ((Below.refl _ _).drew)) M3.out.drew).mono ?_; rintro e w4 ⟨hm4, rfl⟩; unfold fltE)
              go_wp2_with fail
              exact ⟨rfl, SrcPost.err HT.out (M3.out.drew.trans hm4)⟩
          | ok q =>
            obtain ⟨v, l2⟩ := q
            have PL2 := hidX (PL.out.trans (pMany_step (M := M.map RX.ru) hr hx htk hc))
            rw [hc] at HCM
            clear hx
            refine wp_region_noPanic ?_
            refine wp_region_held_drew (S := (fun _ => True)) (by kernel_rfl) ?_ (fun hHeld => ?_)
            · (try dsimp only)
              all_goals trivial
            refine tk 0 hHeld ?_
            (try simp only [pA, pZ, pS])
            refine tk 1 hHeld ?_
            (try simp only [pA, pZ, pS])
            refine tk 2 hHeld ?_
            (try simp only [pA, pZ, pS])
            refine tk 3 hHeld ?_
            (try simp only [pA, pZ, pS])
            refine tk 5 hHeld ?_
            (try simp only [pA, pZ, pS])
            refine wpAnyH_ready (rs := [4, 6]) (by kernel_rfl) (by simp) ?_
            refine AllReadyH.cons (o := ?o5) ?ho5 (fun K hK => ?step5) (AllReadyH.cons (o := ?o6) ?ho6 (fun K hK => ?step6) AllReadyH.nil)
            case ho5 => (simp only [List.getElem?_toArray, List.getElem?_cons_succ, List.getElem?_cons_zero]; rfl)
            case ho6 => (simp only [List.getElem?_toArray, List.getElem?_cons_succ, List.getElem?_cons_zero]; rfl)
            case step5 =>
              go_simp
              refine hK.out _ _ ?hS7 (fun hHeld' => ?rest7)
              case hS7 => ((try dsimp only); all_goals trivial)
              clear hK K
              (try simp only [pA, pZ, pS])
              clear hHeld
              have hHeld := hHeld'
              clear hHeld'
              refine wpAnyH_ready (rs := [6]) (by kernel_rfl) (by simp) ?_
              refine AllReadyH.cons (o := ?o8) ?ho8 (fun K hK => ?step8) AllReadyH.nil
              case ho8 => (simp only [List.getElem?_toArray, List.getElem?_cons_succ, List.getElem?_cons_zero]; rfl)
              go_simp
              (go_at_call 48; refine (HCM.out _ (P3.out.below ((Below.refl _ _).drew)) M3.out.drew).mono ?_; rintro e w4 ⟨hm4, xr, hru, rfl, ho4, ev4, bv4, hp4⟩; replace hru := hidX hru; have e54 : w4.cell? ⟨pb, 4, none⟩ = some (.slice la M.length lc) := hp4.cell (j := 2) rfl)
              refine hK.out _ _ ?hS9 (fun hHeld' => ?rest9)
              case hS9 => ((try dsimp only); all_goals trivial)
              clear hK K
              (try simp only [pA, pZ, pS])
              clear hHeld
              have hHeld := hHeld'
              clear hHeld'
              refine wpAnyH_ready (rs := [7]) (by kernel_rfl) (by simp) ?_
              refine AllReadyH.cons (o := ?o10) ?ho10 (fun K hK => ?step10) AllReadyH.nil
              case ho10 => (simp only [List.getElem?_toArray, List.getElem?_cons_succ, List.getElem?_cons_zero]; rfl)
              go_simp
              have HA4 := hidX (fun o' => (Below.refl _ _).alloc (Nat.le_refl _) o' : ∀ o', Below w4.heap.size w4 (w4.alloc o')); have e54a : ∀ o', (w4.alloc o').cell? ⟨pb, 4, none⟩ = some (.slice la M.length lc) := fun o' => cell_below (HA4.out o') e54
              refine hK.out _ _ ?hS11 (fun hHeld' => ?rest11)
              case hS11 => ((try dsimp only); all_goals trivial)
              clear hK K
              (try simp only [pA, pZ, pS])
              clear hHeld
              have hHeld := hHeld'
              clear hHeld'
              have M4 := hidX (M3.out.drew.trans hm4)
              have hs4 := M4.out.rest.size
              have OA := hidX (fun o' => (((O3.out.mko (MkO.of_below ((Below.refl _ _).drew)) hpb).mko hm4 hpb).mko (MkO.of_below (HA4.out o')) hpb : RRow (w4.alloc o') w.heap.size la lc M))
              have NX := hidX (ho4.base (show w.heap.size ≤ _ by have := M3.out.rest.size; simpa using this))
              refine wpAnyH_ready (rs := [8]) (by kernel_rfl) (by simp) ?_
              refine AllReadyH.cons (o := ?o12) ?ho12 (fun K hK => ?step12) AllReadyH.nil
              case ho12 => (simp only [List.getElem?_toArray, List.getElem?_cons_succ, List.getElem?_cons_zero]; rfl)
              (refine step_append_any (by rfl) (.tmp 16) (.tmp 19) 24 (by rfl) w.heap.size 39 _ 5 96 Tryz.underlying24 infoRF (by rfl) (by omega) _ M.length _ (by rfl) (OA.out _).row (some ⟨_, 0, none⟩) 1 1 (by rfl) xr.cells (by rfl) (fun e => by cases e) (news_new _ _ _ _ (by simp)) xr.cells_one (by unfold maxLen; omega) (by omega) (by simp; omega) ?_; intro a8 c8 w8 ho8 hg8 hl8)
              refine hK.out _ _ ?hS13 (fun hHeld' => ?rest13)
              case hS13 => ((try dsimp only); all_goals trivial)
              clear hK K
              (try simp only [pA, pZ, pS])
              clear hHeld
              have hHeld := hHeld'
              clear hHeld'
              have hrow : ∀ k, (Value.slice la M.length lc).ownBlock = some k → w.heap.size ≤ k := fun k hk => (O3.out.row.lt k hk).1
              have TY := hidX (fun o' g hg => own_type (OA.out o').row (k := g) hg)
              have M8 := hidX ((M4.out.trans (MkO.of_below (HA4.out _))).grown hg8.out hrow)
              have P8 := hidX ((hp4.below (HA4.out _)).keep ((Below.refl _ _).grown hg8.out (by simp; omega) (fun k hk => by have := hrow k hk; omega)))
              have C8 := hidX (show RRow w8 w.heap.size a8 c8 (M ++ [xr]) from ⟨by simpa using ho8.out, fun x hx => by
                rcases List.mem_append.1 hx with hx | hx
                · exact ((OA.out _).all x hx).grown hg8.out (TY.out _)
                · simp at hx
                  subst hx
                  exact (NX.out.mko (MkO.of_below (HA4.out _)) hpb).grown hg8.out (TY.out _), O3.out.newer (Nat.le_refl _) ho4⟩)
              have f5 : w8.cell? ⟨pb, 4, none⟩ = some (.slice la M.length lc) := P8.out.cell (j := 2) rfl
              have g5 : w8.frozen? ⟨pb, 4, none⟩ = false := by
                obtain ⟨k', hs'⟩ := P8.out.sc
                simp [World.frozen?, hs'.blk]
              refine tk 9 hHeld ?_
              (try simp only [pA, pZ, pS])
              refine tk 10 hHeld ?_
              (try simp only [pA, pZ, pS])
              refine wpAnyH_ready (rs := [11]) (by kernel_rfl) (by simp) ?_
              refine AllReadyH.cons (o := ?o14) ?ho14 (fun K hK => ?step14) AllReadyH.nil
              case ho14 => (simp only [List.getElem?_toArray, List.getElem?_cons_succ, List.getElem?_cons_zero]; rfl)
              go_simp
              refine hK.out _ _ ?hS15 (fun hHeld' => ?rest15)
              case hS15 => ((try dsimp only); all_goals trivial)
              clear hK K
              (try dsimp only)
              clear hHeld
              have hHeld := hHeld'
              clear hHeld'
              refine wpAnyH_done (by kernel_rfl) ?_ _
              refine NoPanic.normal ?_
              have P9 := hidX (P8.out.cellSet (j := 2) (v := .slice a8 (M.length + 1) c8) rfl)
              have M9 := hidX (MkO.set (w := w8) (g := pb) (o := 4) (.slice a8 (M.length + 1) c8))
              have C9 := hidX (C8.out.mko M9.out hpb)
              clear hHeld
              go_wp2_with fail
              go_roundw
              case rel => exact ⟨a8, c8, n, M ++ [xr], l2, ev4, bv4, by simp; omega, C9.out, by simpa [RL] using P9.out, M8.out.trans M9.out, by simpa [hru.out] using PL2.out⟩
              case measure =>
                have hL9 : lenR pb (w8.setCell ⟨pb, 4, none⟩ (.slice a8 (M.length + 1) c8)) = M.length + 1 := by
                  unfold lenR
                  rw [P9.out.cell (j := 2) rfl]
                  rfl
                change 16 - lenR pb (w8.setCell ⟨pb, 4, none⟩ (.slice a8 (M.length + 1) c8)) < 16 - lenR pb wr
                rw [hL9, HML.out]
                omega
            case step6 =>
              go_simp
              (go_at_call 48; refine (HCM.out _ (P3.out.below ((Below.refl _ _).drew)) M3.out.drew).mono ?_; rintro e w4 ⟨hm4, xr, hru, rfl, ho4, ev4, bv4, hp4⟩; replace hru := hidX hru; have e54 : w4.cell? ⟨pb, 4, none⟩ = some (.slice la M.length lc) := hp4.cell (j := 2) rfl)
              refine hK.out _ _ ?hS16 (fun hHeld' => ?rest16)
              case hS16 => ((try dsimp only); all_goals trivial)
              clear hK K
              (try simp only [pA, pZ, pS])
              clear hHeld
              have hHeld := hHeld'
              clear hHeld'
              refine wpAnyH_ready (rs := [4, 7]) (by kernel_rfl) (by simp) ?_
              refine AllReadyH.cons (o := ?o17) ?ho17 (fun K hK => ?step17) (AllReadyH.cons (o := ?o18) ?ho18 (fun K hK => ?step18) AllReadyH.nil)
              case ho17 => (simp only [List.getElem?_toArray, List.getElem?_cons_succ, List.getElem?_cons_zero]; rfl)
              case ho18 => (simp only [List.getElem?_toArray, List.getElem?_cons_succ, List.getElem?_cons_zero]; rfl)
              case step17 =>
                go_simp
                refine hK.out _ _ ?hS19 (fun hHeld' => ?rest19)
                case hS19 => ((try dsimp only); all_goals trivial)
                clear hK K
                (try simp only [pA, pZ, pS])
                clear hHeld
                have hHeld := hHeld'
                clear hHeld'
                refine wpAnyH_ready (rs := [7]) (by kernel_rfl) (by simp) ?_
                refine AllReadyH.cons (o := ?o20) ?ho20 (fun K hK => ?step20) AllReadyH.nil
                case ho20 => (simp only [List.getElem?_toArray, List.getElem?_cons_succ, List.getElem?_cons_zero]; rfl)
                go_simp
                have HA4 := hidX (fun o' => (Below.refl _ _).alloc (Nat.le_refl _) o' : ∀ o', Below w4.heap.size w4 (w4.alloc o')); have e54a : ∀ o', (w4.alloc o').cell? ⟨pb, 4, none⟩ = some (.slice la M.length lc) := fun o' => cell_below (HA4.out o') e54
                refine hK.out _ _ ?hS21 (fun hHeld' => ?rest21)
                case hS21 => ((try dsimp only); all_goals trivial)
                clear hK K
                (try simp only [pA, pZ, pS])
                clear hHeld
                have hHeld := hHeld'
                clear hHeld'
                have M4 := hidX (M3.out.drew.trans hm4)
                have hs4 := M4.out.rest.size
                have OA := hidX (fun o' => (((O3.out.mko (MkO.of_below ((Below.refl _ _).drew)) hpb).mko hm4 hpb).mko (MkO.of_below (HA4.out o')) hpb : RRow (w4.alloc o') w.heap.size la lc M))
                have NX := hidX (ho4.base (show w.heap.size ≤ _ by have := M3.out.rest.size; simpa using this))
                refine wpAnyH_ready (rs := [8]) (by kernel_rfl) (by simp) ?_
                refine AllReadyH.cons (o := ?o22) ?ho22 (fun K hK => ?step22) AllReadyH.nil
                case ho22 => (simp only [List.getElem?_toArray, List.getElem?_cons_succ, List.getElem?_cons_zero]; rfl)
                (refine step_append_any (by rfl) (.tmp 16) (.tmp 19) 24 (by rfl) w.heap.size 39 _ 5 96 Tryz.underlying24 infoRF (by rfl) (by omega) _ M.length _ (by rfl) (OA.out _).row (some ⟨_, 0, none⟩) 1 1 (by rfl) xr.cells (by rfl) (fun e => by cases e) (news_new _ _ _ _ (by simp)) xr.cells_one (by unfold maxLen; omega) (by omega) (by simp; omega) ?_; intro a8 c8 w8 ho8 hg8 hl8)
                refine hK.out _ _ ?hS23 (fun hHeld' => ?rest23)
                case hS23 => ((try dsimp only); all_goals trivial)
                clear hK K
                (try simp only [pA, pZ, pS])
                clear hHeld
                have hHeld := hHeld'
                clear hHeld'
                have hrow : ∀ k, (Value.slice la M.length lc).ownBlock = some k → w.heap.size ≤ k := fun k hk => (O3.out.row.lt k hk).1
                have TY := hidX (fun o' g hg => own_type (OA.out o').row (k := g) hg)
                have M8 := hidX ((M4.out.trans (MkO.of_below (HA4.out _))).grown hg8.out hrow)
                have P8 := hidX ((hp4.below (HA4.out _)).keep ((Below.refl _ _).grown hg8.out (by simp; omega) (fun k hk => by have := hrow k hk; omega)))
                have C8 := hidX (show RRow w8 w.heap.size a8 c8 (M ++ [xr]) from ⟨by simpa using ho8.out, fun x hx => by
                  rcases List.mem_append.1 hx with hx | hx
                  · exact ((OA.out _).all x hx).grown hg8.out (TY.out _)
                  · simp at hx
                    subst hx
                    exact (NX.out.mko (MkO.of_below (HA4.out _)) hpb).grown hg8.out (TY.out _), O3.out.newer (Nat.le_refl _) ho4⟩)
                have f5 : w8.cell? ⟨pb, 4, none⟩ = some (.slice la M.length lc) := P8.out.cell (j := 2) rfl
                have g5 : w8.frozen? ⟨pb, 4, none⟩ = false := by
                  obtain ⟨k', hs'⟩ := P8.out.sc
                  simp [World.frozen?, hs'.blk]
                refine tk 9 hHeld ?_
                (try simp only [pA, pZ, pS])
                refine tk 10 hHeld ?_
                (try simp only [pA, pZ, pS])
                refine wpAnyH_ready (rs := [11]) (by kernel_rfl) (by simp) ?_
                refine AllReadyH.cons (o := ?o24) ?ho24 (fun K hK => ?step24) AllReadyH.nil
                case ho24 => (simp only [List.getElem?_toArray, List.getElem?_cons_succ, List.getElem?_cons_zero]; rfl)
                go_simp
                refine hK.out _ _ ?hS25 (fun hHeld' => ?rest25)
                case hS25 => ((try dsimp only); all_goals trivial)
                clear hK K
                (try dsimp only)
                clear hHeld
                have hHeld := hHeld'
                clear hHeld'
                refine wpAnyH_done (by kernel_rfl) ?_ _
                refine NoPanic.normal ?_
                have P9 := hidX (P8.out.cellSet (j := 2) (v := .slice a8 (M.length + 1) c8) rfl)
                have M9 := hidX (MkO.set (w := w8) (g := pb) (o := 4) (.slice a8 (M.length + 1) c8))
                have C9 := hidX (C8.out.mko M9.out hpb)
                clear hHeld
                go_wp2_with fail
                go_roundw
                case rel => exact ⟨a8, c8, n, M ++ [xr], l2, ev4, bv4, by simp; omega, C9.out, by simpa [RL] using P9.out, M8.out.trans M9.out, by simpa [hru.out] using PL2.out⟩
                case measure =>
                  have hL9 : lenR pb (w8.setCell ⟨pb, 4, none⟩ (.slice a8 (M.length + 1) c8)) = M.length + 1 := by
                    unfold lenR
                    rw [P9.out.cell (j := 2) rfl]
                    rfl
                  change 16 - lenR pb (w8.setCell ⟨pb, 4, none⟩ (.slice a8 (M.length + 1) c8)) < 16 - lenR pb wr
                  rw [hL9, HML.out]
                  omega
              case step18 =>
                go_simp
                have HA4 := hidX (fun o' => (Below.refl _ _).alloc (Nat.le_refl _) o' : ∀ o', Below w4.heap.size w4 (w4.alloc o')); have e54a : ∀ o', (w4.alloc o').cell? ⟨pb, 4, none⟩ = some (.slice la M.length lc) := fun o' => cell_below (HA4.out o') e54
                refine hK.out _ _ ?hS26 (fun hHeld' => ?rest26)
                case hS26 => ((try dsimp only); all_goals trivial)
                clear hK K
                (try simp only [pA, pZ, pS])
                clear hHeld
                have hHeld := hHeld'
                clear hHeld'
                refine wpAnyH_ready (rs := [4]) (by kernel_rfl) (by simp) ?_
                refine AllReadyH.cons (o := ?o27) ?ho27 (fun K hK => ?step27) AllReadyH.nil
                case ho27 => (simp only [List.getElem?_toArray, List.getElem?_cons_succ, List.getElem?_cons_zero]; rfl)
                go_simp
                refine hK.out _ _ ?hS28 (fun hHeld' => ?rest28)
                case hS28 => ((try dsimp only); all_goals trivial)
                clear hK K
                (try simp only [pA, pZ, pS])
                clear hHeld
                have hHeld := hHeld'
                clear hHeld'
                have M4 := hidX (M3.out.drew.trans hm4)
                have hs4 := M4.out.rest.size
                have OA := hidX (fun o' => (((O3.out.mko (MkO.of_below ((Below.refl _ _).drew)) hpb).mko hm4 hpb).mko (MkO.of_below (HA4.out o')) hpb : RRow (w4.alloc o') w.heap.size la lc M))
                have NX := hidX (ho4.base (show w.heap.size ≤ _ by have := M3.out.rest.size; simpa using this))
                refine wpAnyH_ready (rs := [8]) (by kernel_rfl) (by simp) ?_
                refine AllReadyH.cons (o := ?o29) ?ho29 (fun K hK => ?step29) AllReadyH.nil
                case ho29 => (simp only [List.getElem?_toArray, List.getElem?_cons_succ, List.getElem?_cons_zero]; rfl)
                (refine step_append_any (by rfl) (.tmp 16) (.tmp 19) 24 (by rfl) w.heap.size 39 _ 5 96 Tryz.underlying24 infoRF (by rfl) (by omega) _ M.length _ (by rfl) (OA.out _).row (some ⟨_, 0, none⟩) 1 1 (by rfl) xr.cells (by rfl) (fun e => by cases e) (news_new _ _ _ _ (by simp)) xr.cells_one (by unfold maxLen; omega) (by omega) (by simp; omega) ?_; intro a8 c8 w8 ho8 hg8 hl8)
                refine hK.out _ _ ?hS30 (fun hHeld' => ?rest30)
                case hS30 => ((try dsimp only); all_goals trivial)
                clear hK K
                (try simp only [pA, pZ, pS])
                clear hHeld
                have hHeld := hHeld'
                clear hHeld'
                have hrow : ∀ k, (Value.slice la M.length lc).ownBlock = some k → w.heap.size ≤ k := fun k hk => (O3.out.row.lt k hk).1
                have TY := hidX (fun o' g hg => own_type (OA.out o').row (k := g) hg)
                have M8 := hidX ((M4.out.trans (MkO.of_below (HA4.out _))).grown hg8.out hrow)
                have P8 := hidX ((hp4.below (HA4.out _)).keep ((Below.refl _ _).grown hg8.out (by simp; omega) (fun k hk => by have := hrow k hk; omega)))
                have C8 := hidX (show RRow w8 w.heap.size a8 c8 (M ++ [xr]) from ⟨by simpa using ho8.out, fun x hx => by
                  rcases List.mem_append.1 hx with hx | hx
                  · exact ((OA.out _).all x hx).grown hg8.out (TY.out _)
                  · simp at hx
                    subst hx
                    exact (NX.out.mko (MkO.of_below (HA4.out _)) hpb).grown hg8.out (TY.out _), O3.out.newer (Nat.le_refl _) ho4⟩)
                have f5 : w8.cell? ⟨pb, 4, none⟩ = some (.slice la M.length lc) := P8.out.cell (j := 2) rfl
                have g5 : w8.frozen? ⟨pb, 4, none⟩ = false := by
                  obtain ⟨k', hs'⟩ := P8.out.sc
                  simp [World.frozen?, hs'.blk]
                refine tk 9 hHeld ?_
                (try simp only [pA, pZ, pS])
                refine tk 10 hHeld ?_
                (try simp only [pA, pZ, pS])
                refine wpAnyH_ready (rs := [11]) (by kernel_rfl) (by simp) ?_
                refine AllReadyH.cons (o := ?o31) ?ho31 (fun K hK => ?step31) AllReadyH.nil
                case ho31 => (simp only [List.getElem?_toArray, List.getElem?_cons_succ, List.getElem?_cons_zero]; rfl)
                go_simp
                refine hK.out _ _ ?hS32 (fun hHeld' => ?rest32)
                case hS32 => ((try dsimp only); all_goals trivial)
                clear hK K
                (try dsimp only)
                clear hHeld
                have hHeld := hHeld'
                clear hHeld'
                refine wpAnyH_done (by kernel_rfl) ?_ _
                refine NoPanic.normal ?_
                have P9 := hidX (P8.out.cellSet (j := 2) (v := .slice a8 (M.length + 1) c8) rfl)
                have M9 := hidX (MkO.set (w := w8) (g := pb) (o := 4) (.slice a8 (M.length + 1) c8))
                have C9 := hidX (C8.out.mko M9.out hpb)
                clear hHeld
                go_wp2_with fail
                go_roundw
                case rel => exact ⟨a8, c8, n, M ++ [xr], l2, ev4, bv4, by simp; omega, C9.out, by simpa [RL] using P9.out, M8.out.trans M9.out, by simpa [hru.out] using PL2.out⟩
                case measure =>
                  have hL9 : lenR pb (w8.setCell ⟨pb, 4, none⟩ (.slice a8 (M.length + 1) c8)) = M.length + 1 := by
                    unfold lenR
                    rw [P9.out.cell (j := 2) rfl]
                    rfl
                  change 16 - lenR pb (w8.setCell ⟨pb, 4, none⟩ (.slice a8 (M.length + 1) c8)) < 16 - lenR pb wr
                  rw [hL9, HML.out]
                  omega
end Go.Proofs.YtjjjagepnnbebaaGreatDoor

namespace Go.Proofs.YtjjjagepnnbebaaGreatDoor

theorem isE_eq {s : ByteArray} (h : isE s = true) : s = mkS [] := by
  have : bsOf s = [] := by
    have e : s.data.toList = s.toList := (ByteArray.toList_eq _).symm
    show s.data.toList = []
    rw [e]
    simpa [isE] using h
  rw [← mkS_bs s, this]
theorem zeroV_eq {v : V} (h : zeroV v = true) : v = zVr := by
  obtain ⟨k, n, s⟩ := v
  have hv : zeroV (k, n, s) = (k == 0 && (n == 0 && isE s)) := rfl
  rw [hv] at h
  simp at h
  obtain ⟨rfl, rfl, h⟩ := h
  rw [isE_eq h]
  rfl
theorem brk41 (r : Bs) : Brk (41 :: r) := Brk.cons r (by decide)
theorem brk32 (r : Bs) : Brk (32 :: r) := Brk.cons r (by decide)
theorem wds32 (r : Bs) (k : Nat) : wds (32 :: r) k = wds r (k + 1) := wds_blank r k (by decide)
theorem wds10 (r : Bs) (k : Nat) : wds (10 :: r) k = wds r (k + 1) := wds_blank r k (by decide)
/-- What an operand is: a value or a variable. -/
theorem operand_back {t : Tm} (h : operandOk t = true) (hn : numOk t.val.num) : (∃ K P n, Tok (txO t) K P n ∧ (K = 48 ∨ K = 97) ∧ t.var = mkS [] ∧ t.val = wVal K n P) ∨ (∃ P, Tok (txO t) 63 P 0 ∧ t.var = mkS P ∧ t.val = zVr) := by
  unfold operandOk at h
  unfold txO
  cases hv : isE t.var
  · rw [hv] at h
    simp at h
    rw [if_neg (by simp)]
    exact .inr ⟨bsOf t.var, Tok.var h.1, (mkS_bs _).symm, zeroV_eq h.2⟩
  · have hg : gVal t.val = true := by
      cases hg : gVal t.val
      · rw [hv, hg] at h
        simp at h
        have e := isE_eq hv
        rw [e] at h
        exact absurd h.1 (by decide)
      · rfl
    rw [if_pos rfl]
    rcases Tok.val hg hn with ⟨h1, h2⟩ | ⟨h1, h2⟩
    · exact .inl ⟨48, [], _, h1, .inl rfl, isE_eq hv, h2⟩
    · exact .inl ⟨97, _, 0, h1, .inr rfl, isE_eq hv, h2⟩
theorem term_back {t : Tm} (h : gTm t = true) (hn : numOk t.val.num) (r : Bs) (k : Nat) (hr : Brk r) : pTerm (wds (txT t ++ r) k) = .ok (t, wds r (k + (txT t).length)) := by
  obtain ⟨kd, op, var, val⟩ := t
  unfold gTm at h
  simp only at h hn
  by_cases k0 : kd = 0
  · subst k0
    simp at h
    obtain ⟨rfl, h1, h2⟩ := h
    obtain rfl := isE_eq h1
    obtain rfl := zeroV_eq h2
    have e : txT ⟨0, 0, mkS [], zVr⟩ = [95] := rfl
    obtain ⟨x, h1, h2, _, _⟩ := Tok.und.next r k hr
    rw [e]
    unfold pTerm
    rw [h1, andP_ok, if_pos h2]
  by_cases k1 : kd = 1
  · subst k1
    simp at h
    obtain ⟨rfl, h1, h2⟩ := h
    obtain rfl := isE_eq h1
    have e : txT ⟨1, 0, mkS [], val⟩ = txV val := rfl
    rw [e]
    unfold pTerm
    rcases Tok.val h2 hn with ⟨h1, h2⟩ | ⟨h1, h2⟩
    · obtain ⟨x, q1, q2, q3, q4⟩ := h1.next r k hr
      rw [q1, andP_ok, if_neg (by rw [q2]; decide), if_pos (.inl q2), q2, q3, q4, ← h2]
    · obtain ⟨x, q1, q2, q3, q4⟩ := h1.next r k hr
      rw [q1, andP_ok, if_neg (by rw [q2]; decide), if_pos (.inr q2), q2, q3, q4, ← h2]
  by_cases k2 : kd = 2
  · subst k2
    simp at h
    obtain ⟨rfl, h1, h2⟩ := h
    obtain rfl := zeroV_eq h2
    have e : txT ⟨2, 0, var, zVr⟩ = 63 :: bsOf var := rfl
    obtain ⟨x, q1, q2, q3, q4⟩ := (Tok.var (s := bsOf var) h1).next r k hr
    rw [e]
    unfold pTerm
    rw [q1, andP_ok, if_neg (by rw [q2]; decide), if_neg (by rw [q2]; decide), if_pos q2, q3, mkS_bs]
  by_cases k3 : kd = 3
  · subst k3
    simp at h
    obtain ⟨h1, h2, h3⟩ := h
    have e : txT ⟨3, op, var, val⟩ ++ r = 40 :: (opTx.getD (op.toNat - 1) [] ++ (32 :: (txO ⟨3, op, var, val⟩ ++ (41 :: r)))) := by
      simp [txT]
    have el : (txT ⟨3, op, var, val⟩).length = 1 + (opTx.getD (op.toNat - 1) []).length + 1 + (txO ⟨3, op, var, val⟩).length + 1 := by
      simp [txT]
      omega
    obtain ⟨ht, hx⟩ := Tok.test (i := op.toNat - 1) (by omega)
    have hop : (testIx (opTx.getD (op.toNat - 1) []) : Int) = op := by rw [hx]; omega
    rw [e, el]
    unfold pTerm
    rw [next_open, andP_ok]
    have hp : pkW ⟨1, k, [], 0⟩ = 40 := rfl
    rw [if_neg (by rw [hp]; decide), if_neg (by rw [hp]; decide), if_neg (by rw [hp]; decide), if_pos hp]
    unfold pTest
    obtain ⟨o, q1, q2, q3, q4⟩ := ht.take (32 :: (txO ⟨3, op, var, val⟩ ++ (41 :: r))) (k + 1) (brk32 _)
    rw [q1, andP_ok, wds32]
    rcases operand_back (t := ⟨3, op, var, val⟩) h3 hn with ⟨K, P, n, hk, hK, e1, e2⟩ | ⟨P, hk, e1, e2⟩
    · obtain ⟨x, p1, p2, p3, p4⟩ := hk.next (41 :: r) (k + 1 + (opTx.getD (op.toNat - 1) []).length + 1) (brk41 _)
      rw [p1, andP_ok, if_pos (by rw [p2]; exact hK), take_close, andP_ok, q3, hop, p2, p3, p4]
      simp only at e1 e2
      rw [← e1, ← e2]
      congr 3
      omega
    · obtain ⟨x, p1, p2, p3, p4⟩ := hk.next (41 :: r) (k + 1 + (opTx.getD (op.toNat - 1) []).length + 1) (brk41 _)
      rw [p1, andP_ok, if_neg (by rw [p2]; decide), if_pos p2, take_close, andP_ok, q3, hop, p3]
      simp only at e1 e2
      rw [← e1, ← e2]
      congr 3
      omega
  · simp [k0, k1, k2, k3] at h
theorem term_first {l l1 : List Wd} {t : Tm} (h : pTerm l = .ok (t, l1)) : ∃ x r, nextW l = .ok (x, r) ∧ pkW x ≠ 41 := by
  unfold pTerm at h
  cases hr : nextW l with
  | error f => rw [hr] at h; cases h
  | ok q =>
    obtain ⟨x, r⟩ := q
    refine ⟨x, r, rfl, fun e => ?_⟩
    rw [hr, andP_ok, e] at h
    simp at h
theorem terms_back : ∀ (ts : List Tm) (n : Nat) (r : Bs) (k : Nat), ts.length ≤ n → (∀ t ∈ ts, gTm t = true ∧ numOk t.val.num) → pList pTerm n (wds (txTs ts ++ 41 :: r) k) = .ok (ts, wds r (k + (txTs ts).length + 1))
  | [], n, r, k, _, _ => by
    show pList pTerm n (wds (41 :: r) k) = _
    rw [pList_end (next_close r k) rfl]
    rfl
  | t :: ts, n, r, k, hl, ht => by
    obtain ⟨m, rfl⟩ : ∃ m, n = m + 1 := ⟨n - 1, by simp at hl; omega⟩
    obtain ⟨g1, g2⟩ := ht t (by simp)
    have e : txTs (t :: ts) ++ 41 :: r = 32 :: (txT t ++ (txTs ts ++ 41 :: r)) := by simp [txTs]
    have el : (txTs (t :: ts)).length = 1 + (txT t).length + (txTs ts).length := by simp [txTs]; omega
    have hb : Brk (txTs ts ++ 41 :: r) := by
      cases ts with
      | nil => exact brk41 r
      | cons u us => exact Brk.cons _ (by decide)
    have h1 := term_back g1 g2 (txTs ts ++ 41 :: r) (k + 1) hb
    obtain ⟨x, q, hx, hne⟩ := term_first h1
    rw [e, el, wds32]
    unfold pList
    rw [hx]
    simp only [if_neg hne]
    rw [h1]
    simp only
    rw [terms_back ts m r _ (by simp at hl; omega) (fun u hu => ht u (by simp [hu]))]
    simp only
    congr 3
    omega
theorem gCls_sym {s : ByteArray} (h : gCls s = true) : gSym (bsOf s) = true ∧ bsOf s ≠ notT := by
  unfold gCls at h
  simp at h
  refine ⟨h.1, fun e => h.2 ?_⟩
  rw [← mkS_bs s, e]
  rfl
theorem pat_back {p : Pt} (h : gPt p = true) (hn : ∀ t ∈ p.terms, numOk t.val.num) (r : Bs) (k : Nat) : andP (takeW 40 (wds (txP p ++ r) k)) (fun _ l1 => pPat l1) = .ok (p, wds r (k + (txP p).length)) := by
  obtain ⟨neg, cls, ts⟩ := p
  unfold gPt at h
  simp at h
  obtain ⟨hc, hl, ha⟩ := h
  have ht : ∀ t ∈ ts, gTm t = true ∧ numOk t.val.num := fun t ht => ⟨ha t ht, hn t ht⟩
  obtain ⟨hs, hne⟩ := gCls_sym hc
  have hb : Brk (txTs ts ++ 41 :: r) := by
    cases ts with
    | nil => exact brk41 r
    | cons u us => exact Brk.cons _ (by decide)
  cases neg with
  | false =>
    have e : txP ⟨false, cls, ts⟩ ++ r = 40 :: (bsOf cls ++ (txTs ts ++ 41 :: r)) := by simp [txP]
    have el : (txP ⟨false, cls, ts⟩).length = 1 + (bsOf cls).length + (txTs ts).length + 1 := by simp [txP]; omega
    rw [e, el, take_open, andP_ok]
    obtain ⟨x, q1, q2, q3, q4⟩ := (Tok.sym hs).take (txTs ts ++ 41 :: r) (k + 1) hb
    unfold pPat
    rw [q1, andP_ok, q3, if_neg hne, terms_back ts 6 r _ hl ht, andP_ok, mkS_bs]
    congr 3
    omega
  | true =>
    have e : txP ⟨true, cls, ts⟩ ++ r = 40 :: (notX ++ (32 :: (bsOf cls ++ (txTs ts ++ 41 :: r)))) := by simp [txP]
    have el : (txP ⟨true, cls, ts⟩).length = 1 + notX.length + 1 + (bsOf cls).length + (txTs ts).length + 1 := by simp [txP]; omega
    rw [e, el, take_open, andP_ok]
    obtain ⟨x, q1, q2, q3, q4⟩ := (Tok.sym (t := notX) (by decide)).take (32 :: (bsOf cls ++ (txTs ts ++ 41 :: r))) (k + 1) (brk32 _)
    obtain ⟨y, p1, p2, p3, p4⟩ := (Tok.sym hs).take (txTs ts ++ 41 :: r) (k + 1 + notX.length + 1) hb
    unfold pPat
    rw [q1, andP_ok, q3, if_pos (show notX = notT from rfl), wds32]
    unfold pClass
    rw [p1]
    simp only [p3, if_neg hne, andP_ok]
    rw [terms_back ts 6 r _ hl ht, andP_ok, mkS_bs]
    congr 3
    omega
theorem wdsLine (r : Bs) (k : Nat) : wds (lineB ++ r) k = wds r (k + 3) := by
  show wds (10 :: 32 :: 32 :: r) k = _
  rw [wds10, wds32, wds32]
theorem pats_back : ∀ (ps : List Pt) (n : Nat) (r : Bs) (k : Nat), ps.length ≤ n → (∀ p ∈ ps, gPt p = true ∧ ∀ t ∈ p.terms, numOk t.val.num) → Brk r → andP (pMany 62 pPat n (wds (txPs ps ++ (lineB ++ (thenB ++ r))) k)) (fun vs l4 => andP (takeW 62 l4) fun _ l5 => .ok (vs, l5)) = .ok (ps, wds r (k + (txPs ps).length + 5))
  | [], n, r, k, _, _, hr => by
    show andP (pMany 62 pPat n (wds (lineB ++ (thenB ++ r)) k)) _ = _
    obtain ⟨x, h1, h2, _, _⟩ := Tok.to.next r (k + 3) hr
    obtain ⟨y, q1, _, _, _⟩ := Tok.to.take r (k + 3) hr
    rw [wdsLine]
    change nextW (wds (thenB ++ r) (k + 3)) = _ at h1
    change takeW 62 (wds (thenB ++ r) (k + 3)) = _ at q1
    rw [pMany_end h1 h2, andP_ok, q1, andP_ok]
    rfl
  | p :: ps, n, r, k, hl, hp, hr => by
    obtain ⟨m, rfl⟩ : ∃ m, n = m + 1 := ⟨n - 1, by simp at hl; omega⟩
    obtain ⟨g1, g2⟩ := hp p (by simp)
    have e : txPs (p :: ps) ++ (lineB ++ (thenB ++ r)) = lineB ++ (txP p ++ (txPs ps ++ (lineB ++ (thenB ++ r)))) := by simp [txPs]
    have el : (txPs (p :: ps)).length = 3 + (txP p).length + (txPs ps).length := by simp [txPs, lineB]; omega
    have hpb := pat_back g1 g2 (txPs ps ++ (lineB ++ (thenB ++ r))) (k + 3)
    have ho : ∃ s, txP p ++ (txPs ps ++ (lineB ++ (thenB ++ r))) = 40 :: s := ⟨_, rfl⟩
    obtain ⟨s, hs⟩ := ho
    rw [e, el, wdsLine]
    rw [hs] at hpb ⊢
    rw [take_open, andP_ok] at hpb
    have hst := pMany_step (M := []) (k := 62) (rd := pPat) (n := m) (next_open s (k + 3)) (show (40 : Int) ≠ 62 by decide) (take_open s (k + 3)) hpb
    have h1 : pMany 62 pPat (m + 1) (wds (40 :: s) (k + 3)) = preL [p] (pMany 62 pPat m (wds (txPs ps ++ (lineB ++ (thenB ++ r))) (k + 3 + (txP p).length))) := by
      cases hq : pMany 62 pPat (m + 1) (wds (40 :: s) (k + 3)) with
      | error f => rw [hq] at hst; exact hst
      | ok q => rw [hq] at hst; simpa [preL] using hst
    rw [h1]
    have ih := pats_back ps m r (k + 3 + (txP p).length) (by simp at hl; omega) (fun u hu => hp u (by simp [hu])) hr
    cases hq : pMany 62 pPat m (wds (txPs ps ++ (lineB ++ (thenB ++ r))) (k + 3 + (txP p).length)) with
    | error f => rw [hq] at ih; cases ih
    | ok q =>
      obtain ⟨vs, l4⟩ := q
      rw [hq, andP_ok] at ih
      show andP (takeW 62 l4) (fun _ l5 => .ok ([p] ++ vs, l5)) = _
      cases ht : takeW 62 l4 with
      | error f => rw [ht] at ih; cases ih
      | ok z =>
        obtain ⟨x, l5⟩ := z
        rw [ht, andP_ok] at ih
        injection ih with ih
        injection ih with i1 i2
        rw [andP_ok, i1, i2]
        congr 3
        omega
end Go.Proofs.YtjjjagepnnbebaaGreatDoor

namespace Go.Proofs.YtjjjagepnnbebaaGreatDoor

theorem bound_ok {n : Nat} {l l1 : List Wd} {x : Wd} (hn : n < 60) (h : nextW l = .ok (x, l1)) : boundW (n : Int) 60 l = .ok ((), l) := by
  unfold boundW
  rw [h]
  simp only
  rw [if_neg (fun e => by have := e.1; omega)]
theorem leaf_eq {e : Ex} (h : leafOk e = true) : e.op = 0 ∧ e.a = 0 ∧ e.b = 0 := by
  unfold leafOk at h
  simpa using h
theorem expr_back {es : List Ex} {S : List Sp} (hT : ExT es S) : ∀ (i a dep : Nat), S[i]? = some (a, dep) → a ≤ i ∧ ∀ (n f d : Nat) (r : Bs) (k : Nat), dep < n → dep ≤ f → i + 1 + d ≤ 60 → Brk r →
    pExpr f (es.take a, a + d) (wds (txE n es i ++ r) k) = .ok (((i : Int), (es.take (i + 1), i + 1 + d)), wds r (k + (txE n es i).length)) := by
  intro i
  induction i using Nat.strongRecOn with
  | _ i ih =>
    intro a dep hs
    obtain ⟨hl, hSp, hSl, hnum⟩ := hT
    have hi : i < S.length := (List.getElem?_eq_some_iff.1 hs).1
    obtain ⟨e, he⟩ : ∃ e, es[i]? = some e := ⟨es[i]'(by omega), by simp [show i < es.length by omega]⟩
    have hsp := hSp.2 i _ e hs he
    have hlen : (S.take i).length = i := by rw [List.length_take]; omega
    have hel : (es.take i).length = i := by rw [List.length_take]; omega
    have htk := take_succ' es i e he
    have hne := hnum e (List.mem_of_getElem? he)
    unfold spanOf at hsp
    by_cases k0 : e.kind = 0
    · simp [k0] at hsp
      obtain ⟨⟨h1, h2, h3⟩, h4, h5⟩ := hsp
      have ha : a = i := by omega
      have hd : dep = 0 := h5.symm
      subst ha
      refine ⟨Nat.le_refl _, fun n f d r k hn hf hb hr => ?_⟩
      obtain ⟨n, rfl⟩ : ∃ m, n = m + 1 := ⟨n - 1, by omega⟩
      rw [txE_one n es a e he, if_neg (by omega), if_neg (by omega), htk]
      obtain ⟨l1, l2, l3⟩ := leaf_eq h1
      have hE : ∀ v, e.val = v → e = ⟨0, 0, mkS [], v, 0, 0⟩ := fun v hv => by
        obtain ⟨c0, c1, c2, c3, c4, c5⟩ := e
        simp only at k0 l1 l2 l3 h2 hv
        rw [k0, l1, isE_eq h2, l2, l3, hv]
      rcases Tok.val h3 hne with ⟨t1, t2⟩ | ⟨t1, t2⟩
      · obtain ⟨x, q1, q2, q3, q4⟩ := t1.next r k hr
        rw [pExpr_const (bound_ok (n := a + d) (by omega) q1) q1 (.inl q2), q2, q3, q4, hel, ← hE _ t2]
        congr 4
        omega
      · obtain ⟨x, q1, q2, q3, q4⟩ := t1.next r k hr
        rw [pExpr_const (bound_ok (n := a + d) (by omega) q1) q1 (.inr q2), q2, q3, q4, hel, ← hE _ t2]
        congr 4
        omega
    by_cases k1 : e.kind = 1
    · simp [k1] at hsp
      obtain ⟨⟨h1, h2, h3⟩, h4, h5⟩ := hsp
      have ha : a = i := by omega
      have hd : dep = 0 := h5.symm
      subst ha
      refine ⟨Nat.le_refl _, fun n f d r k hn hf hb hr => ?_⟩
      obtain ⟨n, rfl⟩ : ∃ m, n = m + 1 := ⟨n - 1, by omega⟩
      rw [txE_one n es a e he, if_pos k1, htk]
      obtain ⟨l1, l2, l3⟩ := leaf_eq h1
      have hE : e = ⟨1, 0, mkS (bsOf e.var), zVr, 0, 0⟩ := by
        obtain ⟨c0, c1, c2, c3, c4, c5⟩ := e
        simp only at k1 l1 l2 l3 h3 ⊢
        rw [k1, l1, mkS_bs, l2, l3, zeroV_eq h3]
      obtain ⟨x, q1, q2, q3, q4⟩ := (Tok.var (s := bsOf e.var) h2).next r k hr
      rw [pExpr_var (bound_ok (n := a + d) (by omega) q1) q1 q2, q3, hel, ← hE]
      congr 4
      omega
    by_cases k2 : e.kind = 2
    · simp [k2] at hsp
      obtain ⟨h1, h2⟩ := hsp
      unfold opOk at h1
      simp [hlen] at h1
      obtain ⟨o1, o2, o3, o4, o5, o6⟩ := h1
      unfold spanAB at h2
      cases hsb : (S.take i)[e.b.toNat]? with
      | none => simp [hsb] at h2
      | some sb =>
        cases hsa : (S.take i)[e.a.toNat]? with
        | none => simp [hsb, hsa] at h2
        | some sa =>
          simp [hsb, hsa] at h2
          obtain ⟨⟨h3, h4⟩, h5, h6⟩ := h2
          obtain ⟨ia, hia⟩ : ∃ x : Nat, e.a = (x : Int) := ⟨e.a.toNat, by omega⟩
          obtain ⟨ib, hib⟩ : ∃ x : Nat, e.b = (x : Int) := ⟨e.b.toNat, by omega⟩
          rw [hia, Int.toNat_natCast] at hsa
          rw [hib, Int.toNat_natCast] at hsb
          have hbi : ib + 1 = i := by omega
          have hal : ia < i := by
            have := (List.getElem?_eq_some_iff.1 hsa).1
            omega
          rw [List.getElem?_take, if_pos (by omega)] at hsa hsb
          obtain ⟨a1, d1⟩ := sa
          obtain ⟨a2, d2⟩ := sb
          simp only at h3 h4 h5 h6
          have hba : a2 = ia + 1 := by omega
          obtain ⟨ra, iha⟩ := ih ia (by omega) a1 d1 hsa
          obtain ⟨rb, ihb⟩ := ih ib (by omega) a2 d2 hsb
          subst h5
          refine ⟨by omega, fun n f d r k hn hf hb hr => ?_⟩
          obtain ⟨n, rfl⟩ : ∃ m, n = m + 1 := ⟨n - 1, by omega⟩
          obtain ⟨f, rfl⟩ : ∃ m, f = m + 1 := ⟨f - 1, by omega⟩
          have hm1 : d1 ≤ max d1 d2 := Nat.le_max_left _ _
          have hm2 : d2 ≤ max d1 d2 := Nat.le_max_right _ _
          obtain ⟨tk, tv⟩ := Tok.ar o1
          rw [txE_one n es i e he, if_neg (by omega), if_pos k2, hia, hib, Int.toNat_natCast, Int.toNat_natCast]
          have ex : (40 :: UInt8.ofNat e.op.toNat :: 32 :: (txE n es ia ++ 32 :: (txE n es ib ++ [41]))) ++ r = 40 :: ([UInt8.ofNat e.op.toNat] ++ (32 :: (txE n es ia ++ (32 :: (txE n es ib ++ (41 :: r)))))) := by simp
          have el : (40 :: UInt8.ofNat e.op.toNat :: 32 :: (txE n es ia ++ 32 :: (txE n es ib ++ [41]))).length = 3 + (txE n es ia).length + 1 + (txE n es ib).length + 1 := by simp; omega
          rw [ex, el, pExpr_op (bound_ok (n := a1 + d) (by omega) (next_open _ k)) (next_open _ k) rfl]
          unfold pOp
          obtain ⟨o, q1, q2, q3, q4⟩ := tk.take (32 :: (txE n es ia ++ (32 :: (txE n es ib ++ (41 :: r))))) (k + 1) (brk32 _)
          rw [q1, andP_ok, wds32]
          have r1 := iha n f (d + 1) (32 :: (txE n es ib ++ (41 :: r))) (k + 1 + [UInt8.ofNat e.op.toNat].length + 1) (by omega) (by omega) (by omega) (brk32 _)
          rw [show a1 + d + 1 = a1 + (d + 1) by omega, r1, andP_ok, wds32]
          have r2 := ihb n f (d + 1) (41 :: r) (k + 1 + [UInt8.ofNat e.op.toNat].length + 1 + (txE n es ia).length + 1) (by omega) (by omega) (by omega) (brk41 _)
          rw [hba] at r2
          simp only
          rw [r2, andP_ok, take_close, andP_ok, andP_ok, q3]
          have hE : e = ⟨2, ((([UInt8.ofNat e.op.toNat] : Bs).headD 0).toNat : Int), mkS [], zVr, (ia : Int), (ib : Int)⟩ := by
            obtain ⟨c0, c1, c2, c3, c4, c5⟩ := e
            simp only at k2 o2 o3 hia hib tv ⊢
            rw [k2, isE_eq o2, zeroV_eq o3, hia, hib]
            congr 1
            exact tv.symm
          simp only
          rw [← hE, hbi, ← htk, hel]
          refine congrArg Except.ok (Prod.ext (Prod.ext rfl (Prod.ext rfl ?_)) (congrArg (wds r) ?_))
          · show i + (d + 1) = i + 1 + d
            omega
          · show k + 1 + [UInt8.ofNat e.op.toNat].length + 1 + (txE n es ia).length + 1 + (txE n es ib).length + 1 = _
            simp
            omega
    · simp [k0, k1, k2] at hsp
theorem expr_first {f : Nat} {s : ES} {l l1 : List Wd} {q : Int × ES} (h : pExpr f s l = .ok (q, l1)) : ∃ x r, nextW l = .ok (x, r) ∧ pkW x ≠ 41 := by
  cases hb : boundW (s.2 : Int) 60 l with
  | error e => rw [pExpr_bad hb] at h; cases h
  | ok u =>
    cases hr : nextW l with
    | error e => rw [pExpr_next hb hr] at h; cases h
    | ok p =>
      obtain ⟨x, r⟩ := p
      refine ⟨x, r, rfl, fun e => ?_⟩
      rw [pExpr_else hb hr (by rw [e]; decide) (by rw [e]; decide) (by rw [e]; decide)] at h
      cases h
theorem spans_deep {es : List Ex} {S : List Sp} (hT : ExT es S) {i : Nat} {s : Sp} (h : S[i]? = some s) : s.2 ≤ 20 := by
  obtain ⟨hl, hSp, hSl, hnum⟩ := hT
  have hi : i < S.length := (List.getElem?_eq_some_iff.1 h).1
  obtain ⟨e, he⟩ : ∃ e, es[i]? = some e := ⟨es[i]'(by omega), by simp [show i < es.length by omega]⟩
  have hsp := hSp.2 i _ e h he
  unfold spanOf at hsp
  split at hsp
  · split at hsp
    · injection hsp with hsp
      rw [← hsp]
      simp
    · cases hsp
  · split at hsp
    · split at hsp
      · injection hsp with hsp
        rw [← hsp]
        simp
      · cases hsp
    · split at hsp
      · split at hsp
        · unfold spanAB at hsp
          split at hsp
          · split at hsp
            · rename_i hc
              injection hsp with hsp
              rw [← hsp]
              simp at hc ⊢
              omega
            · cases hsp
          · cases hsp
        · cases hsp
      · cases hsp
theorem args_back {es : List Ex} {S : List Sp} (hT : ExT es S) : ∀ (xs : List Int) (n nx nx' : Nat) (r : Bs) (k : Nat), xs.length ≤ n → argsGo S xs nx = some nx' →
    pListE (pExpr 20) n (es.take nx, nx) (wds (txArgs es xs ++ 41 :: r) k) = .ok ((xs, (es.take nx', nx')), wds r (k + (txArgs es xs).length + 1))
  | [], n, nx, nx', r, k, _, h => by
    unfold argsGo at h
    injection h with h
    subst h
    show pListE (pExpr 20) n (es.take nx, nx) (wds (41 :: r) k) = _
    cases n <;> (unfold pListE; rw [next_close]; rfl)
  | x :: xs, n, nx, nx', r, k, hl, h => by
    obtain ⟨m, rfl⟩ : ∃ m, n = m + 1 := ⟨n - 1, by simp at hl; omega⟩
    unfold argsGo at h
    split at h
    · rename_i hc
      simp at hc
      obtain ⟨h0, h1, h2⟩ := hc
      obtain ⟨i, rfl⟩ : ∃ i : Nat, x = (i : Int) := ⟨x.toNat, by omega⟩
      rw [Int.toNat_natCast] at h h2
      have hi : i < S.length := by omega
      have hsl := hT.2.2.1
      have h60 := hT.1
      obtain ⟨⟨a, dep⟩, hs⟩ : ∃ s, S[i]? = some s := ⟨S[i], by simp [hi]⟩
      rw [hs] at h2
      simp at h2
      subst h2
      have e : txArgs es ((i : Int) :: xs) ++ 41 :: r = 32 :: (txE 60 es i ++ (txArgs es xs ++ 41 :: r)) := by simp [txArgs]
      have el : (txArgs es ((i : Int) :: xs)).length = 1 + (txE 60 es i).length + (txArgs es xs).length := by simp [txArgs]; omega
      have hb : Brk (txArgs es xs ++ 41 :: r) := by
        cases xs with
        | nil => exact brk41 r
        | cons u us => exact Brk.cons _ (by decide)
      have hdp := spans_deep hT hs
      have h1 := (expr_back hT i a dep hs).2 60 20 0 (txArgs es xs ++ 41 :: r) (k + 1) (by simp at hdp; omega) hdp (by omega) hb
      obtain ⟨x, q, hx, hne⟩ := expr_first h1
      rw [e, el, wds32]
      unfold pListE
      rw [hx]
      simp only [if_neg hne]
      rw [Nat.add_zero] at h1
      rw [h1]
      simp only [Nat.add_zero]
      rw [args_back hT xs m (i + 1) nx' r _ (by simp at hl; omega) h]
      simp only
      congr 3
      omega
    · cases h
end Go.Proofs.YtjjjagepnnbebaaGreatDoor
