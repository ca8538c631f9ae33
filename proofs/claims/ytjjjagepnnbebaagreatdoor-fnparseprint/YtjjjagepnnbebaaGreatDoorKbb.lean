/-
  OUR OWN TEXT. Sx16, Mq1, Mq2, Mq3, Sx17, Sx18, Sx19, one behind the other.
-/
import Derived.Test.YtjjjagepnnbebaaGreatDoorKba
import Derived.Test.YtjjjagepnnbebaaGreatDoorPx2m
import Derived.Test.YtjjjagepnnbebaaGreatDoorHwm
import Derived.StringKeys
import Derived.Maps.Own
import Derived.Maps.OwnSet
import Derived.Maps.Views
import Derived.Maps.Keyed
namespace Go.Proofs.YtjjjagepnnbebaaGreatDoor
open Go.RowKit
attribute [local go_sem ↓] Go.wp_at_zero Go.wp_at_succ

/-- A list up to its ')'; n: how many may still come. -/
def pList {α : Type} (rd : List Wd → Px α) : Nat → List Wd → Px (List α)
  | 0, l => match nextW l with
    | .error f => .error f
    | .ok (x, r) => if pkW x = 41 then .ok ([], r) else if pkW x = 0 then .error (3, x.pos) else .error (4, x.pos)
  | n + 1, l => match nextW l with
    | .error f => .error f
    | .ok (x, r) => if pkW x = 41 then .ok ([], r) else match rd l with
      | .error f => .error f
      | .ok (v, l1) => match pList rd n l1 with
        | .error f => .error f
        | .ok (vs, l2) => .ok (v :: vs, l2)
def preL {α : Type} (M : List α) (r : Px (List α)) : Px (List α) := match r with
  | .error f => .error f
  | .ok (vs, l) => .ok (M ++ vs, l)
theorem pList_err {α : Type} {rd : List Wd → Px α} {n : Nat} {l : List Wd} {f : Flt} (h : nextW l = .error f) : pList rd n l = .error f := by
  cases n <;> simp [pList, h]
theorem pList_end {α : Type} {rd : List Wd → Px α} {n : Nat} {l r : List Wd} {x : Wd} (h : nextW l = .ok (x, r)) (hx : pkW x = 41) : pList rd n l = .ok ([], r) := by
  cases n <;> simp [pList, h, hx]
theorem pList_zero {α : Type} {rd : List Wd → Px α} {l r : List Wd} {x : Wd} (h : nextW l = .ok (x, r)) (hx : pkW x ≠ 41) : pList rd 0 l = if pkW x = 0 then .error (3, x.pos) else .error (4, x.pos) := by
  simp [pList, h, hx]
theorem pList_bad {α : Type} {rd : List Wd → Px α} {n : Nat} {l r : List Wd} {x : Wd} {f : Flt} (h : nextW l = .ok (x, r)) (hx : pkW x ≠ 41) (hr : rd l = .error f) : pList rd (n + 1) l = .error f := by
  simp [pList, h, hx, hr]
theorem pList_step {α : Type} {rd : List Wd → Px α} {n : Nat} {l r l1 : List Wd} {x : Wd} {v : α} {M : List α} (h : nextW l = .ok (x, r)) (hx : pkW x ≠ 41) (hr : rd l = .ok (v, l1)) : preL M (pList rd (n + 1) l) = preL (M ++ [v]) (pList rd n l1) := by
  simp only [pList, h, hx, hr, if_false]
  cases pList rd n l1 with
  | error f => rfl
  | ok p =>
    obtain ⟨vs, l2⟩ := p
    simp [preL]
def sliceLen : Value → Nat
  | .slice _ n _ => n
  | _ => 0
theorem own_mko {w w' : World} {base pb : Nat} {e : TypeId} {m : Nat} {v : Value} {n : Nat} {xs : List Value} (h : w.ownsRow base e m v n xs) (hm : MkO (some pb) w w') (hp : pb < base) : w'.ownsRow base e m v n xs :=
  owns_of_block h fun k hk => hm.block k (h.lt k hk).2 (fun e => by
    injection e with e
    have := (h.lt k hk).1
    omega)
theorem MkO.grown {w0 w w' : World} {pb : Nat} {row : Option Nat} (h : MkO (some pb) w0 w) (hg : w.grownBy w' row) (hr : ∀ k, row = some k → w0.heap.size ≤ k) : MkO (some pb) w0 w' :=
  ⟨h.rest.grown hg (Nat.zero_le _) (fun _ _ => Nat.zero_le _), fun g hlt hne => (hg.block g (Nat.lt_of_lt_of_le hlt h.rest.size) (fun e => by have := hr g e.symm; omega)).trans (h.block g hlt hne)⟩
theorem PSt.keep {w w' : World} {pb : Nat} {src : Bs} {a : Option Addr} {c : Nat} {l : List Wd} {R : List Value} (h : PSt w pb src a c l R) (hb : Below (pb + 1) w w') : PSt w' pb src a c l R := by
  obtain ⟨k, hs⟩ := h.sc
  exact ⟨⟨k, (hb.block pb (by omega)).trans hs.blk, hs.src0, hs.cap, hs.len, hs.bys.keep (fun b o e => Nat.lt_succ_of_lt (hs.far b o e)) hb, hs.far, hs.pos⟩, h.env.keep (hb.mono (by omega))⟩
end Go.Proofs.YtjjjagepnnbebaaGreatDoor

namespace Go.Proofs.YtjjjagepnnbebaaGreatDoor
open Go.RowKit
attribute [local go_sem ↓] Go.wp_at_zero Go.wp_at_succ

/-- Where reading stands: at a fault, or ahead of some words. -/
abbrev Ps := Except Flt (List Wd)
def stS {α : Type} (r : Px α) : Ps := match r with
  | .error f => .error f
  | .ok (_, l) => .ok l
def lookK (s : Ps) : Int := match s with
  | .error _ => -1
  | .ok l => match nextW l with
    | .error _ => -1
    | .ok (x, _) => x.kind
def lookS (s : Ps) : Ps := match s with
  | .error f => .error f
  | .ok l => match nextW l with
    | .error f => .error f
    | .ok _ => .ok l
/-- The words in memory. -/
def WdsAt (w : World) (g : Nat) (W : List Wd) : Prop := ∀ (j : Nat) (x : Wd), W[j]? = some x → w.rangeAt g (j * 4) (wdV x)
def StOk (W : List Wd) (k : Nat) (code : Int) (pos : Nat) (s : Ps) : Prop := match s with
  | .ok l => code = 0 ∧ pos = 0 ∧ W.drop k = l
  | .error f => code = f.1 ∧ pos = f.2 ∧ f.1 ≠ 0
/-- The model's parser in its box. -/
structure MB (w : World) (pb g : Nat) (W : List Wd) (c : Nat) (s : Ps) (R : List Value) : Prop where
  st : ∃ (k : Nat) (code : Int) (pos : Nat), w.heap[pb]? = some (.cells (.slice (some ⟨g, 0, none⟩) W.length c :: .int .i64 (k : Int) :: .int .i64 code :: .int .i64 (pos : Int) :: R).toArray 64 (0, 0)) ∧ k < W.length ∧ StOk W k code pos s
  wds : WdsAt w g W
  far : g ≠ pb
  ok : ∀ x ∈ W, WdOk x ∧ x.text.length ≤ 20000
  ends : WsOk W
  caps : W.length ≤ c
  len : W.length ≤ 20001
theorem MB.lt {w : World} {pb g : Nat} {W : List Wd} {c : Nat} {s : Ps} {R : List Value} (h : MB w pb g W c s R) : pb < w.heap.size := by
  obtain ⟨k, code, pos, hq, _⟩ := h.st
  exact lt_of_block' hq
theorem MB.glt {w : World} {pb g : Nat} {W : List Wd} {c : Nat} {s : Ps} {R : List Value} (h : MB w pb g W c s R) : g < w.heap.size := by
  obtain ⟨k, code, pos, hq, hk, _⟩ := h.st
  have hx : W[k]? = some W[k] := List.getElem?_eq_getElem hk
  have := h.wds k _ hx 0 _ rfl
  exact World.block_lt_of_cell? w ⟨g, _, none⟩ this
theorem WdsAt.block {w w' : World} {g : Nat} {W : List Wd} (h : WdsAt w g W) (hb : w'.heap[g]? = w.heap[g]?) : WdsAt w' g W := fun j x hx i v hv => (World.cell?_of_block (w := w) hb).trans (h j x hx i v hv)
/-- The box turned, all else as it was. -/
theorem MB.to {w w' : World} {pb g : Nat} {W : List Wd} {c : Nat} {s s' : Ps} {R R' : List Value} (h : MB w pb g W c s R) (hm : MkO (some pb) w w')
    (hs : ∃ (k : Nat) (code : Int) (pos : Nat), w'.heap[pb]? = some (.cells (.slice (some ⟨g, 0, none⟩) W.length c :: .int .i64 (k : Int) :: .int .i64 code :: .int .i64 (pos : Int) :: R').toArray 64 (0, 0)) ∧ k < W.length ∧ StOk W k code pos s') : MB w' pb g W c s' R' :=
  ⟨hs, h.wds.block (hm.block g h.glt (fun e => h.far (by injection e with e; exact e.symm))), h.far, h.ok, h.ends, h.caps, h.len⟩
theorem MB.below {w w' : World} {pb g : Nat} {W : List Wd} {c : Nat} {s : Ps} {R : List Value} (h : MB w pb g W c s R) (hb : Below w.heap.size w w') : MB w' pb g W c s R := by
  obtain ⟨k, code, pos, hq, hk, hs⟩ := h.st
  exact h.to (MkO.of_below hb) ⟨k, code, pos, (hb.block pb h.lt).trans hq, hk, hs⟩
/-- What reading leaves. -/
def MPost {α : Type} (w : World) (pb g : Nat) (W : List Wd) (c : Nat) (R : List Value) (Q : α → Ending → World → Prop) (r : Px α) (e : Ending) (w' : World) : Prop := MkO (some pb) w w' ∧ (∃ x, Q x e w' ∧ ∀ y l, r = .ok (y, l) → y = x) ∧ MB w' pb g W c (stS r) R
theorem cell_of {w : World} {b : Nat} {L : List Value} {t : TypeId} (h : w.heap[b]? = some (.cells L.toArray t (0, 0))) {j : Nat} {v : Value} (hv : L[j]? = some v) : w.cell? ⟨b, j, none⟩ = some v := by
  simp [World.cell?, h, hv]
theorem froz_of {w : World} {b : Nat} {L : Array Value} {t : TypeId} (h : w.heap[b]? = some (.cells L t (0, 0))) (j : Nat) : w.frozen? ⟨b, j, none⟩ = false := by
  simp [World.frozen?, h]
theorem wdrop {W l : List Wd} {k : Nat} (h : W.drop k = l) (hk : k < W.length) : ∃ x r, l = x :: r ∧ W[k]? = some x ∧ W.drop (k + 1) = r := by
  rw [← h]
  exact ⟨W[k], W.drop (k + 1), List.drop_eq_getElem_cons hk, List.getElem?_eq_getElem hk, rfl⟩
def codeS (s : Ps) : Int := match s with
  | .error f => f.1
  | .ok _ => 0
theorem MB.code {w : World} {pb g : Nat} {W : List Wd} {c : Nat} {s : Ps} {R : List Value} (h : MB w pb g W c s R) : w.cell? ⟨pb, 2, none⟩ = some (.int .i64 (codeS s)) := by
  obtain ⟨k, cd, pos, hq, hk, hs⟩ := h.st
  have := cell_of hq (j := 2) rfl
  rw [this]
  cases s with
  | error f => obtain ⟨rfl, rfl, hne⟩ := hs; rfl
  | ok l => obtain ⟨rfl, rfl, hd⟩ := hs; rfl
theorem look_ok {l r : List Wd} {x : Wd} (h : nextW l = .ok (x, r)) : lookK (.ok l) = x.kind ∧ lookS (.ok l) = .ok l := by simp [lookK, lookS, h]
end Go.Proofs.YtjjjagepnnbebaaGreatDoor

namespace Go.Proofs.YtjjjagepnnbebaaGreatDoor
open Go.RowKit
attribute [local go_sem ↓] Go.wp_at_zero Go.wp_at_succ

theorem nextW_head {x y : Wd} {r r' : List Wd} (h : nextW (x :: r) = .ok (y, r')) : y = x ∧ r' = if x.kind = 0 then x :: r else r := by
  unfold nextW at h
  cases hb : badW x with
  | some f => simp [hb] at h
  | none =>
    simp [hb] at h
    exact ⟨h.1.symm, h.2.symm⟩
theorem WsOk.drop {W r : List Wd} {x : Wd} {k : Nat} (h : WsOk W) (hd : W.drop k = x :: r) (hx : x.kind ≠ 0) : k + 1 < W.length := by
  obtain ⟨pre, e, rfl, he, hp⟩ := h
  apply Classical.byContradiction
  intro hc
  have hlt : k < (pre ++ [e]).length := by
    apply Classical.byContradiction
    intro hq
    rw [List.drop_eq_nil_of_le (by omega)] at hd
    cases hd
  have hk : k = pre.length := by simp at hlt hc; omega
  rw [hk, List.drop_left] at hd
  injection hd with h1 _
  exact hx (h1 ▸ he)
theorem MPost.good {α : Type} {w w' : World} {pb g : Nat} {W : List Wd} {c : Nat} {R : List Value} {Q : α → Ending → World → Prop} {r : Px α} {e : Ending} {x : α} {l : List Wd} (hr : r = .ok (x, l)) (hm : MkO (some pb) w w') (hq : Q x e w') (hb : MB w' pb g W c (.ok l) R) : MPost w pb g W c R Q r e w' := by
  subst hr
  exact ⟨hm, ⟨x, hq, fun y l h => by injection h with h; injection h with h _; exact h.symm⟩, hb⟩
theorem MB.turned {w w' : World} {pb g b : Nat} {W : List Wd} {c : Nat} {s : Ps} {R : List Value} (h : MB w pb g W c s R) (ht : Turned w w' b) (h1 : b ≠ pb) (h2 : b ≠ g) : MB w' pb g W c s R := by
  obtain ⟨k, cd, pos, hq, hk, hs⟩ := h.st
  exact ⟨⟨k, cd, pos, (ht.block pb (Ne.symm h1)).trans hq, hk, hs⟩, h.wds.block (ht.block g (Ne.symm h2)), h.far, h.ok, h.ends, h.caps, h.len⟩
end Go.Proofs.YtjjjagepnnbebaaGreatDoor

namespace Go.Proofs.YtjjjagepnnbebaaGreatDoor
open Go.RowKit
attribute [local go_sem ↓] Go.wp_at_zero Go.wp_at_succ

/-- Texts in memory. -/
def TxAt (w : World) (lb : Nat) (T : List Bs) : Prop := ∀ (j : Nat) (t : Bs), T[j]? = some t → w.cell? ⟨lb, j, none⟩ = some (.string (mkS t))
theorem TxAt.block {w w' : World} {lb : Nat} {T : List Bs} (h : TxAt w lb T) (hb : w'.heap[lb]? = w.heap[lb]?) : TxAt w' lb T := fun j t ht => (World.cell?_of_block (w := w) hb).trans (h j t ht)
def kOf (W r : List Wd) : Nat := W.length - (r.length + 1)
/-- Where the parser stands, told by the words that are left. -/
theorem MB.cells {w : World} {pb g : Nat} {W : List Wd} {c : Nat} {x : Wd} {r : List Wd} {R : List Value} (h : MB w pb g W c (.ok (x :: r)) R) : w.heap[pb]? = some (.cells (.slice (some ⟨g, 0, none⟩) W.length c :: .int .i64 (kOf W r : Int) :: .int .i64 0 :: .int .i64 ((0 : Nat) : Int) :: R).toArray 64 (0, 0)) ∧ kOf W r < W.length ∧ w.rangeAt g (kOf W r * 4) (wdV x) ∧ W.drop (kOf W r) = x :: r ∧ W.drop (kOf W r + 1) = r := by
  obtain ⟨k, cd, pos, hq, hk, rfl, rfl, hd⟩ := h.st
  have hl : k = kOf W r := by
    have := congrArg List.length hd
    simp at this
    unfold kOf
    omega
  obtain ⟨x', r', e, hx, hr⟩ := wdrop hd hk
  injection e with e1 e2
  subst e1
  subst e2
  rw [← hl]
  exact ⟨hq, hk, h.wds k x hx, hd, hr⟩
theorem MB.next {w w' : World} {pb g : Nat} {W : List Wd} {c : Nat} {x : Wd} {r : List Wd} {R : List Value} (h : MB w pb g W c (.ok (x :: r)) R) (hx : x.kind ≠ 0) (ht : Turned w w' pb) (hq : w'.heap[pb]? = some (.cells (.slice (some ⟨g, 0, none⟩) W.length c :: .int .i64 ((kOf W r + 1 : Nat) : Int) :: .int .i64 0 :: .int .i64 ((0 : Nat) : Int) :: R).toArray 64 (0, 0))) : MB w' pb g W c (.ok r) R := by
  obtain ⟨_, hk, _, hd, hr⟩ := h.cells
  exact h.to (s' := .ok r) (R' := R) ht.mko ⟨kOf W r + 1, 0, 0, hq, h.ends.drop hd hx, rfl, rfl, hr⟩
end Go.Proofs.YtjjjagepnnbebaaGreatDoor

namespace Go.Proofs.YtjjjagepnnbebaaGreatDoor
open Go.RowKit
attribute [local go_sem ↓] Go.wp_at_zero Go.wp_at_succ

/-- A command, as plain data. -/
structure Cd where
  kind : Int
  n : Int
  cls : ByteArray
  slots : List V
def cdL (x : Cd) (v : Value) : List Value := [.int .i64 x.kind, .int .i64 x.n, .string x.cls, v]
theorem own_turn {w w' : World} {base g : Nat} {e t : TypeId} {m : Nat} {v : Value} {n : Nat} {xs : List Value} {c : Array Value} (h : w.ownsRow base e m v n xs) (ht : Turned w w' g) (hb : w.heap[g]? = some (.cells c t (0, 0))) (hne : t ≠ e) : w'.ownsRow base e m v n xs :=
  owns_of_block h fun k hk => ht.block k (fun e => by
    subst e
    obtain ⟨c', hc'⟩ := own_type h hk
    exact own_far hb hc' hne)
end Go.Proofs.YtjjjagepnnbebaaGreatDoor

namespace Go.Proofs.YtjjjagepnnbebaaGreatDoor
open Go.RowKit Go.Maps
attribute [local go_sem ↓] Go.wp_at_zero Go.wp_at_succ

/-- A method of the parser, as an element; nil. -/
def fnR (pb : Nat) (v : Value) : Option (DataW Unit × List MemPlace) := match v with
  | .nilFunc => some (.lit (.bool true), [])
  | .func (.func i) a b => match a.toList, b.toList with
    | [.pointer (some ⟨q, 0, none⟩)], [] => if q = pb then some (.lit (.int .i64 (i : Int)), []) else none
    | _, _ => none
  | _ => none
def mth (pb i : Nat) : Value := .func (.func i) #[.pointer (some ⟨pb, 0, none⟩)] #[]
theorem fnR_mth (pb i : Nat) : fnR pb (mth pb i) = some (.lit (.int .i64 (i : Int)), []) := by
  simp [fnR, mth]
theorem fnR_nil {pb : Nat} {v : Value} {ps : List MemPlace} (h : fnR pb v = some (.lit (.bool true), ps)) : v = .nilFunc := by
  unfold fnR at h
  split at h
  · rfl
  · split at h
    · split at h
      · injection h with h
        injection h with h
        injection h with h
        cases h
      · cases h
    · cases h
  · cases h
theorem fnR_inv {pb i : Nat} {v : Value} {ps : List MemPlace} (h : fnR pb v = some (.lit (.int .i64 (i : Int)), ps)) : v = mth pb i := by
  unfold fnR at h
  split at h
  · injection h with h
    injection h with h
    injection h with h
    cases h
  · rename_i j a b
    split at h
    · rename_i q ha hb
      split at h
      · rename_i hq
        simp only [Option.some.injEq, Prod.mk.injEq, DataW.lit.injEq, Lit.int.injEq, true_and] at h
        subst hq
        have e1 : a = #[.pointer (some ⟨q, 0, none⟩)] := by
          apply Array.ext'
          simpa using ha
        have e2 : b = #[] := by
          apply Array.ext'
          simpa using hb
        have hj : j = i := Int.ofNat_inj.1 h.1
        rw [e1, e2, hj]
        rfl
      · cases h
    · cases h
  · cases h
/-- The map answers f. -/
def FInv (f : Bs → Option Nat) (D : DataW Unit) : Prop := ∀ s : Bs, (has D (.string s) = (f s).isSome) ∧ ∀ i z, f s = some i → D.atKey (.string s) z = .lit (.int .i64 (i : Int))
theorem FInv.start : FInv (fun _ => none) (.map []) := fun _ => ⟨rfl, fun _ _ h => by cases h⟩
theorem FInv.put {f : Bs → Option Nat} {D : DataW Unit} (h : FInv f D) (hm : IsMap D) (k : Bs) (i : Nat) : FInv (fun s => if s = k then some i else f s) (D.put (.string k) (.lit (.int .i64 (i : Int)))) := by
  intro s
  by_cases hs : s = k
  · subst hs
    refine ⟨?_, fun j z hj => ?_⟩
    · rw [has_put_same hm (k := .string s) trivial]
      simp
    · simp at hj
      subst hj
      rw [atKey_put_same hm (k := .string s) trivial]
  · have hne : (Lit.string s) ≠ .string k := fun e => hs (by injection e)
    refine ⟨?_, fun j z hj => ?_⟩
    · rw [has_put_other hne, (h s).1]
      simp [hs]
    · rw [atKey_put_other hne]
      exact (h s).2 j z (by simpa [hs] using hj)
def FnMap (w : World) (pb mb : Nat) (f : Bs → Option Nat) : Prop := ∃ n D, n ≤ 8 ∧ w.ownsMap Tryz.prog 9 (fnR pb) mb n D ∧ FInv f D
theorem FnMap.block {w w' : World} {pb mb : Nat} {f : Bs → Option Nat} (h : FnMap w pb mb f) (hb : w'.heap[mb]? = w.heap[mb]?) : FnMap w' pb mb f := by
  obtain ⟨n, D, hn, ⟨es, ck, h1, h2⟩, hf⟩ := h
  exact ⟨n, D, hn, ⟨es, ck, hb.trans h1, h2⟩, hf⟩
theorem FnMap.lt {w : World} {pb mb : Nat} {f : Bs → Option Nat} (h : FnMap w pb mb f) : mb < w.heap.size := by
  obtain ⟨n, D, _, ⟨es, ck, h1, _⟩, _⟩ := h
  exact lt_of_block' h1
theorem FnMap.mko {w w' : World} {pb mb : Nat} {f : Bs → Option Nat} (h : FnMap w pb mb f) (hm : MkO (some pb) w w') (hne : pb ≠ mb) : FnMap w' pb mb f := h.block (hm.block mb h.lt (fun e => hne (by injection e)))
theorem lawSx : Keyed Tryz.prog 9 := string_keyed Tryz.underlying9
theorem look_fn {w : World} {pb mb : Nat} {f : Bs → Option Nat} {t e : TypeId} (ht : Tryz.prog.underlying t = some (.map 9 e)) (hz : ∀ w, (zeroValue e).run Tryz.prog w = .ok .nilFunc w) (h : FnMap w pb mb f) {s : Bs} (hs : s.length ≤ 20000) :
    (Instr.lookup t (.map (some mb)) (.string (mkS s)) true).run Tryz.prog w = .ok (.tuple #[(match f s with | some i => mth pb i | none => .nilFunc), .bool (f s).isSome]) w := by
  obtain ⟨n, D, _, ho, hf⟩ := h
  have hsz : (mkS s).size ≤ maxLen := by rw [mkS_size]; unfold maxLen; omega
  obtain ⟨v, ps, hrun, hv⟩ := ho.look_ok lawSx (t := t) ht (hz w) (show fnR pb .nilFunc = some (.lit (.bool true), []) from rfl) (Go.WideMaps.keyOf_string_mk Tryz.underlying9 hsz)
  have e0 : (mkS s).data.toList = s := rfl
  rw [e0] at hrun hv
  rw [hrun, (hf s).1]
  cases hfs : f s with
  | none =>
    have hh : has D (.string s) = false := by rw [(hf s).1, hfs]; rfl
    rw [atKey_of_not_has hh] at hv
    rw [fnR_nil hv]
  | some i =>
    rw [(hf s).2 i _ hfs] at hv
    rw [fnR_inv hv]
def assertT : Bs := [97, 115, 115, 101, 114, 116]
def retractT : Bs := [114, 101, 116, 114, 97, 99, 116]
def modifyT : Bs := [109, 111, 100, 105, 102, 121]
def runT : Bs := [114, 117, 110]
def cmdF (s : Bs) : Option Nat := if s = runT then some 43 else if s = modifyT then some 42 else if s = retractT then some 41 else if s = assertT then some 40 else none
theorem takeW_ok {kd : Int} {l r : List Wd} {x : Wd} (h : takeW kd l = .ok (x, r)) : nextW l = .ok (x, r) ∧ pkW x = kd := by
  unfold takeW at h
  cases hr : nextW l with
  | error f => rw [hr] at h; cases h
  | ok p =>
    obtain ⟨y, t⟩ := p
    rw [hr] at h
    simp only at h
    by_cases hk : pkW y = kd
    · rw [if_pos hk] at h
      injection h with h
      rw [h]
      injection h with h1 h2
      subst h1
      exact ⟨rfl, hk⟩
    · rw [if_neg hk] at h
      cases h
theorem PSt.text {w : World} {pb : Nat} {src : Bs} {a : Option Addr} {c : Nat} {l r : List Wd} {R : List Value} {x : Wd} (h : PSt w pb src a c l R) (hr : nextW l = .ok (x, r)) : (ptW x).length ≤ 20000 := by
  obtain ⟨k, hs⟩ := h.sc
  obtain ⟨k', hk', _, hw⟩ := hs.pos
  have h1 := ((wordsAt_ok src k' hk').1 x (by rw [hw]; exact nextW_mem hr)).2
  have h2 := ptW_le x
  have h3 := hs.len
  omega
theorem PSt.cell {w : World} {pb j : Nat} {src : Bs} {a : Option Addr} {c : Nat} {l : List Wd} {R : List Value} {v : Value} (h : PSt w pb src a c l R) (hj : R[j]? = some v) : w.cell? ⟨pb, j + 2, none⟩ = some v := by
  obtain ⟨k, hs⟩ := h.sc
  simp [World.cell?, hs.blk, hj]
end Go.Proofs.YtjjjagepnnbebaaGreatDoor

namespace Go.Proofs.YtjjjagepnnbebaaGreatDoor
open Go.RowKit Go.Maps
attribute [local go_sem ↓] Go.wp_at_zero Go.wp_at_succ

/-- What a region leaves that may panic. -/
def PaQ (Q : Exit → Act → World → Prop) (T : List PanicEntry → World → Prop) : Exit → Act → World → Prop
  | .panic c, a, w => a.defers = [] ∧ T c w
  | e, a, w => Q e a w
theorem PaQ.imp {Q : Exit → Act → World → Prop} {T : List PanicEntry → World → Prop} (hT : ∀ c a w, a.defers = [] → T c w → Q (.panic c) a w) : ∀ (e : Exit) (a : Act) (w : World), PaQ Q T e a w → Q e a w := fun e a w h => by
  cases e <;> first | exact h | exact hT _ _ _ h.1 h.2
theorem wp_region_pa {P : Program} {id : Nat} {ops : Array Oper} {b : Bool} {Q : Exit → Act → World → Prop} (T : List PanicEntry → World → Prop) {a : Act} {w : World} (hT : ∀ c a w, a.defers = [] → T c w → Q (.panic c) a w) (h : (Code.region id ops b).wp P (PaQ Q T) a w) : (Code.region id ops b).wp P Q a w :=
  Code.wp_mono (PaQ.imp hT) h
theorem tkP {P : Program} {l : List Oper} {Q : Exit → Act → World → Prop} {T : List PanicEntry → World → Prop} {md : Region.Mode} {S : World → Prop} (i : Nat) {oi : Oper} {v : Value} {fuel : Nat} {listed : Array Bool} {a : Act} {w : World} (hS : S w)
    (h : wpAnyH P md l.toArray (PaQ Q T) S fuel (listed.setIfInBounds i true) (a.put oi.dst v) w) (hi : l[i]? = some oi := by rfl)
    (hs : Region.noSelect l.toArray = true := by kernel_rfl) (hf : Region.free md l.toArray listed i = true := by kernel_rfl) (hr : (Region.ready md l.toArray listed).contains i = true := by kernel_rfl)
    (hw : Region.wanted oi (yielded l.toArray a.tmps) = true := by rfl) (hy : ∀ w, S w → (execOp a.eval oi).run P w = .ok (.value v) w := by intro w hSw; (try dsimp only at hSw); go_simp; try with_reducible rfl) : wpAnyH P md l.toArray (PaQ Q T) S (fuel + 1) listed a w :=
  wpAnyH_take (List.getElem?_toArray.trans hi) hs hf hr (fun _ a _ h => ⟨by have h1 := h.1; unfold Act.put at h1; split at h1 <;> exact h1, h.2⟩) (.inl ⟨hw, hy⟩) hS h
theorem takeW_not {l r : List Wd} {x : Wd} {k : Int} (h : nextW l = .ok (x, r)) (hx : pkW x ≠ k) : takeW k l = .error (3, x.pos) := by
  unfold takeW
  rw [h]
  simp [hx]
/-- A command with the slice of its values. -/
abbrev CdX := Cd × Value
def cdC (x : CdX) : List Value := cdL x.1 x.2
def CdP (w : World) (B : Nat) (x : CdX) : Prop := ∃ la lc, x.2 = .slice la x.1.slots.length lc ∧ w.ownsRow B 93 3 x.2 x.1.slots.length (x.1.slots.flatMap V.cells)
/-- A row of commands that is owned, each with values of its own. -/
structure CO (w : World) (B : Nat) (a : Option Addr) (c : Nat) (M : List CdX) : Prop where
  row : w.ownsRow B 135 4 (.slice a M.length c) M.length (M.flatMap cdC)
  all : ∀ x ∈ M, CdP w B x
  pair : M.Pairwise fun x y => Apart x.2 y.2
theorem CO.nil (w : World) (B : Nat) : CO w B none 0 [] := ⟨World.ownsRow_nil _ _ _ _, fun x hx => by simp at hx, List.Pairwise.nil⟩
theorem CdP.mko {w w' : World} {B pb : Nat} {x : CdX} (h : CdP w B x) (hm : MkO (some pb) w w') (hp : pb < B) : CdP w' B x := by
  obtain ⟨la, lc, h1, h2⟩ := h
  exact ⟨la, lc, h1, own_mko h2 hm hp⟩
theorem CO.mko {w w' : World} {B pb : Nat} {a : Option Addr} {c : Nat} {M : List CdX} (h : CO w B a c M) (hm : MkO (some pb) w w') (hp : pb < B) : CO w' B a c M := ⟨own_mko h.row hm hp, fun x hx => (h.all x hx).mko hm hp, h.pair⟩
def RL (am cm rv lv ev bv : Value) : List Value := [am, cm, rv, lv, ev, bv]
theorem PSt.list {w w' : World} {pb : Nat} {src : Bs} {a : Option Addr} {c : Nat} {l : List Wd} {am cm rv lv ev bv v : Value} (h : PSt w pb src a c l (RL am cm rv lv ev bv)) (hv : w' = w.setCell ⟨pb, 5, none⟩ v) : PSt w' pb src a c l (RL am cm rv v ev bv) := by
  subst hv
  obtain ⟨k, hs⟩ := h.sc
  have hb : Below pb w (w.setCell ⟨pb, 5, none⟩ v) := (Turned.setCells [v] 5 w pb).below (Nat.le_refl pb)
  obtain ⟨k', hk', e', hw'⟩ := hs.pos
  refine ⟨⟨k, ⟨?_, rfl, hs.cap, hs.len, hs.bys.keep hs.far hb, hs.far, k', hk', ?_, hw'⟩⟩, h.env.keep hb⟩
  · have := heap_setCell_same (i := 5) hs.blk v
    rw [this]
    simp [RL]
  · simpa using e'
end Go.Proofs.YtjjjagepnnbebaaGreatDoor
