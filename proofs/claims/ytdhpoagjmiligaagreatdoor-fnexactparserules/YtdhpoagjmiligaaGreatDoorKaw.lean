/-
  OUR OWN TEXT. Sx18, Sx19, Sx20, one behind the other.
-/
import Derived.Test.YtdhpoagjmiligaaGreatDoorSx17m
import Derived.Test.YtdhpoagjmiligaaGreatDoorKap
import Derived.StringKeys
import Derived.Maps.Own
import Derived.Maps.OwnSet
import Derived.Maps.Views
import Derived.Maps.Keyed
import Derived.Test.YtdhpoagjmiligaaGreatDoorHwm
namespace Go.Proofs.YtdhpoagjmiligaaGreatDoor
open Go.RowKit Go.Maps
attribute [local go_sem ↓] Go.wp_at_zero Go.wp_at_succ

/-- A method of the parser, as an element; nil. -/
def fnR (pb : Nat) (v : Value) : Option (DataW Unit × List MemPlace) := match v with
  | .nilFunc => some (.lit (.bool true), [])
  | .func (.func i) a b => match a.toList, b.toList with
    | [.pointer (some ⟨q, 0, none⟩)], [] => if q = pb then some (.lit (.int .i64 (i : Int)), []) else none
    | _, _ => none
  | _ => none
def mth (pb i : Nat) : Value := .func (.func i) #[.pointer (some ⟨pb, 0, none⟩)] #[]
theorem fnR_mth (pb i : Nat) : fnR pb (mth pb i) = some (.lit (.int .i64 (i : Int)), []) := by
  simp [fnR, mth]
theorem fnR_nil {pb : Nat} {v : Value} {ps : List MemPlace} (h : fnR pb v = some (.lit (.bool true), ps)) : v = .nilFunc := by
  unfold fnR at h
  split at h
  · rfl
  · split at h
    · split at h
      · injection h with h
        injection h with h
        injection h with h
        cases h
      · cases h
    · cases h
  · cases h
theorem fnR_inv {pb i : Nat} {v : Value} {ps : List MemPlace} (h : fnR pb v = some (.lit (.int .i64 (i : Int)), ps)) : v = mth pb i := by
  unfold fnR at h
  split at h
  · injection h with h
    injection h with h
    injection h with h
    cases h
  · rename_i j a b
    split at h
    · rename_i q ha hb
      split at h
      · rename_i hq
        simp only [Option.some.injEq, Prod.mk.injEq, DataW.lit.injEq, Lit.int.injEq, true_and] at h
        subst hq
        have e1 : a = #[.pointer (some ⟨q, 0, none⟩)] := by
          apply Array.ext'
          simpa using ha
        have e2 : b = #[] := by
          apply Array.ext'
          simpa using hb
        have hj : j = i := Int.ofNat_inj.1 h.1
        rw [e1, e2, hj]
        rfl
      · cases h
    · cases h
  · cases h
/-- The map answers f. -/
def FInv (f : Bs → Option Nat) (D : DataW Unit) : Prop := ∀ s : Bs, (has D (.string s) = (f s).isSome) ∧ ∀ i z, f s = some i → D.atKey (.string s) z = .lit (.int .i64 (i : Int))
theorem FInv.start : FInv (fun _ => none) (.map []) := fun _ => ⟨rfl, fun _ _ h => by cases h⟩
theorem FInv.put {f : Bs → Option Nat} {D : DataW Unit} (h : FInv f D) (hm : IsMap D) (k : Bs) (i : Nat) : FInv (fun s => if s = k then some i else f s) (D.put (.string k) (.lit (.int .i64 (i : Int)))) := by
  intro s
  by_cases hs : s = k
  · subst hs
    refine ⟨?_, fun j z hj => ?_⟩
    · rw [has_put_same hm (k := .string s) trivial]
      simp
    · simp at hj
      subst hj
      rw [atKey_put_same hm (k := .string s) trivial]
  · have hne : (Lit.string s) ≠ .string k := fun e => hs (by injection e)
    refine ⟨?_, fun j z hj => ?_⟩
    · rw [has_put_other hne, (h s).1]
      simp [hs]
    · rw [atKey_put_other hne]
      exact (h s).2 j z (by simpa [hs] using hj)
def FnMap (w : World) (pb mb : Nat) (f : Bs → Option Nat) : Prop := ∃ n D, n ≤ 8 ∧ w.ownsMap Tryz.prog 9 (fnR pb) mb n D ∧ FInv f D
theorem FnMap.block {w w' : World} {pb mb : Nat} {f : Bs → Option Nat} (h : FnMap w pb mb f) (hb : w'.heap[mb]? = w.heap[mb]?) : FnMap w' pb mb f := by
  obtain ⟨n, D, hn, ⟨es, ck, h1, h2⟩, hf⟩ := h
  exact ⟨n, D, hn, ⟨es, ck, hb.trans h1, h2⟩, hf⟩
theorem FnMap.lt {w : World} {pb mb : Nat} {f : Bs → Option Nat} (h : FnMap w pb mb f) : mb < w.heap.size := by
  obtain ⟨n, D, _, ⟨es, ck, h1, _⟩, _⟩ := h
  exact lt_of_block' h1
theorem FnMap.mko {w w' : World} {pb mb : Nat} {f : Bs → Option Nat} (h : FnMap w pb mb f) (hm : MkO (some pb) w w') (hne : pb ≠ mb) : FnMap w' pb mb f := h.block (hm.block mb h.lt (fun e => hne (by injection e)))
theorem lawSx : Keyed Tryz.prog 9 := string_keyed Tryz.underlying9
theorem look_fn {w : World} {pb mb : Nat} {f : Bs → Option Nat} {t e : TypeId} (ht : Tryz.prog.underlying t = some (.map 9 e)) (hz : ∀ w, (zeroValue e).run Tryz.prog w = .ok .nilFunc w) (h : FnMap w pb mb f) {s : Bs} (hs : s.length ≤ 20000) :
    (Instr.lookup t (.map (some mb)) (.string (mkS s)) true).run Tryz.prog w = .ok (.tuple #[(match f s with | some i => mth pb i | none => .nilFunc), .bool (f s).isSome]) w := by
  obtain ⟨n, D, _, ho, hf⟩ := h
  have hsz : (mkS s).size ≤ maxLen := by rw [mkS_size]; unfold maxLen; omega
  obtain ⟨v, ps, hrun, hv⟩ := ho.look_ok lawSx (t := t) ht (hz w) (show fnR pb .nilFunc = some (.lit (.bool true), []) from rfl) (Go.WideMaps.keyOf_string_mk Tryz.underlying9 hsz)
  have e0 : (mkS s).data.toList = s := rfl
  rw [e0] at hrun hv
  rw [hrun, (hf s).1]
  cases hfs : f s with
  | none =>
    have hh : has D (.string s) = false := by rw [(hf s).1, hfs]; rfl
    rw [atKey_of_not_has hh] at hv
    rw [fnR_nil hv]
  | some i =>
    rw [(hf s).2 i _ hfs] at hv
    rw [fnR_inv hv]
def assertT : Bs := [97, 115, 115, 101, 114, 116]
def retractT : Bs := [114, 101, 116, 114, 97, 99, 116]
def modifyT : Bs := [109, 111, 100, 105, 102, 121]
def runT : Bs := [114, 117, 110]
def cmdF (s : Bs) : Option Nat := if s = runT then some 45 else if s = modifyT then some 44 else if s = retractT then some 43 else if s = assertT then some 42 else none
theorem takeW_ok {kd : Int} {l r : List Wd} {x : Wd} (h : takeW kd l = .ok (x, r)) : nextW l = .ok (x, r) ∧ pkW x = kd := by
  unfold takeW at h
  cases hr : nextW l with
  | error f => rw [hr] at h; cases h
  | ok p =>
    obtain ⟨y, t⟩ := p
    rw [hr] at h
    simp only at h
    by_cases hk : pkW y = kd
    · rw [if_pos hk] at h
      injection h with h
      rw [h]
      injection h with h1 h2
      subst h1
      exact ⟨rfl, hk⟩
    · rw [if_neg hk] at h
      cases h
theorem PSt.text {w : World} {pb : Nat} {src : Bs} {a : Option Addr} {c : Nat} {l r : List Wd} {R : List Value} {x : Wd} (h : PSt w pb src a c l R) (hr : nextW l = .ok (x, r)) : (ptW x).length ≤ 20000 := by
  obtain ⟨k, hs⟩ := h.sc
  obtain ⟨k', hk', _, hw⟩ := hs.pos
  have h1 := ((wordsAt_ok src k' hk').1 x (by rw [hw]; exact nextW_mem hr)).2
  have h2 := ptW_le x
  have h3 := hs.len
  omega
theorem PSt.cell {w : World} {pb j : Nat} {src : Bs} {a : Option Addr} {c : Nat} {l : List Wd} {R : List Value} {v : Value} (h : PSt w pb src a c l R) (hj : R[j]? = some v) : w.cell? ⟨pb, j + 2, none⟩ = some v := by
  obtain ⟨k, hs⟩ := h.sc
  simp [World.cell?, hs.blk, hj]
end Go.Proofs.YtdhpoagjmiligaaGreatDoor

namespace Go.Proofs.YtdhpoagjmiligaaGreatDoor
open Go.RowKit Go.Maps
attribute [local go_sem ↓] Go.wp_at_zero Go.wp_at_succ

/-- What a region leaves that may panic. -/
def PaQ (Q : Exit → Act → World → Prop) (T : List PanicEntry → World → Prop) : Exit → Act → World → Prop
  | .panic c, a, w => a.defers = [] ∧ T c w
  | e, a, w => Q e a w
theorem PaQ.imp {Q : Exit → Act → World → Prop} {T : List PanicEntry → World → Prop} (hT : ∀ c a w, a.defers = [] → T c w → Q (.panic c) a w) : ∀ (e : Exit) (a : Act) (w : World), PaQ Q T e a w → Q e a w := fun e a w h => by
  cases e <;> first | exact h | exact hT _ _ _ h.1 h.2
theorem wp_region_pa {P : Program} {id : Nat} {ops : Array Oper} {b : Bool} {Q : Exit → Act → World → Prop} (T : List PanicEntry → World → Prop) {a : Act} {w : World} (hT : ∀ c a w, a.defers = [] → T c w → Q (.panic c) a w) (h : (Code.region id ops b).wp P (PaQ Q T) a w) : (Code.region id ops b).wp P Q a w :=
  Code.wp_mono (PaQ.imp hT) h
theorem tkP {P : Program} {l : List Oper} {Q : Exit → Act → World → Prop} {T : List PanicEntry → World → Prop} {md : Region.Mode} {S : World → Prop} (i : Nat) {oi : Oper} {v : Value} {fuel : Nat} {listed : Array Bool} {a : Act} {w : World} (hS : S w)
    (h : wpAnyH P md l.toArray (PaQ Q T) S fuel (listed.setIfInBounds i true) (a.put oi.dst v) w) (hi : l[i]? = some oi := by rfl)
    (hs : Region.noSelect l.toArray = true := by kernel_rfl) (hf : Region.free md l.toArray listed i = true := by kernel_rfl) (hr : (Region.ready md l.toArray listed).contains i = true := by kernel_rfl)
    (hw : Region.wanted oi (yielded l.toArray a.tmps) = true := by rfl) (hy : ∀ w, S w → (execOp a.eval oi).run P w = .ok (.value v) w := by intro w hSw; (try dsimp only at hSw); go_simp; try with_reducible rfl) : wpAnyH P md l.toArray (PaQ Q T) S (fuel + 1) listed a w :=
  wpAnyH_take (List.getElem?_toArray.trans hi) hs hf hr (fun _ a _ h => ⟨by have h1 := h.1; unfold Act.put at h1; split at h1 <;> exact h1, h.2⟩) (.inl ⟨hw, hy⟩) hS h
theorem takeW_not {l r : List Wd} {x : Wd} {k : Int} (h : nextW l = .ok (x, r)) (hx : pkW x ≠ k) : takeW k l = .error (3, x.pos) := by
  unfold takeW
  rw [h]
  simp [hx]
/-- A command with the slice of its values. -/
abbrev CdX := Cd × Value
def cdC (x : CdX) : List Value := cdL x.1 x.2
def CdP (w : World) (B : Nat) (x : CdX) : Prop := ∃ la lc, x.2 = .slice la x.1.slots.length lc ∧ w.ownsRow B 101 3 x.2 x.1.slots.length (x.1.slots.flatMap V.cells)
/-- A row of commands that is owned, each with values of its own. -/
structure CO (w : World) (B : Nat) (a : Option Addr) (c : Nat) (M : List CdX) : Prop where
  row : w.ownsRow B 67 4 (.slice a M.length c) M.length (M.flatMap cdC)
  all : ∀ x ∈ M, CdP w B x
  pair : M.Pairwise fun x y => Apart x.2 y.2
theorem CO.nil (w : World) (B : Nat) : CO w B none 0 [] := ⟨World.ownsRow_nil _ _ _ _, fun x hx => by simp at hx, List.Pairwise.nil⟩
def RL (am cm rv lv ev bv : Value) : List Value := [am, cm, rv, lv, ev, bv]
theorem PSt.list {w w' : World} {pb : Nat} {src : Bs} {a : Option Addr} {c : Nat} {l : List Wd} {am cm rv lv ev bv v : Value} (h : PSt w pb src a c l (RL am cm rv lv ev bv)) (hv : w' = w.setCell ⟨pb, 5, none⟩ v) : PSt w' pb src a c l (RL am cm rv v ev bv) := by
  subst hv
  obtain ⟨k, hs⟩ := h.sc
  have hb : Below pb w (w.setCell ⟨pb, 5, none⟩ v) := (Turned.setCells [v] 5 w pb).below (Nat.le_refl pb)
  obtain ⟨k', hk', e', hw'⟩ := hs.pos
  refine ⟨⟨k, ⟨?_, rfl, hs.cap, hs.len, hs.bys.keep hs.far hb, hs.far, k', hk', ?_, hw'⟩⟩, h.env.keep hb⟩
  · have := heap_setCell_same (i := 5) hs.blk v
    rw [this]
    simp [RL]
  · simpa using e'
end Go.Proofs.YtdhpoagjmiligaaGreatDoor

namespace Go.Proofs.YtdhpoagjmiligaaGreatDoor
open Go.RowKit Go.Maps
attribute [local go_sem ↓] Go.wp_at_zero Go.wp_at_succ

def FnM (w : World) (pb mb n : Nat) (f : Bs → Option Nat) : Prop := ∃ D, w.ownsMap Tryz.prog 9 (fnR pb) mb n D ∧ FInv f D
theorem FnM.put {w : World} {pb mb n : Nat} {f : Bs → Option Nat} {t e : TypeId} (h : FnM w pb mb n f) (ht : Tryz.prog.underlying t = some (.map 9 e)) (hn : n ≤ 8) (k : Bs) (hk : k.length ≤ 20000) (i : Nat) : ∃ w', (Instr.mapUpdate t (.map (some mb)) (.string (mkS k)) (mth pb i)).run Tryz.prog w = .ok () w' ∧ FnM w' pb mb (n + 1) (fun s => if s = k then some i else f s) ∧ w.grownBy w' (some mb) := by
  obtain ⟨D, ho, hf⟩ := h
  have hsz : (mkS k).size ≤ maxLen := by rw [mkS_size]; unfold maxLen; omega
  obtain ⟨w', hr, ho', hg⟩ := ho.update lawSx (t := t) ht (by unfold maxLen; omega) (Go.WideMaps.keyOf_string_mk Tryz.underlying9 hsz) (fnR_mth pb i)
  exact ⟨w', hr, ⟨_, ho', hf.put ho.isMap k i⟩, hg⟩
theorem FnM.made (w : World) (pb : Nat) : FnM (w.alloc (.map #[] 0)) pb w.heap.size 0 (fun _ => none) := ⟨_, World.ownsMap_made (H := Unit) w Tryz.prog 9 (fnR pb), FInv.start⟩
/-- Four keys. -/
theorem FnM.four {w : World} {pb mb : Nat} {t e : TypeId} (h : FnM w pb mb 0 (fun _ => none)) (ht : Tryz.prog.underlying t = some (.map 9 e)) (k1 k2 k3 k4 : Bs) (i1 i2 i3 i4 : Nat) (hk : k1.length ≤ 20000 ∧ k2.length ≤ 20000 ∧ k3.length ≤ 20000 ∧ k4.length ≤ 20000) : ∃ w1 w2 w3 w4,
    (Instr.mapUpdate t (.map (some mb)) (.string (mkS k1)) (mth pb i1)).run Tryz.prog w = .ok () w1 ∧ (Instr.mapUpdate t (.map (some mb)) (.string (mkS k2)) (mth pb i2)).run Tryz.prog w1 = .ok () w2 ∧ (Instr.mapUpdate t (.map (some mb)) (.string (mkS k3)) (mth pb i3)).run Tryz.prog w2 = .ok () w3 ∧ (Instr.mapUpdate t (.map (some mb)) (.string (mkS k4)) (mth pb i4)).run Tryz.prog w3 = .ok () w4 ∧
    FnMap w4 pb mb (fun s => if s = k4 then some i4 else if s = k3 then some i3 else if s = k2 then some i2 else if s = k1 then some i1 else none) ∧ MkO (some mb) w w4 := by
  obtain ⟨w1, r1, h1, g1⟩ := h.put ht (by omega) k1 hk.1 i1
  obtain ⟨w2, r2, h2, g2⟩ := h1.put ht (by omega) k2 hk.2.1 i2
  obtain ⟨w3, r3, h3, g3⟩ := h2.put ht (by omega) k3 hk.2.2.1 i3
  obtain ⟨w4, r4, ⟨D, h4, f4⟩, g4⟩ := h3.put ht (by omega) k4 hk.2.2.2 i4
  have mk : ∀ {u v : World}, u.grownBy v (some mb) → MkO (some mb) u v := fun hg => ⟨(Below.refl _ _).grown hg (Nat.zero_le _) (fun _ _ => Nat.zero_le _), fun g hl hne => hg.block g hl (fun e => hne e.symm)⟩
  exact ⟨w1, w2, w3, w4, r1, r2, r3, r4, ⟨4, D, by omega, h4, f4⟩, (((mk g1).trans (mk g2)).trans (mk g3)).trans (mk g4)⟩
def addT : Bs := [97, 100, 100]
def dropT : Bs := [100, 114, 111, 112]
def modT : Bs := [109, 111, 100]
def haltT : Bs := [104, 97, 108, 116]
def actF (s : Bs) : Option Nat := if s = haltT then some 41 else if s = modT then some 40 else if s = dropT then some 39 else if s = addT then some 38 else none
/-- A new parser. -/
def NpPost (a : Option Addr) (n c : Nat) (w : World) (e : Ending) (w' : World) : Prop := e = .returned (.pointer (some ⟨w.heap.size, 0, none⟩)) ∧ Below w.heap.size w w' ∧ ∃ am cm, w'.heap[w.heap.size]? = some (.cells (.slice a n c :: .int .i64 0 :: RL (.map (some am)) (.map (some cm)) (.slice none 0 0) (.slice none 0 0) (.slice none 0 0) (.int .i64 0)).toArray 62 (0, 0)) ∧ FnMap w' w.heap.size am actF ∧ FnMap w' w.heap.size cm cmdF ∧ w.heap.size < am ∧ w.heap.size < cm
set_option maxRecDepth 100000 in
set_option maxHeartbeats 1600000 in
theorem newParser_any (a : Option Addr) (n c : Nat) (w : World) : Calls Tryz.prog 22 #[.slice a n c] w (NpPost a n c w) := by
  have hmf : ∀ (fn : Fn) (first cap : Array Value) (w : World), (Instr.makeFunc fn first cap).run Tryz.prog w = .ok (.func fn first cap) w := fun _ _ _ _ => rfl
  have hm1 := fun w => run_makeMap (P := Tryz.prog) 59 w
  have hm2 := fun w => run_makeMap (P := Tryz.prog) 60 w
  go_enter Tryz.func22, Tryz.ntmps22
  go_upto_region 2 with fail
  refine lift_alloc ?_
  intro w0 hW0 hq0
  have HW0 := hidX hW0
  have hl0 : w.heap.size < w0.heap.size := lt_of_block' hq0
  obtain ⟨v1, v2, v3, v4, r1, r2, r3, r4, hF1, hK1⟩ := (FnM.made w0 w.heap.size).four (t := 59) Tryz.underlying59 addT dropT modT haltT 38 39 40 41 (by decide)
  unfold mth at r1 r2 r3 r4
  simp only [mkS, addT, dropT, modT, haltT] at r1 r2 r3 r4
  have hB4 : Below w0.heap.size w0 v4 := ((Below.refl _ _).alloc (Nat.le_refl _) _).trans (hK1.below (by simp) (fun g e => by injection e; omega))
  have hq4 := (hB4.block w.heap.size hl0).trans hq0
  have HF1 := hidX hF1
  have HB4 := hidX hB4
  have y4 : v4.cell? ⟨w.heap.size, 2, none⟩ = some (.map none) := by simp [World.cell?, hq4]
  have z4 : v4.frozen? ⟨w.heap.size, 2, none⟩ = false := by simp [World.frozen?, hq4]
  have hma : w0.heap.size < v4.heap.size := hF1.lt
  clear hF1 hK1 hB4 hW0
  go_upto_region 3 with fail
  refine lift_setW hq4 ?_
  intro w5 hq5 ht5
  have HF5 := hidX (HF1.out.block (ht5.block w0.heap.size (by omega)))
  have HB5 := hidX (HB4.out)
  have hs5 : v4.heap.size ≤ w5.heap.size := Nat.le_of_eq ht5.size.symm
  have HT5 := hidX ht5
  clear r1 r2 r3 r4 hq4 y4 z4 ht5 HF1
  obtain ⟨u1, u2, u3, u4, r1, r2, r3, r4, hF2, hK2⟩ := (FnM.made w5 w.heap.size).four (t := 60) Tryz.underlying60 assertT retractT modifyT runT 42 43 44 45 (by decide)
  unfold mth at r1 r2 r3 r4
  simp only [mkS, assertT, retractT, modifyT, runT] at r1 r2 r3 r4
  have hB6 : Below w5.heap.size w5 u4 := ((Below.refl _ _).alloc (Nat.le_refl _) _).trans (hK2.below (by simp) (fun g e => by injection e; omega))
  have hq6 := (hB6.block w.heap.size (by omega)).trans hq5
  have HF6 := hidX hF2
  have HF6a := hidX (HF5.out.block (hB6.block w0.heap.size (by omega)))
  have HB6 := hidX hB6
  have y6 : u4.cell? ⟨w.heap.size, 3, none⟩ = some (.map none) := by simp [World.cell?, hq6]
  have z6 : u4.frozen? ⟨w.heap.size, 3, none⟩ = false := by simp [World.frozen?, hq6]
  have hmc : w5.heap.size < u4.heap.size := hF2.lt
  clear hF2 hK2 hB6 hq5
  go_upto_region 4 with fail
  refine lift_setW hq6 ?_
  intro w7 hq7 ht7
  clear r1 r2 r3 r4 y6 z6
  go_wp2_with fail
  go_ret
  refine ⟨rfl, ?_, w0.heap.size, w5.heap.size, ?_, HF6a.out.block (ht7.block w0.heap.size (by omega)), HF6.out.block (ht7.block w5.heap.size (by omega)), hl0, by omega⟩
  · have b1 : Below w.heap.size w v4 := HW0.out.trans (HB4.out.mono (by omega))
    have b2 : Below w.heap.size w w5 := b1.trans (HT5.out.below (Nat.le_refl _))
    have b3 : Below w.heap.size w u4 := b2.trans (HB6.out.mono (by omega))
    exact b3.trans (ht7.below (Nat.le_refl _))
  · rw [hq7]
    rfl
/-- The parser is ready, if its text is not too long. -/
theorem NpPost.ready {src : Bs} {a : Option Addr} {c : Nat} {w w' : World} {am cm : Nat} (hq : w'.heap[w.heap.size]? = some (.cells (.slice a src.length c :: .int .i64 0 :: RL (.map (some am)) (.map (some cm)) (.slice none 0 0) (.slice none 0 0) (.slice none 0 0) (.int .i64 0)).toArray 62 (0, 0))) (hb : Below w.heap.size w w') (hv : BysAt w a src) (hc : src.length ≤ c) (hl : src.length ≤ 20000) (hfar : ∀ b o, a = some ⟨b, o, none⟩ → b < w.heap.size) (hE : EnvAt w w.heap.size) : PSt w' w.heap.size src a c (wordsOf src) (RL (.map (some am)) (.map (some cm)) (.slice none 0 0) (.slice none 0 0) (.slice none 0 0) (.int .i64 0)) :=
  ⟨⟨0, hq, rfl, hc, hl, hv.below hb, hfar, 0, Nat.zero_le _, rfl, rfl⟩, hE.keep hb⟩
end Go.Proofs.YtdhpoagjmiligaaGreatDoor
