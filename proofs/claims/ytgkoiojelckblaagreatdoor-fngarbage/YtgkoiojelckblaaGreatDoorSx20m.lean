/-
  OUR OWN TEXT. The program's parser: a new one.
-/
import Derived.Test.YtgkoiojelckblaaGreatDoorKbd
namespace Go.Proofs.YtgkoiojelckblaaGreatDoor
open Go.RowKit Go.Maps
attribute [local go_sem ↓] Go.wp_at_zero Go.wp_at_succ

def FnM (w : World) (pb mb n : Nat) (f : Bs → Option Nat) : Prop := ∃ D, w.ownsMap Tryz.prog 9 (fnR pb) mb n D ∧ FInv f D
theorem FnM.put {w : World} {pb mb n : Nat} {f : Bs → Option Nat} {t e : TypeId} (h : FnM w pb mb n f) (ht : Tryz.prog.underlying t = some (.map 9 e)) (hn : n ≤ 8) (k : Bs) (hk : k.length ≤ 20000) (i : Nat) : ∃ w', (Instr.mapUpdate t (.map (some mb)) (.string (mkS k)) (mth pb i)).run Tryz.prog w = .ok () w' ∧ FnM w' pb mb (n + 1) (fun s => if s = k then some i else f s) ∧ w.grownBy w' (some mb) := by
  obtain ⟨D, ho, hf⟩ := h
  have hsz : (mkS k).size ≤ maxLen := by rw [mkS_size]; unfold maxLen; omega
  obtain ⟨w', hr, ho', hg⟩ := ho.update lawSx (t := t) ht (by unfold maxLen; omega) (Go.WideMaps.keyOf_string_mk Tryz.underlying9 hsz) (fnR_mth pb i)
  exact ⟨w', hr, ⟨_, ho', hf.put ho.isMap k i⟩, hg⟩
theorem FnM.made (w : World) (pb : Nat) : FnM (w.alloc (.map #[] 0)) pb w.heap.size 0 (fun _ => none) := ⟨_, World.ownsMap_made (H := Unit) w Tryz.prog 9 (fnR pb), FInv.start⟩
/-- Four keys. -/
theorem FnM.four {w : World} {pb mb : Nat} {t e : TypeId} (h : FnM w pb mb 0 (fun _ => none)) (ht : Tryz.prog.underlying t = some (.map 9 e)) (k1 k2 k3 k4 : Bs) (i1 i2 i3 i4 : Nat) (hk : k1.length ≤ 20000 ∧ k2.length ≤ 20000 ∧ k3.length ≤ 20000 ∧ k4.length ≤ 20000) : ∃ w1 w2 w3 w4,
    (Instr.mapUpdate t (.map (some mb)) (.string (mkS k1)) (mth pb i1)).run Tryz.prog w = .ok () w1 ∧ (Instr.mapUpdate t (.map (some mb)) (.string (mkS k2)) (mth pb i2)).run Tryz.prog w1 = .ok () w2 ∧ (Instr.mapUpdate t (.map (some mb)) (.string (mkS k3)) (mth pb i3)).run Tryz.prog w2 = .ok () w3 ∧ (Instr.mapUpdate t (.map (some mb)) (.string (mkS k4)) (mth pb i4)).run Tryz.prog w3 = .ok () w4 ∧
    FnMap w4 pb mb (fun s => if s = k4 then some i4 else if s = k3 then some i3 else if s = k2 then some i2 else if s = k1 then some i1 else none) ∧ MkO (some mb) w w4 := by
  obtain ⟨w1, r1, h1, g1⟩ := h.put ht (by omega) k1 hk.1 i1
  obtain ⟨w2, r2, h2, g2⟩ := h1.put ht (by omega) k2 hk.2.1 i2
  obtain ⟨w3, r3, h3, g3⟩ := h2.put ht (by omega) k3 hk.2.2.1 i3
  obtain ⟨w4, r4, ⟨D, h4, f4⟩, g4⟩ := h3.put ht (by omega) k4 hk.2.2.2 i4
  have mk : ∀ {u v : World}, u.grownBy v (some mb) → MkO (some mb) u v := fun hg => ⟨(Below.refl _ _).grown hg (Nat.zero_le _) (fun _ _ => Nat.zero_le _), fun g hl hne => hg.block g hl (fun e => hne e.symm)⟩
  exact ⟨w1, w2, w3, w4, r1, r2, r3, r4, ⟨4, D, by omega, h4, f4⟩, (((mk g1).trans (mk g2)).trans (mk g3)).trans (mk g4)⟩
def addT : Bs := [97, 100, 100]
def dropT : Bs := [100, 114, 111, 112]
def modT : Bs := [109, 111, 100]
def haltT : Bs := [104, 97, 108, 116]
def actF (s : Bs) : Option Nat := if s = haltT then some 31 else if s = modT then some 30 else if s = dropT then some 29 else if s = addT then some 28 else none
/-- A new parser. -/
def NpPost (a : Option Addr) (n c : Nat) (w : World) (e : Ending) (w' : World) : Prop := e = .returned (.pointer (some ⟨w.heap.size, 0, none⟩)) ∧ Below w.heap.size w w' ∧ ∃ am cm, w'.heap[w.heap.size]? = some (.cells (.slice a n c :: .int .i64 0 :: RL (.map (some am)) (.map (some cm)) (.slice none 0 0) (.slice none 0 0) (.slice none 0 0) (.int .i64 0)).toArray 70 (0, 0)) ∧ FnMap w' w.heap.size am actF ∧ FnMap w' w.heap.size cm cmdF ∧ w.heap.size < am ∧ w.heap.size < cm
set_option maxRecDepth 100000 in
set_option maxHeartbeats 1600000 in
theorem newParser_any (a : Option Addr) (n c : Nat) (w : World) : Calls Tryz.prog 14 #[.slice a n c] w (NpPost a n c w) := by
  have hmf : ∀ (fn : Fn) (first cap : Array Value) (w : World), (Instr.makeFunc fn first cap).run Tryz.prog w = .ok (.func fn first cap) w := fun _ _ _ _ => rfl
  have hm1 := fun w => run_makeMap (P := Tryz.prog) 66 w
  have hm2 := fun w => run_makeMap (P := Tryz.prog) 67 w
  go_enter Tryz.func14, Tryz.ntmps14
  go_upto_region 2 with fail
  refine lift_alloc ?_
  intro w0 hW0 hq0
  have HW0 := hidX hW0
  have hl0 : w.heap.size < w0.heap.size := lt_of_block' hq0
  obtain ⟨v1, v2, v3, v4, r1, r2, r3, r4, hF1, hK1⟩ := (FnM.made w0 w.heap.size).four (t := 66) Tryz.underlying66 addT dropT modT haltT 28 29 30 31 (by decide)
  unfold mth at r1 r2 r3 r4
  simp only [mkS, addT, dropT, modT, haltT] at r1 r2 r3 r4
  have hB4 : Below w0.heap.size w0 v4 := ((Below.refl _ _).alloc (Nat.le_refl _) _).trans (hK1.below (by simp) (fun g e => by injection e; omega))
  have hq4 := (hB4.block w.heap.size hl0).trans hq0
  have HF1 := hidX hF1
  have HB4 := hidX hB4
  have y4 : v4.cell? ⟨w.heap.size, 2, none⟩ = some (.map none) := by simp [World.cell?, hq4]
  have z4 : v4.frozen? ⟨w.heap.size, 2, none⟩ = false := by simp [World.frozen?, hq4]
  have hma : w0.heap.size < v4.heap.size := hF1.lt
  clear hF1 hK1 hB4 hW0
  go_upto_region 3 with fail
  refine lift_setW hq4 ?_
  intro w5 hq5 ht5
  have HF5 := hidX (HF1.out.block (ht5.block w0.heap.size (by omega)))
  have HB5 := hidX (HB4.out)
  have hs5 : v4.heap.size ≤ w5.heap.size := Nat.le_of_eq ht5.size.symm
  have HT5 := hidX ht5
  clear r1 r2 r3 r4 hq4 y4 z4 ht5 HF1
  obtain ⟨u1, u2, u3, u4, r1, r2, r3, r4, hF2, hK2⟩ := (FnM.made w5 w.heap.size).four (t := 67) Tryz.underlying67 assertT retractT modifyT runT 32 33 34 35 (by decide)
  unfold mth at r1 r2 r3 r4
  simp only [mkS, assertT, retractT, modifyT, runT] at r1 r2 r3 r4
  have hB6 : Below w5.heap.size w5 u4 := ((Below.refl _ _).alloc (Nat.le_refl _) _).trans (hK2.below (by simp) (fun g e => by injection e; omega))
  have hq6 := (hB6.block w.heap.size (by omega)).trans hq5
  have HF6 := hidX hF2
  have HF6a := hidX (HF5.out.block (hB6.block w0.heap.size (by omega)))
  have HB6 := hidX hB6
  have y6 : u4.cell? ⟨w.heap.size, 3, none⟩ = some (.map none) := by simp [World.cell?, hq6]
  have z6 : u4.frozen? ⟨w.heap.size, 3, none⟩ = false := by simp [World.frozen?, hq6]
  have hmc : w5.heap.size < u4.heap.size := hF2.lt
  clear hF2 hK2 hB6 hq5
  go_upto_region 4 with fail
  refine lift_setW hq6 ?_
  intro w7 hq7 ht7
  clear r1 r2 r3 r4 y6 z6
  go_wp2_with fail
  go_ret
  refine ⟨rfl, ?_, w0.heap.size, w5.heap.size, ?_, HF6a.out.block (ht7.block w0.heap.size (by omega)), HF6.out.block (ht7.block w5.heap.size (by omega)), hl0, by omega⟩
  · have b1 : Below w.heap.size w v4 := HW0.out.trans (HB4.out.mono (by omega))
    have b2 : Below w.heap.size w w5 := b1.trans (HT5.out.below (Nat.le_refl _))
    have b3 : Below w.heap.size w u4 := b2.trans (HB6.out.mono (by omega))
    exact b3.trans (ht7.below (Nat.le_refl _))
  · rw [hq7]
    rfl
/-- The parser is ready, if its text is not too long. -/
theorem NpPost.ready {src : Bs} {a : Option Addr} {c : Nat} {w w' : World} {am cm : Nat} (hq : w'.heap[w.heap.size]? = some (.cells (.slice a src.length c :: .int .i64 0 :: RL (.map (some am)) (.map (some cm)) (.slice none 0 0) (.slice none 0 0) (.slice none 0 0) (.int .i64 0)).toArray 70 (0, 0))) (hb : Below w.heap.size w w') (hv : BysAt w a src) (hc : src.length ≤ c) (hl : src.length ≤ 20000) (hfar : ∀ b o, a = some ⟨b, o, none⟩ → b < w.heap.size) (hE : EnvAt w w.heap.size) : PSt w' w.heap.size src a c (wordsOf src) (RL (.map (some am)) (.map (some cm)) (.slice none 0 0) (.slice none 0 0) (.slice none 0 0) (.int .i64 0)) :=
  ⟨⟨0, hq, rfl, hc, hl, hv.below hb, hfar, 0, Nat.zero_le _, rfl, rfl⟩, hE.keep hb⟩
end Go.Proofs.YtgkoiojelckblaaGreatDoor
