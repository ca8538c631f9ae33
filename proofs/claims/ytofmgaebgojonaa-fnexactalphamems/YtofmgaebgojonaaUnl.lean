/-
  OUR OWN TEXT. The program's allUnlike: as many keys as facts, just where no two facts are alike.
-/
import Derived.Test.YtofmgaebgojonaaKeyLit
import Derived.Deep.RegionWith
namespace Go.Proofs.Ytofmgaebgojonaa
open Go.RowKit Go.Maps
attribute [local go_sem ↓] Go.wp_at_zero Go.wp_at_succ

theorem run_makeMap_hint {P : Program} {t k e : TypeId} (ht : P.underlying t = some (.map k e)) (n : Int) (w : World) : (Instr.makeMap t (some (.int .i64 n))).run P w = .ok (.map (some w.heap.size)) (w.alloc (.map #[] 0)) := by
  simp [Instr.makeMap, run_underlying ht, asInt, asIntOf]

theorem MInv.stop {kl : F → Lit} {fs : List F} {k : Nat} {D : DataW Unit} (h : MInv kl fs k D) (h1 : k ≤ fs.length) (h2 : fs.length ≤ k) : (((Maps.size D : Nat) : Int) == (fs.length : Int)) = decide ((fs.map like).Nodup) := by
  obtain rfl : k = fs.length := by omega
  have hi := h.iff
  rw [List.take_of_length_le (Nat.le_refl _)] at hi
  by_cases hn : (fs.map like).Nodup
  · rw [decide_eq_true hn]
    have := hi.2 hn
    simp [this]
  · rw [decide_eq_false hn]
    have : Maps.size D ≠ fs.length := fun e => hn (hi.1 e)
    simp
    omega

theorem hidden {p : Prop} (h : p) : Hid p := h

theorem ownsMap_below {H : Type} {w w' : World} {P : Program} {k : TypeId} {R : Value → Option (DataW H × List MemPlace)} {b n B : Nat} {D : DataW H} (h : w.ownsMap P k R b n D) (hb : Below B w w') (hB : b < B) : w'.ownsMap P k R b n D := by
  obtain ⟨es, clock, h1, h2⟩ := h
  exact ⟨es, clock, (hb.block b hB).trans h1, h2⟩

set_option maxRecDepth 100000 in
set_option maxHeartbeats 1600000 in
theorem allUnlike_any (a : Option Addr) (c : Nat) (fs : List F) (w : World) (hv : FactsAt w a fs) (hl : fs.length ≤ 40) (hk : ∀ f ∈ fs, KOk f) (htag : ∀ f ∈ fs, (Lit.int .i64 f.tag).wf = true) :
    Calls Try.prog 115 #[.slice a fs.length c] w fun e w' =>
      e = .returned (.bool (decide ((fs.map like).Nodup))) ∧ Below w.heap.size w w' := by
  obtain ⟨kl, K⟩ := KL.exist
  have hmm := run_makeMap_hint (P := Try.prog) (t := 212) Try.underlying212
  go_enter Try.func115, Try.ntmps115
  go_wp2
  clear hmm
  go_loopw [11] (fun i wr => ∃ (k : Nat) (D : DataW Unit), k ≤ fs.length ∧ i = .int .i64 k ∧ wr.ownsMap Try.prog 215 (plainElem Try.prog 3) w.heap.size k D ∧ MInv kl fs k D ∧ Below w.heap.size w wr) (fun i _ => fs.length - (intOf i).toNat)
  case atStart => exact ⟨0, .map [], by omega, rfl, World.ownsMap_made _ _ _ _, MInv.start kl fs, (Below.refl _ _).alloc (Nat.le_refl _) _⟩
  case round =>
    obtain ⟨k, D, hk', rfl, hown, hI, hb⟩ := hrel
    by_cases hkl : k < fs.length
    · obtain ⟨f, hfk⟩ : ∃ f, fs[k]? = some f := ⟨fs[k], by simp [hkl]⟩
      obtain ⟨b, o, rfl, c0, c1, s, cs, c2, hsl⟩ := hv.below hb k f hfk
      have hok := hk f (List.mem_of_getElem? hfk)
      have htg := htag f (List.mem_of_getElem? hfk)
      go_wp2
      have HO : Hid (wr.ownsMap Try.prog 215 (plainElem Try.prog 3) w.heap.size k D) := hown
      have B1 : ∀ o, Below wr.heap.size wr (wr.alloc o) := fun o => (Below.refl _ _).alloc (Nat.le_refl _) _
      have hBl : w.heap.size < wr.heap.size := hown.lt
      clear hown
      go_region_held3 (fun w' => w'.cell? ⟨wr.heap.size, 0, none⟩ = some (.int .i64 f.tag) ∧ w'.cell? ⟨wr.heap.size, 1, none⟩ = some (.string f.cls) ∧ w'.cell? ⟨wr.heap.size, 2, none⟩ = some (.slice s f.slots.length cs)) ((go_split_ands; refine ⟨?_, ?_, ?_⟩ <;> first | (simp [*, go_sem]; done) | exact cell_below hb' (by simp [*, go_sem]) | exact HG2.out.cell (cell_below hb' (by simp [*, go_sem])) (by simp; omega)))
        (first | (go_at_call 155; refine (key_any f s cs _ (hsl.below ?_) hok.2.1).mono ?_; exact (B1 _).drew; rintro e w' ⟨rfl, hb'⟩; obtain ⟨w2, hrun, ho2, hg2⟩ := (ownsMap_below (HO.out.alloc _).drew hb' (by simp; omega)).update lawK (t := 212) Try.underlying212 (by unfold maxLen; omega) (K f hok) (plainElem_int Try.underlying3 htg); have HO2 := hidden ho2; have HG2 := hidden hg2; clear ho2 hg2))
      have hgB : Below w.heap.size w w2 := (hb.trans (((B1 _).drew.trans (hb'.mono (by simp))).mono hb.size)).grown HG2.out (by have := hb'.size; simp at this; omega) (fun j hj => by cases hj; exact Nat.le_refl _)
      have hI2 := hI.step K (HO.out.tidy lawK) hfk hok (.lit (.int .i64 f.tag))
      clear hrun hI
      go_wp2
      go_roundw
      case rel => exact ⟨k + 1, _, by omega, by go_num, HO2.out, hI2, hgB⟩
      case measure => simp [intOf]; omega
    · have hlen := fun ty => hown.len (t := 212) Try.underlying212 ty
      go_wp2
      go_ret
      exact ⟨ret_bool (hI.stop hk' (by omega)), hb⟩
end Go.Proofs.Ytofmgaebgojonaa
