/-
  OUR OWN TEXT. Key, KeyLit, Unl, one behind the other.
-/
import Derived.Test.YtgamdkokmkagaaaJc
import Derived.Test.YtgamdkokmkagaaaJm
import Derived.Deep.RegionHeld3
import Derived.Deep.DrawnRows
import Derived.Maps.RangeWalk
import Derived.Test.YtgamdkokmkagaaaJa
import Derived.Maps.OwnSet
import Derived.DeepKeys4
import Derived.Deep.RegionWith
namespace Go.Proofs.Ytgamdkokmkagaaa
open Go.RowKit
attribute [local go_sem ↓] Go.wp_at_zero Go.wp_at_succ

def zV : V := (0, 0, ByteArray.empty)
/-- Six values: the slots, and zero values behind them. -/
def pad (vs : List V) : List V := vs ++ List.replicate (6 - vs.length) zV
def keyOn (cls : ByteArray) (n : Nat) (vs : List V) : List Value := .string cls :: .int .i64 n :: vs.flatMap V.cells
def keyCells (f : F) : List Value := keyOn f.cls f.slots.length (pad f.slots)

theorem flat_len (vs : List V) : (vs.flatMap V.cells).length = vs.length * 3 := by
  induction vs with
  | nil => rfl
  | cons v r ih => simp [ih, V.cells]; omega
theorem flat_one (vs : List V) : ∀ x ∈ vs.flatMap V.cells, x.oneCell' = true := by
  intro x hx
  obtain ⟨v, _, hv⟩ := List.mem_flatMap.1 hx
  simp [V.cells] at hv
  rcases hv with rfl | rfl | rfl <;> rfl
theorem keyOn_len (cls : ByteArray) (n : Nat) (vs : List V) : (keyOn cls n vs).length = vs.length * 3 + 2 := by
  show (vs.flatMap V.cells).length + 1 + 1 = _
  rw [flat_len]
theorem keyOn_one (cls : ByteArray) (n : Nat) (vs : List V) : ∀ x ∈ keyOn cls n vs, x.oneCell' = true := by
  intro x hx
  simp only [keyOn, List.mem_cons] at hx
  rcases hx with rfl | rfl | hx
  · rfl
  · rfl
  · exact flat_one vs x hx
theorem pad_len (vs : List V) (h : vs.length ≤ 6) : (pad vs).length = 6 := by simp [pad]; omega
theorem key_splice (cls : ByteArray) (n : Nat) (vs : List V) (h : vs.length ≤ 6) :
    (keyOn cls n (List.replicate 6 zV)).take 2 ++ (vs.flatMap V.cells ++ (keyOn cls n (List.replicate 6 zV)).drop (2 + (vs.flatMap V.cells).length)) = keyOn cls n (pad vs) := by
  have e : ∀ k, k ≤ 6 → ((List.replicate 6 zV).flatMap V.cells).drop (k * 3) = (List.replicate (6 - k) zV).flatMap V.cells := by
    intro k hk
    rcases (show k = 0 ∨ k = 1 ∨ k = 2 ∨ k = 3 ∨ k = 4 ∨ k = 5 ∨ k = 6 by omega) with rfl | rfl | rfl | rfl | rfl | rfl | rfl <;> rfl
  rw [flat_len]
  unfold keyOn pad
  rw [List.flatMap_append, ← e vs.length h, show 2 + vs.length * 3 = vs.length * 3 + 1 + 1 by omega]
  rfl

/-- The cells of some values, one by one. -/
theorem flat_at (vs : List V) (j : Nat) (x : Value) (h : (vs.flatMap V.cells)[j]? = some x) : ∃ v, vs[j / 3]? = some v ∧ v.cells[j % 3]? = some x := by
  induction vs generalizing j with
  | nil => simp at h
  | cons v r ih =>
    rw [List.flatMap_cons] at h
    by_cases hj : j < 3
    · rw [List.getElem?_append_left (by simpa [V.cells] using hj)] at h
      refine ⟨v, ?_, ?_⟩
      · rw [show j / 3 = 0 by omega]; rfl
      · rwa [show j % 3 = j by omega]
    · rw [List.getElem?_append_right (by simp [V.cells]; omega)] at h
      obtain ⟨u, h1, h2⟩ := ih (j - v.cells.length) h
      simp only [V.cells, List.length_cons, List.length_nil] at h1 h2
      refine ⟨u, ?_, ?_⟩
      · rw [show j / 3 = (j - (0 + 1 + 1 + 1)) / 3 + 1 by omega]; exact h1
      · rwa [show j % 3 = (j - (0 + 1 + 1 + 1)) % 3 by omega]

theorem ValsAt.flat {w : World} {ad : Addr} {vs : List V} (h : ValsAt w (some ad) vs) (j : Nat) (x : Value) (hx : (vs.flatMap V.cells)[j]? = some x) : w.cell? (ad.add j) = some x := by
  obtain ⟨v, hv, hc⟩ := flat_at vs j x hx
  obtain ⟨b, o, he, h0, h1, h2⟩ := h _ v hv
  cases he
  have hadd : (⟨b, o, none⟩ : Addr).add j = ⟨b, o + j, none⟩ := Addr.add_mid b o j
  rw [hadd]
  rcases (show j % 3 = 0 ∨ j % 3 = 1 ∨ j % 3 = 2 by omega) with e | e | e <;> rw [e] at hc <;> simp [V.cells] at hc <;> subst hc
  · rw [show o + j = o + j / 3 * 3 by omega]; exact h0
  · rw [show o + j = o + j / 3 * 3 + 1 by omega]; exact h1
  · rw [show o + j = o + j / 3 * 3 + 2 by omega]; exact h2

theorem ValsAt.nil {w : World} {vs : List V} (h : ValsAt w none vs) : vs.length = 0 := by
  cases vs with
  | nil => rfl
  | cons v r =>
    obtain ⟨b, o, he, _⟩ := h 0 v rfl
    cases he

theorem new_blk (w : World) (o : Obj) (n : Nat) (h : w.heap.size = n) : (w.alloc o).heap[n]? = some o := by
  subst h
  exact heap_alloc_new _ _

theorem infoK : (Try.prog.info? 232).map (·.size) = some 20 := by kernel_rfl
theorem sizeV : (Try.prog.info? 125).map (·.size) = some 3 := by kernel_rfl

set_option maxHeartbeats 1000000 in
theorem key_any (f : F) (a : Option Addr) (c : Nat) (w : World) (hv : ValsAt w a f.slots) (hl : f.slots.length ≤ 6) :
    Calls Try.prog 173 #[.agg #[.int .i64 f.tag, .string f.cls, .slice a f.slots.length c]] w fun e w' =>
      e = .returned (.agg (keyCells f).toArray) ∧ Below w.heap.size w w' := by
  go_enter Try.func173, Try.ntmps173
  go_wp2_with (refine wpList_store_blk (by rfl) 232 (.tmp 3) (.tmp 9) (by rfl) (w.heap.size + 1 + 1) (keyOn f.cls f.slots.length (List.replicate 6 zV)) (by rfl) (by rfl) _ 232 (new_blk _ _ _ (by simp)) (by rfl) (by rw [keyOn_len]; exact infoK) (keyOn_one _ _ _) ?_; intro w1 hb1 ht1)
  go_frame
  have T1 := ht1.out
  have q2 : w1.cell? ⟨w.heap.size, 2, none⟩ = some (.slice a f.slots.length c) := by rw [T1.cell (by simp; omega)]; simp [go_sem]
  obtain ⟨c0, R0, hc0⟩ : ∃ c0 : Array Value, w1.heap[w.heap.size + 1]? = some (.cells c0 232 (0, 0)) ∧ c0.size = 20 :=
    ⟨_, (T1.block _ (by omega)).trans ((Below.heap_alloc _ _ _ (by simp)).trans (new_blk _ _ _ (by simp))), rfl⟩
  have R1 : Hid (w1.heap[w.heap.size + 1]? = some (.cells c0 232 (0, 0))) := R0
  have HC : Hid (c0.size = 20) := hc0
  clear R0 hc0
  have B1 : Below w.heap.size w w1 := ((((Below.refl _ _).alloc (Nat.le_refl _) _).alloc (by simp) _).alloc (by simp; omega) _).trans (T1.below (by omega))
  have hv1 := hv.below B1
  have hz1 : w1.heap.size = w.heap.size + 1 + 1 + 1 := by rw [T1.size]; simp
  have HZ : Hid (w1.heap.size = w.heap.size + 1 + 1 + 1) := hz1
  clear hz1 ht1 T1 hv
  have hmin : Nat.min f.slots.length 6 = f.slots.length := by simp [Nat.min_def]; omega
  have HM : Hid (Nat.min f.slots.length 6 = f.slots.length) := hmin
  clear hmin
  go_region_held3 (fun w' => w'.cell? ⟨w.heap.size, 2, none⟩ = some (.slice a f.slots.length c)) ((first | (simp [*]; done) | (rw [ht2.out.cell (by simp; omega)]; simp [*])))
    ((refine step_copy_blk (by rfl) (.tmp 11) (.tmp 13) 29 29 (by rfl) 125 3 Try.underlying29 sizeV (w.heap.size + 1 + 1) 2 6 6 a f.slots.length c (by rfl) (by rfl) _ 232 hb1.out (f.slots.flatMap V.cells) (by rw [HM.out, flat_len]) (fun e => ValsAt.nil (e ▸ hv1)) (fun ad e => ValsAt.flat (e ▸ hv1)) (by rw [flat_len]; simp [keyOn_len]; omega) (flat_one _) ?_; intro w2 hb2 ht2))
  have hk : w2.heap[w.heap.size + 1 + 1]? = some (.cells (keyCells f).toArray 232 (0, 0)) := by
    have := hb2.out
    rw [List.toList_toArray, key_splice _ _ _ hl] at this
    exact this
  have T2 := ht2.out
  have R2 : w2.heap[w.heap.size + 1]? = some (.cells c0 232 (0, 0)) := (T2.block _ (by omega)).trans R1.out
  have hlen : (keyCells f).length = 20 := by unfold keyCells; rw [keyOn_len, pad_len _ hl]
  have B2 : Below w.heap.size w w2 := B1.drew.trans (T2.below (by omega))
  have HK : Hid (w2.heap[w.heap.size + 1 + 1]? = some (.cells (keyCells f).toArray 232 (0, 0))) := hk
  have HR : Hid (w2.heap[w.heap.size + 1]? = some (.cells c0 232 (0, 0))) := R2
  have HL : Hid ((keyCells f).length = 20) := hlen
  clear hb2 ht2 T2 hk R2 hlen R1 hb1 q2
  go_wp2_with (first | (refine wpList_load_blk (by rfl) 232 (.tmp 3) (by rfl) (w.heap.size + 1 + 1) (keyCells f) (by rfl) 232 (0, 0) HK.out _ Try.underlying232 (by rfl) (by rw [HL.out]; exact infoK) ?_) | (refine wpList_store_blk (by rfl) 232 (.tmp 2) (.tmp 15) (by rfl) (w.heap.size + 1) (keyCells f) (by rfl) (by rfl) c0 232 HR.out (by rw [HL.out]; exact HC.out) (by rw [HL.out]; exact infoK) (keyOn_one _ _ _) ?_; intro w3 hb3 ht3))
  have hld := run_loadVar_mid (P := Try.prog) w3 (w.heap.size + 1) 0 232 (keyCells f) _ (range_blk hb3.out) Try.underlying232 rfl (by rw [HL.out]; exact infoK)
  go_frame
  exact bodyPost_ret (v := .agg (keyCells f).toArray) (by simp [results, Try.results173, asAddr, hld]) rfl ⟨rfl, B2.trans (ht3.out.below (by omega))⟩
end Go.Proofs.Ytgamdkokmkagaaa

namespace Go.Proofs.Ytgamdkokmkagaaa
open Go.RowKit Go.Maps

theorem rowK : (232 : TypeId) < Try.prog.types.size := of_decide_eq_true (by kernel_rfl)
theorem wideK : (match Try.prog.underlying 232 with | some (.array _ _) | some (.struct _) => true | _ => false) = true := by kernel_rfl
theorem typeK : Try.prog.keyType 232 = true := by kernel_rfl
set_option maxRecDepth 100000 in
theorem lawK : Keyed Try.prog 232 := Keyed.of_law (deep_law_laid laidOut (m := 5) (by omega) rowK (by kernel_rfl) wideK)
theorem cellsK : Try.prog.cellsOf 232 = 20 := by kernel_rfl
theorem cellsA : Try.prog.cellsOf 230 = 18 := by kernel_rfl
theorem cellsV : Try.prog.cellsOf 125 = 3 := by kernel_rfl

/-- What a value must be to be read. -/
theorem zV_ok : VOk zV := ⟨by decide, by decide, by decide⟩

theorem kl_V (d : Nat) (v : V) (h : VOk v) : Try.prog.keyLits (d + 2) 125 [.int .i64 v.kind, .int .i64 v.num, .string v.sym] = some [.int .i64 v.kind, .int .i64 v.num, .string v.sym.data.toList] := by
  obtain ⟨h1, h2, h3⟩ := h
  simp [Program.keyLits, Try.underlying125, Try.underlying3, Try.underlying2, Try.underlying9, cellsV, cellsI, cellsI64, cellsS, h1, h2, h3]

theorem kl_A (d : Nat) (a b c e f g : V) (ha : VOk a) (hb : VOk b) (hc : VOk c) (he : VOk e) (hf : VOk f) (hg : VOk g) : (Try.prog.keyLits (d + 3) 230 ([a, b, c, e, f, g].flatMap V.cells)).isSome = true := by
  have k := fun v h => kl_V d v h
  unfold Program.keyLits
  rw [Try.underlying230]
  simp only [cellsA, cellsV]
  rw [if_pos (by rfl)]
  simp only [show List.range 6 = [0, 1, 2, 3, 4, 5] by rfl, List.mapM_cons, List.mapM_nil]
  simp only [V.cells, List.flatMap_cons, List.flatMap_nil, List.cons_append, List.nil_append, Nat.zero_mul, Nat.one_mul, List.drop_zero, List.take_succ_cons, List.take_zero, List.drop_succ_cons, k a ha, k b hb, k c hc, k e he, k f hf, k g hg]
  rfl

theorem kl_K (d : Nat) (cls : ByteArray) (n : Int) (hc : cls.size ≤ maxLen) (hn : (Lit.int .i64 n).wf = true) (L : List Value) (hL : L.length = 18) (hA : (Try.prog.keyLits (d + 1) 230 L).isSome = true) :
    (Try.prog.keyLits (d + 2) 232 (.string cls :: .int .i64 n :: L)).isSome = true := by
  obtain ⟨l, hl⟩ := Option.isSome_iff_exists.1 hA
  have hS : Try.prog.keyLits (d + 1) 9 [.string cls] = some [.string cls.data.toList] := by simp [Program.keyLits, Try.underlying9, hc]
  have hI : Try.prog.keyLits (d + 1) 3 [.int .i64 n] = some [.int .i64 n] := by simp [Program.keyLits, Try.underlying3, hn]
  have hT : L.take 18 = L := List.take_of_length_le (by omega)
  unfold Program.keyLits
  rw [Try.underlying232]
  simp only [cellsK]
  rw [if_pos ⟨by simp [hL], by decide +kernel⟩]
  simp only [List.mapM_cons, List.mapM_nil, cellsS, cellsI, cellsA, List.drop_zero, List.take_succ_cons, List.take_zero, List.drop_succ_cons, hS, hI, hT, hl]
  rfl

theorem key_lit (cls : ByteArray) (n : Nat) (hc : cls.size ≤ maxLen) (hn : n ≤ 6) (vs : List V) (hl : vs.length = 6) (hv : ∀ v ∈ vs, VOk v) : ∃ l, keyOf Try.prog 232 (.agg (keyOn cls n vs).toArray) = some l := by
  match vs, hl with
  | [a, b, c, e, f, g], _ =>
    have hwf : (Lit.int .i64 (n : Int)).wf = true := WalkArith.wf_i64 (by omega)
    have hk := kl_A (Try.prog.types.size - 3) a b c e f g (hv _ (by simp)) (hv _ (by simp)) (hv _ (by simp)) (hv _ (by simp)) (hv _ (by simp)) (hv _ (by simp))
    have h3 : 3 ≤ Try.prog.types.size := of_decide_eq_true (by kernel_rfl)
    have hK := kl_K (Try.prog.types.size - 3 + 2) cls n hc hwf _ (by rfl) hk
    rw [show Try.prog.types.size - 3 + 2 + 2 = Try.prog.types.size + 1 by omega] at hK
    have hformed : (Value.agg (keyOn cls n [a, b, c, e, f, g]).toArray).formed Try.prog 232 = true := by
      simp [Value.formed, Try.underlying232, cellsK, keyOn_len]
    unfold keyOf
    rw [Try.underlying232]
    simp only [typeK, hformed, Bool.and_self, if_true]
    obtain ⟨ls, hls⟩ := Option.isSome_iff_exists.1 hK
    show ∃ l, (Try.prog.keyLits (Try.prog.types.size + 1) 232 (.string cls :: .int .i64 n :: [a, b, c, e, f, g].flatMap V.cells)).map _ = some l
    rw [hls]
    exact ⟨_, rfl⟩

theorem flat_inj : ∀ (us vs : List V), us.length = vs.length → us.flatMap V.cells = vs.flatMap V.cells → us = vs
  | [], [], _, _ => rfl
  | [], _ :: _, h, _ => by simp at h
  | _ :: _, [], h, _ => by simp at h
  | u :: us, v :: vs, h, e => by
    simp only [List.flatMap_cons, V.cells, List.cons_append, List.nil_append, List.cons.injEq, Value.int.injEq, Value.string.injEq, true_and] at e
    obtain ⟨e1, e2, e3, e4⟩ := e
    have hr := flat_inj us vs (by simpa using h) e4
    rw [hr, V.same e1 e2 e3]

/-- Good enough for a key. -/
def KOk (f : F) : Prop := f.cls.size ≤ maxLen ∧ f.slots.length ≤ 6 ∧ ∀ v ∈ f.slots, VOk v

theorem key_of {f : F} (h : KOk f) : ∃ l, keyOf Try.prog 232 (.agg (keyCells f).toArray) = some l := by
  obtain ⟨h1, h2, h3⟩ := h
  refine key_lit f.cls f.slots.length h1 h2 (pad f.slots) (pad_len _ h2) ?_
  intro v hv
  rcases List.mem_append.1 hv with hv | hv
  · exact h3 v hv
  · rw [List.eq_of_mem_replicate hv]
    exact zV_ok

/-- A function that gives each key's literal. -/
def KL (kl : F → Lit) : Prop := ∀ f, KOk f → keyOf Try.prog 232 (.agg (keyCells f).toArray) = some (kl f)
theorem KL.exist : ∃ kl, KL kl :=
  ⟨fun f => (keyOf Try.prog 232 (.agg (keyCells f).toArray)).getD (.bool false), fun f h => by
    obtain ⟨l, hl⟩ := key_of h
    simp only [hl, Option.getD_some]⟩
theorem KL.like {kl : F → Lit} (K : KL kl) {f g : F} (hf : KOk f) (hg : KOk g) (h : Go.Proofs.Ytgamdkokmkagaaa.like f = Go.Proofs.Ytgamdkokmkagaaa.like g) : kl f = kl g := by
  have e1 := K f hf
  have e2 := K g hg
  rw [like_eq] at h
  have e : keyCells f = keyCells g := by unfold keyCells; rw [h.1, h.2]
  rw [e, e2] at e1
  exact (Option.some.inj e1).symm

theorem like_of_klit {kl : F → Lit} (K : KL kl) {f g : F} (hf : KOk f) (hg : KOk g) (h : kl f = kl g) : like f = like g := by
  have e := lawK.inj (K f hf) (h ▸ K g hg)
  simp only [Value.agg.injEq] at e
  have e' : keyCells f = keyCells g := by simpa using congrArg Array.toList e
  unfold keyCells keyOn at e'
  simp only [List.cons.injEq, Value.string.injEq, Value.int.injEq, true_and] at e'
  obtain ⟨e1, e2, e3⟩ := e'
  have hp := flat_inj _ _ (by rw [pad_len _ hf.2.1, pad_len _ hg.2.1]) e3
  have hn : f.slots.length = g.slots.length := by omega
  have hs : f.slots = g.slots := by
    have := congrArg (List.take f.slots.length) hp
    unfold pad at this
    rw [List.take_left, hn, List.take_left] at this
    exact this
  exact like_eq.2 ⟨e1, hs⟩

theorem klit_iff {kl : F → Lit} (K : KL kl) {f g : F} (hf : KOk f) (hg : KOk g) : kl f = kl g ↔ like f = like g :=
  ⟨like_of_klit K hf hg, K.like hf hg⟩

/-- What the map of the first k facts' keys holds. -/
structure MInv (kl : F → Lit) (fs : List F) (k : Nat) (D : DataW Unit) : Prop where
  le : Maps.size D ≤ k
  iff : Maps.size D = k ↔ ((fs.take k).map like).Nodup
  has : ∀ g, KOk g → (Maps.has D (kl g) = true ↔ like g ∈ (fs.take k).map like)

theorem MInv.start (kl : F → Lit) (fs : List F) : MInv kl fs 0 (.map []) :=
  ⟨Nat.le_refl _, by simp [Maps.size], fun g _ => by simp [Maps.has]⟩

theorem MInv.step {kl : F → Lit} (K : KL kl) {fs : List F} {k : Nat} {D : DataW Unit} {f : F} (h : MInv kl fs k D) (ht : Tidy D) (hf : fs[k]? = some f) (hok : KOk f) (d : DataW Unit) : MInv kl fs (k + 1) (D.put (kl f) d) := by
  have hkey : WideAt.IsKeyLit (kl f) := lawK.key (K f hok)
  have hh := h.has f hok
  have htk : (fs.take (k + 1)).map like = (fs.take k).map like ++ [like f] := map_take_succ like fs k f hf
  have hsz := size_put (k := kl f) ht d
  have hle := h.le
  constructor
  · rw [hsz]
    split <;> omega
  · rw [htk, hsz, List.nodup_append]
    by_cases hm : like f ∈ (fs.take k).map like
    · rw [if_pos (hh.2 hm)]
      constructor
      · intro e; omega
      · rintro ⟨_, _, h3⟩
        exact absurd rfl (h3 _ hm _ (by simp))
    · rw [if_neg (fun e => hm (hh.1 e))]
      constructor
      · intro e
        refine ⟨h.iff.1 (by omega), by simp, ?_⟩
        intro a ha b hb
        simp only [List.mem_singleton] at hb
        rintro rfl
        exact hm (hb ▸ ha)
      · rintro ⟨h1, _, _⟩
        have := h.iff.2 h1
        omega
  · intro g hg
    rw [htk, List.mem_append, List.mem_singleton]
    by_cases e : kl g = kl f
    · rw [e, has_put_same ht.isMap hkey]
      simp [(klit_iff K hg hok).1 e]
    · rw [has_put_other e, h.has g hg]
      have hne : like g ≠ like f := fun e' => e ((klit_iff K hg hok).2 e')
      simp [hne]
end Go.Proofs.Ytgamdkokmkagaaa

namespace Go.Proofs.Ytgamdkokmkagaaa
open Go.RowKit Go.Maps
attribute [local go_sem ↓] Go.wp_at_zero Go.wp_at_succ

theorem run_makeMap_hint {P : Program} {t k e : TypeId} (ht : P.underlying t = some (.map k e)) (n : Int) (w : World) : (Instr.makeMap t (some (.int .i64 n))).run P w = .ok (.map (some w.heap.size)) (w.alloc (.map #[] 0)) := by
  simp [Instr.makeMap, run_underlying ht, asInt, asIntOf]

theorem MInv.stop {kl : F → Lit} {fs : List F} {k : Nat} {D : DataW Unit} (h : MInv kl fs k D) (h1 : k ≤ fs.length) (h2 : fs.length ≤ k) : (((Maps.size D : Nat) : Int) == (fs.length : Int)) = decide ((fs.map like).Nodup) := by
  obtain rfl : k = fs.length := by omega
  have hi := h.iff
  rw [List.take_of_length_le (Nat.le_refl _)] at hi
  by_cases hn : (fs.map like).Nodup
  · rw [decide_eq_true hn]
    have := hi.2 hn
    simp [this]
  · rw [decide_eq_false hn]
    have : Maps.size D ≠ fs.length := fun e => hn (hi.1 e)
    simp
    omega

theorem hidden {p : Prop} (h : p) : Hid p := h

theorem ownsMap_below {H : Type} {w w' : World} {P : Program} {k : TypeId} {R : Value → Option (DataW H × List MemPlace)} {b n B : Nat} {D : DataW H} (h : w.ownsMap P k R b n D) (hb : Below B w w') (hB : b < B) : w'.ownsMap P k R b n D := by
  obtain ⟨es, clock, h1, h2⟩ := h
  exact ⟨es, clock, (hb.block b hB).trans h1, h2⟩

set_option maxRecDepth 100000 in
set_option maxHeartbeats 1600000 in
theorem allUnlike_any (a : Option Addr) (c : Nat) (fs : List F) (w : World) (hv : FactsAt w a fs) (hl : fs.length ≤ 40) (hk : ∀ f ∈ fs, KOk f) (htag : ∀ f ∈ fs, (Lit.int .i64 f.tag).wf = true) :
    Calls Try.prog 123 #[.slice a fs.length c] w fun e w' =>
      e = .returned (.bool (decide ((fs.map like).Nodup))) ∧ Below w.heap.size w w' := by
  obtain ⟨kl, K⟩ := KL.exist
  have hmm := run_makeMap_hint (P := Try.prog) (t := 229) Try.underlying229
  go_enter Try.func123, Try.ntmps123
  go_wp2
  clear hmm
  go_loopw [11] (fun i wr => ∃ (k : Nat) (D : DataW Unit), k ≤ fs.length ∧ i = .int .i64 k ∧ wr.ownsMap Try.prog 232 (plainElem Try.prog 3) w.heap.size k D ∧ MInv kl fs k D ∧ Below w.heap.size w wr) (fun i _ => fs.length - (intOf i).toNat)
  case atStart => exact ⟨0, .map [], by omega, rfl, World.ownsMap_made _ _ _ _, MInv.start kl fs, (Below.refl _ _).alloc (Nat.le_refl _) _⟩
  case round =>
    obtain ⟨k, D, hk', rfl, hown, hI, hb⟩ := hrel
    by_cases hkl : k < fs.length
    · obtain ⟨f, hfk⟩ : ∃ f, fs[k]? = some f := ⟨fs[k], by simp [hkl]⟩
      obtain ⟨b, o, rfl, c0, c1, s, cs, c2, hsl⟩ := hv.below hb k f hfk
      have hok := hk f (List.mem_of_getElem? hfk)
      have htg := htag f (List.mem_of_getElem? hfk)
      go_wp2
      have HO : Hid (wr.ownsMap Try.prog 232 (plainElem Try.prog 3) w.heap.size k D) := hown
      have B1 : ∀ o, Below wr.heap.size wr (wr.alloc o) := fun o => (Below.refl _ _).alloc (Nat.le_refl _) _
      have hBl : w.heap.size < wr.heap.size := hown.lt
      clear hown
      go_region_held3 (fun w' => w'.cell? ⟨wr.heap.size, 0, none⟩ = some (.int .i64 f.tag) ∧ w'.cell? ⟨wr.heap.size, 1, none⟩ = some (.string f.cls) ∧ w'.cell? ⟨wr.heap.size, 2, none⟩ = some (.slice s f.slots.length cs)) ((go_split_ands; refine ⟨?_, ?_, ?_⟩ <;> first | (simp [*, go_sem]; done) | exact cell_below hb' (by simp [*, go_sem]) | exact HG2.out.cell (cell_below hb' (by simp [*, go_sem])) (by simp; omega)))
        (first | (go_at_call 173; refine (key_any f s cs _ (hsl.below ?_) hok.2.1).mono ?_; exact (B1 _).drew; rintro e w' ⟨rfl, hb'⟩; obtain ⟨w2, hrun, ho2, hg2⟩ := (ownsMap_below (HO.out.alloc _).drew hb' (by simp; omega)).update lawK (t := 229) Try.underlying229 (by unfold maxLen; omega) (K f hok) (plainElem_int Try.underlying3 htg); have HO2 := hidden ho2; have HG2 := hidden hg2; clear ho2 hg2))
      have hgB : Below w.heap.size w w2 := (hb.trans (((B1 _).drew.trans (hb'.mono (by simp))).mono hb.size)).grown HG2.out (by have := hb'.size; simp at this; omega) (fun j hj => by cases hj; exact Nat.le_refl _)
      have hI2 := hI.step K (HO.out.tidy lawK) hfk hok (.lit (.int .i64 f.tag))
      clear hrun hI
      go_wp2
      go_roundw
      case rel => exact ⟨k + 1, _, by omega, by go_num, HO2.out, hI2, hgB⟩
      case measure => simp [intOf]; omega
    · have hlen := fun ty => hown.len (t := 229) Try.underlying229 ty
      go_wp2
      go_ret
      exact ⟨ret_bool (hI.stop hk' (by omega)), hb⟩
end Go.Proofs.Ytgamdkokmkagaaa
