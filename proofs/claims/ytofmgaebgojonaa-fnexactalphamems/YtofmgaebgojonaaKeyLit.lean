/-
  OUR OWN TEXT. A fact's key, as a map holds it.
-/
import Derived.Test.YtofmgaebgojonaaKey
import Derived.Maps.OwnSet
import Derived.DeepKeys4
namespace Go.Proofs.Ytofmgaebgojonaa
open Go.RowKit Go.Maps

theorem laidOut : laidOutB Try.prog = true := by kernel_rfl
theorem rowK : (215 : TypeId) < Try.prog.types.size := of_decide_eq_true (by kernel_rfl)
theorem wideK : (match Try.prog.underlying 215 with | some (.array _ _) | some (.struct _) => true | _ => false) = true := by kernel_rfl
theorem typeK : Try.prog.keyType 215 = true := by kernel_rfl
set_option maxRecDepth 100000 in
theorem lawK : Keyed Try.prog 215 := Keyed.of_law (deep_law_laid laidOut (m := 5) (by omega) rowK (by kernel_rfl) wideK)
theorem cellsK : Try.prog.cellsOf 215 = 20 := by kernel_rfl
theorem cellsA : Try.prog.cellsOf 213 = 18 := by kernel_rfl
theorem cellsV : Try.prog.cellsOf 119 = 3 := by kernel_rfl
theorem cellsI : Try.prog.cellsOf 3 = 1 := by kernel_rfl
theorem cellsI64 : Try.prog.cellsOf 2 = 1 := by kernel_rfl
theorem cellsS : Try.prog.cellsOf 9 = 1 := by kernel_rfl

/-- What a value must be to be read. -/
def VOk (v : V) : Prop := (Lit.int .i64 v.kind).wf = true ∧ (Lit.int .i64 v.num).wf = true ∧ v.sym.size ≤ maxLen
theorem zV_ok : VOk zV := ⟨by decide, by decide, by decide⟩

theorem kl_V (d : Nat) (v : V) (h : VOk v) : Try.prog.keyLits (d + 2) 119 [.int .i64 v.kind, .int .i64 v.num, .string v.sym] = some [.int .i64 v.kind, .int .i64 v.num, .string v.sym.data.toList] := by
  obtain ⟨h1, h2, h3⟩ := h
  simp [Program.keyLits, Try.underlying119, Try.underlying3, Try.underlying2, Try.underlying9, cellsV, cellsI, cellsI64, cellsS, h1, h2, h3]

theorem kl_A (d : Nat) (a b c e f g : V) (ha : VOk a) (hb : VOk b) (hc : VOk c) (he : VOk e) (hf : VOk f) (hg : VOk g) : (Try.prog.keyLits (d + 3) 213 ([a, b, c, e, f, g].flatMap V.cells)).isSome = true := by
  have k := fun v h => kl_V d v h
  unfold Program.keyLits
  rw [Try.underlying213]
  simp only [cellsA, cellsV]
  rw [if_pos (by rfl)]
  simp only [show List.range 6 = [0, 1, 2, 3, 4, 5] by rfl, List.mapM_cons, List.mapM_nil]
  simp only [V.cells, List.flatMap_cons, List.flatMap_nil, List.cons_append, List.nil_append, Nat.zero_mul, Nat.one_mul, List.drop_zero, List.take_succ_cons, List.take_zero, List.drop_succ_cons, k a ha, k b hb, k c hc, k e he, k f hf, k g hg]
  rfl

theorem kl_K (d : Nat) (cls : ByteArray) (n : Int) (hc : cls.size ≤ maxLen) (hn : (Lit.int .i64 n).wf = true) (L : List Value) (hL : L.length = 18) (hA : (Try.prog.keyLits (d + 1) 213 L).isSome = true) :
    (Try.prog.keyLits (d + 2) 215 (.string cls :: .int .i64 n :: L)).isSome = true := by
  obtain ⟨l, hl⟩ := Option.isSome_iff_exists.1 hA
  have hS : Try.prog.keyLits (d + 1) 9 [.string cls] = some [.string cls.data.toList] := by simp [Program.keyLits, Try.underlying9, hc]
  have hI : Try.prog.keyLits (d + 1) 3 [.int .i64 n] = some [.int .i64 n] := by simp [Program.keyLits, Try.underlying3, hn]
  have hT : L.take 18 = L := List.take_of_length_le (by omega)
  unfold Program.keyLits
  rw [Try.underlying215]
  simp only [cellsK]
  rw [if_pos ⟨by simp [hL], by decide +kernel⟩]
  simp only [List.mapM_cons, List.mapM_nil, cellsS, cellsI, cellsA, List.drop_zero, List.take_succ_cons, List.take_zero, List.drop_succ_cons, hS, hI, hT, hl]
  rfl

theorem key_lit (cls : ByteArray) (n : Nat) (hc : cls.size ≤ maxLen) (hn : n ≤ 6) (vs : List V) (hl : vs.length = 6) (hv : ∀ v ∈ vs, VOk v) : ∃ l, keyOf Try.prog 215 (.agg (keyOn cls n vs).toArray) = some l := by
  match vs, hl with
  | [a, b, c, e, f, g], _ =>
    have hwf : (Lit.int .i64 (n : Int)).wf = true := WalkArith.wf_i64 (by omega)
    have hk := kl_A (Try.prog.types.size - 3) a b c e f g (hv _ (by simp)) (hv _ (by simp)) (hv _ (by simp)) (hv _ (by simp)) (hv _ (by simp)) (hv _ (by simp))
    have h3 : 3 ≤ Try.prog.types.size := of_decide_eq_true (by kernel_rfl)
    have hK := kl_K (Try.prog.types.size - 3 + 2) cls n hc hwf _ (by rfl) hk
    rw [show Try.prog.types.size - 3 + 2 + 2 = Try.prog.types.size + 1 by omega] at hK
    have hformed : (Value.agg (keyOn cls n [a, b, c, e, f, g]).toArray).formed Try.prog 215 = true := by
      simp [Value.formed, Try.underlying215, cellsK, keyOn_len]
    unfold keyOf
    rw [Try.underlying215]
    simp only [typeK, hformed, Bool.and_self, if_true]
    obtain ⟨ls, hls⟩ := Option.isSome_iff_exists.1 hK
    show ∃ l, (Try.prog.keyLits (Try.prog.types.size + 1) 215 (.string cls :: .int .i64 n :: [a, b, c, e, f, g].flatMap V.cells)).map _ = some l
    rw [hls]
    exact ⟨_, rfl⟩

theorem flat_inj : ∀ (us vs : List V), us.length = vs.length → us.flatMap V.cells = vs.flatMap V.cells → us = vs
  | [], [], _, _ => rfl
  | [], _ :: _, h, _ => by simp at h
  | _ :: _, [], h, _ => by simp at h
  | u :: us, v :: vs, h, e => by
    simp only [List.flatMap_cons, V.cells, List.cons_append, List.nil_append, List.cons.injEq, Value.int.injEq, Value.string.injEq, true_and] at e
    obtain ⟨e1, e2, e3, e4⟩ := e
    have hr := flat_inj us vs (by simpa using h) e4
    rw [hr, V.same e1 e2 e3]

/-- Good enough for a key. -/
def KOk (f : F) : Prop := f.cls.size ≤ maxLen ∧ f.slots.length ≤ 6 ∧ ∀ v ∈ f.slots, VOk v

theorem key_of {f : F} (h : KOk f) : ∃ l, keyOf Try.prog 215 (.agg (keyCells f).toArray) = some l := by
  obtain ⟨h1, h2, h3⟩ := h
  refine key_lit f.cls f.slots.length h1 h2 (pad f.slots) (pad_len _ h2) ?_
  intro v hv
  rcases List.mem_append.1 hv with hv | hv
  · exact h3 v hv
  · rw [List.eq_of_mem_replicate hv]
    exact zV_ok

/-- A function that gives each key's literal. -/
def KL (kl : F → Lit) : Prop := ∀ f, KOk f → keyOf Try.prog 215 (.agg (keyCells f).toArray) = some (kl f)
theorem KL.exist : ∃ kl, KL kl :=
  ⟨fun f => (keyOf Try.prog 215 (.agg (keyCells f).toArray)).getD (.bool false), fun f h => by
    obtain ⟨l, hl⟩ := key_of h
    simp only [hl, Option.getD_some]⟩
theorem KL.like {kl : F → Lit} (K : KL kl) {f g : F} (hf : KOk f) (hg : KOk g) (h : Go.Proofs.Ytofmgaebgojonaa.like f = Go.Proofs.Ytofmgaebgojonaa.like g) : kl f = kl g := by
  have e1 := K f hf
  have e2 := K g hg
  rw [like_eq] at h
  have e : keyCells f = keyCells g := by unfold keyCells; rw [h.1, h.2]
  rw [e, e2] at e1
  exact (Option.some.inj e1).symm

theorem like_of_klit {kl : F → Lit} (K : KL kl) {f g : F} (hf : KOk f) (hg : KOk g) (h : kl f = kl g) : like f = like g := by
  have e := lawK.inj (K f hf) (h ▸ K g hg)
  simp only [Value.agg.injEq] at e
  have e' : keyCells f = keyCells g := by simpa using congrArg Array.toList e
  unfold keyCells keyOn at e'
  simp only [List.cons.injEq, Value.string.injEq, Value.int.injEq, true_and] at e'
  obtain ⟨e1, e2, e3⟩ := e'
  have hp := flat_inj _ _ (by rw [pad_len _ hf.2.1, pad_len _ hg.2.1]) e3
  have hn : f.slots.length = g.slots.length := by omega
  have hs : f.slots = g.slots := by
    have := congrArg (List.take f.slots.length) hp
    unfold pad at this
    rw [List.take_left, hn, List.take_left] at this
    exact this
  exact like_eq.2 ⟨e1, hs⟩

theorem klit_iff {kl : F → Lit} (K : KL kl) {f g : F} (hf : KOk f) (hg : KOk g) : kl f = kl g ↔ like f = like g :=
  ⟨like_of_klit K hf hg, K.like hf hg⟩

/-- What the map of the first k facts' keys holds. -/
structure MInv (kl : F → Lit) (fs : List F) (k : Nat) (D : DataW Unit) : Prop where
  le : Maps.size D ≤ k
  iff : Maps.size D = k ↔ ((fs.take k).map like).Nodup
  has : ∀ g, KOk g → (Maps.has D (kl g) = true ↔ like g ∈ (fs.take k).map like)

theorem MInv.start (kl : F → Lit) (fs : List F) : MInv kl fs 0 (.map []) :=
  ⟨Nat.le_refl _, by simp [Maps.size], fun g _ => by simp [Maps.has]⟩

theorem MInv.step {kl : F → Lit} (K : KL kl) {fs : List F} {k : Nat} {D : DataW Unit} {f : F} (h : MInv kl fs k D) (ht : Tidy D) (hf : fs[k]? = some f) (hok : KOk f) (d : DataW Unit) : MInv kl fs (k + 1) (D.put (kl f) d) := by
  have hkey : WideAt.IsKeyLit (kl f) := lawK.key (K f hok)
  have hh := h.has f hok
  have htk : (fs.take (k + 1)).map like = (fs.take k).map like ++ [like f] := map_take_succ like fs k f hf
  have hsz := size_put (k := kl f) ht d
  have hle := h.le
  constructor
  · rw [hsz]
    split <;> omega
  · rw [htk, hsz, List.nodup_append]
    by_cases hm : like f ∈ (fs.take k).map like
    · rw [if_pos (hh.2 hm)]
      constructor
      · intro e; omega
      · rintro ⟨_, _, h3⟩
        exact absurd rfl (h3 _ hm _ (by simp))
    · rw [if_neg (fun e => hm (hh.1 e))]
      constructor
      · intro e
        refine ⟨h.iff.1 (by omega), by simp, ?_⟩
        intro a ha b hb
        simp only [List.mem_singleton] at hb
        rintro rfl
        exact hm (hb ▸ ha)
      · rintro ⟨h1, _, _⟩
        have := h.iff.2 h1
        omega
  · intro g hg
    rw [htk, List.mem_append, List.mem_singleton]
    by_cases e : kl g = kl f
    · rw [e, has_put_same ht.isMap hkey]
      simp [(klit_iff K hg hok).1 e]
    · rw [has_put_other e, h.has g hg]
      have hne : like g ≠ like f := fun e' => e ((klit_iff K hg hok).2 e')
      simp [hne]
end Go.Proofs.Ytofmgaebgojonaa
