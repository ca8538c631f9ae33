/-
  OUR OWN TEXT. Facts that a call owns: a row of facts, each with its slots in a row of its own, no two rows in one block.
-/
import Derived.Test.YtlkfmbpbgnhcjabApp
import Derived.Test.YtlkfmbpbgnhcjabTo
import Derived.Test.YtlkfmbpbgnhcjabKey
namespace Go.Proofs.Ytlkfmbpbgnhcjab
open Go.RowKit

def frows (fs : List F) (xs : List Value) : List Value := (fs.zip xs).flatMap fun p => fcells p.1 p.2

theorem Apart.symm {x y : Value} (h : Apart x y) : Apart y x := fun g hy hx => h g hx hy

structure OFs (w : World) (base : Nat) (v : Value) (n : Nat) (fs : List F) (xs : List Value) : Prop where
  num : n = fs.length
  len : xs.length = fs.length
  own : w.ownsRow base 81 3 v n (frows fs xs)
  each : ∀ (i : Nat) (f : F) (x : Value), fs[i]? = some f → xs[i]? = some x → (∃ a c, x = .slice a f.slots.length c) ∧ w.ownsRow base 90 3 x f.slots.length (f.slots.flatMap V.cells)
  apart : ∀ x ∈ xs, Apart v x
  pair : xs.Pairwise Apart

/-- A block of theirs. -/
def InBlk (v : Value) (xs : List Value) (g : Nat) : Prop := v.ownBlock = some g ∨ ∃ x ∈ xs, x.ownBlock = some g

theorem OFs.each' {w : World} {base : Nat} {v : Value} {n : Nat} {fs : List F} {xs : List Value} (h : OFs w base v n fs xs) {x : Value} (hx : x ∈ xs) : ∃ f ∈ fs, w.ownsRow base 90 3 x f.slots.length (f.slots.flatMap V.cells) := by
  obtain ⟨i, hi, rfl⟩ := List.getElem_of_mem hx
  have hf : i < fs.length := by rw [← h.len]; exact hi
  exact ⟨fs[i], List.getElem_mem hf, (h.each i _ _ (List.getElem?_eq_getElem hf) (List.getElem?_eq_getElem hi)).2⟩

theorem OFs.range {w : World} {base : Nat} {v : Value} {n : Nat} {fs : List F} {xs : List Value} (h : OFs w base v n fs xs) {g : Nat} (hg : InBlk v xs g) : base ≤ g ∧ g < w.heap.size := by
  rcases hg with hg | ⟨x, hx, hg⟩
  · exact h.own.lt g hg
  · obtain ⟨f, _, ho⟩ := h.each' hx
    exact ho.lt g hg

theorem OFs.kept {w w' : World} {base : Nat} {v : Value} {n : Nat} {fs : List F} {xs : List Value} (h : OFs w base v n fs xs) (hb : ∀ g, InBlk v xs g → w'.heap[g]? = w.heap[g]?) : OFs w' base v n fs xs :=
  ⟨h.num, h.len, owns_of_block h.own (fun g hg => hb g (.inl hg)), fun i f x hf hx => ⟨(h.each i f x hf hx).1, owns_of_block (h.each i f x hf hx).2 (fun g hg => hb g (.inr ⟨x, List.mem_of_getElem? hx, hg⟩))⟩, h.apart, h.pair⟩

theorem OFs.below {w w' : World} {base : Nat} {v : Value} {n : Nat} {fs : List F} {xs : List Value} (h : OFs w base v n fs xs) (hb : Below w.heap.size w w') : OFs w' base v n fs xs :=
  h.kept fun g hg => hb.block g (h.range hg).2

theorem OFs.lower {w : World} {base base' : Nat} {v : Value} {n : Nat} {fs : List F} {xs : List Value} (h : OFs w base v n fs xs) (hb : base' ≤ base) : OFs w base' v n fs xs :=
  ⟨h.num, h.len, owns_base h.own hb, fun i f x hf hx => ⟨(h.each i f x hf hx).1, owns_base (h.each i f x hf hx).2 hb⟩, h.apart, h.pair⟩

theorem OFs.set {w : World} {base : Nat} {v : Value} {n : Nat} {fs : List F} {xs : List Value} (h : OFs w base v n fs xs) {p : Addr} (hp : p.block < base) (u : Value) : OFs (w.setCell p u) base v n fs xs :=
  h.kept fun g hg => Below.heap_setCell _ _ _ _ (by have := (h.range hg).1; omega)

theorem OFs.allocd {w : World} {base : Nat} {v : Value} {n : Nat} {fs : List F} {xs : List Value} (h : OFs w base v n fs xs) (o : Obj) : OFs (w.alloc o) base v n fs xs :=
  h.below ((Below.refl _ _).alloc (Nat.le_refl _) _)

theorem OFs.nil (w : World) (base : Nat) : OFs w base (.slice none 0 0) 0 [] [] :=
  ⟨rfl, rfl, World.ownsRow_nil _ _ _ _, fun i f x hf => by simp at hf, fun x hx => by simp at hx, List.Pairwise.nil⟩

theorem frows_at : ∀ (fs : List F) (xs : List Value), xs.length = fs.length → ∀ (i : Nat) (f : F) (x : Value), fs[i]? = some f → xs[i]? = some x → ∀ j, j < 3 → (frows fs xs)[i * 3 + j]? = (fcells f x)[j]?
  | [], _, _, i, f, x, hf, _, _, _ => by simp at hf
  | g :: fs, [], h, _, _, _, _, _, _, _ => by simp at h
  | g :: fs, y :: xs, h, i, f, x, hf, hx, j, hj => by
    unfold frows
    rw [List.zip_cons_cons, List.flatMap_cons]
    cases i with
    | zero =>
      simp at hf hx
      subst hf
      subst hx
      rw [List.getElem?_append_left (by simpa [fcells] using hj)]
      simp
    | succ i =>
      rw [List.getElem?_append_right (by simp [fcells]; omega)]
      have := frows_at fs xs (by simpa using h) i f x (by simpa using hf) (by simpa using hx) j hj
      unfold frows at this
      rw [← this]
      congr 1
      simp [fcells]
      omega

theorem frows_len : ∀ (fs : List F) (xs : List Value), xs.length = fs.length → (frows fs xs).length = fs.length * 3
  | [], _, _ => by simp [frows]
  | _ :: _, [], h => by simp at h
  | g :: fs, y :: xs, h => by
    have := frows_len fs xs (by simpa using h)
    unfold frows at this ⊢
    rw [List.zip_cons_cons, List.flatMap_cons, List.length_append, this]
    simp [fcells]
    omega

theorem frows_snoc (fs : List F) (xs : List Value) (h : xs.length = fs.length) (f : F) (x : Value) : frows (fs ++ [f]) (xs ++ [x]) = frows fs xs ++ fcells f x := by
  unfold frows
  rw [List.zip_append h.symm, List.flatMap_append]
  simp

theorem ValsAt.owns {w : World} {base : Nat} {a : Option Addr} {c : Nat} {vs : List V} (h : w.ownsRow base 90 3 (.slice a vs.length c) vs.length (vs.flatMap V.cells)) : ValsAt w a vs := by
  intro i v hv
  have hi : i < vs.length := (List.getElem?_eq_some_iff.1 hv).1
  have key : ∀ j x, j < 3 → v.cells[j]? = some x → (vs.flatMap V.cells)[i * 3 + j]? = some x := by
    intro j x hj hx
    have hlen : i * 3 + j < (vs.flatMap V.cells).length := by rw [flat_len]; omega
    obtain ⟨u, h1, h2⟩ := flat_at vs (i * 3 + j) _ (List.getElem?_eq_getElem hlen)
    rw [show (i * 3 + j) / 3 = i by omega, hv] at h1
    cases h1
    rw [show (i * 3 + j) % 3 = j by omega, hx] at h2
    rw [List.getElem?_eq_getElem hlen, h2]
  obtain ⟨g, rfl, _, h0, _⟩ := owns_cell h (key 0 _ (by omega) rfl)
  obtain ⟨g1, he1, _, h1, _⟩ := owns_cell h (key 1 _ (by omega) rfl)
  obtain ⟨g2, he2, _, h2, _⟩ := owns_cell h (key 2 _ (by omega) rfl)
  cases he1
  cases he2
  exact ⟨g, 0, rfl, by simpa using h0, by simpa using h1, by simpa using h2⟩

theorem OFs.at {w : World} {base : Nat} {a : Option Addr} {n c : Nat} {fs : List F} {xs : List Value} (h : OFs w base (.slice a n c) n fs xs) : FactsAt w a fs := by
  intro i f hf
  have hi : i < fs.length := (List.getElem?_eq_some_iff.1 hf).1
  have hx : xs[i]? = some (xs[i]'(by rw [h.len]; exact hi)) := List.getElem?_eq_getElem _
  obtain ⟨⟨a', c', e⟩, ho⟩ := h.each i f _ hf hx
  have key := fun j (hj : j < 3) => frows_at fs xs h.len i f _ hf hx j hj
  obtain ⟨g, rfl, _, h0, _⟩ := owns_cell h.own ((key 0 (by omega)).trans rfl)
  obtain ⟨g1, he1, _, h1, _⟩ := owns_cell h.own ((key 1 (by omega)).trans rfl)
  obtain ⟨g2, he2, _, h2, _⟩ := owns_cell h.own ((key 2 (by omega)).trans rfl)
  cases he1
  cases he2
  rw [e] at h2 ho
  exact ⟨g, 0, rfl, by simpa using h0, by simpa using h1, a', c', by simpa using h2, ValsAt.owns ho⟩

/-- One fact more, by append. -/
theorem OFs.snoc {w w' : World} {base : Nat} {v v' : Value} {n : Nat} {fs : List F} {xs : List Value} {f : F} {x : Value} (h : OFs w base v n fs xs) (hx : (∃ a c, x = .slice a f.slots.length c) ∧ w.ownsRow base 90 3 x f.slots.length (f.slots.flatMap V.cells))
    (hxv : Apart v x) (hxs : ∀ y ∈ xs, Apart y x) (ho : w'.ownsRow base 81 3 v' (n + 1) (frows fs xs ++ fcells f x)) (hg : w.grownBy w' v.ownBlock) (hl : v'.ownBlock = v.ownBlock ∨ v'.ownBlock = some w.heap.size) : OFs w' base v' (n + 1) (fs ++ [f]) (xs ++ [x]) := by
  have hblk : ∀ y : Value, (y ∈ xs ∨ y = x) → ∀ g, y.ownBlock = some g → g < w.heap.size ∧ w'.heap[g]? = w.heap[g]? := by
    intro y hy g hgy
    have hlt : g < w.heap.size := by
      rcases hy with hy | rfl
      · exact (h.range (.inr ⟨y, hy, hgy⟩)).2
      · exact (hx.2.lt g hgy).2
    refine ⟨hlt, hg.block g hlt ?_⟩
    intro e
    rcases hy with hy | rfl
    · exact h.apart y hy g e.symm hgy
    · exact hxv g e.symm hgy
  have hapart : ∀ y : Value, (y ∈ xs ∨ y = x) → Apart v' y := by
    intro y hy g hgv hgy
    rcases hl with hl | hl
    · rw [hl] at hgv
      rcases hy with hy | rfl
      · exact h.apart y hy g hgv hgy
      · exact hxv g hgv hgy
    · rw [hl] at hgv
      cases hgv
      have := (hblk y hy _ hgy).1
      omega
  refine ⟨by simp [h.num], by simp [h.len], by rw [frows_snoc fs xs h.len]; exact ho, ?_, ?_, ?_⟩
  · intro i f' y hf hy
    by_cases hi : i < fs.length
    · rw [List.getElem?_append_left hi] at hf
      rw [List.getElem?_append_left (by rw [h.len]; exact hi)] at hy
      obtain ⟨h1, h2⟩ := h.each i f' y hf hy
      exact ⟨h1, owns_of_block h2 (fun g hgy => (hblk y (.inl (List.mem_of_getElem? hy)) g hgy).2)⟩
    · have hil : i < (fs ++ [f]).length := (List.getElem?_eq_some_iff.1 hf).1
      simp at hil
      obtain rfl : i = fs.length := by omega
      rw [List.getElem?_append_right (Nat.le_refl _)] at hf
      rw [List.getElem?_append_right (by rw [h.len]; exact Nat.le_refl _), h.len] at hy
      simp at hf hy
      subst hf
      subst hy
      exact ⟨hx.1, owns_of_block hx.2 (fun g hgy => (hblk x (.inr rfl) g hgy).2)⟩
  · intro y hy
    rcases List.mem_append.1 hy with hy | hy
    · exact hapart y (.inl hy)
    · exact hapart y (.inr (by simpa using hy))
  · rw [List.pairwise_append]
    exact ⟨h.pair, List.pairwise_singleton _ _, fun y hy z hz => by
      simp at hz
      subst hz
      exact hxs y hy⟩

/-- What toStore has made, said so. -/
theorem OwnFs.ofs {w : World} {g base : Nat} {fs : List F} {gs : List Nat} (h : OwnFs w g fs.length fs gs) (hb : base ≤ g) (hm : fs.length ≤ maxLen) (hs : ∀ f ∈ fs, f.slots.length ≤ maxLen) : ∃ xs, OFs w base (.slice (some ⟨g, 0, none⟩) fs.length fs.length) fs.length fs xs := by
  refine ⟨(fs.zip gs).map (fun p => .slice (some ⟨p.2, 0, none⟩) p.1.slots.length p.1.slots.length), rfl, by simp [h.len], ?_, ?_, ?_, ?_⟩
  · have ho := h.own.owns hb (by simp [h.len]) hm
    have e : frows fs ((fs.zip gs).map (fun p => .slice (some ⟨p.2, 0, none⟩) p.1.slots.length p.1.slots.length)) = ((fs.zip gs).map fun p => fcells p.1 (.slice (some ⟨p.2, 0, none⟩) p.1.slots.length p.1.slots.length)).flatten := by
      have key : ∀ (l : List F) (k : List Nat), frows l ((l.zip k).map (fun p => .slice (some ⟨p.2, 0, none⟩) p.1.slots.length p.1.slots.length)) = ((l.zip k).map fun p => fcells p.1 (.slice (some ⟨p.2, 0, none⟩) p.1.slots.length p.1.slots.length)).flatten := by
        intro l
        induction l with
        | nil => intro k; simp [frows]
        | cons f l ih =>
          intro k
          cases k with
          | nil => simp [frows]
          | cons b k =>
            have := ih k
            unfold frows at this ⊢
            simp only [List.zip_cons_cons, List.map_cons, List.flatMap_cons, List.flatten_cons]
            rw [this]
      exact key fs gs
    rw [e]
    exact ho
  · intro i f x hf hx
    have hi : i < fs.length := (List.getElem?_eq_some_iff.1 hf).1
    have hgi : gs[i]? = some (gs[i]'(by rw [h.len]; exact hi)) := List.getElem?_eq_getElem _
    have hz : (fs.zip gs)[i]? = some (f, gs[i]'(by rw [h.len]; exact hi)) := (List.getElem?_zip_eq_some (z := (f, gs[i]'(by rw [h.len]; exact hi)))).2 ⟨hf, hgi⟩
    rw [List.getElem?_map, hz] at hx
    simp only [Option.map_some, Option.some.injEq] at hx
    subst hx
    have he := h.each i f _ hf hgi
    have hlt := h.gt _ (List.mem_of_getElem? hgi)
    have := he.owns (base := base) (by omega) (by simp) (hs f (List.mem_of_getElem? hf))
    refine ⟨⟨_, _, rfl⟩, ?_⟩
    rwa [← List.flatMap_def] at this
  · intro x hx
    obtain ⟨p, hp, rfl⟩ := List.mem_map.1 hx
    have hlt := h.gt p.2 (List.of_mem_zip hp).2
    intro k hk hk'
    simp [Value.ownBlock] at hk hk'
    omega
  · rw [List.pairwise_map]
    have hnd := h.nodup
    have key : ∀ (l : List F) (k : List Nat), k.Nodup → (l.zip k).Pairwise (fun p q => p.2 ≠ q.2) := by
      intro l
      induction l with
      | nil => intro k _; simp
      | cons f l ih =>
        intro k hk
        cases k with
        | nil => simp
        | cons b k =>
          rw [List.nodup_cons] at hk
          rw [List.zip_cons_cons, List.pairwise_cons]
          exact ⟨fun q hq e => hk.1 (by have e' : b = q.2 := e; rw [e']; exact (List.of_mem_zip hq).2), ih k hk.2⟩
    refine (key fs gs hnd).imp ?_
    intro p q hpq k hk hk'
    simp [Value.ownBlock] at hk hk'
    exact hpq (hk.trans hk'.symm)

/-- As ValsAt, FactsAt; and each block met is one of Z's. -/
def ValsOn (Z : Nat → Prop) (w : World) (a : Option Addr) (vs : List V) : Prop :=
  ∀ (i : Nat) (v : V), vs[i]? = some v → ∃ b o, Z b ∧ a = some ⟨b, o, none⟩ ∧ w.cell? ⟨b, o + i * 3, none⟩ = some (.int .i64 v.kind) ∧
    w.cell? ⟨b, o + i * 3 + 1, none⟩ = some (.int .i64 v.num) ∧ w.cell? ⟨b, o + i * 3 + 2, none⟩ = some (.string v.sym)
def FactsOn (Z : Nat → Prop) (w : World) (a : Option Addr) (fs : List F) : Prop :=
  ∀ (i : Nat) (f : F), fs[i]? = some f → ∃ b o, Z b ∧ a = some ⟨b, o, none⟩ ∧ w.cell? ⟨b, o + i * 3, none⟩ = some (.int .i64 f.tag) ∧
    w.cell? ⟨b, o + i * 3 + 1, none⟩ = some (.string f.cls) ∧ ∃ a' c, w.cell? ⟨b, o + i * 3 + 2, none⟩ = some (.slice a' f.slots.length c) ∧ ValsOn Z w a' f.slots

theorem ValsOn.at {Z : Nat → Prop} {w : World} {a : Option Addr} {vs : List V} (h : ValsOn Z w a vs) : ValsAt w a vs := fun i v hv => by
  obtain ⟨b, o, _, h⟩ := h i v hv
  exact ⟨b, o, h⟩
theorem FactsOn.at {Z : Nat → Prop} {w : World} {a : Option Addr} {fs : List F} (h : FactsOn Z w a fs) : FactsAt w a fs := fun i f hf => by
  obtain ⟨b, o, _, h1, h2, h3, a', c, h4, h5⟩ := h i f hf
  exact ⟨b, o, h1, h2, h3, a', c, h4, h5.at⟩
theorem cell_blk {w w' : World} {b o : Nat} {x : Value} (hk : w'.heap[b]? = w.heap[b]?) (h : w.cell? ⟨b, o, none⟩ = some x) : w'.cell? ⟨b, o, none⟩ = some x := by
  rw [← h]
  exact World.cell?_of_block (a := ⟨b, o, none⟩) hk
theorem ValsOn.kept {Z : Nat → Prop} {w w' : World} {a : Option Addr} {vs : List V} (h : ValsOn Z w a vs) (hk : ∀ b, Z b → b < w.heap.size → w'.heap[b]? = w.heap[b]?) : ValsOn Z w' a vs := fun i v hv => by
  obtain ⟨b, o, hz, h1, h2, h3, h4⟩ := h i v hv
  have := hk b hz (World.block_lt_of_cell? w ⟨b, _, none⟩ h2)
  exact ⟨b, o, hz, h1, cell_blk this h2, cell_blk this h3, cell_blk this h4⟩
theorem FactsOn.kept {Z : Nat → Prop} {w w' : World} {a : Option Addr} {fs : List F} (h : FactsOn Z w a fs) (hk : ∀ b, Z b → b < w.heap.size → w'.heap[b]? = w.heap[b]?) : FactsOn Z w' a fs := fun i f hf => by
  obtain ⟨b, o, hz, h1, h2, h3, a', c, h4, h5⟩ := h i f hf
  have := hk b hz (World.block_lt_of_cell? w ⟨b, _, none⟩ h2)
  exact ⟨b, o, hz, h1, cell_blk this h2, cell_blk this h3, a', c, cell_blk this h4, h5.kept hk⟩
theorem ValsOn.mono {Z Z' : Nat → Prop} {w : World} {a : Option Addr} {vs : List V} (h : ValsOn Z w a vs) (hz : ∀ b, Z b → Z' b) : ValsOn Z' w a vs := fun i v hv => by
  obtain ⟨b, o, h0, h⟩ := h i v hv
  exact ⟨b, o, hz b h0, h⟩
theorem FactsOn.mono {Z Z' : Nat → Prop} {w : World} {a : Option Addr} {fs : List F} (h : FactsOn Z w a fs) (hz : ∀ b, Z b → Z' b) : FactsOn Z' w a fs := fun i f hf => by
  obtain ⟨b, o, h0, h1, h2, h3, a', c, h4, h5⟩ := h i f hf
  exact ⟨b, o, hz b h0, h1, h2, h3, a', c, h4, h5.mono hz⟩
theorem ValsAt.on {w : World} {a : Option Addr} {vs : List V} (h : ValsAt w a vs) : ValsOn (fun b => b < w.heap.size) w a vs := fun i v hv => by
  obtain ⟨b, o, h1, h2, h3⟩ := h i v hv
  exact ⟨b, o, World.block_lt_of_cell? w ⟨b, _, none⟩ h2, h1, h2, h3⟩
theorem FactsAt.on {w : World} {a : Option Addr} {fs : List F} (h : FactsAt w a fs) : FactsOn (fun b => b < w.heap.size) w a fs := fun i f hf => by
  obtain ⟨b, o, h1, h2, h3, a', c, h4, h5⟩ := h i f hf
  exact ⟨b, o, World.block_lt_of_cell? w ⟨b, _, none⟩ h2, h1, h2, h3, a', c, h4, h5.on⟩
theorem ValsOn.owns {w : World} {base : Nat} {a : Option Addr} {c : Nat} {vs : List V} (h : w.ownsRow base 90 3 (.slice a vs.length c) vs.length (vs.flatMap V.cells)) : ValsOn (fun b => base ≤ b ∧ b < w.heap.size) w a vs := fun i v hv => by
  obtain ⟨b, o, rfl, h2, h3⟩ := ValsAt.owns h i v hv
  exact ⟨b, o, h.lt b rfl, rfl, h2, h3⟩
theorem OFs.on {w : World} {base : Nat} {a : Option Addr} {n c : Nat} {fs : List F} {xs : List Value} (h : OFs w base (.slice a n c) n fs xs) : FactsOn (fun b => base ≤ b ∧ b < w.heap.size) w a fs := by
  intro i f hf
  have hi : i < fs.length := (List.getElem?_eq_some_iff.1 hf).1
  have hx : xs[i]? = some (xs[i]'(by rw [h.len]; exact hi)) := List.getElem?_eq_getElem _
  obtain ⟨⟨a', c', e⟩, ho⟩ := h.each i f _ hf hx
  have key := fun j (hj : j < 3) => frows_at fs xs h.len i f _ hf hx j hj
  obtain ⟨g, rfl, hg, h0, _⟩ := owns_cell h.own ((key 0 (by omega)).trans rfl)
  obtain ⟨g1, he1, _, h1, _⟩ := owns_cell h.own ((key 1 (by omega)).trans rfl)
  obtain ⟨g2, he2, _, h2, _⟩ := owns_cell h.own ((key 2 (by omega)).trans rfl)
  cases he1
  cases he2
  rw [e] at h2 ho
  exact ⟨g, 0, h.own.lt g rfl, rfl, by simpa using h0, by simpa using h1, a', c', by simpa using h2, ValsOn.owns ho⟩
end Go.Proofs.Ytlkfmbpbgnhcjab
