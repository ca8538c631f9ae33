/-
  OUR OWN TEXT. Ofs, Cpy, one behind the other.
-/
import Derived.Test.YtgamdkokmkagaaaJc
import Derived.Test.YtgamdkokmkagaaaJl
import Derived.Test.YtgamdkokmkagaaaJn
import Derived.Deep.RegionHeld3
import Derived.Deep.DrawnRows
import Derived.Maps.RangeWalk
namespace Go.Proofs.Ytgamdkokmkagaaa
open Go.RowKit

def frows (fs : List F) (xs : List Value) : List Value := (fs.zip xs).flatMap fun p => fcells p.1 p.2

theorem Apart.symm {x y : Value} (h : Apart x y) : Apart y x := fun g hy hx => h g hx hy

theorem own_cap {w : World} {base : Nat} {e : TypeId} {m : Nat} {a : Option Addr} {n c : Nat} {xs : List Value} (h : w.ownsRow base e m (.slice a n c) n xs) : n ≤ c := by
  rcases h.2 with ⟨_, h1⟩ | ⟨g, cap, cur, hv, _, _, hn, _⟩
  · omega
  · cases hv
    exact hn
structure OFs (w : World) (base : Nat) (v : Value) (n : Nat) (fs : List F) (xs : List Value) : Prop where
  num : n = fs.length
  len : xs.length = fs.length
  own : w.ownsRow base 117 3 v n (frows fs xs)
  each : ∀ (i : Nat) (f : F) (x : Value), fs[i]? = some f → xs[i]? = some x → (∃ a c, x = .slice a f.slots.length c) ∧ w.ownsRow base 125 3 x f.slots.length (f.slots.flatMap V.cells)
  apart : ∀ x ∈ xs, Apart v x
  pair : xs.Pairwise Apart

/-- A block of theirs. -/
def InBlk (v : Value) (xs : List Value) (g : Nat) : Prop := v.ownBlock = some g ∨ ∃ x ∈ xs, x.ownBlock = some g

theorem OFs.each' {w : World} {base : Nat} {v : Value} {n : Nat} {fs : List F} {xs : List Value} (h : OFs w base v n fs xs) {x : Value} (hx : x ∈ xs) : ∃ f ∈ fs, w.ownsRow base 125 3 x f.slots.length (f.slots.flatMap V.cells) := by
  obtain ⟨i, hi, rfl⟩ := List.getElem_of_mem hx
  have hf : i < fs.length := by rw [← h.len]; exact hi
  exact ⟨fs[i], List.getElem_mem hf, (h.each i _ _ (List.getElem?_eq_getElem hf) (List.getElem?_eq_getElem hi)).2⟩

theorem OFs.range {w : World} {base : Nat} {v : Value} {n : Nat} {fs : List F} {xs : List Value} (h : OFs w base v n fs xs) {g : Nat} (hg : InBlk v xs g) : base ≤ g ∧ g < w.heap.size := by
  rcases hg with hg | ⟨x, hx, hg⟩
  · exact h.own.lt g hg
  · obtain ⟨f, _, ho⟩ := h.each' hx
    exact ho.lt g hg

theorem OFs.kept {w w' : World} {base : Nat} {v : Value} {n : Nat} {fs : List F} {xs : List Value} (h : OFs w base v n fs xs) (hb : ∀ g, InBlk v xs g → w'.heap[g]? = w.heap[g]?) : OFs w' base v n fs xs :=
  ⟨h.num, h.len, owns_of_block h.own (fun g hg => hb g (.inl hg)), fun i f x hf hx => ⟨(h.each i f x hf hx).1, owns_of_block (h.each i f x hf hx).2 (fun g hg => hb g (.inr ⟨x, List.mem_of_getElem? hx, hg⟩))⟩, h.apart, h.pair⟩

theorem OFs.below {w w' : World} {base : Nat} {v : Value} {n : Nat} {fs : List F} {xs : List Value} (h : OFs w base v n fs xs) (hb : Below w.heap.size w w') : OFs w' base v n fs xs :=
  h.kept fun g hg => hb.block g (h.range hg).2

theorem OFs.lower {w : World} {base base' : Nat} {v : Value} {n : Nat} {fs : List F} {xs : List Value} (h : OFs w base v n fs xs) (hb : base' ≤ base) : OFs w base' v n fs xs :=
  ⟨h.num, h.len, owns_base h.own hb, fun i f x hf hx => ⟨(h.each i f x hf hx).1, owns_base (h.each i f x hf hx).2 hb⟩, h.apart, h.pair⟩

theorem OFs.set {w : World} {base : Nat} {v : Value} {n : Nat} {fs : List F} {xs : List Value} (h : OFs w base v n fs xs) {p : Addr} (hp : p.block < base) (u : Value) : OFs (w.setCell p u) base v n fs xs :=
  h.kept fun g hg => Below.heap_setCell _ _ _ _ (by have := (h.range hg).1; omega)

theorem OFs.allocd {w : World} {base : Nat} {v : Value} {n : Nat} {fs : List F} {xs : List Value} (h : OFs w base v n fs xs) (o : Obj) : OFs (w.alloc o) base v n fs xs :=
  h.below ((Below.refl _ _).alloc (Nat.le_refl _) _)

theorem OFs.nil (w : World) (base : Nat) : OFs w base (.slice none 0 0) 0 [] [] :=
  ⟨rfl, rfl, World.ownsRow_nil _ _ _ _, fun i f x hf => by simp at hf, fun x hx => by simp at hx, List.Pairwise.nil⟩

theorem frows_at : ∀ (fs : List F) (xs : List Value), xs.length = fs.length → ∀ (i : Nat) (f : F) (x : Value), fs[i]? = some f → xs[i]? = some x → ∀ j, j < 3 → (frows fs xs)[i * 3 + j]? = (fcells f x)[j]?
  | [], _, _, i, f, x, hf, _, _, _ => by simp at hf
  | g :: fs, [], h, _, _, _, _, _, _, _ => by simp at h
  | g :: fs, y :: xs, h, i, f, x, hf, hx, j, hj => by
    unfold frows
    rw [List.zip_cons_cons, List.flatMap_cons]
    cases i with
    | zero =>
      simp at hf hx
      subst hf
      subst hx
      rw [List.getElem?_append_left (by simpa [fcells] using hj)]
      simp
    | succ i =>
      rw [List.getElem?_append_right (by simp [fcells]; omega)]
      have := frows_at fs xs (by simpa using h) i f x (by simpa using hf) (by simpa using hx) j hj
      unfold frows at this
      rw [← this]
      congr 1
      simp [fcells]
      omega

theorem frows_len : ∀ (fs : List F) (xs : List Value), xs.length = fs.length → (frows fs xs).length = fs.length * 3
  | [], _, _ => by simp [frows]
  | _ :: _, [], h => by simp at h
  | g :: fs, y :: xs, h => by
    have := frows_len fs xs (by simpa using h)
    unfold frows at this ⊢
    rw [List.zip_cons_cons, List.flatMap_cons, List.length_append, this]
    simp [fcells]
    omega

theorem frows_snoc (fs : List F) (xs : List Value) (h : xs.length = fs.length) (f : F) (x : Value) : frows (fs ++ [f]) (xs ++ [x]) = frows fs xs ++ fcells f x := by
  unfold frows
  rw [List.zip_append h.symm, List.flatMap_append]
  simp

theorem ValsAt.owns {w : World} {base : Nat} {a : Option Addr} {c : Nat} {vs : List V} (h : w.ownsRow base 125 3 (.slice a vs.length c) vs.length (vs.flatMap V.cells)) : ValsAt w a vs := by
  intro i v hv
  have hi : i < vs.length := (List.getElem?_eq_some_iff.1 hv).1
  have key : ∀ j x, j < 3 → v.cells[j]? = some x → (vs.flatMap V.cells)[i * 3 + j]? = some x := by
    intro j x hj hx
    have hlen : i * 3 + j < (vs.flatMap V.cells).length := by rw [flat_len]; omega
    obtain ⟨u, h1, h2⟩ := flat_at vs (i * 3 + j) _ (List.getElem?_eq_getElem hlen)
    rw [show (i * 3 + j) / 3 = i by omega, hv] at h1
    cases h1
    rw [show (i * 3 + j) % 3 = j by omega, hx] at h2
    rw [List.getElem?_eq_getElem hlen, h2]
  obtain ⟨g, rfl, _, h0, _⟩ := owns_cell h (key 0 _ (by omega) rfl)
  obtain ⟨g1, he1, _, h1, _⟩ := owns_cell h (key 1 _ (by omega) rfl)
  obtain ⟨g2, he2, _, h2, _⟩ := owns_cell h (key 2 _ (by omega) rfl)
  cases he1
  cases he2
  exact ⟨g, 0, rfl, by simpa using h0, by simpa using h1, by simpa using h2⟩

theorem OFs.at {w : World} {base : Nat} {a : Option Addr} {n c : Nat} {fs : List F} {xs : List Value} (h : OFs w base (.slice a n c) n fs xs) : FactsAt w a fs := by
  intro i f hf
  have hi : i < fs.length := (List.getElem?_eq_some_iff.1 hf).1
  have hx : xs[i]? = some (xs[i]'(by rw [h.len]; exact hi)) := List.getElem?_eq_getElem _
  obtain ⟨⟨a', c', e⟩, ho⟩ := h.each i f _ hf hx
  have key := fun j (hj : j < 3) => frows_at fs xs h.len i f _ hf hx j hj
  obtain ⟨g, rfl, _, h0, _⟩ := owns_cell h.own ((key 0 (by omega)).trans rfl)
  obtain ⟨g1, he1, _, h1, _⟩ := owns_cell h.own ((key 1 (by omega)).trans rfl)
  obtain ⟨g2, he2, _, h2, _⟩ := owns_cell h.own ((key 2 (by omega)).trans rfl)
  cases he1
  cases he2
  rw [e] at h2 ho
  exact ⟨g, 0, rfl, by simpa using h0, by simpa using h1, a', c', by simpa using h2, ValsAt.owns ho⟩

/-- One fact more, by append. -/
theorem OFs.snoc {w w' : World} {base : Nat} {v v' : Value} {n : Nat} {fs : List F} {xs : List Value} {f : F} {x : Value} (h : OFs w base v n fs xs) (hx : (∃ a c, x = .slice a f.slots.length c) ∧ w.ownsRow base 125 3 x f.slots.length (f.slots.flatMap V.cells))
    (hxv : Apart v x) (hxs : ∀ y ∈ xs, Apart y x) (ho : w'.ownsRow base 117 3 v' (n + 1) (frows fs xs ++ fcells f x)) (hg : w.grownBy w' v.ownBlock) (hl : v'.ownBlock = v.ownBlock ∨ v'.ownBlock = some w.heap.size) : OFs w' base v' (n + 1) (fs ++ [f]) (xs ++ [x]) := by
  have hblk : ∀ y : Value, (y ∈ xs ∨ y = x) → ∀ g, y.ownBlock = some g → g < w.heap.size ∧ w'.heap[g]? = w.heap[g]? := by
    intro y hy g hgy
    have hlt : g < w.heap.size := by
      rcases hy with hy | rfl
      · exact (h.range (.inr ⟨y, hy, hgy⟩)).2
      · exact (hx.2.lt g hgy).2
    refine ⟨hlt, hg.block g hlt ?_⟩
    intro e
    rcases hy with hy | rfl
    · exact h.apart y hy g e.symm hgy
    · exact hxv g e.symm hgy
  have hapart : ∀ y : Value, (y ∈ xs ∨ y = x) → Apart v' y := by
    intro y hy g hgv hgy
    rcases hl with hl | hl
    · rw [hl] at hgv
      rcases hy with hy | rfl
      · exact h.apart y hy g hgv hgy
      · exact hxv g hgv hgy
    · rw [hl] at hgv
      cases hgv
      have := (hblk y hy _ hgy).1
      omega
  refine ⟨by simp [h.num], by simp [h.len], by rw [frows_snoc fs xs h.len]; exact ho, ?_, ?_, ?_⟩
  · intro i f' y hf hy
    by_cases hi : i < fs.length
    · rw [List.getElem?_append_left hi] at hf
      rw [List.getElem?_append_left (by rw [h.len]; exact hi)] at hy
      obtain ⟨h1, h2⟩ := h.each i f' y hf hy
      exact ⟨h1, owns_of_block h2 (fun g hgy => (hblk y (.inl (List.mem_of_getElem? hy)) g hgy).2)⟩
    · have hil : i < (fs ++ [f]).length := (List.getElem?_eq_some_iff.1 hf).1
      simp at hil
      obtain rfl : i = fs.length := by omega
      rw [List.getElem?_append_right (Nat.le_refl _)] at hf
      rw [List.getElem?_append_right (by rw [h.len]; exact Nat.le_refl _), h.len] at hy
      simp at hf hy
      subst hf
      subst hy
      exact ⟨hx.1, owns_of_block hx.2 (fun g hgy => (hblk x (.inr rfl) g hgy).2)⟩
  · intro y hy
    rcases List.mem_append.1 hy with hy | hy
    · exact hapart y (.inl hy)
    · exact hapart y (.inr (by simpa using hy))
  · rw [List.pairwise_append]
    exact ⟨h.pair, List.pairwise_singleton _ _, fun y hy z hz => by
      simp at hz
      subst hz
      exact hxs y hy⟩

/-- What toStore has made, said so. -/
theorem OwnFs.ofs {w : World} {g base : Nat} {fs : List F} {gs : List Nat} (h : OwnFs w g fs.length fs gs) (hb : base ≤ g) (hm : fs.length ≤ maxLen) (hs : ∀ f ∈ fs, f.slots.length ≤ maxLen) : ∃ xs, OFs w base (.slice (some ⟨g, 0, none⟩) fs.length fs.length) fs.length fs xs := by
  refine ⟨(fs.zip gs).map (fun p => .slice (some ⟨p.2, 0, none⟩) p.1.slots.length p.1.slots.length), rfl, by simp [h.len], ?_, ?_, ?_, ?_⟩
  · have ho := h.own.owns hb (by simp [h.len]) hm
    have e : frows fs ((fs.zip gs).map (fun p => .slice (some ⟨p.2, 0, none⟩) p.1.slots.length p.1.slots.length)) = ((fs.zip gs).map fun p => fcells p.1 (.slice (some ⟨p.2, 0, none⟩) p.1.slots.length p.1.slots.length)).flatten := by
      have key : ∀ (l : List F) (k : List Nat), frows l ((l.zip k).map (fun p => .slice (some ⟨p.2, 0, none⟩) p.1.slots.length p.1.slots.length)) = ((l.zip k).map fun p => fcells p.1 (.slice (some ⟨p.2, 0, none⟩) p.1.slots.length p.1.slots.length)).flatten := by
        intro l
        induction l with
        | nil => intro k; simp [frows]
        | cons f l ih =>
          intro k
          cases k with
          | nil => simp [frows]
          | cons b k =>
            have := ih k
            unfold frows at this ⊢
            simp only [List.zip_cons_cons, List.map_cons, List.flatMap_cons, List.flatten_cons]
            rw [this]
      exact key fs gs
    rw [e]
    exact ho
  · intro i f x hf hx
    have hi : i < fs.length := (List.getElem?_eq_some_iff.1 hf).1
    have hgi : gs[i]? = some (gs[i]'(by rw [h.len]; exact hi)) := List.getElem?_eq_getElem _
    have hz : (fs.zip gs)[i]? = some (f, gs[i]'(by rw [h.len]; exact hi)) := (List.getElem?_zip_eq_some (z := (f, gs[i]'(by rw [h.len]; exact hi)))).2 ⟨hf, hgi⟩
    rw [List.getElem?_map, hz] at hx
    simp only [Option.map_some, Option.some.injEq] at hx
    subst hx
    have he := h.each i f _ hf hgi
    have hlt := h.gt _ (List.mem_of_getElem? hgi)
    have := he.owns (base := base) (by omega) (by simp) (hs f (List.mem_of_getElem? hf))
    refine ⟨⟨_, _, rfl⟩, ?_⟩
    rwa [← List.flatMap_def] at this
  · intro x hx
    obtain ⟨p, hp, rfl⟩ := List.mem_map.1 hx
    have hlt := h.gt p.2 (List.of_mem_zip hp).2
    intro k hk hk'
    simp [Value.ownBlock] at hk hk'
    omega
  · rw [List.pairwise_map]
    have hnd := h.nodup
    have key : ∀ (l : List F) (k : List Nat), k.Nodup → (l.zip k).Pairwise (fun p q => p.2 ≠ q.2) := by
      intro l
      induction l with
      | nil => intro k _; simp
      | cons f l ih =>
        intro k hk
        cases k with
        | nil => simp
        | cons b k =>
          rw [List.nodup_cons] at hk
          rw [List.zip_cons_cons, List.pairwise_cons]
          exact ⟨fun q hq e => hk.1 (by have e' : b = q.2 := e; rw [e']; exact (List.of_mem_zip hq).2), ih k hk.2⟩
    refine (key fs gs hnd).imp ?_
    intro p q hpq k hk hk'
    simp [Value.ownBlock] at hk hk'
    exact hpq (hk.trans hk'.symm)

/-- As ValsAt, FactsAt; and each block met is one of Z's. -/
def ValsOn (Z : Nat → Prop) (w : World) (a : Option Addr) (vs : List V) : Prop :=
  ∀ (i : Nat) (v : V), vs[i]? = some v → ∃ b o, Z b ∧ a = some ⟨b, o, none⟩ ∧ w.cell? ⟨b, o + i * 3, none⟩ = some (.int .i64 v.kind) ∧
    w.cell? ⟨b, o + i * 3 + 1, none⟩ = some (.int .i64 v.num) ∧ w.cell? ⟨b, o + i * 3 + 2, none⟩ = some (.string v.sym)
def FactsOn (Z : Nat → Prop) (w : World) (a : Option Addr) (fs : List F) : Prop :=
  ∀ (i : Nat) (f : F), fs[i]? = some f → ∃ b o, Z b ∧ a = some ⟨b, o, none⟩ ∧ w.cell? ⟨b, o + i * 3, none⟩ = some (.int .i64 f.tag) ∧
    w.cell? ⟨b, o + i * 3 + 1, none⟩ = some (.string f.cls) ∧ ∃ a' c, w.cell? ⟨b, o + i * 3 + 2, none⟩ = some (.slice a' f.slots.length c) ∧ ValsOn Z w a' f.slots

theorem ValsOn.at {Z : Nat → Prop} {w : World} {a : Option Addr} {vs : List V} (h : ValsOn Z w a vs) : ValsAt w a vs := fun i v hv => by
  obtain ⟨b, o, _, h⟩ := h i v hv
  exact ⟨b, o, h⟩
theorem FactsOn.at {Z : Nat → Prop} {w : World} {a : Option Addr} {fs : List F} (h : FactsOn Z w a fs) : FactsAt w a fs := fun i f hf => by
  obtain ⟨b, o, _, h1, h2, h3, a', c, h4, h5⟩ := h i f hf
  exact ⟨b, o, h1, h2, h3, a', c, h4, h5.at⟩
theorem cell_blk {w w' : World} {b o : Nat} {x : Value} (hk : w'.heap[b]? = w.heap[b]?) (h : w.cell? ⟨b, o, none⟩ = some x) : w'.cell? ⟨b, o, none⟩ = some x := by
  rw [← h]
  exact World.cell?_of_block (a := ⟨b, o, none⟩) hk
theorem ValsOn.kept {Z : Nat → Prop} {w w' : World} {a : Option Addr} {vs : List V} (h : ValsOn Z w a vs) (hk : ∀ b, Z b → b < w.heap.size → w'.heap[b]? = w.heap[b]?) : ValsOn Z w' a vs := fun i v hv => by
  obtain ⟨b, o, hz, h1, h2, h3, h4⟩ := h i v hv
  have := hk b hz (World.block_lt_of_cell? w ⟨b, _, none⟩ h2)
  exact ⟨b, o, hz, h1, cell_blk this h2, cell_blk this h3, cell_blk this h4⟩
theorem FactsOn.kept {Z : Nat → Prop} {w w' : World} {a : Option Addr} {fs : List F} (h : FactsOn Z w a fs) (hk : ∀ b, Z b → b < w.heap.size → w'.heap[b]? = w.heap[b]?) : FactsOn Z w' a fs := fun i f hf => by
  obtain ⟨b, o, hz, h1, h2, h3, a', c, h4, h5⟩ := h i f hf
  have := hk b hz (World.block_lt_of_cell? w ⟨b, _, none⟩ h2)
  exact ⟨b, o, hz, h1, cell_blk this h2, cell_blk this h3, a', c, cell_blk this h4, h5.kept hk⟩
theorem ValsOn.mono {Z Z' : Nat → Prop} {w : World} {a : Option Addr} {vs : List V} (h : ValsOn Z w a vs) (hz : ∀ b, Z b → Z' b) : ValsOn Z' w a vs := fun i v hv => by
  obtain ⟨b, o, h0, h⟩ := h i v hv
  exact ⟨b, o, hz b h0, h⟩
theorem FactsOn.mono {Z Z' : Nat → Prop} {w : World} {a : Option Addr} {fs : List F} (h : FactsOn Z w a fs) (hz : ∀ b, Z b → Z' b) : FactsOn Z' w a fs := fun i f hf => by
  obtain ⟨b, o, h0, h1, h2, h3, a', c, h4, h5⟩ := h i f hf
  exact ⟨b, o, hz b h0, h1, h2, h3, a', c, h4, h5.mono hz⟩
theorem ValsAt.on {w : World} {a : Option Addr} {vs : List V} (h : ValsAt w a vs) : ValsOn (fun b => b < w.heap.size) w a vs := fun i v hv => by
  obtain ⟨b, o, h1, h2, h3⟩ := h i v hv
  exact ⟨b, o, World.block_lt_of_cell? w ⟨b, _, none⟩ h2, h1, h2, h3⟩
theorem FactsAt.on {w : World} {a : Option Addr} {fs : List F} (h : FactsAt w a fs) : FactsOn (fun b => b < w.heap.size) w a fs := fun i f hf => by
  obtain ⟨b, o, h1, h2, h3, a', c, h4, h5⟩ := h i f hf
  exact ⟨b, o, World.block_lt_of_cell? w ⟨b, _, none⟩ h2, h1, h2, h3, a', c, h4, h5.on⟩
theorem ValsOn.owns {w : World} {base : Nat} {a : Option Addr} {c : Nat} {vs : List V} (h : w.ownsRow base 125 3 (.slice a vs.length c) vs.length (vs.flatMap V.cells)) : ValsOn (fun b => base ≤ b ∧ b < w.heap.size) w a vs := fun i v hv => by
  obtain ⟨b, o, rfl, h2, h3⟩ := ValsAt.owns h i v hv
  exact ⟨b, o, h.lt b rfl, rfl, h2, h3⟩
theorem OFs.on {w : World} {base : Nat} {a : Option Addr} {n c : Nat} {fs : List F} {xs : List Value} (h : OFs w base (.slice a n c) n fs xs) : FactsOn (fun b => base ≤ b ∧ b < w.heap.size) w a fs := by
  intro i f hf
  have hi : i < fs.length := (List.getElem?_eq_some_iff.1 hf).1
  have hx : xs[i]? = some (xs[i]'(by rw [h.len]; exact hi)) := List.getElem?_eq_getElem _
  obtain ⟨⟨a', c', e⟩, ho⟩ := h.each i f _ hf hx
  have key := fun j (hj : j < 3) => frows_at fs xs h.len i f _ hf hx j hj
  obtain ⟨g, rfl, hg, h0, _⟩ := owns_cell h.own ((key 0 (by omega)).trans rfl)
  obtain ⟨g1, he1, _, h1, _⟩ := owns_cell h.own ((key 1 (by omega)).trans rfl)
  obtain ⟨g2, he2, _, h2, _⟩ := owns_cell h.own ((key 2 (by omega)).trans rfl)
  cases he1
  cases he2
  rw [e] at h2 ho
  exact ⟨g, 0, h.own.lt g rfl, rfl, by simpa using h0, by simpa using h1, a', c', by simpa using h2, ValsOn.owns ho⟩
end Go.Proofs.Ytgamdkokmkagaaa

namespace Go.Proofs.Ytgamdkokmkagaaa
open Go.RowKit
attribute [local go_sem ↓] Go.wp_at_zero Go.wp_at_succ

theorem hidden' {p : Prop} (h : p) : Hid p := h
theorem below_new {w w' : World} (h : w.grownBy w' none) : Below w.heap.size w w' :=
  (Below.refl _ _).grown h (Nat.le_refl _) (fun k hk => by cases hk)
theorem owns_set {w : World} {base : Nat} {e : TypeId} {size : Nat} {v : Value} {n : Nat} {xs : List Value} (h : w.ownsRow base e size v n xs) {p : Addr} (hp : p.block < base) (u : Value) : (w.setCell p u).ownsRow base e size v n xs :=
  owns_of_block h (fun g hg => Below.heap_setCell _ _ _ _ (by have := (h.lt g hg).1; omega))

/-- Slots of one's own. -/
def OwnSl (w : World) (base : Nat) (x : Value) (vs : List V) : Prop := (∃ a c, x = .slice a vs.length c) ∧ w.ownsRow base 125 3 x vs.length (vs.flatMap V.cells)

set_option maxHeartbeats 800000 in
theorem l1Slots_any (a : Option Addr) (c : Nat) (vs : List V) (w : World) (hv : ValsAt w a vs) (hl : vs.length ≤ 1048576) :
    Calls Try.prog 127 #[.slice a vs.length c] w fun e w' =>
      (∃ a' c', e = .returned (.slice a' vs.length c') ∧ OwnSl w' w.heap.size (.slice a' vs.length c') vs) ∧ Below w.heap.size w w' := by
  go_enter Try.func127, Try.ntmps127
  go_wp2_with (at_builtin; refine wpList_append_any (by rfl) (.tmp 4) (.tmp 5) 29 (by rfl) w.heap.size 125 _ 3 32 Try.underlying29 infoV (by rfl) (by omega) _ 0 [] (by rfl) (World.ownsRow_nil _ _ _ _) a vs.length c (by rfl) (vs.flatMap V.cells) (flat_len _) (fun e => ValsAt.nil (e ▸ hv)) (fun ad e => ValsAt.flat (e ▸ hv)) (flat_one _) (by unfold maxLen; omega) (by omega) (Nat.le_refl _) ?_; intro a' c' w1 ho hg hl1)
  have ho1 := ho.out
  simp only [Nat.zero_add, List.nil_append] at ho1
  go_ret
  exact ⟨⟨a', c', by simp, ⟨a', c', rfl⟩, ho1⟩, below_new hg.out⟩

set_option maxHeartbeats 800000 in
theorem factCopied_any (f : F) (a : Option Addr) (c : Nat) (w : World) (hv : ValsAt w a f.slots) (hl : f.slots.length ≤ 1048576) :
    Calls Try.prog 198 #[.agg #[.int .i64 f.tag, .string f.cls, .slice a f.slots.length c]] w fun e w' =>
      (∃ a' c', e = .returned (.agg #[.int .i64 f.tag, .string f.cls, .slice a' f.slots.length c']) ∧ OwnSl w' w.heap.size (.slice a' f.slots.length c') f.slots) ∧ Below w.heap.size w w' := by
  have hv1 : ∀ o o', ValsAt ((w.alloc o).alloc o') a f.slots := fun o o' => hv.below (((Below.refl _ _).alloc (Nat.le_refl _) _).alloc (by simp) _)
  have hz2 : w.heap.size < w.heap.size + 1 + 1 := by omega
  go_enter Try.func198, Try.ntmps198
  go_wp2_with (at_builtin; refine wpList_append_any (by rfl) _ (.tmp 4) 29 (by rfl) (w.heap.size + 1 + 1) 125 _ 3 32 Try.underlying29 infoV (by rfl) (by omega) _ 0 [] (by rfl) (World.ownsRow_nil _ _ _ _) a f.slots.length c (by rfl) (f.slots.flatMap V.cells) (flat_len _) (fun e => ValsAt.nil (e ▸ hv)) (fun ad e => ValsAt.flat (e ▸ hv1 _ _)) (flat_one _) (by unfold maxLen; omega) (by omega) (by simp) ?_; intro a' c' w1 ho hg hl1; have hb1 := below_new hg.out; obtain ⟨hc, hf⟩ := bcell hb1)
  have ho1 := ho.out
  simp only [Nat.zero_add, List.nil_append] at ho1
  refine bodyPost_ret (v := .agg #[.int .i64 f.tag, .string f.cls, .slice a' f.slots.length c']) (by simp [results, Try.results198, go_sem, hc]) rfl ⟨⟨a', c', rfl, ⟨a', c', rfl⟩, ?_⟩, ?_⟩
  · exact owns_base (owns_set (owns_set (owns_set (owns_set ho1 (by simp; omega) _) (by simp) _) (by simp) _) (by simp) _) (by omega)
  · have hB : Below w.heap.size w w1 := (((Below.refl _ _).alloc (Nat.le_refl _) _).alloc (by simp) _).trans (hb1.mono (by simp; omega))
    exact (((hB.setCell (by simp) _).setCell (by simp) _).setCell (by simp) _).setCell (by simp) _

theorem news_alloc (w : World) (L : List Value) (t : TypeId) (ad : Addr) (e : some (⟨w.heap.size, 0, none⟩ : Addr) = some ad) (j : Nat) (u : Value) (h : L[j]? = some u) : (w.alloc (.cells L.toArray t)).cell? (ad.add j) = some u := by
  cases e
  rw [Addr.add_mid, Nat.zero_add]
  have hb := heap_alloc_new w (.cells L.toArray t)
  simp only [World.cell?, hb]
  simp [h]
theorem fcells_one (f : F) (a : Option Addr) (n c : Nat) : ∀ u ∈ fcells f (.slice a n c), u.oneCell' = true := by
  intro u hu
  simp [fcells] at hu
  rcases hu with rfl | rfl | rfl <;> rfl

theorem apart_new {w : World} {base B : Nat} {v x : Value} {e e' : TypeId} {s s' n n' : Nat} {xs ys : List Value} {w' : World} (h : w.ownsRow base e s v n xs) (hx : w'.ownsRow B e' s' x n' ys) (hB : w.heap.size ≤ B) : Apart v x := fun g hg hgx => by
  have h1 := (h.lt g hg).2
  have h2 := (hx.lt g hgx).1
  omega

set_option maxHeartbeats 800000 in
theorem copyFacts_any (a : Option Addr) (c : Nat) (fs : List F) (w : World) (hv : FactsAt w a fs) (hl : fs.length ≤ 1048576) (hs : ∀ f ∈ fs, f.slots.length ≤ 1048576) :
    Calls Try.prog 197 #[.slice a fs.length c] w fun e w' =>
      (∃ a' c' xs, e = .returned (.slice a' fs.length c') ∧ OFs w' w.heap.size (.slice a' fs.length c') fs.length fs xs) ∧ Below w.heap.size w w' := by
  go_enter Try.func197, Try.ntmps197
  go_wp2
  go_loopw [3, 8] (fun v i wr => ∃ (k : Nat) (a' : Option Addr) (c' : Nat) (xs : List Value), k ≤ fs.length ∧ i = .int .i64 k ∧ v = .slice a' k c' ∧ OFs wr w.heap.size (.slice a' k c') k (fs.take k) xs ∧ Below w.heap.size w wr) (fun _ i _ => fs.length - (intOf i).toNat)
  case atStart => exact ⟨0, none, 0, [], by omega, rfl, rfl, OFs.nil _ _, Below.refl _ _⟩
  case round =>
    obtain ⟨k, a', c', xs, hk, rfl, rfl, ho, hb⟩ := hrel
    by_cases hkl : k < fs.length
    · obtain ⟨f, hfk⟩ : ∃ f, fs[k]? = some f := ⟨fs[k], by simp [hkl]⟩
      obtain ⟨b, o, rfl, c0, c1, s, cs, c2, hsl⟩ := hv.below hb k f hfk
      have hsf := hs f (List.mem_of_getElem? hfk)
      have B1 : ∀ o, Below wr.heap.size wr (wr.alloc o) := fun o => (Below.refl _ _).alloc (Nat.le_refl _) _
      have HO := hidden' ho
      clear ho
      go_wp2_with (first | (go_at_call 198; refine (factCopied_any f s cs _ (hsl.below (B1 _)) hsf).mono ?_; rintro e w1 ⟨⟨a1, c1', rfl, hx1⟩, hb1⟩; have ho1 := hidden' ((HO.out.below (B1 _)).below hb1); have HX := hidden' hx1; clear hx1) | (at_builtin; refine wpList_append_any (by rfl) (.tmp 12) (.tmp 15) 24 (by rfl) w.heap.size 117 _ 3 48 Try.underlying24 infoF (by rfl) (by omega) _ k _ (by rfl) (ho1.out.own.alloc _) (some ⟨w1.heap.size, 0, none⟩) 1 1 (by rfl) (fcells f (.slice a1 f.slots.length c1')) (by rfl) (fun e => by cases e) (by exact news_alloc _ _ _) (fcells_one _ _ _ _) (by unfold maxLen; omega) (by omega) (by have h1 := hb.size; have h2 := hb1.size; simp at h2 ⊢; omega) ?_; intro a2 c2' w2 ho2 hg2 hl2))
      have hX := HX.out
      have hW1 : Below w.heap.size w w1 := hb.trans (((B1 _).trans (hb1.mono (by simp))).mono hb.size)
      have hsz : w.heap.size ≤ w1.heap.size := hW1.size
      have hS := (ho1.out.below ((Below.refl _ _).alloc (Nat.le_refl _) _)).snoc ⟨hX.1, (owns_base hX.2 (by have := hb.size; simp; omega)).alloc _⟩ (apart_new HO.out.own hX.2 (by simp)) (fun y hy => by
        obtain ⟨f', _, hf'⟩ := HO.out.each' hy
        exact apart_new hf' hX.2 (by simp)) ho2.out hg2.out hl2.out
      go_roundw
      case rel =>
        rw [← take_succ' fs k f hfk] at hS
        exact ⟨k + 1, a2, c2', _, by omega, by go_num, rfl, hS, ((hW1.alloc hsz _).grown hg2.out (by simp; omega) (fun j hj => (ho1.out.own.lt j hj).1))⟩
      case measure => simp [intOf]; omega
    · go_wp2
      go_ret
      obtain rfl : k = fs.length := by omega
      rw [List.take_of_length_le (Nat.le_refl _)] at ho
      exact ⟨⟨a', c', xs, rfl, ho⟩, hb⟩

set_option maxRecDepth 100000 in
set_option maxHeartbeats 800000 in
theorem l1Facts_any (a : Option Addr) (c : Nat) (fs : List F) (w : World) (hv : FactsAt w a fs) (hl : fs.length ≤ 1048576) (hs : ∀ f ∈ fs, f.slots.length ≤ 1048576) :
    Calls Try.prog 126 #[.slice a fs.length c] w fun e w' =>
      (∃ a' c' xs, e = .returned (.slice a' fs.length c') ∧ OFs w' w.heap.size (.slice a' fs.length c') fs.length fs xs) ∧ Below w.heap.size w w' := by
  go_enter Try.func126, Try.ntmps126
  go_wp2
  go_loopw [3, 8] (fun v i wr => ∃ (k : Nat) (a' : Option Addr) (c' : Nat) (xs : List Value), k ≤ fs.length ∧ i = .int .i64 k ∧ v = .slice a' k c' ∧ OFs wr w.heap.size (.slice a' k c') k (fs.take k) xs ∧ Below w.heap.size w wr) (fun _ i _ => fs.length - (intOf i).toNat)
  case atStart => exact ⟨0, none, 0, [], by omega, rfl, rfl, OFs.nil _ _, Below.refl _ _⟩
  case round =>
    obtain ⟨k, a', c', xs, hk, rfl, rfl, ho, hb⟩ := hrel
    by_cases hkl : k < fs.length
    · obtain ⟨f, hfk⟩ : ∃ f, fs[k]? = some f := ⟨fs[k], by simp [hkl]⟩
      obtain ⟨b, o, rfl, c0, c1, s, cs, c2, hsl⟩ := hv.below hb k f hfk
      have hsf := hs f (List.mem_of_getElem? hfk)
      have B1 : ∀ o, Below wr.heap.size wr (wr.alloc o) := fun o => (Below.refl _ _).alloc (Nat.le_refl _) _
      have HO := hidden' ho
      clear ho
      go_wp2
      go_region_held3 (fun w' => w'.cell? ⟨wr.heap.size, 0, none⟩ = some (.int .i64 f.tag) ∧ w'.cell? ⟨wr.heap.size, 1, none⟩ = some (.string f.cls) ∧ w'.cell? ⟨wr.heap.size, 2, none⟩ = some (.slice s f.slots.length cs)) ((go_split_ands; refine ⟨?_, ?_, ?_⟩ <;> first | (simp [*, go_sem]; done) | exact cell_below hb1 (by simp [*, go_sem]) | exact cell_below ((Below.refl _ _).alloc (Nat.le_refl _) _) (cell_below hb1 (by simp [*, go_sem])) | exact hg2.out.cell (cell_below ((Below.refl _ _).alloc (Nat.le_refl _) _) (cell_below hb1 (by simp [*, go_sem]))) (fun e => absurd (HO.out.own.lt _ e.symm).2 (Nat.lt_irrefl _))))
        (first | (go_at_call 127; refine (l1Slots_any s cs f.slots _ (hsl.below ?_) hsf).mono ?_; exact (B1 _).drew; rintro e w1 ⟨⟨a1, c1', rfl, hx1⟩, hb1⟩; have ho1 := hidden' ((HO.out.below (B1 _).drew).below hb1); have HX := hidden' hx1; clear hx1) | (refine step_append_any (by rfl) (.tmp 12) (.tmp 21) 24 (by rfl) w.heap.size 117 _ 3 48 Try.underlying24 infoF (by rfl) (by omega) _ k _ (by rfl) (ho1.out.own.alloc _) (some ⟨w1.heap.size, 0, none⟩) 1 1 (by rfl) (fcells f (.slice a1 f.slots.length c1')) (by rfl) (fun e => by cases e) (by exact news_alloc _ _ _) (fcells_one _ _ _ _) (by unfold maxLen; omega) (by omega) (by have h1 := hb.size; have h2 := hb1.size; simp at h2 ⊢; omega) ?_; intro a2 c2' w2 ho2 hg2 hl2))
      have hX := HX.out
      have hW1 : Below w.heap.size w w1 := hb.trans (((B1 _).drew.trans (hb1.mono (by simp))).mono hb.size)
      have hsz : w.heap.size ≤ w1.heap.size := hW1.size
      have hS := (ho1.out.below ((Below.refl _ _).alloc (Nat.le_refl _) _)).snoc ⟨hX.1, (owns_base hX.2 (by have := hb.size; simp; omega)).alloc _⟩ (apart_new HO.out.own hX.2 (by simp)) (fun y hy => by
        obtain ⟨f', _, hf'⟩ := HO.out.each' hy
        exact apart_new hf' hX.2 (by simp)) ho2.out hg2.out hl2.out
      go_wp2
      go_roundw
      case rel =>
        rw [← take_succ' fs k f hfk] at hS
        exact ⟨k + 1, a2, c2', _, by omega, by go_num, rfl, hS, ((hW1.alloc hsz _).grown hg2.out (by simp; omega) (fun j hj => (ho1.out.own.lt j hj).1))⟩
      case measure => simp [intOf]; omega
    · go_wp2
      go_ret
      obtain rfl : k = fs.length := by omega
      rw [List.take_of_length_le (Nat.le_refl _)] at ho
      exact ⟨⟨a', c', xs, rfl, ho⟩, hb⟩
end Go.Proofs.Ytgamdkokmkagaaa
