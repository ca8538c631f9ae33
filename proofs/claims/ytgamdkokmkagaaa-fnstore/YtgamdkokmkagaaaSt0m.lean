/-
  OUR OWN TEXT. What FnStore's round needs: operations that were drawn, what a change tells of them, two stores that are the same.
-/
import Derived.Test.YtgamdkokmkagaaaJz
import Derived.Test.YtgamdkokmkagaaaSmm
import Derived.Test.YtgamdkokmkagaaaJx
import Derived.Test.YtgamdkokmkagaaaJi
namespace Go.Proofs.Ytgamdkokmkagaaa
open Go.RowKit

theorem op_at {w : World} {base : Nat} {a : Option Addr} {c : Nat} {N : List OpX} (h : OO w base a c N) {i : Nat} {x : OpX} (hi : N[i]? = some x) :
    ∃ k, a = some ⟨k, 0, none⟩ ∧ k < w.heap.size ∧ w.cell? ⟨k, i * 4, none⟩ = some (.int .i64 x.kind) ∧ w.cell? ⟨k, i * 4 + 1, none⟩ = some (.int .i64 x.tag) ∧ w.cell? ⟨k, i * 4 + 2, none⟩ = some (.string x.cls) ∧ w.cell? ⟨k, i * 4 + 3, none⟩ = some x.sv := by
  have key := fun j u (hj : (ocells x)[j]? = some u) => owns_cell h.1 (flat_gen (cells := ocells) (m := 4) (fun _ => rfl) N i x j u hi hj)
  obtain ⟨k, rfl, _, h0, _⟩ := key 0 _ rfl
  obtain ⟨k1, e1, _, h1, _⟩ := key 1 _ rfl
  obtain ⟨k2, e2, _, h2, _⟩ := key 2 _ rfl
  obtain ⟨k3, e3, _, h3, _⟩ := key 3 _ rfl
  cases e1
  cases e2
  cases e3
  exact ⟨k, rfl, World.block_lt_of_cell? w ⟨k, _, none⟩ h0, h0, h1, h2, h3⟩
theorem OO.kept {w w' : World} {base d : Nat} {t : TypeId} {a : Option Addr} {c : Nat} {N : List OpX} {cd : Array Value} {fr : Nat × Nat} (h : OO w base a c N) (hb : ∀ k, k ≠ d → w'.heap[k]? = w.heap[k]?) (hd : w.heap[d]? = some (.cells cd t fr)) (h1 : t ≠ 31) (h2 : t ≠ 125) : OO w' base a c N := by
  have key : ∀ {e : TypeId} {m : Nat} {v : Value} {n : Nat} {xs : List Value}, w.ownsRow base e m v n xs → t ≠ e → w'.ownsRow base e m v n xs := fun hh hne => owns_of_block hh fun k hk => hb k (fun e => by
    obtain ⟨cc, hcc⟩ := own_type hh hk
    subst e
    exact own_far hd hcc hne)
  exact ⟨key h.1 h1, fun x hx => ⟨(h.2 x hx).1, key (h.2 x hx).2.1 h2, (h.2 x hx).2.2⟩⟩
theorem own_vals {w : World} {base : Nat} {a : Option Addr} {c : Nat} {vs : List V} (h : w.ownsRow base 125 3 (.slice a vs.length c) vs.length (vs.flatMap V.cells)) : ValsAt w a vs := by
  intro i v hi
  obtain ⟨k, e, _, _, h0, h1, h2⟩ := val_at h hi
  exact ⟨k, 0, e, by simpa using h0, by simpa using h1, by simpa using h2⟩
theorem wf_range {n : Int} (h1 : -9223372036854775808 ≤ n) (h2 : n ≤ 9223372036854775807) : (Lit.int .i64 n).wf = true := by
  simp [Lit.wf, IntKind.min, IntKind.max, IntKind.signed, IntKind.bits]
  omega
theorem VSm.ok {v : V} (h : VSm v) : VOk v := ⟨wf_range h.2.1.1 h.2.1.2, wf_range h.2.2.1 h.2.2.2, Nat.le_trans h.1 (by decide)⟩
/-- A fact that can be read. -/
def Fok (f : F) : Prop := Sized f ∧ Read f
theorem Fok.new {nx : Int} {cls : ByteArray} {vs : List V} (h1 : 1 ≤ nx) (h2 : nx ≤ 1000001) (hc : cls.size ≤ maxLen) (hl : vs.length ≤ 1048576) (hv : ∀ v ∈ vs, VOk v) : Fok ⟨nx, cls, vs⟩ := ⟨⟨hc, hl, fun v hv' => (hv v hv').2.2⟩, wf_range (n := nx) (by omega) (by omega), hv⟩
theorem opR_told {k : Int} (tag : Int) (cls : ByteArray) (vs : List V) {fs : List F} {nx cp : Int} {sg : Bool} (h : VS fs nx cp sg) : Told fs nx cp sg (opR k tag cls vs fs nx cp sg) := by
  unfold opR
  split
  · exact asrt_told cls vs h
  · split
    · exact retr_told tag h
    · exact mdfy_told tag vs h
theorem opR_read {k tag : Int} {cls : ByteArray} {vs : List V} {fs : List F} {nx cp : Int} {sg : Bool} (h : VS fs nx cp sg) (hf : ∀ f ∈ fs, Fok f) (hc : cls.size ≤ maxLen) (hl : vs.length ≤ 1048576) (hv : ∀ v ∈ vs, VOk v) : ∀ f ∈ (opR k tag cls vs fs nx cp sg).fs, Fok f := by
  have hva := VS.iff.2 h
  have hsnoc : ∀ (L : List F) (cls' : ByteArray), (∀ f ∈ L, Fok f) → cls'.size ≤ maxLen → ∀ f ∈ L ++ [⟨nx, cls', vs⟩], Fok f := fun L cls' hL hc' f hf' => by
    rcases List.mem_append.1 hf' with h1 | h1
    · exact hL f h1
    · simp at h1
      subst h1
      exact Fok.new h.nx1 h.nxm hc' hl hv
  have hbad : ∀ f ∈ C6.bad.fs, Fok f := fun f hf' => by simp [C6.bad] at hf'
  unfold opR
  split
  · unfold asrt
    split
    · unfold asOk
      split
      · exact hf
      · split
        · exact hf
        · split
          · exact hf
          · exact hsnoc fs cls hf hc
    · exact hbad
  · split
    · cases hi : fidx tag fs with
      | none =>
        rw [retr_none hva hi]
        exact hf
      | some i =>
        rw [retr_some hva hi]
        exact fun f hf' => hf f (List.mem_of_mem_eraseIdx hf')
    · cases hg : gSlots vs
      · rw [mdfy_bad (by rw [hg, Bool.and_false])]
        exact hbad
      · cases hi : fidx tag fs with
        | none =>
          rw [mdfy_none hva hg hi]
          exact hf
        | some i =>
          obtain ⟨f, hfi⟩ : ∃ f, fs[i]? = some f := ⟨fs[i]'(fidx_lt hi), by simp [fidx_lt hi]⟩
          rw [mdfy_some hva hg hi hfi]
          unfold mdSome
          split
          · exact hf
          · split
            · exact hf
            · exact hsnoc _ _ (fun g hg' => hf g (List.mem_of_mem_eraseIdx hg')) (hf f (List.mem_of_getElem? hfi)).1.1
theorem sameStore_two {a a' : Option Addr} {c c' : Nat} {fs fs' : List F} {nx nx' cp cp' : Int} {sg sg' : Bool} {w : World} (e1 : fs' = fs) (e2 : nx' = nx) (e3 : cp' = cp) (e4 : sg' = sg) (hv : FactsAt w a fs) (hv' : FactsAt w a' fs') (hl : fs.length ≤ 1048576) (hs : ∀ f ∈ fs, f.slots.length ≤ 1048576) :
    Calls Try.prog 18 #[.agg #[.slice a fs.length c, .int .i64 nx, .int .i64 cp, .bool sg], .agg #[.slice a' fs'.length c', .int .i64 nx', .int .i64 cp', .bool sg']] w fun e w' => e = .returned (.bool true) ∧ Below w.heap.size w w' := by
  subst e1 e2 e3 e4
  exact sameStore_same a a' c c' fs' nx' cp' sg' w hv hv' hl hs
theorem TB.bel {w w' : World} {b : Nat} {a : Option Addr} {n c : Nat} {nx cp : Int} {sg : Bool} (h : TB w b a n c nx cp sg) (hb : Below w.heap.size w w') : TB w' b a n c nx cp sg := blk_below h hb
theorem TB.turned {w w' : World} {b d : Nat} {a : Option Addr} {n c : Nat} {nx cp : Int} {sg : Bool} (h : TB w b a n c nx cp sg) (ht : Turned w w' d) (hne : b ≠ d) : TB w' b a n c nx cp sg := blk_turned h ht hne
theorem CB.bel {w w' : World} {b : Nat} {r : C6} {a : Option Addr} {c : Nat} (h : CB w b r a c) (hb : Below w.heap.size w w') : CB w' b r a c := blk_below h hb
theorem CB.turned {w w' : World} {b d : Nat} {r : C6} {a : Option Addr} {c : Nat} (h : CB w b r a c) (ht : Turned w w' d) (hne : b ≠ d) : CB w' b r a c := blk_turned h ht hne
theorem OB.bel {w w' : World} {b : Nat} {x0 x1 x2 x3 : Value} (h : OB w b x0 x1 x2 x3) (hb : Below w.heap.size w w') : OB w' b x0 x1 x2 x3 := blk_below h hb
theorem OB.turned {w w' : World} {b d : Nat} {x0 x1 x2 x3 : Value} (h : OB w b x0 x1 x2 x3) (ht : Turned w w' d) (hne : b ≠ d) : OB w' b x0 x1 x2 x3 := blk_turned h ht hne
theorem FactsAt.turnC {w w' : World} {a a' : Option Addr} {fs : List F} {d c : Nat} {r : C6} (h : FactsAt w a fs) (hC : CB w d r a' c) (ht : Turned w w' d) : FactsAt w' a fs := h.far hC (noStr6 _ _ _ _ _ _ _ _) (fun k hk => ht.block k hk)
theorem FactsAt.turnT {w w' : World} {a a' : Option Addr} {fs : List F} {d n c : Nat} {nx cp : Int} {sg : Bool} (h : FactsAt w a fs) (hT : TB w d a' n c nx cp sg) (ht : Turned w w' d) : FactsAt w' a fs := h.far hT (noStr4 _ _ _ _ _ _) (fun k hk => ht.block k hk)
theorem ValsAt.turnC {w w' : World} {a a' : Option Addr} {vs : List V} {d c : Nat} {r : C6} (h : ValsAt w a vs) (hC : CB w d r a' c) (ht : Turned w w' d) : ValsAt w' a vs := h.far hC (noStr6 _ _ _ _ _ _ _ _) (fun k hk => ht.block k hk)
theorem OO.turnC {w w' : World} {base d : Nat} {a a' : Option Addr} {c c' : Nat} {N : List OpX} {r : C6} (h : OO w base a c N) (hC : CB w d r a' c') (ht : Turned w w' d) : OO w' base a c N := h.kept (fun k hk => ht.block k hk) hC (by decide) (by decide)
theorem OO.turnT {w w' : World} {base d n c' : Nat} {a a' : Option Addr} {c : Nat} {N : List OpX} {nx cp : Int} {sg : Bool} (h : OO w base a c N) (hT : TB w d a' n c' nx cp sg) (ht : Turned w w' d) : OO w' base a c N := h.kept (fun k hk => ht.block k hk) hT (by decide) (by decide)
theorem VS.none {cp : Int} {sg : Bool} (h1 : 1 ≤ cp) (h2 : cp ≤ 8) : VS [] 1 cp sg := ⟨by omega, by omega, by simp; omega, rfl, by omega, by omega, fun f hf => by simp at hf, fun _ => by simp⟩
theorem FactsAt.none (w : World) (a : Option Addr) : FactsAt w a [] := fun i f hf => by simp at hf
end Go.Proofs.Ytgamdkokmkagaaa
