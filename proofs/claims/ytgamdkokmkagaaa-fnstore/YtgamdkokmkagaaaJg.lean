/-
  OUR OWN TEXT. Rn4h, Rn6, Rn10h, one behind the other.
-/
import Derived.Test.YtgamdkokmkagaaaRn3m
import Derived.Test.YtgamdkokmkagaaaJc
import Derived.Deep.RegionLaw
namespace Go.Proofs.Ytgamdkokmkagaaa
open Go.RowKit
attribute [local go_sem ↓] Go.wp_at_zero Go.wp_at_succ

/-- A part of a block that is known whole is written anew. -/
theorem wpList_store_part {P : Program} {ops : Array Oper} {rest : List Oper} {op : Oper} {a : Act} {w : World} {Q : Exit → Act → World → Prop} (hgd : op.guard = none) (ty : TypeId) (x y : Operand) (ho : op.op = .store ty x y)
    (b o : Nat) (L : List Value) (hx : a.eval x = .pointer (some ⟨b, o, none⟩)) (hy : a.eval y = .agg L.toArray) (c : Array Value) (t : TypeId) (hb : w.heap[b]? = some (.cells c t (0, 0)))
    (hs : o + L.length ≤ c.size) (hi : (P.info? ty).map (·.size) = some L.length) (h1 : ∀ v ∈ L, v.oneCell' = true) (N : Array Value) (hN : (c.toList.take o ++ (L ++ c.toList.drop (o + L.length))).toArray = N)
    (h : ∀ w', Hid (w'.heap[b]? = some (.cells N t (0, 0))) → Hid (Turned w w' b) → wpList P ops Q rest (a.put op.dst undef) w') : wpList P ops Q (op :: rest) a w := by
  refine wpList_store_mid hgd ty x y ho b o L.toArray hx hy (there_blk hb (by simpa using hs)) (by simpa using hi) (all_oneCell_toArray h1) (h _ ?_ (Turned.setCells _ _ _ _))
  show _ = _
  rw [← hN]
  exact heap_setCells_splice hb (o := o) L hs
set_option maxHeartbeats 400000 in
theorem ariths_any (w : World) : Calls Try.prog 178 #[] w fun e w' => e = .returned (.slice (some ⟨w.heap.size, 0, none⟩) 5 5) ∧ w' = w.alloc (.cells #[.string ⟨#[43]⟩, .string ⟨#[45]⟩, .string ⟨#[42]⟩, .string ⟨#[47]⟩, .string ⟨#[37]⟩] 9) := by
  go_enter Try.func178, Try.ntmps178
  go_wp2
  go_ret
  exact ⟨rfl, rfl⟩
theorem news_new (w : World) (L : List Value) (t : TypeId) (b : Nat) (hb : b = w.heap.size) (ad : Addr) (e : some (⟨b, 0, none⟩ : Addr) = some ad) (j : Nat) (u : Value) (h : L[j]? = some u) : (w.alloc (.cells L.toArray t)).cell? (ad.add j) = some u := by
  subst hb
  cases e
  rw [Addr.add_mid, Nat.zero_add]
  have hb := heap_alloc_new w (.cells L.toArray t)
  simp only [World.cell?, hb]
  simpa using h
def exCells (e : Ex) : List Value := [.int .i64 e.kind, .int .u8 e.op, .string e.var, .int .i64 e.val.kind, .int .i64 e.val.num, .string e.val.sym, .int .i64 e.a, .int .i64 e.b]
/-- What is asked of an expr that was drawn. -/
def ExSm (e : Ex) : Prop := e.var.size ≤ 20 ∧ VSm e.val ∧ 0 ≤ e.op ∧ e.op < 256
theorem exCells_one (e : Ex) : ∀ u ∈ exCells e, u.oneCell' = true := by
  intro u hu
  simp [exCells] at hu
  rcases hu with rfl | rfl | rfl | rfl | rfl | rfl | rfl | rfl <;> rfl
theorem infoExS : (Try.prog.info? 195).map (·.size) = some 8 := by kernel_rfl
theorem infoExF : (Try.prog.info? 195).map (fun i => (i.zero, i.size, i.bytes)) = some (some (.agg #[.int .i64 0, .int .u8 0, .string ⟨#[]⟩, .int .i64 0, .int .i64 0, .string ⟨#[]⟩, .int .i64 0, .int .i64 0]), 8, 80) := by kernel_rfl
theorem box8 {w : World} {b : Nat} {ty : TypeId} {e : Ex} (h : w.heap[b]? = some (.cells (exCells e).toArray ty (0, 0))) : w.cell? ⟨b, 0, none⟩ = some (.int .i64 e.kind) ∧ w.cell? ⟨b, 1, none⟩ = some (.int .u8 e.op) ∧ w.cell? ⟨b, 2, none⟩ = some (.string e.var) ∧ w.cell? ⟨b, 3, none⟩ = some (.int .i64 e.val.kind) ∧ w.cell? ⟨b, 4, none⟩ = some (.int .i64 e.val.num) ∧ w.cell? ⟨b, 5, none⟩ = some (.string e.val.sym) ∧ w.cell? ⟨b, 6, none⟩ = some (.int .i64 e.a) ∧ w.cell? ⟨b, 7, none⟩ = some (.int .i64 e.b) := by
  refine ⟨?_, ?_, ?_, ?_, ?_, ?_, ?_, ?_⟩ <;> simp [World.cell?, h, exCells]
/-- A rule in its box, its exprs an owned row. -/
def QB (w : World) (b base : Nat) (x0 x1 x2 x4 : Value) (a : Option Addr) (c : Nat) (xs : List Ex) : Prop :=
  w.heap[b]? = some (.cells #[x0, x1, x2, .slice a xs.length c, x4] 140 (0, 0)) ∧ w.ownsRow base 195 8 (.slice a xs.length c) xs.length (xs.flatMap exCells) ∧ ∀ x ∈ xs, ExSm x
/-- What a draw for a rule leaves: only the reader's box, the rule's and the row o were written. -/
structure Qs (g b : Nat) (o : Option Nat) (w w' : World) : Prop where
  rest : Below 0 w w'
  block : ∀ k, k < w.heap.size → k ≠ g → k ≠ b → o ≠ some k → w'.heap[k]? = w.heap[k]?
  rdr : Rdr w' g
theorem Qs.of {g b : Nat} {o : Option Nat} {w w' : World} (h : Rs g w w') : Qs g b o w w' := ⟨h.1.rest, fun k hk hg _ _ => h.1.block k hk (fun e => hg (by injection e with e; exact e.symm)), h.2⟩
/-- The row behind: the same block, or a new one. -/
def NewOr (N : Nat) (o o' : Option Nat) : Prop := o' = o ∨ ∀ k, o' = some k → N ≤ k
theorem NewOr.refl (N : Nat) (o : Option Nat) : NewOr N o o := .inl rfl
theorem NewOr.trans {N N' : Nat} {o o' o'' : Option Nat} (h : NewOr N o o') (h' : NewOr N' o' o'') (hN : N ≤ N') : NewOr N o o'' := by
  rcases h' with rfl | h'
  · exact h
  · exact .inr fun k hk => Nat.le_trans hN (h' k hk)
theorem Qs.trans {g b : Nat} {o o' : Option Nat} {u v w : World} (h : Qs g b o u v) (k : Qs g b o' v w) (hn : NewOr u.heap.size o o') : Qs g b o u w := by
  refine ⟨h.rest.trans k.rest, fun j hj hg hb ho => ?_, k.rdr⟩
  refine (k.block j (Nat.lt_of_lt_of_le hj h.rest.size) hg hb ?_).trans (h.block j hj hg hb ho)
  rcases hn with rfl | hn
  · exact ho
  · exact fun e => absurd (hn j e) (by omega)
theorem QB.rs {w w' : World} {g b base : Nat} {x0 x1 x2 x4 : Value} {a : Option Addr} {c : Nat} {xs : List Ex} (h : QB w b base x0 x1 x2 x4 a c xs) (hr : Rs g w w') (hb : b ≠ g) (hg : g < base) : QB w' b base x0 x1 x2 x4 a c xs :=
  ⟨block_rs hr h.1 hb, owns_of_block h.2.1 (fun k hk => hr.1.block k (h.2.1.lt k hk).2 (fun e => by injection e with e; have := (h.2.1.lt k hk).1; omega)), h.2.2⟩
theorem QB.bel {w w' : World} {b base : Nat} {x0 x1 x2 x4 : Value} {a : Option Addr} {c : Nat} {xs : List Ex} (h : QB w b base x0 x1 x2 x4 a c xs) (hb : Below w.heap.size w w') : QB w' b base x0 x1 x2 x4 a c xs :=
  ⟨(hb.block b (lt_of_block' h.1)).trans h.1, owns_of_block h.2.1 (fun k hk => hb.block k (h.2.1.lt k hk).2), h.2.2⟩
theorem QB.turned {w w' : World} {b base d : Nat} {x0 x1 x2 x4 : Value} {a : Option Addr} {c : Nat} {xs : List Ex} (h : QB w b base x0 x1 x2 x4 a c xs) (ht : Turned w w' d) (hd : d ≠ b) (ho : (Value.slice a xs.length c).ownBlock ≠ some d) : QB w' b base x0 x1 x2 x4 a c xs :=
  ⟨(ht.block b (Ne.symm hd)).trans h.1, owns_of_block h.2.1 (fun k hk => ht.block k (fun e => ho (by rw [hk, e]))), h.2.2⟩
/-- Words that lie in blocks that a draw for a rule leaves. -/
def StrsQ (w : World) (g b base : Nat) (a : Option Addr) (n : Nat) : Prop := n ≤ 1048576 ∧ ∀ j, j < n → ∃ (k o : Nat) (s : ByteArray), a = some ⟨k, o, none⟩ ∧ g < k ∧ k ≠ b ∧ k < base ∧ s.size ≤ 20 ∧ w.cell? ⟨k, o + j, none⟩ = some (.string s)
theorem StrsQ.keep {w w' : World} {g b base : Nat} {a : Option Addr} {n : Nat} (h : StrsQ w g b base a n) (hk : ∀ k, k < base → k < w.heap.size → g < k → k ≠ b → w'.heap[k]? = w.heap[k]?) : StrsQ w' g b base a n := by
  refine ⟨h.1, fun j hj => ?_⟩
  obtain ⟨k, o, s, h1, h2, h3, h4, h5, h6⟩ := h.2 j hj
  refine ⟨k, o, s, h1, h2, h3, h4, h5, ?_⟩
  rw [← h6]
  exact World.cell?_of_block (w := w) (hk k h4 (World.block_lt_of_cell? w ⟨k, _, none⟩ h6) h2 h3)
theorem StrsQ.qs {w w' : World} {g b base : Nat} {o : Option Nat} {a : Option Addr} {n : Nat} (h : StrsQ w g b base a n) (hq : Qs g b o w w') (ho : ∀ k, o = some k → base ≤ k) : StrsQ w' g b base a n :=
  h.keep (fun k hk hl hg hb => hq.block k hl (by omega) hb (fun e => by have := ho k e; omega))
def fD : Nat → Nat
  | 0 => 1
  | d + 1 => 2 * fD d + 1

/-- What is left behind a draw of an expr. -/
def QPost (g b base : Nat) (x0 x1 x2 x4 : Value) (a : Option Addr) (c : Nat) (xs : List Ex) (N : Nat) (w : World) (e : Ending) (w' : World) : Prop :=
  ∃ a' c' xs', QB w' b base x0 x1 x2 x4 a' c' xs' ∧ xs.length + 1 ≤ xs'.length ∧ xs'.length ≤ xs.length + N ∧ e = .returned (.int .i64 ((xs'.length : Int) - 1)) ∧ Qs g b (Value.slice a xs.length c).ownBlock w w' ∧ NewOr w.heap.size (Value.slice a xs.length c).ownBlock (Value.slice a' xs'.length c').ownBlock
/-- An expr is put behind those that are there: what the last lines do, as a lemma over worlds. -/
theorem q_put {g b base : Nat} {x0 x1 x2 x4 : Value} {a1 : Option Addr} {c1 : Nat} {xs1 : List Ex} {u wt wa w3 : World} {o : Option Nat} {E : Ex} {a3 : Option Addr} {c3 : Nat} (hq : QB wt b base x0 x1 x2 x4 a1 c1 xs1) (hE : ExSm E) (hQ : Qs g b o u wt) (hN : NewOr u.heap.size o (Value.slice a1 xs1.length c1).ownBlock)
    (hwa : Below wt.heap.size wt wa) (ho : w3.ownsRow base 195 8 (.slice a3 (xs1.length + 1) c3) (xs1.length + 1) (xs1.flatMap exCells ++ exCells E)) (hg : wa.grownBy w3 (Value.slice a1 xs1.length c1).ownBlock)
    (hl : (Value.slice a3 (xs1.length + 1) c3).ownBlock = (Value.slice a1 xs1.length c1).ownBlock ∨ (Value.slice a3 (xs1.length + 1) c3).ownBlock = some wa.heap.size) (hgb : g < b) (hbb : b < base) (_hbase : base ≤ wt.heap.size) :
    QB (w3.setCell ⟨b, 3, none⟩ (.slice a3 (xs1.length + 1) c3)) b base x0 x1 x2 x4 a3 c3 (xs1 ++ [E]) ∧ Qs g b o u (w3.setCell ⟨b, 3, none⟩ (.slice a3 (xs1.length + 1) c3)) ∧ NewOr u.heap.size o (Value.slice a3 (xs1.length + 1) c3).ownBlock := by
  have hob : ∀ k, (Value.slice a1 xs1.length c1).ownBlock = some k → base ≤ k ∧ k < wt.heap.size := fun k hk => hq.2.1.lt k hk
  have hblt : b < wt.heap.size := lt_of_block' hq.1
  have e3 : w3.heap[b]? = some (.cells #[x0, x1, x2, .slice a1 xs1.length c1, x4] 140 (0, 0)) := by
    refine (hg.block b (Nat.lt_of_lt_of_le hblt hwa.size) (fun e => ?_)).trans ((hwa.block b hblt).trans hq.1)
    have := (hob b e.symm).1
    omega
  have ho3 : ∀ k, (Value.slice a3 (xs1.length + 1) c3).ownBlock = some k → base ≤ k := fun k hk => (ho.lt k hk).1
  refine ⟨⟨?_, ?_, ?_⟩, ⟨?_, ?_, ?_⟩, ?_⟩
  · have := heap_setCell_same (i := 3) e3 (.slice a3 (xs1.length + 1) c3)
    simpa using this
  · have := owns_of_block (w' := w3.setCell ⟨b, 3, none⟩ (.slice a3 (xs1.length + 1) c3)) ho (fun k hk => Below.heap_setCell _ _ _ _ (by have := ho3 k hk; simp; omega))
    simpa using this
  · intro x hx
    rcases List.mem_append.1 hx with h | h
    · exact hq.2.2 x h
    · simp at h
      exact h ▸ hE
  · refine Below.setCell ?_ (Nat.zero_le _) _
    exact (hQ.rest.trans (hwa.mono (Nat.zero_le _))).grown hg (Nat.zero_le _) (fun _ _ => Nat.zero_le _)
  · intro k hk h1 h2 h3
    have hk2 : k < wt.heap.size := Nat.lt_of_lt_of_le hk hQ.rest.size
    refine (Below.heap_setCell _ _ _ _ (by simpa using h2)).trans ?_
    refine (hg.block k (Nat.lt_of_lt_of_le hk2 hwa.size) (fun e => ?_)).trans ((hwa.block k hk2).trans (hQ.block k hk h1 h2 h3))
    rcases hN with hN | hN
    · exact h3 (by rw [← hN, e])
    · have := hN k e.symm
      omega
  · refine Rdr.old hQ.rdr ?_
    refine Below.setCell ?_ (by simp; omega) _
    exact (hwa.mono (by omega)).grown hg (by have := hwa.size; omega) (fun k hk => by have := (hob k hk).1; omega)
  · rcases hl with h | h
    · rw [h]
      exact hN
    · refine .inr fun k hk => ?_
      rw [h] at hk
      injection hk with hk
      have := hQ.rest.size
      have := hwa.size
      omega

theorem absE {w : World} {b : Nat} {t : TypeId} {E : Ex} (h : Hid (w.heap[b]? = some (.cells (exCells E).toArray t (0, 0)))) (hE : ExSm E) : ∃ E, ExSm E ∧ Hid (w.heap[b]? = some (.cells (exCells E).toArray t (0, 0))) := ⟨E, hE, h⟩
theorem Qs.bel {g b : Nat} {o : Option Nat} {u v w : World} (h : Qs g b o u v) (hb : Below v.heap.size v w) : Qs g b o u w :=
  ⟨h.rest.trans (hb.mono (Nat.zero_le _)), fun k hk h1 h2 h3 => (hb.block k (Nat.lt_of_lt_of_le hk h.rest.size)).trans (h.block k hk h1 h2 h3), h.rdr.bel hb⟩
theorem Qs.turned {g b d : Nat} {o : Option Nat} {u v w : World} (h : Qs g b o u v) (ht : Turned v w d) (hd : u.heap.size ≤ d) (hg : g < u.heap.size) : Qs g b o u w :=
  ⟨h.rest.trans (ht.below (Nat.zero_le _)), fun k hk h1 h2 h3 => (ht.block k (by omega)).trans (h.block k hk h1 h2 h3), h.rdr.old (ht.below (by omega))⟩
theorem NewOr.mono {N N' : Nat} {o o' : Option Nat} (h : NewOr N' o o') (hN : N ≤ N') : NewOr N o o' := by
  rcases h with h | h
  · exact .inl h
  · exact .inr fun k hk => Nat.le_trans hN (h k hk)
theorem q_cells {b base : Nat} {x0 x1 x2 x4 : Value} {a1 : Option Addr} {c1 : Nat} {xs1 : List Ex} {wt wa w3 : World} (hq : QB wt b base x0 x1 x2 x4 a1 c1 xs1) (hwa : Below wt.heap.size wt wa) (hg : wa.grownBy w3 (Value.slice a1 xs1.length c1).ownBlock) (hbb : b < base) :
    w3.cell? ⟨b, 3, none⟩ = some (.slice a1 xs1.length c1) ∧ w3.frozen? ⟨b, 3, none⟩ = false := by
  have hblt : b < wt.heap.size := lt_of_block' hq.1
  have e3 : w3.heap[b]? = some (.cells #[x0, x1, x2, .slice a1 xs1.length c1, x4] 140 (0, 0)) := by
    refine (hg.block b (Nat.lt_of_lt_of_le hblt hwa.size) (fun e => ?_)).trans ((hwa.block b hblt).trans hq.1)
    have := (hq.2.1.lt b e.symm).1
    omega
  exact ⟨by simp [World.cell?, e3], by simp [World.frozen?, e3]⟩
theorem own_type {w : World} {base : Nat} {e : TypeId} {m : Nat} {v : Value} {n : Nat} {xs : List Value} (h : w.ownsRow base e m v n xs) {k : Nat} (hk : v.ownBlock = some k) : ∃ c, w.heap[k]? = some (.cells c e (0, 0)) := by
  rcases h.2 with ⟨rfl, _⟩ | ⟨g, cap, cur, rfl, _, h3, _⟩
  · simp [Value.ownBlock] at hk
  · simp [Value.ownBlock] at hk
    subst hk
    exact ⟨cur, h3⟩
/-- Rows of two types lie in two blocks. -/
theorem own_far {w : World} {k : Nat} {c c' : Array Value} {t t' : TypeId} {f f' : Nat × Nat} (h : w.heap[k]? = some (.cells c t f)) (h' : w.heap[k]? = some (.cells c' t' f')) (hne : t ≠ t') : False := by
  rw [h] at h'
  simp at h'
  exact hne h'.2.1
theorem QB.grown {w w' : World} {b base : Nat} {x0 x1 x2 x4 : Value} {a : Option Addr} {c : Nat} {xs : List Ex} {row : Option Nat} {t : TypeId} (h : QB w b base x0 x1 x2 x4 a c xs) (hg : w.grownBy w' row) (ht : ∀ k, row = some k → ∃ c, w.heap[k]? = some (.cells c t (0, 0))) (h1 : t ≠ 140) (h2 : t ≠ 195) : QB w' b base x0 x1 x2 x4 a c xs := by
  refine ⟨(hg.block b (lt_of_block' h.1) (fun e => ?_)).trans h.1, owns_of_block h.2.1 (fun k hk => hg.block k (h.2.1.lt k hk).2 (fun e => ?_)), h.2.2⟩
  · obtain ⟨c', hc⟩ := ht b e.symm
    exact own_far hc h.1 h1
  · obtain ⟨c', hc⟩ := ht k e.symm
    obtain ⟨c'', hc'⟩ := own_type h.2.1 hk
    exact own_far hc hc' h2
theorem Qs.grown {g b : Nat} {o row : Option Nat} {u v w : World} (h : Qs g b o u v) (hg : v.grownBy w row) (hr : ∀ k, row = some k → u.heap.size ≤ k) (hgu : g < u.heap.size) : Qs g b o u w := by
  refine ⟨h.rest.grown hg (Nat.zero_le _) (fun _ _ => Nat.zero_le _), fun k hk h1 h2 h3 => (hg.block k (Nat.lt_of_lt_of_le hk h.rest.size) (fun e => ?_)).trans (h.block k hk h1 h2 h3), h.rdr.old ((Below.refl _ _).grown hg (by have := h.rest.size; omega) (fun k hk => by have := hr k hk; omega))⟩
  have := hr k e.symm
  omega
theorem own_qs {w w' : World} {base g b : Nat} {o : Option Nat} {e t : TypeId} {m : Nat} {v : Value} {n : Nat} {xs : List Value} (h : w.ownsRow base e m v n xs) (hq : Qs g b o w w') (hg : g < base) (hb : b < base) (ht : ∀ k, o = some k → ∃ c, w.heap[k]? = some (.cells c t (0, 0))) (hne : t ≠ e) : w'.ownsRow base e m v n xs := by
  refine owns_of_block h fun k hk => hq.block k (h.lt k hk).2 (by have := (h.lt k hk).1; omega) (by have := (h.lt k hk).1; omega) (fun e => ?_)
  obtain ⟨c, hc⟩ := ht k e
  obtain ⟨c', hc'⟩ := own_type h hk
  exact own_far hc hc' hne
end Go.Proofs.Ytgamdkokmkagaaa

namespace Go.Proofs.Ytgamdkokmkagaaa
open Go.RowKit

theorem own_rs {w w' : World} {base g : Nat} {e : TypeId} {m : Nat} {v : Value} {n : Nat} {xs : List Value} (h : w.ownsRow base e m v n xs) (hr : Rs g w w') (hg : g < base) : w'.ownsRow base e m v n xs :=
  owns_of_block h fun k hk => hr.1.block k (h.lt k hk).2 (fun e => by injection e with e; have := (h.lt k hk).1; omega)
/-- What is owned and of another type than the reader's box stays over a read. -/
theorem own_rsT {w w' : World} {base g : Nat} {e : TypeId} {m : Nat} {v : Value} {n : Nat} {xs : List Value} (h : w.ownsRow base e m v n xs) (hr : Rs g w w') (hg : Rdr w g) (hne : e ≠ 109) : w'.ownsRow base e m v n xs :=
  owns_of_block h fun k hk => hr.1.block k (h.lt k hk).2 (fun e => by
    injection e with e
    subst e
    obtain ⟨c, hc⟩ := own_type h hk
    obtain ⟨_, _, _, _, h1, _⟩ := hg
    exact own_far hc h1 hne)
theorem lift_alloc {P : World → Prop} {w1 : World} {o : Obj} (h : ∀ wt, Below w1.heap.size w1 wt → wt.heap[w1.heap.size]? = some o → P wt) : P (w1.alloc o) := h _ ((Below.refl _ _).alloc (Nat.le_refl _) _) (heap_alloc_new _ _)
theorem own_bel {w w' : World} {base : Nat} {e : TypeId} {m : Nat} {v : Value} {n : Nat} {xs : List Value} (h : w.ownsRow base e m v n xs) (hb : Below w.heap.size w w') : w'.ownsRow base e m v n xs :=
  owns_of_block h fun k hk => hb.block k (h.lt k hk).2
theorem own_grown {w w' : World} {base : Nat} {e t : TypeId} {m : Nat} {v : Value} {n : Nat} {xs : List Value} {row : Option Nat} (h : w.ownsRow base e m v n xs) (hg : w.grownBy w' row) (ht : ∀ k, row = some k → ∃ c, w.heap[k]? = some (.cells c t (0, 0))) (hne : t ≠ e) : w'.ownsRow base e m v n xs :=
  owns_of_block h fun k hk => hg.block k (h.lt k hk).2 (fun e => by
    obtain ⟨c, hc⟩ := ht k e.symm
    obtain ⟨c', hc'⟩ := own_type h hk
    exact own_far hc hc' hne)
theorem own_set {w : World} {base b o : Nat} {e t : TypeId} {m : Nat} {v : Value} {n : Nat} {xs : List Value} {x : Value} {c : Array Value} {fr : Nat × Nat} (h : w.ownsRow base e m v n xs) (hb : w.heap[b]? = some (.cells c t fr)) (hne : t ≠ e) : (w.setCell ⟨b, o, none⟩ x).ownsRow base e m v n xs :=
  owns_of_block h fun k hk => Below.heap_setCell _ _ _ _ (fun e => by
    obtain ⟨c', hc'⟩ := own_type h hk
    have e' : k = b := e
    subst e'
    exact own_far hb hc' hne)
theorem box_grown {w w' : World} {b : Nat} {t t' : TypeId} {c : Array Value} {fr : Nat × Nat} {row : Option Nat} (h : w.heap[b]? = some (.cells c t fr)) (hg : w.grownBy w' row) (ht : ∀ k, row = some k → ∃ c, w.heap[k]? = some (.cells c t' (0, 0))) (hne : t' ≠ t) : w'.heap[b]? = some (.cells c t fr) :=
  (hg.block b (lt_of_block' h) (fun e => by
    obtain ⟨c', hc⟩ := ht b e.symm
    exact own_far hc h hne)).trans h
theorem Rs.grown {g : Nat} {row : Option Nat} {u v w : World} (h : Rs g u v) (hg : v.grownBy w row) (hr : ∀ k, row = some k → u.heap.size ≤ k) (hgu : g < u.heap.size) : Rs g u w :=
  ⟨⟨h.1.rest.grown hg (Nat.zero_le _) (fun _ _ => Nat.zero_le _), fun k hk hne => (hg.block k (Nat.lt_of_lt_of_le hk h.1.rest.size) (fun e => by have := hr k e.symm; omega)).trans (h.1.block k hk hne)⟩, h.2.old ((Below.refl _ _).grown hg (by have := h.1.rest.size; omega) (fun k hk => by have := hr k hk; omega))⟩
theorem flat_gen {α : Type} {cells : α → List Value} {m : Nat} (hc : ∀ x, (cells x).length = m) : ∀ (xs : List α) (i : Nat) (x : α) (j : Nat) (u : Value), xs[i]? = some x → (cells x)[j]? = some u → (xs.flatMap cells)[i * m + j]? = some u
  | [], i, x, j, u, h, _ => by simp at h
  | y :: r, 0, x, j, u, h, hj => by
    simp at h
    subst h
    have hl : j < (cells y).length := (List.getElem?_eq_some_iff.1 hj).1
    rw [List.flatMap_cons, Nat.zero_mul, Nat.zero_add, List.getElem?_append_left hl]
    exact hj
  | y :: r, i + 1, x, j, u, h, hj => by
    rw [List.getElem?_cons_succ] at h
    have := flat_gen hc r i x j u h hj
    have e : (i + 1) * m = i * m + m := Nat.succ_mul i m
    rw [List.flatMap_cons, List.getElem?_append_right (by rw [hc]; omega), show (i + 1) * m + j - (cells y).length = i * m + j by rw [hc]; omega]
    exact this

/-- A pattern that was drawn, with the slice of its terms. -/
abbrev PtV := Pt × Value
def pcells (x : PtV) : List Value := [.bool x.1.neg, .string x.1.cls, x.2]
theorem pcells_len (x : PtV) : (pcells x).length = 3 := rfl
theorem pcells_one (x : PtV) (h : x.2.oneCell' = true) : ∀ u ∈ pcells x, u.oneCell' = true := by
  intro u hu
  simp [pcells] at hu
  rcases hu with rfl | rfl | rfl
  · rfl
  · rfl
  · exact h
/-- What is asked of it. -/
def PtX (w : World) (base : Nat) (x : PtV) : Prop := (∃ a c, x.2 = .slice a x.1.terms.length c) ∧ w.ownsRow base 152 6 x.2 x.1.terms.length (x.1.terms.flatMap tmCells) ∧ x.1.cls.size ≤ 20 ∧ x.1.terms.length ≤ 3 ∧ ∀ t ∈ x.1.terms, TmSm t
/-- Patterns that were drawn: an owned row. -/
def PO (w : World) (base : Nat) (a : Option Addr) (c : Nat) (L : List PtV) : Prop := w.ownsRow base 78 3 (.slice a L.length c) L.length (L.flatMap pcells) ∧ ∀ x ∈ L, PtX w base x
theorem PO.nil (w : World) (base : Nat) : PO w base none 0 [] := ⟨World.ownsRow_nil _ _ _ _, fun x hx => by simp at hx⟩
theorem PtX.rs {w w' : World} {base g : Nat} {x : PtV} (h : PtX w base x) (hr : Rs g w w') (hg : g < base) : PtX w' base x := ⟨h.1, own_rs h.2.1 hr hg, h.2.2⟩
theorem PO.rs {w w' : World} {base g : Nat} {a : Option Addr} {c : Nat} {L : List PtV} (h : PO w base a c L) (hr : Rs g w w') (hg : g < base) : PO w' base a c L := ⟨own_rs h.1 hr hg, fun x hx => (h.2 x hx).rs hr hg⟩
theorem PtX.bel {w w' : World} {base : Nat} {x : PtV} (h : PtX w base x) (hb : Below w.heap.size w w') : PtX w' base x := ⟨h.1, own_bel h.2.1 hb, h.2.2⟩
theorem PO.bel {w w' : World} {base : Nat} {a : Option Addr} {c : Nat} {L : List PtV} (h : PO w base a c L) (hb : Below w.heap.size w w') : PO w' base a c L := ⟨own_bel h.1 hb, fun x hx => (h.2 x hx).bel hb⟩
theorem PtX.grown {w w' : World} {base : Nat} {t : TypeId} {x : PtV} {row : Option Nat} (h : PtX w base x) (hg : w.grownBy w' row) (ht : ∀ k, row = some k → ∃ c, w.heap[k]? = some (.cells c t (0, 0))) (hne : t ≠ 152) : PtX w' base x := ⟨h.1, own_grown h.2.1 hg ht hne, h.2.2⟩
theorem PO.grown {w w' : World} {base : Nat} {t : TypeId} {a : Option Addr} {c : Nat} {L : List PtV} {row : Option Nat} (h : PO w base a c L) (hg : w.grownBy w' row) (ht : ∀ k, row = some k → ∃ c, w.heap[k]? = some (.cells c t (0, 0))) (hne : t ≠ 152) (hne2 : t ≠ 78) : PO w' base a c L := ⟨own_grown h.1 hg ht hne2, fun x hx => (h.2 x hx).grown hg ht hne⟩
theorem PtX.set {w : World} {base b o : Nat} {t : TypeId} {x : PtV} {v : Value} {c : Array Value} {fr : Nat × Nat} (h : PtX w base x) (hb : w.heap[b]? = some (.cells c t fr)) (hne : t ≠ 152) : PtX (w.setCell ⟨b, o, none⟩ v) base x := ⟨h.1, own_set h.2.1 hb hne, h.2.2⟩
theorem PO.set {w : World} {base b o : Nat} {t : TypeId} {a : Option Addr} {c' : Nat} {L : List PtV} {v : Value} {c : Array Value} {fr : Nat × Nat} (h : PO w base a c' L) (hb : w.heap[b]? = some (.cells c t fr)) (hne : t ≠ 152) (hne2 : t ≠ 78) : PO (w.setCell ⟨b, o, none⟩ v) base a c' L := ⟨own_set h.1 hb hne2, fun x hx => (h.2 x hx).set hb hne⟩
theorem PO.snoc {w w' : World} {base : Nat} {a a' : Option Addr} {c c' : Nat} {L : List PtV} {x : PtV} (h : PO w base a c L) (hx : PtX w base x) (ho : w'.ownsRow base 78 3 (.slice a' (L.length + 1) c') (L.length + 1) (L.flatMap pcells ++ pcells x)) (hg : w.grownBy w' (Value.slice a L.length c).ownBlock) : PO w' base a' c' (L ++ [x]) := by
  refine ⟨by simpa using ho, fun y hy => ?_⟩
  have hy' : PtX w base y := by
    rcases List.mem_append.1 hy with hy | hy
    · exact h.2 y hy
    · simp at hy
      exact hy ▸ hx
  exact hy'.grown (t := 78) hg (fun k hk => own_type h.1 hk) (by decide)
/-- Words that are owned. -/
def SO (w : World) (base : Nat) (a : Option Addr) (n c : Nat) : Prop := n ≤ 1000 ∧ ∃ ks : List ByteArray, ks.length = n ∧ (∀ s ∈ ks, s.size ≤ 20) ∧ w.ownsRow base 9 1 (.slice a n c) n (ks.map Value.string)
theorem SO.rs {w w' : World} {base g : Nat} {a : Option Addr} {n c : Nat} (h : SO w base a n c) (hr : Rs g w w') (hg : g < base) : SO w' base a n c := by
  obtain ⟨h0, ks, h1, h2, h3⟩ := h
  exact ⟨h0, ks, h1, h2, own_rs h3 hr hg⟩
theorem SO.on {w : World} {base g : Nat} {a : Option Addr} {n c : Nat} (h : SO w base a n c) (hg : g < base) : StrsOn w g a n := by
  obtain ⟨h0, ks, h1, h2, h3⟩ := h
  refine ⟨by omega, fun j hj => ?_⟩
  have hjk : j < ks.length := by omega
  obtain ⟨k, rfl, hb, hc, _⟩ := owns_cell h3 (j := j) (x := .string ks[j]) (by simp [hjk])
  exact ⟨k, 0, ks[j], rfl, by omega, h2 _ (List.getElem_mem hjk), by rw [Nat.zero_add]; exact hc⟩
theorem SO.q {w : World} {base g b B : Nat} {t : TypeId} {a : Option Addr} {n c : Nat} {cb : Array Value} {fr : Nat × Nat} (h : SO w base a n c) (hg : g < base) (hb : w.heap[b]? = some (.cells cb t fr)) (hne : t ≠ 9) (hB : w.heap.size ≤ B) : StrsQ w g b B a n := by
  obtain ⟨h0, ks, h1, h2, h3⟩ := h
  refine ⟨by omega, fun j hj => ?_⟩
  have hjk : j < ks.length := by omega
  obtain ⟨k, rfl, hb', hc, _⟩ := owns_cell h3 (j := j) (x := .string ks[j]) (by simp [hjk])
  obtain ⟨c', hc'⟩ := own_type h3 (k := k) rfl
  refine ⟨k, 0, ks[j], rfl, by omega, fun e => ?_, ?_, h2 _ (List.getElem_mem hjk), by rw [Nat.zero_add]; exact hc⟩
  · subst e
    exact own_far hb hc' hne
  · have := lt_of_block' hc'
    omega
end Go.Proofs.Ytgamdkokmkagaaa

namespace Go.Proofs.Ytgamdkokmkagaaa
open Go.RowKit

/-- A rule that was drawn: its cells, and its patterns. -/
structure RuX where
  nm : ByteArray
  sal : Int
  pv : Value
  ev : Value
  av : Value
  pats : List PtV
def rcells (x : RuX) : List Value := [.string x.nm, .int .i64 x.sal, x.pv, x.ev, x.av]
theorem rcells_len (x : RuX) : (rcells x).length = 5 := rfl
def RuP (w : World) (base : Nat) (x : RuX) : Prop := (∃ pa pc, x.pv = .slice pa x.pats.length pc ∧ PO w base pa pc x.pats) ∧ 1 ≤ x.pats.length ∧ x.pats.length ≤ 6 ∧ (∃ ea en ec, x.ev = .slice ea en ec) ∧ ∃ aa an ac, x.av = .slice aa an ac
/-- Rules that were drawn: an owned row. -/
def RO (w : World) (base : Nat) (a : Option Addr) (c : Nat) (M : List RuX) : Prop := w.ownsRow base 140 5 (.slice a M.length c) M.length (M.flatMap rcells) ∧ ∀ x ∈ M, RuP w base x
theorem PO.lower {w : World} {base base' : Nat} {a : Option Addr} {c : Nat} {L : List PtV} (h : PO w base a c L) (hb : base' ≤ base) : PO w base' a c L := ⟨owns_base h.1 hb, fun x hx => ⟨(h.2 x hx).1, owns_base (h.2 x hx).2.1 hb, (h.2 x hx).2.2⟩⟩
theorem RuP.rs {w w' : World} {base g : Nat} {x : RuX} (h : RuP w base x) (hr : Rs g w w') (hg : g < base) : RuP w' base x := by
  obtain ⟨⟨pa, pc, h1, h2⟩, h3⟩ := h
  exact ⟨⟨pa, pc, h1, h2.rs hr hg⟩, h3⟩
theorem RuP.bel {w w' : World} {base : Nat} {x : RuX} (h : RuP w base x) (hb : Below w.heap.size w w') : RuP w' base x := by
  obtain ⟨⟨pa, pc, h1, h2⟩, h3⟩ := h
  exact ⟨⟨pa, pc, h1, h2.bel hb⟩, h3⟩
theorem RuP.grown {w w' : World} {base : Nat} {t : TypeId} {x : RuX} {row : Option Nat} (h : RuP w base x) (hg : w.grownBy w' row) (ht : ∀ k, row = some k → ∃ c, w.heap[k]? = some (.cells c t (0, 0))) (h1 : t ≠ 152) (h2 : t ≠ 78) : RuP w' base x := by
  obtain ⟨⟨pa, pc, e1, e2⟩, e3⟩ := h
  exact ⟨⟨pa, pc, e1, e2.grown hg ht h1 h2⟩, e3⟩
theorem RO.nil (w : World) (base : Nat) : RO w base none 0 [] := ⟨World.ownsRow_nil _ _ _ _, fun x hx => by simp at hx⟩
theorem RO.rs {w w' : World} {base g : Nat} {a : Option Addr} {c : Nat} {M : List RuX} (h : RO w base a c M) (hr : Rs g w w') (hg : g < base) : RO w' base a c M := ⟨own_rs h.1 hr hg, fun x hx => (h.2 x hx).rs hr hg⟩
theorem RO.bel {w w' : World} {base : Nat} {a : Option Addr} {c : Nat} {M : List RuX} (h : RO w base a c M) (hb : Below w.heap.size w w') : RO w' base a c M := ⟨own_bel h.1 hb, fun x hx => (h.2 x hx).bel hb⟩
theorem RO.grown {w w' : World} {base : Nat} {t : TypeId} {a : Option Addr} {c : Nat} {M : List RuX} {row : Option Nat} (h : RO w base a c M) (hg : w.grownBy w' row) (ht : ∀ k, row = some k → ∃ c, w.heap[k]? = some (.cells c t (0, 0))) (h1 : t ≠ 152) (h2 : t ≠ 78) (h3 : t ≠ 140) : RO w' base a c M := ⟨own_grown h.1 hg ht h3, fun x hx => (h.2 x hx).grown hg ht h1 h2⟩
theorem RO.kept {w w' : World} {base d : Nat} {t : TypeId} {a : Option Addr} {c : Nat} {M : List RuX} {cd : Array Value} {fr : Nat × Nat} (h : RO w base a c M) (hb : ∀ k, k ≠ d → k < w.heap.size → w'.heap[k]? = w.heap[k]?) (hd : w.heap[d]? = some (.cells cd t fr)) (h1 : t ≠ 152) (h2 : t ≠ 78) (h3 : t ≠ 140) : RO w' base a c M := by
  have key : ∀ {e : TypeId} {m : Nat} {v : Value} {n : Nat} {xs : List Value}, w.ownsRow base e m v n xs → t ≠ e → w'.ownsRow base e m v n xs := fun hh hne => owns_of_block hh fun k hk => hb k (fun e => by
    obtain ⟨cc, hcc⟩ := own_type hh hk
    subst e
    exact own_far hd hcc hne) (hh.lt k hk).2
  refine ⟨key h.1 h3, fun x hx => ?_⟩
  obtain ⟨⟨pa, pc, e1, e2⟩, e3⟩ := h.2 x hx
  exact ⟨⟨pa, pc, e1, key e2.1 h2, fun y hy => ⟨(e2.2 y hy).1, key (e2.2 y hy).2.1 h1, (e2.2 y hy).2.2⟩⟩, e3⟩
theorem PO.rsT {w w' : World} {base g : Nat} {a : Option Addr} {c : Nat} {L : List PtV} (h : PO w base a c L) (hr : Rs g w w') (hg : Rdr w g) : PO w' base a c L := ⟨own_rsT h.1 hr hg (by decide), fun x hx => ⟨(h.2 x hx).1, own_rsT (h.2 x hx).2.1 hr hg (by decide), (h.2 x hx).2.2⟩⟩
/-- Over a read, wherever the reader lies. -/
theorem RO.rsT {w w' : World} {base g : Nat} {a : Option Addr} {c : Nat} {M : List RuX} (h : RO w base a c M) (hr : Rs g w w') (hg : Rdr w g) : RO w' base a c M := by
  obtain ⟨_, _, _, _, h1, _⟩ := hg
  exact h.kept (fun k hk hl => hr.1.block k hl (fun e => hk (by injection e with e; exact e.symm))) h1 (by decide) (by decide) (by decide)
theorem rule_at {w : World} {base : Nat} {a : Option Addr} {c : Nat} {M : List RuX} (h : RO w base a c M) {i : Nat} {x : RuX} (hi : M[i]? = some x) :
    ∃ k, a = some ⟨k, 0, none⟩ ∧ k < w.heap.size ∧ w.cell? ⟨k, i * 5, none⟩ = some (.string x.nm) ∧ w.cell? ⟨k, i * 5 + 1, none⟩ = some (.int .i64 x.sal) ∧ w.cell? ⟨k, i * 5 + 2, none⟩ = some x.pv ∧ w.cell? ⟨k, i * 5 + 3, none⟩ = some x.ev ∧ w.cell? ⟨k, i * 5 + 4, none⟩ = some x.av := by
  have key := fun j u (hj : (rcells x)[j]? = some u) => owns_cell h.1 (flat_gen (cells := rcells) (m := 5) (fun _ => rfl) M i x j u hi hj)
  obtain ⟨k, rfl, _, h0, _⟩ := key 0 _ rfl
  obtain ⟨k1, e1, _, h1, _⟩ := key 1 _ rfl
  obtain ⟨k2, e2, _, h2, _⟩ := key 2 _ rfl
  obtain ⟨k3, e3, _, h3, _⟩ := key 3 _ rfl
  obtain ⟨k4, e4, _, h4, _⟩ := key 4 _ rfl
  cases e1
  cases e2
  cases e3
  cases e4
  exact ⟨k, rfl, World.block_lt_of_cell? w ⟨k, _, none⟩ h0, h0, h1, h2, h3, h4⟩
theorem pat_at {w : World} {base : Nat} {a : Option Addr} {c : Nat} {L : List PtV} (h : PO w base a c L) {i : Nat} {x : PtV} (hi : L[i]? = some x) :
    ∃ k, a = some ⟨k, 0, none⟩ ∧ k < w.heap.size ∧ w.cell? ⟨k, i * 3, none⟩ = some (.bool x.1.neg) ∧ w.cell? ⟨k, i * 3 + 1, none⟩ = some (.string x.1.cls) ∧ w.cell? ⟨k, i * 3 + 2, none⟩ = some x.2 := by
  have key := fun j u (hj : (pcells x)[j]? = some u) => owns_cell h.1 (flat_gen (cells := pcells) (m := 3) (fun _ => rfl) L i x j u hi hj)
  obtain ⟨k, rfl, _, h0, _⟩ := key 0 _ rfl
  obtain ⟨k1, e1, _, h1, _⟩ := key 1 _ rfl
  obtain ⟨k2, e2, _, h2, _⟩ := key 2 _ rfl
  cases e1
  cases e2
  exact ⟨k, rfl, World.block_lt_of_cell? w ⟨k, _, none⟩ h0, h0, h1, h2⟩
end Go.Proofs.Ytgamdkokmkagaaa
