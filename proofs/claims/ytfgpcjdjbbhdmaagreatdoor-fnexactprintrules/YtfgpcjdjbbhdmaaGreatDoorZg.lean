/-
  OUR OWN TEXT. Copy, Blk, App, Ic6, one behind the other.
-/
import Derived.Test.YtfgpcjdjbbhdmaaGreatDoorZa
import Derived.Laws.CopyOwn
import Derived.Deep.MidRow
import Derived.Deep.RegionLaw
import Derived.Maps.AppendAt
import Derived.Laws.OwnMore
import Derived.Test.YtfgpcjdjbbhdmaaGreatDoorZf
namespace Go.Proofs.YtfgpcjdjbbhdmaaGreatDoor
open Go.RowKit

theorem run_copy_rows {P : Program} (w : World) (dT sT ty elem : TypeId) (b o dLen dCap : Nat) (sp : Option Addr) (sLen sCap m : Nat) (cs : List Value)
    (hu : P.underlying dT = some (.slice elem)) (hs : (P.info? elem).map (·.size) = some m) (hn : cs.length = Nat.min sLen dLen * m)
    (hnil : sp = none → sLen = 0)
    (hsrc : ∀ a, sp = some a → ∀ j v, cs[j]? = some v → w.cell? (a.add j) = some v) (hc : ∀ j, j < cs.length → (w.cell? ⟨b, o + j, none⟩).isSome = true) (hf : ∀ j, j < cs.length → w.frozen? ⟨b, o + j, none⟩ = false) (h1 : ∀ v ∈ cs, v.oneCell' = true) :
    (Builtin.copy_ #[dT, sT] ty #[.slice (some ⟨b, o, none⟩) dLen dCap, .slice sp sLen sCap]).run P w = .ok (goInt (Nat.min sLen dLen)) (w.setCells b o cs) := by
  have hst := run_storeCells_cells (P := P) b o cs 0 w (by simpa using hc) (by simpa using hf) h1
  cases hq : P.info? elem with
  | none => simp [hq] at hs
  | some i =>
    have hi : i.size = m := by simpa [hq] using hs
    cases sp with
    | none =>
      have h0 := hnil rfl
      subst h0
      have hcs : cs = [] := List.eq_nil_of_length_eq_zero (by simpa using hn)
      subst hcs
      simp [Builtin.copy_, run_underlying hu, Builtin.lenOf, Builtin.firstCells, sizeOf, typeInfo, hq, storeCells, World.setCells]
    | some a =>
      have hl := run_loadCells_list (P := P) w a cs (hsrc a rfl)
      simp [Builtin.copy_, run_underlying hu, Builtin.lenOf, Builtin.firstCells, sizeOf, typeInfo, hq, hi, ← hn, hl, hst]
end Go.Proofs.YtfgpcjdjbbhdmaaGreatDoor

namespace Go.Proofs.YtfgpcjdjbbhdmaaGreatDoor
open Go.RowKit

/-- w' is w but for block b, whose kind and size stand. -/
structure Turned (w w' : World) (b : Nat) : Prop where
  os : w'.os = w.os
  tape : w'.tape = w.tape
  output : w'.output = w.output
  size : w'.heap.size = w.heap.size
  block : ∀ k, k ≠ b → w'.heap[k]? = w.heap[k]?

theorem Turned.setCells : ∀ (vs : List Value) (o : Nat) (w : World) (b : Nat), Turned w (w.setCells b o vs) b
  | [], _, _, _ => ⟨rfl, rfl, rfl, rfl, fun _ _ => rfl⟩
  | v :: r, o, w, b => by
    have h := Turned.setCells r (o + 1) (w.setCell ⟨b, o, none⟩ v) b
    exact ⟨h.os, h.tape, h.output, h.size.trans (by simp [World.setCell]), fun k hk => (h.block k hk).trans (Below.heap_setCell _ _ _ _ hk)⟩

theorem Turned.below {w w' : World} {b B : Nat} (h : Turned w w' b) (hB : B ≤ b) : Below B w w' :=
  ⟨h.os, h.tape, h.output, Nat.le_of_eq h.size.symm, fun k hk => h.block k (by omega)⟩

theorem Turned.cell {w w' : World} {b : Nat} (h : Turned w w' b) {p : Addr} (hp : p.block ≠ b) : w'.cell? p = w.cell? p := World.cell?_of_block (w := w) (h.block _ hp)

theorem heap_setCells_splice {w : World} {g o : Nat} {c : Array Value} {t : TypeId} {fr : Nat × Nat} (h : w.heap[g]? = some (.cells c t fr)) (vs : List Value) (hfit : o + vs.length ≤ c.size) :
    (w.setCells g o vs).heap[g]? = some (.cells (c.toList.take o ++ (vs ++ c.toList.drop (o + vs.length))).toArray t fr) := by
  obtain ⟨c', h1, h2, h3, h4⟩ := heap_setCells_same vs o w g c t fr h
  rw [h1]
  congr 2
  apply Array.ext'
  apply List.ext_getElem?
  intro i
  rw [Array.getElem?_toList]
  by_cases hi : i < o
  · rw [h4 i (Or.inl hi)]
    simp only [List.getElem?_append, List.length_take, Array.length_toList, List.getElem?_take]
    rw [if_pos (by omega), if_pos hi, Array.getElem?_toList]
  · by_cases hj : i < o + vs.length
    · have hx : vs[i - o]? = some (vs[i - o]'(by omega)) := List.getElem?_eq_getElem _
      have := h3 (i - o) _ hx (by omega)
      rw [show o + (i - o) = i by omega] at this
      rw [this]
      simp only [List.getElem?_append, List.length_take, Array.length_toList]
      rw [if_neg (by omega), if_pos (by omega), show i - min o c.size = i - o by omega, hx]
    · rw [h4 i (Or.inr (by omega))]
      simp only [List.getElem?_append, List.length_take, Array.length_toList, List.getElem?_drop]
      rw [if_neg (by omega), if_neg (by omega), show o + vs.length + (i - min o c.size - vs.length) = i by omega, Array.getElem?_toList]

theorem there_blk {w : World} {b : Nat} {c : Array Value} {t : TypeId} (h : w.heap[b]? = some (.cells c t (0, 0))) {o n : Nat} (hn : o + n ≤ c.size) : w.there b o n := fun j hj => by
  have hlt : o + j < c.size := by omega
  simp [World.cell?, World.frozen?, h, hlt]

theorem range_blk {w : World} {b : Nat} {c : List Value} {t : TypeId} {fr : Nat × Nat} (h : w.heap[b]? = some (.cells c.toArray t fr)) : w.rangeAt b 0 c := fun j v hv => by
  simp [World.cell?, h, hv]

/-- A whole block is written anew. -/
theorem wpList_store_blk {P : Program} {ops : Array Oper} {rest : List Oper} {op : Oper} {a : Act} {w : World} {Q : Exit → Act → World → Prop} (hgd : op.guard = none) (ty : TypeId) (x y : Operand) (ho : op.op = .store ty x y)
    (b : Nat) (L : List Value) (hx : a.eval x = .pointer (some ⟨b, 0, none⟩)) (hy : a.eval y = .agg L.toArray) (c : Array Value) (t : TypeId) (hb : w.heap[b]? = some (.cells c t (0, 0)))
    (hs : c.size = L.length) (hi : (P.info? ty).map (·.size) = some L.length) (h1 : ∀ v ∈ L, v.oneCell' = true)
    (h : ∀ w', Hid (w'.heap[b]? = some (.cells L.toArray t (0, 0))) → Hid (Turned w w' b) → wpList P ops Q rest (a.put op.dst undef) w') : wpList P ops Q (op :: rest) a w := by
  refine wpList_store_mid hgd ty x y ho b 0 L.toArray hx hy (there_blk hb (by simp; omega)) (by simpa using hi) (all_oneCell_toArray h1) (h _ ?_ (Turned.setCells _ _ _ _))
  show _ = _
  have := heap_setCells_splice hb (o := 0) L (by omega)
  rw [this]
  simp [List.drop_eq_nil_of_le (show c.toList.length ≤ L.length by simp; omega)]

/-- A whole block is read. -/
theorem wpList_load_blk {P : Program} {ops : Array Oper} {rest : List Oper} {op : Oper} {a : Act} {w : World} {Q : Exit → Act → World → Prop} (hgd : op.guard = none) (ty : TypeId) (x : Operand) (ho : op.op = .load ty x)
    (b : Nat) (L : List Value) (hx : a.eval x = .pointer (some ⟨b, 0, none⟩)) (t : TypeId) (fr : Nat × Nat) (hb : w.heap[b]? = some (.cells L.toArray t fr)) (d : TypeDesc)
    (hu : P.underlying ty = some d) (hd : d.isRow = true) (hi : (P.info? ty).map (·.size) = some L.length)
    (h : wpList P ops Q rest (a.put op.dst (.agg L.toArray)) w) : wpList P ops Q (op :: rest) a w :=
  wpList_load_mid hgd ty x ho b 0 hx L d (range_blk hb) hu hd hi h

/-- 'copy' into a block that is known whole, at a step of a region that draws its order. -/
theorem step_copy_blk {P : Program} {w : World} {ops : Array Oper} {o : Oper} {a : Act} {K : Act → World → Prop} {Q : Exit → Act → World → Prop} {E : Prop} (hgd : o.guard = none) (d s : Operand) (dT sT : TypeId)
    (ho : o.op = .call { callee := .builtin .copy, args := #[d, s], argTypes := #[dT, sT] }) (elem : TypeId) (m : Nat) (hu : P.underlying dT = some (.slice elem)) (hs : (P.info? elem).map (·.size) = some m)
    (b off dLen dCap : Nat) (sp : Option Addr) (sLen sCap : Nat) (hd : a.eval d = .slice (some ⟨b, off, none⟩) dLen dCap) (hsv : a.eval s = .slice sp sLen sCap)
    (c : Array Value) (t : TypeId) (hb : w.heap[b]? = some (.cells c t (0, 0))) (cs : List Value) (hn : cs.length = Nat.min sLen dLen * m) (hnil : sp = none → sLen = 0)
    (hsrc : ∀ a, sp = some a → ∀ j v, cs[j]? = some v → w.cell? (a.add j) = some v) (hfit : off + cs.length ≤ c.size) (h1 : ∀ v ∈ cs, v.oneCell' = true)
    (h : ∀ w', Hid (w'.heap[b]? = some (.cells (c.toList.take off ++ (cs ++ c.toList.drop (off + cs.length))).toArray t (0, 0))) → Hid (Turned w w' b) → K (a.put o.dst (goInt (Nat.min sLen dLen))) w') :
    if Region.wanted o (yielded ops a.tmps) = true then Oper.wp P o a w K Q else E := by
  have hw : Region.wanted o (yielded ops a.tmps) = true := by simp [Region.wanted, hgd]
  rw [if_pos hw]
  have ht := there_blk hb hfit
  have hrun := run_copy_rows (P := P) w dT sT o.type elem b off dLen dCap sp sLen sCap m cs hu hs hn hnil hsrc (fun j hj => (ht j hj).1) (fun j hj => (ht j hj).2) h1
  unfold Oper.wp
  simp [execOp, ho, resolve, invoke, builtin, hd, hsv, hrun, Result.andThen]
  exact h _ (heap_setCells_splice hb cs hfit) (Turned.setCells _ _ _ _)

end Go.Proofs.YtfgpcjdjbbhdmaaGreatDoor

namespace Go.Proofs.YtfgpcjdjbbhdmaaGreatDoor
open Go.RowKit

theorem run_append_none_any {P : Program} {w : World} (base : Nat) (t ty e : TypeId) (i : TypeInfo) (size : Nat) (ht : P.underlying t = some (.slice e)) (hi : P.info? e = some i)
    (v : Value) (n : Nat) (xs : List Value) (hown : w.ownsRow base e size v n xs) (c : Nat) :
    (Builtin.append_ #[t, t] ty #[v, .slice none 0 c]).run P w = .ok v w := by
  rcases hown.2 with ⟨rfl, rfl⟩ | ⟨g, cap, cur, rfl, _, _, hnc, _⟩
  · simp [Builtin.append_, run_underlying ht, sizeOf, typeInfo, hi, Builtin.lenOf, Builtin.firstCells]
  · simp [Builtin.append_, run_underlying ht, sizeOf, typeInfo, hi, Builtin.lenOf, Builtin.firstCells, hnc, storeCells]

theorem run_append_any {P : Program} (w : World) (base : Nat) (t ty e : TypeId) (z : Value) (size bytes : Nat) (ht : P.underlying t = some (.slice e)) (hinfo : (P.info? e).map (fun i => (i.zero, i.size, i.bytes)) = some (some z, size, bytes))
    (hzs : z.cells.size = size) (hsz : 0 < size) (v : Value) (n : Nat) (xs : List Value) (hown : w.ownsRow base e size v n xs)
    (sp : Option Addr) (m c : Nat) (news : List Value) (hl : news.length = m * size) (hnil : sp = none → m = 0) (hnews : ∀ a, sp = some a → ∀ j u, news[j]? = some u → w.cell? (a.add j) = some u) (h1 : ∀ u ∈ news, u.oneCell' = true)
    (h63 : n + m ≤ maxLen) (hbytes : (n + m) * bytes ≤ 140737488355328) (hbase : base ≤ w.heap.size) :
    ∃ a' c' w', (Builtin.append_ #[t, t] ty #[v, .slice sp m c]).run P w = .ok (.slice a' (n + m) c') w' ∧ w'.ownsRow base e size (.slice a' (n + m) c') (n + m) (xs ++ news) ∧ w.grownBy w' v.ownBlock ∧
      ((Value.slice a' (n + m) c').ownBlock = v.ownBlock ∨ (Value.slice a' (n + m) c').ownBlock = some w.heap.size) := by
  obtain ⟨i, hi, hz0, hz1, hz2⟩ := info_parts hinfo
  cases sp with
  | none =>
    obtain rfl := hnil rfl
    have hr := run_append_none_any (P := P) (w := w) base t ty e i size ht hi v n xs hown c
    have hnews0 : news = [] := List.eq_nil_of_length_eq_zero (by simpa using hl)
    subst hnews0
    have hform : ∃ a' c', v = .slice a' n c' := by
      rcases hown.2 with ⟨rfl, rfl⟩ | ⟨g, cap, cur, rfl, _⟩
      · exact ⟨none, 0, rfl⟩
      · exact ⟨_, _, rfl⟩
    obtain ⟨a', c', rfl⟩ := hform
    exact ⟨a', c', w, hr, by simpa using hown, ⟨rfl, rfl, rfl, Nat.le_refl _, fun _ _ _ => rfl⟩, .inl rfl⟩
  | some a =>
    obtain ⟨v', w', hr, h2, h3, _, h5⟩ := run_append_own_at (P := P) w base t ty e i z size bytes ht hi hz0 hz1 hz2 hzs hsz v n xs hown a m c news hl (hnews a rfl) h1 h63 hbytes hbase
    have hform : ∃ a' c', v' = .slice a' (n + m) c' := by
      rcases h2.2 with ⟨rfl, h0⟩ | ⟨g, cap, cur, rfl, _⟩
      · exact ⟨none, 0, by rw [h0]⟩
      · exact ⟨_, _, rfl⟩
    obtain ⟨a', c', rfl⟩ := hform
    exact ⟨a', c', w', hr, h2, h3, h5⟩

theorem wp_append_any {P : Program} {w : World} {o : Oper} {a : Act} {K : Act → World → Prop} {Q : Exit → Act → World → Prop} (s x : Operand) (t : TypeId)
    (ho : o.op = .call { callee := .builtin .append, args := #[s, x], argTypes := #[t, t] })
    (base : Nat) (e : TypeId) (z : Value) (size bytes : Nat) (ht : P.underlying t = some (.slice e)) (hinfo : (P.info? e).map (fun i => (i.zero, i.size, i.bytes)) = some (some z, size, bytes))
    (hzs : z.cells.size = size) (hsz : 0 < size) (v : Value) (n : Nat) (xs : List Value) (hs : a.eval s = v) (hown : w.ownsRow base e size v n xs)
    (sp : Option Addr) (m c : Nat) (hx : a.eval x = .slice sp m c) (news : List Value) (hl : news.length = m * size) (hnil : sp = none → m = 0) (hnews : ∀ a, sp = some a → ∀ j u, news[j]? = some u → w.cell? (a.add j) = some u) (h1 : ∀ u ∈ news, u.oneCell' = true)
    (h63 : n + m ≤ maxLen) (hbytes : (n + m) * bytes ≤ 140737488355328) (hbase : base ≤ w.heap.size)
    (h : ∀ a' c' w', Hid (w'.ownsRow base e size (.slice a' (n + m) c') (n + m) (xs ++ news)) → Hid (w.grownBy w' v.ownBlock) → Hid ((Value.slice a' (n + m) c').ownBlock = v.ownBlock ∨ (Value.slice a' (n + m) c').ownBlock = some w.heap.size) → K (a.put o.dst (.slice a' (n + m) c')) w') : o.wp P a w K Q := by
  obtain ⟨a', c', w', hr, h2, h3, h4⟩ := run_append_any (P := P) w base t o.type e z size bytes ht hinfo hzs hsz v n xs hown sp m c news hl hnil hnews h1 h63 hbytes hbase
  unfold Oper.wp execOp
  simp only [ho, resolve, invoke, builtin, Sem.run_bind, Sem.run_pure, Result.andThen_ok, List.map_toArray, List.map_cons, List.map_nil, hs, hx, hr]
  exact h a' c' w' h2 h3 h4

theorem wpList_append_any {P : Program} {w : World} {ops : Array Oper} {rest : List Oper} {o : Oper} {a : Act} {Q : Exit → Act → World → Prop} (hgd : o.guard = none) (s x : Operand) (t : TypeId)
    (ho : o.op = .call { callee := .builtin .append, args := #[s, x], argTypes := #[t, t] })
    (base : Nat) (e : TypeId) (z : Value) (size bytes : Nat) (ht : P.underlying t = some (.slice e)) (hinfo : (P.info? e).map (fun i => (i.zero, i.size, i.bytes)) = some (some z, size, bytes))
    (hzs : z.cells.size = size) (hsz : 0 < size) (v : Value) (n : Nat) (xs : List Value) (hs : a.eval s = v) (hown : w.ownsRow base e size v n xs)
    (sp : Option Addr) (m c : Nat) (hx : a.eval x = .slice sp m c) (news : List Value) (hl : news.length = m * size) (hnil : sp = none → m = 0) (hnews : ∀ a, sp = some a → ∀ j u, news[j]? = some u → w.cell? (a.add j) = some u) (h1 : ∀ u ∈ news, u.oneCell' = true)
    (h63 : n + m ≤ maxLen) (hbytes : (n + m) * bytes ≤ 140737488355328) (hbase : base ≤ w.heap.size)
    (h : ∀ a' c' w', Hid (w'.ownsRow base e size (.slice a' (n + m) c') (n + m) (xs ++ news)) → Hid (w.grownBy w' v.ownBlock) → Hid ((Value.slice a' (n + m) c').ownBlock = v.ownBlock ∨ (Value.slice a' (n + m) c').ownBlock = some w.heap.size) → wpList P ops Q rest (a.put o.dst (.slice a' (n + m) c')) w') : wpList P ops Q (o :: rest) a w :=
  wpList_plain hgd fun _ hK => wp_append_any s x t ho base e z size bytes ht hinfo hzs hsz v n xs hs hown sp m c hx news hl hnil hnews h1 h63 hbytes hbase fun a' c' w' h2 h3 h4 => hK _ _ (h a' c' w' h2 h3 h4)

theorem step_append_any {P : Program} {w : World} {ops : Array Oper} {o : Oper} {a : Act} {K : Act → World → Prop} {Q : Exit → Act → World → Prop} {E : Prop} (hgd : o.guard = none) (s x : Operand) (t : TypeId)
    (ho : o.op = .call { callee := .builtin .append, args := #[s, x], argTypes := #[t, t] })
    (base : Nat) (e : TypeId) (z : Value) (size bytes : Nat) (ht : P.underlying t = some (.slice e)) (hinfo : (P.info? e).map (fun i => (i.zero, i.size, i.bytes)) = some (some z, size, bytes))
    (hzs : z.cells.size = size) (hsz : 0 < size) (v : Value) (n : Nat) (xs : List Value) (hs : a.eval s = v) (hown : w.ownsRow base e size v n xs)
    (sp : Option Addr) (m c : Nat) (hx : a.eval x = .slice sp m c) (news : List Value) (hl : news.length = m * size) (hnil : sp = none → m = 0) (hnews : ∀ a, sp = some a → ∀ j u, news[j]? = some u → w.cell? (a.add j) = some u) (h1 : ∀ u ∈ news, u.oneCell' = true)
    (h63 : n + m ≤ maxLen) (hbytes : (n + m) * bytes ≤ 140737488355328) (hbase : base ≤ w.heap.size)
    (h : ∀ a' c' w', Hid (w'.ownsRow base e size (.slice a' (n + m) c') (n + m) (xs ++ news)) → Hid (w.grownBy w' v.ownBlock) → Hid ((Value.slice a' (n + m) c').ownBlock = v.ownBlock ∨ (Value.slice a' (n + m) c').ownBlock = some w.heap.size) → K (a.put o.dst (.slice a' (n + m) c')) w') :
    if Region.wanted o (yielded ops a.tmps) = true then Oper.wp P o a w K Q else E := by
  have hw : Region.wanted o (yielded ops a.tmps) = true := by simp [Region.wanted, hgd]
  rw [if_pos hw]
  exact wp_append_any s x t ho base e z size bytes ht hinfo hzs hsz v n xs hs hown sp m c hx news hl hnil hnews h1 h63 hbytes hbase h

/-- What is owned stays owned where its block stands. -/
theorem owns_of_block {w w' : World} {base : Nat} {e : TypeId} {size : Nat} {v : Value} {n : Nat} {xs : List Value} (h : w.ownsRow base e size v n xs) (hb : ∀ g, v.ownBlock = some g → w'.heap[g]? = w.heap[g]?) : w'.ownsRow base e size v n xs := by
  refine ⟨h.1, ?_⟩
  rcases h.2 with h | ⟨g, cap, cur, rfl, h2, h3, h4⟩
  · exact .inl h
  · exact .inr ⟨g, cap, cur, rfl, h2, (hb g rfl).trans h3, h4⟩

/-- Owned from a lower number on. -/
theorem owns_base {w : World} {base base' : Nat} {e : TypeId} {size : Nat} {v : Value} {n : Nat} {xs : List Value} (h : w.ownsRow base e size v n xs) (hb : base' ≤ base) : w.ownsRow base' e size v n xs := by
  refine ⟨h.1, ?_⟩
  rcases h.2 with h | ⟨g, cap, cur, rfl, h2, h3⟩
  · exact .inl h
  · exact .inr ⟨g, cap, cur, rfl, by omega, h3⟩

/-- An owned row's cells. -/
theorem owns_cell {w : World} {base : Nat} {e : TypeId} {size : Nat} {a : Option Addr} {n c : Nat} {xs : List Value} (h : w.ownsRow base e size (.slice a n c) n xs) {j : Nat} {x : Value} (hx : xs[j]? = some x) : ∃ g, a = some ⟨g, 0, none⟩ ∧ base ≤ g ∧ w.cell? ⟨g, j, none⟩ = some x ∧ w.frozen? ⟨g, j, none⟩ = false := by
  have hj : j < xs.length := (List.getElem?_eq_some_iff.1 hx).1
  rcases h.2 with ⟨_, h0⟩ | ⟨g, cap, cur, he, h2, h3, h4, h5, h6, h7⟩
  · have := h.1
    subst h0
    simp at this
    subst this
    simp at hj
  · simp only [Value.slice.injEq] at he
    obtain ⟨rfl, _, _⟩ := he
    refine ⟨g, rfl, h2, ?_, by simp [World.frozen?, h3]⟩
    rw [← h7, List.getElem?_take] at hx
    split at hx
    · simp [World.cell?, h3]
      simpa using hx
    · cases hx

/-- Two values share no block. -/
def Apart (x y : Value) : Prop := ∀ g, x.ownBlock = some g → y.ownBlock ≠ some g

/-- OwnB, said as the laws on append say it. -/
theorem OwnB.owns {w : World} {g : Nat} {t : TypeId} {m N base : Nat} {rs : List (List Value)} (h : OwnB w g t m N rs) (hb : base ≤ g) (hN : rs.length = N) (hm : N ≤ maxLen) : w.ownsRow base t m (.slice (some ⟨g, 0, none⟩) N N) N rs.flatten := by
  obtain ⟨c, h1, h2, _, h4⟩ := h
  have hfl : rs.flatten.length = N * m := by
    rw [List.length_flatten]
    have : ∀ (l : List (List Value)), (∀ r ∈ l, r.length = m) → (l.map List.length).sum = l.length * m := by
      intro l
      induction l with
      | nil => intro _; simp
      | cons r l ih =>
        intro hr
        rw [List.map_cons, List.sum_cons, ih (fun x hx => hr x (by simp [hx])), hr r (by simp), List.length_cons, Nat.succ_mul]
        omega
    rw [this rs (fun r hr => by
      obtain ⟨i, hi, rfl⟩ := List.getElem_of_mem hr
      exact (h4 i _ (List.getElem?_eq_getElem hi)).1), hN]
  refine ⟨hfl, .inr ⟨g, N, c, rfl, hb, h1, Nat.le_refl _, hm, h2, ?_⟩⟩
  rw [List.take_of_length_le (by simp; omega)]
  apply List.ext_getElem?
  intro j
  by_cases hj : j < N * m
  · have hm0 : 0 < m := by
      rcases Nat.eq_zero_or_pos m with h0 | h0
      · subst h0; simp at hj
      · exact h0
    have hi : j / m < rs.length := by rw [hN]; exact Nat.div_lt_of_lt_mul (by rw [Nat.mul_comm]; exact hj)
    obtain ⟨hr, hc⟩ := h4 (j / m) _ (List.getElem?_eq_getElem hi)
    have hjm : j % m < rs[j / m].length := by rw [hr]; exact Nat.mod_lt _ hm0
    have h5 := hc (j % m) _ (List.getElem?_eq_getElem hjm)
    rw [Nat.div_add_mod' j m] at h5
    rw [Array.getElem?_toList, h5]
    have key : ∀ (l : List (List Value)) (k : Nat), (∀ r ∈ l, r.length = m) → ∀ (hk : k / m < l.length) (hkm : k % m < (l[k / m]).length), l.flatten[k]? = some ((l[k / m])[k % m]) := by
      intro l
      induction l with
      | nil => intro k _ hk; simp at hk
      | cons r l ih =>
        intro k hlen hk hkm
        have hrm : r.length = m := hlen r (by simp)
        rw [List.flatten_cons]
        by_cases hkr : k < m
        · have e1 : k / m = 0 := Nat.div_eq_of_lt hkr
          have e2 : k % m = k := Nat.mod_eq_of_lt hkr
          rw [List.getElem?_append_left (by omega)]
          simp only [e1, e2, List.getElem_cons_zero]
          rw [List.getElem?_eq_getElem (by omega)]
        · have e1 : k / m = (k - m) / m + 1 := by
            have := Nat.add_div_right (k - m) hm0
            rw [Nat.sub_add_cancel (by omega)] at this
            exact this
          have e2 : k % m = (k - m) % m := by
            have := Nat.add_mod_right (k - m) m
            rw [Nat.sub_add_cancel (by omega)] at this
            exact this
          rw [List.getElem?_append_right (by omega), hrm]
          have hk' : (k - m) / m < l.length := by
            rw [e1] at hk
            simpa using hk
          have := ih (k - m) (fun x hx => hlen x (by simp [hx])) hk' (by rw [hlen _ (by simp [List.getElem_mem])]; exact Nat.mod_lt _ hm0)
          rw [this]
          simp only [e1, e2, List.getElem_cons_succ]
    exact (key rs j (fun r hr => by
      obtain ⟨i, hi', rfl⟩ := List.getElem_of_mem hr
      exact (h4 i _ (List.getElem?_eq_getElem hi')).1) hi hjm).symm
  · rw [List.getElem?_eq_none (by simp; omega), List.getElem?_eq_none (by omega)]

end Go.Proofs.YtfgpcjdjbbhdmaaGreatDoor

namespace Go.Proofs.YtfgpcjdjbbhdmaaGreatDoor
open Go.RowKit
attribute [local go_sem ↓] Go.wp_at_zero Go.wp_at_succ

theorem hideIt {p : Prop} (h : p) : Hid p := h

set_option maxHeartbeats 800000 in
theorem exprSpan_any (e : Ex) (a : Option Addr) (c : Nat) (S : List Sp) {q : Option Nat} (w : World) (hv : SpsAt q w a S) (hl : S.length ≤ 60) (hs : e.le maxLen) (ho0 : 0 ≤ e.op) (ho1 : e.op < 256) (hd : ∀ (i : Nat) (s : Sp), S[i]? = some s → s.1 ≤ i ∧ s.2 ≤ 20) :
    Calls Tryz.prog 206 #[.agg #[.int .i64 e.kind, .int .u8 e.op, .string e.var, .int .i64 e.val.kind, .int .i64 e.val.num, .string e.val.sym, .int .i64 e.a, .int .i64 e.b], .slice a S.length c] w fun r w' =>
      (∃ f d : Int, r = .returned (.tuple #[.agg #[.int .i64 f, .int .i64 d], .bool (spanOf S e).isSome]) ∧ ∀ s, spanOf S e = some s → f = (s.1 : Int) ∧ d = (s.2 : Int)) ∧ Below w.heap.size w w' := by
  by_cases k0 : e.kind = 0
  · have hs0 : spanOf S e = if leafOk e && (isE e.var && gVal e.val) then some (S.length, 0) else none := by simp [spanOf, k0]
    refine (exprSpan_0 e a c S w hs k0).mono ?_
    rintro r w' ⟨rfl, hb⟩
    rw [hs0]
    refine ⟨⟨S.length, 0, ?_, ?_⟩, hb⟩
    · cases leafOk e && (isE e.var && gVal e.val) <;> rfl
    · intro s h
      split at h
      · injection h with h
        rw [← h]
        exact ⟨rfl, rfl⟩
      · cases h
  by_cases k1 : e.kind = 1
  · have hs0 : spanOf S e = if leafOk e && (gSym e.var.data.toList && zeroV e.val) then some (S.length, 0) else none := by simp [spanOf, k1]
    refine (exprSpan_1 e a c S w hs k1).mono ?_
    rintro r w' ⟨rfl, hb⟩
    rw [hs0]
    refine ⟨⟨S.length, 0, ?_, ?_⟩, hb⟩
    · cases leafOk e && (gSym e.var.data.toList && zeroV e.val) <;> rfl
    · intro s h
      split at h
      · injection h with h
        rw [← h]
        exact ⟨rfl, rfl⟩
      · cases h
  have B3 : ∀ o o1 o2, Below w.heap.size w (((w.alloc o).alloc o1).alloc o2) := fun o o1 o2 => (((Below.refl _ _).alloc (Nat.le_refl _) _).alloc (by simp) _).alloc (by simp; omega) _
  by_cases k2 : e.kind = 2
  · have hsp := fun w h => spanOfParts_any e a c S (q := q) w h hl k2 ho0 ho1 hd
    simp only [k2] at hsp
    have HP := hideIt hsp
    clear hsp
    go_enter Tryz.func206, Tryz.ntmps206
    go_wp2_with (go_at_call 226; refine (HP.out _ (hv.below (B3 _ _ _))).mono ?_; rintro e' w' ⟨⟨f, d, rfl, hfd⟩, hb'⟩; have y0 : w'.cell? ⟨w.heap.size + 1, 0, none⟩ = some (.int .i64 0) := cell_below hb' (by simp [go_sem]); have y1 : w'.cell? ⟨w.heap.size + 1, 1, none⟩ = some (.int .i64 0) := cell_below hb' (by simp [go_sem]); have yf0 : w'.frozen? ⟨w.heap.size + 1, 0, none⟩ = false := (by rw [(bcell hb').2 _ _ (by simp)]; simp [go_sem]); have yf1 : w'.frozen? ⟨w.heap.size + 1, 1, none⟩ = false := (by rw [(bcell hb').2 _ _ (by simp)]; simp [go_sem]))
    have hB' : Below w.heap.size w w' := (B3 _ _ _).trans (hb'.mono (by simp; omega))
    refine bodyPost_ret (v := .tuple #[.agg #[.int .i64 f, .int .i64 d], .bool (spanOf S e).isSome]) (by simp [results, Tryz.results206, go_sem, y0, y1]) rfl ⟨⟨f, d, rfl, hfd⟩, (hB'.setCell (by simp) _).setCell (by simp) _⟩
  · have HN : Hid (spanOf S e = none) := show spanOf S e = none from by simp [spanOf, k0, k1, k2]
    go_enter Tryz.func206, Tryz.ntmps206
    go_wp2
    refine bodyPost_ret (v := .tuple #[.agg #[.int .i64 0, .int .i64 0], .bool false]) (by simp [results, Tryz.results206, go_sem]) rfl ⟨⟨0, 0, by rw [HN.out]; rfl, fun s h => (by rw [HN.out] at h; cases h)⟩, B3 _ _ _⟩

def spCells (s : Sp) : List Value := [.int .i64 (s.1 : Int), .int .i64 (s.2 : Int)]
theorem spFlat_len : ∀ S : List Sp, (S.flatMap spCells).length = S.length * 2
  | [] => rfl
  | s :: r => by rw [List.flatMap_cons, List.length_append, spFlat_len r]; simp [spCells]; omega
theorem spFlat_at : ∀ (S : List Sp) (i : Nat) (s : Sp), S[i]? = some s → (S.flatMap spCells)[i * 2]? = some (.int .i64 (s.1 : Int)) ∧ (S.flatMap spCells)[i * 2 + 1]? = some (.int .i64 (s.2 : Int))
  | [], i, s, h => by simp at h
  | x :: r, 0, s, h => by
    simp at h
    subst h
    exact ⟨rfl, rfl⟩
  | x :: r, i + 1, s, h => by
    have := spFlat_at r i s (by simpa using h)
    rw [List.flatMap_cons]
    refine ⟨?_, ?_⟩
    · rw [List.getElem?_append_right (by simp [spCells]; omega), show (i + 1) * 2 - (spCells x).length = i * 2 by simp [spCells]; omega]
      exact this.1
    · rw [List.getElem?_append_right (by simp [spCells]; omega), show (i + 1) * 2 + 1 - (spCells x).length = i * 2 + 1 by simp [spCells]; omega]
      exact this.2
theorem SpsAt.owns {w : World} {base n : Nat} {a : Option Addr} {c : Nat} {S : List Sp} (h : w.ownsRow base 261 2 (.slice a n c) n (S.flatMap spCells)) : SpsAt none w a S := by
  intro i s hs
  obtain ⟨k0, k1⟩ := spFlat_at S i s hs
  obtain ⟨g, rfl, _, h0, _⟩ := owns_cell h k0
  obtain ⟨g1, he1, _, h1, _⟩ := owns_cell h k1
  cases he1
  refine ⟨g, 0, [.int .i64 (s.1 : Int), .int .i64 (s.2 : Int)], rfl, Qb.bare _ _ _, rfl, ?_, rfl⟩
  intro j v hj
  rw [Nat.zero_add]
  match j, hj with
  | 0, hj => simp at hj; subst hj; exact h0
  | 1, hj => simp at hj; subst hj; exact h1
theorem infoSp : (Tryz.prog.info? 261).map (fun i => (i.zero, i.size, i.bytes)) = some (some (.agg #[.int .i64 0, .int .i64 0]), 2, 16) := by kernel_rfl
theorem news_alloc' (w : World) (L : List Value) (t : TypeId) (ad : Addr) (e : some (⟨w.heap.size, 0, none⟩ : Addr) = some ad) (j : Nat) (u : Value) (h : L[j]? = some u) : (w.alloc (.cells L.toArray t)).cell? (ad.add j) = some u := by
  cases e
  rw [Addr.add_mid, Nat.zero_add]
  have hb := heap_alloc_new w (.cells L.toArray t)
  simp only [World.cell?, hb]
  simpa using h
theorem news_alloc2 (w : World) (L : List Value) (t : TypeId) (b : Nat) (hb : b = w.heap.size) (ad : Addr) (e : some (⟨b, 0, none⟩ : Addr) = some ad) (j : Nat) (u : Value) (h : L[j]? = some u) : (w.alloc (.cells L.toArray t)).cell? (ad.add j) = some u := by
  subst hb
  exact news_alloc' w L t ad e j u h
theorem ownsBelow {w w' : World} {base : Nat} {e : TypeId} {size : Nat} {v : Value} {n : Nat} {xs : List Value} (h : w.ownsRow base e size v n xs) (hb : Below w.heap.size w w') : w'.ownsRow base e size v n xs :=
  owns_of_block h (fun g hg => hb.block g (h.lt g hg).2)
theorem spCells_one (s : Sp) : ∀ u ∈ spCells s, u.oneCell' = true := by
  intro u hu
  simp [spCells] at hu
  rcases hu with rfl | rfl <;> rfl

/-- Each op is a byte. -/
def OpsOk (es : List Ex) : Prop := ∀ e ∈ es, 0 ≤ e.op ∧ e.op < 256

set_option maxHeartbeats 1600000 in
theorem spans_any (x : Ru) (a_pats : Option Addr) (c_pats : Nat) (a_exprs : Option Addr) (c_exprs : Nat) (a_acts : Option Addr) (c_acts : Nat) {q : Option Nat} (w : World) (h_exprs : ExsAt q w a_exprs x.exprs) (hl : x.exprs.length ≤ 60) (hs : ListLe Ex.le maxLen x.exprs) (ho : OpsOk x.exprs) :
    Calls Tryz.prog 174 #[.agg #[.string x.name, .int .i64 x.sal, .slice a_pats x.pats.length c_pats, .slice a_exprs x.exprs.length c_exprs, .slice a_acts x.acts.length c_acts]] w fun e w' =>
      (∃ a c, e = .returned (.tuple #[.slice a (spansGo [] x.exprs).length c, .bool (decide ((spansGo [] x.exprs).length = x.exprs.length))]) ∧ SpsAt none w' a (spansGo [] x.exprs)) ∧ Below w.heap.size w w' := by
  go_enter Tryz.func174, Tryz.ntmps174
  go_wp2
  go_loopw [4, 12] (fun v i wr => ∃ (S : List Sp) (a : Option Addr) (c : Nat), S.length ≤ x.exprs.length ∧ i = .int .i64 (S.length : Int) ∧ v = .slice a S.length c ∧ Spans x.exprs S ∧ spansGo [] x.exprs = spansGo S (x.exprs.drop S.length) ∧ wr.ownsRow w.heap.size 261 2 (.slice a S.length c) S.length (S.flatMap spCells) ∧ Below w.heap.size w wr) (fun _ i _ => x.exprs.length - (intOf i).toNat)
  case atStart => exact ⟨[], none, 0, by simp, rfl, rfl, Spans.nil _, rfl, World.ownsRow_nil _ _ _ _, (Below.refl _ _).alloc (Nat.le_refl _) _⟩
  case round =>
    obtain ⟨S, a, c, hk, rfl, rfl, hS, hG, hown, hb⟩ := hrel
    have HG : Hid (spansGo [] x.exprs = spansGo S (x.exprs.drop S.length)) := hG
    have HO := hideIt hown
    clear hG hown
    by_cases hkl : S.length < x.exprs.length
    · obtain ⟨e, hek⟩ : ∃ e, x.exprs[S.length]? = some e := ⟨x.exprs[S.length], by simp [hkl]⟩
      obtain ⟨b, o, rfl, hq, c0, c1, c2, c3, c4, c5, c6, c7⟩ := (h_exprs.below hb).get hek
      have HD : Hid (x.exprs.drop S.length = e :: x.exprs.drop (S.length + 1)) := drop_cons hek
      have hse := hs.2 e (List.mem_of_getElem? hek)
      obtain ⟨ho0, ho1⟩ := ho e (List.mem_of_getElem? hek)
      have hd : Hid (∀ (i : Nat) (s : Sp), S[i]? = some s → s.1 ≤ i ∧ s.2 ≤ 20) := show ∀ (i : Nat) (s : Sp), S[i]? = some s → s.1 ≤ i ∧ s.2 ≤ 20 from fun i s h => ⟨hS.first_le i s h, hS.depth_le i s h⟩
      have HS := hideIt hS
      clear hS
      have B1 : ∀ o, Below wr.heap.size wr (wr.alloc o) := fun o => (Below.refl _ _).alloc (Nat.le_refl _) _
      cases hsp : spanOf S e with
      | none =>
        have HN : Hid (spansGo [] x.exprs = S) := show spansGo [] x.exprs = S from by rw [HG.out, HD.out, spansGo, hsp]
        go_wp2_with (go_at_call 206; refine (exprSpan_any e a c S _ ((SpsAt.owns HO.out).below (B1 _)) (by omega) hse ho0 ho1 hd.out).mono ?_; rintro e' w1 ⟨⟨f, d, rfl, hfd⟩, hb1⟩)
        have hW1 : Below wr.heap.size wr w1 := (B1 _).trans (hb1.mono (by simp))
        have hW2 : Below w.heap.size w w1 := hb.trans (hW1.mono hb.size)
        refine bodyPost_ret (v := .tuple #[.slice a S.length c, .bool false]) (by simp [results, Tryz.results174, go_sem]) rfl ⟨⟨a, c, by rw [HN.out, decide_eq_false (by omega)], ?_⟩, hW2.alloc hW2.size _⟩
        rw [HN.out]
        exact ((SpsAt.owns HO.out).below hW1).below ((Below.refl _ _).alloc (Nat.le_refl _) _)
      | some s =>
        have HN : Hid (spansGo [] x.exprs = spansGo (S ++ [s]) (x.exprs.drop (S.length + 1))) := show spansGo [] x.exprs = _ from by rw [HG.out, HD.out, spansGo, hsp]
        go_wp2_with (first | (go_at_call 206; refine (exprSpan_any e a c S _ ((SpsAt.owns HO.out).below (B1 _)) (by omega) hse ho0 ho1 hd.out).mono ?_; rintro e' w1 ⟨⟨f, d, rfl, hfd⟩, hb1⟩; obtain ⟨rfl, rfl⟩ := hfd s hsp; have hW1 : Below wr.heap.size wr w1 := (B1 _).trans (hb1.mono (by simp)); have ho1 := hideIt (ownsBelow HO.out hW1)) | (at_builtin; refine wpList_append_any (by rfl) (.tmp 25) (.tmp 27) 232 (by rfl) w.heap.size 261 _ 2 16 Tryz.underlying232 infoSp (by rfl) (by omega) _ S.length _ (by rfl) ((ho1.out.alloc _).alloc _) (some ⟨w1.heap.size + 1, 0, none⟩) 1 1 (by rfl) (spCells s) (by rfl) (fun e => by cases e) (news_alloc2 _ _ _ _ (by simp)) (spCells_one s) (by unfold maxLen; omega) (by omega) (by have h1 := hb.size; have h2 := hW1.size; simp; omega) ?_; intro a2 c2' w2 ho2 hg2 hl2))
        have hW2 : Below w.heap.size w w1 := hb.trans (hW1.mono hb.size)
        have hsz := hW2.size
        go_roundw
        case rel =>
          refine ⟨S ++ [s], a2, c2', by simp; omega, by simp, by simp, HS.out.snoc hek hsp, ?_, ?_, ?_⟩
          · rw [HN.out]
            simp
          · have := ho2.out
            rw [List.flatMap_append]
            simpa [spCells] using this
          · exact ((hW2.alloc hsz _).alloc (by simp; omega) _).grown hg2.out (by simp; omega) (fun j hj => (ho1.out.lt j hj).1)
        case measure => simp [intOf]; omega
    · go_wp2
      have HN : Hid (spansGo [] x.exprs = S) := show spansGo [] x.exprs = S from by
        rw [HG.out, List.drop_eq_nil_of_le (by omega)]
        rfl
      refine bodyPost_ret (v := .tuple #[.slice a S.length c, .bool true]) (by simp [results, Tryz.results174, go_sem]) rfl ⟨⟨a, c, by rw [HN.out, decide_eq_true (by omega)], ?_⟩, hb⟩
      rw [HN.out]
      exact SpsAt.owns HO.out
end Go.Proofs.YtfgpcjdjbbhdmaaGreatDoor
