/-
  OUR OWN TEXT. TyB0, Bl0, Mm0, Bl, Ap1b, Mm1, one behind the other.
-/
import Derived.Test.YtognpkdgphebeaaGreatJb
import Derived.Test.YtognpkdgphebeaaGreatUa
import Derived.Test.YtognpkdgphebeaaGreatOa
import Derived.Test.YtognpkdgphebeaaGreatJc
import Derived.Test.YtognpkdgphebeaaGreatQa
import Derived.Test.YtognpkdgphebeaaGreatJf
import Derived.Deep.DeepCutAuto
namespace Go.Proofs.YtognpkdgphebeaaGreat
open Go.RowKit

structure Bd where
  var : ByteArray
  val : V
def Bd.R (_ : World) (r : List Value) (x : Bd) : Prop := r = [.string x.var, .int .i64 x.val.kind, .int .i64 x.val.num, .string x.val.sym]
abbrev BdsAt (q : Option Nat) (w : World) (a : Option Addr) (xs : List Bd) : Prop := RowsAt Bd.R q 106 4 w a xs
theorem BdsAt.below {q : Option Nat} {w w' : World} {a : Option Addr} {xs : List Bd} (h : BdsAt q w a xs) (hb : Below w.heap.size w w') : BdsAt q w' a xs := RowsAt.below h (fun _ _ _ h => h) hb
theorem BdsAt.low {B : Nat} {w w' : World} {a : Option Addr} {xs : List Bd} (h : BdsAt (some B) w a xs) (hb : Low B w w') : BdsAt (some B) w' a xs := RowsAt.low h (fun _ _ _ h => h) hb
theorem BdsAt.bare {q : Option Nat} {w : World} {a : Option Addr} {xs : List Bd} (h : BdsAt q w a xs) : BdsAt none w a xs := RowsAt.weak h (fun b _ => Qb.bare _ _ b) (fun _ _ _ h => h)
theorem BdsAt.get {q : Option Nat} {w : World} {a : Option Addr} {xs : List Bd} {i : Nat} {x : Bd} (h : BdsAt q w a xs) (hi : xs[i]? = some x) : ∃ b o, a = some ⟨b, o, none⟩ ∧ Qb q w 106 b ∧ w.cell? ⟨b, o + i * 4, none⟩ = some (.string x.var) ∧ w.cell? ⟨b, o + i * 4 + 1, none⟩ = some (.int .i64 x.val.kind) ∧ w.cell? ⟨b, o + i * 4 + 2, none⟩ = some (.int .i64 x.val.num) ∧ w.cell? ⟨b, o + i * 4 + 3, none⟩ = some (.string x.val.sym) := by
  obtain ⟨b, o, r, h1, h2, h3, h4, h5⟩ := h i x hi
  subst h5
  exact ⟨b, o, h1, h2, h4 0 _ rfl, h4 1 _ rfl, h4 2 _ rfl, h4 3 _ rfl⟩
end Go.Proofs.YtognpkdgphebeaaGreat

namespace Go.Proofs.YtognpkdgphebeaaGreat

def lookB (bs : List Bd) (s : ByteArray) : Option V :=
  match bs with
  | [] => none
  | b :: r => if b.var = s then some b.val else lookB r s
theorem lookB_cons (b : Bd) (r : List Bd) (s : ByteArray) : lookB (b :: r) s = if b.var = s then some b.val else lookB r s := rfl
end Go.Proofs.YtognpkdgphebeaaGreat

namespace Go.Proofs.YtognpkdgphebeaaGreat

def zVm : V := (0, 0, ⟨#[]⟩)
/-- One term and one value: the binds behind it, or none. -/
def agT (out : List Bd) (t : Tm) (v : V) : Option (List Bd) :=
  if t.kind = 1 then (if v = t.val then some out else none)
  else if t.kind = 2 then (match lookB out t.var with | some old => if old = v then some out else none | none => some (out ++ [⟨t.var, v⟩]))
  else if t.kind = 3 then (if meets t.op v (if t.var = ⟨#[]⟩ then t.val else (lookB out t.var).getD zVm) = true then some out else none)
  else some out
def agGo : List Bd → List Tm → List V → Option (List Bd)
  | out, [], _ => some out
  | out, _ :: _, [] => some out
  | out, t :: ts, v :: vs => (match agT out t v with | some o => agGo o ts vs | none => none)
def agree (p : Pt) (f : F) (bs : List Bd) : Option (List Bd) := if p.cls = f.cls ∧ p.terms.length = f.slots.length then agGo bs p.terms f.slots else none
theorem agGo_cons (out : List Bd) (t : Tm) (ts : List Tm) (v : V) (vs : List V) : agGo out (t :: ts) (v :: vs) = (match agT out t v with | some o => agGo o ts vs | none => none) := rfl
theorem agGo_some {out o : List Bd} {t : Tm} {ts : List Tm} {v : V} {vs : List V} (h : agT out t v = some o) : agGo out (t :: ts) (v :: vs) = agGo o ts vs := by rw [agGo_cons, h]
theorem agGo_none {out : List Bd} {t : Tm} {ts : List Tm} {v : V} {vs : List V} (h : agT out t v = none) : agGo out (t :: ts) (v :: vs) = none := by rw [agGo_cons, h]
theorem agT_len {out o : List Bd} {t : Tm} {v : V} (h : agT out t v = some o) : o.length ≤ out.length + 1 := by
  unfold agT at h
  split at h
  · split at h
    · injection h with h; subst h; omega
    · cases h
  · split at h
    · split at h
      · split at h
        · injection h with h; subst h; omega
        · cases h
      · injection h with h; subst h; simp
    · split at h
      · by_cases hm : meets t.op v (if t.var = ⟨#[]⟩ then t.val else (lookB out t.var).getD zVm) = true
        · rw [if_pos hm] at h; injection h with h; subst h; omega
        · rw [if_neg hm] at h; cases h
      · injection h with h; subst h; omega
/-- A match of the first patterns: its tags, its binds. -/
structure Pm where
  tags : List Int
  binds : List Bd
/-- The facts that go on from a match. -/
def hits (p : Pt) (x : Pm) : List F → List Pm
  | [] => []
  | f :: r => (match agree p f x.binds with | some bs => [⟨x.tags ++ [f.tag], bs⟩] | none => []) ++ hits p x r
def nextOf (p : Pt) (fs : List F) (x : Pm) : List Pm := if p.neg = true then (if (hits p x fs).length = 0 then [x] else []) else hits p x fs
def nextM (p : Pt) (fs : List F) (xs : List Pm) : List Pm := xs.flatMap (nextOf p fs)
def allM : List Pt → List F → List Pm → Nat → List Pm × Nat
  | [], _, xs, n => (xs, n)
  | p :: ps, fs, xs, n => allM ps fs (nextM p fs xs) (n + (nextM p fs xs).length)
theorem hits_snoc (p : Pt) (x : Pm) (f : F) : ∀ l : List F, hits p x (l ++ [f]) = hits p x l ++ (match agree p f x.binds with | some bs => [⟨x.tags ++ [f.tag], bs⟩] | none => [])
  | [] => by simp [hits]
  | g :: r => by
    simp only [List.cons_append, hits]
    rw [hits_snoc p x f r, List.append_assoc]
theorem hits_len (p : Pt) (x : Pm) : ∀ l : List F, (hits p x l).length ≤ l.length
  | [] => Nat.le_refl _
  | f :: r => by
    have := hits_len p x r
    simp only [hits, List.length_append, List.length_cons]
    split <;> simp <;> omega
theorem nextOf_len (p : Pt) (fs : List F) (x : Pm) : (nextOf p fs x).length ≤ fs.length + 1 := by
  have := hits_len p x fs
  unfold nextOf
  split
  · split <;> simp
  · omega
end Go.Proofs.YtognpkdgphebeaaGreat

namespace Go.Proofs.YtognpkdgphebeaaGreat
open Go.RowKit
attribute [local go_sem ↓] Go.wp_at_zero Go.wp_at_succ

theorem hidB {p : Prop} (h : p) : Hid p := h
/-- What the model's look at the binds tells: the value, and whether there is one. -/
def bdV (o : Option V) : Value := match o with
  | some v => .tuple #[.agg #[.int .i64 v.kind, .int .i64 v.num, .string v.sym], .bool true]
  | none => .tuple #[.agg #[.int .i64 0, .int .i64 0, .string ⟨#[]⟩], .bool false]
/-- A box of three cells, none frozen. -/
def Bx3 (w : World) (b : Nat) (t : TypeId) (x0 x1 x2 : Value) : Prop := w.heap[b]? = some (.cells #[x0, x1, x2] t (0, 0))
theorem Bx3.facts {w : World} {b : Nat} {t : TypeId} {x0 x1 x2 : Value} (h : Bx3 w b t x0 x1 x2) : (w.cell? ⟨b, 0, none⟩ = some x0 ∧ w.cell? ⟨b, 1, none⟩ = some x1 ∧ w.cell? ⟨b, 2, none⟩ = some x2) ∧
    (w.frozen? ⟨b, 0, none⟩ = false ∧ w.frozen? ⟨b, 1, none⟩ = false ∧ w.frozen? ⟨b, 2, none⟩ = false) ∧ b < w.heap.size := by
  unfold Bx3 at h
  refine ⟨⟨?_, ?_, ?_⟩, ⟨?_, ?_, ?_⟩, lt_of_block' h⟩ <;> simp [World.cell?, World.frozen?, h]
set_option maxHeartbeats 800000 in
theorem l4Bind_any (s : ByteArray) (a : Option Addr) (c : Nat) (bs : List Bd) {q : Option Nat} (w : World) (hv : BdsAt q w a bs) (hl : bs.length ≤ 1048576) :
    Calls Tryz.prog 122 #[.slice a bs.length c, .string s] w fun e w' => e = .returned (bdV (lookB bs s)) ∧ Below w.heap.size w w' := by
  have B0 : ∀ o, Below w.heap.size w (w.alloc o) := fun o => (Below.refl _ _).alloc (Nat.le_refl _) _
  go_enter Tryz.func122, Tryz.ntmps122
  go_wp2
  go_loopw [10] (fun i wr => ∃ (k : Nat), k ≤ bs.length ∧ i = .int .i64 k ∧ lookB bs s = lookB (bs.drop k) s ∧ Bx3 wr w.heap.size 103 (.int .i64 0) (.int .i64 0) (.string ⟨#[]⟩) ∧ Below w.heap.size w wr) (fun i _ => bs.length - (intOf i).toNat)
  case atStart => exact ⟨0, by omega, rfl, rfl, heap_alloc_new _ _, B0 _⟩
  case round =>
    obtain ⟨k, hk, rfl, hG, hbx, hb⟩ := hrel
    have HG := hidB hG
    have HBX := hidB hbx
    clear hG hbx
    obtain ⟨⟨f0, f1, f2⟩, ⟨z0, z1, z2⟩, hlt⟩ := HBX.out.facts
    by_cases hkl : k < bs.length
    · obtain ⟨x, hxk⟩ : ∃ x, bs[k]? = some x := ⟨bs[k], by simp [hkl]⟩
      obtain ⟨b, o, rfl, hq, c0, c1, c2, c3⟩ := (hv.below hb).get hxk
      have HD : Hid (bs.drop k = x :: bs.drop (k + 1)) := drop_cons hxk
      have B1 : ∀ o, Below w.heap.size w (wr.alloc o) := fun o => hb.alloc hb.size _
      cases e1 : (x.var.toList == s.toList)
      · have HN : Hid (lookB bs s = lookB (bs.drop (k + 1)) s) := show lookB bs s = _ from by
          rw [bytes_beq] at e1
          have : ¬ x.var = s := fun h => by subst h; simp at e1
          rw [HG.out, HD.out, lookB_cons, if_neg this]
        have HR1 : Hid (∀ o, Bx3 (wr.alloc o) w.heap.size 103 (.int .i64 0) (.int .i64 0) (.string ⟨#[]⟩)) := show ∀ o, Bx3 (wr.alloc o) w.heap.size 103 (.int .i64 0) (.int .i64 0) (.string ⟨#[]⟩) from fun o => (((Below.refl _ _).alloc (Nat.le_refl _) o).block _ hlt).trans HBX.out
        go_wp2
        go_roundw
        case rel => exact ⟨k + 1, by omega, by go_num, HN.out, HR1.out _, B1 _⟩
        case measure => simp [intOf]; omega
      · have HN : Hid (lookB bs s = some x.val) := show lookB bs s = _ from by
          rw [bytes_beq] at e1
          have : x.var = s := by simpa using e1
          rw [HG.out, HD.out, lookB_cons, if_pos this]
        go_wp2
        refine bodyPost_ret (v := bdV (some x.val)) (by simp [results, Tryz.results122, go_sem, f0, f1, f2, hlt, bdV]) rfl ⟨by rw [HN.out], ?_⟩
        exact (((hb.setCell (by simp) _).setCell (by simp) _).setCell (by simp) _).alloc (by simp; exact hb.size) _
    · have HN : Hid (lookB bs s = none) := show lookB bs s = _ from by rw [HG.out, List.drop_eq_nil_of_le (by omega)]; rfl
      go_wp2
      refine bodyPost_ret (v := bdV none) (by simp [results, Tryz.results122, go_sem, f0, f1, f2, bdV]) rfl ⟨by rw [HN.out], ?_⟩
      exact ((hb.setCell (by simp) _).setCell (by simp) _).setCell (by simp) _
end Go.Proofs.YtognpkdgphebeaaGreat

namespace Go.Proofs.YtognpkdgphebeaaGreat
open Go.RowKit

set_option maxHeartbeats 3200000 in
theorem l3Holds_any (v o : V) (op : Int) (w : World) :
    Calls Tryz.prog 123 #[.int .i64 op, .agg #[.int .i64 v.kind, .int .i64 v.num, .string v.sym], .agg #[.int .i64 o.kind, .int .i64 o.num, .string o.sym]] w fun e w' =>
      e = .returned (.bool (meets op v o)) ∧ Below w.heap.size w w' := by
  have B2 : ∀ o o1, Below w.heap.size w ((w.alloc o).alloc o1) := fun o o1 => ((Below.refl _ _).alloc (Nat.le_refl _) _).alloc (by simp) _
  by_cases h1 : op = 1
  · subst h1
    cases k1 : (v.kind == 0) <;> cases k2 : (o.kind == 0)
    all_goals
      go_enter Tryz.func123, Tryz.ntmps123
      go_wp2
    all_goals go_ret
    all_goals exact ⟨ret_bool (by simp [meets, eqV, *]), B2 _ _⟩
  by_cases h2 : op = 2
  · subst h2
    cases k1 : (v.kind == 0) <;> cases k2 : (o.kind == 0)
    all_goals
      go_enter Tryz.func123, Tryz.ntmps123
      go_wp2
    all_goals go_ret
    all_goals exact ⟨ret_bool (by simp [meets, eqV, *]), B2 _ _⟩
  by_cases h3 : op = 3
  · subst h3
    cases k1 : (v.kind == 0) <;> cases k2 : (o.kind == 0)
    all_goals
      go_enter Tryz.func123, Tryz.ntmps123
      go_wp2
    all_goals go_ret
    all_goals exact ⟨ret_bool (by simp [meets, numV, *]), B2 _ _⟩
  by_cases h4 : op = 4
  · subst h4
    cases k1 : (v.kind == 0) <;> cases k2 : (o.kind == 0)
    all_goals
      go_enter Tryz.func123, Tryz.ntmps123
      go_wp2
    all_goals go_ret
    all_goals exact ⟨ret_bool (by simp [meets, numV, *]), B2 _ _⟩
  by_cases h5 : op = 5
  · subst h5
    cases k1 : (v.kind == 0) <;> cases k2 : (o.kind == 0)
    all_goals
      go_enter Tryz.func123, Tryz.ntmps123
      go_wp2
    all_goals go_ret
    all_goals exact ⟨ret_bool (by simp [meets, numV, *]), B2 _ _⟩
  by_cases h6 : op = 6
  · subst h6
    cases k1 : (v.kind == 0) <;> cases k2 : (o.kind == 0)
    all_goals
      go_enter Tryz.func123, Tryz.ntmps123
      go_wp2
    all_goals go_ret
    all_goals exact ⟨ret_bool (by simp [meets, numV, *]), B2 _ _⟩
  cases k1 : (v.kind == 0) <;> cases k2 : (o.kind == 0)
  all_goals
    go_enter Tryz.func123, Tryz.ntmps123
    go_wp2
  all_goals go_ret
  all_goals exact ⟨ret_bool (by simp [meets, *]), B2 _ _⟩

end Go.Proofs.YtognpkdgphebeaaGreat

namespace Go.Proofs.YtognpkdgphebeaaGreat
open Go.RowKit
attribute [local go_sem ↓] Go.wp_at_zero Go.wp_at_succ

theorem hidM {p : Prop} (h : p) : Hid p := h
def bdCells (b : Bd) : List Value := [.string b.var, .int .i64 b.val.kind, .int .i64 b.val.num, .string b.val.sym]
theorem bdFlat_len : ∀ S : List Bd, (S.flatMap bdCells).length = S.length * 4
  | [] => rfl
  | b :: r => by
    rw [List.flatMap_cons, List.length_append, bdFlat_len r]
    simp [bdCells]
    omega
theorem bd_one (bs : List Bd) : ∀ x ∈ bs.flatMap bdCells, x.oneCell' = true := by
  intro x hx
  obtain ⟨b, _, hb⟩ := List.mem_flatMap.1 hx
  simp [bdCells] at hb
  rcases hb with rfl | rfl | rfl | rfl <;> rfl
theorem bd_at (bs : List Bd) (j : Nat) (x : Value) (h : (bs.flatMap bdCells)[j]? = some x) : ∃ b, bs[j / 4]? = some b ∧ (bdCells b)[j % 4]? = some x := by
  induction bs generalizing j with
  | nil => simp at h
  | cons b r ih =>
    have hlen : (bdCells b).length = 4 := rfl
    rw [List.flatMap_cons] at h
    by_cases hj : j < 4
    · rw [List.getElem?_append_left (by omega)] at h
      refine ⟨b, ?_, ?_⟩
      · rw [show j / 4 = 0 by omega]; rfl
      · rwa [show j % 4 = j by omega]
    · rw [List.getElem?_append_right (by omega)] at h
      obtain ⟨u, h1, h2⟩ := ih (j - (bdCells b).length) h
      rw [hlen] at h1 h2
      refine ⟨u, ?_, ?_⟩
      · rw [show j / 4 = (j - 4) / 4 + 1 by omega]; exact h1
      · rwa [show j % 4 = (j - 4) % 4 by omega]
theorem BdsAt.flat {q : Option Nat} {w : World} {ad : Addr} {bs : List Bd} (h : BdsAt q w (some ad) bs) (j : Nat) (x : Value) (hx : (bs.flatMap bdCells)[j]? = some x) : w.cell? (ad.add j) = some x := by
  obtain ⟨b, hb, hc⟩ := bd_at bs j x hx
  obtain ⟨g, o, r, he, _, _, h4, hR⟩ := h _ b hb
  cases he
  have hR' : r = bdCells b := hR
  rw [Addr.add_mid]
  have := h4 (j % 4) x (by rw [hR']; exact hc)
  rw [show o + j = o + j / 4 * 4 + j % 4 by omega]
  exact this
theorem BdsAt.nil' {q : Option Nat} {w : World} {bs : List Bd} (h : BdsAt q w none bs) : bs.length = 0 := by
  cases bs with
  | nil => rfl
  | cons v r =>
    obtain ⟨b, o, _, he, _⟩ := h 0 v rfl
    cases he
theorem BdsAt.owns {w : World} {base : Nat} {a : Option Addr} {c : Nat} {S : List Bd} (h : w.ownsRow base 106 4 (.slice a S.length c) S.length (S.flatMap bdCells)) : BdsAt none w a S := by
  intro i s hi
  have key := fun j u (hj : (bdCells s)[j]? = some u) => owns_cell h (flat_gen (cells := bdCells) (m := 4) (fun _ => rfl) S i s j u hi hj)
  obtain ⟨g, rfl, _, _, _⟩ := key 0 _ rfl
  refine ⟨g, 0, bdCells s, rfl, Qb.bare _ _ _, rfl, fun j v hj => ?_, rfl⟩
  obtain ⟨g', e, _, hc, _⟩ := key j v hj
  cases e
  rw [Nat.zero_add]
  exact hc
theorem infoBdF : (Tryz.prog.info? 106).map (fun i => (i.zero, i.size, i.bytes)) = some (some (.agg #[.string ⟨#[]⟩, .int .i64 0, .int .i64 0, .string ⟨#[]⟩]), 4, 48) := by kernel_rfl
theorem lift2aN {P : World → Prop} {w : World} {o1 o2 : Obj} (h : ∀ wt, Below w.heap.size w wt → wt.heap[w.heap.size]? = some o1 → wt.heap[w.heap.size + 1]? = some o2 → P wt) : P ((w.alloc o1).alloc o2) :=
  h _ (((Below.refl _ _).alloc (Nat.le_refl _) _).alloc (by simp) _) ((Below.heap_alloc _ _ _ (by simp)).trans (heap_alloc_new _ _)) (by have := heap_alloc_new (w.alloc o1) o2; simpa using this)
theorem cells3M {w : World} {b : Nat} {ty : TypeId} {x0 x1 x2 : Value} (h : w.heap[b]? = some (.cells #[x0, x1, x2] ty (0, 0))) : w.cell? ⟨b, 0, none⟩ = some x0 ∧ w.cell? ⟨b, 1, none⟩ = some x1 ∧ w.cell? ⟨b, 2, none⟩ = some x2 := by
  refine ⟨?_, ?_, ?_⟩ <;> simp [World.cell?, h]
theorem cells6M {w : World} {b : Nat} {ty : TypeId} {x0 x1 x2 x3 x4 x5 : Value} (h : w.heap[b]? = some (.cells #[x0, x1, x2, x3, x4, x5] ty (0, 0))) : w.cell? ⟨b, 0, none⟩ = some x0 ∧ w.cell? ⟨b, 1, none⟩ = some x1 ∧ w.cell? ⟨b, 2, none⟩ = some x2 ∧ w.cell? ⟨b, 3, none⟩ = some x3 ∧ w.cell? ⟨b, 4, none⟩ = some x4 ∧ w.cell? ⟨b, 5, none⟩ = some x5 := by
  refine ⟨?_, ?_, ?_, ?_, ?_, ?_⟩ <;> simp [World.cell?, h]
theorem emM : (⟨#[]⟩ : ByteArray).toList = [] := by kernel_rfl
theorem V.ext3 {v u : V} (h0 : v.kind = u.kind) (h1 : v.num = u.num) (h2 : v.sym.toList = u.sym.toList) : v = u := by
  have h3 : (v.sym.toList == u.sym.toList) = true := by rw [h2]; simp
  rw [bytes_beq] at h3
  exact V.same h0 h1 (by simpa using h3)
theorem cell_ltM {w : World} {b o : Nat} {x : Value} (h : w.cell? ⟨b, o, none⟩ = some x) : b < w.heap.size := by
  by_cases hp : b < w.heap.size
  · exact hp
  · have : w.heap[b]? = none := Array.getElem?_eq_none (by omega)
    simp [World.cell?, this] at h

theorem lift_b3 {P : World → Prop} {w : World} {b : Nat} {t : TypeId} {x0 x1 x2 y0 y1 y2 : Value} (h0 : w.heap[b]? = some (.cells #[x0, x1, x2] t (0, 0))) (h : ∀ wt, wt.heap[b]? = some (.cells #[y0, y1, y2] t (0, 0)) → Turned w wt b → P wt) : P (((w.setCell ⟨b, 0, none⟩ y0).setCell ⟨b, 1, none⟩ y1).setCell ⟨b, 2, none⟩ y2) := by
  have h1 := heap_setCell_same (i := 0) h0 y0
  have h2 := heap_setCell_same (i := 1) h1 y1
  have h3 := heap_setCell_same (i := 2) h2 y2
  exact h _ (by simpa using h3) (Turned.setCells [y0, y1, y2] 0 w b)
/-- What the model's l4Agree leaves. -/
def AgPost (p : Pt) (f : F) (bs : List Bd) (w : World) (e : Ending) (w' : World) : Prop :=
  (match agree p f bs with
    | none => e = .returned (.tuple #[.slice none 0 0, .bool false])
    | some o => ∃ a c, e = .returned (.tuple #[.slice a o.length c, .bool true]) ∧ w'.ownsRow w.heap.size 106 4 (.slice a o.length c) o.length (o.flatMap bdCells)) ∧ Below w.heap.size w w'
theorem AgPost.no {p : Pt} {f : F} {bs : List Bd} {w w' : World} (h : agree p f bs = none) (hb : Below w.heap.size w w') : AgPost p f bs w (.returned (.tuple #[.slice none 0 0, .bool false])) w' := by
  unfold AgPost
  rw [h]
  exact ⟨rfl, hb⟩
theorem AgPost.yes {p : Pt} {f : F} {bs o : List Bd} {w w' : World} {a : Option Addr} {c : Nat} (h : agree p f bs = some o) (ho : w'.ownsRow w.heap.size 106 4 (.slice a o.length c) o.length (o.flatMap bdCells)) (hb : Below w.heap.size w w') : AgPost p f bs w (.returned (.tuple #[.slice a o.length c, .bool true])) w' := by
  unfold AgPost
  rw [h]
  exact ⟨⟨a, c, rfl, ho⟩, hb⟩
set_option maxRecDepth 100000 in
set_option maxHeartbeats 12800000 in
theorem l4Agree_any (p : Pt) (f : F) (bs : List Bd) (a_t : Option Addr) (c_t : Nat) (fa : Option Addr) (fc : Nat) (ba : Option Addr) (bc : Nat) {q q' : Option Nat} (w : World) (h_t : TmsAt q w a_t p.terms) (h_f : ValsAt w fa f.slots) (h_b : BdsAt q' w ba bs) (ht6 : p.terms.length ≤ 6) (hbl : bs.length ≤ 1000) :
    Calls Tryz.prog 104 #[.agg #[.bool p.neg, .string p.cls, .slice a_t p.terms.length c_t], .agg #[.int .i64 f.tag, .string f.cls, .slice fa f.slots.length fc], .slice ba bs.length bc] w (AgPost p f bs w) := by
  have HT := hidM h_t
  have HF := hidM h_f
  have HB := hidM h_b
  clear h_t h_f h_b
  have B2 := hidM (fun o o1 => ((Below.refl _ _).alloc (Nat.le_refl _) _).alloc (by simp) _ : ∀ o o1, Below w.heap.size w ((w.alloc o).alloc o1))
  cases e1 : (p.cls.toList == f.cls.toList)
  · have HN := hidM (show agree p f bs = none from if_neg (fun h => by rw [h.1] at e1; simp at e1))
    have e1' : (p.cls.toList != f.cls.toList) = true := by rw [bne, e1]; rfl
    go_enter Tryz.func104, Tryz.ntmps104
    go_wp2_with fail
    refine bodyPost_ret (v := .tuple #[.slice none 0 0, .bool false]) (by simp [results, Tryz.results104, go_sem]) rfl ?_
    exact AgPost.no HN.out (B2.out _ _)
  have e1' : (p.cls.toList != f.cls.toList) = false := by rw [bne, e1]; rfl
  cases e2 : ((p.terms.length : Int) == (f.slots.length : Int))
  · have HN := hidM (show agree p f bs = none from if_neg (fun h => by rw [h.2] at e2; simp at e2))
    have e2' : ((p.terms.length : Int) != (f.slots.length : Int)) = true := by rw [bne, e2]; rfl
    go_enter Tryz.func104, Tryz.ntmps104
    go_wp2_with fail
    refine bodyPost_ret (v := .tuple #[.slice none 0 0, .bool false]) (by simp [results, Tryz.results104, go_sem]) rfl ?_
    exact AgPost.no HN.out (B2.out _ _)
  have e2' : ((p.terms.length : Int) != (f.slots.length : Int)) = false := by rw [bne, e2]; rfl
  have hlen : p.terms.length = f.slots.length := by simp at e2; omega
  have hcls : p.cls = f.cls := by rw [bytes_beq] at e1; simpa using e1
  have HAG := hidM (show agree p f bs = agGo bs p.terms f.slots from if_pos ⟨hcls, hlen⟩)
  have HLEN := hidM hlen
  clear hlen hcls
  go_enter Tryz.func104, Tryz.ntmps104
  go_upto_region 1 with fail
  refine lift2aN ?_
  intro w0 hW0 hq1 hq2
  obtain ⟨pb0, pb1, pb2⟩ := cells3M hq1
  obtain ⟨fb0, fb1, fb2⟩ := cells3M hq2
  have H0 := hidM hW0
  have hs0 := hW0.size
  have hl0 : w.heap.size + 1 < w0.heap.size := lt_of_block' hq2
  have BD0 := hidM (HB.out.below hW0)
  clear hW0 hq1 hq2
  go_upto_region 5 with (first | (at_builtin; refine wpList_append_any (by rfl) (.tmp 29) (.tmp 30) 45 (by rfl) w0.heap.size 106 _ 4 48 Tryz.underlying45 infoBdF (by rfl) (by omega) _ 0 [] (by rfl) (World.ownsRow_nil _ _ _ _) ba bs.length bc (by rfl) (bs.flatMap bdCells) (by rw [bdFlat_len]) (fun e => BdsAt.nil' (e ▸ BD0.out)) (fun ad e => BdsAt.flat (e ▸ BD0.out)) (bd_one _) (by unfold maxLen; omega) (by omega) (Nat.le_refl _) ?_; intro a1 c1 w1 ho1 hg1 hl1) | fail)
  have hB01 : Below w0.heap.size w0 w1 := ⟨hg1.out.os, hg1.out.tape, hg1.out.output, hg1.out.size, fun k hk => hg1.out.block k hk (fun e => by cases e)⟩
  have OW1 := hidM (show w1.ownsRow w0.heap.size 106 4 (.slice a1 bs.length c1) bs.length (bs.flatMap bdCells) by have := ho1.out; simpa using this)
  have pb2' := cell_below hB01 pb2
  have HB01 := hidM hB01
  clear ho1 hg1 hl1 e1 e2 e1' e2' hB01
  go_wp2_with fail
  clear pb2'
  go_loopw [35, 8] (fun iv ov wr => ∃ (k : Nat) (o : List Bd) (a : Option Addr) (c : Nat), iv = .int .i64 (k : Int) ∧ k ≤ p.terms.length ∧ ov = .slice a o.length c ∧ agree p f bs = agGo o (p.terms.drop k) (f.slots.drop k) ∧ o.length ≤ bs.length + k ∧ wr.ownsRow w0.heap.size 106 4 (.slice a o.length c) o.length (o.flatMap bdCells) ∧ Below w0.heap.size w0 wr) (fun iv _ _ => p.terms.length - (intOf iv).toNat)
  case atStart => exact ⟨0, bs, a1, c1, rfl, Nat.zero_le _, rfl, HAG.out, Nat.le_refl _, OW1.out, HB01.out⟩
  case round =>
    obtain ⟨k, o, a, c, rfl, hkl, rfl, hG, hol, hrow, hb⟩ := hrel
    have HG := hidM hG
    have ROW := hidM hrow
    have HBB := hidM hb
    have HBW := hidM (H0.out.trans (hb.mono H0.out.size))
    have hsr := hb.size
    clear hG hrow hb HB01 OW1
    by_cases hk : k < p.terms.length
    · obtain ⟨t, ht⟩ : ∃ t, p.terms[k]? = some t := ⟨p.terms[k], by simp [hk]⟩
      obtain ⟨v, hv⟩ : ∃ v, f.slots[k]? = some v := ⟨f.slots[k]'(by have := HLEN.out; omega), by simp⟩
      have HD := hidM (drop_cons ht)
      have HD' := hidM (drop_cons hv)
      obtain ⟨tb, tk, rfl, _, t0, t1, t2, t3, t4, t5⟩ := (HT.out.below HBW.out).get ht
      obtain ⟨vb, vo, rfl, v0, v1, v2⟩ := (HF.out.below HBW.out) k v hv
      have pbr := cell_below HBB.out pb2
      have fbr := cell_below HBB.out fb2
      have hl1 : w.heap.size + 1 < wr.heap.size := by omega
      have hl3 := cell_ltM v0
      have z0 : (0 : Int) ≤ (k : Int) := by omega
      have z1 : (k : Int) < (p.terms.length : Int) := by omega
      have z2 : (k : Int) < (f.slots.length : Int) := by have := HLEN.out; omega
      have NONE := hidM (fun (h : agT o t v = none) => (show agree p f bs = none by rw [HG.out, HD.out, HD'.out]; exact agGo_none h))
      have SOME := hidM (fun o' (h : agT o t v = some o') => (show agree p f bs = agGo o' (p.terms.drop (k + 1)) (f.slots.drop (k + 1)) by rw [HG.out, HD.out, HD'.out]; exact agGo_some h))
      clear ht hv HD HD' HG
      go_upto_region 9 with fail
      refine lift2aN ?_
      intro w2 hW2 hq1 hq2
      obtain ⟨k0, k1, k2, k3, k4, k5⟩ := cells6M hq1
      obtain ⟨u0, u1, u2⟩ := cells3M hq2
      have R2 := hidM (own_bel ROW.out hW2)
      have D2 := hidM (HBB.out.trans (hW2.mono HBB.out.size))
      have hs2 := hW2.size
      have hl2 : wr.heap.size + 1 < w2.heap.size := lt_of_block' hq2
      clear hW2 hq1 hq2 t0 t1 t2 t3 t4 t5 v0 v1 v2 pbr fbr ROW HBB HBW
      by_cases hk1 : t.kind = 1
      · have b1 : (t.kind == 1) = true := by simpa using hk1
        by_cases q0 : v.kind = t.val.kind
        rotate_left
        · have hne : ¬ v = t.val := fun e => q0 (by rw [e])
          have HNO := hidM (show agT o t v = none by unfold agT; rw [if_pos hk1, if_neg hne])
          clear hne hk1
          go_wp2_with fail
          refine bodyPost_ret (v := .tuple #[.slice none 0 0, .bool false]) (by simp [results, Tryz.results104, go_sem]) rfl ?_
          exact AgPost.no (NONE.out HNO.out) (H0.out.trans (D2.out.mono H0.out.size))
        by_cases q1 : v.num = t.val.num
        rotate_left
        · have hne : ¬ v = t.val := fun e => q1 (by rw [e])
          have HNO := hidM (show agT o t v = none by unfold agT; rw [if_pos hk1, if_neg hne])
          clear hne hk1
          go_wp2_with fail
          refine bodyPost_ret (v := .tuple #[.slice none 0 0, .bool false]) (by simp [results, Tryz.results104, go_sem]) rfl ?_
          exact AgPost.no (NONE.out HNO.out) (H0.out.trans (D2.out.mono H0.out.size))
        by_cases q2 : v.sym.toList = t.val.sym.toList
        rotate_left
        · have hne : ¬ v = t.val := fun e => q2 (by rw [e])
          have HNO := hidM (show agT o t v = none by unfold agT; rw [if_pos hk1, if_neg hne])
          clear hne hk1
          go_wp2_with fail
          refine bodyPost_ret (v := .tuple #[.slice none 0 0, .bool false]) (by simp [results, Tryz.results104, go_sem]) rfl ?_
          exact AgPost.no (NONE.out HNO.out) (H0.out.trans (D2.out.mono H0.out.size))
        have heq : v = t.val := V.ext3 q0 q1 q2
        have HSO := hidM (show agT o t v = some o by unfold agT; rw [if_pos hk1, if_pos heq])
        clear heq hk1
        go_wp2_with fail
        go_roundw
        case rel => exact ⟨k + 1, o, a, c, by go_num, by omega, rfl, SOME.out _ HSO.out, by omega, R2.out, D2.out⟩
        case measure => (simp [intOf]; omega)
      by_cases hk2 : t.kind = 2
      · have b1 : (t.kind == 1) = false := by simp; omega
        have b2 : (t.kind == 2) = true := by simpa using hk2
        have LB := hidM (l4Bind_any t.var a c o w2 (BdsAt.owns R2.out) (by omega))
        cases hlk : lookB o t.var with
        | none =>
          have HSO := hidM (show agT o t v = some (o ++ [⟨t.var, v⟩]) by unfold agT; rw [if_neg (by omega), if_pos hk2, hlk])
          rw [hlk] at LB
          unfold bdV at LB
          clear hlk hk2
          go_wp2_with fail
          refine LB.out.mono ?_
          rintro e w3 ⟨rfl, hb3⟩
          have R3 := hidM (own_bel R2.out hb3)
          have D3 := hidM (D2.out.trans (hb3.mono D2.out.size))
          have kk2 := cell_below hb3 k2
          have uu0 := cell_below hb3 u0
          have uu1 := cell_below hb3 u1
          have uu2 := cell_below hb3 u2
          have hs3 := hb3.size
          clear hb3 LB
          go_upto_region 15 with fail
          refine lift_alloc ?_
          intro w4 hW4 hq4
          obtain ⟨d0, d1, d2⟩ := cells3M hq4
          have R4 := hidM (own_bel R3.out hW4)
          have D4 := hidM (D3.out.trans (hW4.mono D3.out.size))
          have kd2 := cell_below hW4 kk2
          have ud0 := cell_below hW4 uu0
          have ud1 := cell_below hW4 uu1
          have ud2 := cell_below hW4 uu2
          have hs4 := hW4.size
          have HW := hidM (fun o' => (Below.refl _ _).alloc (Nat.le_refl _) o' : ∀ o', Below w4.heap.size w4 (w4.alloc o'))
          clear hW4 hq4 kk2 uu0 uu1 uu2 R3 D3
          go_wp2_with (first | (at_builtin; refine wpList_append_any (by rfl) (.tmp 70) (.tmp 75) 45 (by rfl) w0.heap.size 106 _ 4 48 Tryz.underlying45 infoBdF (by rfl) (by omega) _ o.length _ (by rfl) (own_bel R4.out (HW.out _)) (some ⟨_, 0, none⟩) 1 1 (by rfl) (bdCells ⟨t.var, v⟩) (by rfl) (fun e => by cases e) (news_new _ _ _ _ (by simp)) (by have := bd_one [⟨t.var, v⟩]; simpa using this) (by unfold maxLen; omega) (by omega) (by simp; omega) ?_; intro a9 c9 w9 ho9 hg9 hl9) | fail)
          have R9 := hidM (show w9.ownsRow w0.heap.size 106 4 (.slice a9 (o ++ [(⟨t.var, v⟩ : Bd)]).length c9) (o ++ [(⟨t.var, v⟩ : Bd)]).length ((o ++ [(⟨t.var, v⟩ : Bd)]).flatMap bdCells) by have := ho9.out; simpa using this)
          have D9 := hidM ((D4.out.trans ((HW.out _).mono D4.out.size)).grown hg9.out (by simp; omega) (fun g hg => (R4.out.lt g hg).1))
          clear ho9 hg9 hl9
          go_roundw
          case rel => exact ⟨k + 1, o ++ [⟨t.var, v⟩], a9, c9, by go_num, by omega, by simp, SOME.out _ HSO.out, by simp; omega, R9.out, D9.out⟩
          case measure => (simp [intOf]; omega)
        | some old =>
          rw [hlk] at LB
          unfold bdV at LB
          go_wp2_with fail
          refine LB.out.mono ?_
          rintro e w3 ⟨rfl, hb3⟩
          have R3 := hidM (own_bel R2.out hb3)
          have D3 := hidM (D2.out.trans (hb3.mono D2.out.size))
          have uu0 := cell_below hb3 u0
          have uu1 := cell_below hb3 u1
          have uu2 := cell_below hb3 u2
          have hs3 := hb3.size
          clear hb3 LB
          go_upto_region 15 with fail
          refine lift_alloc ?_
          intro w4 hW4 hq4
          obtain ⟨d0, d1, d2⟩ := cells3M hq4
          have R4 := hidM (own_bel R3.out hW4)
          have D4 := hidM (D3.out.trans (hW4.mono D3.out.size))
          have ud0 := cell_below hW4 uu0
          have ud1 := cell_below hW4 uu1
          have ud2 := cell_below hW4 uu2
          clear hW4 hq4 uu0 uu1 uu2 R3 D3
          by_cases q0 : old.kind = v.kind
          rotate_left
          · have hne : ¬ old = v := fun e => q0 (by rw [e])
            have HNO := hidM (show agT o t v = none by unfold agT; rw [if_neg (by omega), if_pos hk2, hlk]; simp only; rw [if_neg hne])
            clear hne hk2 hlk
            go_wp2_with fail
            refine bodyPost_ret (v := .tuple #[.slice none 0 0, .bool false]) (by simp [results, Tryz.results104, go_sem]) rfl ?_
            exact AgPost.no (NONE.out HNO.out) (H0.out.trans (D4.out.mono H0.out.size))
          by_cases q1 : old.num = v.num
          rotate_left
          · have hne : ¬ old = v := fun e => q1 (by rw [e])
            have HNO := hidM (show agT o t v = none by unfold agT; rw [if_neg (by omega), if_pos hk2, hlk]; simp only; rw [if_neg hne])
            clear hne hk2 hlk
            go_wp2_with fail
            refine bodyPost_ret (v := .tuple #[.slice none 0 0, .bool false]) (by simp [results, Tryz.results104, go_sem]) rfl ?_
            exact AgPost.no (NONE.out HNO.out) (H0.out.trans (D4.out.mono H0.out.size))
          by_cases q2 : old.sym.toList = v.sym.toList
          rotate_left
          · have hne : ¬ old = v := fun e => q2 (by rw [e])
            have HNO := hidM (show agT o t v = none by unfold agT; rw [if_neg (by omega), if_pos hk2, hlk]; simp only; rw [if_neg hne])
            clear hne hk2 hlk
            go_wp2_with fail
            refine bodyPost_ret (v := .tuple #[.slice none 0 0, .bool false]) (by simp [results, Tryz.results104, go_sem]) rfl ?_
            exact AgPost.no (NONE.out HNO.out) (H0.out.trans (D4.out.mono H0.out.size))
          have heq : old = v := V.ext3 q0 q1 q2
          have HSO := hidM (show agT o t v = some o by unfold agT; rw [if_neg (by omega), if_pos hk2, hlk]; simp only; rw [if_pos heq])
          clear heq hk2 hlk
          go_wp2_with fail
          go_roundw
          case rel => exact ⟨k + 1, o, a, c, by go_num, by omega, rfl, SOME.out _ HSO.out, by omega, R4.out, D4.out⟩
          case measure => (simp [intOf]; omega)
      by_cases hk3 : t.kind = 3
      · have b1 : (t.kind == 1) = false := by simp; omega
        have b2 : (t.kind == 2) = false := by simp; omega
        have b3 : (t.kind == 3) = true := by simpa using hk3
        go_upto_region 21 with fail
        refine lift_alloc ?_
        intro w3 hW3 hq3
        obtain ⟨x0, x1, x2⟩ := cells3M hq3
        have kk1 := cell_below hW3 k1
        have kk2 := cell_below hW3 k2
        have uu0 := cell_below hW3 u0
        have uu1 := cell_below hW3 u1
        have uu2 := cell_below hW3 u2
        have R3 := hidM (own_bel R2.out hW3)
        have D3 := hidM (D2.out.trans (hW3.mono D2.out.size))
        have hs3 := hW3.size
        have BX := hidM hq3
        clear hW3 hq3 k0 k1 k2 k3 k4 k5 u0 u1 u2 R2 D2
        by_cases hE : t.var = ⟨#[]⟩
        · have HWI := hidM (show (if t.var = ⟨#[]⟩ then t.val else (lookB o t.var).getD zVm) = t.val from if_pos hE)
          have hE1 : t.var.toList.isEmpty = true := by rw [hE, emM]; rfl
          have hE2 : (t.var.toList != []) = false := by rw [hE, emM]; rfl
          clear hE
          cases hm : meets t.op v t.val
          · have HNO := hidM (show agT o t v = none by unfold agT; rw [if_neg (by omega), if_neg (by omega), if_pos hk3, HWI.out, if_neg (by rw [hm]; simp)])
            have L3 := hidM (l3Holds_any v t.val t.op w3)
            rw [hm] at L3
            clear hm hk3
            go_wp2_with fail
            refine L3.out.mono ?_
            rintro e w8 ⟨rfl, hb8⟩
            have D8 := hidM (D3.out.trans (hb8.mono D3.out.size))
            clear hb8 L3
            go_wp2_with fail
            refine bodyPost_ret (v := .tuple #[.slice none 0 0, .bool false]) (by simp [results, Tryz.results104, go_sem]) rfl ?_
            exact AgPost.no (NONE.out HNO.out) (H0.out.trans (D8.out.mono H0.out.size))
          · have HSO := hidM (show agT o t v = some o by unfold agT; rw [if_neg (by omega), if_neg (by omega), if_pos hk3, HWI.out, if_pos hm])
            have L3 := hidM (l3Holds_any v t.val t.op w3)
            rw [hm] at L3
            clear hm hk3
            go_wp2_with fail
            refine L3.out.mono ?_
            rintro e w8 ⟨rfl, hb8⟩
            have R8 := hidM (own_bel R3.out hb8)
            have D8 := hidM (D3.out.trans (hb8.mono D3.out.size))
            clear hb8 L3
            go_wp2_with fail
            go_roundw
            case rel => exact ⟨k + 1, o, a, c, by go_num, by omega, rfl, SOME.out _ HSO.out, by omega, R8.out, D8.out⟩
            case measure => (simp [intOf]; omega)
        · have HWI := hidM (show (if t.var = ⟨#[]⟩ then t.val else (lookB o t.var).getD zVm) = (lookB o t.var).getD zVm from if_neg hE)
          have hE1 : t.var.toList.isEmpty = false := by cases h : t.var.toList.isEmpty; rfl; exact absurd (by have h2 : (t.var.toList == (⟨#[]⟩ : ByteArray).toList) = true := (by rw [List.isEmpty_iff.1 h, emM]; rfl); rw [bytes_beq] at h2; simpa using h2) hE
          clear hE
          have LB := hidM (l4Bind_any t.var a c o w3 (BdsAt.owns R3.out) (by omega))
          obtain ⟨wv, hwv⟩ : ∃ wv, wv = (lookB o t.var).getD zVm := ⟨_, rfl⟩
          replace HWI := hidM (HWI.out.trans hwv.symm)
          have LB2 := hidM (show ∃ fl : Bool, Calls Tryz.prog 122 #[.slice a o.length c, .string t.var] w3 fun e w' => e = .returned (.tuple #[.agg #[.int .i64 wv.kind, .int .i64 wv.num, .string wv.sym], .bool fl]) ∧ Below w3.heap.size w3 w' by cases hlk : lookB o t.var with | none => (rw [hlk] at hwv LB; subst hwv; exact ⟨false, LB.out⟩) | some x => (rw [hlk] at hwv LB; subst hwv; exact ⟨true, LB.out⟩))
          obtain ⟨fl, hLB⟩ := LB2.out
          have LB3 := hidM hLB
          clear LB LB2 hLB hwv
          go_wp2_with fail
          refine LB3.out.mono ?_
          rintro e w4 ⟨rfl, hb4⟩
          have BX4 := hidM ((hb4.block _ (lt_of_block' BX.out)).trans BX.out)
          obtain ⟨y0, y1, y2⟩ := cells3M BX4.out
          have zf := hidM (fun j => (show w4.frozen? ⟨w2.heap.size, j, none⟩ = false by simp [World.frozen?, BX4.out]))
          have zf0 := zf.out 0
          have zf1 := zf.out 1
          have zf2 := zf.out 2
          have kl1 := cell_below hb4 kk1
          have ul0 := cell_below hb4 uu0
          have ul1 := cell_below hb4 uu1
          have ul2 := cell_below hb4 uu2
          have R4 := hidM (own_bel R3.out hb4)
          have D4 := hidM (D3.out.trans (hb4.mono D3.out.size))
          have hs4 := hb4.size
          clear hb4 LB3 kk1 kk2 uu0 uu1 uu2 x0 x1 x2 R3 D3
          go_upto_region 23 with fail
          refine lift_b3 BX4.out ?_
          intro w5 hq5 ht5
          obtain ⟨x0, x1, x2⟩ := cells3M hq5
          have R5 := hidM (owns_of_block R4.out fun g hg => ht5.block g (fun e => by obtain ⟨d, hd⟩ := own_type R4.out hg; subst e; exact own_far BX4.out hd (by decide)))
          have D5 := hidM (D4.out.trans (ht5.below (by omega)))
          have km1 : w5.cell? ⟨wr.heap.size, 1, none⟩ = some (.int .i64 t.op) := (World.cell?_of_block (w := w4) (ht5.block (wr.heap.size) (by omega))).trans kl1
          have um0 : w5.cell? ⟨wr.heap.size + 1, 0, none⟩ = some (.int .i64 v.kind) := (World.cell?_of_block (w := w4) (ht5.block (wr.heap.size + 1) (by omega))).trans ul0
          have um1 : w5.cell? ⟨wr.heap.size + 1, 1, none⟩ = some (.int .i64 v.num) := (World.cell?_of_block (w := w4) (ht5.block (wr.heap.size + 1) (by omega))).trans ul1
          have um2 : w5.cell? ⟨wr.heap.size + 1, 2, none⟩ = some (.string v.sym) := (World.cell?_of_block (w := w4) (ht5.block (wr.heap.size + 1) (by omega))).trans ul2
          clear hq5 ht5 kl1 ul0 ul1 ul2 y0 y1 y2 zf zf0 zf1 zf2 R4 D4 BX4 BX
          cases hm : meets t.op v wv
          · have HNO := hidM (show agT o t v = none by unfold agT; rw [if_neg (by omega), if_neg (by omega), if_pos hk3, HWI.out, if_neg (by rw [hm]; simp)])
            have L3 := hidM (l3Holds_any v wv t.op w5)
            rw [hm] at L3
            clear hm hk3
            go_wp2_with fail
            refine L3.out.mono ?_
            rintro e w8 ⟨rfl, hb8⟩
            have D8 := hidM (D5.out.trans (hb8.mono D5.out.size))
            clear hb8 L3
            go_wp2_with fail
            refine bodyPost_ret (v := .tuple #[.slice none 0 0, .bool false]) (by simp [results, Tryz.results104, go_sem]) rfl ?_
            exact AgPost.no (NONE.out HNO.out) (H0.out.trans (D8.out.mono H0.out.size))
          · have HSO := hidM (show agT o t v = some o by unfold agT; rw [if_neg (by omega), if_neg (by omega), if_pos hk3, HWI.out, if_pos hm])
            have L3 := hidM (l3Holds_any v wv t.op w5)
            rw [hm] at L3
            clear hm hk3
            go_wp2_with fail
            refine L3.out.mono ?_
            rintro e w8 ⟨rfl, hb8⟩
            have R8 := hidM (own_bel R5.out hb8)
            have D8 := hidM (D5.out.trans (hb8.mono D5.out.size))
            clear hb8 L3
            go_wp2_with fail
            go_roundw
            case rel => exact ⟨k + 1, o, a, c, by go_num, by omega, rfl, SOME.out _ HSO.out, by omega, R8.out, D8.out⟩
            case measure => (simp [intOf]; omega)
      have b1 : (t.kind == 1) = false := by simpa using hk1
      have b2 : (t.kind == 2) = false := by simpa using hk2
      have b3 : (t.kind == 3) = false := by simpa using hk3
      have HSO := hidM (show agT o t v = some o by unfold agT; rw [if_neg hk1, if_neg hk2, if_neg hk3])
      go_wp2_with fail
      go_roundw
      case rel => exact ⟨k + 1, o, a, c, by go_num, by omega, rfl, SOME.out _ HSO.out, by omega, R2.out, D2.out⟩
      case measure => (simp [intOf]; omega)
    · have hke : k = p.terms.length := by omega
      subst hke
      have hy : ¬ (p.terms.length : Int) < (p.terms.length : Int) := by omega
      have HR := hidM (show agree p f bs = some o by rw [HG.out, List.drop_eq_nil_of_le (Nat.le_refl _)]; rfl)
      go_wp2_with fail
      refine bodyPost_ret (v := .tuple #[.slice a o.length c, .bool true]) (by simp [results, Tryz.results104, go_sem]) rfl ?_
      exact AgPost.yes HR.out (owns_base ROW.out H0.out.size) HBW.out
end Go.Proofs.YtognpkdgphebeaaGreat
