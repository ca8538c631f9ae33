/-
  OUR OWN TEXT. Mm0, Bl, Ap1b, one behind the other.
-/
import Derived.Test.YtmmdlgjmplddiaaGreatGbl
import Derived.Test.YtmmdlgjmplddiaaGreatGaa
import Derived.Test.YtmmdlgjmplddiaaGreatGah
namespace Go.Proofs.YtmmdlgjmplddiaaGreat

def zVm : V := (0, 0, ⟨#[]⟩)
/-- One term and one value: the binds behind it, or none. -/
def agT (out : List Bd) (t : Tm) (v : V) : Option (List Bd) :=
  if t.kind = 1 then (if v = t.val then some out else none)
  else if t.kind = 2 then (match lookB out t.var with | some old => if old = v then some out else none | none => some (out ++ [⟨t.var, v⟩]))
  else if t.kind = 3 then (if meets t.op v (if t.var = ⟨#[]⟩ then t.val else (lookB out t.var).getD zVm) = true then some out else none)
  else some out
def agGo : List Bd → List Tm → List V → Option (List Bd)
  | out, [], _ => some out
  | out, _ :: _, [] => some out
  | out, t :: ts, v :: vs => (match agT out t v with | some o => agGo o ts vs | none => none)
def agree (p : Pt) (f : F) (bs : List Bd) : Option (List Bd) := if p.cls = f.cls ∧ p.terms.length = f.slots.length then agGo bs p.terms f.slots else none
theorem agGo_cons (out : List Bd) (t : Tm) (ts : List Tm) (v : V) (vs : List V) : agGo out (t :: ts) (v :: vs) = (match agT out t v with | some o => agGo o ts vs | none => none) := rfl
theorem agGo_some {out o : List Bd} {t : Tm} {ts : List Tm} {v : V} {vs : List V} (h : agT out t v = some o) : agGo out (t :: ts) (v :: vs) = agGo o ts vs := by rw [agGo_cons, h]
theorem agGo_none {out : List Bd} {t : Tm} {ts : List Tm} {v : V} {vs : List V} (h : agT out t v = none) : agGo out (t :: ts) (v :: vs) = none := by rw [agGo_cons, h]
theorem agT_len {out o : List Bd} {t : Tm} {v : V} (h : agT out t v = some o) : o.length ≤ out.length + 1 := by
  unfold agT at h
  split at h
  · split at h
    · injection h with h; subst h; omega
    · cases h
  · split at h
    · split at h
      · split at h
        · injection h with h; subst h; omega
        · cases h
      · injection h with h; subst h; simp
    · split at h
      · by_cases hm : meets t.op v (if t.var = ⟨#[]⟩ then t.val else (lookB out t.var).getD zVm) = true
        · rw [if_pos hm] at h; injection h with h; subst h; omega
        · rw [if_neg hm] at h; cases h
      · injection h with h; subst h; omega
/-- A match of the first patterns: its tags, its binds. -/
structure Pm where
  tags : List Int
  binds : List Bd
/-- The facts that go on from a match. -/
def hits (p : Pt) (x : Pm) : List F → List Pm
  | [] => []
  | f :: r => (match agree p f x.binds with | some bs => [⟨x.tags ++ [f.tag], bs⟩] | none => []) ++ hits p x r
def nextOf (p : Pt) (fs : List F) (x : Pm) : List Pm := if p.neg = true then (if (hits p x fs).length = 0 then [x] else []) else hits p x fs
def nextM (p : Pt) (fs : List F) (xs : List Pm) : List Pm := xs.flatMap (nextOf p fs)
def allM : List Pt → List F → List Pm → Nat → List Pm × Nat
  | [], _, xs, n => (xs, n)
  | p :: ps, fs, xs, n => allM ps fs (nextM p fs xs) (n + (nextM p fs xs).length)
theorem hits_snoc (p : Pt) (x : Pm) (f : F) : ∀ l : List F, hits p x (l ++ [f]) = hits p x l ++ (match agree p f x.binds with | some bs => [⟨x.tags ++ [f.tag], bs⟩] | none => [])
  | [] => by simp [hits]
  | g :: r => by
    simp only [List.cons_append, hits]
    rw [hits_snoc p x f r, List.append_assoc]
theorem hits_len (p : Pt) (x : Pm) : ∀ l : List F, (hits p x l).length ≤ l.length
  | [] => Nat.le_refl _
  | f :: r => by
    have := hits_len p x r
    simp only [hits, List.length_append, List.length_cons]
    split <;> simp <;> omega
theorem nextOf_len (p : Pt) (fs : List F) (x : Pm) : (nextOf p fs x).length ≤ fs.length + 1 := by
  have := hits_len p x fs
  unfold nextOf
  split
  · split <;> simp
  · omega
end Go.Proofs.YtmmdlgjmplddiaaGreat

namespace Go.Proofs.YtmmdlgjmplddiaaGreat
open Go.RowKit
attribute [local go_sem ↓] Go.wp_at_zero Go.wp_at_succ

theorem hidB {p : Prop} (h : p) : Hid p := h
/-- What the model's look at the binds tells: the value, and whether there is one. -/
def bdV (o : Option V) : Value := match o with
  | some v => .tuple #[.agg #[.int .i64 v.kind, .int .i64 v.num, .string v.sym], .bool true]
  | none => .tuple #[.agg #[.int .i64 0, .int .i64 0, .string ⟨#[]⟩], .bool false]
/-- A box of three cells, none frozen. -/
def Bx3 (w : World) (b : Nat) (t : TypeId) (x0 x1 x2 : Value) : Prop := w.heap[b]? = some (.cells #[x0, x1, x2] t (0, 0))
theorem Bx3.facts {w : World} {b : Nat} {t : TypeId} {x0 x1 x2 : Value} (h : Bx3 w b t x0 x1 x2) : (w.cell? ⟨b, 0, none⟩ = some x0 ∧ w.cell? ⟨b, 1, none⟩ = some x1 ∧ w.cell? ⟨b, 2, none⟩ = some x2) ∧
    (w.frozen? ⟨b, 0, none⟩ = false ∧ w.frozen? ⟨b, 1, none⟩ = false ∧ w.frozen? ⟨b, 2, none⟩ = false) ∧ b < w.heap.size := by
  unfold Bx3 at h
  refine ⟨⟨?_, ?_, ?_⟩, ⟨?_, ?_, ?_⟩, lt_of_block' h⟩ <;> simp [World.cell?, World.frozen?, h]
set_option maxHeartbeats 800000 in
theorem l4Bind_any (s : ByteArray) (a : Option Addr) (c : Nat) (bs : List Bd) {q : Option Nat} (w : World) (hv : BdsAt q w a bs) (hl : bs.length ≤ 1048576) :
    Calls Tryz.prog 129 #[.slice a bs.length c, .string s] w fun e w' => e = .returned (bdV (lookB bs s)) ∧ Below w.heap.size w w' := by
  have B0 : ∀ o, Below w.heap.size w (w.alloc o) := fun o => (Below.refl _ _).alloc (Nat.le_refl _) _
  go_enter Tryz.func129, Tryz.ntmps129
  go_wp2
  go_loopw [10] (fun i wr => ∃ (k : Nat), k ≤ bs.length ∧ i = .int .i64 k ∧ lookB bs s = lookB (bs.drop k) s ∧ Bx3 wr w.heap.size 109 (.int .i64 0) (.int .i64 0) (.string ⟨#[]⟩) ∧ Below w.heap.size w wr) (fun i _ => bs.length - (intOf i).toNat)
  case atStart => exact ⟨0, by omega, rfl, rfl, heap_alloc_new _ _, B0 _⟩
  case round =>
    obtain ⟨k, hk, rfl, hG, hbx, hb⟩ := hrel
    have HG := hidB hG
    have HBX := hidB hbx
    clear hG hbx
    obtain ⟨⟨f0, f1, f2⟩, ⟨z0, z1, z2⟩, hlt⟩ := HBX.out.facts
    by_cases hkl : k < bs.length
    · obtain ⟨x, hxk⟩ : ∃ x, bs[k]? = some x := ⟨bs[k], by simp [hkl]⟩
      obtain ⟨b, o, rfl, hq, c0, c1, c2, c3⟩ := (hv.below hb).get hxk
      have HD : Hid (bs.drop k = x :: bs.drop (k + 1)) := drop_cons hxk
      have B1 : ∀ o, Below w.heap.size w (wr.alloc o) := fun o => hb.alloc hb.size _
      cases e1 : (x.var.toList == s.toList)
      · have HN : Hid (lookB bs s = lookB (bs.drop (k + 1)) s) := show lookB bs s = _ from by
          rw [bytes_beq] at e1
          have : ¬ x.var = s := fun h => by subst h; simp at e1
          rw [HG.out, HD.out, lookB_cons, if_neg this]
        have HR1 : Hid (∀ o, Bx3 (wr.alloc o) w.heap.size 109 (.int .i64 0) (.int .i64 0) (.string ⟨#[]⟩)) := show ∀ o, Bx3 (wr.alloc o) w.heap.size 109 (.int .i64 0) (.int .i64 0) (.string ⟨#[]⟩) from fun o => (((Below.refl _ _).alloc (Nat.le_refl _) o).block _ hlt).trans HBX.out
        go_wp2
        go_roundw
        case rel => exact ⟨k + 1, by omega, by go_num, HN.out, HR1.out _, B1 _⟩
        case measure => simp [intOf]; omega
      · have HN : Hid (lookB bs s = some x.val) := show lookB bs s = _ from by
          rw [bytes_beq] at e1
          have : x.var = s := by simpa using e1
          rw [HG.out, HD.out, lookB_cons, if_pos this]
        go_wp2
        refine bodyPost_ret (v := bdV (some x.val)) (by simp [results, Tryz.results129, go_sem, f0, f1, f2, hlt, bdV]) rfl ⟨by rw [HN.out], ?_⟩
        exact (((hb.setCell (by simp) _).setCell (by simp) _).setCell (by simp) _).alloc (by simp; exact hb.size) _
    · have HN : Hid (lookB bs s = none) := show lookB bs s = _ from by rw [HG.out, List.drop_eq_nil_of_le (by omega)]; rfl
      go_wp2
      refine bodyPost_ret (v := bdV none) (by simp [results, Tryz.results129, go_sem, f0, f1, f2, bdV]) rfl ⟨by rw [HN.out], ?_⟩
      exact ((hb.setCell (by simp) _).setCell (by simp) _).setCell (by simp) _
end Go.Proofs.YtmmdlgjmplddiaaGreat

namespace Go.Proofs.YtmmdlgjmplddiaaGreat
open Go.RowKit

set_option maxHeartbeats 3200000 in
theorem l3Holds_any (v o : V) (op : Int) (w : World) :
    Calls Tryz.prog 35 #[.int .i64 op, .agg #[.int .i64 v.kind, .int .i64 v.num, .string v.sym], .agg #[.int .i64 o.kind, .int .i64 o.num, .string o.sym]] w fun e w' =>
      e = .returned (.bool (meets op v o)) ∧ Below w.heap.size w w' := by
  have B2 : ∀ o o1, Below w.heap.size w ((w.alloc o).alloc o1) := fun o o1 => ((Below.refl _ _).alloc (Nat.le_refl _) _).alloc (by simp) _
  by_cases h1 : op = 1
  · subst h1
    cases k1 : (v.kind == 0) <;> cases k2 : (o.kind == 0)
    all_goals
      go_enter Tryz.func35, Tryz.ntmps35
      go_wp2
    all_goals go_ret
    all_goals exact ⟨ret_bool (by simp [meets, eqV, *]), B2 _ _⟩
  by_cases h2 : op = 2
  · subst h2
    cases k1 : (v.kind == 0) <;> cases k2 : (o.kind == 0)
    all_goals
      go_enter Tryz.func35, Tryz.ntmps35
      go_wp2
    all_goals go_ret
    all_goals exact ⟨ret_bool (by simp [meets, eqV, *]), B2 _ _⟩
  by_cases h3 : op = 3
  · subst h3
    cases k1 : (v.kind == 0) <;> cases k2 : (o.kind == 0)
    all_goals
      go_enter Tryz.func35, Tryz.ntmps35
      go_wp2
    all_goals go_ret
    all_goals exact ⟨ret_bool (by simp [meets, numV, *]), B2 _ _⟩
  by_cases h4 : op = 4
  · subst h4
    cases k1 : (v.kind == 0) <;> cases k2 : (o.kind == 0)
    all_goals
      go_enter Tryz.func35, Tryz.ntmps35
      go_wp2
    all_goals go_ret
    all_goals exact ⟨ret_bool (by simp [meets, numV, *]), B2 _ _⟩
  by_cases h5 : op = 5
  · subst h5
    cases k1 : (v.kind == 0) <;> cases k2 : (o.kind == 0)
    all_goals
      go_enter Tryz.func35, Tryz.ntmps35
      go_wp2
    all_goals go_ret
    all_goals exact ⟨ret_bool (by simp [meets, numV, *]), B2 _ _⟩
  by_cases h6 : op = 6
  · subst h6
    cases k1 : (v.kind == 0) <;> cases k2 : (o.kind == 0)
    all_goals
      go_enter Tryz.func35, Tryz.ntmps35
      go_wp2
    all_goals go_ret
    all_goals exact ⟨ret_bool (by simp [meets, numV, *]), B2 _ _⟩
  cases k1 : (v.kind == 0) <;> cases k2 : (o.kind == 0)
  all_goals
    go_enter Tryz.func35, Tryz.ntmps35
    go_wp2
  all_goals go_ret
  all_goals exact ⟨ret_bool (by simp [meets, *]), B2 _ _⟩

end Go.Proofs.YtmmdlgjmplddiaaGreat
