/-
  OUR OWN TEXT. In1, Mm8, one behind the other.
-/
import Derived.Test.YtognpkdgphebeaaGreatOb
import Derived.Test.YtognpkdgphebeaaGreatUo
namespace Go.Proofs.YtognpkdgphebeaaGreat
open Go.RowKit

structure It where
  rule : Int
  tags : List Int
/-- The instantiations of rules, the first one's number being i. -/
def confGo (fs : List F) : Nat → List Ru → List It
  | _, [] => []
  | i, r :: rs => (allM r.pats fs [⟨[], []⟩] 0).1.map (fun x => (⟨(i : Int), x.tags⟩ : It)) ++ confGo fs (i + 1) rs
def confM (rs : List Ru) (fs : List F) : List It := if ready rs fs = true then confGo fs 0 rs else []
theorem confGo_snoc (fs : List F) (r : Ru) : ∀ (rs : List Ru) (i : Nat), confGo fs i (rs ++ [r]) = confGo fs i rs ++ (allM r.pats fs [⟨[], []⟩] 0).1.map (fun x => (⟨((i + rs.length : Nat) : Int), x.tags⟩ : It))
  | [], i => by simp [confGo]
  | s :: rs, i => by
    simp only [List.cons_append, confGo]
    rw [confGo_snoc fs r rs (i + 1), List.append_assoc, List.length_cons, show i + 1 + rs.length = i + (rs.length + 1) by omega]
theorem conf_take (fs : List F) {rs : List Ru} {k : Nat} {r : Ru} (h : rs[k]? = some r) : confGo fs 0 (rs.take (k + 1)) = confGo fs 0 (rs.take k) ++ (allM r.pats fs [⟨[], []⟩] 0).1.map (fun x => (⟨(k : Int), x.tags⟩ : It)) := by
  have hk : k < rs.length := (List.getElem?_eq_some_iff.1 h).1
  rw [List.take_add_one, h]
  simp only [Option.toList]
  rw [confGo_snoc, List.length_take, Nat.min_eq_left (by omega), Nat.zero_add]
theorem nextOf_len2 (p : Pt) (fs : List F) (hf : fs.length ≤ 40) (x : Pm) : (nextOf p fs x).length ≤ 40 ^ (positives [p]) := by
  have := hits_len p x fs
  unfold nextOf positives
  by_cases hn : p.neg = true
  · rw [if_pos hn]
    simp [pos1, hn]
    split <;> simp
  · rw [if_neg hn]
    simp [pos1, hn]
    omega
theorem nextM_len2 (p : Pt) (fs : List F) (hf : fs.length ≤ 40) : ∀ X : List Pm, (nextM p fs X).length ≤ X.length * 40 ^ (positives [p])
  | [] => by simp [nextM]
  | x :: r => by
    have h1 := nextM_len2 p fs hf r
    have h2 := nextOf_len2 p fs hf x
    have h3 : nextM p fs (x :: r) = nextOf p fs x ++ nextM p fs r := by unfold nextM; rw [List.flatMap_cons]
    rw [h3, List.length_append, List.length_cons, Nat.add_mul]
    omega
theorem allM_len2 (fs : List F) (hf : fs.length ≤ 40) : ∀ (ps : List Pt) (xs : List Pm) (n : Nat), (allM ps fs xs n).1.length ≤ xs.length * 40 ^ positives ps
  | [], xs, n => by simp [allM, positives]
  | r :: ps, xs, n => by
    have h1 := allM_len2 fs hf ps (nextM r fs xs) (n + (nextM r fs xs).length)
    have h2 := nextM_len2 r fs hf xs
    have h3 : positives (r :: ps) = positives [r] + positives ps := by
      unfold positives
      rw [← List.countP_append]
      rfl
    simp only [allM]
    rw [h3, Nat.pow_add, ← Nat.mul_assoc]
    exact Nat.le_trans h1 (Nat.mul_le_mul_right _ h2)
theorem all_bound {rs : List Ru} {fs : List F} (h : ready rs fs = true) {r : Ru} (hr : r ∈ rs) : (allM r.pats fs [⟨[], []⟩] 0).1.length ≤ 64000 ∧ ∀ x ∈ (allM r.pats fs [⟨[], []⟩] 0).1, x.tags.length ≤ 6 := by
  obtain ⟨hck, _, hf⟩ := ready_small h
  obtain ⟨h6, ht6, h3⟩ := chk_small hck hr
  have h1 := allM_len2 fs hf r.pats [⟨[], []⟩] 0
  have h2 : 40 ^ positives r.pats ≤ 40 ^ 3 := Nat.pow_le_pow_right (by omega) h3
  rw [List.length_singleton, Nat.one_mul] at h1
  refine ⟨by simp at h2; omega, fun x hx => ?_⟩
  have := (allM_small fs r.pats [⟨[], []⟩] 0 0 0 (by intro y hy; simp at hy; subst hy; simp) ht6 x hx).1
  omega
theorem chk_len {rs : List Ru} (h : (chk rs).1 = 0) : rs.length ≤ 16 := by
  unfold chk at h
  split at h
  · assumption
  · simp at h
theorem confGo_bound {fs : List F} : ∀ (rs : List Ru) (i : Nat), (∀ r ∈ rs, (allM r.pats fs [⟨[], []⟩] 0).1.length ≤ 64000 ∧ ∀ x ∈ (allM r.pats fs [⟨[], []⟩] 0).1, x.tags.length ≤ 6) → (confGo fs i rs).length ≤ rs.length * 64000 ∧ ∀ y ∈ confGo fs i rs, y.tags.length ≤ 6
  | [], i, _ => by simp [confGo]
  | r :: rs, i, h => by
    obtain ⟨h1, h2⟩ := confGo_bound rs (i + 1) (fun x hx => h x (List.mem_cons_of_mem _ hx))
    obtain ⟨h3, h4⟩ := h r List.mem_cons_self
    simp only [confGo]
    refine ⟨by rw [List.length_append, List.length_map, List.length_cons]; omega, fun y hy => ?_⟩
    rcases List.mem_append.1 hy with hy | hy
    · obtain ⟨x, hx, rfl⟩ := List.mem_map.1 hy
      exact h4 x hx
    · exact h2 y hy
theorem conf_take_bound {rs : List Ru} {fs : List F} (h : ready rs fs = true) (k : Nat) : (confGo fs 0 (rs.take k)).length ≤ 1024000 ∧ ∀ y ∈ confGo fs 0 (rs.take k), y.tags.length ≤ 6 := by
  have h1 := chk_len (ready_small h).1
  obtain ⟨h2, h3⟩ := confGo_bound (fs := fs) (rs.take k) 0 (fun r hr => all_bound h (List.mem_of_mem_take hr))
  refine ⟨?_, h3⟩
  rw [List.length_take] at h2
  omega
theorem conf_bound (rs : List Ru) (fs : List F) : (confM rs fs).length ≤ 1024000 ∧ ∀ y ∈ confM rs fs, y.tags.length ≤ 6 := by
  unfold confM
  split
  · rename_i h
    have := conf_take_bound h rs.length
    rwa [List.take_length] at this
  · simp
/-- An instantiation that was made: its data, the slice of its tags. -/
abbrev ItX := It × Value
def itCells (x : ItX) : List Value := [.int .i64 x.1.rule, x.2]
structure ItP (w : World) (base : Nat) (x : ItX) : Prop where
  ts : ∃ a c, x.2 = .slice a x.1.tags.length c
  ot : w.ownsRow base 3 1 x.2 x.1.tags.length (icells x.1.tags)
/-- Instantiations that were made: an owned row. -/
structure Iw (w : World) (b1 base : Nat) (a : Option Addr) (c : Nat) (L : List ItX) : Prop where
  row : w.ownsRow b1 123 2 (.slice a L.length c) L.length (L.flatMap itCells)
  all : ∀ x ∈ L, ItP w base x
theorem Iw.nil (w : World) (b1 base : Nat) : Iw w b1 base none 0 [] := ⟨World.ownsRow_nil _ _ _ _, fun x hx => by simp at hx⟩
theorem ItP.bel {w w' : World} {base : Nat} {x : ItX} (h : ItP w base x) (hb : Below w.heap.size w w') : ItP w' base x := ⟨h.ts, own_bel h.ot hb⟩
theorem ItP.lower {w : World} {base base' : Nat} {x : ItX} (h : ItP w base x) (hb : base' ≤ base) : ItP w base' x := ⟨h.ts, owns_base h.ot hb⟩
theorem Iw.bel {w w' : World} {b1 base : Nat} {a : Option Addr} {c : Nat} {L : List ItX} (h : Iw w b1 base a c L) (hb : Below w.heap.size w w') : Iw w' b1 base a c L := ⟨own_bel h.row hb, fun x hx => (h.all x hx).bel hb⟩
theorem Iw.lower {w : World} {b1 base b1' base' : Nat} {a : Option Addr} {c : Nat} {L : List ItX} (h : Iw w b1 base a c L) (h1 : b1' ≤ b1) (h2 : base' ≤ base) : Iw w b1' base' a c L := ⟨owns_base h.row h1, fun x hx => (h.all x hx).lower h2⟩
theorem ItP.grown {w w' : World} {base : Nat} {t : TypeId} {x : ItX} {row : Option Nat} (h : ItP w base x) (hg : w.grownBy w' row) (ht : ∀ k, row = some k → ∃ c, w.heap[k]? = some (.cells c t (0, 0))) (h1 : t ≠ 3) : ItP w' base x := ⟨h.ts, own_grown h.ot hg ht h1⟩
theorem Iw.snoc {w w' : World} {b1 base : Nat} {a a' : Option Addr} {c c' : Nat} {L : List ItX} {x : ItX} (h : Iw w b1 base a c L) (hx : ItP w base x) (ho : w'.ownsRow b1 123 2 (.slice a' (L.length + 1) c') (L.length + 1) (L.flatMap itCells ++ itCells x)) (hg : w.grownBy w' (Value.slice a L.length c).ownBlock) : Iw w' b1 base a' c' (L ++ [x]) := by
  refine ⟨by simpa using ho, fun y hy => ?_⟩
  have hy' : ItP w base y := by
    rcases List.mem_append.1 hy with hy | hy
    · exact h.all y hy
    · simp at hy
      subst hy
      exact hx
  exact hy'.grown hg (fun k hk => own_type h.row hk) (by decide)
theorem Iw.get {w : World} {b1 base : Nat} {a : Option Addr} {c : Nat} {L : List ItX} (h : Iw w b1 base a c L) {i : Nat} {x : ItX} (hi : L[i]? = some x) :
    ∃ k, a = some ⟨k, 0, none⟩ ∧ b1 ≤ k ∧ k < w.heap.size ∧ w.cell? ⟨k, i * 2, none⟩ = some (.int .i64 x.1.rule) ∧ w.cell? ⟨k, i * 2 + 1, none⟩ = some x.2 ∧ w.frozen? ⟨k, i * 2, none⟩ = false := by
  have key := fun j u (hj : (itCells x)[j]? = some u) => owns_cell h.row (flat_gen (cells := itCells) (m := 2) (fun _ => rfl) L i x j u hi hj)
  obtain ⟨k, rfl, hk, h0, f0⟩ := key 0 _ rfl
  obtain ⟨k1, e1, _, h1, _⟩ := key 1 _ rfl
  cases e1
  exact ⟨k, rfl, hk, World.block_lt_of_cell? w ⟨k, _, none⟩ h0, h0, h1, f0⟩
theorem itCells_one {w : World} {base : Nat} {x : ItX} (h : ItP w base x) : ∀ u ∈ itCells x, u.oneCell' = true := by
  obtain ⟨⟨a, c, h1⟩, _⟩ := h
  intro u hu
  simp [itCells] at hu
  rcases hu with rfl | rfl
  · rfl
  · rw [h1]; rfl
theorem infoItF : (Tryz.prog.info? 123).map (fun i => (i.zero, i.size, i.bytes)) = some (some (.agg #[.int .i64 0, .slice none 0 0]), 2, 32) := by kernel_rfl
/-- Instantiations that lie in memory. -/
def ItsAt (w : World) (a : Option Addr) (L : List It) : Prop :=
  ∀ (i : Nat) (x : It), L[i]? = some x → ∃ b o a' c', a = some ⟨b, o, none⟩ ∧ w.cell? ⟨b, o + i * 2, none⟩ = some (.int .i64 x.rule) ∧ w.cell? ⟨b, o + i * 2 + 1, none⟩ = some (.slice a' x.tags.length c') ∧ IntsAt none w a' x.tags
theorem ItsAt.below {w w' : World} {a : Option Addr} {L : List It} (h : ItsAt w a L) (hb : Below w.heap.size w w') : ItsAt w' a L := by
  intro i x hx
  obtain ⟨b, o, a', c', e, h0, h1, hi⟩ := h i x hx
  exact ⟨b, o, a', c', e, cell_below hb h0, cell_below hb h1, hi.below hb⟩
theorem Iw.at {w : World} {b1 base : Nat} {a : Option Addr} {c : Nat} {M : List ItX} (h : Iw w b1 base a c M) : ItsAt w a (M.map Prod.fst) := by
  intro i x hx
  rw [List.getElem?_map] at hx
  obtain ⟨y, hy, rfl⟩ := Option.map_eq_some_iff.1 hx
  obtain ⟨k, rfl, _, _, h0, h1, _⟩ := h.get hy
  obtain ⟨⟨a', c', e⟩, ho⟩ := h.all y (List.mem_of_getElem? hy)
  rw [e] at h1 ho
  exact ⟨k, 0, a', c', rfl, by simpa using h0, by simpa using h1, IntsAt.owns ho⟩
/-- A block of theirs. -/
def InIt (v : Value) (M : List ItX) (g : Nat) : Prop := v.ownBlock = some g ∨ ∃ x ∈ M, x.2.ownBlock = some g
theorem Iw.range {w : World} {base : Nat} {a : Option Addr} {c : Nat} {M : List ItX} (h : Iw w base base a c M) {g : Nat} (hg : InIt (.slice a M.length c) M g) : base ≤ g ∧ g < w.heap.size := by
  rcases hg with hg | ⟨x, hx, hg⟩
  · exact h.row.lt g hg
  · exact (h.all x hx).ot.lt g hg
theorem Iw.kept {w w' : World} {b1 base : Nat} {a : Option Addr} {c : Nat} {M : List ItX} (h : Iw w b1 base a c M) (hb : ∀ g, InIt (.slice a M.length c) M g → w'.heap[g]? = w.heap[g]?) : Iw w' b1 base a c M :=
  ⟨owns_of_block h.row (fun g hg => hb g (.inl hg)), fun x hx => ⟨(h.all x hx).ts, owns_of_block (h.all x hx).ot (fun g hg => hb g (.inr ⟨x, hx, hg⟩))⟩⟩
/-- What the model's Conflict leaves. -/
def CmPost (L : List It) (w : World) (e : Ending) (w' : World) : Prop := (∃ a c M, e = .returned (.slice a (List.length M) c) ∧ Iw w' w.heap.size w.heap.size a c M ∧ M.map Prod.fst = L) ∧ Below w.heap.size w w'
theorem CmPost.nil {L : List It} {w w' : World} (hL : L = []) (hb : Below w.heap.size w w') : CmPost L w (.returned (.slice none 0 0)) w' := by
  subst hL
  exact ⟨⟨none, 0, [], rfl, Iw.nil _ _ _, rfl⟩, hb⟩
theorem CmPost.mk {L : List It} {w w' : World} {a : Option Addr} {c : Nat} {M : List ItX} (hL : L = M.map Prod.fst) (h : Iw w' w.heap.size w.heap.size a c M) (hb : Below w.heap.size w w') : CmPost L w (.returned (.slice a M.length c)) w' := by
  subst hL
  exact ⟨⟨a, c, M, rfl, h, rfl⟩, hb⟩
/-- What the program's Conflict leaves. -/
def CpPost (L : List It) (w : World) (e : Ending) (w' : World) : Prop := (∃ a c M, e = .returned (.slice a M.length c) ∧ Iw w' w.heap.size w.heap.size a c M ∧ M.map Prod.fst = L ∧ M.Pairwise (fun x y => Apart x.2 y.2)) ∧ Below w.heap.size w w'
end Go.Proofs.YtognpkdgphebeaaGreat

namespace Go.Proofs.YtognpkdgphebeaaGreat
open Go.RowKit
attribute [local go_sem ↓] Go.wp_at_zero Go.wp_at_succ

theorem map_take {α β : Type} (g : α → β) {l : List α} {j : Nat} {x : α} (h : l[j]? = some x) : (l.take (j + 1)).map g = (l.take j).map g ++ [g x] := by
  rw [List.take_add_one, h]
  simp
set_option maxRecDepth 100000 in
set_option maxHeartbeats 6400000 in
theorem l4Conflict_any (rs : List Ru) (fs : List F) (a : Option Addr) (c : Nat) (fa : Option Addr) (fc : Nat) {q : Option Nat} (w : World) (hv : RusAt q w a rs) (hf : FactsAt w fa fs) (hr : ready rs fs = true) :
    Calls Tryz.prog 62 #[.slice a rs.length c, .slice fa fs.length fc] w (CmPost (confGo fs 0 rs) w) := by
  have HV := hidM hv
  have HF := hidM hf
  have HB := hidM (fun k => conf_take_bound hr k)
  have HA := hidM (fun r (h : r ∈ rs) => all_bound hr h)
  have HS := hidM (fun r (h : r ∈ rs) => chk_small (ready_small hr).1 h)
  have hf40 := (ready_small hr).2.2
  have hl16 := chk_len (ready_small hr).1
  clear hv hf hr
  go_enter Tryz.func62, Tryz.ntmps62
  go_wp2_with fail
  go_loopw [14, 5] (fun iv sv wr => ∃ (k : Nat) (ia : Option Addr) (ic : Nat) (M : List ItX), iv = .int .i64 (k : Int) ∧ k ≤ rs.length ∧ sv = .slice ia M.length ic ∧ M.map Prod.fst = confGo fs 0 (rs.take k) ∧ Iw wr w.heap.size w.heap.size ia ic M ∧ Below w.heap.size w wr) (fun iv _ _ => rs.length - (intOf iv).toNat)
  case atStart => exact ⟨0, none, 0, [], rfl, Nat.zero_le _, rfl, rfl, Iw.nil _ _ _, Below.refl _ _⟩
  case round =>
    obtain ⟨k, ia, ic, M, rfl, hkl, rfl, hM, hIO, hb⟩ := hrel
    have HM := hidM hM
    have ROW := hidM hIO
    have BR := hidM hb
    have hsr := hb.size
    clear hM hIO hb
    by_cases hk : k < rs.length
    · obtain ⟨r, hr⟩ : ∃ r, rs[k]? = some r := ⟨rs[k], by simp [hk]⟩
      obtain ⟨rb, ro, a_p, c_p, a_e, c_e, a_c, c_c, rfl, _, c0, c1, c2, c3, c4, h_p, _, _, _⟩ := (HV.out.below BR.out).get hr
      have hrm := List.mem_of_getElem? hr
      obtain ⟨hp6, ht6, _⟩ := HS.out r hrm
      have HLA := hidM (fun w' (h : Below wr.heap.size wr w') => l4All_any r fs a_p c_p a_e c_e a_c c_c fa fc w' (h_p.below h) ((HF.out.below BR.out).below h) hp6 ht6 hf40)
      have HCT := hidM (conf_take fs hr)
      have HAR := hidM (HA.out r hrm)
      have z0 : (0 : Int) ≤ (k : Int) := by omega
      have z1 : (k : Int) < (rs.length : Int) := by omega
      clear hr hrm h_p ht6
      go_upto_region 5 with fail
      refine lift_alloc ?_
      intro w1 hW1 hq1
      obtain ⟨b0, b1, b2, b3, b4⟩ := cells5M hq1
      have H1 := hidM hW1
      have R1 := hidM (ROW.out.bel hW1)
      have B1 := hidM (BR.out.trans (hW1.mono BR.out.size))
      clear hW1 hq1 c0 c1 c2 c3 c4 ROW BR
      go_wp2_with fail
      refine (HLA.out w1 H1.out).mono ?_
      rintro e w2 ⟨⟨pa, pc, P, rfl, hP, hp⟩, hb2⟩
      have PP := hidM hP
      have HP := hidM hp
      have R2 := hidM (R1.out.bel hb2)
      have B2 := hidM (B1.out.trans (hb2.mono B1.out.size))
      have hPl : P.length ≤ 64000 := by have := congrArg List.length hp; rw [List.length_map] at this; rw [this]; exact HAR.out.1
      have hMl : M.length ≤ 1024000 := by have := congrArg List.length HM.out; rw [List.length_map] at this; rw [this]; exact (HB.out k).1
      have hs2 := hb2.size
      have hs1 := H1.out.size
      clear hP hp hb2 b0 b1 b2 b3 b4 R1 B1 HLA H1
      go_wp2_with fail
      go_loopw [27, 5] (fun iv sv wr => ∃ (j : Nat) (ja : Option Addr) (jc : Nat) (N : List ItX), iv = .int .i64 (j : Int) ∧ j ≤ P.length ∧ sv = .slice ja N.length jc ∧ N.map Prod.fst = M.map Prod.fst ++ (P.take j).map (fun y => (⟨(k : Int), y.1.tags⟩ : It)) ∧ Iw wr w.heap.size w.heap.size ja jc N ∧ MO wr w.heap.size w.heap.size pa pc P ∧ Below w.heap.size w wr) (fun iv _ _ => P.length - (intOf iv).toNat)
      case atStart => exact ⟨0, ia, ic, M, rfl, Nat.zero_le _, rfl, by simp, R2.out, ⟨owns_base PP.out.row (by omega), fun x hx => (PP.out.all x hx).lower (by omega)⟩, B2.out⟩
      case round =>
        obtain ⟨j, ja, jc, N, rfl, hjl, rfl, hN, hIO, hMO, hb⟩ := hrel
        have HN := hidM hN
        have RR := hidM hIO
        have PR := hidM hMO
        have BB := hidM hb
        have hNl : N.length ≤ 1088000 := by have := congrArg List.length hN; rw [List.length_map, List.length_append, List.length_map, List.length_map, List.length_take] at this; omega
        have hsr2 := hb.size
        clear hN hIO hMO hb
        by_cases hj : j < P.length
        · obtain ⟨y, hy⟩ : ∃ y, P[j]? = some y := ⟨P[j], by simp [hj]⟩
          have HMT := hidM (map_take (fun y : PmX => (⟨(k : Int), y.1.tags⟩ : It)) hy)
          obtain ⟨⟨tg, bd⟩, tv, bv⟩ := y
          obtain ⟨lb, rfl, hlb, y0, y1⟩ := PR.out.get hy
          obtain ⟨⟨ta, tc, e1⟩, ⟨ba, bc, e2⟩, hot, _⟩ := PR.out.all _ (List.mem_of_getElem? hy)
          simp only at e1 e2 hot y0 y1 HMT
          subst e1 e2
          have OT := hidM hot
          have z2 : (0 : Int) ≤ (j : Int) := by omega
          have z3 : (j : Int) < (P.length : Int) := by omega
          clear hy hot
          go_upto_region 9 with fail
          refine lift_alloc ?_
          intro w4 hW4 hq4
          obtain ⟨f0, f1⟩ := cells2M hq4
          have R4 := hidM (RR.out.bel hW4)
          have P4 := hidM (PR.out.bel hW4)
          have B4 := hidM (BB.out.trans (hW4.mono BB.out.size))
          have OT4 := hidM (own_bel OT.out hW4)
          have NX := hidM (show ItP w4 w.heap.size (⟨(k : Int), tg⟩, .slice ta tg.length tc) from ⟨⟨ta, tc, rfl⟩, OT4.out⟩)
          have HW4 := hidM (fun o' => (Below.refl _ _).alloc (Nat.le_refl _) o' : ∀ o', Below w4.heap.size w4 (w4.alloc o'))
          have hs4 := hW4.size
          clear hW4 hq4 y0 y1 OT OT4 RR PR BB
          go_wp2_with (first | (at_builtin; refine wpList_append_any (by rfl) (.tmp 31) (.tmp 36) 56 (by rfl) w.heap.size 123 _ 2 32 Tryz.underlying56 infoItF (by rfl) (by omega) _ N.length _ (by rfl) (own_bel R4.out.row (HW4.out _)) (some ⟨_, 0, none⟩) 1 1 (by rfl) (itCells (⟨(k : Int), tg⟩, .slice ta tg.length tc)) (by rfl) (fun e => by cases e) (news_new _ _ _ _ (by simp)) (itCells_one NX.out) (by unfold maxLen; omega) (by omega) (by simp; omega) ?_; intro a3 c3 w8 ho3 hg3 hl3) | fail)
          have R8 := hidM (Iw.snoc (R4.out.bel (HW4.out _)) (NX.out.bel (HW4.out _)) ho3.out hg3.out)
          have TY := hidM (fun o g hg => own_type (own_bel R4.out.row (HW4.out o)) (k := g) hg)
          have P8 := hidM (show MO w8 w.heap.size w.heap.size (some ⟨lb, 0, none⟩) pc P from ⟨own_grown (own_bel P4.out.row (HW4.out _)) hg3.out (TY.out _) (by decide), fun x hx => ((P4.out.all x hx).bel (HW4.out _)).grown hg3.out (TY.out _) (by decide) (by decide)⟩)
          have B8 := hidM ((B4.out.trans ((HW4.out _).mono B4.out.size)).grown hg3.out (by simp; omega) (fun g hg => (R4.out.row.lt g hg).1))
          clear ho3 hg3 hl3 TY
          go_roundw
          case rel => exact ⟨j + 1, a3, c3, _, by go_num, by omega, by simp, by rw [List.map_append, HN.out, HMT.out, ← List.append_assoc]; rfl, R8.out, P8.out, B8.out⟩
          case measure => (simp [intOf]; omega)
        · have hje : j = P.length := by omega
          have hy : ¬ (j : Int) < (P.length : Int) := by omega
          have HN2 := hidM (show N.map Prod.fst = confGo fs 0 (rs.take (k + 1)) by
            rw [HN.out, HM.out, HCT.out, hje, List.take_length, ← HP.out, List.map_map]
            rfl)
          clear hje
          go_wp2_with fail
          go_roundw
          case rel => exact ⟨k + 1, ja, jc, N, by go_num, by omega, rfl, HN2.out, RR.out, BB.out⟩
          case measure => (simp [intOf]; omega)
    · have hke : k = rs.length := by omega
      have hy : ¬ (k : Int) < (rs.length : Int) := by omega
      have HM2 := hidM (show confGo fs 0 rs = M.map Prod.fst by rw [HM.out, hke, List.take_length])
      clear hke
      go_wp2_with fail
      go_ret
      exact CmPost.mk HM2.out ROW.out BR.out
set_option maxHeartbeats 1600000 in
theorem sConflict_any (rs : List Ru) (fs : List F) (a : Option Addr) (c : Nat) (fa : Option Addr) (fc : Nat) {q : Option Nat} (w : World) (hv : RusAt q w a rs) (hc : rs.length ≤ c) (hle : ListLe Ru.le 1048576 rs) (ho : ∀ x ∈ rs, OpsOk x.exprs) (hf : FactsAt w fa fs) (hl : fs.length ≤ 1048576) (hs : ∀ f ∈ fs, Sized f) :
    Calls Tryz.prog 28 #[.slice a rs.length c, .slice fa fs.length fc] w (CmPost (confM rs fs) w) := by
  have HR := hidM (l4Ready_any rs fs a c fa fc w hv hc hle ho hf hl hs)
  by_cases hrd : ready rs fs = true
  · have HC := hidM (fun w' (h : Below w.heap.size w w') => l4Conflict_any rs fs a c fa fc w' (hv.below h) (hf.below h) hrd)
    have HE := hidM (show confM rs fs = confGo fs 0 rs from if_pos hrd)
    rw [hrd] at HR
    clear hv hf hle ho hs hrd
    go_enter Tryz.func28, Tryz.ntmps28
    go_wp2_with fail
    refine HR.out.mono ?_
    rintro e w1 ⟨rfl, hb1⟩
    have B1 := hidM hb1
    clear hb1 HR
    go_wp2_with fail
    refine (HC.out w1 B1.out).mono ?_
    rintro e w2 ⟨⟨a2, c2, M2, rfl, hi, hm⟩, hb2⟩
    have B2 := hidM (B1.out.trans (hb2.mono B1.out.size))
    have HI := hidM (hi.lower B1.out.size B1.out.size)
    have HM := hidM (show confM rs fs = M2.map Prod.fst by rw [HE.out, hm])
    clear hi hm hb2 HC
    go_wp2_with fail
    go_ret
    exact CmPost.mk HM.out HI.out B2.out
  · have HE := hidM (show confM rs fs = [] from if_neg hrd)
    rw [show ready rs fs = false by simpa using hrd] at HR
    clear hv hf hle ho hs hrd
    go_enter Tryz.func28, Tryz.ntmps28
    go_wp2_with fail
    refine HR.out.mono ?_
    rintro e w1 ⟨rfl, hb1⟩
    have B1 := hidM hb1
    clear hb1 HR
    go_wp2_with fail
    go_ret
    exact CmPost.nil HE.out B1.out
end Go.Proofs.YtognpkdgphebeaaGreat
