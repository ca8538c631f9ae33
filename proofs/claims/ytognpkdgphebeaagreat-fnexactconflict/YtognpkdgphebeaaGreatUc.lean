/-
  OUR OWN TEXT. Pg4, Pg5, Pg6, one behind the other.
-/
import Derived.Test.YtognpkdgphebeaaGreatUb
import Derived.Test.YtognpkdgphebeaaGreatJc
import Derived.Test.YtognpkdgphebeaaGreatOd
import Derived.Test.YtognpkdgphebeaaGreatUd
import Derived.Deep.DrawnRows
namespace Go.Proofs.YtognpkdgphebeaaGreat
open Go.RowKit
attribute [local go_sem ↓] Go.wp_at_zero Go.wp_at_succ

/-- A variable: its name, the fact and the slot that bind it. -/
structure Vr where
  name : ByteArray
  fact : Nat
  slot : Nat
def vrCells (v : Vr) : List Value := [.string v.name, .int .i64 (v.fact : Int), .int .i64 (v.slot : Int)]
def VrsAt (w : World) (a : Option Addr) (vs : List Vr) : Prop :=
  ∀ (i : Nat) (v : Vr), vs[i]? = some v → ∃ b o, a = some ⟨b, o, none⟩ ∧ w.cell? ⟨b, o + i * 3, none⟩ = some (.string v.name) ∧ w.cell? ⟨b, o + i * 3 + 1, none⟩ = some (.int .i64 (v.fact : Int)) ∧ w.cell? ⟨b, o + i * 3 + 2, none⟩ = some (.int .i64 (v.slot : Int))
theorem VrsAt.below {w w' : World} {a : Option Addr} {vs : List Vr} (h : VrsAt w a vs) (hb : Below w.heap.size w w') : VrsAt w' a vs := by
  intro i v hi
  obtain ⟨b, o, e, h0, h1, h2⟩ := h i v hi
  exact ⟨b, o, e, cell_below hb h0, cell_below hb h1, cell_below hb h2⟩
def lookV : List Vr → ByteArray → Option Vr
  | [], _ => none
  | v :: r, s => if v.name = s then some v else lookV r s
theorem lookV_cons (v : Vr) (r : List Vr) (s : ByteArray) : lookV (v :: r) s = if v.name = s then some v else lookV r s := rfl
def whV : Option Vr → Value
  | some v => .tuple #[.agg #[.int .i64 (v.fact : Int), .int .i64 (v.slot : Int)], .bool true]
  | none => .tuple #[.agg #[.int .i64 0, .int .i64 0], .bool false]
set_option maxHeartbeats 6400000 in
theorem where_any (pb : Nat) (s : ByteArray) (a : Option Addr) (c : Nat) (vs : List Vr) (w : World) (hp : w.cell? ⟨pb, 1, none⟩ = some (.slice a vs.length c)) (hv : VrsAt w a vs) (hl : vs.length ≤ 1048576) :
    Calls Tryz.prog 134 #[.pointer (some ⟨pb, 0, none⟩), .string s] w fun e w' => e = .returned (whV (lookV vs s)) ∧ Below w.heap.size w w' := by
  have HV := hidP hv
  have hlp := cell_ltP hp
  clear hv
  go_enter Tryz.func134, Tryz.ntmps134
  go_upto_region 1 with fail
  refine lift_alloc ?_
  intro w0 hW0 hq0
  have BX := hidP hq0
  have H0 := hidP hW0
  have hp0 := cell_below hW0 hp
  have hl0 : w.heap.size < w0.heap.size := lt_of_block' hq0
  clear hW0 hq0 hp
  go_wp2_with fail
  clear hp0
  go_loopw [13] (fun iv wr => ∃ (k : Nat), iv = .int .i64 (k : Int) ∧ k ≤ vs.length ∧ lookV vs s = lookV (vs.drop k) s ∧ wr.heap[w.heap.size]? = some (.cells #[.int .i64 0, .int .i64 0] 99 (0, 0)) ∧ Below w.heap.size w wr) (fun iv _ => vs.length - (intOf iv).toNat)
  case atStart => exact ⟨0, rfl, Nat.zero_le _, rfl, BX.out, H0.out⟩
  case round =>
    obtain ⟨k, rfl, hkl, hG, hbx, hb⟩ := hrel
    have HG := hidP hG
    have BR := hidP hbx
    have HBW := hidP hb
    have hlr : w.heap.size < wr.heap.size := lt_of_block' hbx
    clear hG hbx hb BX
    by_cases hk : k < vs.length
    · obtain ⟨v, hv⟩ : ∃ v, vs[k]? = some v := ⟨vs[k], by simp [hk]⟩
      obtain ⟨b, o, rfl, j0, j1, j2⟩ := (HV.out.below HBW.out) k v hv
      have HD := hidP (show lookV vs s = if v.name = s then some v else lookV (vs.drop (k + 1)) s by rw [HG.out, drop_cons hv, lookV_cons])
      have z0 : (0 : Int) ≤ (k : Int) := by omega
      have z1 : (k : Int) < (vs.length : Int) := by omega
      clear hv HG
      go_upto_region 4 with fail
      refine lift_alloc ?_
      intro w2 hW2 hq2
      obtain ⟨d0, d1, d2⟩ := cells3P hq2
      have B2 := hidP ((hW2.block _ hlr).trans BR.out)
      have W2 := hidP (HBW.out.trans (hW2.mono HBW.out.size))
      have hl2 : wr.heap.size < w2.heap.size := lt_of_block' hq2
      clear hW2 hq2 j0 j1 j2 BR HBW
      cases e1 : (v.name.toList == s.toList)
      · have HN := hidP (show lookV vs s = lookV (vs.drop (k + 1)) s by rw [bytes_beq] at e1; rw [HD.out, if_neg (fun h => by subst h; simp at e1)])
        clear HD
        go_wp2_with fail
        go_roundw
        case rel => exact ⟨k + 1, by go_num, by omega, HN.out, B2.out, W2.out⟩
        case measure => (simp [intOf]; omega)
      · have HN := hidP (show lookV vs s = some v by rw [bytes_beq] at e1; rw [HD.out, if_pos (by simpa using e1)])
        have y0 : w2.cell? ⟨w.heap.size, 0, none⟩ = some (.int .i64 0) := by simp [World.cell?, B2.out]
        have y1 : w2.cell? ⟨w.heap.size, 1, none⟩ = some (.int .i64 0) := by simp [World.cell?, B2.out]
        have x0 : w2.frozen? ⟨w.heap.size, 0, none⟩ = false := by simp [World.frozen?, B2.out]
        have x1 : w2.frozen? ⟨w.heap.size, 1, none⟩ = false := by simp [World.frozen?, B2.out]
        clear HD
        go_wp2_with fail
        refine bodyPost_ret (v := whV (some v)) (by simp [results, Tryz.results134, go_sem, y0, y1, whV]) rfl ⟨by rw [HN.out], ?_⟩
        exact (W2.out.setCell (by simp) _).setCell (by simp) _
    · have hke : k = vs.length := by omega
      subst hke
      have HN := hidP (show lookV vs s = none by rw [HG.out, List.drop_eq_nil_of_le (Nat.le_refl _)]; rfl)
      have hy : ¬ (vs.length : Int) < (vs.length : Int) := by omega
      have y0 : wr.cell? ⟨w.heap.size, 0, none⟩ = some (.int .i64 0) := by simp [World.cell?, BR.out]
      have y1 : wr.cell? ⟨w.heap.size, 1, none⟩ = some (.int .i64 0) := by simp [World.cell?, BR.out]
      have x0 : wr.frozen? ⟨w.heap.size, 0, none⟩ = false := by simp [World.frozen?, BR.out]
      have x1 : wr.frozen? ⟨w.heap.size, 1, none⟩ = false := by simp [World.frozen?, BR.out]
      go_wp2_with fail
      refine bodyPost_ret (v := whV none) (by simp [results, Tryz.results134, go_sem, y0, y1, whV]) rfl ⟨by rw [HN.out], ?_⟩
      exact (HBW.out.setCell (by simp) _).setCell (by simp) _
end Go.Proofs.YtognpkdgphebeaaGreat

namespace Go.Proofs.YtognpkdgphebeaaGreat
open Go.RowKit
attribute [local go_sem ↓] Go.wp_at_zero Go.wp_at_succ

def jtOf (vs : List Vr) (ts : List Tm) (i : Nat) (t : Tm) : Option Jt :=
  match lookV vs t.var with
  | none => none
  | some v => (match earlier ts i t.var with | none => some ⟨i, tmOp t, v.fact, v.slot⟩ | some _ => none)
def jtsUpTo (vs : List Vr) (ts : List Tm) : Nat → List Jt
  | 0 => []
  | i + 1 => jtsUpTo vs ts i ++ (match ts[i]? with | none => [] | some t => (jtOf vs ts i t).toList)
theorem jtsUpTo_succ {vs : List Vr} {ts : List Tm} {i : Nat} {t : Tm} (h : ts[i]? = some t) : jtsUpTo vs ts (i + 1) = jtsUpTo vs ts i ++ (jtOf vs ts i t).toList := by simp [jtsUpTo, h]
theorem jtsUpTo_len (vs : List Vr) (ts : List Tm) : ∀ i, (jtsUpTo vs ts i).length ≤ i
  | 0 => Nat.le_refl _
  | i + 1 => by
    have h1 := jtsUpTo_len vs ts i
    simp only [jtsUpTo, List.length_append]
    cases ts[i]? with
    | none => simp; omega
    | some t =>
      cases h : jtOf vs ts i t <;> simp [h] <;> omega
theorem infoJt : (Tryz.prog.info? 210).map (fun i => (i.zero, i.size, i.bytes)) = some (some (.agg #[.int .i64 0, .int .i64 0, .int .i64 0, .int .i64 0]), 4, 32) := by kernel_rfl
theorem jt_one (t : Jt) : ∀ u ∈ jtCells t, u.oneCell' = true := by
  intro u hu
  simp [jtCells] at hu
  rcases hu with rfl | rfl | rfl | rfl <;> rfl
theorem cell_grownP {w w' : World} {ob : Option Nat} {b o : Nat} (h : w.grownBy w' ob) (hne : ob ≠ some b) (hl : b < w.heap.size) : w'.cell? ⟨b, o, none⟩ = w.cell? ⟨b, o, none⟩ := by
  unfold World.cell?
  rw [h.block b hl (fun e => hne e.symm)]
theorem cells6P {w : World} {b : Nat} {ty : TypeId} {x0 x1 x2 x3 x4 x5 : Value} (h : w.heap[b]? = some (.cells #[x0, x1, x2, x3, x4, x5] ty (0, 0))) : w.cell? ⟨b, 0, none⟩ = some x0 ∧ w.cell? ⟨b, 1, none⟩ = some x1 ∧ w.cell? ⟨b, 2, none⟩ = some x2 ∧ w.cell? ⟨b, 3, none⟩ = some x3 ∧ w.cell? ⟨b, 4, none⟩ = some x4 ∧ w.cell? ⟨b, 5, none⟩ = some x5 := by
  refine ⟨?_, ?_, ?_, ?_, ?_, ?_⟩ <;> simp [World.cell?, h]
theorem cells2P {w : World} {b : Nat} {ty : TypeId} {x0 x1 : Value} (h : w.heap[b]? = some (.cells #[x0, x1] ty (0, 0))) : w.cell? ⟨b, 0, none⟩ = some x0 ∧ w.cell? ⟨b, 1, none⟩ = some x1 := by
  refine ⟨?_, ?_⟩ <;> simp [World.cell?, h]
set_option maxRecDepth 100000 in
set_option maxHeartbeats 12800000 in
theorem joinTests_any (pb : Nat) (p : Pt) (a_t : Option Addr) (c_t : Nat) (va : Option Addr) (vc : Nat) (vs : List Vr) {q : Option Nat} (w : World) (hp : w.cell? ⟨pb, 1, none⟩ = some (.slice va vs.length vc)) (hv : VrsAt w va vs) (h_t : TmsAt q w a_t p.terms) (hct : p.terms.length ≤ c_t) (hl : p.terms.length ≤ 1048576) (hvl : vs.length ≤ 1048576) :
    Calls Tryz.prog 112 #[.pointer (some ⟨pb, 0, none⟩), .agg #[.bool p.neg, .string p.cls, .slice a_t p.terms.length c_t]] w fun e w' => (∃ a c, e = .returned (.slice a (jtsUpTo vs p.terms p.terms.length).length c) ∧ w'.ownsRow w.heap.size 210 4 (.slice a (jtsUpTo vs p.terms p.terms.length).length c) (jtsUpTo vs p.terms p.terms.length).length ((jtsUpTo vs p.terms p.terms.length).flatMap jtCells)) ∧ Below w.heap.size w w' := by
  have HV := hidP hv
  have HT := hidP h_t
  have HPC := hidP hp
  clear hv h_t hp
  go_enter Tryz.func112, Tryz.ntmps112
  go_upto_region 1 with fail
  refine lift_alloc ?_
  intro w0 hW0 hq0
  obtain ⟨b0, b1, b2⟩ := cells3P hq0
  have H0 := hidP hW0
  have hs0 := hW0.size
  have hl0 : w.heap.size < w0.heap.size := lt_of_block' hq0
  clear hW0 hq0
  go_wp2_with fail
  go_loopw [13, 5] (fun iv tv wr => ∃ (k : Nat) (a : Option Addr) (c : Nat), iv = .int .i64 (k : Int) ∧ k ≤ p.terms.length ∧ tv = .slice a (jtsUpTo vs p.terms k).length c ∧ wr.ownsRow w0.heap.size 210 4 (.slice a (jtsUpTo vs p.terms k).length c) (jtsUpTo vs p.terms k).length ((jtsUpTo vs p.terms k).flatMap jtCells) ∧ Below w0.heap.size w0 wr) (fun iv _ _ => p.terms.length - (intOf iv).toNat)
  case atStart => exact ⟨0, none, 0, rfl, Nat.zero_le _, rfl, World.ownsRow_nil _ _ _ _, Below.refl _ _⟩
  case round =>
    obtain ⟨k, a, c, rfl, hkl, rfl, hrow, hb⟩ := hrel
    have ROW := hidP hrow
    have HBB := hidP hb
    have HBW := hidP (H0.out.trans (hb.mono H0.out.size))
    have hsr := hb.size
    have hjl := jtsUpTo_len vs p.terms k
    clear hrow hb
    by_cases hk : k < p.terms.length
    · obtain ⟨t, ht⟩ : ∃ t, p.terms[k]? = some t := ⟨p.terms[k], by simp [hk]⟩
      obtain ⟨mb, mo, rfl, _, c0, c1, c2, c3, c4, c5⟩ := (HT.out.below HBW.out).get ht
      have HST := hidP (jtsUpTo_succ (vs := vs) ht)
      have HTK := hidP ht
      have p0 := cell_below HBB.out b0
      have p1 := cell_below HBB.out b1
      have p2 := cell_below HBB.out b2
      have z0 : (0 : Int) ≤ (k : Int) := by omega
      have z1 : (k : Int) < (p.terms.length : Int) := by omega
      clear ht
      go_upto_region 5 with fail
      refine lift_alloc ?_
      intro w2 hW2 hq2
      obtain ⟨tb, htb⟩ : ∃ tb, tb = wr.heap.size := ⟨_, rfl⟩
      rw [← htb] at hq2 ⊢
      obtain ⟨d0, d1, d2, d3, d4, d5⟩ := cells6P hq2
      have R2 := hidP (own_bel ROW.out hW2)
      have D2 := hidP (HBB.out.trans (hW2.mono HBB.out.size))
      have W2 := hidP (HBW.out.trans (hW2.mono HBW.out.size))
      have s0 := cell_below hW2 p0
      have s1 := cell_below hW2 p1
      have s2 := cell_below hW2 p2
      have hs2 := hW2.size
      have hl2 : tb < w2.heap.size := lt_of_block' hq2
      have HNT := hidP (fun g (hg : (Value.slice a (jtsUpTo vs p.terms k).length c).ownBlock = some g) => (show g < tb by have := (ROW.out.lt g hg).2; omega))
      have HWH := hidP (where_any pb t.var va vc vs w2 (cell_below W2.out HPC.out) (HV.out.below W2.out) hvl)
      have hl2' : w0.heap.size ≤ tb := by omega
      clear hW2 hq2 c0 c1 c2 c3 c4 c5 p0 p1 p2 ROW HBB HBW htb
      cases hlk : lookV vs t.var with
      | none =>
        have HN := hidP (show jtsUpTo vs p.terms (k + 1) = jtsUpTo vs p.terms k by rw [HST.out]; simp [jtOf, hlk])
        rw [hlk] at HWH
        unfold whV at HWH
        clear hlk
        go_wp2_with fail
        refine HWH.out.mono ?_
        rintro e w3 ⟨rfl, hb3⟩
        have B3 := hidP hb3
        clear hb3 HWH
        go_upto_region 6 with fail
        refine lift_alloc ?_
        intro w4 hW4 hq4
        have R4 := hidP (own_bel (own_bel R2.out B3.out) hW4)
        have D4 := hidP ((D2.out.trans (B3.out.mono D2.out.size)).trans (hW4.mono (D2.out.trans (B3.out.mono D2.out.size)).size))
        clear hW4 hq4
        go_wp2_with fail
        go_roundw
        case rel => exact ⟨k + 1, a, c, by go_num, by omega, by rw [HN.out], by rw [HN.out]; exact R4.out, D4.out⟩
        case measure => (simp [intOf]; omega)
      | some v =>
        rw [hlk] at HWH
        unfold whV at HWH
        go_wp2_with fail
        refine HWH.out.mono ?_
        rintro e w3 ⟨rfl, hb3⟩
        have B3 := hidP hb3
        have R3 := hidP (own_bel R2.out hb3)
        have D3 := hidP (D2.out.trans (hb3.mono D2.out.size))
        have W3 := hidP (W2.out.trans (hb3.mono W2.out.size))
        have f0 := cell_below hb3 d0
        have f1 := cell_below hb3 d1
        have f2 := cell_below hb3 d2
        have f3 := cell_below hb3 d3
        have f4 := cell_below hb3 d4
        have f5 := cell_below hb3 d5
        have u0 := cell_below hb3 s0
        have u1 := cell_below hb3 s1
        have u2 := cell_below hb3 s2
        have hs3 := hb3.size
        clear hb3 HWH d0 d1 d2 d3 d4 d5 s0 s1 s2 R2 D2 W2 B3
        go_upto_region 6 with fail
        refine lift_alloc ?_
        intro w4 hW4 hq4
        obtain ⟨qb, hqb⟩ : ∃ qb, qb = w3.heap.size := ⟨_, rfl⟩
        rw [← hqb] at hq4 ⊢
        obtain ⟨v0, v1⟩ := cells2P hq4
        have R4 := hidP (own_bel R3.out hW4)
        have D4 := hidP (D3.out.trans (hW4.mono D3.out.size))
        have W4 := hidP (W3.out.trans (hW4.mono W3.out.size))
        have g0 := cell_below hW4 f0
        have g1 := cell_below hW4 f1
        have g2 := cell_below hW4 f2
        have g3 := cell_below hW4 f3
        have g4 := cell_below hW4 f4
        have g5 := cell_below hW4 f5
        have n0 := cell_below hW4 u0
        have n1 := cell_below hW4 u1
        have n2 := cell_below hW4 u2
        have hs4 := hW4.size
        have hl4 : qb < w4.heap.size := lt_of_block' hq4
        have HBD := hidP (bound_any p _ c_t k t w4 (HT.out.below W4.out) HTK.out hl hct)
        have htq : tb < qb := by omega
        clear hqb hW4 hq4 f0 f1 f2 f3 f4 f5 u0 u1 u2 R3 D3 W3
        cases hea : earlier p.terms k t.var with
        | some e0 =>
          have HN := hidP (show jtsUpTo vs p.terms (k + 1) = jtsUpTo vs p.terms k by rw [HST.out]; simp [jtOf, hlk, hea])
          rw [hea] at HBD
          simp only [atI] at HBD
          have e01 : ((e0 : Int) == -1) = false := by simp
          clear hlk hea
          go_wp2_with fail
          refine HBD.out.mono ?_
          rintro e w5 ⟨rfl, hb5⟩
          have R5 := hidP (own_bel R4.out hb5)
          have D5 := hidP (D4.out.trans (hb5.mono D4.out.size))
          clear hb5 HBD
          go_wp2_with fail
          go_roundw
          case rel => exact ⟨k + 1, a, c, by go_num, by omega, by rw [HN.out], by rw [HN.out]; exact R5.out, D5.out⟩
          case measure => (simp [intOf]; omega)
        | none =>
          have HN := hidP (show jtsUpTo vs p.terms (k + 1) = jtsUpTo vs p.terms k ++ [⟨k, tmOp t, v.fact, v.slot⟩] by rw [HST.out]; simp [jtOf, hlk, hea])
          rw [hea] at HBD
          simp only [atI] at HBD
          clear hlk hea
          go_wp2_with fail
          refine HBD.out.mono ?_
          rintro e w5 ⟨rfl, hb5⟩
          have R5 := hidP (own_bel R4.out hb5)
          have D5 := hidP (D4.out.trans (hb5.mono D4.out.size))
          have x0 := cell_below hb5 g0
          have x1 := cell_below hb5 g1
          have x2 := cell_below hb5 g2
          have x3 := cell_below hb5 g3
          have x4 := cell_below hb5 g4
          have x5 := cell_below hb5 g5
          have y0 := cell_below hb5 v0
          have y1 := cell_below hb5 v1
          have hs5 := hb5.size
          have hneT : (Value.slice a (jtsUpTo vs p.terms k).length c).ownBlock ≠ some tb := fun e => by have := HNT.out _ e; omega
          have hneQ : (Value.slice a (jtsUpTo vs p.terms k).length c).ownBlock ≠ some qb := fun e => by have := HNT.out _ e; omega
          have HOP := hidP (fun w' => operator_any t w')
          clear hb5 HBD g0 g1 g2 g3 g4 g5 v0 v1 n0 n1 n2 R4 D4 W4
          go_wp2_with fail
          refine wp_region_noPanic ?_
          refine wp_region_held_drew (S := (fun w' => w'.cell? ⟨tb, 0, none⟩ = some (.int .i64 t.kind) ∧ w'.cell? ⟨tb, 1, none⟩ = some (.int .i64 t.op) ∧ w'.cell? ⟨tb, 2, none⟩ = some (.string t.var) ∧ w'.cell? ⟨tb, 3, none⟩ = some (.int .i64 t.val.kind) ∧ w'.cell? ⟨tb, 4, none⟩ = some (.int .i64 t.val.num) ∧ w'.cell? ⟨tb, 5, none⟩ = some (.string t.val.sym) ∧ w'.cell? ⟨qb, 0, none⟩ = some (.int .i64 (v.fact : Int)) ∧ w'.cell? ⟨qb, 1, none⟩ = some (.int .i64 (v.slot : Int)))) (by kernel_rfl) ?_ (fun hHeld => ?_)
          · (try dsimp only)
            (go_split_ands; refine ⟨?_, ?_, ?_, ?_, ?_, ?_, ?_, ?_⟩ <;> first | (simp [*]; done))
          refine tk 0 hHeld ?_
          (try simp only [pA, pZ, pS])
          refine tk 1 hHeld ?_
          (try simp only [pA, pZ, pS])
          refine tk 2 hHeld ?_
          (try simp only [pA, pZ, pS])
          refine tk 4 hHeld ?_
          (try simp only [pA, pZ, pS])
          refine wpAnyH_ready (rs := [3]) (by kernel_rfl) (by simp) ?_
          refine AllReadyH.cons (o := ?o1) ?ho1 (fun K hK => ?step1) AllReadyH.nil
          case ho1 => (simp only [List.getElem?_toArray, List.getElem?_cons_succ, List.getElem?_cons_zero]; rfl)
          go_simp
          (go_at_call 136; refine (HOP.out _).mono ?_; rintro e' w6 ⟨rfl, hb6⟩)
          (try go_wp2_with fail)
          refine hK.out _ _ ?hS2 (fun hHeld' => ?rest2)
          case hS2 => ((try dsimp only); (go_split_ands; refine ⟨?_, ?_, ?_, ?_, ?_, ?_, ?_, ?_⟩ <;> first | exact cell_below hb6 (by assumption)))
          clear hK K
          (first | simp only [pA, pZ, pS] | simp only [pN] | skip)
          clear hHeld
          have hHeld := hHeld'
          clear hHeld'
          have B6 := hidP (show Below w5.heap.size w5 w6 from (Below.refl w5.heap.size w5).drew.trans (hb6.mono (by simp)))
          have R6 := hidP (own_bel R5.out B6.out)
          have D6 := hidP (D5.out.trans (B6.out.mono D5.out.size))
          have hs6 := B6.out.size
          have HW6 := hidP (fun o' => (Below.refl _ _).alloc (Nat.le_refl _) o' : ∀ o', Below w6.heap.size w6 (w6.alloc o'))
          refine tk 5 hHeld ?_
          (try simp only [pA, pZ, pS])
          refine wpAnyH_ready (rs := [6]) (by kernel_rfl) (by simp) ?_
          refine AllReadyH.cons (o := ?o3) ?ho3 (fun K hK => ?step3) AllReadyH.nil
          case ho3 => (simp only [List.getElem?_toArray, List.getElem?_cons_succ, List.getElem?_cons_zero]; rfl)
          go_simp
          refine hK.out _ _ ?hS4 (fun hHeld' => ?rest4)
          case hS4 => ((try dsimp only); (go_split_ands; refine ⟨?_, ?_, ?_, ?_, ?_, ?_, ?_, ?_⟩ <;> first | (simp [go_sem, *]; done) | exact cell_below ((Below.refl _ _).alloc (Nat.le_refl _) _) (by assumption)))
          clear hK K
          (first | simp only [pA, pZ, pS] | simp only [pN] | skip)
          clear hHeld
          have hHeld := hHeld'
          clear hHeld'
          refine wpAnyH_ready (rs := [7]) (by kernel_rfl) (by simp) ?_
          refine AllReadyH.cons (o := ?o5) ?ho5 (fun K hK => ?step5) AllReadyH.nil
          case ho5 => (simp only [List.getElem?_toArray, List.getElem?_cons_succ, List.getElem?_cons_zero]; rfl)
          (refine step_append_any (by rfl) (.tmp 32) (.tmp 38) 173 (by rfl) w0.heap.size 210 _ 4 32 Tryz.underlying173 infoJt (by rfl) (by omega) _ (jtsUpTo vs p.terms k).length _ (by rfl) (own_bel R6.out (HW6.out _)) (some ⟨_, 0, none⟩) 1 1 (by rfl) (jtCells ⟨k, tmOp t, v.fact, v.slot⟩) (by rfl) (fun e => by cases e) (news_new _ _ _ _ (by simp)) (jt_one _) (by unfold maxLen; omega) (by omega) (by simp; omega) ?_; intro a8 c8 w8 ho8 hg8 hl8)
          refine hK.out _ _ ?hS6 (fun hHeld' => ?rest6)
          case hS6 => ((try dsimp only); (go_split_ands; refine ⟨?_, ?_, ?_, ?_, ?_, ?_, ?_, ?_⟩ <;> first | exact (cell_grownP hg8.out hneT (by simp; omega)).trans (by assumption) | exact (cell_grownP hg8.out hneQ (by simp; omega)).trans (by assumption)))
          clear hK K
          (first | simp only [pA, pZ, pS] | simp only [pN] | skip)
          clear hHeld
          have hHeld := hHeld'
          clear hHeld'
          refine tk 8 hHeld ?_
          (try simp only [pA, pZ, pS])
          refine wpAnyH_done (by kernel_rfl) ?_ _
          refine NoPanic.normal ?_
          have R8 := hidP (show w8.ownsRow w0.heap.size 210 4 (.slice a8 (jtsUpTo vs p.terms (k + 1)).length c8) (jtsUpTo vs p.terms (k + 1)).length ((jtsUpTo vs p.terms (k + 1)).flatMap jtCells) by have := ho8.out; rw [HN.out]; simpa using this)
          have D8 := hidP ((D6.out.trans ((HW6.out _).mono D6.out.size)).grown hg8.out (by simp; omega) (fun g hg => (R6.out.lt g hg).1))
          have HLN := hidP (show (jtsUpTo vs p.terms (k + 1)).length = (jtsUpTo vs p.terms k).length + 1 by rw [HN.out]; simp)
          clear ho8 hg8 hl8
          go_wp2_with fail
          go_roundw
          case rel => exact ⟨k + 1, a8, c8, by go_num, by omega, by rw [HLN.out], R8.out, D8.out⟩
          case measure => (simp [intOf]; omega)
    · have hke : k = p.terms.length := by omega
      subst hke
      have hy : ¬ (p.terms.length : Int) < (p.terms.length : Int) := by omega
      go_wp2_with fail
      go_ret
      exact ⟨⟨a, c, rfl, owns_base ROW.out (by omega)⟩, HBW.out⟩
end Go.Proofs.YtognpkdgphebeaaGreat

namespace Go.Proofs.YtognpkdgphebeaaGreat
open Go.RowKit
attribute [local go_sem ↓] Go.wp_at_zero Go.wp_at_succ

/-- A plan in its box. -/
def PlB (w : World) (pb : Nat) (v0 v1 : Value) : Prop := w.heap[pb]? = some (.cells #[v0, v1] 88 (0, 0))
theorem PlB.facts {w : World} {b : Nat} {v0 v1 : Value} (h : PlB w b v0 v1) : (w.cell? ⟨b, 0, none⟩ = some v0 ∧ w.cell? ⟨b, 1, none⟩ = some v1) ∧ (∀ j, w.frozen? ⟨b, j, none⟩ = false) ∧ b < w.heap.size := by
  unfold PlB at h
  exact ⟨cells2P h, fun j => by simp [World.frozen?, h], lt_of_block' h⟩
theorem PlB.set1 {w : World} {b : Nat} {v0 v1 : Value} (h : PlB w b v0 v1) (x : Value) : PlB (w.setCell ⟨b, 1, none⟩ x) b v0 x := by
  have := heap_setCell_same (i := 1) h x
  simpa [PlB] using this
theorem PlB.bel {w w' : World} {b : Nat} {v0 v1 : Value} (h : PlB w b v0 v1) (hb : Below w.heap.size w w') : PlB w' b v0 v1 := (hb.block b (lt_of_block' h)).trans h
/-- Only the box and one row were written. -/
structure Fp (pb : Nat) (row : Option Nat) (w w' : World) : Prop where
  rest : Below 0 w w'
  block : ∀ k, k < w.heap.size → k ≠ pb → row ≠ some k → w'.heap[k]? = w.heap[k]?
theorem Fp.refl (pb : Nat) (row : Option Nat) (w : World) : Fp pb row w w := ⟨Below.refl _ _, fun _ _ _ _ => rfl⟩
theorem Fp.bel {pb : Nat} {row : Option Nat} {u w w' : World} (h : Fp pb row u w) (hb : Below w.heap.size w w') : Fp pb row u w' := ⟨h.rest.trans (hb.mono (Nat.zero_le _)), fun k hk h1 h2 => (hb.block k (Nat.lt_of_lt_of_le hk h.rest.size)).trans (h.block k hk h1 h2)⟩
theorem infoVr : (Tryz.prog.info? 101).map (fun i => (i.zero, i.size, i.bytes)) = some (some (.agg #[.string ⟨#[]⟩, .int .i64 0, .int .i64 0]), 3, 32) := by kernel_rfl
theorem vr_one (v : Vr) : ∀ u ∈ vrCells v, u.oneCell' = true := by
  intro u hu
  simp [vrCells] at hu
  rcases hu with rfl | rfl | rfl <;> rfl
theorem VrsAt.owns {w : World} {base : Nat} {a : Option Addr} {c : Nat} {vs : List Vr} (h : w.ownsRow base 101 3 (.slice a vs.length c) vs.length (vs.flatMap vrCells)) : VrsAt w a vs := by
  intro i v hi
  have key := fun j u (hj : (vrCells v)[j]? = some u) => owns_cell h (flat_gen (cells := vrCells) (m := 3) (fun _ => rfl) vs i v j u hi hj)
  obtain ⟨k, rfl, _, h0, _⟩ := key 0 _ rfl
  obtain ⟨k1, e1, _, h1, _⟩ := key 1 _ rfl
  obtain ⟨k2, e2, _, h2, _⟩ := key 2 _ rfl
  cases e1
  cases e2
  exact ⟨k, 0, rfl, by simpa using h0, by simpa using h1, by simpa using h2⟩
def bindUpTo (vs : List Vr) (ts : List Tm) (n : Nat) : Nat → List Vr
  | 0 => vs
  | i + 1 => (match ts[i]? with | none => bindUpTo vs ts n i | some t => if t.kind = 2 ∧ lookV (bindUpTo vs ts n i) t.var = none then bindUpTo vs ts n i ++ [⟨t.var, n, i⟩] else bindUpTo vs ts n i)
theorem bindUpTo_succ {vs : List Vr} {ts : List Tm} {n i : Nat} {t : Tm} (h : ts[i]? = some t) : bindUpTo vs ts n (i + 1) = if t.kind = 2 ∧ lookV (bindUpTo vs ts n i) t.var = none then bindUpTo vs ts n i ++ [⟨t.var, n, i⟩] else bindUpTo vs ts n i := by simp [bindUpTo, h]
theorem bindUpTo_len (vs : List Vr) (ts : List Tm) (n : Nat) : ∀ i, (bindUpTo vs ts n i).length ≤ vs.length + i
  | 0 => Nat.le_refl _
  | i + 1 => by
    have h1 := bindUpTo_len vs ts n i
    simp only [bindUpTo]
    cases ts[i]? with
    | none => simp only; omega
    | some t =>
      simp only
      split
      · simp; omega
      · omega
theorem Fp.step {pb : Nat} {row row' : Option Nat} {u wr w4 w7 w8 : World} {x : Value} (h : Fp pb row u wr) (hr : ∀ g, row' = some g → row = some g ∨ u.heap.size ≤ g) (h4 : Below wr.heap.size wr w4) (h7 : Below w4.heap.size w4 w7) (hg : w7.grownBy w8 row') : Fp pb row u (w8.setCell ⟨pb, 1, none⟩ x) := by
  have ht : Turned w8 (w8.setCell ⟨pb, 1, none⟩ x) pb := Turned.setCells [x] 1 w8 pb
  refine ⟨((((h.rest.trans (h4.mono (Nat.zero_le _))).trans (h7.mono (Nat.zero_le _))).grown hg (Nat.zero_le _) (fun _ _ => Nat.zero_le _)).trans (ht.below (Nat.zero_le _))), fun k hk h1 h2 => ?_⟩
  have k1 : k < wr.heap.size := Nat.lt_of_lt_of_le hk h.rest.size
  have k4 : k < w4.heap.size := Nat.lt_of_lt_of_le k1 h4.size
  have k7 : k < w7.heap.size := Nat.lt_of_lt_of_le k4 h7.size
  rw [ht.block k h1, hg.block k k7 (fun e => by rcases hr k e.symm with h' | h'; exact h2 h'; omega), h7.block k k4, h4.block k k1]
  exact h.block k hk h1 h2
set_option maxRecDepth 100000 in
set_option maxHeartbeats 12800000 in
theorem planBind_any (pb n : Nat) (p : Pt) (a_t : Option Addr) (c_t : Nat) (va : Option Addr) (vc : Nat) (vs : List Vr) (v0 : Value) (B : Nat) {q : Option Nat} (wA w : World) (hA : Below wA.heap.size wA w) (h_t : TmsAt q wA a_t p.terms) (hP : PlB w pb v0 (.slice va vs.length vc)) (hO : w.ownsRow B 101 3 (.slice va vs.length vc) vs.length (vs.flatMap vrCells)) (hAB : wA.heap.size ≤ B) (hAp : wA.heap.size ≤ pb) (hB : B ≤ w.heap.size) (hl : p.terms.length ≤ 1000) (hvl : vs.length ≤ 1000) :
    Calls Tryz.prog 113 #[.pointer (some ⟨pb, 0, none⟩), .agg #[.bool p.neg, .string p.cls, .slice a_t p.terms.length c_t], .int .i64 (n : Int)] w fun e w' => e = .returned (.tuple #[]) ∧ (∃ va' vc', PlB w' pb v0 (.slice va' (bindUpTo vs p.terms n p.terms.length).length vc') ∧ w'.ownsRow B 101 3 (.slice va' (bindUpTo vs p.terms n p.terms.length).length vc') (bindUpTo vs p.terms n p.terms.length).length ((bindUpTo vs p.terms n p.terms.length).flatMap vrCells) ∧ (∀ g, (Value.slice va' (bindUpTo vs p.terms n p.terms.length).length vc').ownBlock = some g → (Value.slice va vs.length vc).ownBlock = some g ∨ w.heap.size ≤ g)) ∧ Fp pb (Value.slice va vs.length vc).ownBlock w w' ∧ Below wA.heap.size wA w' := by
  have HT := hidP h_t
  have HAA := hidP hA
  have HPP := hidP hP
  have HOO := hidP hO
  have hpw := lt_of_block' hP
  clear h_t hA hP hO
  go_enter Tryz.func113, Tryz.ntmps113
  go_upto_region 1 with fail
  refine lift_alloc ?_
  intro w0 hW0 hq0
  obtain ⟨b0, b1, b2⟩ := cells3P hq0
  have H0 := hidP hW0
  have P0 := hidP (HPP.out.bel hW0)
  have O0 := hidP (own_bel HOO.out hW0)
  have F0 := hidP ((Fp.refl pb (Value.slice va vs.length vc).ownBlock w).bel hW0)
  have A0 := hidP (HAA.out.trans (hW0.mono HAA.out.size))
  have hs0 := hW0.size
  clear hW0 hq0 HPP HOO HAA
  go_wp2_with fail
  clear b0 b1 b2
  go_loopw [13] (fun iv wr => ∃ (k : Nat) (va' : Option Addr) (vc' : Nat) (U : List Vr), iv = .int .i64 (k : Int) ∧ k ≤ p.terms.length ∧ bindUpTo vs p.terms n k = U ∧ PlB wr pb v0 (.slice va' U.length vc') ∧ wr.ownsRow B 101 3 (.slice va' U.length vc') U.length (U.flatMap vrCells) ∧ Fp pb (Value.slice va vs.length vc).ownBlock w wr ∧ (∀ g, (Value.slice va' U.length vc').ownBlock = some g → (Value.slice va vs.length vc).ownBlock = some g ∨ w.heap.size ≤ g) ∧ w.heap.size ≤ wr.heap.size ∧ Below wA.heap.size wA wr) (fun iv _ => p.terms.length - (intOf iv).toNat)
  case atStart => exact ⟨0, va, vc, vs, rfl, Nat.zero_le _, rfl, P0.out, O0.out, F0.out, fun g hg => .inl hg, hs0, A0.out⟩
  case round =>
    obtain ⟨k, va', vc', U, rfl, hkl, hU, hPr, hOr, hFr, hRr, hsr, hAr⟩ := hrel
    have HU := hidP hU
    have PR := hidP hPr
    have OR := hidP hOr
    have FPR := hidP hFr
    have HRB := hidP hRr
    have AR := hidP hAr
    have hUl : U.length ≤ 2000 := by
      have := bindUpTo_len vs p.terms n k
      rw [hU] at this
      omega
    have hpr := lt_of_block' hPr
    clear hU hPr hOr hFr hRr hAr P0 O0 F0 A0
    by_cases hk : k < p.terms.length
    · obtain ⟨t, ht⟩ : ∃ t, p.terms[k]? = some t := ⟨p.terms[k], by simp [hk]⟩
      obtain ⟨mb, mo, rfl, _, c0, c1, c2, c3, c4, c5⟩ := (HT.out.below AR.out).get ht
      have HST := hidP (bindUpTo_succ (vs := vs) (n := n) ht)
      rw [HU.out] at HST
      have z0 : (0 : Int) ≤ (k : Int) := by omega
      have z1 : (k : Int) < (p.terms.length : Int) := by omega
      clear ht
      go_upto_region 4 with fail
      refine lift_alloc ?_
      intro w2 hW2 hq2
      obtain ⟨tb, htb⟩ : ∃ tb, tb = wr.heap.size := ⟨_, rfl⟩
      rw [← htb] at hq2 ⊢
      obtain ⟨d0, d1, d2, d3, d4, d5⟩ := cells6P hq2
      have D2 := hidP hW2
      have hs2 := hW2.size
      have hl2 : tb < w2.heap.size := lt_of_block' hq2
      have hptb : pb < tb := by omega
      have HNT := hidP (fun g (hg : (Value.slice va' U.length vc').ownBlock = some g) => (show g < tb by have := (OR.out.lt g hg).2; omega))
      have hneP : (Value.slice va' U.length vc').ownBlock ≠ some pb := fun e => by
        obtain ⟨cc, hcc⟩ := own_type OR.out e
        exact own_far hcc PR.out (by decide)
      have HWH := hidP (where_any pb t.var va' vc' U w2 (PR.out.bel hW2).facts.1.2 (VrsAt.owns (own_bel OR.out hW2)) (by omega))
      clear hW2 hq2 c0 c1 c2 c3 c4 c5 htb
      by_cases hk2 : t.kind = 2
      · have b2' : (t.kind == 2) = true := by simpa using hk2
        cases hlk : lookV U t.var with
        | some x =>
          have HN := hidP (show bindUpTo vs p.terms n (k + 1) = U by rw [HST.out, if_neg (by rw [hlk]; simp)])
          rw [hlk] at HWH
          unfold whV at HWH
          clear hlk hk2
          go_wp2_with fail
          refine HWH.out.mono ?_
          rintro e w3 ⟨rfl, hb3⟩
          have D3 := hidP (D2.out.trans (hb3.mono D2.out.size))
          have f0 := cell_below hb3 d0
          have f2 := cell_below hb3 d2
          have hs3 := hb3.size
          clear hb3 HWH d0 d1 d2 d3 d4 d5 D2
          go_upto_region 5 with fail
          refine lift_alloc ?_
          intro w4 hW4 hq4
          have D4 := hidP (D3.out.trans (hW4.mono D3.out.size))
          have g0 := cell_below hW4 f0
          have g2 := cell_below hW4 f2
          have hs4 := hW4.size
          clear hW4 hq4 f0 f2 D3
          go_wp2_with fail
          go_roundw
          case rel => exact ⟨k + 1, va', vc', U, by go_num, by omega, HN.out, PR.out.bel D4.out, own_bel OR.out D4.out, FPR.out.bel D4.out, HRB.out, by have := D4.out.size; omega, AR.out.trans (D4.out.mono AR.out.size)⟩
          case measure => (simp [intOf]; omega)
        | none =>
          have HN := hidP (show bindUpTo vs p.terms n (k + 1) = U ++ [⟨t.var, n, k⟩] by rw [HST.out, if_pos ⟨hk2, hlk⟩])
          rw [hlk] at HWH
          unfold whV at HWH
          clear hlk hk2
          go_wp2_with fail
          refine HWH.out.mono ?_
          rintro e w3 ⟨rfl, hb3⟩
          have D3 := hidP (D2.out.trans (hb3.mono D2.out.size))
          have f0 := cell_below hb3 d0
          have f2 := cell_below hb3 d2
          have hs3 := hb3.size
          clear hb3 HWH d0 d1 d2 d3 d4 d5 D2
          go_upto_region 5 with fail
          refine lift_alloc ?_
          intro w4 hW4 hq4
          have D4 := hidP (D3.out.trans (hW4.mono D3.out.size))
          have g0 := cell_below hW4 f0
          have g2 := cell_below hW4 f2
          have hs4 := hW4.size
          clear hW4 hq4 f0 f2 D3
          have P4 := hidP (PR.out.bel D4.out)
          have R4 := hidP (own_bel OR.out D4.out)
          have HW4 := hidP (fun o' => (Below.refl w4.heap.size w4).drew.alloc (by simp) o' : ∀ o', Below w4.heap.size w4 (w4.drew.alloc o'))
          have A4 := hidP (AR.out.trans (D4.out.mono AR.out.size))
          have q1 : w4.cell? ⟨pb, 1, none⟩ = some (.slice va' U.length vc') := P4.out.facts.1.2
          have q5 : ∀ o, (w4.drew.alloc o).cell? ⟨pb, 1, none⟩ = some (.slice va' U.length vc') := fun o => (P4.out.bel (HW4.out o)).facts.1.2
          have hneT : (Value.slice va' U.length vc').ownBlock ≠ some tb := fun e => by have := HNT.out _ e; omega
          have htp : tb ≠ pb := by omega
          have hp4 : pb < w4.heap.size := by omega
          have hB4 : B ≤ w4.heap.size := by omega
          go_wp2_with fail
          refine wp_region_noPanic ?_
          refine wp_region_held_drew (S := (fun w' => w'.cell? ⟨tb, 2, none⟩ = some (.string t.var))) (by kernel_rfl) ?_ (fun hHeld => ?_)
          · (try dsimp only)
            (first | (simp [*]; done) | assumption)
          refine tk 0 hHeld ?_
          (try simp only [pA, pZ, pS])
          refine tk 1 hHeld ?_
          (try simp only [pA, pZ, pS])
          refine tk 2 hHeld ?_
          (try simp only [pA, pZ, pS])
          refine tk 3 hHeld ?_
          (try simp only [pA, pZ, pS])
          refine tk 5 hHeld ?_
          (try simp only [pA, pZ, pS])
          refine tk 6 hHeld ?_
          (try simp only [pA, pZ, pS])
          refine tk 7 hHeld ?_
          (try simp only [pA, pZ, pS])
          refine tk 8 hHeld ?_
          (try simp only [pA, pZ, pS])
          refine tk 9 hHeld ?_
          (try simp only [pA, pZ, pS])
          refine tk 10 hHeld ?_
          (try simp only [pA, pZ, pS])
          refine wpAnyH_ready (rs := [4, 11]) (by kernel_rfl) (by simp) ?_
          refine AllReadyH.cons (o := ?o1) ?ho1 (fun K hK => ?step1) (AllReadyH.cons (o := ?o2) ?ho2 (fun K hK => ?step2) AllReadyH.nil)
          case ho1 => (simp only [List.getElem?_toArray, List.getElem?_cons_succ, List.getElem?_cons_zero]; rfl)
          case ho2 => (simp only [List.getElem?_toArray, List.getElem?_cons_succ, List.getElem?_cons_zero]; rfl)
          case step1 =>
            go_simp
            refine hK.out _ _ ?hS3 (fun hHeld' => ?rest3)
            case hS3 => ((try dsimp only); (first | (simp [*]; done) | assumption))
            clear hK K
            (first | simp only [pA, pZ, pS] | simp only [pN] | skip)
            clear hHeld
            have hHeld := hHeld'
            clear hHeld'
            refine wpAnyH_ready (rs := [11]) (by kernel_rfl) (by simp) ?_
            refine AllReadyH.cons (o := ?o4) ?ho4 (fun K hK => ?step4) AllReadyH.nil
            case ho4 => (simp only [List.getElem?_toArray, List.getElem?_cons_succ, List.getElem?_cons_zero]; rfl)
            go_simp
            refine hK.out _ _ ?hS5 (fun hHeld' => ?rest5)
            case hS5 => ((try dsimp only); (first | (simp [go_sem, *]; done) | exact cell_below ((Below.refl _ _).alloc (Nat.le_refl _) _) (by assumption)))
            clear hK K
            (first | simp only [pA, pZ, pS] | simp only [pN] | skip)
            clear hHeld
            have hHeld := hHeld'
            clear hHeld'
            refine wpAnyH_ready (rs := [12]) (by kernel_rfl) (by simp) ?_
            refine AllReadyH.cons (o := ?o6) ?ho6 (fun K hK => ?step6) AllReadyH.nil
            case ho6 => (simp only [List.getElem?_toArray, List.getElem?_cons_succ, List.getElem?_cons_zero]; rfl)
            (refine step_append_any (by rfl) (.tmp 36) (.tmp 43) 86 (by rfl) B 101 _ 3 32 Tryz.underlying86 infoVr (by rfl) (by omega) _ U.length _ (by rfl) (own_bel R4.out (HW4.out _)) (some ⟨_, 0, none⟩) 1 1 (by rfl) (vrCells ⟨t.var, n, k⟩) (by rfl) (fun e => by cases e) (news_new _ _ _ _ (by simp)) (vr_one _) (by unfold maxLen; omega) (by omega) (by simp; omega) ?_; intro a8 c8 w8 ho8 hg8 hl8; have P8 := hidP (show PlB w8 pb v0 (.slice va' U.length vc') from (hg8.out.block pb (by simp; omega) (fun e => hneP e.symm)).trans (((HW4.out _).block pb (by omega)).trans P4.out)); obtain ⟨⟨_, m1⟩, zz, _⟩ := P8.out.facts; have z1 := zz 1; clear zz)
            refine hK.out _ _ ?hS7 (fun hHeld' => ?rest7)
            case hS7 => ((try dsimp only); (first | exact (cell_grownP hg8.out hneT (by simp; omega)).trans (by assumption)))
            clear hK K
            (first | simp only [pA, pZ, pS] | simp only [pN] | skip)
            clear hHeld
            have hHeld := hHeld'
            clear hHeld'
            refine tk 13 hHeld ?_
            (try simp only [pA, pZ, pS])
            refine tk 14 hHeld ?_
            (try simp only [pA, pZ, pS])
            refine wpAnyH_ready (rs := [15]) (by kernel_rfl) (by simp) ?_
            refine AllReadyH.cons (o := ?o8) ?ho8 (fun K hK => ?step8) AllReadyH.nil
            case ho8 => (simp only [List.getElem?_toArray, List.getElem?_cons_succ, List.getElem?_cons_zero]; rfl)
            go_simp
            refine hK.out _ _ ?hS9 (fun hHeld' => ?rest9)
            case hS9 => ((try dsimp only); (first | (simp [go_sem, *]; done)))
            clear hK K
            (first | simp only [pA, pZ, pS] | simp only [pN] | skip)
            clear hHeld
            have hHeld := hHeld'
            clear hHeld'
            refine wpAnyH_done (by kernel_rfl) ?_ _
            refine NoPanic.normal ?_
            have R8 := hidP (show w8.ownsRow B 101 3 (.slice a8 (U.length + 1) c8) (U.length + 1) ((U ++ [(⟨t.var, n, k⟩ : Vr)]).flatMap vrCells) by have := ho8.out; simpa using this)
            have P9 := hidP (P8.out.set1 (.slice a8 (U.length + 1) c8))
            have R9 := hidP (own_set (o := 1) (x := .slice a8 (U.length + 1) c8) R8.out P8.out (by decide))
            have F9 := hidP (Fp.step (x := .slice a8 (U.length + 1) c8) FPR.out HRB.out D4.out (HW4.out _) hg8.out)
            have hrow9 := hidP (show ∀ g, (Value.slice a8 (U.length + 1) c8).ownBlock = some g → (Value.slice va vs.length vc).ownBlock = some g ∨ w.heap.size ≤ g by intro g hg; rcases hl8.out with h | h; exact HRB.out g (by rw [← h]; exact hg); right; rw [h] at hg; injection hg with hg; simp at hg; omega)
            have A9 := hidP ((((A4.out.trans ((HW4.out _).mono A4.out.size)).grown hg8.out (by have := A4.out.size; simp; omega) (fun g hg => Nat.le_trans hAB (R4.out.lt g hg).1)).setCell (p := ⟨pb, 1, none⟩) hAp (.slice a8 (U.length + 1) c8)))
            clear ho8 hg8 hl8
            go_wp2_with fail
            go_roundw
            case rel => exact ⟨k + 1, a8, c8, U ++ [⟨t.var, n, k⟩], by go_num, by omega, by rw [HN.out], by simpa using P9.out, by simpa using R9.out, F9.out, by simpa using hrow9.out, by have := F9.out.rest.size; omega, A9.out⟩
            case measure => (simp [intOf]; omega)
          case step2 =>
            go_simp
            refine hK.out _ _ ?hS10 (fun hHeld' => ?rest10)
            case hS10 => ((try dsimp only); (first | (simp [go_sem, *]; done) | exact cell_below ((Below.refl _ _).alloc (Nat.le_refl _) _) (by assumption)))
            clear hK K
            (first | simp only [pA, pZ, pS] | simp only [pN] | skip)
            clear hHeld
            have hHeld := hHeld'
            clear hHeld'
            refine wpAnyH_ready (rs := [4]) (by kernel_rfl) (by simp) ?_
            refine AllReadyH.cons (o := ?o11) ?ho11 (fun K hK => ?step11) AllReadyH.nil
            case ho11 => (simp only [List.getElem?_toArray, List.getElem?_cons_succ, List.getElem?_cons_zero]; rfl)
            go_simp
            refine hK.out _ _ ?hS12 (fun hHeld' => ?rest12)
            case hS12 => ((try dsimp only); (first | assumption))
            clear hK K
            (first | simp only [pA, pZ, pS] | simp only [pN] | skip)
            clear hHeld
            have hHeld := hHeld'
            clear hHeld'
            refine wpAnyH_ready (rs := [12]) (by kernel_rfl) (by simp) ?_
            refine AllReadyH.cons (o := ?o13) ?ho13 (fun K hK => ?step13) AllReadyH.nil
            case ho13 => (simp only [List.getElem?_toArray, List.getElem?_cons_succ, List.getElem?_cons_zero]; rfl)
            (refine step_append_any (by rfl) (.tmp 36) (.tmp 43) 86 (by rfl) B 101 _ 3 32 Tryz.underlying86 infoVr (by rfl) (by omega) _ U.length _ (by rfl) (own_bel R4.out (HW4.out _)) (some ⟨_, 0, none⟩) 1 1 (by rfl) (vrCells ⟨t.var, n, k⟩) (by rfl) (fun e => by cases e) (news_new _ _ _ _ (by simp)) (vr_one _) (by unfold maxLen; omega) (by omega) (by simp; omega) ?_; intro a8 c8 w8 ho8 hg8 hl8; have P8 := hidP (show PlB w8 pb v0 (.slice va' U.length vc') from (hg8.out.block pb (by simp; omega) (fun e => hneP e.symm)).trans (((HW4.out _).block pb (by omega)).trans P4.out)); obtain ⟨⟨_, m1⟩, zz, _⟩ := P8.out.facts; have z1 := zz 1; clear zz)
            refine hK.out _ _ ?hS14 (fun hHeld' => ?rest14)
            case hS14 => ((try dsimp only); (first | exact (cell_grownP hg8.out hneT (by simp; omega)).trans (by assumption)))
            clear hK K
            (first | simp only [pA, pZ, pS] | simp only [pN] | skip)
            clear hHeld
            have hHeld := hHeld'
            clear hHeld'
            refine tk 13 hHeld ?_
            (try simp only [pA, pZ, pS])
            refine tk 14 hHeld ?_
            (try simp only [pA, pZ, pS])
            refine wpAnyH_ready (rs := [15]) (by kernel_rfl) (by simp) ?_
            refine AllReadyH.cons (o := ?o15) ?ho15 (fun K hK => ?step15) AllReadyH.nil
            case ho15 => (simp only [List.getElem?_toArray, List.getElem?_cons_succ, List.getElem?_cons_zero]; rfl)
            go_simp
            refine hK.out _ _ ?hS16 (fun hHeld' => ?rest16)
            case hS16 => ((try dsimp only); (first | (simp [go_sem, *]; done)))
            clear hK K
            (first | simp only [pA, pZ, pS] | simp only [pN] | skip)
            clear hHeld
            have hHeld := hHeld'
            clear hHeld'
            refine wpAnyH_done (by kernel_rfl) ?_ _
            refine NoPanic.normal ?_
            have R8 := hidP (show w8.ownsRow B 101 3 (.slice a8 (U.length + 1) c8) (U.length + 1) ((U ++ [(⟨t.var, n, k⟩ : Vr)]).flatMap vrCells) by have := ho8.out; simpa using this)
            have P9 := hidP (P8.out.set1 (.slice a8 (U.length + 1) c8))
            have R9 := hidP (own_set (o := 1) (x := .slice a8 (U.length + 1) c8) R8.out P8.out (by decide))
            have F9 := hidP (Fp.step (x := .slice a8 (U.length + 1) c8) FPR.out HRB.out D4.out (HW4.out _) hg8.out)
            have hrow9 := hidP (show ∀ g, (Value.slice a8 (U.length + 1) c8).ownBlock = some g → (Value.slice va vs.length vc).ownBlock = some g ∨ w.heap.size ≤ g by intro g hg; rcases hl8.out with h | h; exact HRB.out g (by rw [← h]; exact hg); right; rw [h] at hg; injection hg with hg; simp at hg; omega)
            have A9 := hidP ((((A4.out.trans ((HW4.out _).mono A4.out.size)).grown hg8.out (by have := A4.out.size; simp; omega) (fun g hg => Nat.le_trans hAB (R4.out.lt g hg).1)).setCell (p := ⟨pb, 1, none⟩) hAp (.slice a8 (U.length + 1) c8)))
            clear ho8 hg8 hl8
            go_wp2_with fail
            go_roundw
            case rel => exact ⟨k + 1, a8, c8, U ++ [⟨t.var, n, k⟩], by go_num, by omega, by rw [HN.out], by simpa using P9.out, by simpa using R9.out, F9.out, by simpa using hrow9.out, by have := F9.out.rest.size; omega, A9.out⟩
            case measure => (simp [intOf]; omega)
      · have b2' : (t.kind == 2) = false := by simpa using hk2
        have HN := hidP (show bindUpTo vs p.terms n (k + 1) = U by rw [HST.out, if_neg (fun h => hk2 h.1)])
        cases hlk : lookV U t.var with
        | some x =>
          rw [hlk] at HWH
          unfold whV at HWH
          clear hlk hk2
          go_wp2_with fail
          refine HWH.out.mono ?_
          rintro e w3 ⟨rfl, hb3⟩
          have D3 := hidP (D2.out.trans (hb3.mono D2.out.size))
          have f0 := cell_below hb3 d0
          have f2 := cell_below hb3 d2
          have hs3 := hb3.size
          clear hb3 HWH d0 d1 d2 d3 d4 d5 D2
          go_upto_region 5 with fail
          refine lift_alloc ?_
          intro w4 hW4 hq4
          have D4 := hidP (D3.out.trans (hW4.mono D3.out.size))
          have g0 := cell_below hW4 f0
          have g2 := cell_below hW4 f2
          have hs4 := hW4.size
          clear hW4 hq4 f0 f2 D3
          go_wp2_with fail
          go_roundw
          case rel => exact ⟨k + 1, va', vc', U, by go_num, by omega, HN.out, PR.out.bel D4.out, own_bel OR.out D4.out, FPR.out.bel D4.out, HRB.out, by have := D4.out.size; omega, AR.out.trans (D4.out.mono AR.out.size)⟩
          case measure => (simp [intOf]; omega)
        | none =>
          rw [hlk] at HWH
          unfold whV at HWH
          clear hlk hk2
          go_wp2_with fail
          refine HWH.out.mono ?_
          rintro e w3 ⟨rfl, hb3⟩
          have D3 := hidP (D2.out.trans (hb3.mono D2.out.size))
          have f0 := cell_below hb3 d0
          have f2 := cell_below hb3 d2
          have hs3 := hb3.size
          clear hb3 HWH d0 d1 d2 d3 d4 d5 D2
          go_upto_region 5 with fail
          refine lift_alloc ?_
          intro w4 hW4 hq4
          have D4 := hidP (D3.out.trans (hW4.mono D3.out.size))
          have g0 := cell_below hW4 f0
          have g2 := cell_below hW4 f2
          have hs4 := hW4.size
          clear hW4 hq4 f0 f2 D3
          go_wp2_with fail
          go_roundw
          case rel => exact ⟨k + 1, va', vc', U, by go_num, by omega, HN.out, PR.out.bel D4.out, own_bel OR.out D4.out, FPR.out.bel D4.out, HRB.out, by have := D4.out.size; omega, AR.out.trans (D4.out.mono AR.out.size)⟩
          case measure => (simp [intOf]; omega)
    · have hke : k = p.terms.length := by omega
      subst hke
      have hy : ¬ (p.terms.length : Int) < (p.terms.length : Int) := by omega
      go_wp2_with fail
      go_end0
      refine ⟨rfl, ?_, FPR.out, AR.out⟩
      rw [HU.out]
      exact ⟨va', vc', PR.out, OR.out, HRB.out⟩
end Go.Proofs.YtognpkdgphebeaaGreat
