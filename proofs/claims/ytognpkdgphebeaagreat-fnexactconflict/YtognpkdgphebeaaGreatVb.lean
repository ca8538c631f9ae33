/-
  OUR OWN TEXT. Tk2a, Tk2, one behind the other.
-/
import Derived.Test.YtognpkdgphebeaaGreatNd7m
import Derived.Test.YtognpkdgphebeaaGreatVa
import Derived.RangeFuncFrom
import Derived.RangeFuncBound
import Derived.RangeFuncCalls
import Derived.RangeFuncLeaves
import Derived.Shelf.Abstract
import Derived.OwnWalkIn
import Derived.TacticsInMore
import Derived.Deep.RegionWith
namespace Go.Proofs.YtognpkdgphebeaaGreat
open Go.RowKit Go.Maps

/-- What a round of the caller keeps: all but the block cb; blocks beyond M that hold no cells may turn, and blocks beyond L that hold rows of instantiations. -/
structure Kq (cb L M : Nat) (W W' : World) : Prop where
  os : W'.os = W.os
  tape : W'.tape = W.tape
  output : W'.output = W.output
  size : W.heap.size ≤ W'.heap.size
  block : ∀ k, k < W.heap.size → k ≠ cb → (k < L ∨ ((k < M ∨ ∃ c t fr, W.heap[k]? = some (.cells c t fr)) ∧ ∀ c fr, W.heap[k]? ≠ some (.cells c 123 fr))) → W'.heap[k]? = W.heap[k]?
theorem Kq.refl (cb L M : Nat) (W : World) : Kq cb L M W W := ⟨rfl, rfl, rfl, Nat.le_refl _, fun _ _ _ _ => rfl⟩
theorem Kq.trans {cb L M : Nat} {U V W : World} (h : Kq cb L M U V) (k : Kq cb L M V W) : Kq cb L M U W :=
  ⟨k.os.trans h.os, k.tape.trans h.tape, k.output.trans h.output, Nat.le_trans h.size k.size, fun j hj h1 h2 => by
    have e := h.block j hj h1 h2
    refine (k.block j (Nat.lt_of_lt_of_le hj h.size) h1 ?_).trans e
    rcases h2 with h2 | ⟨h2, h3⟩
    · exact .inl h2
    · refine .inr ⟨?_, fun c fr h4 => h3 c fr (e.symm.trans h4)⟩
      rcases h2 with h2 | ⟨c, t, fr, h2⟩
      · exact .inl h2
      · exact .inr ⟨c, t, fr, e.trans h2⟩⟩
theorem Kq.of_below {cb L M : Nat} {W W' : World} (h : Below W.heap.size W W') : Kq cb L M W W' := ⟨h.os, h.tape, h.output, h.size, fun j hj _ _ => h.block j hj⟩
theorem Kq.box {cb L M b : Nat} {W W' : World} {c : Array Value} {t : TypeId} {fr : Nat × Nat} (h : Kq cb L M W W') (hb : W.heap[b]? = some (.cells c t fr)) (hne : b ≠ cb) (ht : t ≠ 123) : W'.heap[b]? = some (.cells c t fr) :=
  (h.block b (lt_of_block' hb) hne (.inr ⟨.inr ⟨c, t, fr, hb⟩, fun c' fr' e => ht (by rw [hb] at e; injection e with e; injection e)⟩)).trans hb
theorem Kq.lko {cb L M E B : Nat} {w1 W W' : World} (h : Lko E B w1 W) (k : Kq cb L M W W') (hL : w1.heap.size ≤ L) (h1 : E ≤ cb) (h2 : cb < B) : Lko E B w1 W' :=
  ⟨k.os.trans h.os, k.tape.trans h.tape, k.output.trans h.output, Nat.le_trans h.size k.size, fun g hg h3 => (k.block g (Nat.lt_of_lt_of_le hg h.size) (by omega) (.inl (by omega))).trans (h.block g hg h3)⟩
abbrev Tk3 := Option Addr × Option Addr × Option Addr
/-- What does not change while a search goes on. -/
structure SK where
  wE : World
  w1 : World
  B : Nat
  cb : Nat
  M : Nat
  l : Nat
  pb : Nat
  yb : Nat
  sb : Nat
  xb : Nat
  base : Nat
  gb : Nat
  mb : Nat
  ca : Option Addr
  cc : Nat
  m : Nat
  vv : Value
  va : Option Addr
  vc : Nat
  la : Option Addr
  lc : Nat
  L : List AlX
  bs : List Nat
  V : List Value
  Q : List (Value × F)
  X : List Cx
  U : List Vr
  fs : List F
  mem : ∀ W, Lko wE.heap.size B w1 W → PD W base ca cc va vc X U (L.map Prod.fst) bs ∧ NF W base gb mb la lc L bs V (fun _ => Q)
  snd : Q.map Prod.snd = fs
  facs : ∀ y ∈ Q, FacAt wE y.1 y.2
  below : Below wE.heap.size wE w1
  hm : m ≤ X.length
  h1 : wE.heap.size ≤ cb
  h2 : cb < B
  h3 : w1.heap.size ≤ M
  n1 : pb ≠ cb
  n2 : yb ≠ cb
  n3 : sb ≠ cb
  n4 : xb ≠ cb
  f40 : fs.length ≤ 40
  small : ∀ c ∈ X, c.cp.tests.length ≤ 6
  X6 : X.length ≤ 6
  h4 : B ≤ w1.heap.size
/-- The boxes that the search has captured. -/
structure SX (K : SK) (W : World) : Prop where
  lk : Lko K.wE.heap.size K.B K.w1 W
  pl : W.heap[K.pb]? = some (.cells #[.slice K.ca K.m K.cc, K.vv] 88 (0, 0))
  yl : W.heap[K.yb]? = some (.cells #[.func (.yield K.l) #[] #[]] 156 (0, 0))
  sd : W.heap[K.sb]? = some (.cells #[.int .i64 (-1), .pointer none] 119 (0, 0))
  sr : W.heap[K.xb]? = some (.cells #[.func (.func 92) #[] #[.pointer (some ⟨K.pb, 0, none⟩), .pointer (some ⟨K.yb, 0, none⟩), .pointer (some ⟨K.sb, 0, none⟩), .pointer (some ⟨K.xb, 0, none⟩)]] 171 (0, 0))
theorem SX.bel {K : SK} {W W' : World} (h : SX K W) (hb : Below W.heap.size W W') : SX K W' :=
  ⟨h.lk.trans (Lko.of_below hb), (hb.block _ (lt_of_block' h.pl)).trans h.pl, (hb.block _ (lt_of_block' h.yl)).trans h.yl, (hb.block _ (lt_of_block' h.sd)).trans h.sd, (hb.block _ (lt_of_block' h.sr)).trans h.sr⟩
theorem SX.kq {K : SK} {W W' : World} (h : SX K W) (hk : Kq K.cb K.w1.heap.size K.M W W') : SX K W' :=
  ⟨hk.lko h.lk (Nat.le_refl _) K.h1 K.h2, hk.box h.pl K.n1 (by decide), hk.box h.yl K.n2 (by decide), hk.box h.sd K.n3 (by decide), hk.box h.sr K.n4 (by decide)⟩
theorem SX.entry {K : SK} {W : World} (h : SX K W) : Below K.wE.heap.size K.wE W := Lko.below K.below K.below.size h.lk
def tkv (x : Tk3) : Value := .agg #[.pointer x.1, .pointer x.2.1, .pointer x.2.2]
/-- A token of facts in memory: none behind its last one. -/
structure TokX (w : World) (p0 p1 p2 : Option Addr) (T : List F) : Prop where
  tok : TokAt w (.pointer p0) (.pointer p1) (.pointer p2) T
  z0 : T.length ≤ 0 → p0 = none
  z1 : T.length ≤ 1 → p1 = none
  z2 : T.length ≤ 2 → p2 = none
  le : T.length ≤ 3
/-- A token that is told, with its facts. -/
def TkX (w : World) := {y : Tk3 × List F // TokX w y.1.1 y.1.2.1 y.1.2.2 y.2}
def tkT {w : World} (x : TkX w) : List F := x.1.2
/-- What a search leaves. -/
def SPost (K : SK) (J Jx : List (TkX K.wE) → World → Prop) (pre : List (TkX K.wE)) (Ts : List (List F)) (W : World) (e : Ending) (W' : World) : Prop :=
  (e = .returned (.bool true) ∧ ∃ ys : List (TkX K.wE), ys.map tkT = Ts ∧ J (pre ++ ys) W' ∧ Kq K.cb K.w1.heap.size K.M W W') ∨ (e = .returned (.bool false) ∧ ∃ q, Jx q W')
/-- A condition of the search in memory: fixed places. -/
theorem SK.cond (K : SK) {k : Nat} {c : Cx} (hc : K.X[k]? = some c) : ∃ g fa fc, K.ca = some ⟨g, 0, none⟩ ∧ ∀ W, Lko K.wE.heap.size K.B K.w1 W →
    (W.cell? ⟨g, k * 4, none⟩ = some (.bool c.cp.neg) ∧ W.cell? ⟨g, k * 4 + 1, none⟩ = some (.int .i64 (c.cp.at_ : Int)) ∧ W.cell? ⟨g, k * 4 + 2, none⟩ = some (.pointer (some ⟨c.node, 0, none⟩)) ∧ W.cell? ⟨g, k * 4 + 3, none⟩ = some (.slice c.ta c.cp.tests.length c.tc)) ∧ JtsAt W c.ta c.cp.tests ∧ W.cell? ⟨c.node, 4, none⟩ = some (.slice fa (cnOf K.fs c).facts.length fc) ∧ FpsAt W fa (cnOf K.fs c).facts ∧
    (∀ (j : Nat) (f : F), (cnOf K.fs c).facts[j]? = some f → ∃ h, fa = some ⟨h, 0, none⟩ ∧ ∃ fb fo, W.cell? ⟨h, j, none⟩ = some (.pointer (some ⟨fb, fo, none⟩)) ∧ FacAt K.wE (.pointer (some ⟨fb, fo, none⟩)) f) := by
  obtain ⟨hP0, hN0⟩ := K.mem K.w1 (Lko.refl _ _ _)
  have hcm := List.mem_of_getElem? hc
  obtain ⟨i, hA, hb⟩ := hP0.nodes c hcm
  rw [List.getElem?_map] at hA
  obtain ⟨x, hx, hxa⟩ := Option.map_eq_some_iff.1 hA
  have hml : i < K.L.length := (List.getElem?_eq_some_iff.1 hx).1
  obtain ⟨v, hv⟩ : ∃ v, K.V[i]? = some v := ⟨K.V[i]'(by rw [hN0.lenv]; exact hml), by simp⟩
  obtain ⟨_, _, ⟨fa, fc, rfl⟩, _⟩ := hN0.node i x c.node v hx hb hv
  rw [hxa] at hv
  obtain ⟨g, hg, _, _, _⟩ := owns_cell hP0.conds (flat_gen (cells := cxCells) (m := 4) (fun _ => rfl) K.X k c 0 _ hc rfl)
  have hsl : (sel c.cp.alpha K.Q).map Prod.snd = K.fs.filter (passes c.cp.alpha) := by rw [sel_snd, K.snd]
  have hlen : (sel c.cp.alpha K.Q).length = (K.fs.filter (passes c.cp.alpha)).length := by rw [← hsl, List.length_map]
  refine ⟨g, fa, fc, hg, fun W hW => ?_⟩
  obtain ⟨hP, hN⟩ := K.mem W hW
  have key := fun j u (hj : (cxCells c)[j]? = some u) => owns_cell hP.conds (flat_gen (cells := cxCells) (m := 4) (fun _ => rfl) K.X k c j u hc hj)
  rw [hg] at key
  obtain ⟨_, e0, _, c0, _⟩ := key 0 _ rfl
  obtain ⟨_, e1, _, c1, _⟩ := key 1 _ rfl
  obtain ⟨_, e2, _, c2, _⟩ := key 2 _ rfl
  obtain ⟨_, e3, _, c3, _⟩ := key 3 _ rfl
  cases e0
  cases e1
  cases e2
  cases e3
  obtain ⟨n1, _, _, n4⟩ := hN.node i x c.node _ hx hb hv
  rw [hxa] at n4
  obtain ⟨⟨_, _, _, y4⟩, _⟩ := n1.facts
  have each : ∀ (j : Nat) (f : F), (cnOf K.fs c).facts[j]? = some f → ∃ h, fa = some ⟨h, 0, none⟩ ∧ ∃ fb fo, W.cell? ⟨h, j, none⟩ = some (.pointer (some ⟨fb, fo, none⟩)) ∧ FacAt K.wE (.pointer (some ⟨fb, fo, none⟩)) f := by
    intro j f hj
    have hj' : ((sel c.cp.alpha K.Q).map Prod.snd)[j]? = some f := by rw [hsl]; exact hj
    rw [List.getElem?_map] at hj'
    obtain ⟨y, hy, rfl⟩ := Option.map_eq_some_iff.1 hj'
    obtain ⟨h, rfl, _, hh, _⟩ := owns_cell n4 (show ((sel c.cp.alpha K.Q).map Prod.fst)[j]? = some y.1 by rw [List.getElem?_map, hy]; rfl)
    have hF := K.facs y (List.mem_filter.1 (List.mem_of_getElem? hy)).1
    obtain ⟨fb, fo, he, rest⟩ := hF
    exact ⟨h, rfl, fb, fo, by rw [← he]; exact hh, fb, fo, rfl, rest⟩
  refine ⟨⟨by simpa using c0, by simpa using c1, by simpa using c2, by simpa using c3⟩, JtsAt.owns (hP.tests c hcm), ?_, ?_, each⟩
  · show W.cell? ⟨c.node, 4, none⟩ = some (.slice fa (K.fs.filter (passes c.cp.alpha)).length fc)
    rw [← hlen]
    exact y4
  · intro j f hj
    obtain ⟨h, e, fb, fo, h1, h2⟩ := each j f hj
    exact ⟨h, 0, _, e, by simpa using h1, h2.below (Lko.below K.below K.below.size hW)⟩
theorem setP_ptr (i : Nat) (x p0 p1 p2 : Option Addr) : setP i (.pointer x) (.pointer p0) (.pointer p1) (.pointer p2) = #[.pointer (if i = 0 then x else p0), .pointer (if i = 1 then x else p1), .pointer (if i = 2 then x else p2)] := by
  unfold setP
  congr 1
  simp only [List.cons.injEq, and_true]
  refine ⟨?_, ?_, ?_⟩ <;> split <;> rfl
theorem TokAt.put {w : World} {p0 p1 p2 y : Option Addr} {T : List F} {f : F} (h : TokAt w (.pointer p0) (.pointer p1) (.pointer p2) T) (hk : T.length < 3) (hy : FacAt w (.pointer y) f) : TokAt w (.pointer (if T.length = 0 then y else p0)) (.pointer (if T.length = 1 then y else p1)) (.pointer (if T.length = 2 then y else p2)) (T ++ [f]) := by
  intro i g hi
  by_cases hil : i < T.length
  · rw [List.getElem?_append_left hil] at hi
    obtain ⟨pv, h1, h2⟩ := h i g hi
    refine ⟨pv, ?_, h2⟩
    rcases i with _ | _ | _ | i
    · rw [if_neg (by omega)]
      simpa using h1
    · rw [if_neg (show ¬ T.length = 1 by omega)]
      simpa using h1
    · omega
    · omega
  · have e : i = T.length := by
      have := (List.getElem?_eq_some_iff.1 hi).1
      simp at this
      omega
    subst e
    simp at hi
    subst hi
    refine ⟨.pointer y, ?_, hy⟩
    rcases (show T.length = 0 ∨ T.length = 1 ∨ T.length = 2 by omega) with h | h | h <;> rw [h] <;> simp
theorem TokX.put {w : World} {p0 p1 p2 y : Option Addr} {T : List F} {f : F} (h : TokX w p0 p1 p2 T) (hk : T.length < 3) (hy : FacAt w (.pointer y) f) : TokX w (if T.length = 0 then y else p0) (if T.length = 1 then y else p1) (if T.length = 2 then y else p2) (T ++ [f]) := by
  have hl : (T ++ [f]).length = T.length + 1 := by simp
  refine ⟨h.tok.put hk hy, fun e => ?_, fun e => ?_, fun e => ?_, ?_⟩
  · omega
  · rw [if_neg (by omega)]
    exact h.z1 (by omega)
  · rw [if_neg (by omega)]
    exact h.z2 (by omega)
  · omega
theorem tokWith_tok (p0 p1 p2 x : Option Addr) (T : List F) (f : F) (wE w : World) (hT : TokX wE p0 p1 p2 T) (hk : T.length < 3) (hx : FacAt wE (.pointer x) f) :
    Calls Tryz.prog 97 #[.agg #[.pointer p0, .pointer p1, .pointer p2], .int .i64 (T.length : Int), .pointer x] w fun e w' => ∃ q0 q1 q2, e = .returned (.agg #[.pointer q0, .pointer q1, .pointer q2]) ∧ Hid (TokX wE q0 q1 q2 (T ++ [f])) ∧ Below w.heap.size w w' := by
  refine (tokWith_any p0 p1 p2 x T.length w hk).mono ?_
  rintro e w' ⟨rfl, hb⟩
  exact ⟨_, _, _, by rw [setP_ptr], hT.put hk hx, hb⟩
theorem SPost.one {K : SK} {J Jx : List (TkX K.wE) → World → Prop} {pre : List (TkX K.wE)} {Ts : List (List F)} {W : World} {e : Ending} {W' : World} (h : SPost K J Jx pre Ts W e W') : ∃ b : Bool, e = .returned (.bool b) ∧ Hid (b = true → ∃ ys : List (TkX K.wE), ys.map tkT = Ts ∧ J (pre ++ ys) W' ∧ Kq K.cb K.w1.heap.size K.M W W') ∧ Hid (b = false → ∃ q, Jx q W') := by
  rcases h with ⟨rfl, h⟩ | ⟨rfl, h⟩
  · exact ⟨true, rfl, hidP (fun _ => h), hidP (fun hb => (by cases hb))⟩
  · exact ⟨false, rfl, hidP (fun hb => (by cases hb)), hidP (fun _ => h)⟩
end Go.Proofs.YtognpkdgphebeaaGreat

namespace Go.Proofs.YtognpkdgphebeaaGreat
open Go.RowKit Go.Maps
attribute [local go_sem ↓] Go.wp_at_zero Go.wp_at_succ

theorem cell1P {w : World} {b : Nat} {ty : TypeId} {x0 : Value} (h : w.heap[b]? = some (.cells #[x0] ty (0, 0))) : w.cell? ⟨b, 0, none⟩ = some x0 := by simp [World.cell?, h]
set_option maxRecDepth 100000 in
set_option maxHeartbeats 12800000 in
theorem search_nil (Z : SK) (J Jx : List (TkX Z.wE) → World → Prop) (N : Nat) (hJ : ∀ s W W', J s W → Below W.heap.size W W' → J s W')
    (hY : ∀ (mm : Nat) (pre : List (TkX Z.wE)) (x : TkX Z.wE) (W1 : World), J pre W1 → pre.length < N → YieldAt Fence.wide mm Tryz.prog Z.l #[tkv x.1.1] W1 fun e W' => (e = .returned (.bool true) ∧ J (pre ++ [x]) W' ∧ Kq Z.cb Z.w1.heap.size Z.M W1 W') ∨ (e = .returned (.bool false) ∧ Jx (pre ++ [x]) W'))
    (T : List F) (p0 p1 p2 : Option Addr) (hTK : TokX Z.wE p0 p1 p2 T) (pre : List (TkX Z.wE)) (W : World) (hSX : SX Z W) (hJ0 : J pre W) (hN : pre.length < N) :
      Calls Tryz.prog 92 #[.int .i64 (Z.m : Int), .agg #[.pointer p0, .pointer p1, .pointer p2], .pointer (some ⟨Z.pb, 0, none⟩), .pointer (some ⟨Z.yb, 0, none⟩), .pointer (some ⟨Z.sb, 0, none⟩), .pointer (some ⟨Z.xb, 0, none⟩)] W (SPost Z J Jx pre [T] W) := by
  go_enter Tryz.func92, Tryz.ntmps92
  go_upto_region 1 with fail
  refine lift_alloc ?_
  intro w0 hW0 hq0
  obtain ⟨t0, t1, t2⟩ := cells3P hq0
  have SX0 := hidP (hSX.bel hW0)
  obtain ⟨g0, _⟩ := cells2P SX0.out.pl
  have y0 := cell1P SX0.out.yl
  have J0 := hJ _ _ _ hJ0 hW0
  have K0 := hidP (Kq.of_below (cb := Z.cb) (L := Z.w1.heap.size) (M := Z.M) hW0)
  obtain ⟨fn, tm, asg, bdy, hy, hR⟩ := hY 5 pre ⟨((p0, p1, p2), T), hTK⟩ w0 J0 hN
  have HR := hidP hR
  have hy' : (Instr.yield Z.l #[.agg #[.pointer p0, .pointer p1, .pointer p2]]).run Tryz.prog w0 = .ok (.round Z.l fn tm asg bdy) w0 := hy
  clear hW0 hq0 hy hR
  go_upto_region 2 with fail
  refine (wpIn_wide (n := 6)).1 ?_
  gi_wp2
  refine HR.out.mono ?_
  rintro e W' (⟨rfl, hJ', hk⟩ | ⟨rfl, hx⟩)
  · gi_wp2
    go_wp2_with fail
    go_ret
    exact .inl ⟨rfl, [⟨((p0, p1, p2), T), hTK⟩], rfl, hJ', K0.out.trans hk⟩
  · gi_wp2
    go_wp2_with fail
    go_ret
    exact .inr ⟨rfl, _, hx⟩
set_option maxRecDepth 100000 in
set_option maxHeartbeats 12800000 in
theorem search_neg (Z : SK) (J Jx : List (TkX Z.wE) → World → Prop) (hJ : ∀ s W W', J s W → Below W.heap.size W W' → J s W') (c : Cx) (k : Nat) (hc : Z.X[k]? = some c) (hkm : k < Z.m) (T : List F) (p0 p1 p2 : Option Addr) (pre : List (TkX Z.wE)) (W : World) (hSX : SX Z W) (hTK : TokX Z.wE p0 p1 p2 T) (hfit : ∀ f ∈ (cnOf Z.fs c).facts, ∀ t ∈ c.cp.tests, t.fits T f) (hJ0 : J pre W) (hneg : c.cp.neg = true) (n r : List (List F)) (hr1 : (cnOf Z.fs c).facts.any (fun f => c.cp.tests.all (jHolds T f)) = true → r = []) (hr0 : (cnOf Z.fs c).facts.any (fun f => c.cp.tests.all (jHolds T f)) = false → r = n)
    (HIH : (cnOf Z.fs c).facts.any (fun f => c.cp.tests.all (jHolds T f)) = false → ∀ W', SX Z W' → J pre W' → Calls Tryz.prog 92 #[.int .i64 ((k : Int) + 1), .agg #[.pointer p0, .pointer p1, .pointer p2], .pointer (some ⟨Z.pb, 0, none⟩), .pointer (some ⟨Z.yb, 0, none⟩), .pointer (some ⟨Z.sb, 0, none⟩), .pointer (some ⟨Z.xb, 0, none⟩)] W' (SPost Z J Jx pre n W')) :
      Calls Tryz.prog 92 #[.int .i64 (k : Int), .agg #[.pointer p0, .pointer p1, .pointer p2], .pointer (some ⟨Z.pb, 0, none⟩), .pointer (some ⟨Z.yb, 0, none⟩), .pointer (some ⟨Z.sb, 0, none⟩), .pointer (some ⟨Z.xb, 0, none⟩)] W (SPost Z J Jx pre r W) := by
  obtain ⟨g, fa, fc, hca, hmem⟩ := Z.cond hc
  have hts := Z.small c (List.mem_of_getElem? hc)
  have hfl : (cnOf Z.fs c).facts.length ≤ 1048576 := Nat.le_trans (List.length_filter_le _ _) (by have := Z.f40; omega)
  have HM := hidP hmem
  have HTK := hidP hTK
  have HF := hidP hfit
  have HI := hidP HIH
  have HR1 := hidP hr1
  have HR0 := hidP hr0
  clear hmem hTK hfit HIH hr1 hr0
  have hkn : ((k : Int) == (Z.m : Int)) = false := by simp; omega
  have z0 : (0 : Int) ≤ (k : Int) := by omega
  have z1 : (k : Int) < (Z.m : Int) := by omega
  have hk40 : (k : Int) < 1000000 := by have := Z.hm; have := (List.getElem?_eq_some_iff.1 hc).1; have := Z.X6; omega
  go_enter Tryz.func92, Tryz.ntmps92
  go_upto_region 1 with fail
  refine lift_alloc ?_
  intro w0 hW0 hq0
  obtain ⟨t0, t1, t2⟩ := cells3P hq0
  have SX0 := hidP (hSX.bel hW0)
  obtain ⟨g0, _⟩ := cells2P SX0.out.pl
  rw [hca] at g0
  obtain ⟨⟨c0, c1, c2, c3⟩, _⟩ := HM.out w0 SX0.out.lk
  have J0 := hidP (hJ _ _ _ hJ0 hW0)
  have B0 := hidP hW0
  rw [hneg] at c0
  clear hW0 hq0
  go_upto_region 4 with fail
  refine lift_alloc ?_
  intro w2 hW2 hq2
  obtain ⟨d0, d1, d2, d3⟩ := cells4P hq2
  have u0 := cell_below hW2 t0
  have u1 := cell_below hW2 t1
  have u2 := cell_below hW2 t2
  have SX2 := hidP (SX0.out.bel hW2)
  have J2 := hidP (hJ _ _ _ J0.out hW2)
  have B2 := hidP (B0.out.trans (hW2.mono B0.out.size))
  obtain ⟨s0, s1⟩ := cells2P SX2.out.sd
  clear hW2 hq2 t0 t1 t2 c0 c1 c2 c3 g0 SX0 J0 B0
  go_wp2_with fail
  refine (misses_any k _ _ _ _ _ _ _ w2).mono ?_
  rintro e w3 ⟨rfl, hb3⟩
  have f0 := cell_below hb3 d0
  have f1 := cell_below hb3 d1
  have f2 := cell_below hb3 d2
  have f3 := cell_below hb3 d3
  have v0 := cell_below hb3 u0
  have v1 := cell_below hb3 u1
  have v2 := cell_below hb3 u2
  have SX3 := hidP (SX2.out.bel hb3)
  have J3 := hidP (hJ _ _ _ J2.out hb3)
  have B3 := hidP (B2.out.trans (hb3.mono B2.out.size))
  clear hb3 d0 d1 d2 d3 u0 u1 u2 s0 s1 SX2 J2 B2
  obtain ⟨_, m1, m2, m3, _⟩ := HM.out w3 SX3.out.lk
  have HB := hidP (barred_any (.bool true) (.int .i64 (c.cp.at_ : Int)) (.pointer p0) (.pointer p1) (.pointer p2) c.node c.cp.tests c.ta c.tc T (cnOf Z.fs c).facts fa fc w3 m2 m1 (HTK.out.tok.below SX3.out.entry) m3 (Nat.le_trans hts (by decide)) hfl HF.out)
  clear m1 m2 m3
  cases hm : (cnOf Z.fs c).facts.any (fun f => c.cp.tests.all (jHolds T f))
  · rw [hm] at HB
    replace HI := hidP (HI.out hm)
    replace HR0 := hidP (HR0.out hm)
    clear hm
    go_wp2_with fail
    refine HB.out.mono ?_
    rintro e w4 ⟨rfl, hb4⟩
    have v0' := cell_below hb4 v0
    have v1' := cell_below hb4 v1
    have v2' := cell_below hb4 v2
    have SX4 := hidP (SX3.out.bel hb4)
    have J4 := hidP (hJ _ _ _ J3.out hb4)
    have B4 := hidP (B3.out.trans (hb4.mono B3.out.size))
    have x0 := cell1P SX4.out.sr
    clear hb4 f0 f1 f2 f3 v0 v1 v2 SX3 J3 B3 HB
    go_wp2_with fail
    refine (HI.out w4 SX4.out J4.out).mono ?_
    rintro e w5 (⟨rfl, ys, hl, hj, hk⟩ | ⟨rfl, q, hq⟩)
    · go_wp2_with fail
      go_ret
      exact .inl ⟨rfl, ys, hl.trans HR0.out.symm, hj, (Kq.of_below B4.out).trans hk⟩
    · go_wp2_with fail
      go_ret
      exact .inr ⟨rfl, q, hq⟩
  · rw [hm] at HB
    replace HR1 := hidP (HR1.out hm)
    clear hm
    go_wp2_with fail
    refine HB.out.mono ?_
    rintro e w4 ⟨rfl, hb4⟩
    have J4 := hidP (hJ _ _ _ J3.out hb4)
    have B4 := hidP (B3.out.trans (hb4.mono B3.out.size))
    clear hb4
    go_wp2_with fail
    go_ret
    exact .inl ⟨rfl, [], HR1.out.symm, by simpa using J4.out, Kq.of_below B4.out⟩
end Go.Proofs.YtognpkdgphebeaaGreat
