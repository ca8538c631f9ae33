/-
  OUR OWN TEXT. Tk4, Tk5, Mm6, Tk6, one behind the other.
-/
import Derived.Test.YtognpkdgphebeaaGreatTk3m
import Derived.Test.YtognpkdgphebeaaGreatOb
namespace Go.Proofs.YtognpkdgphebeaaGreat
open Go.RowKit Go.Maps
attribute [local go_sem ↓] Go.wp_at_zero Go.wp_at_succ

theorem drop_next {α : Type} {l ds : List α} {k : Nat} {c : α} (h : l.drop k = c :: ds) : l[k]? = some c ∧ l.drop (k + 1) = ds := by
  constructor
  · have := congrArg (fun x => x[0]?) h
    simpa using this
  · rw [← List.drop_drop, h]
    rfl
theorem castK (k : Nat) : ((k + 1 : Nat) : Int) = (k : Int) + 1 := by simp
theorem search_any (Z : SK) (J Jx : List Tk3 → World → Prop) (N : Nat) (hJ : ∀ s W W', J s W → Below W.heap.size W W' → J s W')
    (hY : ∀ (mm : Nat) (pre : List Tk3) (x : Tk3) (W1 : World), J pre W1 → pre.length < N → YieldAt Fence.wide mm Tryz.prog Z.l #[tkv x] W1 fun e W' => (e = .returned (.bool true) ∧ J (pre ++ [x]) W' ∧ Kq Z.cb Z.M W1 W') ∨ (e = .returned (.bool false) ∧ Jx (pre ++ [x]) W')) :
    ∀ (ds : List Cx) (k : Nat) (T : List F) (p0 p1 p2 : Option Addr) (pre : List Tk3) (W : World), (Z.X.take Z.m).drop k = ds → k ≤ Z.m → SX Z W → TokAt Z.wE (.pointer p0) (.pointer p1) (.pointer p2) T → SrOk (ds.map (cnOf Z.fs)) T → J pre W → pre.length + (extsC (ds.map (cnOf Z.fs)) T).length ≤ N →
      Calls Tryz.prog 92 #[.int .i64 (k : Int), .agg #[.pointer p0, .pointer p1, .pointer p2], .pointer (some ⟨Z.pb, 0, none⟩), .pointer (some ⟨Z.yb, 0, none⟩), .pointer (some ⟨Z.sb, 0, none⟩), .pointer (some ⟨Z.xb, 0, none⟩)] W (SPost Z J Jx pre (extsC (ds.map (cnOf Z.fs)) T).length W) := by
  intro ds
  induction ds with
  | nil =>
    intro k T p0 p1 p2 pre W hds hkm hSX hTK hSO hJ0 hN
    have hke : k = Z.m := by
      have h1 := congrArg List.length hds
      rw [List.length_drop, List.length_take] at h1
      have h2 := Z.hm
      simp at h1
      omega
    subst hke
    exact search_nil Z J Jx N hJ hY p0 p1 p2 pre W hSX hJ0 (by simp [extsC] at hN; omega)
  | cons c ds ih =>
    intro k T p0 p1 p2 pre W hds hkm hSX hTK hSO hJ0 hN
    obtain ⟨hc', hds'⟩ := drop_next hds
    have hkl : k < Z.m := by
      have h1 := (List.getElem?_eq_some_iff.1 hc').1
      rw [List.length_take] at h1
      omega
    have hc : Z.X[k]? = some c := by
      rw [List.getElem?_take, if_pos hkl] at hc'
      exact hc'
    rw [List.map_cons] at hSO hN
    obtain ⟨hat, hlt, hfit, hrest⟩ := hSO
    cases hneg : c.cp.neg with
    | true =>
      have hn' : (cnOf Z.fs c).neg = true := hneg
      rw [if_pos hn'] at hrest
      rw [List.map_cons, extsC_neg hn']
      rw [extsC_neg hn'] at hN
      refine search_neg Z J Jx hJ c k hc hkl T p0 p1 p2 pre W hSX hTK hfit hJ0 hneg (extsC (ds.map (cnOf Z.fs)) T).length _ (fun h => ?_) (fun h => ?_) (fun h W' hS' hJ' => ?_)
      · rw [if_pos (show (cnOf Z.fs c).facts.any (fun f => (cnOf Z.fs c).tests.all (jHolds T f)) = true from h)]
        rfl
      · rw [if_neg (show ¬ (cnOf Z.fs c).facts.any (fun f => (cnOf Z.fs c).tests.all (jHolds T f)) = true from by rw [show (cnOf Z.fs c).facts.any (fun f => (cnOf Z.fs c).tests.all (jHolds T f)) = false from h]; simp)]
      · have hx := ih (k + 1) T p0 p1 p2 pre W' hds' (by omega) hS' hTK hrest hJ' (by rw [if_neg (show ¬ (cnOf Z.fs c).facts.any (fun f => (cnOf Z.fs c).tests.all (jHolds T f)) = true from by rw [show (cnOf Z.fs c).facts.any (fun f => (cnOf Z.fs c).tests.all (jHolds T f)) = false from h]; simp)] at hN; exact hN)
        rw [castK] at hx
        exact hx
    | false =>
      have hn' : (cnOf Z.fs c).neg = false := hneg
      rw [if_neg (by rw [hn']; simp)] at hrest
      rw [List.map_cons, extsC_pos hn']
      rw [extsC_pos hn', List.length_flatMap] at hN
      refine search_pos Z J Jx hJ c k hc hkl T p0 p1 p2 pre W hSX hTK hfit hJ0 hneg hat (hlt hn') N _ (fun f => (if c.cp.tests.all (jHolds T f) = true then extsC (ds.map (cnOf Z.fs)) (T ++ [f]) else []).length) (by rw [List.length_flatMap]; rfl) (by rw [List.length_flatMap]; exact hN) (fun f _ h => ?_) (fun f hf h pre' W' q0 q1 q2 hS' hJ' hb hT' => ?_)
      · simp [h]
      · simp only [if_pos h] at hb ⊢
        have hx := ih (k + 1) (T ++ [f]) q0 q1 q2 pre' W' hds' (by omega) hS' hT' (hrest f hf h) hJ' hb
        rw [castK] at hx
        exact hx
theorem run_store_fnP {P : Program} (w : World) (a : Addr) (m : Mode) (fn : Fn) (x y : Array Value) : (store a (.func fn x y) m).run P w = stored P w a (.func fn x y) m := run_store P w a _ m rfl
theorem lift_b1P {P : World → Prop} {w : World} {b : Nat} {t : TypeId} {x0 y0 : Value} (h0 : w.heap[b]? = some (.cells #[x0] t (0, 0))) (h : ∀ wt, wt.heap[b]? = some (.cells #[y0] t (0, 0)) → Turned w wt b → P wt) : P (w.setCell ⟨b, 0, none⟩ y0) := by
  have h1 := heap_setCell_same (i := 0) h0 y0
  exact h _ (by simpa using h1) (Turned.setCells [y0] 0 w b)
theorem roomW (k : Nat) : Fence.wide.room k := room_wide k
theorem YieldAt.wideDepth {m : Nat} (m' : Nat) {P : Program} {l : Nat} {args : Array Value} {W : World} {R : Ending → World → Prop} (h : YieldAt Fence.wide m P l args W R) : YieldAt Fence.wide m' P l args W R := by
  obtain ⟨fn, tmps, assign, body, hy, hR⟩ := h
  exact ⟨fn, tmps, assign, body, hy, hR.1, fun c cs _ => hR.2 c cs (roomW _)⟩
theorem abides_bel {J : List Tk3 → World → Prop} {B : Nat} (h : AbidesFrom B J) : ∀ s W W', J s W → Below W.heap.size W W' → J s W' := fun s W W' hs hb =>
  h s W W' none hs ⟨hb.os, hb.tape, hb.output, hb.size, fun k hk _ => hb.block k hk⟩ (fun r e => by cases e)
set_option maxRecDepth 100000 in
set_option maxHeartbeats 3200000 in
theorem matches1_any (Z : SK) (J Jx : List Tk3 → World → Prop) (hJ : ∀ s W W', J s W → Below W.heap.size W W' → J s W') (W : World) (hlk : Lko Z.wE.heap.size Z.B Z.w1 W)
    (hpl : W.heap[Z.pb]? = some (.cells #[.slice Z.ca Z.m Z.cc, Z.vv] 88 (0, 0))) (hsd : W.heap[Z.sb]? = some (.cells #[.int .i64 (-1), .pointer none] 119 (0, 0))) (hyb : Z.yb = W.heap.size) (hxb : Z.xb = W.heap.size + 1) (hso : SrOk ((Z.X.take Z.m).map (cnOf Z.fs)) [])
    (hY : ∀ (mm : Nat) (pre : List Tk3) (x : Tk3) (W1 : World), J pre W1 → pre.length < (extsC ((Z.X.take Z.m).map (cnOf Z.fs)) []).length → YieldAt Fence.wide mm Tryz.prog Z.l #[tkv x] W1 fun e W' => (e = .returned (.bool true) ∧ J (pre ++ [x]) W' ∧ Kq Z.cb Z.M W1 W') ∨ (e = .returned (.bool false) ∧ Jx (pre ++ [x]) W')) (h0 : J [] W) :
    Calls Tryz.prog 91 #[.func (.yield Z.l) #[] #[], .pointer (some ⟨Z.pb, 0, none⟩), .pointer (some ⟨Z.sb, 0, none⟩)] W fun e W' => (∃ v, e = .returned v) ∧ ((∃ xs, List.length xs = (extsC ((Z.X.take Z.m).map (cnOf Z.fs)) []).length ∧ J xs W') ∨ (∃ pre, True ∧ Jx pre W')) := by
  have hmf := hmfP
  go_enter Tryz.func91, Tryz.ntmps91
  go_upto_region 2 with fail
  refine lift2P ?_
  intro w1 hW1 hr1 hr2
  rw [← hyb] at hr1 ⊢
  rw [← hxb] at hr2
  rw [show Z.yb + 1 = Z.xb by omega]
  have hyx : Z.yb < Z.xb := by omega
  have hwy : W.heap.size ≤ Z.yb := by omega
  clear hyb hxb
  have hsf := @run_store_fnP Tryz.prog
  have k0 := cell1P hr2
  have k1 : w1.frozen? ⟨Z.xb, 0, none⟩ = false := by simp [World.frozen?, hr2]
  go_upto_region 3 with fail
  refine lift_b1P hr2 ?_
  intro w2 hq2 ht2
  have hW2 : Below W.heap.size W w2 := hW1.trans (ht2.below (by omega))
  have hq1 := (ht2.block Z.yb (by omega)).trans hr1
  clear k0 k1 hr1 hr2 ht2 hW1 hsf
  have SX2 := hidP (show SX Z w2 from ⟨hlk.trans (Lko.of_below hW2), (hW2.block _ (lt_of_block' hpl)).trans hpl, hq1, (hW2.block _ (lt_of_block' hsd)).trans hsd, hq2⟩)
  have x0 := cell1P hq2
  have HS := hidP (search_any Z J Jx _ hJ hY (Z.X.take Z.m) 0 [] none none none [] w2 (by simp) (Nat.zero_le _) SX2.out (fun i f hi => by simp at hi) hso (hJ _ _ _ h0 hW2) (by simp))
  clear hW2 hq1 hq2 hpl hsd hlk
  go_wp2_with fail
  refine HS.out.mono ?_
  rintro e w3 (⟨rfl, ys, hl, hj, _⟩ | ⟨rfl, q, hq⟩)
  · go_wp2_with fail
    go_end0
    exact ⟨⟨_, rfl⟩, .inl ⟨ys, hl, by simpa using hj⟩⟩
  · go_wp2_with fail
    go_end0
    exact ⟨⟨_, rfl⟩, .inr ⟨q, trivial, hq⟩⟩
set_option maxHeartbeats 1600000 in
theorem matches_any (v0 v1 : Value) (a0 a1 : Option Addr) (n0 c0 n1 c1 : Nat) (h0 : v0 = .slice a0 n0 c0) (h1 : v1 = .slice a1 n1 c1) (w : World) :
    Calls Tryz.prog 60 #[.agg #[v0, v1], .agg #[.int .i64 (-1), .pointer none]] w fun e w' => e = .returned (.func (.func 91) #[] #[.pointer (some ⟨w.heap.size, 0, none⟩), .pointer (some ⟨w.heap.size + 1, 0, none⟩)]) ∧ Hid (w'.heap[w.heap.size]? = some (.cells #[v0, v1] 88 (0, 0))) ∧ Hid (w'.heap[w.heap.size + 1]? = some (.cells #[.int .i64 (-1), .pointer none] 119 (0, 0))) ∧ Below w.heap.size w w' := by
  subst h0 h1
  have hmf := hmfP
  go_enter Tryz.func60, Tryz.ntmps60
  go_upto_region 1 with fail
  refine lift2P ?_
  intro w2 hW2 hq1 hq2
  have B2 := hidP hW2
  have Q1 := hidP hq1
  have Q2 := hidP hq2
  clear hW2 hq1 hq2
  go_wp2_with fail
  go_ret
  exact ⟨rfl, Q1, Q2, B2.out⟩
set_option maxHeartbeats 1600000 in
theorem noSeed_any (w : World) : Calls Tryz.prog 61 #[] w fun e w' => e = .returned (.agg #[.int .i64 (-1), .pointer none]) ∧ Below w.heap.size w w' := by
  go_enter Tryz.func61, Tryz.ntmps61
  go_wp2_with fail
  refine bodyPost_ret (v := .agg #[.int .i64 (-1), .pointer none]) (by simp [results, Tryz.results61, go_sem]) rfl ⟨rfl, ?_⟩
  first
  | exact (Below.refl _ _).alloc (Nat.le_refl _) _
  | exact (((Below.refl _ _).alloc (Nat.le_refl _) _).setCell (by simp) _).setCell (by simp) _
end Go.Proofs.YtognpkdgphebeaaGreat

namespace Go.Proofs.YtognpkdgphebeaaGreat
open Go.RowKit Go.Maps

/-- The marks that loops over functions have left. -/
def marksOf (Ds : List Nat) : List Deferred := Ds.map (fun D => { target := .collected D, args := #[] })
structure DefOk (B : Nat) (Ds : List Nat) (W : World) : Prop where
  nodup : Ds.Nodup
  each : ∀ D ∈ Ds, B ≤ D ∧ W.heap[D]? = some (.deferred (some []))
theorem leaves_ok {n : Nat} {fn : Func} {tmps : Array Value} {R : Ending → World → Prop} {B : Nat} : ∀ (Ds : List Nat) (W : World), DefOk B Ds W → (∀ W', Below B W W' → ∃ v, (results fn tmps).run Tryz.prog W' = .ok v W' ∧ R (.returned v) W') → LeavesInM Fence.wide n Tryz.prog fn tmps R (marksOf Ds) .returning W
  | [], W, _, h => h W (Below.refl _ _)
  | D :: Ds, W, hd, h => by
    obtain ⟨hB, hD⟩ := hd.each D (by simp)
    have hnd := List.nodup_cons.1 hd.nodup
    have hbp : Below B W (W.putObj D (.deferred none)) := ⟨rfl, rfl, rfl, by simp, fun k hk => World.putObj_heap_other (by omega)⟩
    refine ⟨by simp, .inl ⟨D, _, rfl, run_takeDeferred hD, leaves_ok Ds _ ⟨hnd.2, fun D' hD' => ⟨(hd.each D' (by simp [hD'])).1, ?_⟩⟩ (fun W' hW' => h W' (hbp.trans hW'))⟩⟩
    rw [World.putObj_heap_other (fun e => hnd.1 (by rw [← e]; exact hD'))]
    exact (hd.each D' (by simp [hD'])).2
theorem Kq.putObj {cb M l : Nat} {W : World} {o o' : Obj} (hM : M ≤ l) (hl : W.heap[l]? = some o) (ho : o.isCells = false) : Kq cb M W (W.putObj l o') :=
  ⟨rfl, rfl, rfl, by simp, fun k hk _ h => World.putObj_heap_other (fun e => by
    subst e
    rcases h with h | ⟨c, t, fr, h⟩
    · omega
    · rw [hl] at h
      cases h
      simp [Obj.isCells] at ho)⟩
/-- What the caller of a loop over matches holds between two rounds. -/
structure CI (wE w1 : World) (B cb bb M : Nat) (Ds : List Nat) (vp : Array Value) (c0 : Nat) (pre : List Tk3) (W : World) : Prop where
  cnt : W.heap[cb]? = some (.cells #[.int .i64 ((c0 + pre.length : Nat) : Int)] 3 (0, 0))
  lk : Lko wE.heap.size B w1 W
  box : W.heap[bb]? = some (.cells vp 88 (0, 0))
  def' : DefOk wE.heap.size Ds W
  low : ∀ D ∈ Ds, D < M
theorem CI.own {wE w1 : World} {B cb bb M : Nat} {Ds : List Nat} {vp : Array Value} {c0 : Nat} (h3 : w1.heap.size ≤ M) : OwnFrom M (CI wE w1 B cb bb M Ds vp c0) := by
  intro pre W W' row h hg hr
  have key : ∀ k, k < W.heap.size → (k < M ∨ ∃ c t fr, W.heap[k]? = some (.cells c t fr)) → W'.heap[k]? = W.heap[k]? := fun k hk hh => hg.block k hk (fun e => by
    obtain ⟨hM, o, ho, hc⟩ := hr k e.symm
    rcases hh with hh | ⟨c, t, fr, hh⟩
    · omega
    · rw [ho] at hh
      cases hh
      simp [Obj.isCells] at hc)
  refine ⟨(key cb (lt_of_block' h.cnt) (.inr ⟨_, _, _, h.cnt⟩)).trans h.cnt, ⟨hg.os.trans h.lk.os, hg.tape.trans h.lk.tape, hg.output.trans h.lk.output, Nat.le_trans h.lk.size hg.size, fun g hgl h4 => (key g (Nat.lt_of_lt_of_le hgl h.lk.size) (.inl (by omega))).trans (h.lk.block g hgl h4)⟩, (key bb (lt_of_block' h.box) (.inr ⟨_, _, _, h.box⟩)).trans h.box, ⟨h.def'.nodup, fun D hD => ⟨(h.def'.each D hD).1, ?_⟩⟩, h.low⟩
  have hW := (h.def'.each D hD).2
  exact (key D ((Array.getElem?_eq_some_iff.1 hW).1) (.inl (h.low D hD))).trans hW
/-- One match more. -/
theorem CI.round {wE w1 : World} {B cb bb M : Nat} {Ds : List Nat} {vp : Array Value} {c0 : Nat} {pre : List Tk3} {x : Tk3} {W : World} (h : CI wE w1 B cb bb M Ds vp c0 pre W) (h1 : wE.heap.size ≤ cb) (h2 : cb < B) (hne : bb ≠ cb) : CI wE w1 B cb bb M Ds vp c0 (pre ++ [x]) (W.setCell ⟨cb, 0, none⟩ (.int .i64 ((c0 + pre.length : Nat) + 1 : Int))) ∧ Kq cb M W (W.setCell ⟨cb, 0, none⟩ (.int .i64 ((c0 + pre.length : Nat) + 1 : Int))) := by
  have ht : Turned W (W.setCell ⟨cb, 0, none⟩ (.int .i64 ((c0 + pre.length : Nat) + 1 : Int))) cb := Turned.setCells [_] 0 W cb
  have h' := heap_setCell_same (i := 0) h.cnt (.int .i64 ((c0 + pre.length : Nat) + 1 : Int))
  refine ⟨⟨?_, h.lk.trans (Lko.of_turned ht h1 h2), (ht.block bb hne).trans h.box, ⟨h.def'.nodup, fun D hD => ⟨(h.def'.each D hD).1, ?_⟩⟩, h.low⟩, ⟨ht.os, ht.tape, ht.output, Nat.le_of_eq ht.size.symm, fun k _ hk _ => ht.block k hk⟩⟩
  · have e : (c0 + (pre ++ [x]).length : Nat) = (c0 + pre.length) + 1 := by simp; omega
    rw [e]
    simpa using h'
  · have hW := (h.def'.each D hD).2
    rw [ht.block D (fun e => by subst e; rw [h.cnt] at hW; cases hW)]
    exact hW
/-- The matches of a plan, as a sequence. -/
theorem seq_any (Z : SK) (n : Nat) (w : World) (hlk : Lko Z.wE.heap.size Z.B Z.w1 w) (hpl : w.heap[Z.pb]? = some (.cells #[.slice Z.ca Z.m Z.cc, Z.vv] 88 (0, 0))) (hsd : w.heap[Z.sb]? = some (.cells #[.int .i64 (-1), .pointer none] 119 (0, 0))) (hso : SrOk ((Z.X.take Z.m).map (cnOf Z.fs)) []) (hcb : Z.cb < w.heap.size) :
    SeqStopsK Fence.wide n Tryz.prog 91 #[.pointer (some ⟨Z.pb, 0, none⟩), .pointer (some ⟨Z.sb, 0, none⟩)] (fun x : Tk3 => #[tkv x]) (Kq Z.cb Z.M) (fun ys => ys.length = (extsC ((Z.X.take Z.m).map (cnOf Z.fs)) []).length) (fun _ => True) (extsC ((Z.X.take Z.m).map (cnOf Z.fs)) []).length w := by
  intro l J Jx W hW hJ _ hY h0
  have hs := hW.size
  refine callsIn_wide.2 ?_
  exact matches1_any { Z with l := l, yb := W.heap.size, xb := W.heap.size + 1, n2 := by omega, n4 := by omega } J Jx (abides_bel hJ) W (hlk.trans (Lko.of_below hW)) ((hW.block _ (lt_of_block' hpl)).trans hpl) ((hW.block _ (lt_of_block' hsd)).trans hsd) rfl rfl hso (fun mm pre x W1 hj hl => YieldAt.wideDepth mm (hY pre x W1 hj hl)) h0
end Go.Proofs.YtognpkdgphebeaaGreat

namespace Go.Proofs.YtognpkdgphebeaaGreat
open Go.RowKit
attribute [local go_sem ↓] Go.wp_at_zero Go.wp_at_succ

def tokM (r : Ru) (fs : List F) : Nat := if ready [r] fs = true then (allM r.pats fs [⟨[], []⟩] 0).2 else 0
theorem cells5M {w : World} {b : Nat} {ty : TypeId} {x0 x1 x2 x3 x4 : Value} (h : w.heap[b]? = some (.cells #[x0, x1, x2, x3, x4] ty (0, 0))) : w.cell? ⟨b, 0, none⟩ = some x0 ∧ w.cell? ⟨b, 1, none⟩ = some x1 ∧ w.cell? ⟨b, 2, none⟩ = some x2 ∧ w.cell? ⟨b, 3, none⟩ = some x3 ∧ w.cell? ⟨b, 4, none⟩ = some x4 := by
  refine ⟨?_, ?_, ?_, ?_, ?_⟩ <;> simp [World.cell?, h]
set_option maxHeartbeats 3200000 in
theorem sTokens_any (r : Ru) (fs : List F) (a_p : Option Addr) (c_p : Nat) (a_e : Option Addr) (c_e : Nat) (a_a : Option Addr) (c_a : Nat) (fa : Option Addr) (fc : Nat) {q : Option Nat} (w : World) (h_p : PtsAt q w a_p r.pats) (h_e : ExsAt q w a_e r.exprs) (h_a : AcsAt q w a_a r.acts) (hce : r.exprs.length ≤ c_e) (hle : ListLe Ru.le 1048576 [r]) (ho : OpsOk r.exprs) (h_f : FactsAt w fa fs) (hl : fs.length ≤ 1048576) (hs : ∀ f ∈ fs, Sized f) :
    Calls Tryz.prog 25 #[.agg #[.string r.name, .int .i64 r.sal, .slice a_p r.pats.length c_p, .slice a_e r.exprs.length c_e, .slice a_a r.acts.length c_a], .slice fa fs.length fc] w fun e w' => e = .returned (.int .i64 (tokM r fs)) ∧ Below w.heap.size w w' := by
  have HP := hidM h_p
  have HF := hidM h_f
  have HR := hidM (fun wt (hb : Below w.heap.size w wt) k (h : wt.heap[k]? = some (.cells #[.string r.name, .int .i64 r.sal, .slice a_p r.pats.length c_p, .slice a_e r.exprs.length c_e, .slice a_a r.acts.length c_a] 36 (0, 0))) => l4Ready_any [r] fs (some ⟨k, 0, none⟩) 1 fa fc wt (RusAt.one h (h_p.below hb).bare (h_e.below hb).bare (h_a.below hb).bare hce) (Nat.le_refl _) hle (by intro x hx; simp at hx; subst hx; exact ho) (h_f.below hb) hl hs)
  clear h_p h_e h_a h_f hs hle ho
  go_enter Tryz.func25, Tryz.ntmps25
  go_upto_region 1 with fail
  refine lift_alloc ?_
  intro w0 hW0 hq0
  obtain ⟨b0, b1, b2, b3, b4⟩ := cells5M hq0
  have H0 := hidM hW0
  have HA := hidM (fun o => (Below.refl _ _).alloc (Nat.le_refl _) o : ∀ o, Below w0.heap.size w0 (w0.alloc o))
  have HN := hidM (heap_alloc_new w0)
  have hs0 := hW0.size
  clear hW0 hq0
  by_cases hrd : ready [r] fs = true
  · have HT := hidM (show tokM r fs = (allM r.pats fs [⟨[], []⟩] 0).2 from if_pos hrd)
    obtain ⟨hck, hgf, hf40⟩ := ready_small hrd
    obtain ⟨hp6, ht6, _⟩ := chk_small hck (List.mem_singleton.2 rfl)
    have HT6 := hidM ht6
    rw [hrd] at HR
    clear hck hgf ht6 hrd
    go_wp2_with fail
    refine (HR.out _ (H0.out.trans ((HA.out _).mono H0.out.size)) _ (HN.out _)).mono ?_
    rintro e w1 ⟨rfl, hb1⟩
    have B1 := hidM (Below.trans (HA.out _) (hb1.mono (HA.out _).size))
    have W1 := hidM (H0.out.trans (B1.out.mono H0.out.size))
    have d0 := cell_below B1.out b0
    have d1 := cell_below B1.out b1
    have d2 := cell_below B1.out b2
    have d3 := cell_below B1.out b3
    have d4 := cell_below B1.out b4
    clear hb1 b0 b1 b2 b3 b4
    have HL := hidM (l4All_any r fs a_p c_p a_e c_e a_a c_a fa fc w1 (HP.out.below W1.out) (HF.out.below W1.out) hp6 HT6.out hf40)
    go_wp2_with fail
    refine HL.out.mono ?_
    rintro e w2 ⟨⟨a, c, M, rfl, hM, hm⟩, hb2⟩
    have W2 := hidM (W1.out.trans (hb2.mono W1.out.size))
    rw [← HT.out]
    clear hM hm hb2 HL HT
    go_wp2_with fail
    go_ret
    exact ⟨rfl, W2.out⟩
  · have HT := hidM (show tokM r fs = 0 from if_neg hrd)
    rw [show ready [r] fs = false by simpa using hrd] at HR
    clear hrd
    go_wp2_with fail
    refine (HR.out _ (H0.out.trans ((HA.out _).mono H0.out.size)) _ (HN.out _)).mono ?_
    rintro e w1 ⟨rfl, hb1⟩
    have B1 := hidM (Below.trans (HA.out _) (hb1.mono (HA.out _).size))
    have W1 := hidM (H0.out.trans (B1.out.mono H0.out.size))
    clear hb1
    go_wp2_with fail
    go_ret
    exact ⟨by rw [HT.out]; rfl, W1.out⟩
end Go.Proofs.YtognpkdgphebeaaGreat

namespace Go.Proofs.YtognpkdgphebeaaGreat
open Go.RowKit Go.Maps
attribute [local go_sem ↓] Go.wp_at_zero Go.wp_at_succ
attribute [local go_sem] Oper.semAt_some

theorem CI.bel {wE w1 : World} {B cb bb M : Nat} {Ds : List Nat} {vp : Array Value} {c0 : Nat} {pre : List Tk3} {W W' : World} (h : CI wE w1 B cb bb M Ds vp c0 pre W) (hb : Below W.heap.size W W') : CI wE w1 B cb bb M Ds vp c0 pre W' :=
  ⟨(hb.block _ (lt_of_block' h.cnt)).trans h.cnt, h.lk.trans (Lko.of_below hb), (hb.block _ (lt_of_block' h.box)).trans h.box, ⟨h.def'.nodup, fun D hD => ⟨(h.def'.each D hD).1, (hb.block D (Array.getElem?_eq_some_iff.1 (h.def'.each D hD).2).1).trans (h.def'.each D hD).2⟩⟩, h.low⟩
theorem CI.up {wE w1 : World} {B cb bb M M' : Nat} {Ds : List Nat} {vp : Array Value} {c0 : Nat} {pre : List Tk3} {W : World} (h : CI wE w1 B cb bb M Ds vp c0 pre W) (hM : M ≤ M') : CI wE w1 B cb bb M' Ds vp c0 pre W := ⟨h.cnt, h.lk, h.box, h.def', fun D hD => Nat.lt_of_lt_of_le (h.low D hD) hM⟩
def TkI1 (r : Ru) (fs : List F) (a_p : Option Addr) (c_p : Nat) (a_e : Option Addr) (c_e : Nat) (a_a : Option Addr) (c_a : Nat) (fa : Option Addr) (fc : Nat) (w w0 w1 : World) (cb g xc : Nat) (N : Nat) (a : Act) (W : World) : Prop := ∃ (i : Nat) (Ds : List Nat) (u6 u7 u8 u9 u16 u17 u18 u19 u20 u21 u22 u23 u24 u25 u26 u27 u28 u29 u30 u31 u32 u33 u34 u35 u36 u37 u38 u39 : Value), a = { tmps := #[Value.agg #[.string r.name, .int .i64 r.sal, .slice a_p r.pats.length c_p, .slice a_e r.exprs.length c_e, .slice a_a r.acts.length c_a], .slice fa fs.length fc, .pointer (some ⟨w.heap.size, 0, none⟩), undef, .int .i64 0, .pointer (some ⟨cb, 0, none⟩), u6, u7, u8, u9, Value.agg #[.string r.name, .int .i64 r.sal, .slice a_p r.pats.length c_p, .slice a_e r.exprs.length c_e, .slice a_a r.acts.length c_a], .slice (some ⟨w0.heap.size, 0, none⟩) 1 1, .slice fa fs.length fc, .slice (some ⟨g, 0, none⟩) 1 xc, .int .i64 1, .int .i64 (i : Int), u16, u17, u18, u19, u20, u21, u22, u23, u24, u25, u26, u27, u28, u29, u30, u31, u32, u33, u34, u35, u36, u37, u38, u39], defers := marksOf Ds } ∧ i ≤ 1 ∧ (if i = 0 then W = w1 ∧ Ds = [] else W.heap[cb]? = some (.cells #[.int .i64 (N : Int)] 3 (0, 0)) ∧ DefOk w.heap.size Ds W ∧ Below w.heap.size w W)
def TkI2 (r : Ru) (fs : List F) (a_p : Option Addr) (c_p : Nat) (a_e : Option Addr) (c_e : Nat) (a_a : Option Addr) (c_a : Nat) (fa : Option Addr) (fc : Nat) (w w0 w1 : World) (cb g xc : Nat) (bb : Nat) (ca : Option Addr) (cc : Nat) (va : Option Addr) (vc : Nat) (X : List Cx) (U : List Vr) (cnt : Nat → Nat) (u6 : Value) (a : Act) (W : World) : Prop := ∃ (j : Nat) (Ds : List Nat) (u8 u9 u23 u24 u25 u26 u27 u28 u29 u30 u31 u32 u33 u34 u35 u36 u37 u38 u39 : Value), a = { tmps := #[Value.agg #[.string r.name, .int .i64 r.sal, .slice a_p r.pats.length c_p, .slice a_e r.exprs.length c_e, .slice a_a r.acts.length c_a], .slice fa fs.length fc, .pointer (some ⟨w.heap.size, 0, none⟩), undef, .int .i64 0, .pointer (some ⟨cb, 0, none⟩), u6, .pointer (some ⟨bb, 0, none⟩), u8, u9, Value.agg #[.string r.name, .int .i64 r.sal, .slice a_p r.pats.length c_p, .slice a_e r.exprs.length c_e, .slice a_a r.acts.length c_a], .slice (some ⟨w0.heap.size, 0, none⟩) 1 1, .slice fa fs.length fc, .slice (some ⟨g, 0, none⟩) 1 xc, .int .i64 1, .int .i64 0, .bool true, .pointer (some ⟨g, 0, none⟩), .agg #[.slice ca X.length cc, .slice va U.length vc], .pointer (some ⟨bb, 0, none⟩), .slice ca X.length cc, .int .i64 (X.length : Int), .int .i64 (j : Int), u23, u24, u25, u26, u27, u28, u29, u30, u31, u32, u33, u34, u35, u36, u37, u38, u39], defers := marksOf Ds } ∧ j ≤ X.length ∧ CI w w1 (w0.heap.size + 1) cb bb W.heap.size Ds #[.slice ca X.length cc, .slice va U.length vc] (cnt j) [] W
theorem tok_bound {fs : List F} (hf : fs.length ≤ 40) {ps : List Pt} (hp : ps.length ≤ 6) (k : Nat) : (allM (ps.take k) fs [⟨[], []⟩] 0).1.length ≤ 41 ^ 6 := by
  have h1 := allM_len fs hf (ps.take k) [⟨[], []⟩] 0
  have h2 : 41 ^ (ps.take k).length ≤ 41 ^ 6 := Nat.pow_le_pow_right (by omega) (by rw [List.length_take]; omega)
  rw [List.length_singleton, Nat.one_mul] at h1
  omega
theorem take_ok {X : List Cx} {r : Ru} {fs : List F} (hX : X.map Cx.cp = planGo r.pats [] 0) (hk : KnR r.pats [] 0) (h3 : positives r.pats ≤ 3) (j : Nat) : (extsC ((X.take (j + 1)).map (cnOf fs)) []).length = (exts ((planGo r.pats [] 0).take (j + 1)) fs []).length ∧ SrOk ((X.take (j + 1)).map (cnOf fs)) [] := by
  have hl : ((X.take (j + 1)).map (cnOf fs)).length = ((planGo r.pats [] 0).take (j + 1)).length := by
    rw [← hX]
    simp
  have he : ∀ (k : Nat) (c : Cn) (d : Cp), ((X.take (j + 1)).map (cnOf fs))[k]? = some c → ((planGo r.pats [] 0).take (j + 1))[k]? = some d → CnCp fs c d := by
    intro k c d hc hd
    rw [← hX, ← List.map_take, List.getElem?_map] at hd
    rw [List.getElem?_map] at hc
    obtain ⟨x, hx, rfl⟩ := Option.map_eq_some_iff.1 hc
    rw [hx] at hd
    cases hd
    exact cnOf_cp fs x
  refine ⟨by rw [extsC_eq _ _ hl he], ?_⟩
  have hp := planGo_take r.pats [] 0 (j + 1)
  refine srOk_plan (fs := fs) (r.pats.take (j + 1)) [] [] _ (KnR_take r.pats [] 0 (j + 1) hk) (fun v hv => by simp at hv) (by have := positives_take (j + 1) r.pats; simp; omega) ?_ ?_
  · rw [hl, ← hp]
    rfl
  · intro k c d hc hd
    exact he k c d hc (by rw [← hp]; exact hd)
set_option maxRecDepth 100000 in
set_option maxHeartbeats 12800000 in
theorem iTokens_any (r : Ru) (fs : List F) (a_p : Option Addr) (c_p : Nat) (a_e : Option Addr) (c_e : Nat) (a_a : Option Addr) (c_a : Nat) (fa : Option Addr) (fc : Nat) {q : Option Nat} (w : World) (h_p : PtsAt q w a_p r.pats) (h_e : ExsAt q w a_e r.exprs) (h_a : AcsAt q w a_a r.acts) (hce : r.exprs.length ≤ c_e) (hle : ListLe Ru.le 1048576 [r]) (ho : OpsOk r.exprs) (hvo : ∀ p ∈ r.pats, ∀ t ∈ p.terms, VOk t.val) (h_f : FactsAt w fa fs) (hl : fs.length ≤ 1048576) (hs : ∀ f ∈ fs, Sized f) :
    Calls Tryz.prog 26 #[.agg #[.string r.name, .int .i64 r.sal, .slice a_p r.pats.length c_p, .slice a_e r.exprs.length c_e, .slice a_a r.acts.length c_a], .slice fa fs.length fc] w fun e w' => e = .returned (.int .i64 (tokM r fs)) ∧ Below w.heap.size w w' := by
  have HR := hidP (fun wt (hb : Below w.heap.size w wt) k (h : wt.heap[k]? = some (.cells #[.string r.name, .int .i64 r.sal, .slice a_p r.pats.length c_p, .slice a_e r.exprs.length c_e, .slice a_a r.acts.length c_a] 36 (0, 0))) => plansOver_any [r] (some ⟨k, 0, none⟩) 1 fs fa fc w wt hb (RusAt.one h (h_p.below hb).bare (h_e.below hb).bare (h_a.below hb).bare hce) (Nat.le_refl _) hle (by intro x hx; simp at hx; subst hx; exact ho) (by intro x hx; simp at hx; subst hx; exact hvo) h_f hl hs)
  clear h_p h_e h_a h_f hs hle ho hvo
  refine (callsIn_wide (n := 9)).1 ?_
  refine callsIn_of_wp_marks Tryz.func26 rfl trivial ?_ rfl
  simp only [Tryz.ntmps26, List.size_toArray, List.length_cons, List.length_nil, Nat.reduceAdd, Nat.reduceSub, Array.replicate_succ, Array.replicate_zero, List.push_toArray, List.append_toArray, List.nil_append, List.cons_append]
  refine wpIn_wide.2 ?_
  go_upto_region 2 with fail
  refine lift2P ?_
  intro w0 hW0 hq0 hq1
  obtain ⟨b0, b1, b2, b3, b4⟩ := cells5P hq0
  obtain ⟨cb, hcb⟩ : ∃ b, b = w.heap.size + 1 := ⟨_, rfl⟩
  rw [← hcb] at hq1 ⊢
  have CB0 := hidP hq1
  have H0 := hidP hW0
  have hs0 := hW0.size
  have hcw : w.heap.size ≤ cb := by omega
  have hc0 : cb < w0.heap.size := lt_of_block' hq1
  have HA := hidP (fun o => (Below.refl _ _).alloc (Nat.le_refl _) o : ∀ o, Below w0.heap.size w0 (w0.alloc o))
  have HNW := hidP (heap_alloc_new w0)
  clear hW0 hq0 hq1 hcb
  go_wp2_with fail
  refine (HR.out _ (H0.out.trans ((HA.out _).mono H0.out.size)) _ (HNW.out _)).mono ?_
  rintro e w1 ⟨he1, hb1⟩
  have B1 := hidP (Below.trans (HA.out _) (hb1.mono (HA.out _).size))
  have BW := hidP (H0.out.trans (B1.out.mono H0.out.size))
  have CB1 := hidP ((B1.out.block _ (lt_of_block' CB0.out)).trans CB0.out)
  have hs1 := hb1.size
  simp at hs1
  clear hb1 b0 b1 b2 b3 b4 CB0 HA HNW HR H0 B1
  by_cases hrdy : ready [r] fs = true
  · rw [if_pos hrdy] at he1
    obtain ⟨xa, xc, PW, rfl, _, _, base, gb, mb, la, lc, L, bs, V, P, Q, hraw⟩ := he1
    have RAW := hidP hraw
    have hl1 : ([r] : List Ru).length = 1 := rfl
    rw [hl1]
    have HRDY := hidP hrdy
    clear hraw hrdy
    go_wp2_with fail
    obtain ⟨hPl, hPx⟩ := RAW.out.px
    obtain ⟨⟨ca, cc, va, vc, X, U⟩, hP0⟩ : ∃ x, P[0]? = some x := ⟨P[0]'(by rw [hPl]; simp), by simp⟩
    obtain ⟨hX, hU⟩ := hPx 0 _ r hP0 rfl
    simp only at hX hU
    have hmem0 := RAW.out.mem
    have MEM := hidP (show ∀ W, Lko w.heap.size (w0.heap.size + 1) w1 W → PLS W base xa xc P (L.map Prod.fst) bs ∧ NF W base gb mb la lc L bs V (fun _ => Q) from fun W hW => hmem0 W (by simpa using hW))
    clear hmem0
    have hxm := List.mem_of_getElem? hP0
    obtain ⟨g, hg, x0, x1⟩ : ∃ g, xa = some ⟨g, 0, none⟩ ∧ w1.cell? ⟨g, 0, none⟩ = some (.slice ca X.length cc) ∧ w1.cell? ⟨g, 1, none⟩ = some (.slice va U.length vc) := by
      have hrow := (MEM.out w1 (Lko.refl _ _ _)).1.row
      obtain ⟨g, hg, _, h0, _⟩ := owns_cell hrow (flat_gen (cells := pxCells) (m := 2) (fun _ => rfl) P 0 _ 0 _ hP0 rfl)
      obtain ⟨g', hg', _, h1, _⟩ := owns_cell hrow (flat_gen (cells := pxCells) (m := 2) (fun _ => rfl) P 0 _ 1 _ hP0 rfl)
      rw [hg] at hg'
      cases hg'
      exact ⟨g, hg, by simpa using h0, by simpa using h1⟩
    subst hg
    have hcap : X.length ≤ cc := capP ((MEM.out w1 (Lko.refl _ _ _)).1.each _ hxm).conds
    obtain ⟨hck, hgf, hf40⟩ := ready_small HRDY.out
    obtain ⟨hp6, ht6, hp3⟩ := chk_small hck (List.mem_singleton.2 rfl)
    have hkn : KnR r.pats [] 0 := chk_known hck (List.mem_singleton.2 rfl)
    have hXl : X.length ≤ 6 := by
      have h1 := congrArg List.length hX
      rw [List.length_map, planGo_len] at h1
      omega
    have HX := hidP hX
    have HKN := hidP hkn
    have HT6 := hidP ht6
    have HP3 := hidP hp3
    have HXM := hidP hxm
    clear hPl hPx hP0 hX hU hkn ht6 hp3 hxm hck hgf
    obtain ⟨cnt, hcnt⟩ : ∃ cnt : Nat → Nat, cnt = fun j => ((List.range j).map (fun i => (exts ((planGo r.pats [] 0).take (i + 1)) fs []).length)).sum := ⟨_, rfl⟩
    have HC0 := hidP (show cnt 0 = 0 by rw [hcnt]; rfl)
    have HCS := hidP (show ∀ j, cnt (j + 1) = cnt j + (exts ((planGo r.pats [] 0).take (j + 1)) fs []).length by intro j; rw [hcnt]; simp [List.range_succ])
    have HCT := hidP (show tokM r fs = cnt X.length by
      unfold tokM
      rw [if_pos HRDY.out, all_count HKN.out, hcnt]
      have h1 := congrArg List.length HX.out
      rw [List.length_map, planGo_len] at h1
      rw [h1])
    have HCB := hidP (show ∀ j, j ≤ 6 → cnt j ≤ j * 41 ^ 6 by
      intro j
      induction j with
      | zero => intro _; rw [HC0.out]; exact Nat.zero_le _
      | succ j ih =>
        intro hj
        have h1 := ih (by omega)
        have h2 : (exts ((planGo r.pats [] 0).take (j + 1)) fs []).length ≤ 41 ^ 6 := by
          rw [← first_len HKN.out]
          exact tok_bound hf40 hp6 (j + 1)
        rw [HCS.out]
        have e : (j + 1) * 41 ^ 6 = j * 41 ^ 6 + 41 ^ 6 := by omega
        omega)
    have HEX := hidP (show ∀ j, j < X.length → (extsC ((X.take (j + 1)).map (cnOf fs)) []).length = (exts ((planGo r.pats [] 0).take (j + 1)) fs []).length ∧ SrOk ((X.take (j + 1)).map (cnOf fs)) [] from fun j hj => take_ok HX.out HKN.out HP3.out j)
    clear hcnt
    refine wp_loop (TkI1 r fs a_p c_p a_e c_e a_a c_a fa fc w w0 w1 cb g xc (cnt X.length)) (fun a _ => 2 - (intOf (a.tmps.getD 15 undef)).toNat) (by unfold TkI1; exact ⟨0, [], _, _, _, _, _, _, _, _, _, _, _, _, _, _, _, _, _, _, _, _, _, _, _, _, _, _, _, _, rfl, by omega, by rw [if_pos rfl]; exact ⟨rfl, rfl⟩⟩) ?_
    rintro a W ⟨i, Ds, u6, u7, u8, u9, u16, u17, u18, u19, u20, u21, u22, u23, u24, u25, u26, u27, u28, u29, u30, u31, u32, u33, u34, u35, u36, u37, u38, u39, rfl, hi, hst⟩
    rcases (show i = 0 ∨ i = 1 by omega) with rfl | rfl
    · rw [if_pos rfl] at hst
      obtain ⟨hWw, rfl⟩ := hst
      have hWw' := hWw.symm
      clear hWw
      subst hWw'
      go_upto_region 5 with fail
      refine lift_alloc ?_
      intro w2 hW2 hq2
      obtain ⟨bb, hbb⟩ : ∃ b, b = w1.heap.size := ⟨_, rfl⟩
      rw [← hbb] at hq2 ⊢
      obtain ⟨p0, p1⟩ := cells2P hq2
      have CI2 := hidP (show CI w w1 (w0.heap.size + 1) cb bb w2.heap.size [] #[.slice ca X.length cc, .slice va U.length vc] (cnt 0) [] w2 from ⟨by rw [HC0.out]; exact (hW2.block _ (lt_of_block' CB1.out)).trans CB1.out, Lko.of_below hW2, hq2, ⟨List.nodup_nil, by simp⟩, by simp⟩)
      have hbc : bb ≠ cb := by omega
      clear hW2 hq2 hbb
      go_wp2_with fail
      clear p0 p1
      refine wp_loop (TkI2 r fs a_p c_p a_e c_e a_a c_a fa fc w w0 w1 cb g xc bb ca cc va vc X U cnt u6) (fun a _ => X.length - (intOf (a.tmps.getD 22 undef)).toNat) (by unfold TkI2; exact ⟨0, [], _, _, _, _, _, _, _, _, _, _, _, _, _, _, _, _, _, _, _, rfl, Nat.zero_le _, CI2.out⟩) ?_
      rintro a W2 ⟨j, Ds, u8, u9, u23, u24, u25, u26, u27, u28, u29, u30, u31, u32, u33, u34, u35, u36, u37, u38, u39, rfl, hjl, hCI⟩
      have CIR := hidP hCI
      obtain ⟨p0, p1⟩ := cells2P hCI.box
      clear hCI
      by_cases hj : j < X.length
      · have z0 : (0 : Int) ≤ (j : Int) := by omega
        have z1 : (j : Int) < (X.length : Int) := by omega
        have z2 : (j : Int) + 1 ≤ (cc : Int) := by omega
        have z3 : (j : Int) < 1000000 := by omega
        go_upto_region 9 with fail
        refine lift_alloc ?_
        intro w3 hW3 hq3
        obtain ⟨tb, htb⟩ : ∃ b, b = W2.heap.size := ⟨_, rfl⟩
        rw [← htb] at hq3 ⊢
        obtain ⟨t0, t1⟩ := cells2P hq3
        have CI3 := hidP (CIR.out.bel hW3)
        have hW12 := CIR.out.lk.size
        have hs3 := hW3.size
        clear hW3 hq3 htb CIR p0 p1
        go_wp2_with fail
        refine wp_region_noPanic ?_
        refine wp_region_held_drew (S := (fun w' => w'.cell? ⟨tb, 0, none⟩ = some (.slice ca (j + 1) cc) ∧ w'.cell? ⟨tb, 1, none⟩ = some (.slice none 0 0))) (by kernel_rfl) ?_ (fun hHeld => ?_)
        · (try dsimp only)
          exact ⟨t0, t1⟩
        refine tkY 0 hHeld (by rfl) (by kernel_rfl) (by kernel_rfl) (by kernel_rfl) (by rfl) (by intro w hSw; (try dsimp only at hSw); go_simp; try with_reducible rfl) ?_
        (try simp only [pA, pZ, pS])
        refine wpAnyH_ready (rs := [1]) (by kernel_rfl) (by simp) ?_
        refine AllReadyH.cons (List.getElem?_toArray.trans rfl) (fun K hK => ?_) AllReadyH.nil
        go_simp
        (go_at_call 61; refine (noSeed_any _).mono ?_; rintro e' w4 ⟨rfl, hb4⟩)
        (try go_wp2_with fail)
        refine hK.out _ _ ?hS2 (fun hHeld => ?_)
        case hS2 => ((try dsimp only); exact ⟨cell_below hb4 t0, cell_below hb4 t1⟩)
        clear hK K
        (first | simp only [pA, pZ, pS] | simp only [pN] | skip)
        have t0' := cell_below hb4 t0
        have t1' := cell_below hb4 t1
        refine wpAnyH_ready (rs := [2]) (by kernel_rfl) (by simp) ?_
        refine AllReadyH.cons (List.getElem?_toArray.trans rfl) (fun K hK => ?_) AllReadyH.nil
        go_simp
        (go_at_call 60; refine (matches_any _ _ ca none (j + 1) cc 0 0 rfl rfl w4).mono ?_; rintro e' w5 ⟨rfl, HPL, HSD, hb5⟩)
        (try go_wp2_with fail)
        refine hK.out _ _ ?hS4 (fun hHeld => ?_)
        case hS4 => ((try dsimp only); exact ⟨cell_below hb5 t0', cell_below hb5 t1'⟩)
        clear hK K
        (first | simp only [pA, pZ, pS] | simp only [pN] | skip)
        refine wpAnyH_done (by kernel_rfl) ?_ _
        refine NoPanic.normal ?_
        have B35 := hidP (show Below w3.heap.size w3 w5 from (Below.refl _ _).drew.trans ((hb4.trans (hb5.mono hb4.size)).mono (by simp)))
        have hs5 := B35.out.size
        have CI5 := hidP ((CI3.out.bel B35.out).up (M' := w5.heap.size) (by omega))
        have h45 : w4.heap.size + 1 < w5.heap.size := lt_of_block' HSD.out
        have h34 : w3.heap.size ≤ w4.heap.size := by have := hb4.size; simpa using this
        clear hb4 hb5 t0 t1 t0' t1' CI3 B35 hHeld
        have hE1 := (HEX.out j hj).1
        have hE2 := (HEX.out j hj).2
        have hbnd : (extsC ((X.take (j + 1)).map (cnOf fs)) []).length ≤ 41 ^ 6 := by
          rw [hE1, ← first_len HKN.out]
          exact tok_bound hf40 hp6 (j + 1)
        have hcb6 := HCB.out j (by omega)
        have HE1 := hidP hE1
        have HE2 := hidP hE2
        have HBD := hidP hbnd
        have HC6 := hidP hcb6
        clear hE1 hE2 hbnd hcb6
        go_wp2_with fail
        refine (wpIn_wide (n := 9)).1 ?_
        refine wpIn_rangeFunc_ownF (α := Tk3) rfl (by decide) (gf := 91) (lb := #[.pointer (some ⟨w4.heap.size, 0, none⟩), .pointer (some ⟨w4.heap.size + 1, 0, none⟩)]) rfl trivial (enters_of Tryz.func91 (by kernel_rfl) rfl)
          (seq_any { wE := w, w1 := w1, B := w0.heap.size + 1, cb := cb, M := w5.heap.size, l := 0, pb := w4.heap.size, yb := cb + 1, sb := w4.heap.size + 1, xb := cb + 1, base := base, gb := gb, mb := mb, ca := ca, cc := cc, m := j + 1, vv := .slice none 0 0, va := va, vc := vc, la := la, lc := lc, L := L, bs := bs, V := V, Q := Q, X := X, U := U, fs := fs, mem := fun W hW => ⟨(MEM.out W hW).1.each _ HXM.out, (MEM.out W hW).2⟩, snd := RAW.out.snd, facs := RAW.out.facs, below := BW.out, hm := hj, h1 := hcw, h2 := by omega, h3 := by omega, n1 := by omega, n2 := by omega, n3 := by omega, n4 := by omega, f40 := hf40, small := fun c hc => (planGo_small r.pats [] 0 HT6.out c.cp (by rw [← HX.out]; exact List.mem_map.2 ⟨c, hc, rfl⟩)).1, X6 := hXl, h4 := hs1 } 8 w5 CI5.out.lk HPL.out HSD.out HE2.out (lt_of_block' CI5.out.cnt))
          (fun h k => Kq.trans h k) (fun W l o o' h1 h2 h3 _ => Kq.putObj h1 h2 h3) (Below.refl _ _) (fun _ => rfl)
          (CI w w1 (w0.heap.size + 1) cb bb w5.heap.size Ds #[.slice ca X.length cc, .slice va U.length vc] (cnt j)) (fun _ _ _ => False) (CI.own (by have := CI5.out.lk.size; omega)) (fun _ _ _ _ _ hs _ _ => hs) CI5.out ?a1 ?assign ?body ?done ?stop
        case assign =>
          intro l x W K hK
          gi_wp2
          exact hK
        case body =>
          rintro l pre x W hI hlen
          obtain ⟨nn, hnn⟩ : ∃ n, n = cnt j + pre.length := ⟨_, rfl⟩
          have hcell := hI.cnt
          rw [← hnn] at hcell
          have k0 := cell1P hcell
          have k1 : W.frozen? ⟨cb, 0, none⟩ = false := by simp [World.frozen?, hcell]
          have y0 : (0 : Int) ≤ (nn : Int) := by omega
          have y1 : (nn : Int) < 100000000000 := by
            have h1 := HBD.out
            have h2 := HC6.out
            have h3 : j * 41 ^ 6 ≤ 6 * 41 ^ 6 := Nat.mul_le_mul_right _ (by omega)
            have h4 : (41 : Nat) ^ 6 = 4750104241 := by decide
            rw [h4] at h1 h2 h3
            have h5 : pre.length < (extsC ((X.take (j + 1)).map (cnOf fs)) []).length := hlen
            omega
          have HRD := hidP (hI.round (x := x) hcw (by omega) hbc)
          rw [← hnn] at HRD
          clear hcell hnn hI hlen
          gi_wp2
          exact ⟨KeepsOthers.setCell _ _ _, HRD.out.2, HRD.out.1⟩
        case done =>
          rintro D ys W hD hS hI hK
          have HI := hidP hI
          have HK := hidP hK
          have HS := hidP (show ys.length = (exts ((planGo r.pats [] 0).take (j + 1)) fs []).length from hS.trans HE1.out)
          clear hS hI hK
          go_wp2_with fail
          refine ⟨?_, by simp [intOf]; omega⟩
          unfold TkI2
          refine ⟨j + 1, D :: Ds, _, _, _, _, _, _, _, _, _, _, _, _, _, _, _, _, _, _, _, by rw [castK]; rfl, by omega, ⟨?_, HI.out.lk, HI.out.box, ⟨List.nodup_cons.2 ⟨fun hm => ?_, HI.out.def'.nodup⟩, fun D' hD' => ?_⟩, fun D' hD' => ?_⟩⟩
          · rw [HCS.out, ← HS.out]
            exact HI.out.cnt
          · have := HI.out.low D hm
            omega
          · rcases List.mem_cons.1 hD' with rfl | hD'
            · exact ⟨by omega, HK.out⟩
            · exact HI.out.def'.each D' hD'
          · rcases List.mem_cons.1 hD' with rfl | hD'
            · exact (Array.getElem?_eq_some_iff.1 HK.out).1
            · exact (Array.getElem?_eq_some_iff.1 (HI.out.def'.each D' hD').2).1
        case stop =>
          rintro D c pre W _ _ h _
          exact h.elim
      · have hje : j = X.length := by omega
        have hy : ¬ (j : Int) < (X.length : Int) := by omega
        have HJE := hidP hje
        clear hje
        go_wp2_with fail
        refine ⟨?_, by simp [intOf]⟩
        unfold TkI1
        refine ⟨1, Ds, _, _, _, _, _, _, _, _, _, _, _, _, _, _, _, _, _, _, _, _, _, _, _, _, _, _, _, _, rfl, by omega, ?_⟩
        rw [if_neg (by omega)]
        refine ⟨?_, CIR.out.def', Lko.below BW.out BW.out.size CIR.out.lk⟩
        have h := CIR.out.cnt
        rw [HJE.out] at h
        exact h
    · rw [if_neg (by omega)] at hst
      obtain ⟨hcn, hdf, hbw⟩ := hst
      have k0 := cell1P hcn
      have HDF := hidP hdf
      have HBW := hidP hbw
      clear hdf hbw hcn
      go_wp2_with fail
      rw [HCT.out]
      refine leaves_ok (B := w.heap.size) Ds _ HDF.out ?_
      intro W' hW'
      exact ⟨_, results_tmp rfl _ _ _, rfl, HBW.out.trans hW'⟩
  · rw [if_neg hrdy] at he1
    subst he1
    have HT := hidP (show tokM r fs = 0 by unfold tokM; rw [if_neg hrdy])
    clear hrdy
    go_wp2_with fail
    go_loopw [15] (fun iv wr => iv = .int .i64 0 ∧ wr = w1) (fun _ _ => 0)
    case atStart => exact ⟨rfl, rfl⟩
    case round =>
      obtain ⟨rfl, rfl⟩ := hrel
      have k0 := cell1P CB1.out
      go_wp2_with fail
      rw [HT.out]
      refine leaves_ok (B := w.heap.size) [] _ ⟨List.nodup_nil, by simp⟩ ?_
      intro W' hW'
      exact ⟨_, results_tmp rfl _ _ _, rfl, BW.out.trans hW'⟩
end Go.Proofs.YtognpkdgphebeaaGreat
