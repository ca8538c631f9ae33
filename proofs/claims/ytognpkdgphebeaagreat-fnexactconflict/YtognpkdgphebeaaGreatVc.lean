/-
  OUR OWN TEXT. Tk4, Tk5, one behind the other.
-/
import Derived.Test.YtognpkdgphebeaaGreatTk3m
namespace Go.Proofs.YtognpkdgphebeaaGreat
open Go.RowKit Go.Maps
attribute [local go_sem ↓] Go.wp_at_zero Go.wp_at_succ

theorem drop_next {α : Type} {l ds : List α} {k : Nat} {c : α} (h : l.drop k = c :: ds) : l[k]? = some c ∧ l.drop (k + 1) = ds := by
  constructor
  · have := congrArg (fun x => x[0]?) h
    simpa using this
  · rw [← List.drop_drop, h]
    rfl
theorem castK (k : Nat) : ((k + 1 : Nat) : Int) = (k : Int) + 1 := by simp
theorem search_any (Z : SK) (J Jx : List (TkX Z.wE) → World → Prop) (N : Nat) (hJ : ∀ s W W', J s W → Below W.heap.size W W' → J s W')
    (hY : ∀ (mm : Nat) (pre : List (TkX Z.wE)) (x : TkX Z.wE) (W1 : World), J pre W1 → pre.length < N → YieldAt Fence.wide mm Tryz.prog Z.l #[tkv x.1.1] W1 fun e W' => (e = .returned (.bool true) ∧ J (pre ++ [x]) W' ∧ Kq Z.cb Z.w1.heap.size Z.M W1 W') ∨ (e = .returned (.bool false) ∧ Jx (pre ++ [x]) W')) :
    ∀ (ds : List Cx) (k : Nat) (T : List F) (p0 p1 p2 : Option Addr) (pre : List (TkX Z.wE)) (W : World), (Z.X.take Z.m).drop k = ds → k ≤ Z.m → SX Z W → TokX Z.wE p0 p1 p2 T → SrOk (ds.map (cnOf Z.fs)) T → J pre W → pre.length + (extsC (ds.map (cnOf Z.fs)) T).length ≤ N →
      Calls Tryz.prog 92 #[.int .i64 (k : Int), .agg #[.pointer p0, .pointer p1, .pointer p2], .pointer (some ⟨Z.pb, 0, none⟩), .pointer (some ⟨Z.yb, 0, none⟩), .pointer (some ⟨Z.sb, 0, none⟩), .pointer (some ⟨Z.xb, 0, none⟩)] W (SPost Z J Jx pre (extsC (ds.map (cnOf Z.fs)) T) W) := by
  intro ds
  induction ds with
  | nil =>
    intro k T p0 p1 p2 pre W hds hkm hSX hTK hSO hJ0 hN
    have hke : k = Z.m := by
      have h1 := congrArg List.length hds
      rw [List.length_drop, List.length_take] at h1
      have h2 := Z.hm
      simp at h1
      omega
    subst hke
    exact search_nil Z J Jx N hJ hY T p0 p1 p2 hTK pre W hSX hJ0 (by simp [extsC] at hN; omega)
  | cons c ds ih =>
    intro k T p0 p1 p2 pre W hds hkm hSX hTK hSO hJ0 hN
    obtain ⟨hc', hds'⟩ := drop_next hds
    have hkl : k < Z.m := by
      have h1 := (List.getElem?_eq_some_iff.1 hc').1
      rw [List.length_take] at h1
      omega
    have hc : Z.X[k]? = some c := by
      rw [List.getElem?_take, if_pos hkl] at hc'
      exact hc'
    rw [List.map_cons] at hSO hN
    obtain ⟨hat, hlt, hfit, hrest⟩ := hSO
    cases hneg : c.cp.neg with
    | true =>
      have hn' : (cnOf Z.fs c).neg = true := hneg
      rw [if_pos hn'] at hrest
      rw [List.map_cons, extsC_neg hn']
      rw [extsC_neg hn'] at hN
      refine search_neg Z J Jx hJ c k hc hkl T p0 p1 p2 pre W hSX hTK hfit hJ0 hneg (extsC (ds.map (cnOf Z.fs)) T) _ (fun h => ?_) (fun h => ?_) (fun h W' hS' hJ' => ?_)
      · rw [if_pos (show (cnOf Z.fs c).facts.any (fun f => (cnOf Z.fs c).tests.all (jHolds T f)) = true from h)]
      · rw [if_neg (show ¬ (cnOf Z.fs c).facts.any (fun f => (cnOf Z.fs c).tests.all (jHolds T f)) = true from by rw [show (cnOf Z.fs c).facts.any (fun f => (cnOf Z.fs c).tests.all (jHolds T f)) = false from h]; simp)]
      · have hx := ih (k + 1) T p0 p1 p2 pre W' hds' (by omega) hS' hTK hrest hJ' (by rw [if_neg (show ¬ (cnOf Z.fs c).facts.any (fun f => (cnOf Z.fs c).tests.all (jHolds T f)) = true from by rw [show (cnOf Z.fs c).facts.any (fun f => (cnOf Z.fs c).tests.all (jHolds T f)) = false from h]; simp)] at hN; exact hN)
        rw [castK] at hx
        exact hx
    | false =>
      have hn' : (cnOf Z.fs c).neg = false := hneg
      rw [if_neg (by rw [hn']; simp)] at hrest
      rw [List.map_cons, extsC_pos hn']
      rw [extsC_pos hn'] at hN
      refine search_pos Z J Jx hJ c k hc hkl T p0 p1 p2 pre W hSX hTK hfit hJ0 hneg hat (hlt hn') N _ (fun f => if c.cp.tests.all (jHolds T f) = true then extsC (ds.map (cnOf Z.fs)) (T ++ [f]) else []) rfl hN (fun f _ h => ?_) (fun f hf h pre' W' q0 q1 q2 hS' hJ' hb hT' => ?_)
      · simp [h]
      · simp only [if_pos h] at hb ⊢
        have hx := ih (k + 1) (T ++ [f]) q0 q1 q2 pre' W' hds' (by omega) hS' hT' (hrest f hf h) hJ' hb
        rw [castK] at hx
        exact hx
theorem run_store_fnP {P : Program} (w : World) (a : Addr) (m : Mode) (fn : Fn) (x y : Array Value) : (store a (.func fn x y) m).run P w = stored P w a (.func fn x y) m := run_store P w a _ m rfl
theorem lift_b1P {P : World → Prop} {w : World} {b : Nat} {t : TypeId} {x0 y0 : Value} (h0 : w.heap[b]? = some (.cells #[x0] t (0, 0))) (h : ∀ wt, wt.heap[b]? = some (.cells #[y0] t (0, 0)) → Turned w wt b → P wt) : P (w.setCell ⟨b, 0, none⟩ y0) := by
  have h1 := heap_setCell_same (i := 0) h0 y0
  exact h _ (by simpa using h1) (Turned.setCells [y0] 0 w b)
theorem roomW (k : Nat) : Fence.wide.room k := room_wide k
theorem YieldAt.wideDepth {m : Nat} (m' : Nat) {P : Program} {l : Nat} {args : Array Value} {W : World} {R : Ending → World → Prop} (h : YieldAt Fence.wide m P l args W R) : YieldAt Fence.wide m' P l args W R := by
  obtain ⟨fn, tmps, assign, body, hy, hR⟩ := h
  exact ⟨fn, tmps, assign, body, hy, hR.1, fun c cs _ => hR.2 c cs (roomW _)⟩
theorem abides_bel {α : Type} {J : List α → World → Prop} {B : Nat} (h : AbidesFrom B J) : ∀ s W W', J s W → Below W.heap.size W W' → J s W' := fun s W W' hs hb =>
  h s W W' none hs ⟨hb.os, hb.tape, hb.output, hb.size, fun k hk _ => hb.block k hk⟩ (fun r e => by cases e)
set_option maxRecDepth 100000 in
set_option maxHeartbeats 3200000 in
theorem matches1_any (Z : SK) (J Jx : List (TkX Z.wE) → World → Prop) (hJ : ∀ s W W', J s W → Below W.heap.size W W' → J s W') (W : World) (hlk : Lko Z.wE.heap.size Z.B Z.w1 W)
    (hpl : W.heap[Z.pb]? = some (.cells #[.slice Z.ca Z.m Z.cc, Z.vv] 88 (0, 0))) (hsd : W.heap[Z.sb]? = some (.cells #[.int .i64 (-1), .pointer none] 119 (0, 0))) (hyb : Z.yb = W.heap.size) (hxb : Z.xb = W.heap.size + 1) (hso : SrOk ((Z.X.take Z.m).map (cnOf Z.fs)) [])
    (hY : ∀ (mm : Nat) (pre : List (TkX Z.wE)) (x : TkX Z.wE) (W1 : World), J pre W1 → pre.length < (extsC ((Z.X.take Z.m).map (cnOf Z.fs)) []).length → YieldAt Fence.wide mm Tryz.prog Z.l #[tkv x.1.1] W1 fun e W' => (e = .returned (.bool true) ∧ J (pre ++ [x]) W' ∧ Kq Z.cb Z.w1.heap.size Z.M W1 W') ∨ (e = .returned (.bool false) ∧ Jx (pre ++ [x]) W')) (h0 : J [] W) :
    Calls Tryz.prog 91 #[.func (.yield Z.l) #[] #[], .pointer (some ⟨Z.pb, 0, none⟩), .pointer (some ⟨Z.sb, 0, none⟩)] W fun e W' => (∃ v, e = .returned v) ∧ ((∃ xs : List (TkX Z.wE), xs.map tkT = extsC ((Z.X.take Z.m).map (cnOf Z.fs)) [] ∧ J xs W') ∨ (∃ pre, True ∧ Jx pre W')) := by
  have hmf := hmfP
  go_enter Tryz.func91, Tryz.ntmps91
  go_upto_region 2 with fail
  refine lift2P ?_
  intro w1 hW1 hr1 hr2
  rw [← hyb] at hr1 ⊢
  rw [← hxb] at hr2
  rw [show Z.yb + 1 = Z.xb by omega]
  have hyx : Z.yb < Z.xb := by omega
  have hwy : W.heap.size ≤ Z.yb := by omega
  clear hyb hxb
  have hsf := @run_store_fnP Tryz.prog
  have k0 := cell1P hr2
  have k1 : w1.frozen? ⟨Z.xb, 0, none⟩ = false := by simp [World.frozen?, hr2]
  go_upto_region 3 with fail
  refine lift_b1P hr2 ?_
  intro w2 hq2 ht2
  have hW2 : Below W.heap.size W w2 := hW1.trans (ht2.below (by omega))
  have hq1 := (ht2.block Z.yb (by omega)).trans hr1
  clear k0 k1 hr1 hr2 ht2 hW1 hsf
  have SX2 := hidP (show SX Z w2 from ⟨hlk.trans (Lko.of_below hW2), (hW2.block _ (lt_of_block' hpl)).trans hpl, hq1, (hW2.block _ (lt_of_block' hsd)).trans hsd, hq2⟩)
  have x0 := cell1P hq2
  have HS := hidP (search_any Z J Jx _ hJ hY (Z.X.take Z.m) 0 [] none none none [] w2 (by simp) (Nat.zero_le _) SX2.out ⟨fun i f hi => by simp at hi, fun _ => rfl, fun _ => rfl, fun _ => rfl, by simp⟩ hso (hJ _ _ _ h0 hW2) (by simp))
  clear hW2 hq1 hq2 hpl hsd hlk
  go_wp2_with fail
  refine HS.out.mono ?_
  rintro e w3 (⟨rfl, ys, hl, hj, _⟩ | ⟨rfl, q, hq⟩)
  · go_wp2_with fail
    go_end0
    exact ⟨⟨_, rfl⟩, .inl ⟨ys, hl, by simpa using hj⟩⟩
  · go_wp2_with fail
    go_end0
    exact ⟨⟨_, rfl⟩, .inr ⟨q, trivial, hq⟩⟩
set_option maxHeartbeats 1600000 in
theorem matches_any (v0 v1 : Value) (a0 a1 : Option Addr) (n0 c0 n1 c1 : Nat) (h0 : v0 = .slice a0 n0 c0) (h1 : v1 = .slice a1 n1 c1) (w : World) :
    Calls Tryz.prog 60 #[.agg #[v0, v1], .agg #[.int .i64 (-1), .pointer none]] w fun e w' => e = .returned (.func (.func 91) #[] #[.pointer (some ⟨w.heap.size, 0, none⟩), .pointer (some ⟨w.heap.size + 1, 0, none⟩)]) ∧ Hid (w'.heap[w.heap.size]? = some (.cells #[v0, v1] 88 (0, 0))) ∧ Hid (w'.heap[w.heap.size + 1]? = some (.cells #[.int .i64 (-1), .pointer none] 119 (0, 0))) ∧ Below w.heap.size w w' := by
  subst h0 h1
  have hmf := hmfP
  go_enter Tryz.func60, Tryz.ntmps60
  go_upto_region 1 with fail
  refine lift2P ?_
  intro w2 hW2 hq1 hq2
  have B2 := hidP hW2
  have Q1 := hidP hq1
  have Q2 := hidP hq2
  clear hW2 hq1 hq2
  go_wp2_with fail
  go_ret
  exact ⟨rfl, Q1, Q2, B2.out⟩
set_option maxHeartbeats 1600000 in
theorem noSeed_any (w : World) : Calls Tryz.prog 61 #[] w fun e w' => e = .returned (.agg #[.int .i64 (-1), .pointer none]) ∧ Below w.heap.size w w' := by
  go_enter Tryz.func61, Tryz.ntmps61
  go_wp2_with fail
  refine bodyPost_ret (v := .agg #[.int .i64 (-1), .pointer none]) (by simp [results, Tryz.results61, go_sem]) rfl ⟨rfl, ?_⟩
  first
  | exact (Below.refl _ _).alloc (Nat.le_refl _) _
  | exact (((Below.refl _ _).alloc (Nat.le_refl _) _).setCell (by simp) _).setCell (by simp) _
end Go.Proofs.YtognpkdgphebeaaGreat

namespace Go.Proofs.YtognpkdgphebeaaGreat
open Go.RowKit Go.Maps

/-- The marks that loops over functions have left. -/
def marksOf (Ds : List Nat) : List Deferred := Ds.map (fun D => { target := .collected D, args := #[] })
structure DefOk (B : Nat) (Ds : List Nat) (W : World) : Prop where
  nodup : Ds.Nodup
  each : ∀ D ∈ Ds, B ≤ D ∧ W.heap[D]? = some (.deferred (some []))
theorem Kq.putObj {cb L M l : Nat} {W : World} {o o' : Obj} (hL : L ≤ M) (hM : M ≤ l) (hl : W.heap[l]? = some o) (ho : o.isCells = false) : Kq cb L M W (W.putObj l o') :=
  ⟨rfl, rfl, rfl, by simp, fun k hk _ h => World.putObj_heap_other (fun e => by
    subst e
    rcases h with h | ⟨h | ⟨c, t, fr, h⟩, _⟩
    · omega
    · omega
    · rw [hl] at h
      cases h
      simp [Obj.isCells] at ho)⟩
/-- What the caller of a loop over matches holds between two rounds. -/
structure CI (wE w1 : World) (B cb bb M : Nat) (Ds : List Nat) (vp : Array Value) (c0 : Nat) (pre : List (TkX wE)) (W : World) : Prop where
  cnt : W.heap[cb]? = some (.cells #[.int .i64 ((c0 + pre.length : Nat) : Int)] 3 (0, 0))
  lk : Lko wE.heap.size B w1 W
  box : W.heap[bb]? = some (.cells vp 88 (0, 0))
  def' : DefOk wE.heap.size Ds W
  low : ∀ D ∈ Ds, D < M
theorem CI.own {wE w1 : World} {B cb bb M : Nat} {Ds : List Nat} {vp : Array Value} {c0 : Nat} (h3 : w1.heap.size ≤ M) : OwnFrom M (CI wE w1 B cb bb M Ds vp c0) := by
  intro pre W W' row h hg hr
  have key : ∀ k, k < W.heap.size → (k < M ∨ ∃ c t fr, W.heap[k]? = some (.cells c t fr)) → W'.heap[k]? = W.heap[k]? := fun k hk hh => hg.block k hk (fun e => by
    obtain ⟨hM, o, ho, hc⟩ := hr k e.symm
    rcases hh with hh | ⟨c, t, fr, hh⟩
    · omega
    · rw [ho] at hh
      cases hh
      simp [Obj.isCells] at hc)
  refine ⟨(key cb (lt_of_block' h.cnt) (.inr ⟨_, _, _, h.cnt⟩)).trans h.cnt, ⟨hg.os.trans h.lk.os, hg.tape.trans h.lk.tape, hg.output.trans h.lk.output, Nat.le_trans h.lk.size hg.size, fun g hgl h4 => (key g (Nat.lt_of_lt_of_le hgl h.lk.size) (.inl (by omega))).trans (h.lk.block g hgl h4)⟩, (key bb (lt_of_block' h.box) (.inr ⟨_, _, _, h.box⟩)).trans h.box, ⟨h.def'.nodup, fun D hD => ⟨(h.def'.each D hD).1, ?_⟩⟩, h.low⟩
  have hW := (h.def'.each D hD).2
  exact (key D ((Array.getElem?_eq_some_iff.1 hW).1) (.inl (h.low D hD))).trans hW
/-- One match more. -/
theorem CI.round {wE w1 : World} {B cb bb M : Nat} {Ds : List Nat} {vp : Array Value} {c0 : Nat} {pre : List (TkX wE)} {x : TkX wE} {W : World} (h : CI wE w1 B cb bb M Ds vp c0 pre W) (h1 : wE.heap.size ≤ cb) (h2 : cb < B) (hne : bb ≠ cb) : CI wE w1 B cb bb M Ds vp c0 (pre ++ [x]) (W.setCell ⟨cb, 0, none⟩ (.int .i64 ((c0 + pre.length : Nat) + 1 : Int))) ∧ Kq cb w1.heap.size M W (W.setCell ⟨cb, 0, none⟩ (.int .i64 ((c0 + pre.length : Nat) + 1 : Int))) := by
  have ht : Turned W (W.setCell ⟨cb, 0, none⟩ (.int .i64 ((c0 + pre.length : Nat) + 1 : Int))) cb := Turned.setCells [_] 0 W cb
  have h' := heap_setCell_same (i := 0) h.cnt (.int .i64 ((c0 + pre.length : Nat) + 1 : Int))
  refine ⟨⟨?_, h.lk.trans (Lko.of_turned ht h1 h2), (ht.block bb hne).trans h.box, ⟨h.def'.nodup, fun D hD => ⟨(h.def'.each D hD).1, ?_⟩⟩, h.low⟩, ⟨ht.os, ht.tape, ht.output, Nat.le_of_eq ht.size.symm, fun k _ hk _ => ht.block k hk⟩⟩
  · have e : (c0 + (pre ++ [x]).length : Nat) = (c0 + pre.length) + 1 := by simp; omega
    rw [e]
    simpa using h'
  · have hW := (h.def'.each D hD).2
    rw [ht.block D (fun e => by subst e; rw [h.cnt] at hW; cases hW)]
    exact hW
/-- The matches of a plan, as a sequence. -/
theorem seq_any (Z : SK) (n : Nat) (w : World) (hlk : Lko Z.wE.heap.size Z.B Z.w1 w) (hpl : w.heap[Z.pb]? = some (.cells #[.slice Z.ca Z.m Z.cc, Z.vv] 88 (0, 0))) (hsd : w.heap[Z.sb]? = some (.cells #[.int .i64 (-1), .pointer none] 119 (0, 0))) (hso : SrOk ((Z.X.take Z.m).map (cnOf Z.fs)) []) (hcb : Z.cb < w.heap.size) :
    SeqStopsK Fence.wide n Tryz.prog 91 #[.pointer (some ⟨Z.pb, 0, none⟩), .pointer (some ⟨Z.sb, 0, none⟩)] (fun x : TkX Z.wE => #[tkv x.1.1]) (Kq Z.cb Z.w1.heap.size Z.M) (fun ys => ys.map tkT = extsC ((Z.X.take Z.m).map (cnOf Z.fs)) []) (fun _ => True) (extsC ((Z.X.take Z.m).map (cnOf Z.fs)) []).length w := by
  intro l J Jx W hW hJ _ hY h0
  have hs := hW.size
  refine callsIn_wide.2 ?_
  exact matches1_any { Z with l := l, yb := W.heap.size, xb := W.heap.size + 1, n2 := by omega, n4 := by omega } J Jx (abides_bel hJ) W (hlk.trans (Lko.of_below hW)) ((hW.block _ (lt_of_block' hpl)).trans hpl) ((hW.block _ (lt_of_block' hsd)).trans hsd) rfl rfl hso (fun mm pre x W1 hj hl => YieldAt.wideDepth mm (hY pre x W1 hj hl)) h0
end Go.Proofs.YtognpkdgphebeaaGreat
