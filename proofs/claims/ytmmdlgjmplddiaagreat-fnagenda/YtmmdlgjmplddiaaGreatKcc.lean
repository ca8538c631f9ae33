/-
  OUR OWN TEXT. Fr1, Tk5, Cf1, Cf2, one behind the other.
-/
import Derived.Test.YtmmdlgjmplddiaaGreatKca
import Derived.RangeFuncNested
import Derived.RangeFuncFrom
import Derived.RangeFuncCalls
import Derived.OwnWalkIn
import Derived.OrdersHeld
import Derived.Deep.RegionHeld3
namespace Go.Proofs.YtmmdlgjmplddiaaGreat
open Go.RowKit
theorem zhr {l n:Nat}{P:Program}{ops:Array Oper}{Q:Exit→Act→World→Prop} (hq:¬ LetsOut Q) (hd:∀ (i:Nat) (o:Oper),ops[i]?=some o→∀ c,o.op≠.defer c) :
  ∀ (is:List Nat) (a:Act) (w:World),wpOps P ops Q is a w→wpOpsIn (Fence.wide.inRound l) n P ops Q is a w:=by
 intro is
 induction is with
 | nil=>intro a w h;exact h
 | cons i rest ih=>
  intro a w h
  unfold wpOps at h
  unfold wpOpsIn
  cases ho:ops[i]? with
  | none=>
   rw [ho] at h
   exact ih a w h
  | some o=>
   rw [ho] at h
   simp only at h ⊢
   split
   ·rename_i hw
    rw [if_pos hw] at h
    have h:o.wp P a w (wpOps P ops Q rest) Q:=h.resolve_right (fun h'=>hq h'.2)
    refine ⟨fun _ _=>trivial,?_⟩
    rw [Oper.semAt_plain _ _ _ (hd i o ho)]
    unfold Oper.wp at h
    generalize (execOp a.eval o).run P w=r at h ⊢
    cases r with
    | ok x w'=>
     cases x <;> simp only [Oper.upon,Oper.uponIn] at h ⊢ <;> first
      | exact ih _ _ h
      | exact h.elim
      | (refine ⟨fun hx=>(by simp [Fence.wide] at hx),CallsIn.inRound l (callsIn_wide.2 (Calls.mono h ?_))⟩;intro e w'' he;cases e;exact ih _ _ he;exact he;exact he)
      | exact ⟨fun hx=>(by simp [Fence.wide] at hx),fun c cs _=>let ⟨v,w'',r,s⟩:=h c cs;⟨v,w'',ih _ _ r,stepsIn_wide.2 s⟩⟩
    | halt x w'=>cases x <;> simp only [Oper.upon,Oper.uponIn] at h ⊢ <;> exact h
   ·rename_i hw
    rw [if_neg hw] at h
    exact ⟨fun _ _=>trivial,ih _ _ h⟩
theorem zkA {l n:Nat}{P:Program}{id:Nat}{ops:Array Oper}{Q:Exit→Act→World→Prop}{S:World→Prop}{a:Act}{w:World} (hq:¬ LetsOut Q) (hd:∀ (i:Nat) (o:Oper),ops[i]?=some o→∀ c,o.op≠.defer c) (hm:P.follows .mixedOrders=true) (hS:S w.drew)
  (h:S w.drew→wpAnyH P .any ops Q S ops.size (Array.replicate ops.size false) a w.drew):(Code.region id ops true).wpIn (Fence.wide.inRound l) n P Q a w:=
 wpIn_region_draw fun t=>by
  simp only [Region.schedule,hm,Bool.true_or,if_true]
  exact zhr hq hd _ _ _ (wpAny_sound ops.size t _ a _ (wpAny_of_held _ _ _ _ (h hS)))
theorem zkm {l n:Nat}{P:Program}{id:Nat}{ops:Array Oper}{Q:Exit→Act→World→Prop}{S:World→Prop}{a:Act}{w:World} (hq:¬ LetsOut (NoPanic Q)) (hd:∀ (i:Nat) (o:Oper),ops[i]?=some o→∀ c,o.op≠.defer c) (hm:P.follows .mixedOrders=true) (hS:S w.drew)
  (h:S w.drew→wpAnyH P .any ops (NoPanic Q) S ops.size (Array.replicate ops.size false) a w.drew):(Code.region id ops true).wpIn (Fence.wide.inRound l) n P Q a w:=
 wpIn_mono (zkA hq hd hm hS h) (fun _ _ _ h=>NoPanic.imp _ _ _ h)
end Go.Proofs.YtmmdlgjmplddiaaGreat
namespace Go.Proofs.YtmmdlgjmplddiaaGreat
open Go.RowKit Go.Maps
def zlq (Ds:List Nat):List Deferred:=Ds.map (fun D=>{ target:=.collected D,args:=#[] })
structure zm1 (B:Nat) (Ds:List Nat) (W:World):Prop where
 nodup:Ds.Nodup
 each:∀ D∈Ds,B≤D∧W.heap[D]?=some (.deferred (some []))
theorem Kq.putObj {cb L M l:Nat}{W:World}{o o':Obj} (hL:L≤M) (hM:M≤l) (hl:W.heap[l]?=some o) (ho:o.isCells=false):Kq cb L M W (W.putObj l o'):=
 ⟨rfl,rfl,rfl,by simp,fun k hk _ h=>World.putObj_heap_other (fun e=>by
  subst e
  rcases h with h | ⟨h | ⟨c,t,fr,h⟩,_⟩
  ·omega
  ·omega
  ·rw [hl] at h
   cases h
   simp [Obj.isCells] at ho)⟩
structure CI (wE w1:World) (B cb bb M:Nat) (Ds:List Nat) (vp:Array Value) (c0:Nat) (pre:List (TkX wE)) (W:World):Prop where
 cnt:W.heap[cb]?=some (.cells #[.int .i64 ((c0+pre.length:Nat):Int)] 3 (0,0))
 lk:Lko wE.heap.size B w1 W
 box:W.heap[bb]?=some (.cells vp 71 (0,0))
 def':zm1 wE.heap.size Ds W
 low:∀ D∈Ds,D<M
theorem CI.own {wE w1:World}{B cb bb M:Nat}{Ds:List Nat}{vp:Array Value}{c0:Nat} (h3:w1.heap.size≤M):OwnFrom M (CI wE w1 B cb bb M Ds vp c0):=by
 intro pre W W' row h hg hr
 have key:∀ k,k<W.heap.size→(k<M∨∃ c t fr,W.heap[k]?=some (.cells c t fr))→W'.heap[k]?=W.heap[k]?:=fun k hk hh=>hg.block k hk (fun e=>by
  obtain ⟨hM,o,ho,hc⟩:=hr k e.symm
  rcases hh with hh | ⟨c,t,fr,hh⟩
  ·omega
  ·rw [ho] at hh
   cases hh
   simp [Obj.isCells] at hc)
 refine ⟨(key cb (zab h.cnt) (.inr ⟨_,_,_,h.cnt⟩)).trans h.cnt,⟨hg.os.trans h.lk.os,hg.tape.trans h.lk.tape,hg.output.trans h.lk.output,Nat.le_trans h.lk.size hg.size,fun g hgl h4=>(key g (Nat.lt_of_lt_of_le hgl h.lk.size) (.inl (by omega))).trans (h.lk.block g hgl h4)⟩,(key bb (zab h.box) (.inr ⟨_,_,_,h.box⟩)).trans h.box,⟨h.def'.nodup,fun D hD=>⟨(h.def'.each D hD).1,?_⟩⟩,h.low⟩
 have hW:=(h.def'.each D hD).2
 exact (key D ((Array.getElem?_eq_some_iff.1 hW).1) (.inl (h.low D hD))).trans hW
theorem CI.round {wE w1:World}{B cb bb M:Nat}{Ds:List Nat}{vp:Array Value}{c0:Nat}{pre:List (TkX wE)}{x:TkX wE}{W:World} (h:CI wE w1 B cb bb M Ds vp c0 pre W) (h1:wE.heap.size≤cb) (h2:cb<B) (hne:bb≠cb):CI wE w1 B cb bb M Ds vp c0 (pre ++ [x]) (W.setCell ⟨cb,0,none⟩ (.int .i64 ((c0+pre.length:Nat)+1:Int)))∧Kq cb w1.heap.size M W (W.setCell ⟨cb,0,none⟩ (.int .i64 ((c0+pre.length:Nat)+1:Int))):=by
 have ht:Turned W (W.setCell ⟨cb,0,none⟩ (.int .i64 ((c0+pre.length:Nat)+1:Int))) cb:=Turned.setCells [_] 0 W cb
 have h':=zaf (i:=0) h.cnt (.int .i64 ((c0+pre.length:Nat)+1:Int))
 refine ⟨⟨?_,h.lk.trans (Lko.of_turned ht h1 h2),(ht.block bb hne).trans h.box,⟨h.def'.nodup,fun D hD=>⟨(h.def'.each D hD).1,?_⟩⟩,h.low⟩,⟨ht.os,ht.tape,ht.output,Nat.le_of_eq ht.size.symm,fun k _ hk _=>ht.block k hk⟩⟩
 ·have e:(c0+(pre ++ [x]).length:Nat)=(c0+pre.length)+1:=by simp;omega
  rw [e]
  simpa using h'
 ·have hW:=(h.def'.each D hD).2
  rw [ht.block D (fun e=>by subst e;rw [h.cnt] at hW;cases hW)]
  exact hW
theorem zoi (Z:SK) (n:Nat) (w:World) (hlk:Lko Z.wE.heap.size Z.B Z.w1 w) (hpl:w.heap[Z.pb]?=some (.cells #[.slice Z.ca Z.m Z.cc,Z.vv] 71 (0,0))) (hsd:w.heap[Z.sb]?=some (.cells #[.int .i64 (-1),.pointer none] 77 (0,0))) (hso:SrOk ((Z.X.take Z.m).map (cnOf Z.fs)) []) (hcb:Z.cb<w.heap.size) :
  SeqStopsK Fence.wide n Tryz.prog 54 #[.pointer (some ⟨Z.pb,0,none⟩),.pointer (some ⟨Z.sb,0,none⟩)] (fun x:TkX Z.wE=>#[tkv x.1.1]) (Kq Z.cb Z.w1.heap.size Z.M) (fun ys=>ys.map tkT=zcU ((Z.X.take Z.m).map (cnOf Z.fs)) []) (fun _=>True) (zcU ((Z.X.take Z.m).map (cnOf Z.fs)) []).length w:=by
 intro l J Jx W hW hJ _ hY h0
 have hs:=hW.size
 refine callsIn_wide.2 ?_
 exact zii { Z with l:=l,yb:=W.heap.size,xb:=W.heap.size+1,n2:=by omega,n4:=by omega } J Jx (zj5 hJ) W (hlk.trans (Lko.of_below hW)) ((hW.block _ (zab hpl)).trans hpl) ((hW.block _ (zab hsd)).trans hsd) rfl rfl hso (fun mm pre x W1 hj hl=>YieldAt.wideDepth mm (hY pre x W1 hj hl)) h0
end Go.Proofs.YtmmdlgjmplddiaaGreat
namespace Go.Proofs.YtmmdlgjmplddiaaGreat
open Go.RowKit Go.Maps
structure Mkd (B:Nat) (W W':World):Prop where
 bel:Below B W W'
 cel:∀ (k:Nat) c t fr,W.heap[k]?=some (.cells c t fr)→W'.heap[k]?=some (.cells c t fr)
theorem zeg {n:Nat}{fn:Func}{tmps:Array Value}{R:Ending→World→Prop}{B:Nat}:∀ (Ds:List Nat) (W:World),zm1 B Ds W→(∀ W',Mkd B W W'→∃ v,(results fn tmps).run Tryz.prog W'=.ok v W'∧R (.returned v) W')→LeavesInM Fence.wide n Tryz.prog fn tmps R (zlq Ds) .returning W
 | [],W,_,h=>h W ⟨Below.refl _ _,fun _ _ _ _ h=>h⟩
 | D :: Ds,W,hd,h=>by
  obtain ⟨hB,hD⟩:=hd.each D (by simp)
  have hnd:=List.nodup_cons.1 hd.nodup
  have hbp:Mkd B W (W.putObj D (.deferred none)):=⟨⟨rfl,rfl,rfl,by simp,fun k hk=>World.putObj_heap_other (by omega)⟩,fun k c t fr hk=>by
   rw [World.putObj_heap_other (fun e=>by subst e;rw [hD] at hk;cases hk)]
   exact hk⟩
  refine ⟨by simp,.inl ⟨D,_,rfl,run_takeDeferred hD,zeg Ds _ ⟨hnd.2,fun D' hD'=>⟨(hd.each D' (by simp [hD'])).1,?_⟩⟩ (fun W' hW'=>h W' ⟨hbp.bel.trans hW'.bel,fun k c t fr hk=>hW'.cel k c t fr (hbp.cel k c t fr hk)⟩)⟩⟩
  rw [World.putObj_heap_other (fun e=>hnd.1 (by rw [← e];exact hD'))]
  exact (hd.each D' (by simp [hD'])).2
theorem zhK {w w':World}{base:Nat}{e:TypeId}{m:Nat}{v:Value}{n:Nat}{xs:List Value} (h:w.ownsRow base e m v n xs) (hk:∀ (k:Nat) c,w.heap[k]?=some (.cells c e (0,0))→w'.heap[k]?=w.heap[k]?):w'.ownsRow base e m v n xs:=
 zae h (fun g hg=>by obtain ⟨c,hc⟩:=zai h hg;exact hk g c hc)
theorem Iw.same {w w':World}{b1 base:Nat}{a:Option Addr}{c:Nat}{L:List ItX} (h:Iw w b1 base a c L) (hk:∀ (k:Nat) c t,(t=46∨t=3)→w.heap[k]?=some (.cells c t (0,0))→w'.heap[k]?=w.heap[k]?):Iw w' b1 base a c L:=
 ⟨zhK h.row (fun k c h=>hk k c _ (.inl rfl) h),fun x hx=>⟨(h.all x hx).ts,zhK (h.all x hx).ot (fun k c h=>hk k c _ (.inr rfl) h)⟩⟩
def itOf {wE:World} (i:Nat) (x:TkX wE):It:=⟨(i:Int),(tkT x).map (·.tag)⟩
def Ins (w1:World) (cb:Nat) (L:List It) (W:World):Prop:=
 ∃ ia ic N,W.heap[cb]?=some (.cells #[.slice ia N.length ic] 29 (0,0))∧Iw W w1.heap.size w1.heap.size ia ic N∧N.map Prod.fst=L∧N.Pairwise (fun x y=>Apart x.2 y.2)
theorem Ins.same {w1:World}{cb:Nat}{L:List It}{W W':World} (h:Ins w1 cb L W) (hk:∀ (k:Nat) c t fr,W.heap[k]?=some (.cells c t fr)→W'.heap[k]?=some (.cells c t fr)):Ins w1 cb L W':=by
 obtain ⟨ia,ic,N,h1,h2,h3,h4⟩:=h
 exact ⟨ia,ic,N,hk _ _ _ _ h1,h2.same (fun k c t _ h=>(hk k c t _ h).trans h.symm),h3,h4⟩
theorem Ins.bel {w1:World}{cb:Nat}{L:List It}{W W':World} (h:Ins w1 cb L W) (hb:Below W.heap.size W W'):Ins w1 cb L W':=
 h.same (fun k _ _ _ hk=>(hb.block k (zab hk)).trans hk)
structure DH (wE w1:World) (B cb:Nat) (Ds:List Nat) (L:List It) (W:World):Prop where
 ins:Ins w1 cb L W
 lk:Lko wE.heap.size B w1 W
 def':zm1 wE.heap.size Ds W
theorem DH.bel {wE w1:World}{B cb:Nat}{Ds:List Nat}{L:List It}{W W':World} (h:DH wE w1 B cb Ds L W) (hb:Below W.heap.size W W'):DH wE w1 B cb Ds L W':=
 ⟨h.ins.bel hb,h.lk.trans (Lko.of_below hb),⟨h.def'.nodup,fun D hD=>⟨(h.def'.each D hD).1,(hb.block D (Array.getElem?_eq_some_iff.1 (h.def'.each D hD).2).1).trans (h.def'.each D hD).2⟩⟩⟩
structure DI (wE w1:World) (B cb ib bb M i:Nat) (Ds:List Nat) (vp:Array Value) (L:List It) (pre:List (TkX wE)) (W:World):Prop where
 ins:Ins w1 cb (L ++ pre.map (itOf i)) W
 lk:Lko wE.heap.size B w1 W
 idx:W.heap[ib]?=some (.cells #[.int .i64 (i:Int)] 3 (0,0))
 box:W.heap[bb]?=some (.cells vp 71 (0,0))
 def':zm1 wE.heap.size Ds W
 low:∀ D∈Ds,D<M
theorem DI.own {wE w1:World}{B cb ib bb M i:Nat}{Ds:List Nat}{vp:Array Value}{L:List It} (h3:w1.heap.size≤M):OwnFrom M (DI wE w1 B cb ib bb M i Ds vp L):=by
 intro pre W W' row h hg hr
 have key:∀ k,k<W.heap.size→(k<M∨∃ c t fr,W.heap[k]?=some (.cells c t fr))→W'.heap[k]?=W.heap[k]?:=fun k hk hh=>hg.block k hk (fun e=>by
  obtain ⟨hM,o,ho,hc⟩:=hr k e.symm
  rcases hh with hh | ⟨c,t,fr,hh⟩
  ·omega
  ·rw [ho] at hh
   cases hh
   simp [Obj.isCells] at hc)
 refine ⟨h.ins.same (fun k c t fr hk=>(key k (zab hk) (.inr ⟨_,_,_,hk⟩)).trans hk),⟨hg.os.trans h.lk.os,hg.tape.trans h.lk.tape,hg.output.trans h.lk.output,Nat.le_trans h.lk.size hg.size,fun g hgl h4=>(key g (Nat.lt_of_lt_of_le hgl h.lk.size) (.inl (by omega))).trans (h.lk.block g hgl h4)⟩,(key ib (zab h.idx) (.inr ⟨_,_,_,h.idx⟩)).trans h.idx,(key bb (zab h.box) (.inr ⟨_,_,_,h.box⟩)).trans h.box,⟨h.def'.nodup,fun D hD=>⟨(h.def'.each D hD).1,?_⟩⟩,h.low⟩
 have hW:=(h.def'.each D hD).2
 exact (key D ((Array.getElem?_eq_some_iff.1 hW).1) (.inl (h.low D hD))).trans hW
theorem DI.bel {wE w1:World}{B cb ib bb M i:Nat}{Ds:List Nat}{vp:Array Value}{L:List It}{pre:List (TkX wE)}{W W':World} (h:DI wE w1 B cb ib bb M i Ds vp L pre W) (hb:Below W.heap.size W W'):DI wE w1 B cb ib bb M i Ds vp L pre W':=
 ⟨h.ins.bel hb,h.lk.trans (Lko.of_below hb),(hb.block _ (zab h.idx)).trans h.idx,(hb.block _ (zab h.box)).trans h.box,⟨h.def'.nodup,fun D hD=>⟨(h.def'.each D hD).1,(hb.block D (Array.getElem?_eq_some_iff.1 (h.def'.each D hD).2).1).trans (h.def'.each D hD).2⟩⟩,h.low⟩
theorem zlu {W W':World} (hb:Below W.heap.size W W'):KeepsOthers W W':=⟨hb.size,fun k _ hk _=>(hb.block k (Array.getElem?_eq_some_iff.1 hk).1).trans hk⟩
theorem DI.round {wE w1:World}{B cb ib bb M i:Nat}{Ds:List Nat}{vp:Array Value}{L:List It}{pre:List (TkX wE)}{W W5 W8:World}{x:TkX wE}{ia ta a8:Option Addr}{ic tc c8:Nat}{N:List ItX}{tg:List Int} (htg:tg=(tkT x).map (·.tag)) (h:DI wE w1 B cb ib bb M i Ds vp L pre W)
  (h1:W.heap[cb]?=some (.cells #[.slice ia N.length ic] 29 (0,0))) (h2:Iw W w1.heap.size w1.heap.size ia ic N) (h3:N.map Prod.fst=L ++ pre.map (itOf i)) (h4:N.Pairwise (fun x y=>Apart x.2 y.2))
  (hb:Below W.heap.size W W5) (hT:W5.ownsRow W.heap.size 3 1 (.slice ta tg.length tc) tg.length (icells tg))
  (hO:W8.ownsRow w1.heap.size 46 2 (.slice a8 (N.length+1) c8) (N.length+1) (N.flatMap zbr ++ zbr (⟨(i:Int),tg⟩,.slice ta tg.length tc))) (hg:W5.grownBy W8 (Value.slice ia N.length ic).ownBlock)
  (e1:wE.heap.size≤cb) (e2:cb<B) (e3:B≤w1.heap.size) (n1:ib≠cb) (n2:bb≠cb) :
  KeepsOthers W (W8.setCell ⟨cb,0,none⟩ (.slice a8 (N.length+1) c8))∧Kq cb w1.heap.size M W (W8.setCell ⟨cb,0,none⟩ (.slice a8 (N.length+1) c8))∧DI wE w1 B cb ib bb M i Ds vp L (pre ++ [x]) (W8.setCell ⟨cb,0,none⟩ (.slice a8 (N.length+1) c8)):=by
 subst htg
 have ht:Turned W8 (W8.setCell ⟨cb,0,none⟩ (.slice a8 (N.length+1) c8)) cb:=Turned.setCells [_] 0 W8 cb
 have R5:=h2.bel hb
 have hcb:=zab h1
 have hne:(Value.slice ia N.length ic).ownBlock≠some cb:=fun e=>by have:=(h2.row.lt cb e).1;omega
 have h8:W8.heap[cb]?=some (.cells #[.slice ia N.length ic] 29 (0,0)):=(hg.block cb (Nat.lt_of_lt_of_le hcb hb.size) (Ne.symm hne)).trans ((hb.block cb hcb).trans h1)
 have hK:Kq cb w1.heap.size M W (W8.setCell ⟨cb,0,none⟩ (.slice a8 (N.length+1) c8)):=
  ⟨(ht.os.trans hg.os).trans hb.os,(ht.tape.trans hg.tape).trans hb.tape,(ht.output.trans hg.output).trans hb.output,Nat.le_trans (Nat.le_trans hb.size hg.size) (Nat.le_of_eq ht.size.symm),fun k hk hkc hc=>by
   have hrow:some k≠(Value.slice ia N.length ic).ownBlock:=fun e=>by
    rcases hc with hc | ⟨_,hc⟩
    ·have:=(h2.row.lt k e.symm).1
     omega
    ·obtain ⟨c,hcc⟩:=zai h2.row e.symm
     exact hc c _ hcc
   exact (ht.block k hkc).trans ((hg.block k (Nat.lt_of_lt_of_le hk hb.size) hrow).trans (hb.block k hk))⟩
 have hX:ItP W5 w1.heap.size (itOf i x,.slice ta ((tkT x).map (·.tag)).length tc):=⟨⟨ta,tc,rfl⟩,zan hT h.lk.size⟩
 have h9:=Iw.snoc R5 hX hO hg
 refine ⟨(zlu hb).trans ((KeepsOthers.of_grownBy hg (fun j o hj ho=>?_)).trans (KeepsOthers.setCell _ _ _)),hK,⟨?_,hK.lko h.lk (Nat.le_refl _) e1 e2,hK.box h.idx n1 (by decide),hK.box h.box n2 (by decide),⟨h.def'.nodup,fun D hD=>⟨(h.def'.each D hD).1,?_⟩⟩,h.low⟩⟩
 ·obtain ⟨c,hc⟩:=zai R5.row hj
  rw [hc] at ho
  cases ho
  rfl
 ·refine ⟨a8,c8,N ++ [(itOf i x,.slice ta ((tkT x).map (·.tag)).length tc)],?_,?_,?_,?_⟩
  ·have h':=zaf (i:=0) h8 (.slice a8 (N.length+1) c8)
   rw [List.length_append]
   simpa using h'
  ·exact h9.same (fun k c t htt hk=>ht.block k (fun e=>by subst e;rw [h8] at hk;injection hk with hk;injection hk with _ hk _;rcases htt with rfl | rfl <;> exact absurd hk (by decide)))
  ·rw [List.map_append,h3,List.map_append,List.append_assoc]
   rfl
  ·rw [List.pairwise_append]
   refine ⟨h4,by simp,fun y hy z hz=>?_⟩
   obtain rfl:=List.mem_singleton.1 hz
   intro g hgy hgz
   have i1:=((h2.all y hy).ot.lt g hgy).2
   have i2:=(hT.lt g hgz).1
   omega
 ·have hW:=(h.def'.each D hD).2
  exact (hK.block D ((Array.getElem?_eq_some_iff.1 hW).1) (fun e=>by subst e;rw [h1] at hW;cases hW) (.inr ⟨.inl (h.low D hD),fun c fr e=>by rw [hW] at e;cases e⟩)).trans hW
def TBx (wE:World) (mk:Value→Value→Act) (x:TkX wE) (a:Act) (W:World):Prop:=∃ tb,W.heap[tb]?=some (.cells #[.pointer x.1.1.1,.pointer x.1.1.2.1,.pointer x.1.1.2.2] 80 (0,0))∧a=mk (.pointer (some ⟨tb,0,none⟩)) (tkv x.1.1)
theorem TokX.below {w w':World}{p0 p1 p2:Option Addr}{T:List F} (h:TokX w p0 p1 p2 T) (hb:Below w.heap.size w w'):TokX w' p0 p1 p2 T:=⟨h.tok.below hb,h.z0,h.z1,h.z2,h.le⟩
theorem TBx.own {wE:World}{M:Nat}{mk:Value→Value→Act} (x:TkX wE) (a:Act):OwnFrom M (fun (_:Unit) W=>TBx wE mk x a W):=by
 rintro _ W W' row ⟨tb,h2,h3⟩ hg hr
 refine ⟨tb,(hg.block tb (zab h2) (fun e=>?_)).trans h2,h3⟩
 obtain ⟨_,o,ho,hc⟩:=hr tb e.symm
 rw [h2] at ho
 cases ho
 simp [Obj.isCells] at hc
theorem zjO.nil {L:List It}{w w':World} (hL:L=[]) (hb:Below w.heap.size w w'):zjO L w (.returned (.slice none 0 0)) w':=by
 subst hL
 exact ⟨⟨none,0,[],rfl,Iw.nil _ _ _,rfl,List.Pairwise.nil⟩,hb⟩
end Go.Proofs.YtmmdlgjmplddiaaGreat
namespace Go.Proofs.YtmmdlgjmplddiaaGreat
open Go.RowKit Go.Maps
attribute [local go_sem ↓] Go.wp_at_zero Go.wp_at_succ
attribute [local go_sem] Oper.semAt_some
def CfI (rs:List Ru) (fs:List F) (a:Option Addr) (c:Nat) (fa:Option Addr) (fc:Nat) (w w0 w1:World) (cb:Nat) (xa:Option Addr) (xc:Nat) (ac:Act) (W:World):Prop:=∃ (k:Nat) (Ds:List Nat) (u6 u7 u8 u14 u15 u16 u17 u18 u19 u20 u21 u22 u23 u24 u25 u26 u27 u28 u29 u30:Value),ac={ tmps:=#[.slice a rs.length c,.slice fa fs.length fc,undef,undef,.slice none 0 0,.pointer (some ⟨cb,0,none⟩),u6,u7,u8,.slice a rs.length c,.slice fa fs.length fc,.slice xa rs.length xc,.int .i64 (rs.length:Int),.int .i64 (k:Int),u14,u15,u16,u17,u18,u19,u20,u21,u22,u23,u24,u25,u26,u27,u28,u29,u30],defers:=zlq Ds }∧k≤rs.length∧DH w w1 w0.heap.size cb Ds (za4 fs 0 (rs.take k)) W
theorem zob {X:List Cx}{r:Ru}{fs:List F} (hX:X.map Cx.cp=zaF r.pats [] 0) (hk:KnR r.pats [] 0) (h3:positives r.pats≤3):zcU ((X.take X.length).map (cnOf fs)) []=exts (zaF r.pats [] 0) fs []∧SrOk ((X.take X.length).map (cnOf fs)) []:=by
 rw [List.take_length]
 have hl:(X.map (cnOf fs)).length=(zaF r.pats [] 0).length:=by
  rw [← hX]
  simp
 have he:∀ (k:Nat) (c:Cn) (d:Cp),(X.map (cnOf fs))[k]?=some c→(zaF r.pats [] 0)[k]?=some d→CnCp fs c d:=by
  intro k c d hc hd
  rw [← hX,List.getElem?_map] at hd
  rw [List.getElem?_map] at hc
  obtain ⟨x,hx,rfl⟩:=Option.map_eq_some_iff.1 hc
  rw [hx] at hd
  cases hd
  exact zlJ fs x
 exact ⟨zjt _ _ hl he _,zfB (fs:=fs) r.pats [] [] _ hk (fun v hv=>by simp at hv) (by simp;omega) hl he⟩
theorem zox {r:Ru}{fs:List F} (hk:KnR r.pats [] 0) {wE:World}{ys:List (TkX wE)} (h:ys.map tkT=exts (zaF r.pats [] 0) fs []) (i:Nat):ys.map (itOf i)=(allM r.pats fs [⟨[],[]⟩] 0).1.map (fun x=>(⟨(i:Int),x.tags⟩:It)):=by
 rw [znW hk,← h,List.map_map,List.map_map]
 rfl
set_option maxRecDepth 100000 in
set_option maxHeartbeats 12800000 in
theorem zhj (rs:List Ru) (fs:List F) (a:Option Addr) (c:Nat) (fa:Option Addr) (fc:Nat) {q:Option Nat} (w:World) (hv:zbR q w a rs) (hc:rs.length≤c) (hle:zbu Ru.le 1048576 rs) (ho:∀ x∈rs,zdF x.exprs) (hvo:∀ r∈rs,∀ p∈r.pats,∀ t∈p.terms,VOk t.val) (h_f:zaH w fa fs) (hl:fs.length≤1048576) (hs:∀ f∈fs,Sized f) :
  Calls Tryz.prog 7 #[.slice a rs.length c,.slice fa fs.length fc] w (zjO (zet rs fs) w):=by
 have HR:=hidP (fun wt (hb:Below w.heap.size w wt)=>zg7 rs a c fs fa fc w wt hb (hv.below hb) hc hle ho hvo h_f hl hs)
 clear hv h_f hs hle ho hvo
 refine (callsIn_wide (n:=9)).1 ?_
 refine callsIn_of_wp_marks Tryz.func7 rfl trivial ?_ rfl
 simp only [Tryz.ntmps7,List.size_toArray,List.length_cons,List.length_nil,Nat.reduceAdd,Nat.reduceSub,Array.replicate_succ,Array.replicate_zero,List.push_toArray,List.append_toArray,List.nil_append,List.cons_append]
 refine wpIn_wide.2 ?_
 go_upto_region 2 with fail
 refine zaj ?_
 intro w0 hW0 hq0
 obtain ⟨cb,hcb⟩:∃ b,b=w.heap.size:=⟨_,rfl⟩
 rw [← hcb] at hq0 ⊢
 have CB0:=hidP hq0
 have H0:=hidP hW0
 have hcw:w.heap.size≤cb:=by omega
 have hc0:cb<w0.heap.size:=zab hq0
 clear hW0 hq0 hcb
 go_wp2_with fail
 refine (HR.out w0 H0.out).mono ?_
 rintro e w1 ⟨he1,hb1⟩
 have BW:=hidP (H0.out.trans (hb1.mono H0.out.size))
 have CB1:=hidP ((hb1.block _ hc0).trans CB0.out)
 have hs1:=hb1.size
 clear hb1 CB0 HR H0
 by_cases hrdy:ready rs fs=true
 ·rw [if_pos hrdy] at he1
  obtain ⟨xa,xc,PW,rfl,_,_,base,gb,mb,la,lc,L,bs,V,P,Q,hraw⟩:=he1
  have RAW:=hidP hraw
  have HRDY:=hidP hrdy
  clear hraw hrdy
  go_wp2_with fail
  obtain ⟨hPl,hPx⟩:=RAW.out.px
  have MEM:=hidP RAW.out.mem
  have HPX:=hidP hPx
  have hPl':P.length=rs.length:=hPl
  have HPL':=hidP hPl'
  clear hPl hPx hPl'
  have DH1:=hidP (show DH w w1 w0.heap.size cb [] (za4 fs 0 (rs.take 0)) w1 from ⟨⟨none,0,[],CB1.out,Iw.nil _ _ _,rfl,List.Pairwise.nil⟩,Lko.refl _ _ _,⟨List.nodup_nil,by simp⟩⟩)
  refine wp_loop (CfI rs fs a c fa fc w w0 w1 cb xa xc) (fun a _=>rs.length - (intOf (a.tmps.getD 13 undef)).toNat) (by unfold CfI;exact ⟨0,[],_,_,_,_,_,_,_,_,_,_,_,_,_,_,_,_,_,_,_,_,rfl,Nat.zero_le _,DH1.out⟩) ?_
  clear DH1 CB1
  rintro ac W ⟨k,Ds,u6,u7,u8,u14,u15,u16,u17,u18,u19,u20,u21,u22,u23,u24,u25,u26,u27,u28,u29,u30,rfl,hkl,hst⟩
  by_cases hk:k<rs.length
  ·obtain ⟨r,hr⟩:∃ r,rs[k]?=some r:=⟨rs[k],by simp [hk]⟩
   obtain ⟨⟨ca,cc,va,vc,X,U⟩,hP0⟩:∃ x,P[k]?=some x:=⟨P[k]'(by rw [HPL'.out];exact hk),by simp⟩
   obtain ⟨hX,hU⟩:=HPX.out k _ r hP0 hr
   simp only at hX hU
   have hxm:=List.mem_of_getElem? hP0
   have hrm:=List.mem_of_getElem? hr
   obtain ⟨g,hg,x0,x1⟩:∃ g,xa=some ⟨g,0,none⟩∧W.cell? ⟨g,k * 2,none⟩=some (.slice ca X.length cc)∧W.cell? ⟨g,k * 2+1,none⟩=some (.slice va U.length vc):=by
    have hrow:=(MEM.out W hst.lk).1.row
    obtain ⟨g,hg,_,h0,_⟩:=zam hrow (za5 (cells:=zcS) (m:=2) (fun _=>rfl) P k _ 0 _ hP0 rfl)
    obtain ⟨g',hg',_,h1,_⟩:=zam hrow (za5 (cells:=zcS) (m:=2) (fun _=>rfl) P k _ 1 _ hP0 rfl)
    rw [hg] at hg'
    cases hg'
    exact ⟨g,hg,by simpa using h0,by simpa using h1⟩
   subst hg
   obtain ⟨hck,hgf,hf40⟩:=zbD HRDY.out
   obtain ⟨hp6,ht6,hp3⟩:=zd7 hck hrm
   have hkn:KnR r.pats [] 0:=zim hck hrm
   have hl16:=ziw hck
   have hXl:X.length≤6:=by
    have h1:=congrArg List.length hX
    rw [List.length_map,zed] at h1
    omega
   have HX:=hidP hX
   have HKN:=hidP hkn
   have HT6:=hidP ht6
   have HXM:=hidP hxm
   have HST:=hidP hst
   have HCT:=hidP (zh7 fs hr)
   obtain ⟨hE1,hE2⟩:=zob (fs:=fs) hX hkn hp3
   have HE1:=hidP hE1
   have HE2:=hidP hE2
   have HB1:=hidP (zfp HRDY.out hrm).1
   have HB2:=hidP (zcB HRDY.out k).1
   have z0:(0:Int)≤(k:Int):=by omega
   have z1:(k:Int)<(rs.length:Int):=by omega
   have z3:(k:Int)<1000000:=by omega
   clear hP0 hX hU hkn ht6 hp3 hxm hck hgf hr hrm hst hE1 hE2
   go_upto_region 5 with fail
   refine lift2P ?_
   intro w3 hW3 hq3 hq4
   obtain ⟨ib,hib⟩:∃ b,b=W.heap.size:=⟨_,rfl⟩
   obtain ⟨bb,hbb⟩:∃ b,b=ib+1:=⟨_,rfl⟩
   rw [← hib] at hq3
   rw [← hib] at hq4
   rw [← hib]
   rw [← hbb] at hq4
   (try rw [← hbb])
   obtain ⟨t0,t1⟩:=cells2P hq4
   have hW1s:=HST.out.lk.size
   have DH3:=hidP (HST.out.bel hW3)
   have IB3:=hidP hq3
   have BB3:=hidP hq4
   have hbl:bb<w3.heap.size:=zab hq4
   have hs3:=hW3.size
   have hic:ib≠cb:=by omega
   have hbc:bb≠cb:=by omega
   clear hW3 hq3 hq4 hib hbb x0 x1 HST
   go_wp2_with fail
   refine wp_region_noPanic ?_
   refine wp_region_held_drew (S:=(fun w'=>w'.cell? ⟨bb,0,none⟩=some (.slice ca X.length cc)∧w'.cell? ⟨bb,1,none⟩=some (.slice va U.length vc))) (by kernel_rfl) ?_ (fun hHeld=>?_)
   ·(try dsimp only)
    exact ⟨t0,t1⟩
   refine tk 0 hHeld ?_
   (try simp only [pA,pZ,pS])
   refine wpAnyH_ready (rs:=[1]) (by kernel_rfl) (by simp) ?_
   refine AllReadyH.cons (List.getElem?_toArray.trans rfl) (fun K hK=>?_) AllReadyH.nil
   go_simp
   (go_at_call 23;refine (zkN _).mono ?_;rintro e' w4 ⟨rfl,hb4⟩)
   (try go_wp2_with fail)
   refine hK.out _ _ ?hS2 (fun hHeld=>?_)
   case hS2=>((try dsimp only);exact ⟨zaa hb4 t0,zaa hb4 t1⟩)
   clear hK K
   (first | simp only [pA,pZ,pS] | simp only [pN] | skip)
   have t0':=zaa hb4 t0
   have t1':=zaa hb4 t1
   refine wpAnyH_ready (rs:=[2]) (by kernel_rfl) (by simp) ?_
   refine AllReadyH.cons (List.getElem?_toArray.trans rfl) (fun K hK=>?_) AllReadyH.nil
   go_simp
   (go_at_call 22;refine (zi3 _ _ ca va X.length cc U.length vc rfl rfl w4).mono ?_;rintro e' w5 ⟨rfl,HPL,HSD,hb5⟩)
   (try go_wp2_with fail)
   refine hK.out _ _ ?hS4 (fun hHeld=>?_)
   case hS4=>((try dsimp only);exact ⟨zaa hb5 t0',zaa hb5 t1'⟩)
   clear hK K
   (first | simp only [pA,pZ,pS] | simp only [pN] | skip)
   refine wpAnyH_done (by kernel_rfl) ?_ _
   refine NoPanic.normal ?_
   have B35:=hidP (show Below w3.heap.size w3 w5 from (Below.refl _ _).drew.trans ((hb4.trans (hb5.mono hb4.size)).mono (by simp)))
   have hs5:=B35.out.size
   have DH5:=hidP (DH3.out.bel B35.out)
   have DI5:=hidP (show DI w w1 w0.heap.size cb ib bb w5.heap.size k Ds #[.slice ca X.length cc,.slice va U.length vc] (za4 fs 0 (rs.take k)) [] w5 from ⟨by simpa using DH5.out.ins,DH5.out.lk,(B35.out.block _ (zab IB3.out)).trans IB3.out,(B35.out.block _ (zab BB3.out)).trans BB3.out,DH5.out.def',fun D hD=>(Array.getElem?_eq_some_iff.1 (DH5.out.def'.each D hD).2).1⟩)
   have h45:w4.heap.size+1<w5.heap.size:=zab HSD.out
   have h34:w3.heap.size≤w4.heap.size:=by have:=hb4.size;simpa using this
   have hc5:cb<w5.heap.size:=by omega
   clear hb4 hb5 t0 t1 t0' t1' B35 hHeld DH3 DH5 IB3 BB3
   go_wp2_with fail
   refine (wpIn_wide (n:=9)).1 ?_
   refine wpIn_rangeFunc_ownH (α:=TkX w) rfl (by decide) (gf:=54) (lb:=#[.pointer (some ⟨w4.heap.size,0,none⟩),.pointer (some ⟨w4.heap.size+1,0,none⟩)]) rfl trivial (enters_of Tryz.func54 (by kernel_rfl) rfl)
    (zoi { wE:=w,w1:=w1,B:=w0.heap.size,cb:=cb,M:=w5.heap.size,l:=0,pb:=w4.heap.size,yb:=cb+1,sb:=w4.heap.size+1,xb:=cb+1,base:=base,gb:=gb,mb:=mb,ca:=ca,cc:=cc,m:=X.length,vv:=.slice va U.length vc,va:=va,vc:=vc,la:=la,lc:=lc,L:=L,bs:=bs,V:=V,Q:=Q,X:=X,U:=U,fs:=fs,mem:=fun W hW=>⟨(MEM.out W hW).1.each _ HXM.out,(MEM.out W hW).2⟩,snd:=RAW.out.snd,facs:=RAW.out.facs,below:=BW.out,hm:=Nat.le_refl _,h1:=hcw,h2:=hc0,h3:=by omega,n1:=by omega,n2:=by omega,n3:=by omega,n4:=by omega,f40:=hf40,small:=fun c hc=>(zcH r.pats [] 0 HT6.out c.cp (by rw [← HX.out];exact List.mem_map.2 ⟨c,hc,rfl⟩)).1,X6:=hXl,h4:=hs1 } 8 w5 DI5.out.lk HPL.out HSD.out HE2.out hc5)
    (fun h k=>Kq.trans h k) (fun W l o o' h1 h2 h3 _=>Kq.putObj DI5.out.lk.size h1 h2 h3) (Below.refl _ _) (fun _=>rfl)
    (DI w w1 w0.heap.size cb ib bb w5.heap.size k Ds #[.slice ca X.length cc,.slice va U.length vc] (za4 fs 0 (rs.take k))) (fun _ _ _=>False) (DI.own DI5.out.lk.size) (fun _ _ _ _ _ hs _ _=>hs) DI5.out
    (TBx w (fun pv tv=>{ tmps:=#[.slice a rs.length c,.slice fa fs.length fc,undef,undef,.slice none 0 0,.pointer (some ⟨cb,0,none⟩),.pointer (some ⟨ib,0,none⟩),.pointer (some ⟨bb,0,none⟩),pv,.slice a rs.length c,.slice fa fs.length fc,.slice (some ⟨g,0,none⟩) rs.length xc,.int .i64 (rs.length:Int),.int .i64 (k:Int),.bool true,.int .i64 (k:Int),.pointer (some ⟨g,k * 2,none⟩),.agg #[.slice ca X.length cc,.slice va U.length vc],.agg #[.slice ca X.length cc,.slice va U.length vc],.agg #[.int .i64 (-1),.pointer none],.func (.func 54) #[] #[.pointer (some ⟨w4.heap.size,0,none⟩),.pointer (some ⟨w4.heap.size+1,0,none⟩)],tv,u22,u23,u24,u25,u26,u27,u28,u29,u30],defers:=[] })) (fun x a=>TBx.own x a) ?assign ?body ?done ?stop
   case assign=>
    rintro l pre x W' K hI hK
    simp only [tkv]
    have HI:=hidP hI
    have HKK:=hidP hK
    clear hI hK
    gi_wp2
    exact HKK.out _ _ ((KeepsOthers.alloc _ _).from _) (Kq.of_below ((Below.refl _ _).alloc (Nat.le_refl _) _)) (HI.out.bel ((Below.refl _ _).alloc (Nat.le_refl _) _)) ⟨W'.heap.size,heap_alloc_new _ _,rfl⟩
   case body=>
    rintro l pre x a' W' hlw _ hI ⟨tb,hTB,rfl⟩ hlen
    obtain ⟨ia,ic,N,i1,i2,i3,i4⟩:=hI.ins
    have hNl:N.length≤1088000:=by
     have e1:=congrArg List.length i3
     rw [List.length_map,List.length_append,List.length_map] at e1
     have e2:=HB1.out
     have e3:=HB2.out
     have e4:pre.length<(zcU ((X.take X.length).map (cnOf fs)) []).length:=hlen
     rw [HE1.out] at e4
     have e5:=congrArg List.length (znW (fs:=fs) HKN.out)
     rw [List.length_map] at e5
     omega
    obtain ⟨tg,htg⟩:∃ l,l=(tkT x).map (·.tag):=⟨_,rfl⟩
    have HTG:=hidP (fun w' (h:Below W'.heap.size W' w')=>(show Calls Tryz.prog 24 #[.agg #[.pointer x.1.1.1,.pointer x.1.1.2.1,.pointer x.1.1.2.2]] w' (znQ tg w') by rw [htg];exact ziY x.1.1.1 x.1.1.2.1 x.1.1.2.2 (tkT x) w' ((x.2.below (Lko.below BW.out BW.out.size hI.lk)).below h)))
    have RDX:=hidP (fun ta tc a8 c8 W5 W8 (hb:Below W'.heap.size W' W5) (hT:W5.ownsRow W'.heap.size 3 1 (.slice ta tg.length tc) tg.length (icells tg)) (hO:W8.ownsRow w1.heap.size 46 2 (.slice a8 (N.length+1) c8) (N.length+1) (N.flatMap zbr ++ zbr (⟨(k:Int),tg⟩,.slice ta tg.length tc))) (hg:W5.grownBy W8 (Value.slice ia N.length ic).ownBlock)=>DI.round htg hI i1 i2 i3 i4 hb hT hO hg hcw hc0 hs1 hic hbc)
    have k0:=cell1P i1
    have k1:=cell1P hI.idx
    obtain ⟨t0,t1,t2⟩:=cells3P hTB
    have R0:=hidP i2.row
    have hci:cb<W'.heap.size:=zab i1
    have hii:ib<W'.heap.size:=zab hI.idx
    have hti:tb<W'.heap.size:=zab hTB
    have hnC:(Value.slice ia N.length ic).ownBlock≠some cb:=fun e=>by obtain ⟨_,h⟩:=zai i2.row e;exact zaA h i1 (by decide)
    have hnI:(Value.slice ia N.length ic).ownBlock≠some ib:=fun e=>by obtain ⟨_,h⟩:=zai i2.row e;exact zaA h hI.idx (by decide)
    have hnT:(Value.slice ia N.length ic).ownBlock≠some tb:=fun e=>by obtain ⟨_,h⟩:=zai i2.row e;exact zaA h hTB (by decide)
    have hcI:cb≠ib:=Ne.symm hic
    have hcT:cb≠tb:=fun e=>by subst e;exact zaA i1 hTB (by decide)
    have I1:=hidP i1
    have hw1:w1.heap.size≤W'.heap.size:=hI.lk.size
    clear hI i1 i2 i3 i4 hTB hlen htg
    gi_wp2
    refine zkm (S:=(fun w'=>w'.cell? ⟨ib,0,none⟩=some (.int .i64 (k:Int))∧w'.cell? ⟨tb,0,none⟩=some (.pointer x.1.1.1)∧w'.cell? ⟨tb,1,none⟩=some (.pointer x.1.1.2.1)∧w'.cell? ⟨tb,2,none⟩=some (.pointer x.1.1.2.2))) (by rintro ⟨_,_,hh⟩;exact hh) (by intro i o ho c hc;rcases i with _ | _ | _ | _ | _ | _ | _ | _ | i <;> simp at ho <;> subst ho <;> cases hc) (by kernel_rfl) ?_ (fun hHeld=>?_)
    ·(try dsimp only)
     exact ⟨k1,t0,t1,t2⟩
    refine tk 1 hHeld ?_
    (try simp only [pA,pZ,pS])
    refine tk 2 hHeld ?_
    (try simp only [pA,pZ,pS])
    refine wpAnyH_ready (rs:=[0,3]) (by kernel_rfl) (by simp) (AllReadyH.cons (List.getElem?_toArray.trans rfl) (fun K hK=>?_) (AllReadyH.cons (List.getElem?_toArray.trans rfl) (fun K hK=>?_) AllReadyH.nil))
    ·go_simp
     refine hK.out _ _ ?hS5 (fun hHeld=>?_)
     case hS5=>((try dsimp only);exact ⟨k1,t0,t1,t2⟩)
     clear hK K
     (first | simp only [pA,pZ,pS] | simp only [pN] | skip)
     refine wpAnyH_ready (rs:=[3]) (by kernel_rfl) (by simp) (AllReadyH.cons (List.getElem?_toArray.trans rfl) (fun K hK=>?_) AllReadyH.nil)
     go_simp
     (go_at_call 24;refine (HTG.out _ (Below.refl _ _).drew).mono ?_;rintro e' w6 ⟨⟨ta,tc,rfl,hot⟩,hb6⟩)
     (try go_wp2_with fail)
     refine hK.out _ _ ?hS6 (fun hHeld=>?_)
     case hS6=>((try dsimp only);exact ⟨zaa hb6 k1,zaa hb6 t0,zaa hb6 t1,zaa hb6 t2⟩)
     clear hK K
     (first | simp only [pA,pZ,pS] | simp only [pN] | skip)
     have B6:=hidP (show Below W'.heap.size W' w6 from (Below.refl _ _).drew.trans (hb6.mono (by simp)))
     have OT6:=hidP (show w6.ownsRow W'.heap.size 3 1 (.slice ta tg.length tc) tg.length (icells tg) from hot)
     have R6:=hidP (zag R0.out B6.out)
     have Q6:=hidP ((B6.out.block cb hci).trans I1.out)
     have HW6:=hidP (fun o'=>(Below.refl _ _).alloc (Nat.le_refl _) o':∀ o',Below w6.heap.size w6 (w6.alloc o'))
     have hs6:=B6.out.size
     have hw6:w1.heap.size≤w6.heap.size:=by omega
     have k06:=zaa hb6 k0
     have k16:=zaa hb6 k1
     have t06:=zaa hb6 t0
     have t16:=zaa hb6 t1
     have t26:=zaa hb6 t2
     clear hb6 hot
     refine tk 4 hHeld ?_
     (try simp only [pA,pZ,pS])
     refine wpAnyH_ready (rs:=[5]) (by kernel_rfl) (by simp) (AllReadyH.cons (List.getElem?_toArray.trans rfl) (fun K hK=>?_) AllReadyH.nil)
     go_simp
     refine hK.out _ _ ?hS7 (fun hHeld=>?_)
     case hS7=>((try dsimp only);exact ⟨zaa (HW6.out _) k16,zaa (HW6.out _) t06,zaa (HW6.out _) t16,zaa (HW6.out _) t26⟩)
     clear hK K
     (first | simp only [pA,pZ,pS] | simp only [pN] | skip)
     refine wpAnyH_ready (rs:=[6]) (by kernel_rfl) (by simp) ?_
     refine AllReadyH.cons (List.getElem?_toArray.trans rfl) (fun K hK=>?_) AllReadyH.nil
     (refine zao (by rfl) (.tmp 22) (.tmp 27) 29 (by rfl) w1.heap.size 46 _ 2 32 Tryz.underlying29 zhb (by rfl) (by omega) _ N.length _ (by rfl) (zag R6.out (HW6.out _)) (some ⟨_,0,none⟩) 1 1 (by rfl) (zbr (⟨(k:Int),tg⟩,.slice ta tg.length tc)) (by rfl) (fun e=>by cases e) (zav _ _ _ _ (by first | rfl | simp)) (by intro u hu;simp [zbr] at hu;rcases hu with rfl | rfl <;> rfl) (by unfold maxLen;omega) (by omega) (Nat.le_trans hw6 (HW6.out _).size) ?_;intro a8 c8 w8 ho8 hg8 hl8)
     refine hK.out _ _ ?hS9 (fun hHeld=>?_)
     case hS9=>((try dsimp only);exact ⟨(zaw hg8.out hnI (by simp;omega)).trans (zaa (HW6.out _) k16),(zaw hg8.out hnT (by simp;omega)).trans (zaa (HW6.out _) t06),(zaw hg8.out hnT (by simp;omega)).trans (zaa (HW6.out _) t16),(zaw hg8.out hnT (by simp;omega)).trans (zaa (HW6.out _) t26)⟩)
     clear hK K
     (first | simp only [pA,pZ,pS] | simp only [pN] | skip)
     have q8:w8.heap[cb]?=some (.cells #[.slice ia N.length ic] 29 (0,0)):=(hg8.out.block cb (by simp;omega) (Ne.symm hnC)).trans (((HW6.out _).block cb (by omega)).trans Q6.out)
     have k08:=cell1P q8
     have f08:w8.frozen? ⟨cb,0,none⟩=false:=by simp [World.frozen?,q8]
     have k18:=(zaw hg8.out hnI (by simp;omega)).trans (zaa (HW6.out _) k16)
     have t08:=(zaw hg8.out hnT (by simp;omega)).trans (zaa (HW6.out _) t06)
     have t18:=(zaw hg8.out hnT (by simp;omega)).trans (zaa (HW6.out _) t16)
     have t28:=(zaw hg8.out hnT (by simp;omega)).trans (zaa (HW6.out _) t26)
     refine wpAnyH_ready (rs:=[7]) (by kernel_rfl) (by simp) ?_
     refine AllReadyH.cons (List.getElem?_toArray.trans rfl) (fun K hK=>?_) AllReadyH.nil
     go_simp
     refine hK.out _ _ ?hS11 (fun hHeld=>?_)
     case hS11=>((try dsimp only);exact ⟨(World.cell?_setCell_far _ _ _ _ hcI).trans k18,(World.cell?_setCell_far _ _ _ _ hcT).trans t08,(World.cell?_setCell_far _ _ _ _ hcT).trans t18,(World.cell?_setCell_far _ _ _ _ hcT).trans t28⟩)
     clear hK K
     (first | simp only [pA,pZ,pS] | simp only [pN] | skip)
     refine wpAnyH_done (by kernel_rfl) ?_ _
     refine NoPanic.normal ?_
     have RD:=RDX.out ta tc a8 c8 _ w8 (B6.out.trans ((HW6.out _).mono B6.out.size)) (zag OT6.out (HW6.out _)) ho8.out hg8.out
     exact ⟨RD.1.from _,RD.2.1,RD.2.2⟩
    ·go_simp
     (go_at_call 24;refine (HTG.out _ (Below.refl _ _).drew).mono ?_;rintro e' w6 ⟨⟨ta,tc,rfl,hot⟩,hb6⟩)
     (try go_wp2_with fail)
     refine hK.out _ _ ?hS12 (fun hHeld=>?_)
     case hS12=>((try dsimp only);exact ⟨zaa hb6 k1,zaa hb6 t0,zaa hb6 t1,zaa hb6 t2⟩)
     clear hK K
     (first | simp only [pA,pZ,pS] | simp only [pN] | skip)
     have B6:=hidP (show Below W'.heap.size W' w6 from (Below.refl _ _).drew.trans (hb6.mono (by simp)))
     have OT6:=hidP (show w6.ownsRow W'.heap.size 3 1 (.slice ta tg.length tc) tg.length (icells tg) from hot)
     have R6:=hidP (zag R0.out B6.out)
     have Q6:=hidP ((B6.out.block cb hci).trans I1.out)
     have HW6:=hidP (fun o'=>(Below.refl _ _).alloc (Nat.le_refl _) o':∀ o',Below w6.heap.size w6 (w6.alloc o'))
     have hs6:=B6.out.size
     have hw6:w1.heap.size≤w6.heap.size:=by omega
     have k06:=zaa hb6 k0
     have k16:=zaa hb6 k1
     have t06:=zaa hb6 t0
     have t16:=zaa hb6 t1
     have t26:=zaa hb6 t2
     clear hb6 hot
     refine tk 4 hHeld ?_
     (try simp only [pA,pZ,pS])
     refine wpAnyH_ready (rs:=[0,5]) (by kernel_rfl) (by simp) (AllReadyH.cons (List.getElem?_toArray.trans rfl) (fun K hK=>?_) (AllReadyH.cons (List.getElem?_toArray.trans rfl) (fun K hK=>?_) AllReadyH.nil))
     ·go_simp
      refine hK.out _ _ ?hS13 (fun hHeld=>?_)
      case hS13=>((try dsimp only);exact ⟨k16,t06,t16,t26⟩)
      clear hK K
      (first | simp only [pA,pZ,pS] | simp only [pN] | skip)
      refine wpAnyH_ready (rs:=[5]) (by kernel_rfl) (by simp) (AllReadyH.cons (List.getElem?_toArray.trans rfl) (fun K hK=>?_) AllReadyH.nil)
      go_simp
      refine hK.out _ _ ?hS14 (fun hHeld=>?_)
      case hS14=>((try dsimp only);exact ⟨zaa (HW6.out _) k16,zaa (HW6.out _) t06,zaa (HW6.out _) t16,zaa (HW6.out _) t26⟩)
      clear hK K
      (first | simp only [pA,pZ,pS] | simp only [pN] | skip)
      refine wpAnyH_ready (rs:=[6]) (by kernel_rfl) (by simp) ?_
      refine AllReadyH.cons (List.getElem?_toArray.trans rfl) (fun K hK=>?_) AllReadyH.nil
      (refine zao (by rfl) (.tmp 22) (.tmp 27) 29 (by rfl) w1.heap.size 46 _ 2 32 Tryz.underlying29 zhb (by rfl) (by omega) _ N.length _ (by rfl) (zag R6.out (HW6.out _)) (some ⟨_,0,none⟩) 1 1 (by rfl) (zbr (⟨(k:Int),tg⟩,.slice ta tg.length tc)) (by rfl) (fun e=>by cases e) (zav _ _ _ _ (by first | rfl | simp)) (by intro u hu;simp [zbr] at hu;rcases hu with rfl | rfl <;> rfl) (by unfold maxLen;omega) (by omega) (Nat.le_trans hw6 (HW6.out _).size) ?_;intro a8 c8 w8 ho8 hg8 hl8)
      refine hK.out _ _ ?hS16 (fun hHeld=>?_)
      case hS16=>((try dsimp only);exact ⟨(zaw hg8.out hnI (by simp;omega)).trans (zaa (HW6.out _) k16),(zaw hg8.out hnT (by simp;omega)).trans (zaa (HW6.out _) t06),(zaw hg8.out hnT (by simp;omega)).trans (zaa (HW6.out _) t16),(zaw hg8.out hnT (by simp;omega)).trans (zaa (HW6.out _) t26)⟩)
      clear hK K
      (first | simp only [pA,pZ,pS] | simp only [pN] | skip)
      have q8:w8.heap[cb]?=some (.cells #[.slice ia N.length ic] 29 (0,0)):=(hg8.out.block cb (by simp;omega) (Ne.symm hnC)).trans (((HW6.out _).block cb (by omega)).trans Q6.out)
      have k08:=cell1P q8
      have f08:w8.frozen? ⟨cb,0,none⟩=false:=by simp [World.frozen?,q8]
      have k18:=(zaw hg8.out hnI (by simp;omega)).trans (zaa (HW6.out _) k16)
      have t08:=(zaw hg8.out hnT (by simp;omega)).trans (zaa (HW6.out _) t06)
      have t18:=(zaw hg8.out hnT (by simp;omega)).trans (zaa (HW6.out _) t16)
      have t28:=(zaw hg8.out hnT (by simp;omega)).trans (zaa (HW6.out _) t26)
      refine wpAnyH_ready (rs:=[7]) (by kernel_rfl) (by simp) ?_
      refine AllReadyH.cons (List.getElem?_toArray.trans rfl) (fun K hK=>?_) AllReadyH.nil
      go_simp
      refine hK.out _ _ ?hS18 (fun hHeld=>?_)
      case hS18=>((try dsimp only);exact ⟨(World.cell?_setCell_far _ _ _ _ hcI).trans k18,(World.cell?_setCell_far _ _ _ _ hcT).trans t08,(World.cell?_setCell_far _ _ _ _ hcT).trans t18,(World.cell?_setCell_far _ _ _ _ hcT).trans t28⟩)
      clear hK K
      (first | simp only [pA,pZ,pS] | simp only [pN] | skip)
      refine wpAnyH_done (by kernel_rfl) ?_ _
      refine NoPanic.normal ?_
      have RD:=RDX.out ta tc a8 c8 _ w8 (B6.out.trans ((HW6.out _).mono B6.out.size)) (zag OT6.out (HW6.out _)) ho8.out hg8.out
      exact ⟨RD.1.from _,RD.2.1,RD.2.2⟩
     ·go_simp
      refine hK.out _ _ ?hS19 (fun hHeld=>?_)
      case hS19=>((try dsimp only);exact ⟨zaa (HW6.out _) k16,zaa (HW6.out _) t06,zaa (HW6.out _) t16,zaa (HW6.out _) t26⟩)
      clear hK K
      (first | simp only [pA,pZ,pS] | simp only [pN] | skip)
      refine wpAnyH_ready (rs:=[0]) (by kernel_rfl) (by simp) (AllReadyH.cons (List.getElem?_toArray.trans rfl) (fun K hK=>?_) AllReadyH.nil)
      have k07:=fun o=>zaa (HW6.out o) k06
      go_simp
      refine hK.out _ _ ?hS20 (fun hHeld=>?_)
      case hS20=>((try dsimp only);exact ⟨zaa (HW6.out _) k16,zaa (HW6.out _) t06,zaa (HW6.out _) t16,zaa (HW6.out _) t26⟩)
      clear hK K
      (first | simp only [pA,pZ,pS] | simp only [pN] | skip)
      refine wpAnyH_ready (rs:=[6]) (by kernel_rfl) (by simp) ?_
      refine AllReadyH.cons (List.getElem?_toArray.trans rfl) (fun K hK=>?_) AllReadyH.nil
      (refine zao (by rfl) (.tmp 22) (.tmp 27) 29 (by rfl) w1.heap.size 46 _ 2 32 Tryz.underlying29 zhb (by rfl) (by omega) _ N.length _ (by rfl) (zag R6.out (HW6.out _)) (some ⟨_,0,none⟩) 1 1 (by rfl) (zbr (⟨(k:Int),tg⟩,.slice ta tg.length tc)) (by rfl) (fun e=>by cases e) (zav _ _ _ _ (by first | rfl | simp)) (by intro u hu;simp [zbr] at hu;rcases hu with rfl | rfl <;> rfl) (by unfold maxLen;omega) (by omega) (Nat.le_trans hw6 (HW6.out _).size) ?_;intro a8 c8 w8 ho8 hg8 hl8)
      refine hK.out _ _ ?hS22 (fun hHeld=>?_)
      case hS22=>((try dsimp only);exact ⟨(zaw hg8.out hnI (by simp;omega)).trans (zaa (HW6.out _) k16),(zaw hg8.out hnT (by simp;omega)).trans (zaa (HW6.out _) t06),(zaw hg8.out hnT (by simp;omega)).trans (zaa (HW6.out _) t16),(zaw hg8.out hnT (by simp;omega)).trans (zaa (HW6.out _) t26)⟩)
      clear hK K
      (first | simp only [pA,pZ,pS] | simp only [pN] | skip)
      have q8:w8.heap[cb]?=some (.cells #[.slice ia N.length ic] 29 (0,0)):=(hg8.out.block cb (by simp;omega) (Ne.symm hnC)).trans (((HW6.out _).block cb (by omega)).trans Q6.out)
      have k08:=cell1P q8
      have f08:w8.frozen? ⟨cb,0,none⟩=false:=by simp [World.frozen?,q8]
      have k18:=(zaw hg8.out hnI (by simp;omega)).trans (zaa (HW6.out _) k16)
      have t08:=(zaw hg8.out hnT (by simp;omega)).trans (zaa (HW6.out _) t06)
      have t18:=(zaw hg8.out hnT (by simp;omega)).trans (zaa (HW6.out _) t16)
      have t28:=(zaw hg8.out hnT (by simp;omega)).trans (zaa (HW6.out _) t26)
      refine wpAnyH_ready (rs:=[7]) (by kernel_rfl) (by simp) ?_
      refine AllReadyH.cons (List.getElem?_toArray.trans rfl) (fun K hK=>?_) AllReadyH.nil
      go_simp
      refine hK.out _ _ ?hS24 (fun hHeld=>?_)
      case hS24=>((try dsimp only);exact ⟨(World.cell?_setCell_far _ _ _ _ hcI).trans k18,(World.cell?_setCell_far _ _ _ _ hcT).trans t08,(World.cell?_setCell_far _ _ _ _ hcT).trans t18,(World.cell?_setCell_far _ _ _ _ hcT).trans t28⟩)
      clear hK K
      (first | simp only [pA,pZ,pS] | simp only [pN] | skip)
      refine wpAnyH_done (by kernel_rfl) ?_ _
      refine NoPanic.normal ?_
      have RD:=RDX.out ta tc a8 c8 _ w8 (B6.out.trans ((HW6.out _).mono B6.out.size)) (zag OT6.out (HW6.out _)) ho8.out hg8.out
      exact ⟨RD.1.from _,RD.2.1,RD.2.2⟩
   case done=>
    rintro D ys W' hD hS hI hK
    have HI:=hidP hI
    have HK:=hidP hK
    have HS:=hidP (zox HKN.out (hS.trans HE1.out) k)
    clear hS hI hK
    go_wp2_with fail
    refine ⟨?_,by simp [intOf];omega⟩
    unfold CfI
    refine ⟨k+1,D :: Ds,_,_,_,_,_,_,_,_,_,_,_,_,_,_,_,_,_,_,_,_,by rw [zoO];rfl,by omega,⟨?_,HI.out.lk,⟨List.nodup_cons.2 ⟨fun hm=>?_,HI.out.def'.nodup⟩,fun D' hD'=>?_⟩⟩⟩
    ·rw [HCT.out,← HS.out]
     exact HI.out.ins
    ·have:=HI.out.low D hm
     omega
    ·rcases List.mem_cons.1 hD' with rfl | hD'
     ·exact ⟨by omega,HK.out⟩
     ·exact HI.out.def'.each D' hD'
   case stop=>
    rintro D c pre W _ _ h _
    exact h.elim
  ·have hke:k=rs.length:=by omega
   have hy:¬ (k:Int)<(rs.length:Int):=by omega
   obtain ⟨ia,ic,N,i1,i2,i3,i4⟩:=hst.ins
   have k0:=cell1P i1
   have HDF:=hidP hst.def'
   have HBW:=hidP (Lko.below BW.out BW.out.size hst.lk)
   have HIO:=hidP i2
   have HN:=hidP (show N.map Prod.fst=zet rs fs by rw [i3,hke,List.take_length];exact (if_pos HRDY.out).symm)
   have HPW:=hidP i4
   have hbw1:=BW.out.size
   clear hke i1 i2 i3 i4 hst
   go_wp2_with fail
   refine zeg (B:=w.heap.size) Ds _ HDF.out ?_
   intro W' hW'
   refine ⟨_,results_tmp rfl _ _ _,?_⟩
   exact ⟨⟨ia,ic,N,rfl,(HIO.out.lower hbw1 hbw1).same (fun k c t _ h=>(hW'.cel k c t _ h).trans h.symm),HN.out,HPW.out⟩,HBW.out.trans hW'.bel⟩
 ·rw [if_neg hrdy] at he1
  subst he1
  have HT:=hidP (show zet rs fs=[] by unfold zet;rw [if_neg hrdy])
  clear hrdy
  go_wp2_with fail
  go_loopw [13] (fun iv wr=>iv=.int .i64 0∧wr=w1) (fun _ _=>0)
  case atStart=>exact ⟨rfl,rfl⟩
  case round=>
   obtain ⟨rfl,rfl⟩:=hrel
   have k0:=cell1P CB1.out
   go_wp2_with fail
   refine zeg (B:=w.heap.size) [] _ ⟨List.nodup_nil,by simp⟩ ?_
   intro W' hW'
   refine ⟨_,results_tmp rfl _ _ _,?_⟩
   exact zjO.nil HT.out (BW.out.trans hW'.bel)
end Go.Proofs.YtmmdlgjmplddiaaGreat
