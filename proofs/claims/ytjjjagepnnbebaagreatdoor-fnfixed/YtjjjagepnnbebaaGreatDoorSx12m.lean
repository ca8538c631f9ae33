/-
  OUR OWN TEXT. The program's scanner: the next word.
-/
import Derived.Test.YtjjjagepnnbebaaGreatDoorSx11m
set_option maxRecDepth 100000
namespace Go.Proofs.YtjjjagepnnbebaaGreatDoor
open Go.RowKit
attribute [local go_sem ↓] Go.wp_at_zero Go.wp_at_succ
structure ScAt (w:World) (sb so:Nat) (t:TypeId) (cs:Array Value) (src:Bs) (a:Option Addr) (c:Nat) (l:List Wd):Prop where
 blk:w.heap[sb]?=some (.cells cs t (0,0))
 src0:cs[so]?=some (.slice a src.length c)
 cap:src.length<=c
 len:src.length<=20000
 bys:zbZ w a src
 far:∀ b o,a=some ⟨b,o,none⟩->b<sb
 pos:∃ k:Nat,k<=src.length/\cs[so+1]?=some (.int .i64 (k:Int))/\zaQ src k=l
structure zfl (w:World) (sb:Nat):Prop where
 err:ziQ w
 tests:zcu w 1 1
 g1:1<sb
 g2:7<sb
theorem ziQ.keep{w w':World}{B:Nat}(h:ziQ w)(hg:7<B)(hb:Below B w w'):ziQ w':=by
 obtain ⟨tp,p,h⟩:=h;exact ⟨tp,p,var?_below hb zgx hg h⟩
theorem zcu.keep{w w':World}{B:Nat}(h:zcu w 1 1)(hg:1<B)(hb:Below B w w'):zcu w' 1 1:=fun k hk=>by
 rw[<- h k hk];exact World.cell?_of_block (w:=w) (hb.block _ hg)
theorem zbZ.keep{w w':World}{a:Option Addr}{src:Bs}{B:Nat}(h:zbZ w a src)(hf:∀ b o,a=some ⟨b,o,none⟩->b<B)(hb:Below B w w'):zbZ w' a src:=fun i y hy=>by
 obtain ⟨b,o,e,h1,h2⟩:=h i y hy;exact ⟨b,o,e,Nat.lt_of_lt_of_le h1 hb.size,(World.cell?_of_block (w:=w) (hb.block b (hf b o e))).trans h2⟩
theorem zfl.keep{w w':World}{sb:Nat}(h:zfl w sb)(hb:Below sb w w'):zfl w' sb:=⟨h.err.keep h.g2 hb,h.tests.keep h.g1 hb,h.g1,h.g2⟩
def fltE(f:Flt):Ending:=.panicked [{ v:=.iface 48 (.agg #[.int .i64 f.1,.int .i64 (f.2:Int)]),recovered:=false }]
def zsd(w:World)(sb so:Nat)(t:TypeId)(cs:Array Value)(src:Bs)(a:Option Addr)(c:Nat)(r:Px Wd)(e:Ending)(w':World):Prop:=MkO (some sb) w w'/\match r with
 | .error f=>e=fltE f
 | .ok (x,l)=>e=.returned (pwV (pkW x) x.pos (ptW x) x.num)/\∃ j:Nat,ScAt w' sb so t (cs.setIfInBounds (so+1) (.int .i64 (j:Int))) src a c l
theorem Turned.mko{w w':World}{b:Nat}(h:Turned w w' b):MkO (some b) w w':=⟨h.below (Nat.zero_le _),fun g _ hg=>h.block g (fun e=>hg (by rw[e]))⟩
theorem MkO.bel{w w':World}{sb:Nat}(h:MkO (some sb) w w')(hs:sb<w.heap.size):Below sb w w':=h.below (by omega) (fun g e=>by cases e;exact Nat.le_refl _)
theorem MkO.turn{b:Option Nat}{w E w3:World}{r:Nat}(h:MkO b w E)(ht:Turned E w3 r)(hr:w.heap.size<=r):MkO b w w3:=
 ⟨h.rest.trans (ht.below (Nat.zero_le _)),fun g hg hb=>(ht.block g (by omega)).trans (h.block g hg hb)⟩
theorem MkO.drew{b:Option Nat}{w w':World}(h:MkO b w w'):MkO b w w'.drew:=⟨h.rest.drew,h.block⟩
theorem zau{P:World->Prop}{w:World}{b i:Nat}{v:Value}{cs:Array Value}{t:TypeId}(h:w.heap[b]?=some (.cells cs t (0,0)))(G:∀ E,E.heap[b]?=some (.cells (cs.setIfInBounds i v) t (0,0))->Turned w E b->P E):P (w.setCell ⟨b,i,none⟩ v):=G _ (zap h _) (Turned.setCells [_] i w b)
theorem zha{P:World->Prop}{E:World}{o:Obj}(h:∀ G,Below E.heap.size E G->G.heap[E.heap.size]?=some o->P G):P (E.alloc o).drew.drew:=h _ ((Below.refl _ _).alloc (Nat.le_refl _) _).drew.drew (heap_alloc_new _ _)
theorem zcS{P:Program}{w:World}{ops:Array Oper}{o:Oper}{a:Act}{K:Act->World->Prop}{Q:Exit->Act->World->Prop}{E:Prop}(G:o.guard=none)(I:TypeId)(x y:Operand)(ho:o.op=.store I x y)
  (b:Nat) (L:List Value) (hx:a.eval x=.pointer (some ⟨b,0,none⟩)) (hy:a.eval y=.agg L.toArray) (c:Array Value) (t:TypeId) (hb:w.heap[b]?=some (.cells c t (0,0)))
  (hs:c.size=L.length) (hi:(P.info? I).map (·.size)=some L.length) (h1:∀ v∈L,v.oneCell'=true)
  (h:∀ w',Hid (w'.heap[b]?=some (.cells L.toArray t (0,0)))->Hid (Turned w w' b)->K (a.put o.dst undef) w') :
  if Region.wanted o (yielded ops a.tmps)=true then Oper.wp P o a w K Q else E:=by
 have hw:Region.wanted o (yielded ops a.tmps)=true:=by simp[Region.wanted,G]
 rw[if_pos hw];refine wp_store_mid I x y ho b 0 L.toArray hx hy (ze7 hb (by simp;omega)) (by simpa using hi) (all_oneCell_toArray h1) (h _ ?_ (Turned.setCells _ _ _ _));show _=_;have:=za0 hb (o:=0) L (by omega);rw[this];have hd:c.toList.drop (0+L.length)=[]:=List.drop_eq_nil_of_le (by simp;omega);rw[hd];simp
theorem ScAt.moved{w w':World}{sb so j:Nat}{t:TypeId}{cs:Array Value}{src:Bs}{a:Option Addr}{c:Nat}{l l':List Wd}(h:ScAt w sb so t cs src a c l)(hm:MkO (some sb) w w')(hb:w'.heap[sb]?=some (.cells (cs.setIfInBounds (so+1) (.int .i64 (j:Int))) t (0,0)))(hj:j<=src.length)(hw:zaQ src j=l'):ScAt w' sb so t (cs.setIfInBounds (so+1) (.int .i64 (j:Int))) src a c l':=by
 obtain ⟨k,_,hk,_⟩:=h.pos;have E:so+1<cs.size:=(Array.getElem?_eq_some_iff.1 hk).1;refine ⟨hb,?_,h.cap,h.len,h.bys.keep h.far (hm.bel (zab h.blk)),h.far,j,hj,?_,hw⟩
 ·rw[Array.getElem?_setIfInBounds_ne (by omega)];exact h.src0
 simp[E]
theorem zp5{sb so n j:Nat}{w:World}{t:TypeId}{cs:Array Value}(h:w.heap[sb]?=some (.cells (cs.setIfInBounds (so+1) (.int .i64 (j:Int))) t (0,0)))(v:Value)(hv:v=.int .i64 (n:Int)):(w.setCell ⟨sb,so+1,none⟩ v).heap[sb]?=some (.cells (cs.setIfInBounds (so+1) (.int .i64 (n:Int))) t (0,0)):=by
 subst hv;have:=zap (i:=so+1) h (.int .i64 (n:Int));rw[zfu]at this;exact this
theorem zeA{x:Wd}{r:List Wd}(h:badW x=none)(E:x.kind≠0):zaj (x :: r)=.ok (x,r):=by
 show (match badW x with | some f=>Except.error f | none=>Except.ok (x,if x.kind=0 then x :: r else r))=_;rw[h];simp[E]
theorem zox{x:UInt8}(h:za2 x=false)(h1:¬ x=59)(h2:¬ x=40)(h3:¬ x=41):x.toNat<33∨126<x.toNat:=by
 apply Classical.byContradiction;intro E;rw[zeD h1 h2 h3 E]at h
 cases h
theorem zjE{x:UInt8}(h:za2 x=true):¬ (x.toNat<33∨126<x.toNat):=by
 unfold za2 at h;simp at h;omega
set_option maxHeartbeats 12800000 in
theorem zhJ(w:World)(sb so:Nat)(t:TypeId)(cs:Array Value)(src:Bs)(a:Option Addr)(c:Nat)(l:List Wd)(h:ScAt w sb so t cs src a c l)(hE:zfl w sb):Calls Tryz.prog 132 #[.pointer (some ⟨sb,so,none⟩)] w (zsd w sb so t cs src a c (zaj l)):=by
 have HE:=hidX hE;have HL:=hidX h;obtain ⟨aW,aN,bt,bI,bb,aF,k,bG,hk,bD⟩:=h;have aH:sb<w.heap.size:=zab aW;have bn:so+1<cs.size:=(Array.getElem?_eq_some_iff.1 hk).1;clear hE;go_enter Tryz.func132,Tryz.ntmps132;go_upto_region 1 with fail
 refine zaf ?_;intro w1 a1 ba;have bw:=hidX (zpa src a c sb so k t cs w1 (bb.below a1) (fun b o e=>Nat.ne_of_lt (aF b o e)) bI bt bG ((a1.block sb aH).trans aW) aN hk);have bT:=hidX a1;have b1:w.heap.size<w1.heap.size:=zab ba;obtain ⟨Z,hZ⟩:∃ Z:Array Value,Z=#[.int .i32 0,.int .i64 0,.string ⟨#[]⟩,.int .i64 0]:=⟨_,rfl⟩
 rw[<- hZ]at ba;have aI:Z.size=4:=by rw[hZ];rfl
 have bO:=hidX ba;have bL:=hidX bD;clear a1 ba aW bb hk bG bD hZ;go_upto_region 2 with (first | (go_at_call 159;refine bw.out.mono ?_;rintro e w2 ⟨rfl,j,b0,bK,bH,bo,aX,bf⟩) | fail);have M2:=hidX ((MkO.of_below bT.out:MkO (some sb) w w1).trans bf.mko);have a7:=(bf.block w.heap.size (by omega)).trans bO.out;have bX:w.heap.size<w2.heap.size:=zab a7;have bp:=hidX aX;have HJ:=hidX (bH.trans bL.out);have c0:w2.cell? ⟨sb,so,none⟩=some (.slice a src.length c):=by simp[World.cell?,aX,aN]
 have c1:w2.cell? ⟨sb,so+1,none⟩=some (.int .i64 (j:Int)):=by simp[World.cell?,aX,bn]
 have z1:w2.frozen? ⟨sb,so+1,none⟩=false:=by simp[World.frozen?,aX]
 have a8:=hidX (HL.out.bys.keep HL.out.far (M2.out.bel aH));clear aX bf bw bH;by_cases bN:j=src.length
 ·subst bN;have bM:l=[⟨0,src.length,[],0⟩]:=by rw[<- HJ.out,ze0]
  have e1:((src.length:Int)==(src.length:Int))=true:=by simp
  go_wp2_with (first | (refine zac (by rfl) 131 (.tmp 2) (.tmp 20) (by rfl) w.heap.size (pwL 0 (src.length:Int) [] 0) (by rfl) (by rfl) _ 131 a7 aI zaM (zbb _ _ _ _) ?_;intro w3 aj ae) | fail);have af:=run_loadVar_mid (P:=Tryz.prog) w3 w.heap.size 0 131 (pwL 0 (src.length:Int) [] 0) _ (zal aj.out) Tryz.underlying131 rfl zaM;have M3:=M2.out.turn ae.out (Nat.le_refl _)
  go_frame
  refine bodyPost_ret (v:=.agg (pwL 0 (src.length:Int) [] 0).toArray) (by simp[results,Tryz.results132,asAddr,af]) rfl ⟨M3,?_⟩;rw[bM];exact ⟨rfl,src.length,HL.out.moved M3 ((ae.out.block sb (by omega)).trans bp.out) (Nat.le_refl _) (ze0 src)⟩
 have bA:j<src.length:=by omega
 obtain ⟨x,hx⟩:∃ x,src[j]?=some x:=⟨src[j],by simp[bA]⟩
 obtain ⟨aU,aV⟩:=bo x hx;have ay:=zei hx;rw[if_neg (by simp[aU]),if_neg aV,HJ.out]at ay;obtain ⟨b,o,rfl,bY,bs⟩:=a8.out j x hx;have e1:((j:Int)==(src.length:Int))=false:=beqF (by omega);have k0:(0:Int)<=(j:Int):=by omega
 have k1:(j:Int)<(src.length:Int):=by omega
 by_cases aJ:x=40∨x=41
 ·have HN:∃ d:Wd,Hid (zaj l=.ok (d,zaQ src (j+1)))/\Hid (pwV (pkW d) d.pos (ptW d) d.num=.agg (pwL (x.toNat:Int) (j:Int) [] 0).toArray):=by
   rcases aJ with h | h
   ·refine ⟨⟨1,j,[],0⟩,?_,?_⟩
    ·show zaj l=_;rw[ay,if_pos h];rfl
    subst h;rfl
   refine ⟨⟨2,j,[],0⟩,?_,?_⟩
   ·show zaj l=_;rw[ay,if_neg (by rw[h];decide),if_pos h];rfl
   subst h;rfl
  obtain ⟨d,HN,HD⟩:=HN;have bF:IntKind.i32.wrap (x.toNat:Int)=(x.toNat:Int):=by rw[IntKind.wrap_i32];have:=x.toNat_lt;omega
  have bJ:((x.toNat:Int)==40)=true∨(((x.toNat:Int)==40)=false/\((x.toNat:Int)==41)=true):=by
   rcases aJ with h | h
   ·left;subst h;rfl
   right;subst h;exact ⟨rfl,rfl⟩
  clear aJ ay bo aU aV HJ;have bQ:∃ X:Int,X=(x.toNat:Int):=⟨_,rfl⟩
  obtain ⟨X,hX⟩:=bQ;rw[<- hX]at bF bJ bs HD;clear hX;rcases bJ with e2 | ⟨e2,e3⟩
  all_goals
   go_upto_region 8 with fail
   refine zau bp.out ?_;intro w4 bh bk;rw[zfu]at bh;have bU:=(bk.block w.heap.size (by omega)).trans a7;have M4:=hidX (M2.out.trans bk.mko);have bV:=hidX bh;clear bh bk c0 c1 z1 bs;go_wp2_with (first | (refine zac (by rfl) 131 (.tmp 2) (.tmp 44) (by rfl) w.heap.size (pwL X (j:Int) [] 0) (by rfl) (by rfl) _ 131 bU aI zaM (zbb _ _ _ _) ?_;intro w3 aj ae) | fail);have af:=run_loadVar_mid (P:=Tryz.prog) w3 w.heap.size 0 131 (pwL X (j:Int) [] 0) _ (zal aj.out) Tryz.underlying131 rfl zaM;have M3:=M4.out.turn ae.out (Nat.le_refl _)
   go_frame
   refine bodyPost_ret (v:=.agg (pwL X (j:Int) [] 0).toArray) (by simp[results,Tryz.results132,asAddr,af]) rfl ⟨M3,?_⟩;rw[HN.out];exact ⟨by rw[HD.out],j+1,HL.out.moved M3 ((ae.out.block sb (by omega)).trans (by rw[bV.out];rfl)) (by omega) rfl⟩
 have aR:¬ x=40:=fun e=>aJ (.inl e);have aS:¬ x=41:=fun e=>aJ (.inr e);rw[if_neg aR,if_neg aS]at ay;have e2:((x.toNat:Int)==40)=false:=beqF fun e=>aR (zeL.1 (by rw[e];rfl));have e3:((x.toNat:Int)==41)=false:=beqF fun e=>aS (zeL.1 (by rw[e];rfl));have bm:=hidX ay;clear ay bo aU aJ;go_upto_region 9 with fail
 clear e1 e2 e3 c0 c1 z1 bs k0 k1
 go_loopw [45] (fun _ wr=>∃ i:Nat,j<=i/\i<=src.length/\(∀ m y,j<=m->m<i->src[m]?=some y->za2 y=true)/\wr.heap[sb]?=some (.cells (cs.setIfInBounds (so+1) (.int .i64 (i:Int))) t (0,0))/\Turned w2 wr sb) (fun _ wr=>src.length - atOf sb so wr)
 case atStart=>exact ⟨j,Nat.le_refl _,bK,fun m y h1 h2=>absurd h1 (by omega),bp.out,⟨rfl,rfl,rfl,rfl,fun _ _=>rfl⟩⟩
 case round=>
  obtain ⟨i,aZ,au,bd,aM,aP⟩:=hrel;have d0:wr.cell? ⟨sb,so,none⟩=some (.slice (some ⟨b,o,none⟩) src.length c):=by simp[World.cell?,aM,aN]
  have d1:wr.cell? ⟨sb,so+1,none⟩=some (.int .i64 (i:Int)):=by simp[World.cell?,aM,bn]
  have z1:wr.frozen? ⟨sb,so+1,none⟩=false:=by simp[World.frozen?,aM]
  have aK:=hidX aM;have aY:=hidX aP;have ax:=hidX bd;have HM:Hid (atOf sb so wr=i):=show _=_ from by unfold atOf;rw[d1];simp[intOf]
  have MR:=hidX (M2.out.trans aP.mko);have a6:=(aP.block w.heap.size (by omega)).trans a7;have bZ:w2.heap.size=wr.heap.size:=aP.size.symm;clear aM aP bd;by_cases bC:i<src.length
  ·obtain ⟨y,hy⟩:∃ y,src[i]?=some y:=⟨src[i],by simp[bC]⟩
   obtain ⟨b',o',eb,bz,bc⟩:=a8.out i y hy;simp only[Option.some.injEq,Addr.mk.injEq,and_true]at eb;obtain ⟨rfl,rfl⟩:=eb;have aO:wr.cell? ⟨b,o+i,none⟩=some (.int .u8 (y.toNat:Int)):=(aY.out.cell (Nat.ne_of_lt (aF b o rfl))).trans bc;have k0:(0:Int)<=(i:Int):=by omega
   have k1:(i:Int)<(src.length:Int):=by omega
   have aT:=hidX (zmt y);clear bc bz
   cases aG:za2 y with
   | true=>
    rw[aG]at aT;go_wp2_with fail
    refine wp_region_noPanic ?_;refine wp_region_held_drew (S:=(fun u=>u.cell? ⟨sb,so,none⟩=some (.slice (some ⟨b,o,none⟩) src.length c)/\u.cell? ⟨sb,so+1,none⟩=some (.int .i64 (i:Int))/\u.cell? ⟨b,o+i,none⟩=some (.int .u8 (y.toNat:Int)))) (by kernel_rfl) ?_ (fun E=>?_)
    ·(try dsimp only);(exact ⟨d0,d1,aO⟩)
    refine tk 0 E ?_;(try simp only[pA,pZ,pS]);refine tk 1 E ?_;(try simp only[pA,pZ,pS]);refine tk 2 E ?_;(try simp only[pA,pZ,pS]);refine tk 3 E ?_;(try simp only[pA,pZ,pS]);refine tk 4 E ?_;(try simp only[pA,pZ,pS]);refine tk 5 E ?_;(try simp only[pA,pZ,pS]);refine tk 6 E ?_;(try simp only[pA,pZ,pS]);refine tk 7 E ?_;(try simp only[pA,pZ,pS]);refine tk 8 E ?_;(try simp only[pA,pZ,pS]);refine tk 9 E ?_;(try simp only[pA,pZ,pS]);refine tk 10 E ?_;(try simp only[pA,pZ,pS]);refine tk 11 E ?_;(try simp only[pA,pZ,pS]);refine tk 12 E ?_;(try simp only[pA,pZ,pS]);refine tk 13 E ?_;(try simp only[pA,pZ,pS]);refine tk 14 E ?_;(try simp only[pA,pZ,pS]);refine tk 15 E ?_;(try simp only[pA,pZ,pS]);refine tk 16 E ?_;(try simp only[pA,pZ,pS]);refine tk 17 E ?_;(try simp only[pA,pZ,pS]);refine tk 18 E ?_;(try simp only[pA,pZ,pS]);refine tk 19 E ?_;(try simp only[pA,pZ,pS]);refine tk 20 E ?_;(try simp only[pA,pZ,pS]);refine r1 21 fun K hK=>?_;go_simp;(go_at_call 160;refine (aT.out _).mono ?_;rintro e w5 ⟨rfl,hw⟩;rw[hw];clear hw w5);(try go_wp2_with fail);refine hK.out _ _ (by (try dsimp only);(exact ⟨d0,d1,aO⟩)) fun U=>?_;replace E:=U;clear hK K U;(try simp only[pA,pZ,pS,pN]);refine tk 22 E ?_;(try simp only[pA,pZ,pS]);refine wpAnyH_done (by kernel_rfl) ?_ _;refine NoPanic.normal ?_;go_wp2_with fail
    go_roundw
    case rel=>
     refine ⟨i+1,by omega,by omega,fun m y' h1 h2 h3=>?_,zp5 aK.out _ (by go_num),aY.out.drew'.trans' (Turned.setCells [_] (so+1) _ sb)⟩;by_cases bR:m=i
     ·subst bR;rw[hy]at h3;injection h3 with h3;rw[<- h3];exact aG
     ·exact ax.out m y' h1 (by omega) h3
    case measure=>
     have e:atOf sb so ((wr.drew).setCell ⟨sb,so+1,none⟩ (.int .i64 ((i:Int)+1)))=i+1:=by
      unfold atOf;rw[zkm (zp5 (n:=i+1) (w:=wr.drew) aK.out _ (by go_num)) bn];simp[intOf]
     rw[HM.out];change _ - atOf sb so ((wr.drew).setCell ⟨sb,so+1,none⟩ (.int .i64 ((i:Int)+1)))<_;rw[e];omega
   | false=>
    rw[aG]at aT;go_wp2_with fail
    refine wp_region_noPanic ?_;refine wp_region_held_drew (S:=(fun u=>u.cell? ⟨sb,so,none⟩=some (.slice (some ⟨b,o,none⟩) src.length c)/\u.cell? ⟨sb,so+1,none⟩=some (.int .i64 (i:Int))/\u.cell? ⟨b,o+i,none⟩=some (.int .u8 (y.toNat:Int)))) (by kernel_rfl) ?_ (fun E=>?_)
    ·(try dsimp only);(exact ⟨d0,d1,aO⟩)
    refine tk 0 E ?_;(try simp only[pA,pZ,pS]);refine tk 1 E ?_;(try simp only[pA,pZ,pS]);refine tk 2 E ?_;(try simp only[pA,pZ,pS]);refine tk 3 E ?_;(try simp only[pA,pZ,pS]);refine tk 4 E ?_;(try simp only[pA,pZ,pS]);refine tk 5 E ?_;(try simp only[pA,pZ,pS]);refine tk 6 E ?_;(try simp only[pA,pZ,pS]);refine tk 7 E ?_;(try simp only[pA,pZ,pS]);refine tk 8 E ?_;(try simp only[pA,pZ,pS]);refine tk 9 E ?_;(try simp only[pA,pZ,pS]);refine tk 10 E ?_;(try simp only[pA,pZ,pS]);refine tk 11 E ?_;(try simp only[pA,pZ,pS]);refine tk 12 E ?_;(try simp only[pA,pZ,pS]);refine tk 13 E ?_;(try simp only[pA,pZ,pS]);refine tk 14 E ?_;(try simp only[pA,pZ,pS]);refine tk 15 E ?_;(try simp only[pA,pZ,pS]);refine tk 16 E ?_;(try simp only[pA,pZ,pS]);refine tk 17 E ?_;(try simp only[pA,pZ,pS]);refine tk 18 E ?_;(try simp only[pA,pZ,pS]);refine tk 19 E ?_;(try simp only[pA,pZ,pS]);refine tk 20 E ?_;(try simp only[pA,pZ,pS]);refine r1 21 fun K hK=>?_;go_simp;(go_at_call 160;refine (aT.out _).mono ?_;rintro e w5 ⟨rfl,hw⟩;rw[hw];clear hw w5);(try go_wp2_with fail);refine hK.out _ _ (by (try dsimp only);(exact ⟨d0,d1,aO⟩)) fun U=>?_;replace E:=U;clear hK K U;(try simp only[pA,pZ,pS,pN]);refine tk 22 E ?_;(try simp only[pA,pZ,pS]);refine wpAnyH_done (by kernel_rfl) ?_ _;refine NoPanic.normal ?_;by_cases bP:i=j
    ·subst bP;obtain rfl:x=y:=by rw[hx]at hy;injection hy
     have bB:=zox aG aV aR aS;have HN:Hid (zaj l=.error (1,i)):=show zaj l=_ from by
      rw[bm.out,if_pos bB];rfl
     have e5:((i:Int)==(i:Int))=true:=by simp
     clear bB E;go_wp2_with fail
     refine ⟨rfl,MR.out.drew,?_⟩;rw[HN.out];rfl
    have ag:∀ z,src[i]?=some z->za2 z=false:=fun z hz=>by
     rw[hy]at hz;injection hz with hz;rw[<- hz];exact aG
    have e5:((i:Int)==(j:Int))=false:=beqF (by omega);have bu:j<i:=by omega
    clear aG aT aO k0 k1 hy E;go_wp2_with fail
    have aC:=zia (p:=za2) (s:=src) (k:=j) (j:=i) aZ au (fun m z h1 h2 h3=>ax.out m z h1 h2 h3) ag;have aQ:za2 x=true:=ax.out j x (Nat.le_refl _) (by omega) hx;obtain ⟨T,hT⟩:∃ T,T=(src.drop j).take (i - j):=⟨_,rfl⟩
    have br:T.length<=20000:=by rw[hT,List.length_take,List.length_drop];omega
    have ap:Hid (l=⟨mkind T,j,T,mnum T⟩ :: zaQ src i):=show l=_ from by
     rw[bm.out,if_neg (zjE aQ),aC.1,aC.2,<- hT]
    have aL:=hidX (a8.out.keep aF (aY.out.below (Nat.le_refl sb)));have aw:sb<wr.heap.size:=by omega
    have CS:=hidX (fun u (hu:Below wr.heap.size wr u)=>(show u.cell? ⟨sb,so,none⟩=some (.slice (some ⟨b,o,none⟩) src.length c)/\u.cell? ⟨sb,so+1,none⟩=some (.int .i64 (i:Int))/\(convert 22 9 (.slice (some ⟨b,o+j,none⟩) (i - j) (c - j))).run Tryz.prog u=.ok (.string (mkS T)) u from ⟨zaa hu d0,zaa hu d1,by rw[hT];exact zd5 src u b o (c - j) j i (aL.out.below hu) aZ au⟩));have aq:=hidX (fun u (hu:Below wr.heap.size wr u)=>(show Calls Tryz.prog 161 #[.string (mkS T)] u fun e w'=>e=.returned (.agg (pwL (pkind T) 0 (ptext T) (mnum T)).toArray)/\Below u.heap.size u w' from zhH T u br ((HE.out.keep (MR.out.bel aH)).keep (hu.mono (by omega))).err ((HE.out.keep (MR.out.bel aH)).keep (hu.mono (by omega))).tests));have BD:=hidX ((Below.refl wr.heap.size wr).drew.drew:Below wr.heap.size wr wr.drew.drew);have s0:(0:Int)<=(j:Int):=by omega
    have s1:(j:Int)<=(i:Int):=by omega
    have s2:(i:Int)<=(c:Int):=by omega
    have s3:¬ c=j:=by omega
    clear aC aQ hT ag d0 d1 z1;refine wp_region_noPanic ?_;refine wp_region_held_drew (S:=(fun u=>u.cell? ⟨sb,so,none⟩=some (.slice (some ⟨b,o,none⟩) src.length c)/\u.cell? ⟨sb,so+1,none⟩=some (.int .i64 (i:Int))/\(convert 22 9 (.slice (some ⟨b,o+j,none⟩) (i - j) (c - j))).run Tryz.prog u=.ok (.string (mkS T)) u)) (by kernel_rfl) ?_ (fun E=>?_)
    ·(try dsimp only);exact CS.out _ BD.out
    refine tk 0 E ?_;(try simp only[pA,pZ,pS]);refine tk 1 E ?_;(try simp only[pA,pZ,pS]);refine tk 2 E ?_;(try simp only[pA,pZ,pS]);refine tk 3 E ?_;(try simp only[pA,pZ,pS]);refine tk 4 E ?_;(try simp only[pA,pZ,pS]);refine tk 5 E ?_;(try simp only[pA,pZ,pS]);refine tk 6 E ?_;(try simp only[pA,pZ,pS]);refine tk 7 E ?_;(try simp only[pA,pZ,pS]);refine tk 8 E ?_;(try simp only[pA,pZ,pS]);refine tk 9 E ?_;(try simp only[pA,pZ,pS]);refine tk 10 E ?_;(try simp only[pA,pZ,pS]);refine r2 11 12 (fun K hK=>?_) fun K hK=>?_
    ·go_simp;(go_at_call 161;refine (aq.out _ BD.out).mono ?_;rintro e w5 ⟨rfl,ao⟩;have B5:=hidX (BD.out.trans (ao.mono BD.out.size)));refine hK.out _ _ (by (try dsimp only);exact CS.out _ B5.out) fun U=>?_;replace E:=U;clear hK K U;(try simp only[pA,pZ,pS]);refine r1 12 fun K hK=>?_;go_simp;refine hK.out _ _ (by (try dsimp only);exact CS.out _ (B5.out.alloc B5.out.size _)) fun U=>?_;replace E:=U;clear hK K U;(try simp only[pA,pZ,pS]);refine zaf ?_;intro w6 aD ar;have B6:=hidX (B5.out.trans (aD.mono B5.out.size));refine r1 13 fun K hK=>?_;(refine zcS (by rfl) 131 (.tmp 5) (.tmp 95) (by rfl) w5.heap.size (pwL (pkind T) 0 (ptext T) (mnum T)) (by rfl) (by rfl) _ 131 ar (by rfl) zaM (zbb _ _ _ _) ?_;intro w7 ah al;have B7:=hidX (B6.out.trans (al.out.below B5.out.size)));refine hK.out _ _ (by (try dsimp only);exact CS.out _ B7.out) fun U=>?_;replace E:=U;clear hK K U;(try dsimp only);refine wpAnyH_done (by kernel_rfl) ?_ _;refine NoPanic.normal ?_;have aA:wr.heap.size<=w5.heap.size:=B5.out.size;have G:=ah.out;have ad:=B7.out;clear E s0 s1 s2 s3 CS aq BD;have y7:=(cells4X G).2.1;have f7:w7.frozen? ⟨w5.heap.size,1,none⟩=false:=by simp[World.frozen?,G]
     go_upto_region 15 with fail
     refine zau G ?_;intro w8 O ak;replace O:w8.heap[w5.heap.size]?=some (.cells (pwL (pkind T) (j:Int) (ptext T) (mnum T)).toArray 131 (0,0)):=O;have ab:=ad.trans (ak.below aA);have M8:=hidX (MR.out.trans (MkO.of_below ab));have aE:=hidX ((ab.block sb aw).trans aK.out);have az:=(ab.block w.heap.size (by omega)).trans a6;have k8:=(cells4X O).1;have bj:w5.heap.size<w8.heap.size:=zab O;clear y7 f7 G ad ak ab ah al B7;by_cases I:pkind T = -1
     ·have HN:Hid (zaj l=.error (2,j)):=show zaj l=_ from by
       rw[ap.out];have h8:=(zcV T).1 I;unfold zaj badW;simp[h8]
      have e6:(pkind T == -1)=true:=by simp[I]
      clear I;go_wp2_with (first | (refine zam (by rfl) 131 (.tmp 5) (by rfl) w5.heap.size (pwL (pkind T) (j:Int) (ptext T) (mnum T)) (by rfl) 131 (0,0) O _ Tryz.underlying131 rfl zaM ?_) | (go_at_call 93;refine (zc0 (pkind T) (j:Int) (ptext T) (mnum T) 2 _).mono ?_;rintro e w9 ⟨rfl,aB⟩) | fail);refine ⟨rfl,M8.out.trans (MkO.of_below aB),?_⟩;rw[HN.out];rfl
     have h8:mkind T≠8:=fun h=>I ((zcV T).2 h);obtain ⟨n0,n1,n2,n7⟩:=zcT T;have HN:Hid (zaj l=.ok (⟨mkind T,j,T,mnum T⟩,zaQ src i)):=show zaj l=_ from by
      rw[ap.out];exact zeA (by unfold badW;simp[h8,n7]) n0
     have HV:Hid (Ending.returned (.agg (pwL (pkind T) (j:Int) (ptext T) (mnum T)).toArray)=.returned (pwV (pkW ⟨mkind T,j,T,mnum T⟩) (j:Int) (ptW ⟨mkind T,j,T,mnum T⟩) (mnum T))):=show _=_ from by
      have e1:pkW ⟨mkind T,j,T,mnum T⟩=pkind T:=by unfold pkW;simp[n0,n1,n2]
      have e2:ptW ⟨mkind T,j,T,mnum T⟩=ptext T:=by unfold ptW;simp[n0,n1,n2]
      rw[e1,e2];rfl
     have e6:(pkind T == -1)=false:=by simpa using I
     clear I h8 n0 n1 n2 n7;go_wp2_with (first | (refine zam (by rfl) 131 (.tmp 5) (by rfl) w5.heap.size (pwL (pkind T) (j:Int) (ptext T) (mnum T)) (by rfl) 131 (0,0) O _ Tryz.underlying131 rfl zaM ?_) | (refine zac (by rfl) 131 (.tmp 2) (.tmp 104) (by rfl) w.heap.size (pwL (pkind T) (j:Int) (ptext T) (mnum T)) (by rfl) (by rfl) _ 131 az aI zaM (zbb _ _ _ _) ?_;intro w3 aj ae) | fail);have af:=run_loadVar_mid (P:=Tryz.prog) w3 w.heap.size 0 131 (pwL (pkind T) (j:Int) (ptext T) (mnum T)) _ (zal aj.out) Tryz.underlying131 rfl zaM;have M3:=M8.out.turn ae.out (Nat.le_refl _)
     go_frame
     refine bodyPost_ret (v:=.agg (pwL (pkind T) (j:Int) (ptext T) (mnum T)).toArray) (by simp[results,Tryz.results132,asAddr,af]) rfl ⟨M3,?_⟩;rw[HN.out];exact ⟨HV.out,i,HL.out.moved M3 ((ae.out.block sb (by omega)).trans aE.out) au rfl⟩
    go_simp;refine hK.out _ _ (by (try dsimp only);exact CS.out _ (BD.out.alloc BD.out.size _)) fun U=>?_;replace E:=U;clear hK K U;(try simp only[pA,pZ,pS]);refine zha ?_;intro w6 aD ar;have B6:=hidX aD;have bl:wr.heap.size<w6.heap.size:=zab ar;refine r1 11 fun K hK=>?_;go_simp;(go_at_call 161;refine (aq.out _ B6.out).mono ?_;rintro e w5 ⟨rfl,ao⟩;have B5:=hidX (B6.out.trans (ao.mono B6.out.size));have bi:=(ao.block wr.heap.size bl).trans ar);refine hK.out _ _ (by (try dsimp only);exact CS.out _ B5.out) fun U=>?_;replace E:=U;clear hK K U;(try simp only[pA,pZ,pS]);refine r1 13 fun K hK=>?_;(refine zcS (by rfl) 131 (.tmp 5) (.tmp 95) (by rfl) wr.heap.size (pwL (pkind T) 0 (ptext T) (mnum T)) (by rfl) (by rfl) _ 131 bi (by rfl) zaM (zbb _ _ _ _) ?_;intro w7 ah al;have B7:=hidX (B5.out.trans (al.out.below (Nat.le_refl _))));refine hK.out _ _ (by (try dsimp only);exact CS.out _ B7.out) fun U=>?_;replace E:=U;clear hK K U;(try dsimp only);refine wpAnyH_done (by kernel_rfl) ?_ _;refine NoPanic.normal ?_;have aA:wr.heap.size<=wr.heap.size:=(Nat.le_refl wr.heap.size)
    have G:=ah.out;have ad:=B7.out;clear E s0 s1 s2 s3 CS aq BD;have y7:=(cells4X G).2.1;have f7:w7.frozen? ⟨wr.heap.size,1,none⟩=false:=by simp[World.frozen?,G]
    go_upto_region 15 with fail
    refine zau G ?_;intro w8 O ak;replace O:w8.heap[wr.heap.size]?=some (.cells (pwL (pkind T) (j:Int) (ptext T) (mnum T)).toArray 131 (0,0)):=O;have ab:=ad.trans (ak.below aA);have M8:=hidX (MR.out.trans (MkO.of_below ab));have aE:=hidX ((ab.block sb aw).trans aK.out);have az:=(ab.block w.heap.size (by omega)).trans a6;have k8:=(cells4X O).1;have bj:wr.heap.size<w8.heap.size:=zab O;clear y7 f7 G ad ak ab ah al B7;by_cases I:pkind T = -1
    ·have HN:Hid (zaj l=.error (2,j)):=show zaj l=_ from by
      rw[ap.out];have h8:=(zcV T).1 I;unfold zaj badW;simp[h8]
     have e6:(pkind T == -1)=true:=by simp[I]
     clear I;go_wp2_with (first | (refine zam (by rfl) 131 (.tmp 5) (by rfl) wr.heap.size (pwL (pkind T) (j:Int) (ptext T) (mnum T)) (by rfl) 131 (0,0) O _ Tryz.underlying131 rfl zaM ?_) | (go_at_call 93;refine (zc0 (pkind T) (j:Int) (ptext T) (mnum T) 2 _).mono ?_;rintro e w9 ⟨rfl,aB⟩) | fail);refine ⟨rfl,M8.out.trans (MkO.of_below aB),?_⟩;rw[HN.out];rfl
    have h8:mkind T≠8:=fun h=>I ((zcV T).2 h);obtain ⟨n0,n1,n2,n7⟩:=zcT T;have HN:Hid (zaj l=.ok (⟨mkind T,j,T,mnum T⟩,zaQ src i)):=show zaj l=_ from by
     rw[ap.out];exact zeA (by unfold badW;simp[h8,n7]) n0
    have HV:Hid (Ending.returned (.agg (pwL (pkind T) (j:Int) (ptext T) (mnum T)).toArray)=.returned (pwV (pkW ⟨mkind T,j,T,mnum T⟩) (j:Int) (ptW ⟨mkind T,j,T,mnum T⟩) (mnum T))):=show _=_ from by
     have e1:pkW ⟨mkind T,j,T,mnum T⟩=pkind T:=by unfold pkW;simp[n0,n1,n2]
     have e2:ptW ⟨mkind T,j,T,mnum T⟩=ptext T:=by unfold ptW;simp[n0,n1,n2]
     rw[e1,e2];rfl
    have e6:(pkind T == -1)=false:=by simpa using I
    clear I h8 n0 n1 n2 n7;go_wp2_with (first | (refine zam (by rfl) 131 (.tmp 5) (by rfl) wr.heap.size (pwL (pkind T) (j:Int) (ptext T) (mnum T)) (by rfl) 131 (0,0) O _ Tryz.underlying131 rfl zaM ?_) | (refine zac (by rfl) 131 (.tmp 2) (.tmp 104) (by rfl) w.heap.size (pwL (pkind T) (j:Int) (ptext T) (mnum T)) (by rfl) (by rfl) _ 131 az aI zaM (zbb _ _ _ _) ?_;intro w3 aj ae) | fail);have af:=run_loadVar_mid (P:=Tryz.prog) w3 w.heap.size 0 131 (pwL (pkind T) (j:Int) (ptext T) (mnum T)) _ (zal aj.out) Tryz.underlying131 rfl zaM;have M3:=M8.out.turn ae.out (Nat.le_refl _)
    go_frame
    refine bodyPost_ret (v:=.agg (pwL (pkind T) (j:Int) (ptext T) (mnum T)).toArray) (by simp[results,Tryz.results132,asAddr,af]) rfl ⟨M3,?_⟩;rw[HN.out];exact ⟨HV.out,i,HL.out.moved M3 ((ae.out.block sb (by omega)).trans aE.out) au rfl⟩
  have ag:∀ z,src[i]?=some z->za2 z=false:=fun z hz=>absurd (List.getElem?_eq_some_iff.1 hz).1 (by omega);have bW:decide ((i:Int)<(src.length:Int))=false:=by simp;omega
  have bS:decide (i<src.length)=false:=by simp;omega
  have e5:((i:Int)==(j:Int))=false:=beqF (by omega);have bu:j<i:=by omega
  clear bC;go_wp2_with fail
  refine wp_region_noPanic ?_;refine wp_region_held_drew (S:=(fun u=>u.cell? ⟨sb,so,none⟩=some (.slice (some ⟨b,o,none⟩) src.length c)/\u.cell? ⟨sb,so+1,none⟩=some (.int .i64 (i:Int)))) (by kernel_rfl) ?_ (fun E=>?_)
  ·(try dsimp only);(exact ⟨d0,d1⟩)
  refine tk 0 E ?_;(try simp only[pA,pZ,pS]);refine tk 1 E ?_;(try simp only[pA,pZ,pS]);refine tk 2 E ?_;(try simp only[pA,pZ,pS]);refine tk 3 E ?_;(try simp only[pA,pZ,pS]);refine tk 4 E ?_;(try simp only[pA,pZ,pS]);refine tk 5 E ?_;(try simp only[pA,pZ,pS]);refine tk 6 E ?_;(try simp only[pA,pZ,pS]);refine tk 7 E ?_;(try simp only[pA,pZ,pS]);refine tk 8 E ?_;(try simp only[pA,pZ,pS]);refine tk 9 E ?_;(try simp only[pA,pZ,pS]);refine tk 10 E ?_;refine tn 11 E ?_;refine tn 12 E ?_;refine tn 13 E ?_;(try simp only[pA,pZ,pS]);refine tn 14 E ?_;refine tn 15 E ?_;refine tn 16 E ?_;refine tn 17 E ?_;(try simp only[pA,pZ,pS]);refine tn 18 E ?_;refine tn 19 E ?_;refine tn 20 E ?_;refine tn 21 E ?_;(try simp only[pA,pZ,pS]);refine tk 22 E ?_;(try simp only[pA,pZ,pS]);refine wpAnyH_done (by kernel_rfl) ?_ _;refine NoPanic.normal ?_;clear E bW bS;go_wp2_with fail
  have aC:=zia (p:=za2) (s:=src) (k:=j) (j:=i) aZ au (fun m z h1 h2 h3=>ax.out m z h1 h2 h3) ag;have aQ:za2 x=true:=ax.out j x (Nat.le_refl _) (by omega) hx;obtain ⟨T,hT⟩:∃ T,T=(src.drop j).take (i - j):=⟨_,rfl⟩
  have br:T.length<=20000:=by rw[hT,List.length_take,List.length_drop];omega
  have ap:Hid (l=⟨mkind T,j,T,mnum T⟩ :: zaQ src i):=show l=_ from by
   rw[bm.out,if_neg (zjE aQ),aC.1,aC.2,<- hT]
  have aL:=hidX (a8.out.keep aF (aY.out.below (Nat.le_refl sb)));have aw:sb<wr.heap.size:=by omega
  have CS:=hidX (fun u (hu:Below wr.heap.size wr u)=>(show u.cell? ⟨sb,so,none⟩=some (.slice (some ⟨b,o,none⟩) src.length c)/\u.cell? ⟨sb,so+1,none⟩=some (.int .i64 (i:Int))/\(convert 22 9 (.slice (some ⟨b,o+j,none⟩) (i - j) (c - j))).run Tryz.prog u=.ok (.string (mkS T)) u from ⟨zaa hu d0,zaa hu d1,by rw[hT];exact zd5 src u b o (c - j) j i (aL.out.below hu) aZ au⟩));have aq:=hidX (fun u (hu:Below wr.heap.size wr u)=>(show Calls Tryz.prog 161 #[.string (mkS T)] u fun e w'=>e=.returned (.agg (pwL (pkind T) 0 (ptext T) (mnum T)).toArray)/\Below u.heap.size u w' from zhH T u br ((HE.out.keep (MR.out.bel aH)).keep (hu.mono (by omega))).err ((HE.out.keep (MR.out.bel aH)).keep (hu.mono (by omega))).tests));have BD:=hidX ((Below.refl wr.heap.size wr).drew.drew:Below wr.heap.size wr wr.drew.drew);have s0:(0:Int)<=(j:Int):=by omega
  have s1:(j:Int)<=(i:Int):=by omega
  have s2:(i:Int)<=(c:Int):=by omega
  have s3:¬ c=j:=by omega
  clear aC aQ hT ag d0 d1 z1;refine wp_region_noPanic ?_;refine wp_region_held_drew (S:=(fun u=>u.cell? ⟨sb,so,none⟩=some (.slice (some ⟨b,o,none⟩) src.length c)/\u.cell? ⟨sb,so+1,none⟩=some (.int .i64 (i:Int))/\(convert 22 9 (.slice (some ⟨b,o+j,none⟩) (i - j) (c - j))).run Tryz.prog u=.ok (.string (mkS T)) u)) (by kernel_rfl) ?_ (fun E=>?_)
  ·(try dsimp only);exact CS.out _ BD.out
  refine tk 0 E ?_;(try simp only[pA,pZ,pS]);refine tk 1 E ?_;(try simp only[pA,pZ,pS]);refine tk 2 E ?_;(try simp only[pA,pZ,pS]);refine tk 3 E ?_;(try simp only[pA,pZ,pS]);refine tk 4 E ?_;(try simp only[pA,pZ,pS]);refine tk 5 E ?_;(try simp only[pA,pZ,pS]);refine tk 6 E ?_;(try simp only[pA,pZ,pS]);refine tk 7 E ?_;(try simp only[pA,pZ,pS]);refine tk 8 E ?_;(try simp only[pA,pZ,pS]);refine tk 9 E ?_;(try simp only[pA,pZ,pS]);refine tk 10 E ?_;(try simp only[pA,pZ,pS]);refine r2 11 12 (fun K hK=>?_) fun K hK=>?_
  ·go_simp;(go_at_call 161;refine (aq.out _ BD.out).mono ?_;rintro e w5 ⟨rfl,ao⟩;have B5:=hidX (BD.out.trans (ao.mono BD.out.size)));refine hK.out _ _ (by (try dsimp only);exact CS.out _ B5.out) fun U=>?_;replace E:=U;clear hK K U;(try simp only[pA,pZ,pS]);refine r1 12 fun K hK=>?_;go_simp;refine hK.out _ _ (by (try dsimp only);exact CS.out _ (B5.out.alloc B5.out.size _)) fun U=>?_;replace E:=U;clear hK K U;(try simp only[pA,pZ,pS]);refine zaf ?_;intro w6 aD ar;have B6:=hidX (B5.out.trans (aD.mono B5.out.size));refine r1 13 fun K hK=>?_;(refine zcS (by rfl) 131 (.tmp 5) (.tmp 95) (by rfl) w5.heap.size (pwL (pkind T) 0 (ptext T) (mnum T)) (by rfl) (by rfl) _ 131 ar (by rfl) zaM (zbb _ _ _ _) ?_;intro w7 ah al;have B7:=hidX (B6.out.trans (al.out.below B5.out.size)));refine hK.out _ _ (by (try dsimp only);exact CS.out _ B7.out) fun U=>?_;replace E:=U;clear hK K U;(try dsimp only);refine wpAnyH_done (by kernel_rfl) ?_ _;refine NoPanic.normal ?_;have aA:wr.heap.size<=w5.heap.size:=B5.out.size;have G:=ah.out;have ad:=B7.out;clear E s0 s1 s2 s3 CS aq BD;have y7:=(cells4X G).2.1;have f7:w7.frozen? ⟨w5.heap.size,1,none⟩=false:=by simp[World.frozen?,G]
   go_upto_region 15 with fail
   refine zau G ?_;intro w8 O ak;replace O:w8.heap[w5.heap.size]?=some (.cells (pwL (pkind T) (j:Int) (ptext T) (mnum T)).toArray 131 (0,0)):=O;have ab:=ad.trans (ak.below aA);have M8:=hidX (MR.out.trans (MkO.of_below ab));have aE:=hidX ((ab.block sb aw).trans aK.out);have az:=(ab.block w.heap.size (by omega)).trans a6;have k8:=(cells4X O).1;have bj:w5.heap.size<w8.heap.size:=zab O;clear y7 f7 G ad ak ab ah al B7;by_cases I:pkind T = -1
   ·have HN:Hid (zaj l=.error (2,j)):=show zaj l=_ from by
     rw[ap.out];have h8:=(zcV T).1 I;unfold zaj badW;simp[h8]
    have e6:(pkind T == -1)=true:=by simp[I]
    clear I;go_wp2_with (first | (refine zam (by rfl) 131 (.tmp 5) (by rfl) w5.heap.size (pwL (pkind T) (j:Int) (ptext T) (mnum T)) (by rfl) 131 (0,0) O _ Tryz.underlying131 rfl zaM ?_) | (go_at_call 93;refine (zc0 (pkind T) (j:Int) (ptext T) (mnum T) 2 _).mono ?_;rintro e w9 ⟨rfl,aB⟩) | fail);refine ⟨rfl,M8.out.trans (MkO.of_below aB),?_⟩;rw[HN.out];rfl
   have h8:mkind T≠8:=fun h=>I ((zcV T).2 h);obtain ⟨n0,n1,n2,n7⟩:=zcT T;have HN:Hid (zaj l=.ok (⟨mkind T,j,T,mnum T⟩,zaQ src i)):=show zaj l=_ from by
    rw[ap.out];exact zeA (by unfold badW;simp[h8,n7]) n0
   have HV:Hid (Ending.returned (.agg (pwL (pkind T) (j:Int) (ptext T) (mnum T)).toArray)=.returned (pwV (pkW ⟨mkind T,j,T,mnum T⟩) (j:Int) (ptW ⟨mkind T,j,T,mnum T⟩) (mnum T))):=show _=_ from by
    have e1:pkW ⟨mkind T,j,T,mnum T⟩=pkind T:=by unfold pkW;simp[n0,n1,n2]
    have e2:ptW ⟨mkind T,j,T,mnum T⟩=ptext T:=by unfold ptW;simp[n0,n1,n2]
    rw[e1,e2];rfl
   have e6:(pkind T == -1)=false:=by simpa using I
   clear I h8 n0 n1 n2 n7;go_wp2_with (first | (refine zam (by rfl) 131 (.tmp 5) (by rfl) w5.heap.size (pwL (pkind T) (j:Int) (ptext T) (mnum T)) (by rfl) 131 (0,0) O _ Tryz.underlying131 rfl zaM ?_) | (refine zac (by rfl) 131 (.tmp 2) (.tmp 104) (by rfl) w.heap.size (pwL (pkind T) (j:Int) (ptext T) (mnum T)) (by rfl) (by rfl) _ 131 az aI zaM (zbb _ _ _ _) ?_;intro w3 aj ae) | fail);have af:=run_loadVar_mid (P:=Tryz.prog) w3 w.heap.size 0 131 (pwL (pkind T) (j:Int) (ptext T) (mnum T)) _ (zal aj.out) Tryz.underlying131 rfl zaM;have M3:=M8.out.turn ae.out (Nat.le_refl _)
   go_frame
   refine bodyPost_ret (v:=.agg (pwL (pkind T) (j:Int) (ptext T) (mnum T)).toArray) (by simp[results,Tryz.results132,asAddr,af]) rfl ⟨M3,?_⟩;rw[HN.out];exact ⟨HV.out,i,HL.out.moved M3 ((ae.out.block sb (by omega)).trans aE.out) au rfl⟩
  go_simp;refine hK.out _ _ (by (try dsimp only);exact CS.out _ (BD.out.alloc BD.out.size _)) fun U=>?_;replace E:=U;clear hK K U;(try simp only[pA,pZ,pS]);refine zha ?_;intro w6 aD ar;have B6:=hidX aD;have bl:wr.heap.size<w6.heap.size:=zab ar;refine r1 11 fun K hK=>?_;go_simp;(go_at_call 161;refine (aq.out _ B6.out).mono ?_;rintro e w5 ⟨rfl,ao⟩;have B5:=hidX (B6.out.trans (ao.mono B6.out.size));have bi:=(ao.block wr.heap.size bl).trans ar);refine hK.out _ _ (by (try dsimp only);exact CS.out _ B5.out) fun U=>?_;replace E:=U;clear hK K U;(try simp only[pA,pZ,pS]);refine r1 13 fun K hK=>?_;(refine zcS (by rfl) 131 (.tmp 5) (.tmp 95) (by rfl) wr.heap.size (pwL (pkind T) 0 (ptext T) (mnum T)) (by rfl) (by rfl) _ 131 bi (by rfl) zaM (zbb _ _ _ _) ?_;intro w7 ah al;have B7:=hidX (B5.out.trans (al.out.below (Nat.le_refl _))));refine hK.out _ _ (by (try dsimp only);exact CS.out _ B7.out) fun U=>?_;replace E:=U;clear hK K U;(try dsimp only);refine wpAnyH_done (by kernel_rfl) ?_ _;refine NoPanic.normal ?_;have aA:wr.heap.size<=wr.heap.size:=(Nat.le_refl wr.heap.size)
  have G:=ah.out;have ad:=B7.out;clear E s0 s1 s2 s3 CS aq BD;have y7:=(cells4X G).2.1;have f7:w7.frozen? ⟨wr.heap.size,1,none⟩=false:=by simp[World.frozen?,G]
  go_upto_region 15 with fail
  refine zau G ?_;intro w8 O ak;replace O:w8.heap[wr.heap.size]?=some (.cells (pwL (pkind T) (j:Int) (ptext T) (mnum T)).toArray 131 (0,0)):=O;have ab:=ad.trans (ak.below aA);have M8:=hidX (MR.out.trans (MkO.of_below ab));have aE:=hidX ((ab.block sb aw).trans aK.out);have az:=(ab.block w.heap.size (by omega)).trans a6;have k8:=(cells4X O).1;have bj:wr.heap.size<w8.heap.size:=zab O;clear y7 f7 G ad ak ab ah al B7;by_cases I:pkind T = -1
  ·have HN:Hid (zaj l=.error (2,j)):=show zaj l=_ from by
    rw[ap.out];have h8:=(zcV T).1 I;unfold zaj badW;simp[h8]
   have e6:(pkind T == -1)=true:=by simp[I]
   clear I;go_wp2_with (first | (refine zam (by rfl) 131 (.tmp 5) (by rfl) wr.heap.size (pwL (pkind T) (j:Int) (ptext T) (mnum T)) (by rfl) 131 (0,0) O _ Tryz.underlying131 rfl zaM ?_) | (go_at_call 93;refine (zc0 (pkind T) (j:Int) (ptext T) (mnum T) 2 _).mono ?_;rintro e w9 ⟨rfl,aB⟩) | fail);refine ⟨rfl,M8.out.trans (MkO.of_below aB),?_⟩;rw[HN.out];rfl
  have h8:mkind T≠8:=fun h=>I ((zcV T).2 h);obtain ⟨n0,n1,n2,n7⟩:=zcT T;have HN:Hid (zaj l=.ok (⟨mkind T,j,T,mnum T⟩,zaQ src i)):=show zaj l=_ from by
   rw[ap.out];exact zeA (by unfold badW;simp[h8,n7]) n0
  have HV:Hid (Ending.returned (.agg (pwL (pkind T) (j:Int) (ptext T) (mnum T)).toArray)=.returned (pwV (pkW ⟨mkind T,j,T,mnum T⟩) (j:Int) (ptW ⟨mkind T,j,T,mnum T⟩) (mnum T))):=show _=_ from by
   have e1:pkW ⟨mkind T,j,T,mnum T⟩=pkind T:=by unfold pkW;simp[n0,n1,n2]
   have e2:ptW ⟨mkind T,j,T,mnum T⟩=ptext T:=by unfold ptW;simp[n0,n1,n2]
   rw[e1,e2];rfl
  have e6:(pkind T == -1)=false:=by simpa using I
  clear I h8 n0 n1 n2 n7;go_wp2_with (first | (refine zam (by rfl) 131 (.tmp 5) (by rfl) wr.heap.size (pwL (pkind T) (j:Int) (ptext T) (mnum T)) (by rfl) 131 (0,0) O _ Tryz.underlying131 rfl zaM ?_) | (refine zac (by rfl) 131 (.tmp 2) (.tmp 104) (by rfl) w.heap.size (pwL (pkind T) (j:Int) (ptext T) (mnum T)) (by rfl) (by rfl) _ 131 az aI zaM (zbb _ _ _ _) ?_;intro w3 aj ae) | fail);have af:=run_loadVar_mid (P:=Tryz.prog) w3 w.heap.size 0 131 (pwL (pkind T) (j:Int) (ptext T) (mnum T)) _ (zal aj.out) Tryz.underlying131 rfl zaM;have M3:=M8.out.turn ae.out (Nat.le_refl _)
  go_frame
  refine bodyPost_ret (v:=.agg (pwL (pkind T) (j:Int) (ptext T) (mnum T)).toArray) (by simp[results,Tryz.results132,asAddr,af]) rfl ⟨M3,?_⟩;rw[HN.out];exact ⟨HV.out,i,HL.out.moved M3 ((ae.out.block sb (by omega)).trans aE.out) au rfl⟩
end Go.Proofs.YtjjjagepnnbebaaGreatDoor
