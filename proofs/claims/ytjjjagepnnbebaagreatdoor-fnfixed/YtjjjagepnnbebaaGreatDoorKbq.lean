/-
  OUR OWN TEXT. Mr5, Mr6, Mr7, Mr8, Mr9, one behind the other.
-/
import Derived.Test.YtjjjagepnnbebaaGreatDoorKbm
import Derived.Deep.CutBlock
import Derived.Deep.DeepCutAuto
import Derived.Test.YtjjjagepnnbebaaGreatDoorKbe
import Derived.Test.YtjjjagepnnbebaaGreatDoorKbi
set_option maxHeartbeats 6400000
set_option maxRecDepth 100000
namespace Go.Proofs.YtjjjagepnnbebaaGreatDoor
open Go.RowKit
attribute [local go_sem ↓] Go.wp_at_zero Go.wp_at_succ
def phC(h:Bool × Bs)(v:Value):List Value:=[.bool h.1,.string (mkS h.2),v]
theorem zrd(h:Bool × Bs)(a:Option Addr)(n c:Nat):∀ v∈phC h (.slice a n c),v.oneCell'=true:=by
 intro v hv;simp[phC]at hv;rcases hv with rfl | rfl | rfl <;> rfl
def zeX(cb:Nat)(w:World):Nat:=match w.cell? ⟨cb,2,none⟩ with
 | some v=>za6 v
 | none=>0
structure PnAt (w wx:World) (pb g rb cb:Nat) (W:List Wd) (c:Nat) (R:List Value) (s1:Ps) (b:Bool):Prop where
 mo:MkO (some pb) w wx
 mb:MB wx pb g W c (zaD s1) R
 rq:wx.heap[rb]?=some (.cells (phC (false,[]) (.slice none 0 0)).toArray 78 (0,0))
 cq:wx.heap[cb]?=some (.cells (phC (false,[]) (.slice none 0 0)).toArray 78 (0,0))
 yes:b=true->∃ x r,s1=.ok (x :: r)/\zaD s1=.ok (x :: r)/\zaj (x :: r)=.ok (x,r)/\WdOk x/\x.kind=5/\x.text=notT
 no:b=false->∀ x r,s1=.ok (x :: r)->¬ (x.kind=5/\x.text=notT)
structure PcAt (w wx:World) (pb g rb cb:Nat) (W:List Wd) (c:Nat) (R:List Value) (r:Px (Bool × Bs)) (s':Ps) (ng:Bool):Prop where
 mo:MkO (some pb) w wx
 mb:MB wx pb g W c s' R
 rq:wx.heap[rb]?=some (.cells (phC (false,[]) (.slice none 0 0)).toArray 78 (0,0))
 cq:wx.heap[cb]?=some (.cells (phC (ng,[]) (.slice none 0 0)).toArray 78 (0,0))
 eq:r=andP (onS s' za3) fun cl l1=>.ok ((ng,cl),l1)
structure PlAt (w wr:World) (pb g rb cb:Nat) (W:List Wd) (c:Nat) (R:List Value) (h:Bool × Bs) (s5 sx:Ps) (la:Option Addr) (lc:Nat) (M:List Tm):Prop where
 mo:MkO (some pb) w wr
 mb:MB wr pb g W c sx R
 rq:wr.heap[rb]?=some (.cells (phC (false,[]) (.slice none 0 0)).toArray 78 (0,0))
 cq:wr.heap[cb]?=some (.cells (phC h (.slice la M.length lc)).toArray 78 (0,0))
 ow:wr.ownsRow w.heap.size 95 6 (.slice la M.length lc) M.length (M.flatMap tmC)
 le:M.length<=6
 pl:onS s5 (zbi zaX 6)=preL M (onS sx (zbi zaX (6 - M.length)))
theorem zsH{s':Ps}{ng:Bool}{cl:Bs}{r:Px (Bool × Bs)}(he:r=andP (onS s' za3) fun cl l1=>.ok ((ng,cl),l1))(E:∀ y l,onS s' za3=.ok (y,l)->y=cl):stS r=stS (onS s' za3)/\∀ y l,r=.ok (y,l)->y=(ng,cl):=by
 subst he
 cases hp:onS s' za3 with
 | error f=>exact ⟨rfl,fun y l h=>by cases h⟩
 | ok q=>
  obtain ⟨x,l1⟩:=q;refine ⟨rfl,fun y l h=>?_⟩;rw[zak]at h;injection h with h;injection h with h _;rw[<- h,E x l1 hp]
theorem zjO(w:World)(pb g:Nat)(W:List Wd)(c:Nat)(s:Ps)(R:List Value)(h:MB w pb g W c s R):Calls Tryz.prog 58 #[.pointer (some ⟨pb,0,none⟩)] w (MPost w pb g W c R (Rpt w.heap.size) (onS s patM)):=by
 have HM:=hidX h;have aR:=h.lt;have cw:=h.glt;have cu:=h.far;have ck:=h.caps;have cv:=h.len;clear h;go_enter Tryz.func58,Tryz.ntmps58;go_upto_region 1 with fail
 refine zaf ?_;intro w1 bn br;have cg:w.heap.size<w1.heap.size:=zab br;have aM:=hidX (zbw w1 pb g W c s R 1 40 rel40 (by decide) (by decide) (HM.out.below bn));have bG:=hidX br;have M1:=hidX (MkO.of_below bn:MkO (some pb) w w1);clear bn br;go_upto_region 2 with (first | (go_at_call 56;refine aM.out.mono ?_;rintro e G ⟨ak,⟨y,ci,_⟩,ad⟩;obtain rfl:e=.returned (wdA y):=ci;unfold wdA) | fail);obtain ⟨s1,bh⟩:∃ s1,s1=stS (onS s (zai 40)):=⟨_,rfl⟩
 rw[<- bh]at ad;have bX:=hidX bh;have M2:=hidX (M1.out.trans ak);have bO:=hidX ad;have cy:=ak.rest.size;have aZ:=hidX ((ak.block w.heap.size cg (fun e=>by injection e;omega)).trans bG.out);clear ak ad aM bG M1 bh;go_upto_region 3 with fail
 refine zaf ?_;intro w3 aS bk;have cC:G.heap.size<w3.heap.size:=zab bk;have au:=hidX (bO.out.below aS);have M3:=hidX (M2.out.trans (MkO.of_below aS));have a1:=hidX ((aS.block w.heap.size (by omega)).trans aZ.out);have bw:=hidX bk;have cB:w.heap.size<G.heap.size:=by omega
 clear aS bk bO M2 aZ
 go_cut [22] (fun b wx=>∃ bb,b=.bool bb/\PnAt w wx pb g w.heap.size G.heap.size W c R s1 bb)
 case first=>
  have ax:=hidX (fun u (hu:MB u pb g W c s1 R)=>zch u pb g W c s1 R hu);obtain ⟨K,hK⟩:∃ K,K=zbx s1:=⟨_,rfl⟩
  unfold zco at ax;rw[<- hK]at ax;have X:Hid (∀ wx bb,MkO (some pb) w3 wx->MB wx pb g W c (zaD s1) R->(bb=true->∃ x r,s1=.ok (x :: r)/\zaD s1=.ok (x :: r)/\zaj (x :: r)=.ok (x,r)/\WdOk x/\x.kind=5/\x.text=notT)->(bb=false->∀ x r,s1=.ok (x :: r)->¬ (x.kind=5/\x.text=notT))->PnAt w wx pb g w.heap.size G.heap.size W c R s1 bb):=show ∀ _,_ from fun wx bb hm hb hy hn=>⟨M3.out.trans hm,hb,(hm.block w.heap.size (by omega) (fun e=>by injection e;omega)).trans a1.out,(hm.block G.heap.size (by omega) (fun e=>by injection e;omega)).trans bw.out,hy,hn⟩
  by_cases hk:K=5
  ·obtain ⟨x,r,hs,aE,aN,ab,aV,cD⟩:=zcj au.out (by decide) (by decide) (hK.symm.trans hk);have aI:Hid (x.text=notT->∃ x r,s1=.ok (x :: r)/\zaD s1=.ok (x :: r)/\zaj (x :: r)=.ok (x,r)/\WdOk x/\x.kind=5/\x.text=notT):=show _->_ from fun e=>⟨x,r,hs,ab,aN,aV,aE,e⟩
   have bc:Hid (x.text≠notT->∀ x r,s1=.ok (x :: r)->¬ (x.kind=5/\x.text=notT)):=show _->_ from fun e y r' e'=>fun e2=>e (by
    rw[hs]at e';injection e' with e';injection e' with e' _;rw[e'];exact e2.2)
   have bA:=hidX ab;rw[ab]at ax;have e1:(K==5)=true:=by simp[hk]
   rw[hs]at ax;have aA:=hidX (show MB w3 pb g W c (.ok (x :: r)) R by have:=au.out;rw[hs]at this;exact this);obtain ⟨hq,cd,bB,hd,b2⟩:=aA.out.cells;have c0:=zae hq (j:=0) rfl;have c1:=zae hq (j:=1) rfl;have c2:=bB 2 _ rfl;obtain ⟨k,bd⟩:∃ k,k=kOf W r:=⟨_,rfl⟩
   rw[<- bd]at c1 c2 cd;have bN:=hidX bd;have az:=zbB (mkS x.text) notT;rw[zbX]at az;have cA:=au.out.lt;have cz:=au.out.glt;clear hk hK aE aN ab hq bB hd b2 bd hs au;by_cases ht:x.text=notT
   ·have HY:=hidX (aI.out ht);rw[decide_eq_true ht]at az;replace az:((mkS x.text).toList==[110,111,116])=true:=az;clear ht aI bc;refine wp_region_noPanic ?_;refine wp_region_held_drew (S:=(fun u=>u.cell? ⟨pb,0,none⟩=some (.slice (some ⟨g,0,none⟩) W.length c)/\u.cell? ⟨pb,1,none⟩=some (.int .i64 (k:Int))/\u.cell? ⟨g,k * 4+2,none⟩=some (.string (mkS x.text)))) (by kernel_rfl) ?_ (fun E=>?_)
    ·(try dsimp only);exact ⟨c0,c1,c2⟩
    refine tk 0 E ?_;(try simp only[pA,pZ,pS]);refine r1 1 fun K hK=>?_;go_simp;(go_at_call 21;refine (ax.out _ (aA.out.below (Below.refl _ _).drew)).mono ?_;rintro e G ⟨rfl,ak,ad⟩;have ap:=ad.cells.1;have aG:=ad.cells.2.2.1 2 _ rfl;rw[<- bN.out]at ap aG;have u0:=zae ap (j:=0) rfl;have u1:=zae ap (j:=1) rfl;clear ap);(try go_wp2_with fail);refine hK.out _ _ (by (try dsimp only);exact ⟨u0,u1,aG⟩) fun I=>?_;replace E:=I;clear hK K I;(try simp only[pA,pZ,pS,pN]);refine tk 2 E ?_;(try simp only[pA,pZ,pS]);refine tk 3 E ?_;(try simp only[pA,pZ,pS]);refine tk 4 E ?_;(try simp only[pA,pZ,pS]);refine tk 5 E ?_;(try simp only[pA,pZ,pS]);refine tk 6 E ?_;(try simp only[pA,pZ,pS]);refine tk 7 E ?_;(try simp only[pA,pZ,pS]);refine tk 8 E ?_;(try simp only[pA,pZ,pS]);refine tk 9 E ?_;(try simp only[pA,pZ,pS]);refine tk 10 E ?_;(try simp only[pA,pZ,pS]);refine tk 11 E ?_;(try simp only[pA,pZ,pS]);refine tk 12 E ?_;(try simp only[pA,pZ,pS]);refine tk 13 E ?_;(try simp only[pA,pZ,pS]);refine tk 14 E ?_;(try simp only[pA,pZ,pS]);refine tk 15 E ?_;(try simp only[pA,pZ,pS]);refine tk 16 E ?_;(try simp only[pA,pZ,pS]);refine wpAnyH_done (by kernel_rfl) ?_ _;refine NoPanic.normal ?_;go_wp2_with fail
    go_meet;exact ⟨true,rfl,X.out _ true (MkO.trans ((MkO.refl _ _).drew) ak) (by rw[bA.out];exact ad) (fun _=>HY.out) (fun e=>by cases e)⟩
   have HN:=hidX (bc.out ht);rw[decide_eq_false ht]at az;replace az:((mkS x.text).toList==[110,111,116])=false:=az;clear ht aI bc;refine wp_region_noPanic ?_;refine wp_region_held_drew (S:=(fun u=>u.cell? ⟨pb,0,none⟩=some (.slice (some ⟨g,0,none⟩) W.length c)/\u.cell? ⟨pb,1,none⟩=some (.int .i64 (k:Int))/\u.cell? ⟨g,k * 4+2,none⟩=some (.string (mkS x.text)))) (by kernel_rfl) ?_ (fun E=>?_)
   ·(try dsimp only);exact ⟨c0,c1,c2⟩
   refine tk 0 E ?_;(try simp only[pA,pZ,pS]);refine r1 1 fun K hK=>?_;go_simp;(go_at_call 21;refine (ax.out _ (aA.out.below (Below.refl _ _).drew)).mono ?_;rintro e G ⟨rfl,ak,ad⟩;have ap:=ad.cells.1;have aG:=ad.cells.2.2.1 2 _ rfl;rw[<- bN.out]at ap aG;have u0:=zae ap (j:=0) rfl;have u1:=zae ap (j:=1) rfl;clear ap);(try go_wp2_with fail);refine hK.out _ _ (by (try dsimp only);exact ⟨u0,u1,aG⟩) fun I=>?_;replace E:=I;clear hK K I;(try simp only[pA,pZ,pS,pN]);refine tk 2 E ?_;(try simp only[pA,pZ,pS]);refine tk 3 E ?_;(try simp only[pA,pZ,pS]);refine tk 4 E ?_;(try simp only[pA,pZ,pS]);refine tk 5 E ?_;(try simp only[pA,pZ,pS]);refine tk 6 E ?_;(try simp only[pA,pZ,pS]);refine tk 7 E ?_;(try simp only[pA,pZ,pS]);refine tk 8 E ?_;(try simp only[pA,pZ,pS]);refine tk 9 E ?_;(try simp only[pA,pZ,pS]);refine tk 10 E ?_;(try simp only[pA,pZ,pS]);refine tk 11 E ?_;(try simp only[pA,pZ,pS]);refine tk 12 E ?_;(try simp only[pA,pZ,pS]);refine tk 13 E ?_;(try simp only[pA,pZ,pS]);refine tk 14 E ?_;(try simp only[pA,pZ,pS]);refine tk 15 E ?_;(try simp only[pA,pZ,pS]);refine tk 16 E ?_;(try simp only[pA,pZ,pS]);refine wpAnyH_done (by kernel_rfl) ?_ _;refine NoPanic.normal ?_;go_wp2_with fail
   go_meet;exact ⟨false,rfl,X.out _ false (MkO.trans ((MkO.refl _ _).drew) ak) (by rw[bA.out];exact ad) (fun e=>by cases e) (fun _=>HN.out)⟩
  ·have HN:Hid (∀ x r,s1=.ok (x :: r)->¬ (x.kind=5/\x.text=notT)):=show ∀ _,_ from fun y r' e=>fun e'=>hk (by
    have:=(look_ok (zrk (r:=r') (show ¬ y.kind=7 by omega) (show ¬ y.kind=8 by omega))).1;rw[hK,e,this];exact e'.1)
   have e1:(K==5)=false:=by simp[hk]
   have aA:=hidX au.out;clear hk hK au;refine wp_region_noPanic ?_;refine wp_region_held_drew (S:=(fun _=>True)) (by kernel_rfl) ?_ (fun E=>?_)
   ·(try dsimp only)
    all_goals trivial
   refine tk 0 E ?_;(try simp only[pA,pZ,pS]);refine r1 1 fun K hK=>?_;go_simp;(go_at_call 21;refine (ax.out _ (aA.out.below (Below.refl _ _).drew)).mono ?_;rintro e G ⟨rfl,ak,ad⟩);(try go_wp2_with fail);refine hK.out _ _ (by (try dsimp only);all_goals trivial) fun I=>?_;replace E:=I;clear hK K I;(try simp only[pA,pZ,pS,pN]);refine tk 2 E ?_;(try simp only[pA,pZ,pS]);refine tk 3 E ?_;(try simp only[pA,pZ,pS]);refine tn 4 E ?_;refine tn 5 E ?_;refine tn 6 E ?_;refine tn 7 E ?_;(try simp only[pA,pZ,pS]);refine tn 8 E ?_;refine tn 9 E ?_;refine tn 10 E ?_;refine tn 11 E ?_;(try simp only[pA,pZ,pS]);refine tn 12 E ?_;refine tn 13 E ?_;refine tn 14 E ?_;refine tn 15 E ?_;(try simp only[pA,pZ,pS]);refine tk 16 E ?_;(try simp only[pA,pZ,pS]);refine wpAnyH_done (by kernel_rfl) ?_ _;refine NoPanic.normal ?_;go_wp2_with fail
   go_meet;exact ⟨false,rfl,X.out _ false (MkO.trans ((MkO.refl _ _).drew) ak) ad (fun e=>by cases e) (fun _=>HN.out)⟩
 case rest=>
  obtain ⟨bb,b9,aX⟩:=hcut;obtain ⟨w4,rfl⟩:∃ v,v=wc:=⟨wc,rfl⟩
  subst b9;have X:=hidX aX;have bI:G.heap.size<w4.heap.size:=zab aX.cq;have b1:=aX.mb.glt;clear M3 a1 bw aX;go_upto_if 22 with fail
  go_cut [] (fun wx=>∃ s' ng,PcAt w wx pb g w.heap.size G.heap.size W c R (onS s1 phM) s' ng)
  case first=>
   cases bb with
   | true=>
    obtain ⟨x,r,hs,ab,aN,aV,aE,bL⟩:=X.out.yes rfl;have b3:Hid (onS s1 phM=andP (onS (.ok r) za3) fun cl l1=>.ok ((true,cl),l1)):=show _=_ from by rw[hs];exact zr9 aV aN aE bL
    have HX:Hid (x.kind≠0):=show x.kind≠0 from by omega
    have aO:=X.out.mb;rw[ab]at aO;obtain ⟨aT,ct,bF,b5,bS⟩:=aO.cells;have d1:=zae aT (j:=1) rfl;have z1:=zax aT 1;have bH:=hidX aT;have aA:=hidX aO;clear hs ab aN aV aE bL aT bF b5 bS aO;go_upto_region 5 with fail
    refine zau bH.out ?_;intro w5 aP aB;replace aP:w5.heap[pb]?=some (.cells (.slice (some ⟨g,0,none⟩) W.length c :: .int .i64 ((kOf W r+1:Nat):Int) :: .int .i64 0 :: .int .i64 ((0:Nat):Int) :: R).toArray 64 (0,0)):=by
     rw[aP];simp
    have b8:=hidX (aA.out.next HX.out aB aP);have M5:=hidX (X.out.mo.trans aB.mko);have s5:=aB.size;have ca:=hidX ((aB.block w.heap.size (by omega)).trans X.out.rq);have aF:=(aB.block G.heap.size (by omega)).trans X.out.cq;have f0:=zae aF (j:=0) rfl;have y0:=zax aF 0;have ch:=hidX aF;have cE:G.heap.size<w5.heap.size:=zab aF;clear aP aB aF d1 z1 bH;go_wp2_with fail
    refine zau ch.out ?_;intro w6 aD bs;clear f0 y0;go_meet;exact ⟨.ok r,true,M5.out.turn bs (by omega),b8.out.turned bs (by omega) (by omega),(bs.block w.heap.size (by omega)).trans ca.out,by simpa[phC] using aD,b3.out⟩
   | false=>
    go_wp2_with fail
    go_meet;refine ⟨zaD s1,false,X.out.mo,X.out.mb,X.out.rq,X.out.cq,?_⟩;have bW:=X.out.no rfl;clear bI;exact zps au.out bW
  case rest=>
   obtain ⟨s',ng,aQ⟩:=hcut;obtain ⟨w5,rfl⟩:∃ v,v=wc:=⟨wc,rfl⟩
   have aL:=hidX aQ;have cr:G.heap.size<w5.heap.size:=zab aQ.cq;have bD:=hidX (zh0 w5 pb g W c s' R aQ.mb);clear aQ bI X b1;go_upto_region 7 with (first | (go_at_call 105;refine bD.out.mono ?_;rintro e w6 ⟨U,⟨cl,cj,a7⟩,al⟩;obtain rfl:e=.returned (.string (mkS cl)):=cj;have bJ:=U.rest.size;have aD:=(U.block G.heap.size (by omega) (fun e=>by injection e;omega)).trans aL.out.cq;have d1:=zae aD (j:=1) rfl;have e1:=zax aD 1) | fail);refine zau aD ?_;intro w7 bR aW;have HP:=hidX (zsH aL.out.eq a7);obtain ⟨hd,bt⟩:∃ hd:Bool × Bs,hd=(ng,cl):=⟨_,rfl⟩
   have b4:=hidX bt;have HR:=hidX (show PlAt w w7 pb g w.heap.size G.heap.size W c R hd (stS (onS s1 phM)) (stS (onS s1 phM)) none 0 [] from ⟨(aL.out.mo.trans U).turn aW (by omega),by rw[HP.out.1];exact al.turned aW (by omega) (by have:=al.glt;omega),(aW.block w.heap.size (by omega)).trans ((U.block w.heap.size (by omega) (fun e=>by injection e;omega)).trans aL.out.rq),by rw[bt];simpa[phC] using bR,World.ownsRow_nil _ _ _ _,by simp,by unfold preL;cases onS (stS (onS s1 phM)) (zbi zaX 6) <;> rfl⟩);clear U al aD bR aW d1 e1 a7 bD bt aL;go_wp2_with fail
   go_loopw [] (fun wr=>∃ la lc M sx,PlAt w wr pb g w.heap.size G.heap.size W c R hd (stS (onS s1 phM)) sx la lc M) (fun wr=>6 - zeX G.heap.size wr)
   case atStart=>exact ⟨none,0,[],_,HR.out⟩
   case round=>
    obtain ⟨la,lc,M,sx,ab⟩:=hrel;have LS:=hidX ab;have c3:=zae ab.cq (j:=2) rfl;have b7:=ab.le;have bQ:Hid (zeX G.heap.size wr=M.length):=show _=_ from by unfold zeX;rw[c3];rfl
    have aw:=hidX (zjf wr pb g W c sx R (M.length:Int) 6 ab.mb);have cp:G.heap.size<wr.heap.size:=zab ab.cq;have cn:g<wr.heap.size:=ab.mb.glt;unfold znO at aw;clear ab HR
    cases hI:zdl (M.length:Int) 6 sx with
    | false=>
     have HE:=hidX (zoh (rd:=zaX) zmd LS.out.mb hI b7 M);rw[hI]at aw;have aM:=hidX (fun u (hu:MB u pb g W c (zb8 (M.length:Int) 6 sx) R)=>zbw u pb g W c (zb8 (M.length:Int) 6 sx) R 2 41 rel41 (by decide) (by decide) hu);clear hI;go_upto_region 10 with (first | (go_at_call 106;refine aw.out.mono ?_;rintro e w6 ⟨rfl,U,al⟩) | (go_at_call 56;refine (aM.out _ al).mono ?_;rintro e w7 ⟨Z,⟨y7,aJ,_⟩,aC⟩;obtain rfl:e=.returned (wdA y7):=aJ;unfold wdA) | fail);have bJ:=U.rest.size;have aU:=Z.rest.size;have M7:=hidX (U.trans Z);have bK:=(M7.out.block w.heap.size (by omega) (fun e=>by injection e;omega)).trans LS.out.rq;have b6:=(M7.out.block G.heap.size (by omega) (fun e=>by injection e;omega)).trans LS.out.cq;have ao:=hidX (zbq LS.out.ow M7.out aR);have cf:=hidX aC;clear U al Z aC aM aw c3;go_wp2_with (first | (refine zam (by rfl) 78 (.tmp 3) (by rfl) G.heap.size (phC hd (.slice la M.length lc)) (by rfl) 78 (0,0) b6 _ Tryz.underlying78 rfl ze1 ?_) | (refine zac (by rfl) 78 (.tmp 2) (.tmp 48) (by rfl) w.heap.size (phC hd (.slice la M.length lc)) (by rfl) (by rfl) _ 78 bK (by rfl) ze1 (zrd _ _ _ _) ?_;intro w8 cc bi) | fail);have bY:=run_loadVar_mid (P:=Tryz.prog) w8 w.heap.size 0 78 (phC hd (.slice la M.length lc)) _ (zal cc.out) Tryz.underlying78 rfl ze1;(try go_frame);refine bodyPost_ret (v:=.agg (phC hd (.slice la M.length lc)).toArray) (by simp[results,Tryz.results58,asAddr,bY]) rfl ?_;have M8:=((LS.out.mo.trans M7.out).turn bi.out (Nat.le_refl _))
     have aq:=cf.out.turned bi.out (by omega) (by omega);have bu:=zbR ao.out bi.out bK (by decide);have bU:=HE.out;rw[<- LS.out.pl]at bU;have bM:=zsp s;rw[<- bX.out]at bM;rcases zoQ bM rfl (fun y l e=>(HP.out.2 y l e).trans b4.out.symm) bU with ⟨f,h1,h2⟩ | ⟨x,l,h1,h2⟩
     ·rw[h2]at aq;exact MPost.err ⟨hd.1,mkS hd.2,M⟩ h1 M8 ⟨la,lc,rfl,bu⟩ aq
     ·rw[h2]at aq;exact MPost.good h1 M8 ⟨la,lc,rfl,bu⟩ aq
    | true=>
     rw[hI]at aw;have bC:=hidX (fun u (hu:MB u pb g W c (zb8 (M.length:Int) 6 sx) R)=>zm7 u pb g W c (zb8 (M.length:Int) 6 sx) R hu);have bV:=hidX (zmg (rd:=zaX) LS.out.mb hI);clear hI;go_upto_region 8 with (first | (go_at_call 106;refine aw.out.mono ?_;rintro e w6 ⟨rfl,U,al⟩) | fail);have bJ:=U.rest.size;have aH:=(U.block G.heap.size (by omega) (fun e=>by injection e;omega)).trans LS.out.cq;have cx:=zae aH (j:=2) rfl;have a6:=hidX aH;have ba:=hidX ((U.block w.heap.size (by omega) (fun e=>by injection e;omega)).trans LS.out.rq);have bT:=hidX (zbq LS.out.ow U aR);have bP:=hidX al;have M6:=hidX (LS.out.mo.trans U);clear U al aH aw c3;refine wp_region_noPanic ?_;refine wp_region_held_drew (S:=(fun _=>True)) (by kernel_rfl) ?_ (fun E=>?_)
     ·(try dsimp only)
      all_goals trivial
     refine tk 0 E ?_;(try simp only[pA,pZ,pS]);refine tk 2 E ?_;(try simp only[pA,pZ,pS]);refine r2 1 3 (fun K hK=>?_) fun K hK=>?_
     ·go_simp;refine hK.out _ _ (by (try dsimp only);all_goals trivial) fun I=>?_;replace E:=I;clear hK K I;(try simp only[pA,pZ,pS]);refine r1 3 fun K hK=>?_;go_simp;(go_at_call 107;refine (bC.out _ (bP.out.below ((Below.refl _ _).drew))).mono ?_;rintro e w7 ⟨Z,⟨v,aJ,bl⟩,aC⟩;obtain rfl:e=.returned (.agg #[.int .i64 v.kind,.int .i64 v.op,.string v.var,.int .i64 v.val.kind,.int .i64 v.val.num,.string v.val.sym]):=aJ;have aU:=Z.rest.size;simp only[World.drew_size']at aU;have ar:=(Z.block G.heap.size (show G.heap.size<w6.heap.size by omega) (fun e=>by injection e;omega)).trans a6.out;have c37:=zae ar (j:=2) rfl);refine hK.out _ _ (by (try dsimp only);all_goals trivial) fun I=>?_;replace E:=I;clear hK K I;(try simp only[pA,pZ,pS]);refine r1 4 fun K hK=>?_;go_simp;have O:=zHA w7;have aY:∀ o',(w7.alloc o').cell? ⟨G.heap.size,2,none⟩=some (.slice la M.length lc):=fun o'=>zaa (O.out o') c37;refine hK.out _ _ (by (try dsimp only);all_goals trivial) fun I=>?_;replace E:=I;clear hK K I;(try simp only[pA,pZ,pS]);have M7:=hidX ((M6.out.drew).trans Z);have ao:=hidX (zbq (zao bT.out ((Below.refl _ _).drew)) Z aR);have bz:w.heap.size<=w7.heap.size:=by omega
      refine r1 5 fun K hK=>?_;(refine zaq (by rfl) (.tmp 40) (.tmp 43) 76 (by rfl) w.heap.size 95 _ 6 64 Tryz.underlying76 ziP (by rfl) (by omega) _ M.length _ (by rfl) (zao ao.out (O.out _)) (some ⟨_,0,none⟩) 1 1 (by rfl) (tmC v) (by rfl) (fun e=>by cases e) (zas _ _ _ _ (by simp)) (zca v) (by unfold maxLen;omega) (by omega) (by simp;omega) ?_;intro a8 c8 w8 bm ag ce);refine hK.out _ _ (by (try dsimp only);all_goals trivial) fun I=>?_;replace E:=I;clear hK K I;(try simp only[pA,pZ,pS]);have aj:∀ k,(Value.slice la M.length lc).ownBlock=some k->w.heap.size<=k:=fun k hk=>(ao.out.lt k hk).1;have TY:=hidX (fun o' g hg=>zaA (zao ao.out (O.out o')) (k:=g) hg);have M8:=hidX ((M7.out.trans (MkO.of_below (O.out _))).grown ag.out aj);have ay:=hidX (fun o'=>aC.below (O.out o'));have aq:=hidX ((ay.out _).blocks (ag.out.block pb (ay.out _).lt (fun e=>by have:=aj pb e.symm;omega)) (ag.out.block g (ay.out _).glt (fun e=>by have:=aj g e.symm;omega)));have bf:=hidX (fun o'=>((O.out o').block G.heap.size (by omega)).trans ar);have ah:=hidX (zaL (bf.out _) ag.out (TY.out _) (by decide));have bp:=hidX (fun o'=>((O.out o').block w.heap.size (by omega)).trans ((Z.block w.heap.size (show w.heap.size<w6.heap.size by omega) (fun e=>by injection e;omega)).trans ba.out));have bo:=hidX (zaL (bp.out _) ag.out (TY.out _) (by decide));have f3:=zae ah.out (j:=2) rfl;have g3:=zax ah.out 2;have bZ:G.heap.size<w8.heap.size:=zab ah.out;refine tk 6 E ?_;(try simp only[pA,pZ,pS]);refine r1 7 fun K hK=>?_;go_simp;refine hK.out _ _ (by (try dsimp only);all_goals trivial) fun I=>?_;replace E:=I;clear hK K I;(try dsimp only);refine wpAnyH_done (by kernel_rfl) ?_ _;refine NoPanic.normal ?_;clear E;refine zau ah.out ?_;intro w9 ae af;replace ae:w9.heap[G.heap.size]?=some (.cells (phC hd (.slice a8 (M.length+1) c8)).toArray 78 (0,0)):=by
       rw[ae];simp[phC]
      obtain ⟨b0,aK⟩:=bV.out v bl M;have L9:=hidX (show PlAt w w9 pb g w.heap.size G.heap.size W c R hd (stS (onS s1 phM)) (stS (onS (zb8 (M.length:Int) 6 sx) zaX)) a8 c8 (M ++ [v]) from ⟨M8.out.turn af (by omega),aq.out.turned af (by omega) (by omega),(af.block w.heap.size (by omega)).trans bo.out,by simpa using ae,by simpa using zbR bm.out af ah.out (by decide),by simp;omega,by rw[LS.out.pl,aK];simp⟩);have bj:Hid (zeX G.heap.size w9=M.length+1):=show _=_ from by unfold zeX;rw[zae ae (j:=2) rfl];rfl
      clear ae af f3 g3 aK;go_wp2_with fail
      go_roundw
      case rel=>exact ⟨a8,c8,M ++ [v],_,L9.out⟩
      case measure=>
       change 6 - zeX G.heap.size w9<6 - zeX G.heap.size wr;rw[bj.out,bQ.out];omega
     go_simp;(go_at_call 107;refine (bC.out _ (bP.out.below ((Below.refl _ _).drew))).mono ?_;rintro e w7 ⟨Z,⟨v,aJ,bl⟩,aC⟩;obtain rfl:e=.returned (.agg #[.int .i64 v.kind,.int .i64 v.op,.string v.var,.int .i64 v.val.kind,.int .i64 v.val.num,.string v.val.sym]):=aJ;have aU:=Z.rest.size;simp only[World.drew_size']at aU;have ar:=(Z.block G.heap.size (show G.heap.size<w6.heap.size by omega) (fun e=>by injection e;omega)).trans a6.out;have c37:=zae ar (j:=2) rfl);refine hK.out _ _ (by (try dsimp only);all_goals trivial) fun I=>?_;replace E:=I;clear hK K I;(try simp only[pA,pZ,pS]);refine r2 1 4 (fun K hK=>?_) fun K hK=>?_
     focus
      go_simp;refine hK.out _ _ (by (try dsimp only);all_goals trivial) fun I=>?_;replace E:=I;clear hK K I;(try simp only[pA,pZ,pS]);refine r1 4 fun K hK=>?_;go_simp;have O:=zHA w7;have aY:∀ o',(w7.alloc o').cell? ⟨G.heap.size,2,none⟩=some (.slice la M.length lc):=fun o'=>zaa (O.out o') c37
     rotate_left
     focus
      go_simp;have O:=zHA w7;have aY:∀ o',(w7.alloc o').cell? ⟨G.heap.size,2,none⟩=some (.slice la M.length lc):=fun o'=>zaa (O.out o') c37;refine hK.out _ _ (by (try dsimp only);all_goals trivial) fun I=>?_;replace E:=I;clear hK K I;(try simp only[pA,pZ,pS]);refine r1 1 fun K hK=>?_;go_simp
     rotate_left
     all_goals
      refine hK.out _ _ (by (try dsimp only);all_goals trivial) fun I=>?_;replace E:=I;clear hK K I;(try simp only[pA,pZ,pS]);have M7:=hidX ((M6.out.drew).trans Z);have ao:=hidX (zbq (zao bT.out ((Below.refl _ _).drew)) Z aR);have bz:w.heap.size<=w7.heap.size:=by omega
      refine r1 5 fun K hK=>?_;(refine zaq (by rfl) (.tmp 40) (.tmp 43) 76 (by rfl) w.heap.size 95 _ 6 64 Tryz.underlying76 ziP (by rfl) (by omega) _ M.length _ (by rfl) (zao ao.out (O.out _)) (some ⟨_,0,none⟩) 1 1 (by rfl) (tmC v) (by rfl) (fun e=>by cases e) (zas _ _ _ _ (by simp)) (zca v) (by unfold maxLen;omega) (by omega) (by simp;omega) ?_;intro a8 c8 w8 bm ag ce);refine hK.out _ _ (by (try dsimp only);all_goals trivial) fun I=>?_;replace E:=I;clear hK K I;(try simp only[pA,pZ,pS]);have aj:∀ k,(Value.slice la M.length lc).ownBlock=some k->w.heap.size<=k:=fun k hk=>(ao.out.lt k hk).1;have TY:=hidX (fun o' g hg=>zaA (zao ao.out (O.out o')) (k:=g) hg);have M8:=hidX ((M7.out.trans (MkO.of_below (O.out _))).grown ag.out aj);have ay:=hidX (fun o'=>aC.below (O.out o'));have aq:=hidX ((ay.out _).blocks (ag.out.block pb (ay.out _).lt (fun e=>by have:=aj pb e.symm;omega)) (ag.out.block g (ay.out _).glt (fun e=>by have:=aj g e.symm;omega)));have bf:=hidX (fun o'=>((O.out o').block G.heap.size (by omega)).trans ar);have ah:=hidX (zaL (bf.out _) ag.out (TY.out _) (by decide));have bp:=hidX (fun o'=>((O.out o').block w.heap.size (by omega)).trans ((Z.block w.heap.size (show w.heap.size<w6.heap.size by omega) (fun e=>by injection e;omega)).trans ba.out));have bo:=hidX (zaL (bp.out _) ag.out (TY.out _) (by decide));have f3:=zae ah.out (j:=2) rfl;have g3:=zax ah.out 2;have bZ:G.heap.size<w8.heap.size:=zab ah.out;refine tk 6 E ?_;(try simp only[pA,pZ,pS]);refine r1 7 fun K hK=>?_;go_simp;refine hK.out _ _ (by (try dsimp only);all_goals trivial) fun I=>?_;replace E:=I;clear hK K I;(try dsimp only);refine wpAnyH_done (by kernel_rfl) ?_ _;refine NoPanic.normal ?_;clear E;refine zau ah.out ?_;intro w9 ae af;replace ae:w9.heap[G.heap.size]?=some (.cells (phC hd (.slice a8 (M.length+1) c8)).toArray 78 (0,0)):=by
       rw[ae];simp[phC]
      obtain ⟨b0,aK⟩:=bV.out v bl M;have L9:=hidX (show PlAt w w9 pb g w.heap.size G.heap.size W c R hd (stS (onS s1 phM)) (stS (onS (zb8 (M.length:Int) 6 sx) zaX)) a8 c8 (M ++ [v]) from ⟨M8.out.turn af (by omega),aq.out.turned af (by omega) (by omega),(af.block w.heap.size (by omega)).trans bo.out,by simpa using ae,by simpa using zbR bm.out af ah.out (by decide),by simp;omega,by rw[LS.out.pl,aK];simp⟩);have bj:Hid (zeX G.heap.size w9=M.length+1):=show _=_ from by unfold zeX;rw[zae ae (j:=2) rfl];rfl
      clear ae af f3 g3 aK;go_wp2_with fail
      go_roundw
      case rel=>exact ⟨a8,c8,M ++ [v],_,L9.out⟩
      case measure=>
       change 6 - zeX G.heap.size w9<6 - zeX G.heap.size wr;rw[bj.out,bQ.out];omega
end Go.Proofs.YtjjjagepnnbebaaGreatDoor
namespace Go.Proofs.YtjjjagepnnbebaaGreatDoor
open Go.RowKit
def RM(nm sl pv ev av bv:Value):List Value:=[nm,sl,pv,ev,av,bv]
theorem MB.cellR{w:World}{pb g j:Nat}{W:List Wd}{c:Nat}{s:Ps}{R:List Value}{v:Value}(h:MB w pb g W c s R)(hj:R[j]?=some v):w.cell? ⟨pb,j+4,none⟩=some v:=by
 obtain ⟨k,G,pos,E,_⟩:=h.st;exact zae E (j:=j+4) (by simpa using hj)
theorem MB.frozR{w:World}{pb g:Nat}{W:List Wd}{c:Nat}{s:Ps}{R:List Value}(h:MB w pb g W c s R)(j:Nat):w.frozen? ⟨pb,j,none⟩=false:=by
 obtain ⟨k,G,pos,E,_⟩:=h.st;exact zax E j
theorem MB.setR{w w':World}{pb g j:Nat}{W:List Wd}{c:Nat}{s:Ps}{R:List Value}{v:Value}(h:MB w pb g W c s R)(hv:w'=w.setCell ⟨pb,j+4,none⟩ v):MB w' pb g W c s (R.set j v):=by
 subst hv;obtain ⟨k,E,pos,G,hk,hs⟩:=h.st;refine h.to (MkO.set _) ⟨k,E,pos,?_,hk,hs⟩;have:=zap (i:=j+4) G v;rw[this];simp
structure MX (w:World) (B pb g:Nat) (W:List Wd) (c:Nat) (s:Ps) (nm sl pv av:Value) (es:ES) (ea:Option Addr) (ec:Nat) (bg:Int):Prop where
 mb:MB w pb g W c s (RM nm sl pv (.slice ea es.1.length ec) av (.int .i64 bg))
 hb:∀ l,s=.ok l->bg=(es.2:Int)
 ow:w.ownsRow B 97 8 (.slice ea es.1.length ec) es.1.length (es.1.flatMap exC)
 lt:pb<B
 gl:g<B
 le:B<=w.heap.size
theorem MX.below{w w':World}{B pb g:Nat}{W:List Wd}{c:Nat}{s:Ps}{nm sl pv av:Value}{es:ES}{ea:Option Addr}{ec:Nat}{bg:Int}(h:MX w B pb g W c s nm sl pv av es ea ec bg)(hb:Below w.heap.size w w'):MX w' B pb g W c s nm sl pv av es ea ec bg:=⟨h.mb.below hb,h.hb,zao h.ow hb,h.lt,h.gl,Nat.le_trans h.le hb.size⟩
theorem MX.mko{w w':World}{B pb g:Nat}{W:List Wd}{c:Nat}{s s':Ps}{nm sl pv av:Value}{es:ES}{ea:Option Addr}{ec:Nat}{bg:Int}(h:MX w B pb g W c s nm sl pv av es ea ec bg)(hm:MkO (some pb) w w')(hp:MB w' pb g W c s' (RM nm sl pv (.slice ea es.1.length ec) av (.int .i64 bg)))(E:∀ l,s'=.ok l->∃ l',s=.ok l'):MX w' B pb g W c s' nm sl pv av es ea ec bg:=
 ⟨hp,fun l e=>by obtain ⟨l',G⟩:=E l e;exact h.hb l' G,zbq h.ow hm h.lt,h.lt,h.gl,Nat.le_trans h.le hm.rest.size⟩
theorem MX.turned{w w':World}{B pb g b:Nat}{W:List Wd}{c:Nat}{s:Ps}{nm sl pv av:Value}{es:ES}{ea:Option Addr}{ec:Nat}{bg:Int}(h:MX w B pb g W c s nm sl pv av es ea ec bg)(ht:Turned w w' b)(h1:B<=b)(E:∀ k,obE es ea ec=some k->k≠b):MX w' B pb g W c s nm sl pv av es ea ec bg:=
 ⟨h.mb.turned ht (by have:=h.lt;omega) (by have:=h.gl;omega),h.hb,zar h.ow fun k hk=>ht.block k (E k hk),h.lt,h.gl,by rw[ht.size];exact h.le⟩
theorem zgn{α:Type}{s:Ps}{p:List Wd->Px α}:∀ l,stS (onS s p)=.ok l->∃ l',s=.ok l':=by
 intro l h
 cases s with
 | error f=>cases h
 | ok l'=>exact ⟨l',rfl⟩
theorem zdu{s:Ps}:∀ l,zaD s=.ok l->∃ l',s=.ok l':=by
 intro l h
 cases s with
 | error f=>cases h
 | ok l'=>exact ⟨l',rfl⟩
def MEPost{α:Type}(w:World)(B pb g:Nat)(W:List Wd)(c:Nat)(nm sl pv av:Value)(ob:Option Nat)(Q:α->Ending->World->Prop)(r:Px (α × ES))(e:Ending)(w':World):Prop:=MkX pb ob w w'/\∃ x es ea ec bg,Q x e w'/\MX w' B pb g W c (stS r) nm sl pv av es ea ec bg/\RowX ob (obE es ea ec) w.heap.size/\∀ y l,r=.ok (y,l)->y=(x,es)
theorem MEPost.err{α:Type}{w w':World}{B pb g:Nat}{W:List Wd}{c:Nat}{nm sl pv av:Value}{ob:Option Nat}{Q:α->Ending->World->Prop}{r:Px (α × ES)}{e:Ending}{f:Flt}{es:ES}{ea:Option Addr}{ec:Nat}{bg:Int}(x:α)(hr:r=.error f)(hm:MkX pb ob w w')(E:Q x e w')(hs:MX w' B pb g W c (.error f) nm sl pv av es ea ec bg)(ho:RowX ob (obE es ea ec) w.heap.size):MEPost w B pb g W c nm sl pv av ob Q r e w':=by
 subst hr;exact ⟨hm,x,es,ea,ec,bg,E,hs,ho,fun y l h=>by cases h⟩
def znQ(f:Nat):Prop:=∀ (w:World) (B pb g:Nat) (W:List Wd) (c:Nat) (s:Ps) (nm sl pv av:Value) (es:ES) (ea:Option Addr) (ec:Nat) (bg d:Int) (k:Nat),MX w B pb g W c s nm sl pv av es ea ec bg->0<=d->d+(f:Int)=20->(∀ l,s=.ok l->es.1.length+k<=es.2/\es.2<=60)->Calls Tryz.prog 148 #[.pointer (some ⟨pb,0,none⟩),.int .i64 d] w (MEPost w B pb g W c nm sl pv av (obE es ea ec) Rint (onS s (zaw f es)))
def eS2(s:Ps):Ps:=if zbx s=2∨zbx s=0 then zdf 3 (zaD s) else zaD s
def eS3(s:Ps)(bg:Int):Ps:=if 60<=bg then zdf 4 (eS2 s) else eS2 s
theorem zi7{s:Ps}{bg:Int}:∀ l,eS3 s bg=.ok l->∃ l',s=.ok l':=by
 intro l h
 cases s with
 | error f=>
  unfold eS3 eS2 at h
  repeat' split at h
  all_goals cases h
 | ok l'=>exact ⟨l',rfl⟩
theorem zsl{w:World}{pb g:Nat}{W:List Wd}{c:Nat}{s:Ps}{R:List Value}{f:Nat}{es:ES}{bg:Int}{e:Flt}(X:MB w pb g W c s R)(hb:∀ l,s=.ok l->bg=(es.2:Int))(h:eS3 s bg=.error e):onS s (zaw f es)=.error e:=by
 cases s with
 | error E=>
  have:eS3 (.error E) bg=.error E:=by
   unfold eS3 eS2
   repeat' split
   all_goals rfl
  rw[this]at h;injection h with h;rw[h];rfl
 | ok l=>
  have O:=hb l rfl;subst O;obtain ⟨x,r,rfl,hx,_⟩:=X.head;simp only[onS]
  cases hr:zaj (x :: r) with
  | error E=>
   have e1:eS3 (.ok (x :: r)) (es.2:Int)=.error E:=by
    have e2:eS2 (.ok (x :: r))=.error E:=by
     unfold eS2;rw[(zaY hr).1,(zaY hr).2,if_neg (by decide)]
    unfold eS3;rw[e2];split <;> rfl
   rw[e1]at h;injection h with h;subst h;refine zdc ?_;unfold zaW;rw[hr]
  | ok p=>
   obtain ⟨y,Z⟩:=p;obtain ⟨rfl,_⟩:=za8 hr;unfold eS3 eS2 at h;rw[(look_ok hr).1,(look_ok hr).2]at h;by_cases G:y.kind=2∨y.kind=0
   ·rw[if_pos G]at h;have hp:pkW y=41∨pkW y=0:=G.imp (rel41 y hx).1 (zdU hx).2.2.2.2.2.1;have U:(3,y.pos)=e:=by
     split at h
     ·injection h
     injection h
    subst U;have I:zaW (es.2:Int) 60 (y :: r)=.ok ((),y :: r):=by
     unfold zaW;rw[hr];simp only;rw[if_neg (by omega)]
    exact zcy I hr (by omega) (by omega) (by omega)
   rw[if_neg G]at h;by_cases h60:(60:Int)<=(es.2:Int)
   ·rw[if_pos h60]at h;injection h with h;subst h;refine zdc ?_;unfold zaW;rw[hr];simp only;rw[if_pos ⟨h60,fun e=>G (.inl ((rel41 y hx).2 e)),fun e=>G (.inr ((zdU hx).2.2.2.2.2.2 e))⟩];rfl
   rw[if_neg h60]at h
   cases h
theorem zrH{w:World}{pb g:Nat}{W:List Wd}{c:Nat}{s:Ps}{R:List Value}{es:ES}{bg:Int}{l:List Wd}(U:MB w pb g W c s R)(hb:∀ l,s=.ok l->bg=(es.2:Int))(h:eS3 s bg=.ok l):∃ x r,s=.ok (x :: r)/\l=x :: r/\zaj (x :: r)=.ok (x,r)/\x.kind≠2/\x.kind≠0/\zbx s=x.kind/\es.2<60/\bg=(es.2:Int)/\zaW (es.2:Int) 60 (x :: r)=.ok ((),x :: r)/\WdOk x/\x.text.length<=20000:=by
 obtain ⟨l',rfl⟩:=zi7 l h;have I:=hb l' rfl;subst I;obtain ⟨x,r,rfl,hx,hl⟩:=U.head
 cases hr:zaj (x :: r) with
 | error O=>
  have e2:eS2 (.ok (x :: r))=.error O:=by
   unfold eS2;rw[(zaY hr).1,(zaY hr).2,if_neg (by decide)]
  unfold eS3 at h;rw[e2]at h;split at h <;> cases h
 | ok p=>
  obtain ⟨y,X⟩:=p;obtain ⟨rfl,G⟩:=za8 hr;unfold eS3 eS2 at h;rw[(look_ok hr).1,(look_ok hr).2]at h;by_cases E:y.kind=2∨y.kind=0
  ·rw[if_pos E]at h;split at h <;> cases h
  rw[if_neg E]at h;by_cases h60:(60:Int)<=(es.2:Int)
  ·rw[if_pos h60]at h
   cases h
  rw[if_neg h60]at h;injection h with h;have hn:zaj (y :: r)=.ok (y,r):=by rw[hr,G,if_neg (fun e=>E (.inr e))]
  refine ⟨y,r,rfl,h.symm,hn,fun e=>E (.inl e),fun e=>E (.inr e),(look_ok hr).1,by omega,rfl,?_,hx,hl⟩;unfold zaW;rw[hr];simp only;rw[if_neg (fun e=>h60 e.1)]
theorem zr6{x:Wd}{r:List Wd}{f:Nat}{es:ES}(hx:WdOk x)(hn:zaj (x :: r)=.ok (x,r))(hb:zaW (es.2:Int) 60 (x :: r)=.ok ((),x :: r))(O:x.kind≠4)(h1:x.kind≠1):zaw f es (x :: r)=andP (pVal (x :: r)) fun v l1=>.ok (((es.1.length:Int),(es.1 ++ [⟨0,0,mkS [],v,0,0⟩],es.2+1)),l1):=by
 have I:pkW x≠63:=fun e=>O ((rel63 x hx).2 e);have G:pkW x≠40:=fun e=>h1 ((rel40 x hx).2 e);by_cases hp:pkW x=48∨pkW x=97
 ·have E:pVal (x :: r)=.ok (wVal (pkW x) x.num (ptW x),r):=by simp only[pVal,hn,if_pos hp]
  rw[zcw hb hn hp,E];rfl
 have E:pVal (x :: r)=.error (3,x.pos):=by simp only[pVal,hn,if_neg hp]
 rw[zcy hb hn hp I G,E];rfl
theorem zsD{f:Nat}{es G U:ES}{r:List Wd}{t:Bs}{i j:Int}{X Z:Ps}(hg:zdT r)(ht:∀ y l,oneM 6 arTx r=.ok (y,l)->y=t)(E:X=stS (onS (stS (oneM 6 arTx r)) (zaw f es)))(h1:∀ y l,onS (stS (oneM 6 arTx r)) (zaw f es)=.ok (y,l)->y=(i,G))(I:Z=stS (onS X (zaw f G)))(h2:∀ y l,onS X (zaw f G)=.ok (y,l)->y=(j,U)) :
  (∃ e,pOp f es r=.error e/\onS Z (zai 41)=.error e)∨∃ y l b,t=[b]/\pOp f es r=.ok ((⟨2,((b:UInt8).toNat:Int),mkS [],zVr,i,j⟩,U),l)/\onS Z (zai 41)=.ok (y,l):=by
 rw[zrP hg]at ht E h1;unfold pOp
 cases hk:zai 43 r with
 | error e=>
  rw[hk]at E;subst E;subst I;exact .inl ⟨e,rfl,rfl⟩
 | ok q=>
  obtain ⟨o,l2⟩:=q;rw[hk,zak]at ht E h1;obtain rfl:=ht _ _ rfl;obtain ⟨b,hb⟩:=zhX (ziT hk).2;simp only[stS,onS]at E h1;rw[zak]
  cases he:zaw f es l2 with
  | error e=>
   rw[he]at E;subst E;subst I;exact .inl ⟨e,rfl,rfl⟩
  | ok q=>
   obtain ⟨p,l3⟩:=q;obtain rfl:=h1 _ _ he;rw[he]at E;simp only at E;subst E;simp only[onS]at I h2;rw[zak];simp only
   cases O:zaw f G l3 with
   | error e=>
    rw[O]at I;subst I;exact .inl ⟨e,rfl,rfl⟩
   | ok q=>
    obtain ⟨p,l4⟩:=q;obtain rfl:=h2 _ _ O;rw[O]at I;simp only[stS]at I;subst I;simp only[onS];rw[zak]
    cases zai 41 l4 with
    | error e=>exact .inl ⟨e,rfl,rfl⟩
    | ok q=>exact .inr ⟨q.1,q.2,b,hb,by rw[hb];rfl,rfl⟩
end Go.Proofs.YtjjjagepnnbebaaGreatDoor
namespace Go.Proofs.YtjjjagepnnbebaaGreatDoor
open Go.RowKit
attribute [local go_sem ↓] Go.wp_at_zero Go.wp_at_succ
structure MxB (w wx:World) (B pb g eb:Nat) (W:List Wd) (c:Nat) (nm sl pv av:Value) (ob:Option Nat) (r:Px (Int × ES)) (sx:Ps) (x:Ex) (s':ES) (ea:Option Addr) (ec:Nat) (bg:Int):Prop where
 mo:MkX pb ob w wx
 st:MX wx B pb g W c sx nm sl pv av s' ea ec bg
 rw':RowX ob (obE s' ea ec) w.heap.size
 bx:wx.heap[eb]?=some (.cells (exC x).toArray 97 (0,0))
 ne:∀ k,obE s' ea ec=some k->k≠eb
 le:s'.1.length<=60
 es:stS r=sx
 pe:∀ y l,r=.ok (y,l)->y=((s'.1.length:Int),(s'.1 ++ [x],s'.2))
def zE:Ex:=⟨0,0,mkS [],zVr,0,0⟩
theorem zly(f:Nat)(hO:∀ f',f=f'+1->znQ f'):znQ f:=by
 intro w B pb g W c s nm sl pv av es ea ec bg d k h du hd hk;have HP:=hidX h;have df:=h.mb.lt;have db:=h.mb.glt;have cY:=h.mb.far;have c6:=h.mb.caps;have cZ:=h.mb.len;have dt:=h.le;have aF:=h.lt;have bL:=h.gl;have HO:=hidX hO;have HK:=hidX hk;have cN:=hidX (fun k (hk:obE es ea ec=some k)=>(HP.out.ow.lt k hk).2);have HD:=hidX hd;obtain ⟨k0,x0,dd,c0,c1,ao,cj⟩:=h.mb.now;have y0:=ao 0 _ rfl;have y1:=ao 1 _ rfl;have y2:=ao 2 _ rfl;have y3:=ao 3 _ rfl;simp only[Nat.add_zero]at y0;have cr:=hidX cj;clear h hO hk ao cj hd;go_enter Tryz.func148,Tryz.ntmps148;go_upto_region 1 with fail
 go_region;refine zeV ?_;intro w2 bw bG;have P2:=hidX (HP.out.below bG);have M2:=hidX (MkO.of_below bG:MkO (some pb) w w2);have cC:w.heap.size<w2.heap.size:=zab bw;have cf:=hidX bw;have bd:=hidX (zch w2 pb g W c s _ P2.out.mb);obtain ⟨K,hK⟩:∃ K,K=zbx s:=⟨_,rfl⟩
 unfold zco at bd;rw[<- hK]at bd;have bi:=hidX hK;clear c0 c1 y0 y1 y2 y3 bG bw hK;go_upto_region 3 with (first | (go_at_call 21;refine bd.out.mono ?_;rintro e w3 ⟨rfl,bO,cp⟩) | fail);have m3:=hidX bO;have bB:=hidX cp;have s3:=bO.rest.size;clear bO cp bd
 go_cut [28] (fun v wx=>∃ b:Bool,v=.bool b/\(b=true ↔ (K=2∨K=0))/\wx=w3)
 case first=>
  by_cases h2:K=2
  ·have e1:(K==2)=true:=by simp[h2]
   go_wp2_with fail
   go_meet;exact ⟨true,rfl,by simp[h2],rfl⟩
  ·have e1:(K==2)=false:=by simp[h2]
   by_cases h0:K=0
   ·have e2:(K==0)=true:=by simp[h0]
    go_wp2_with fail
    go_meet;exact ⟨true,rfl,by simp[h0],rfl⟩
   ·have e2:(K==0)=false:=by simp[h0]
    go_wp2_with fail
    go_meet;exact ⟨false,rfl,by simp[h2,h0],rfl⟩
 case rest=>
  obtain ⟨b1,bu,ay,hw⟩:=hcut;subst bu;subst hw;obtain ⟨w3,rfl⟩:∃ v,v=wc:=⟨wc,rfl⟩
  go_upto_if 28 with fail
  go_cut [] (fun wx=>MkO (some pb) w3 wx/\MB wx pb g W c (eS2 s) (RM nm sl pv (.slice ea es.1.length ec) av (.int .i64 bg)))
  case first=>
   cases b1 with
   | true=>
    have HF:=hidX (zbY w3 pb g W c (zaD s) _ 3 (by decide) bB.out);have au:Hid (eS2 s=zdf 3 (zaD s)):=show _=_ from by unfold eS2;rw[if_pos (by rw[<- bi.out];exact ay.1 rfl)]
    go_wp2_with (first | (go_at_call 22;refine HF.out.mono ?_;rintro e w4 ⟨rfl,aO,aM⟩) | fail);go_meet;exact ⟨aO,by rw[au.out];exact aM⟩
   | false=>
    have au:Hid (eS2 s=zaD s):=show _=_ from by unfold eS2;rw[if_neg (by rw[<- bi.out];exact fun e=>by have:=ay.2 e;cases this)]
    go_wp2_with fail
    go_meet;exact ⟨MkO.refl _ _,by rw[au.out];exact bB.out⟩
  case rest=>
   obtain ⟨aO,aM⟩:=hcut;obtain ⟨w4,rfl⟩:∃ v,v=wc:=⟨wc,rfl⟩
   have m4:=hidX (m3.out.trans aO);have bJ:=hidX aM;have c9:w4.cell? ⟨pb,9,none⟩=some (.int .i64 bg):=aM.cellR (j:=5) rfl;have s4:=aO.rest.size;clear aO aM bB ay;go_upto_region 5 with fail
   go_cut [35] (fun v wx=>∃ b:Bool,v=.bool b/\(b=true ↔ 60<=bg)/\wx=w4)
   case first=>
    by_cases h60:60<=bg
    ·go_wp2_with fail
     go_meet;exact ⟨true,by simp,by simp[h60],rfl⟩
    ·go_wp2_with fail
     go_meet;exact ⟨false,by simp,by simp[h60],rfl⟩
   case rest=>
    obtain ⟨b1,bu,ay,hw⟩:=hcut;subst bu;subst hw;obtain ⟨w4,rfl⟩:∃ v,v=wc:=⟨wc,rfl⟩
    go_upto_if 35 with fail
    go_cut [] (fun wx=>MkO (some pb) w4 wx/\MB wx pb g W c (eS3 s bg) (RM nm sl pv (.slice ea es.1.length ec) av (.int .i64 bg)))
    case first=>
     cases b1 with
     | true=>
      have HF:=hidX (zbY w4 pb g W c (eS2 s) _ 4 (by decide) bJ.out);have au:Hid (eS3 s bg=zdf 4 (eS2 s)):=show _=_ from by unfold eS3;rw[if_pos (ay.1 rfl)]
      go_wp2_with (first | (go_at_call 22;refine HF.out.mono ?_;rintro e w5 ⟨rfl,aT,aq⟩) | fail);go_meet;exact ⟨aT,by rw[au.out];exact aq⟩
     | false=>
      have au:Hid (eS3 s bg=eS2 s):=show _=_ from by unfold eS3;rw[if_neg (fun e=>by have:=ay.2 e;cases this)]
      go_wp2_with fail
      go_meet;exact ⟨MkO.refl _ _,by rw[au.out];exact bJ.out⟩
    case rest=>
     obtain ⟨aT,aq⟩:=hcut;obtain ⟨w5,rfl⟩:∃ v,v=wc:=⟨wc,rfl⟩
     have P5:=hidX (P2.out.mko (m4.out.trans aT) aq zi7);have m5:=hidX (m4.out.trans aT);have M5:=hidX (M2.out.trans m5.out);have c9:w5.cell? ⟨pb,9,none⟩=some (.int .i64 bg):=aq.cellR (j:=5) rfl;have z9:=aq.frozR 9;have s5:=m5.out.rest.size;have bZ:=hidX ((m5.out.block w.heap.size cC (fun e=>by injection e;omega)).trans cf.out);have cX:=aq.lt;clear aT aq bJ ay m4 m3 m5 M2 P2 cf;go_upto_region 8 with fail
     refine zb5 ?_;intro w6 a6;obtain ⟨al,aK⟩:∃ b,b=wrap64 (bg+1):=⟨_,rfl⟩
     rw[<- aK]at a6;have b9:=P5.out.mb.setR (j:=5) a6;have m6:MkO (some pb) w5 w6:=by rw[a6];exact MkO.set _
     have P6:=hidX (show MX w6 B pb g W c (eS3 s bg) nm sl pv av (es.1,es.2+1) ea ec al from ⟨b9,fun l e=>by
      obtain ⟨x,r,_,_,_,_,_,_,cG,bQ,_⟩:=zrH HP.out.mb HP.out.hb e;show al=((es.2+1:Nat):Int);rw[aK,bQ];unfold wrap64;omega,zbq P5.out.ow m6 aF,aF,bL,Nat.le_trans P5.out.le m6.rest.size⟩)
     have M6:=hidX (M5.out.trans m6);have s6:=m6.rest.size;have cz:=hidX ((m6.block w.heap.size (by omega) (fun e=>by injection e;omega)).trans bZ.out);clear a6 b9 m6 c9 z9 P5 M5 bZ aK
     go_upto_block 0 with fail
     refine zaf ?_;intro w7 bf bP;have s7:w6.heap.size<w7.heap.size:=zab bP;have P7:=hidX (P6.out.below bf);have M7:=hidX (MkX.of (M6.out.trans (MkO.of_below bf)):MkX pb (obE es ea ec) w w7);have aV:=hidX ((bf.block w.heap.size (by omega)).trans cz.out);have aI:=hidX (show w7.heap[w6.heap.size]?=some (.cells (exC zE).toArray 97 (0,0)) from bP);clear bf bP P6 M6 cz
     go_cut [] (fun wx=>∃ sx x' s' ea' ec' bg',MxB w wx B pb g w6.heap.size W c nm sl pv av (obE es ea ec) (onS s (zaw f es)) sx x' s' ea' ec' bg')
     case first=>
      have c2:=P7.out.mb.code
      cases aH:eS3 s bg with
      | error e=>
       have HT:=hidX (zsl (f:=f) HP.out.mb HP.out.hb aH);rw[aH]at P7 c2;have cO:=P7.out.mb.code_err;simp only[ze5]at c2;clear aH;go_wp2_with fail
       go_ret;exact MEPost.err 0 HT.out M7.out rfl P7.out (.inl rfl)
      | ok l=>
       obtain ⟨x,r,hs,hl,hn,dl,ce,cd,cG,bQ,b5,aJ,cR⟩:=zrH HP.out.mb HP.out.hb aH;subst hl;rw[aH]at P7 c2;simp only[ze5]at c2;have cM:x0=x:=cr.out x r hs;subst cM;have az:K=x0.kind:=bi.out.trans cd;have HS:=hidX hs;have HN:=hidX hn;have a7:=hidX b5;have HX:Hid (x0.kind≠0):=ce;have cF:es.1.length<=59:=by have:=(HK.out _ hs);omega
       have bh:=hidX (HK.out _ hs);obtain ⟨hq,dp,ao,cS,cI⟩:=P7.out.mb.cells;have d1:=zae hq (j:=1) rfl;have z1:=zax hq 1;have bj:=hidX hq;have ar:∀ k,obE (es.1,es.2+1) ea ec=some k->k<w.heap.size:=fun k hk=>cN.out k hk;clear hs hn b5 hq ao cS cI aH cd bQ;by_cases h4:K=4
       ·have HT:Hid (onS s (zaw f es)=.ok (((es.1.length:Int),(es.1 ++ [⟨1,0,mkS x0.text.tail,zVr,0,0⟩],es.2+1)),r)):=show _=_ from by
         rw[HS.out];exact (zdF (f:=f) a7.out HN.out ((rel63 x0 aJ).1 (by omega))).trans (by rw[zkM aJ (by omega)])
        have bz:=zir aJ (by omega);have cU:=hidX (ziw bz);have hsz:0<(mkS x0.text).size:=by rw[zgM];exact bz
        have c7:(mkS x0.text).size<=20000:=by rw[zgM];exact cR
        clear az bz;subst h4;go_upto_region 14 with fail
        refine zau bj.out ?_;intro w8 G O;replace G:w8.heap[pb]?=some (.cells (.slice (some ⟨g,0,none⟩) W.length c :: .int .i64 ((kOf W r+1:Nat):Int) :: .int .i64 0 :: .int .i64 ((0:Nat):Int) :: RM nm sl pv (.slice ea es.1.length ec) av (.int .i64 al)).toArray 64 (0,0)):=by
         rw[G];simp
        have ah:=P7.out.mb.next HX.out O G;have P8:=hidX (P7.out.mko O.mko ah (fun l e=>⟨_,rfl⟩));have M8:=hidX (M7.out.trans (MkX.of O.mko) (.inl rfl));have s8:=O.size;have bC:=hidX ((O.block w.heap.size (by omega)).trans aV.out);have aD:=hidX ((O.block w6.heap.size (by omega)).trans aI.out);have cV:w7.heap.size<=w8.heap.size:=Nat.le_of_eq s8.symm;clear G O ah d1 z1 c2 bj P7 M7 aV aI s8;have g0:=zae aD.out (j:=0) rfl;have q0:=zax aD.out 0;go_upto_region 15 with fail
        refine zau aD.out ?_;intro w9 aG ae;have P9:=hidX (P8.out.turned ae (by omega) (fun k hk=>by have:=ar k hk;omega));have M9:=hidX (M8.out.turn ae (by omega));have b2:=zae (L:=[_,_,_,_]) ((ae.block w.heap.size (by omega)).trans bC.out) (j:=2) rfl;have g2:=zae aG (j:=2) rfl;have q2:=zax aG 2;have dg:w6.heap.size<w9.heap.size:=zab aG;clear ae g0 q0;go_wp2_with fail
        refine zau aG ?_;intro b6 cv bp;clear b2 g2 q2;go_meet;exact ⟨.ok r,⟨1,0,mkS x0.text.tail,zVr,0,0⟩,(es.1,es.2+1),ea,ec,al,M9.out.turn bp (by omega),P9.out.turned bp (by omega) (fun k hk=>by have:=ar k hk;omega),.inl rfl,by rw[<- cU.out];simpa[exC,zE] using cv,fun k hk=>by (have:=ar k hk;omega),by (show es.1.length<=60);omega,by rw[HT.out];rfl,fun y l e=>by rw[HT.out]at e;injection e with e;injection e with e _;exact e.symm⟩
       have e4:(K==4)=false:=by simp[h4]
       by_cases h1:K=1
       ·have e1:(K==1)=true:=by simp[h1]
        cases f with
        | zero=>
         have HT:Hid (onS s (zaw 0 es)=.error (4,x0.pos)):=show _=_ from by
          rw[HS.out];exact zex a7.out HN.out ((rel40 x0 aJ).1 (by omega))
         have cc:(20:Int)<=d:=by have:=HD.out;omega
         have HF:=hidX (zbY w7 pb g W c (.ok (x0 :: r)) _ 4 (by decide) P7.out.mb);clear az h4 h1;go_wp2_with (first | (go_at_call 22;refine HF.out.mono ?_;rintro e w8 ⟨rfl,ap,ah⟩) | fail);go_ret;exact MEPost.err 0 HT.out (M7.out.trans (MkX.of ap) (.inl rfl)) rfl (P7.out.mko ap ah (fun l e=>⟨_,rfl⟩)) (.inl rfl)
        | succ f'=>
         have HT:Hid (onS s (zaw (f'+1) es)=andP (pOp f' (es.1,es.2+1) r) fun q l5=>.ok (((q.2.1.length:Int),(q.2.1 ++ [q.1],q.2.2)),l5)):=show _=_ from by
          rw[HS.out];exact zfh a7.out HN.out ((rel40 x0 aJ).1 (by omega))
         have cc:d<20:=by have:=HD.out;omega
         clear az h4 h1;go_upto_region 21 with fail
         refine zau bj.out ?_;intro w8 G O;replace G:w8.heap[pb]?=some (.cells (.slice (some ⟨g,0,none⟩) W.length c :: .int .i64 ((kOf W r+1:Nat):Int) :: .int .i64 0 :: .int .i64 ((0:Nat):Int) :: RM nm sl pv (.slice ea es.1.length ec) av (.int .i64 al)).toArray 64 (0,0)):=by
          rw[G];simp
         have ah:=P7.out.mb.next HX.out O G;have P8:=hidX (P7.out.mko O.mko ah (fun l e=>⟨_,rfl⟩));have M8:=hidX (M7.out.trans (MkX.of O.mko) (.inl rfl));have s8:=O.size;have bC:=hidX ((O.block w.heap.size (by omega)).trans aV.out);have aD:=hidX ((O.block w6.heap.size (by omega)).trans aI.out);have cV:w7.heap.size<=w8.heap.size:=Nat.le_of_eq s8.symm;clear G O ah d1 z1 c2 bj P7 M7 aV aI s8;have aS:=zHA w8;have cA:=hidX (zfc (w8.alloc (.cells #[.string ⟨#[43]⟩,.string ⟨#[45]⟩,.string ⟨#[42]⟩,.string ⟨#[47]⟩,.string ⟨#[37]⟩] 9)) pb g w8.heap.size 5 W c (.ok r) _ 6 arTx (by decide) (by decide) (zpk _) (by omega) (by simp) (by decide) (P8.out.mb.below (aS.out _)));have cQ:=hidX P8.out.mb.good;go_upto_region 22 with (first | (go_at_call 104;refine (zqj _).mono ?_;rintro e wt ⟨rfl,rfl⟩) | (go_at_call 57;refine cA.out.mono ?_;rintro e w9 ⟨aN,⟨t,cK,ae⟩,ct⟩;obtain rfl:e=.returned (.string (mkS t)):=cK) | fail);have s9:=aN.rest.size;simp at s9;have P9:=hidX ((P8.out.below (aS.out _)).mko aN ct (fun l e=>⟨_,rfl⟩));have M9:=hidX ((M8.out.below (aS.out _)).trans (MkX.of aN) (.inl rfl));have cg:=hidX ((aN.block w6.heap.size (by simp;omega) (fun e=>by injection e;omega)).trans (((aS.out _).block w6.heap.size (by omega)).trans aD.out));have bS:=hidX ae;have X1:=hidX (HO.out f' rfl w9 B pb g W c _ nm sl pv av (es.1,es.2+1) ea ec al (d+1) (k+1) P9.out (by omega) (by have:=HD.out;omega) (fun l _=>⟨by (show es.1.length+(k+1)<=es.2+1);have:=bh.out;omega,by (show es.2+1<=60);omega⟩));clear aN ct ae cA aS P8 M8 aD bC;go_upto_region 23 with (first | (go_at_call 148;refine X1.out.mono ?_;rintro e b6 ⟨aB,i,aw,bF,bK,cE,bW,a1,aP,bk⟩;obtain rfl:e=.returned (.int .i64 i):=bW) | fail);have dr:=aB.rest.size;have cw:∀ k,obE aw bF bK=some k->k≠w6.heap.size:=fun k hk=>by
          rcases aP with e | e
          ·have:=ar k (e ▸ hk);omega
          have:=e k hk;omega
         have bm:=hidX ((aB.block w6.heap.size (by omega) (by omega) (fun e=>by have:=ar _ e;omega)).trans cg.out);have cy:=hidX (M9.out.trans aB (.inl rfl));have b0:=hidX (show RowX (obE es ea ec) (obE aw bF bK) w.heap.size from aP.imp id fun h g hg=>by have:=h g hg;omega);have bo:=hidX cw;obtain ⟨s6,bt⟩:∃ s6,s6=stS (onS (stS (onS (.ok r) (oneM 6 arTx))) (zaw f' (es.1,es.2+1))):=⟨_,rfl⟩
         rw[<- bt]at a1;have b3:=hidX bt;have cx:=hidX bk;have b8:=hidX a1;have bD:∀ l,s6=.ok l->aw.1.length+(k+1)<=aw.2/\aw.2<=60:=fun l hl=>by
          rw[b3.out]at hl
          cases ho:oneM 6 arTx r with
          | error e=>simp only[onS,ho,stS]at hl;cases hl
          | ok q=>
           simp only[onS,ho,stS]at hl
           cases he:zaw f' (es.1,es.2+1) q.2 with
           | error e=>rw[he]at hl;cases hl
           | ok p=>
            have hy:=cx.out p.1 p.2 (by simp only[onS,ho,stS];exact he);have bb:=zc3 f' (es.1,es.2+1) q.2 p.2 (k+1) p.1.1 p.1.2 (by (show es.1.length+(k+1)<=es.2+1);have:=bh.out;omega) (by (show es.2+1<=60);omega) he;rw[hy]at bb;exact bb
         have da:=hidX bD;have X2:=hidX (HO.out f' rfl b6 B pb g W c s6 nm sl pv av aw bF bK cE (d+1) (k+1) b8.out (by omega) (by have:=HD.out;omega) bD);clear aB a1 aP bk bt X1 P9 M9 cg cw bD;go_upto_region 24 with (first | (go_at_call 148;refine X2.out.mono ?_;rintro e cP ⟨aC,j,aE,b4,bT,cW,cB,aL,aU,aZ⟩;obtain rfl:e=.returned (.int .i64 j):=cB) | fail);have di:=aC.rest.size;have bR:∀ k,obE aE b4 bT=some k->k≠w6.heap.size:=fun k hk=>by
          rcases aU with e | e
          ·exact bo.out k (e ▸ hk)
          have:=e k hk;omega
         have bn:=hidX ((aC.block w6.heap.size (by omega) (by omega) (fun e=>bo.out _ e rfl)).trans bm.out);have ca:=hidX (cy.out.trans aC b0.out);have bM:=hidX (b0.out.trans aU (by omega));obtain ⟨s7,ba⟩:∃ s7,s7=stS (onS s6 (zaw f' aw)):=⟨_,rfl⟩
         rw[<- ba]at aL;have ch:=hidX (zsD cQ.out bS.out b3.out cx.out ba aZ);have bs:=hidX aL;have br:=hidX bR;have dk:=hidX ba;have dj:=hidX aZ;have b7:=hidX (zbw cP pb g W c s7 _ 2 41 rel41 (by decide) (by decide) bs.out.mb);clear aC aL aU aZ ba X2 b8 cy bm bR;go_upto_region 25 with (first | (go_at_call 56;refine b7.out.mono ?_;rintro e de ⟨aj,⟨cD,bY,_⟩,aR⟩;obtain rfl:e=.returned (wdA cD):=bY;unfold wdA) | fail);have dn:=aj.rest.size;have aY:=hidX (bs.out.mko aj aR zgn);have ci:=hidX (ca.out.trans (MkX.of aj) bM.out);have cu:=hidX ((aj.block w6.heap.size (by omega) (fun e=>by injection e;omega)).trans bn.out);have bc:=aR.code;clear aj aR b7 bs ca bn;rcases ch.out with ⟨e,h1,h2⟩ | ⟨y,l,b,cJ,h1,h2⟩
         ·have aX:Hid (onS s (zaw (f'+1) es)=.error e):=show _=_ from by rw[HT.out,h1];rfl
          rw[h2]at aY bc;have cO:=aY.out.mb.code_err;simp only[stS,ze5]at bc;clear h1 h2;go_wp2_with fail
          go_ret;exact MEPost.err 0 aX.out ci.out rfl aY.out bM.out
         have aX:Hid (onS s (zaw (f'+1) es)=.ok (((aE.1.length:Int),(aE.1 ++ [⟨2,(b.toNat:Int),mkS [],zVr,i,j⟩],aE.2)),l)):=show _=_ from by rw[HT.out,h1];rfl
         have bU:aE.1.length<=60:=by
          have bb:=zc3 (f'+1) es (x0 :: r) l k _ _ bh.out.1 bh.out.2 (by have:=aX.out;rw[HS.out]at this;exact this);simp at bb;omega
         rw[h2]at aY bc;simp only[stS,ze5]at bc;subst cJ;have dc:(0:Nat)<(mkS [b]).size:=Nat.zero_lt_one;have dq:((mkS [b])[0]'dc)=b:=rfl;have ck:=cu.out;clear h1 h2 bS ch;go_wp2_with (first | (refine zac (by rfl) 97 (.tmp 7) (.tmp 106) (by rfl) w6.heap.size (exC ⟨2,(b.toNat:Int),mkS [],zVr,i,j⟩) (by rfl) (by rfl) _ 97 ck (by rfl) zeW (zdb _) ?_;intro dh bV bl) | fail);go_meet;exact ⟨.ok l,⟨2,(b.toNat:Int),mkS [],zVr,i,j⟩,aE,b4,bT,cW,ci.out.turn bl.out (by omega),aY.out.turned bl.out (by omega) br.out,bM.out,bV.out,br.out,bU,by rw[aX.out];rfl,fun y l e=>by rw[aX.out]at e;injection e with e;injection e with e _;exact e.symm⟩
       ·have e1:(K==1)=false:=by simp[h1]
        have HT:Hid (onS s (zaw f es)=andP (pVal (x0 :: r)) fun v l1=>.ok (((es.1.length:Int),(es.1 ++ [⟨0,0,mkS [],v,0,0⟩],es.2+1)),l1)):=show _=_ from by
         rw[HS.out];exact zr6 aJ HN.out a7.out (by omega) (by omega)
        have cL:=hidX (zfQ w7 pb g W c (.ok (x0 :: r)) _ P7.out.mb);clear az h4 h1;go_upto_region 28 with (first | (go_at_call 147;refine cL.out.mono ?_;rintro e w8 ⟨ap,⟨v,cH,cT⟩,ah⟩;obtain rfl:e=.returned (.agg #[.int .i64 v.kind,.int .i64 v.num,.string v.sym]):=cH;have s8:=ap.rest.size;have G:=(ap.block w6.heap.size (by omega) (fun e=>by injection e;omega)).trans aI.out;have g3:=zae G (j:=3) rfl;have g4:=zae G (j:=4) rfl;have g5:=zae G (j:=5) rfl;have q3:=zax G 3;have q4:=zax G 4;have q5:=zax G 5) | fail);refine zet G (o:=3) (by simp[exC]) ?_;intro w9 aG ae;have P8:=P7.out.mko ap ah (fun l e=>⟨_,rfl⟩);have M8:=M7.out.trans (MkX.of ap) (.inl rfl);go_meet;refine ⟨stS (onS (.ok (x0 :: r)) pVal),⟨0,0,mkS [],v,0,0⟩,(es.1,es.2+1),ea,ec,al,M8.turn ae (by omega),P8.turned ae (by omega) (fun k hk=>by have:=ar k hk;omega),.inl rfl,by simpa[exC,zE] using aG,fun k hk=>by (have:=ar k hk;omega),by (show es.1.length<=60);omega,?_,?_⟩
        ·rw[HT.out];simp only[onS]
         cases pVal (x0 :: r) <;> rfl
        ·intro y l e;rw[HT.out]at e
         cases bN:pVal (x0 :: r) with
         | error e'=>rw[bN]at e;cases e
         | ok q=>
          rw[bN,zak]at e;injection e with e;injection e with e _;rw[<- e,cT q.1 q.2 bN]
     case rest=>
      obtain ⟨sx,xe,s',ea',ec',bg',U⟩:=hcut;obtain ⟨X,rfl⟩:∃ v,v=wc:=⟨wc,rfl⟩
      have XB:=hidX U;have ds:=U.le;have d7:X.cell? ⟨pb,7,none⟩=some (.slice ea' s'.1.length ec'):=U.st.mb.cellR (j:=3) rfl;have g0:=zae U.bx (j:=0) rfl;have g1:=zae U.bx (j:=1) rfl;have g2:=zae U.bx (j:=2) rfl;have g3:=zae U.bx (j:=3) rfl;have g4:=zae U.bx (j:=4) rfl;have g5:=zae U.bx (j:=5) rfl;have g6:=zae U.bx (j:=6) rfl;have g7:=zae U.bx (j:=7) rfl;have dm:w6.heap.size<X.heap.size:=zab U.bx;have aA:=U.mo.rest.size;have dw:g<X.heap.size:=by omega
      have dv:pb<X.heap.size:=by omega
      clear U P7 M7 aV aI cr bi;go_upto_region 28 with fail
      refine wp_region_noPanic ?_;refine wp_region_held_drew (S:=(fun _=>True)) (by kernel_rfl) ?_ (fun E=>?_)
      ·(try dsimp only)
       all_goals trivial
      refine tk 0 E ?_;(try simp only[pA,pZ,pS]);refine tk 1 E ?_;(try simp only[pA,pZ,pS]);refine tk 2 E ?_;(try simp only[pA,pZ,pS]);refine tk 3 E ?_;(try simp only[pA,pZ,pS]);refine tk 4 E ?_;(try simp only[pA,pZ,pS]);refine r2 5 6 (fun K hK=>?_) fun K hK=>?_
      ·go_simp;refine hK.out _ _ (by (try dsimp only);all_goals trivial) fun I=>?_;replace E:=I;clear hK K I;(try simp only[pA,pZ,pS]);refine r1 6 fun K hK=>?_;go_simp;refine hK.out _ _ (by (try dsimp only);all_goals trivial) fun I=>?_;replace E:=I;clear hK K I;(try simp only[pA,pZ,pS]);refine r1 7 fun K hK=>?_;go_simp;have Z:=zHA X.drew;have ak:∀ o',(X.drew.alloc o').cell? ⟨pb,7,none⟩=some (.slice ea' s'.1.length ec'):=fun o'=>zaa (Z.out o') d7;have bX:∀ o',(X.alloc o').drew.cell? ⟨pb,7,none⟩=some (.slice ea' s'.1.length ec'):=ak;have cn:∀ o',(X.alloc o').cell? ⟨pb,7,none⟩=some (.slice ea' s'.1.length ec'):=ak;refine hK.out _ _ (by (try dsimp only);all_goals trivial) fun I=>?_;replace E:=I;clear hK K I;(try simp only[pA,pZ,pS]);have aQ:=hidX (zao XB.out.st.ow ((Below.refl _ _).drew));refine r1 8 fun K hK=>?_;(refine zaq (by rfl) (.tmp 112) (.tmp 114) 36 (by rfl) B 97 _ 8 80 Tryz.underlying36 zfY (by rfl) (by omega) _ s'.1.length _ (by rfl) (zao aQ.out (Z.out _)) (some ⟨_,0,none⟩) 1 1 (by rfl) (exC xe) (by rfl) (fun e=>by cases e) (zas _ _ _ _ (by simp)) (zdb xe) (by unfold maxLen;omega) (by omega) (by simp;omega) ?_;intro a8 c8 u8 bH ad bI);refine hK.out _ _ (by (try dsimp only);all_goals trivial) fun I=>?_;replace E:=I;clear hK K I;(try simp only[pA,pZ,pS]);have ab:∀ k,obE s' ea' ec'=some k->B<=k:=fun k hk=>(aQ.out.lt k hk).1;have af:=hidX (fun o'=>(XB.out.st.mb.below ((Below.refl _ _).drew)).below (Z.out o'));have ag:=hidX ((af.out _).blocks (ad.out.block pb (af.out _).lt (fun e=>by have:=ab pb e.symm;omega)) (ad.out.block g (af.out _).glt (fun e=>by have:=ab g e.symm;omega)));have f7:u8.cell? ⟨pb,7,none⟩=some (.slice ea' s'.1.length ec'):=ag.out.cellR (j:=3) rfl;have z7:=ag.out.frozR 7;refine tk 9 E ?_;(try simp only[pA,pZ,pS]);refine tk 10 E ?_;(try simp only[pA,pZ,pS]);refine tk 11 E ?_;(try simp only[pA,pZ,pS]);refine r1 12 fun K hK=>?_;go_simp;refine hK.out _ _ (by (try dsimp only);all_goals trivial) fun I=>?_;replace E:=I;clear hK K I;(try dsimp only);refine wpAnyH_done (by kernel_rfl) ?_ _;refine NoPanic.normal ?_;clear E;refine zb5 ?_;intro u9 ax;have P9:=hidX (ag.out.setR (j:=3) ax);have m9:MkO (some pb) u8 u9:=by rw[ax];exact MkO.set _
       have aW:MkX pb (obE s' ea' ec') X u8:=⟨((Below.refl 0 X).drew.trans ((Z.out _).mono (Nat.zero_le _))).grown ad.out (Nat.zero_le _) (fun _ _=>Nat.zero_le _),fun g hg _ ho=>(ad.out.block g (by simp;omega) (fun e=>ho e.symm)).trans ((Z.out _).block g hg)⟩
       have rx:RowX (obE s' ea' ec') (Value.slice a8 (s'.1.length+1) c8).ownBlock X.heap.size:=bI.out.imp id fun h g hg=>by
        rw[h]at hg;injection hg with hg;simp at hg;omega
       have M9:=hidX ((XB.out.mo.trans aW XB.out.rw').trans (MkX.of m9:MkX pb (Value.slice a8 (s'.1.length+1) c8).ownBlock u8 u9) (XB.out.rw'.trans rx aA));have bA:=ad.out.size;simp at bA;have s9:=m9.rest.size;have S9:=hidX (show MX u9 B pb g W c sx nm sl pv av (s'.1 ++ [xe],s'.2) a8 c8 bg' from ⟨by simpa[RM] using P9.out,XB.out.st.hb,by simpa using zbq bH.out m9 aF,aF,bL,by omega⟩);have c9:u9.cell? ⟨pb,7,none⟩=some (.slice a8 (s'.1 ++ [xe]).length c8):=S9.out.mb.cellR (j:=3) rfl;have R9:=hidX (show RowX (obE es ea ec) (obE (s'.1 ++ [xe],s'.2) a8 c8) w.heap.size from by simpa[obE] using XB.out.rw'.trans rx aA);clear ax m9 aW rx f7 z7 P9 af ab d7 g0 g1 g2 g3 g4 g5 g6 g7 ag;simp only[List.length_append,List.length_singleton]at c9;go_wp2_with fail
       go_ret;exact ⟨M9.out,(s'.1.length:Int),(s'.1 ++ [xe],s'.2),a8,c8,bg',by simp[Rint],by rw[XB.out.es];exact S9.out,R9.out,XB.out.pe⟩
      go_simp;refine hK.out _ _ (by (try dsimp only);all_goals trivial) fun I=>?_;replace E:=I;clear hK K I;(try simp only[pA,pZ,pS]);refine r2 5 7 (fun K hK=>?_) fun K hK=>?_
      focus
       go_simp;refine hK.out _ _ (by (try dsimp only);all_goals trivial) fun I=>?_;replace E:=I;clear hK K I;(try simp only[pA,pZ,pS]);refine r1 7 fun K hK=>?_;go_simp;have Z:=zHA X.drew;have ak:∀ o',(X.drew.alloc o').cell? ⟨pb,7,none⟩=some (.slice ea' s'.1.length ec'):=fun o'=>zaa (Z.out o') d7;have bX:∀ o',(X.alloc o').drew.cell? ⟨pb,7,none⟩=some (.slice ea' s'.1.length ec'):=ak;have cn:∀ o',(X.alloc o').cell? ⟨pb,7,none⟩=some (.slice ea' s'.1.length ec'):=ak
      rotate_left
      focus
       go_simp;have Z:=zHA X.drew;have ak:∀ o',(X.drew.alloc o').cell? ⟨pb,7,none⟩=some (.slice ea' s'.1.length ec'):=fun o'=>zaa (Z.out o') d7;have bX:∀ o',(X.alloc o').drew.cell? ⟨pb,7,none⟩=some (.slice ea' s'.1.length ec'):=ak;have cn:∀ o',(X.alloc o').cell? ⟨pb,7,none⟩=some (.slice ea' s'.1.length ec'):=ak;refine hK.out _ _ (by (try dsimp only);all_goals trivial) fun I=>?_;replace E:=I;clear hK K I;(try simp only[pA,pZ,pS]);refine r1 5 fun K hK=>?_;go_simp
      rotate_left
      all_goals
       refine hK.out _ _ (by (try dsimp only);all_goals trivial) fun I=>?_;replace E:=I;clear hK K I;(try simp only[pA,pZ,pS]);have aQ:=hidX (zao XB.out.st.ow ((Below.refl _ _).drew));refine r1 8 fun K hK=>?_;(refine zaq (by rfl) (.tmp 112) (.tmp 114) 36 (by rfl) B 97 _ 8 80 Tryz.underlying36 zfY (by rfl) (by omega) _ s'.1.length _ (by rfl) (zao aQ.out (Z.out _)) (some ⟨_,0,none⟩) 1 1 (by rfl) (exC xe) (by rfl) (fun e=>by cases e) (zas _ _ _ _ (by simp)) (zdb xe) (by unfold maxLen;omega) (by omega) (by simp;omega) ?_;intro a8 c8 u8 bH ad bI);refine hK.out _ _ (by (try dsimp only);all_goals trivial) fun I=>?_;replace E:=I;clear hK K I;(try simp only[pA,pZ,pS]);have ab:∀ k,obE s' ea' ec'=some k->B<=k:=fun k hk=>(aQ.out.lt k hk).1;have af:=hidX (fun o'=>(XB.out.st.mb.below ((Below.refl _ _).drew)).below (Z.out o'));have ag:=hidX ((af.out _).blocks (ad.out.block pb (af.out _).lt (fun e=>by have:=ab pb e.symm;omega)) (ad.out.block g (af.out _).glt (fun e=>by have:=ab g e.symm;omega)));have f7:u8.cell? ⟨pb,7,none⟩=some (.slice ea' s'.1.length ec'):=ag.out.cellR (j:=3) rfl;have z7:=ag.out.frozR 7;refine tk 9 E ?_;(try simp only[pA,pZ,pS]);refine tk 10 E ?_;(try simp only[pA,pZ,pS]);refine tk 11 E ?_;(try simp only[pA,pZ,pS]);refine r1 12 fun K hK=>?_;go_simp;refine hK.out _ _ (by (try dsimp only);all_goals trivial) fun I=>?_;replace E:=I;clear hK K I;(try dsimp only);refine wpAnyH_done (by kernel_rfl) ?_ _;refine NoPanic.normal ?_;clear E;refine zb5 ?_;intro u9 ax;have P9:=hidX (ag.out.setR (j:=3) ax);have m9:MkO (some pb) u8 u9:=by rw[ax];exact MkO.set _
       have aW:MkX pb (obE s' ea' ec') X u8:=⟨((Below.refl 0 X).drew.trans ((Z.out _).mono (Nat.zero_le _))).grown ad.out (Nat.zero_le _) (fun _ _=>Nat.zero_le _),fun g hg _ ho=>(ad.out.block g (by simp;omega) (fun e=>ho e.symm)).trans ((Z.out _).block g hg)⟩
       have rx:RowX (obE s' ea' ec') (Value.slice a8 (s'.1.length+1) c8).ownBlock X.heap.size:=bI.out.imp id fun h g hg=>by
        rw[h]at hg;injection hg with hg;simp at hg;omega
       have M9:=hidX ((XB.out.mo.trans aW XB.out.rw').trans (MkX.of m9:MkX pb (Value.slice a8 (s'.1.length+1) c8).ownBlock u8 u9) (XB.out.rw'.trans rx aA));have bA:=ad.out.size;simp at bA;have s9:=m9.rest.size;have S9:=hidX (show MX u9 B pb g W c sx nm sl pv av (s'.1 ++ [xe],s'.2) a8 c8 bg' from ⟨by simpa[RM] using P9.out,XB.out.st.hb,by simpa using zbq bH.out m9 aF,aF,bL,by omega⟩);have c9:u9.cell? ⟨pb,7,none⟩=some (.slice a8 (s'.1 ++ [xe]).length c8):=S9.out.mb.cellR (j:=3) rfl;have R9:=hidX (show RowX (obE es ea ec) (obE (s'.1 ++ [xe],s'.2) a8 c8) w.heap.size from by simpa[obE] using XB.out.rw'.trans rx aA);clear ax m9 aW rx f7 z7 P9 af ab d7 g0 g1 g2 g3 g4 g5 g6 g7 ag;simp only[List.length_append,List.length_singleton]at c9;go_wp2_with fail
       go_ret;exact ⟨M9.out,(s'.1.length:Int),(s'.1 ++ [xe],s'.2),a8,c8,bg',by simp[Rint],by rw[XB.out.es];exact S9.out,R9.out,XB.out.pe⟩
theorem znc:∀ f,znQ f:=by
 intro f
 induction f with
 | zero=>exact zly 0 (fun E e=>by omega)
 | succ f G=>
  refine zly (f+1) (fun E e=>?_);obtain rfl:f=E:=by omega
  exact G
theorem MX.row{w:World}{B pb g:Nat}{W:List Wd}{c:Nat}{s:Ps}{nm sl pv av:Value}{es:ES}{ea:Option Addr}{ec:Nat}{bg:Int}(h:MX w B pb g W c s nm sl pv av es ea ec bg):∀ g,obE es ea ec=some g->∃ c,w.heap[g]?=some (.cells c 97 (0,0)):=fun _ hg=>zaA h.ow hg
theorem zl5{w:World}{pb g:Nat}{W:List Wd}{c:Nat}{s:Ps}{R:List Value}{n:Nat}{es:ES}(U:MB w pb g W c s R)(hb:zdl (n:Int) 6 s=true):n<6/\zb8 (n:Int) 6 s=zaD s/\(∃ l,s=.ok l/\zaD s=.ok l)/\∀ (v:Int) (E:ES),(∀ y l,onS (zaD s) (zaw 20 es)=.ok (y,l)->y=(v,E))->∀ M:List Int,preE M (onS s (zaB (zaw 20) (6 - n) es))=preE (M ++ [v]) (onS (stS (onS (zaD s) (zaw 20 es))) (zaB (zaw 20) (6 - (n+1)) E)):=by
 unfold zdl at hb;simp only[Bool.not_eq_true',Bool.or_eq_false_iff,decide_eq_false_iff_not]at hb;obtain ⟨h1,h2,O,hm⟩:=hb;have hS:zb8 (n:Int) 6 s=zaD s:=by unfold zb8;rw[if_neg (fun e=>e.elim h1 h2),if_neg O,if_neg hm]
 refine ⟨by omega,hS,?_⟩
 cases s with
 | error f=>exact absurd rfl h1
 | ok l=>
  obtain ⟨x,r,rfl,hx,_⟩:=U.head
  cases hr:zaj (x :: r) with
  | error f=>exact absurd (zaY hr).1 h1
  | ok p=>
   obtain ⟨y,X⟩:=p;obtain ⟨rfl,_⟩:=za8 hr;rw[(look_ok hr).1]at h2;rw[(look_ok hr).2];refine ⟨⟨_,rfl,rfl⟩,fun v E hv M=>?_⟩;have hp:pkW y≠41:=fun e=>h2 ((rel41 y hx).2 e);obtain ⟨m,I⟩:∃ m,6 - n=m+1:=⟨6 - (n+1),by omega⟩
   rw[I,show 6 - (n+1)=m by omega];simp only[onS]at hv ⊢
   cases G:zaw 20 es (y :: r) with
   | error f=>
    rw[zf5 hr hp G];rfl
   | ok q=>
    obtain ⟨⟨Z,es'⟩,l1⟩:=q;have e:=hv _ l1 G;injection e with e1 e2;subst e1;subst e2;rw[zhc hr hp G];rfl
theorem znH{w:World}{pb g:Nat}{W:List Wd}{c:Nat}{s:Ps}{R:List Value}{n:Nat}{es:ES}(O:MB w pb g W c s R)(hb:zdl (n:Int) 6 s=false)(hn:n<=6)(M:List Int):(∃ f,preE M (onS s (zaB (zaw 20) (6 - n) es))=.error f/\onS (zb8 (n:Int) 6 s) (zai 41)=.error f)∨∃ x l,preE M (onS s (zaB (zaw 20) (6 - n) es))=.ok ((M,es),l)/\onS (zb8 (n:Int) 6 s) (zai 41)=.ok (x,l):=by
 cases s with
 | error f=>exact .inl ⟨f,rfl,rfl⟩
 | ok l=>
  obtain ⟨x,r,rfl,hx,_⟩:=O.head
  cases hr:zaj (x :: r) with
  | error f=>
   refine .inl ⟨f,?_,?_⟩
   ·simp only[onS];rw[zh7 hr];rfl
   ·unfold zb8;rw[if_pos (.inl (zaY hr).1),(zaY hr).2];rfl
  | ok p=>
   obtain ⟨y,I⟩:=p;obtain ⟨rfl,_⟩:=za8 hr;have h1:=zlw hx;unfold zb8;unfold zdl at hb;rw[(look_ok hr).1]at hb ⊢;rw[(look_ok hr).2];simp only[onS];by_cases h2:y.kind=2
   ·refine .inr ⟨y,I,?_,?_⟩
    ·rw[zh1 hr ((rel41 y hx).1 h2)];simp[preE]
    rw[if_pos (.inr h2)];simp only[zai,hr];rw[if_pos ((rel41 y hx).1 h2)]
   have hp:pkW y≠41:=fun e=>h2 ((rel41 y hx).2 e);rw[if_neg (fun e=>e.elim h1 h2)];by_cases G:y.kind=0
   ·have E:pkW y=0:=(zdU hx).2.2.2.2.2.1 G;refine .inl ⟨(3,y.pos),?_,?_⟩
    ·cases hk:6 - n with
     | zero=>rw[zdS hr hp,if_pos E];rfl
     | succ m=>rw[zf5 hr hp (zgX hr E)];rfl
    rw[if_pos G];rfl
   have E:pkW y≠0:=fun e=>G ((zdU hx).2.2.2.2.2.2 e);simp[h1,h2,G]at hb;rw[if_neg G,if_pos hb,show 6 - n=0 by omega];refine .inl ⟨(4,y.pos),?_,rfl⟩;rw[zdS hr hp,if_neg E];rfl
theorem zhP{n m:Int}{s:Ps}:∀ l,zb8 n m s=.ok l->∃ l',s=.ok l':=by
 intro l h
 cases s with
 | error f=>
  unfold zb8 at h
  repeat' split at h
  all_goals cases h
 | ok l'=>exact ⟨l',rfl⟩
def MAPost(w:World)(B pb g:Nat)(W:List Wd)(c:Nat)(s:Ps)(nm sl pv av:Value)(es:ES)(ob:Option Nat)(e:Ending)(w':World):Prop:=MkX pb ob w w'/\∃ (M:List Int) (la:Option Addr) (lc:Nat) (sx:Ps) (es':ES) (ea':Option Addr) (ec':Nat) (bg':Int),e=.returned (.slice la M.length lc)/\w'.ownsRow w.heap.size 3 1 (.slice la M.length lc) M.length (inC M)/\MX w' B pb g W c sx nm sl pv av es' ea' ec' bg'/\RowX ob (obE es' ea' ec') w.heap.size/\(∀ l,sx=.ok l->∃ l',s=.ok l')/\((∃ f,onS s (zaB (zaw 20) 6 es)=.error f/\onS sx (zai 41)=.error f)∨∃ x l,onS s (zaB (zaw 20) 6 es)=.ok ((M,es'),l)/\onS sx (zai 41)=.ok (x,l))
theorem zjx(w:World)(B pb g:Nat)(W:List Wd)(c:Nat)(s:Ps)(nm sl pv av:Value)(es:ES)(ea:Option Addr)(ec:Nat)(bg:Int)(h:MX w B pb g W c s nm sl pv av es ea ec bg)(hk:∀ l,s=.ok l->es.1.length<=es.2/\es.2<=60):Calls Tryz.prog 108 #[.pointer (some ⟨pb,0,none⟩)] w (MAPost w B pb g W c s nm sl pv av es (obE es ea ec)):=by
 have HP:=hidX h;have HK:=hidX hk;have aj:=h.mb.lt;have aS:=h.mb.glt;have aI:=h.lt;have aH:=h.gl;clear h hk;go_enter Tryz.func108,Tryz.ntmps108;go_wp2_with fail
 go_loopw [3] (fun v wr=>∃ (M:List Int) (la:Option Addr) (lc:Nat) (sx:Ps) (es':ES) (ea':Option Addr) (ec':Nat) (bg':Int),M.length<=6/\v=.slice la M.length lc/\wr.ownsRow w.heap.size 3 1 (.slice la M.length lc) M.length (inC M)/\MX wr B pb g W c sx nm sl pv av es' ea' ec' bg'/\MkX pb (obE es ea ec) w wr/\RowX (obE es ea ec) (obE es' ea' ec') w.heap.size/\onS s (zaB (zaw 20) 6 es)=preE M (onS sx (zaB (zaw 20) (6 - M.length) es'))/\(∀ l,sx=.ok l->es'.1.length<=es'.2/\es'.2<=60)/\∀ l,sx=.ok l->∃ l',s=.ok l') (fun v _=>6 - za6 v)
 case atStart=>exact ⟨[],none,0,s,es,ea,ec,bg,by simp,rfl,World.ownsRow_nil _ _ _ _,HP.out,MkX.refl _ _ _,.inl rfl,by unfold preE;cases onS s (zaB (zaw 20) 6 es) <;> rfl,HK.out,fun l e=>⟨l,e⟩⟩
 case round=>
  obtain ⟨M,la,lc,sx,es',ea',ec',bg',aN,rfl,hown,ae,ah,az,aA,aF,ap⟩:=hrel;have OW:=hidX hown;have PS:=hidX ae;have MK:=hidX ah;have RX:=hidX az;have PL:=hidX aA;have al:=hidX aF;have ax:=hidX ap;have aT:=ah.rest.size;have O:=hidX (zjf wr pb g W c sx _ (M.length:Int) 6 ae.mb);unfold znO at O;clear hown ae ah az aA aF ap
  cases hI:zdl (M.length:Int) 6 sx with
  | false=>
   have HE:=hidX (znH (es:=es') PS.out.mb hI aN M);rw[hI]at O;clear hI;go_wp2_with (first | (go_at_call 106;refine O.out.mono ?_;rintro e w6 ⟨rfl,E,af⟩) | fail);go_ret;refine ⟨MK.out.trans (MkX.of E) RX.out,M,la,lc,zb8 (M.length:Int) 6 sx,es',ea',ec',bg',rfl,zbq OW.out E aj,PS.out.mko E af zhP,RX.out,fun l e=>?_,?_⟩
   ·obtain ⟨l',e'⟩:=zhP l e;exact ax.out l' e'
   ·rw[PL.out];exact HE.out
  | true=>
   obtain ⟨aU,au,⟨l0,ay,ag⟩,X⟩:=zl5 (es:=es') PS.out.mb hI;rw[hI]at O;have aP:=hidX X;have aq:=hidX ag;have ad:=hidX ay;rw[au,ag]at O;have HX:=hidX (fun u (hu:MX u B pb g W c (.ok l0) nm sl pv av es' ea' ec' bg')=>znc 20 u B pb g W c (.ok l0) nm sl pv av es' ea' ec' bg' 0 0 hu (by omega) (by omega) (fun l _=>by have:=al.out l0 ad.out;exact ⟨by omega,this.2⟩));clear hI au X ay ag;go_wp2_with (first | (go_at_call 106;refine O.out.mono ?_;rintro e w6 ⟨rfl,E,af⟩;have P6:=PS.out.mko E af (fun l e=>⟨l0,ad.out⟩)) | (go_at_call 148;refine (HX.out _ P6).mono ?_;rintro e w7 ⟨aE,v,G,aC,aw,ar,aL,aD,aK,aB⟩;obtain rfl:e=.returned (.int .i64 v):=aL;have s6:=E.rest.size;have M7:=hidX ((MK.out.trans (MkX.of E) RX.out).trans aE RX.out);have ak:=hidX (zne (zbq OW.out E aj) aE aj P6.row (by decide));have aR:=M7.out.rest.size;have Z:=zHA w7) | (at_builtin;refine zag (by rfl) (.tmp 8) (.tmp 11) 71 (by rfl) w.heap.size 3 _ 1 8 Tryz.underlying71 znn (by rfl) (by omega) _ M.length _ (by rfl) (zao ak.out (Z.out _)) (some ⟨_,0,none⟩) 1 1 (by rfl) [.int .i64 v] (by rfl) (fun e=>by cases e) (zas _ _ _ _ (by simp)) (zoi v) (by unfold maxLen;omega) (by omega) (by simp;omega) ?_;intro a8 c8 w8 aM I aV) | fail);have ab:∀ k,(Value.slice la M.length lc).ownBlock=some k->w.heap.size<=k:=fun k hk=>(ak.out.lt k hk).1;have TY:=hidX (fun o' g hg=>zaA (zao ak.out (Z.out o')) (k:=g) hg);have U:=hidX (fun o'=>aD.below (Z.out o'));have S8:=hidX (show MX w8 B pb g W c (stS (onS (.ok l0) (zaw 20 es'))) nm sl pv av G aC aw ar from ⟨(U.out _).mb.blocks (I.out.block pb (U.out _).mb.lt (fun e=>by have:=ab pb e.symm;omega)) (I.out.block g (U.out _).mb.glt (fun e=>by have:=ab g e.symm;omega)),aD.hb,zbF (U.out _).ow I.out (TY.out _) (by decide),aI,aH,Nat.le_trans (U.out _).le I.out.size⟩);have M8:=hidX (show MkX pb (obE es ea ec) w w8 from ⟨(M7.out.rest.trans ((Z.out _).mono (Nat.zero_le _))).grown I.out (Nat.zero_le _) (fun _ _=>Nat.zero_le _),fun g hg hp ho=>(I.out.block g (by simp;omega) (fun e=>by have:=ab g e.symm;omega)).trans (((Z.out _).block g (by omega)).trans (M7.out.block g hg hp ho))⟩);have aO:=hidX (RX.out.trans aK (by omega));have aQ:=aP.out v G (by rw[aq.out];exact aB) M;have aG:∀ l,stS (onS (.ok l0) (zaw 20 es'))=.ok l->G.1.length<=G.2/\G.2<=60:=fun l hl=>by
    simp only[onS]at hl
    cases he:zaw 20 es' l0 with
    | error e=>rw[he]at hl;cases hl
    | ok p=>
     have hy:=aB p.1 p.2 he;have hq:=al.out l0 ad.out;have ao:=zc3 20 es' l0 p.2 0 p.1.1 p.1.2 (by omega) hq.2 he;rw[hy]at ao;simpa using ao
   have aJ:onS s (zaB (zaw 20) 6 es)=preE (M ++ [v]) (onS (stS (onS (.ok l0) (zaw 20 es'))) (zaB (zaw 20) (6 - (M ++ [v]).length) G)):=by
    rw[PL.out,aQ,aq.out];simp
   go_roundw
   case rel=>exact ⟨M ++ [v],a8,c8,_,G,aC,aw,ar,by simp;omega,by simp,by simpa[inC] using aM.out,S8.out,M8.out,aO.out,aJ,aG,fun l _=>ax.out l0 ad.out⟩
   case measure=>(simp[za6];omega)
theorem zhS(w:World)(pb g:Nat)(W:List Wd)(c:Nat)(s:Ps)(R:List Value)(h:MB w pb g W c s R):Calls Tryz.prog 109 #[.pointer (some ⟨pb,0,none⟩)] w (MPost w pb g W c R Rint (onS s pRef)):=by
 have af:=mfield3;have ad:=hidX (zbw w pb g W c s R 3 48 rel48 (by decide) (by decide) h);have ab:Hid (onS s pRef=andP (onS s (zai 48)) fun x l1=>.ok (zde x.num,l1)):=show _=_ from by cases s <;> rfl
 have G:Hid (∀ (x:Wd) (e:Ending) (X:World),MkO (some pb) w X->(∀ y l,onS s (zai 48)=.ok (y,l)->y=x)->MB X pb g W c (stS (onS s (zai 48))) R->Rint (zde x.num) e X->MPost w pb g W c R Rint (onS s pRef) e X):=show ∀ _,_ from fun x e X hm hy hb hq=>by
  rw[ab.out]
  cases hr:onS s (zai 48) with
  | error f=>
   rw[hr]at hb;exact MPost.err _ rfl hm hq hb
  | ok q=>
   rw[hr]at hb;obtain rfl:=hy q.1 q.2 hr;exact MPost.good rfl hm hq hb
 clear h;go_enter Tryz.func109,Tryz.ntmps109;go_upto_region 2 with (first | (go_at_call 56;refine ad.out.mono ?_;rintro e X ⟨O,⟨y,ae,I⟩,U⟩;obtain rfl:e=.returned (wdA y):=ae;unfold wdA) | fail);obtain ⟨N,hN⟩:∃ N,N=y.num:=⟨_,rfl⟩
 rw[<- hN];have E:=hidX (G.out y);rw[<- hN]at E;clear hN ad ab G;by_cases h1:N < -1000000
 ·have Z:Hid (zde N=0):=show _=_ from by unfold zde;rw[if_pos (.inl h1)]
  go_wp2_with fail
  go_ret;exact E.out _ _ O I U (by rw[Z.out];rfl)
 by_cases h2:1000000<N
 ·have Z:Hid (zde N=0):=show _=_ from by unfold zde;rw[if_pos (.inr h2)]
  go_wp2_with fail
  go_ret;exact E.out _ _ O I U (by rw[Z.out];rfl)
 have Z:Hid (zde N=N):=show _=_ from by unfold zde;rw[if_neg (by omega)]
 go_wp2_with fail
 go_ret;exact E.out _ _ O I U (by rw[Z.out];rfl)
def actT:List Bs:=[addT,zdV,modT,zd6]
def actM(es:ES)(l:List Wd):Px (Ac × ES):=andP (zai 40 l) fun _ l1=>pAct es l1
theorem zkF{T:List Bs}{l:List Wd}(h:zdT l):oneM 5 T l=andP (zai 97 l) fun x l1=>if ptW x∈T then .ok (ptW x,l1) else .error (3,x.pos):=by
 unfold oneM zai
 cases hr:zaj l with
 | error f=>rfl
 | ok q=>
  obtain ⟨x,r⟩:=q;have hx:WdOk x:=h.2 x (zc4 hr);simp only;by_cases E:x.kind=5
  ·rw[if_pos ((rel97 x hx).1 E),zak,zf9 hx E];by_cases G:x.text∈T
   ·rw[if_pos ⟨E,G⟩,if_pos G]
   rw[if_neg (fun e=>G e.2),if_neg G]
  rw[if_neg (fun e=>E ((rel97 x hx).2 e)),if_neg (fun e=>E e.1)];rfl
theorem zrI{l:List Wd}{es:ES}(h:zdT l):pAct es l=andP (oneM 5 actT l) fun t l1=>if t=zd6 then zd8 es l1 else if t=modT then aMod es l1 else if t=zdV then zds es l1 else aAdd es l1:=by
 rw[zkF h];unfold pAct
 cases zai 97 l with
 | error f=>rfl
 | ok q=>
  obtain ⟨x,r⟩:=q;rw[zak,zak];by_cases h1:ptW x=zd6
  ·rw[if_pos h1,if_pos (by rw[h1];decide),zak,if_pos h1]
  by_cases h2:ptW x=modT
  ·rw[if_neg h1,if_pos h2,if_pos (by rw[h2];decide),zak,if_neg h1,if_pos h2]
  by_cases h3:ptW x=zdV
  ·rw[if_neg h1,if_neg h2,if_pos h3,if_pos (by rw[h3];decide),zak,if_neg h1,if_neg h2,if_pos h3]
  by_cases E:ptW x=addT
  ·rw[if_neg h1,if_neg h2,if_neg h3,if_pos E,if_pos (by rw[E];decide),zak,if_neg h1,if_neg h2,if_neg h3]
  rw[if_neg h1,if_neg h2,if_neg h3,if_neg E,if_neg (by simp[actT,h1,h2,h3,E])];rfl
def actK(t:Bs)(es:ES)(l1:List Wd):Px (Ac × ES):=if t=zd6 then zd8 es l1 else if t=modT then aMod es l1 else if t=zdV then zds es l1 else aAdd es l1
theorem zrh{s:Ps}{es:ES}{t:Bs}(hg:zqz s)(ht:∀ y l,onS (stS (onS s (zai 40))) (oneM 5 actT)=.ok (y,l)->y=t):onS s (actM es)=onS (stS (onS (stS (onS s (zai 40))) (oneM 5 actT))) (actK t es):=by
 cases s with
 | error f=>rfl
 | ok l=>
  have hf:=Fine.take 40 l hg;simp only[onS,actM]at ht ⊢
  cases hk:zai 40 l with
  | error f=>rfl
  | ok q=>
   obtain ⟨x,l1⟩:=q;rw[hk]at hf ht;rw[zak,zrI hf];simp only[stS]at ht ⊢
   cases ho:oneM 5 actT l1 with
   | error f=>rfl
   | ok q=>
    obtain ⟨E,l2⟩:=q;obtain rfl:=ht E l2 ho;rfl
theorem zpR{s:Ps}{t:Bs}(ht:∀ y l,onS s (oneM 5 actT)=.ok (y,l)->y=t)(hn:t ∉ actT):∃ f,stS (onS s (oneM 5 actT))=.error f:=by
 cases s with
 | error f=>exact ⟨f,rfl⟩
 | ok l=>
  simp only[onS]at ht ⊢
  cases ho:oneM 5 actT l with
  | error f=>exact ⟨f,rfl⟩
  | ok q=>
   obtain ⟨E,l2⟩:=q;obtain rfl:=ht E l2 ho;exact absurd (zq7 ho) hn
theorem zmG{s2:Ps}{es:ES}:(∃ f,onS s2 (actK zd6 es)=.error f/\onS s2 (zai 41)=.error f)∨∃ x l,onS s2 (actK zd6 es)=.ok ((⟨4,0,mkS [],[]⟩,es),l)/\onS s2 (zai 41)=.ok (x,l):=by
 cases s2 with
 | error f=>exact .inl ⟨f,rfl,rfl⟩
 | ok l=>
  simp only[onS,actK,if_true,zd8]
  cases zai 41 l with
  | error f=>exact .inl ⟨f,rfl,rfl⟩
  | ok q=>exact .inr ⟨q.1,q.2,rfl,rfl⟩
theorem znm{s2:Ps}{es:ES}{k:Int}(hk:∀ y l,onS s2 pRef=.ok (y,l)->y=k):(∃ f,onS s2 (actK zdV es)=.error f/\onS (stS (onS s2 pRef)) (zai 41)=.error f)∨∃ x l,onS s2 (actK zdV es)=.ok ((⟨2,k,mkS [],[]⟩,es),l)/\onS (stS (onS s2 pRef)) (zai 41)=.ok (x,l):=by
 cases s2 with
 | error f=>exact .inl ⟨f,rfl,rfl⟩
 | ok l=>
  have e:actK zdV es l=zds es l:=by unfold actK;rw[if_neg (by decide),if_neg (by decide),if_pos rfl]
  simp only[onS]at hk ⊢;rw[e];unfold zds
  cases hr:pRef l with
  | error f=>exact .inl ⟨f,rfl,rfl⟩
  | ok q=>
   obtain ⟨E,l1⟩:=q;obtain rfl:=hk E l1 hr;rw[zak];simp only[stS]
   cases zai 41 l1 with
   | error f=>exact .inl ⟨f,rfl,rfl⟩
   | ok q=>exact .inr ⟨q.1,q.2,rfl,rfl⟩
theorem zoN{s2 sx:Ps}{es es':ES}{k:Int}{M:List Int}(hk:∀ y l,onS s2 pRef=.ok (y,l)->y=k)(hE:(∃ f,onS (stS (onS s2 pRef)) (zaB (zaw 20) 6 es)=.error f/\onS sx (zai 41)=.error f)∨∃ x l,onS (stS (onS s2 pRef)) (zaB (zaw 20) 6 es)=.ok ((M,es'),l)/\onS sx (zai 41)=.ok (x,l)):(∃ f,onS s2 (actK modT es)=.error f/\onS sx (zai 41)=.error f)∨∃ x l,onS s2 (actK modT es)=.ok ((⟨3,k,mkS [],M⟩,es'),l)/\onS sx (zai 41)=.ok (x,l):=by
 have E:onS s2 (actK modT es)=andP (onS (stS (onS s2 pRef)) (zaB (zaw 20) 6 es)) fun p l2=>.ok ((⟨3,k,mkS [],p.1⟩,p.2),l2):=by
  cases s2 with
  | error f=>rfl
  | ok l=>
   have e:actK modT es l=aMod es l:=by unfold actK;rw[if_neg (by decide),if_pos rfl]
   simp only[onS]at hk ⊢;rw[e];unfold aMod
   cases hr:pRef l with
   | error f=>rfl
   | ok q=>
    obtain ⟨G,l1⟩:=q;obtain rfl:=hk G l1 hr;rfl
 rw[E];rcases hE with ⟨f,h1,h2⟩ | ⟨x,l,h1,h2⟩
 ·exact .inl ⟨f,by rw[h1];rfl,h2⟩
 exact .inr ⟨x,l,by rw[h1];rfl,h2⟩
theorem zpo{s2 sx:Ps}{es es':ES}{cl:Bs}{M:List Int}(hk:∀ y l,onS s2 za3=.ok (y,l)->y=cl)(hE:(∃ f,onS (stS (onS s2 za3)) (zaB (zaw 20) 6 es)=.error f/\onS sx (zai 41)=.error f)∨∃ x l,onS (stS (onS s2 za3)) (zaB (zaw 20) 6 es)=.ok ((M,es'),l)/\onS sx (zai 41)=.ok (x,l)):(∃ f,onS s2 (actK addT es)=.error f/\onS sx (zai 41)=.error f)∨∃ x l,onS s2 (actK addT es)=.ok ((⟨1,0,mkS cl,M⟩,es'),l)/\onS sx (zai 41)=.ok (x,l):=by
 have E:onS s2 (actK addT es)=andP (onS (stS (onS s2 za3)) (zaB (zaw 20) 6 es)) fun p l2=>.ok ((⟨1,0,mkS cl,p.1⟩,p.2),l2):=by
  cases s2 with
  | error f=>rfl
  | ok l=>
   have e:actK addT es l=aAdd es l:=by unfold actK;rw[if_neg (by decide),if_neg (by decide),if_neg (by decide)]
   simp only[onS]at hk ⊢;rw[e];unfold aAdd
   cases hr:za3 l with
   | error f=>rfl
   | ok q=>
    obtain ⟨G,l1⟩:=q;obtain rfl:=hk G l1 hr;rfl
 rw[E];rcases hE with ⟨f,h1,h2⟩ | ⟨x,l,h1,h2⟩
 ·exact .inl ⟨f,by rw[h1];rfl,h2⟩
 exact .inr ⟨x,l,by rw[h1];rfl,h2⟩
end Go.Proofs.YtjjjagepnnbebaaGreatDoor
