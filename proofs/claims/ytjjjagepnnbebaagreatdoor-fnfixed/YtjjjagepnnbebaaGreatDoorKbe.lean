/-
  OUR OWN TEXT. Pt4, Pt5, Pt6, one behind the other.
-/
import Derived.Test.YtjjjagepnnbebaaGreatDoorKbc
import Derived.Test.YtjjjagepnnbebaaGreatDoorHwm
import Derived.Deep.CutBlock
import Derived.Deep.DeepCutAuto
set_option maxHeartbeats 6400000
set_option maxRecDepth 100000
namespace Go.Proofs.YtjjjagepnnbebaaGreatDoor
open Go.RowKit
attribute [local go_sem ↓] Go.wp_at_zero Go.wp_at_succ
theorem zeW:(Tryz.prog.info? 97).map (·.size)=some 8:=by kernel_rfl
theorem zfY:(Tryz.prog.info? 97).map (fun i=>(i.zero,i.size,i.bytes))=some (some (.agg #[.int .i64 0,.int .u8 0,.string ⟨#[]⟩,.int .i64 0,.int .i64 0,.string ⟨#[]⟩,.int .i64 0,.int .i64 0]),8,80):=by kernel_rfl
structure MkX (pb:Nat) (ob:Option Nat) (w w':World):Prop where
 rest:Below 0 w w'
 block:∀ g,g<w.heap.size->pb≠g->ob≠some g->w'.heap[g]?=w.heap[g]?
theorem MkX.refl(pb:Nat)(ob:Option Nat)(w:World):MkX pb ob w w:=⟨Below.refl _ _,fun _ _ _ _=>rfl⟩
theorem MkX.of{pb:Nat}{ob:Option Nat}{w w':World}(h:MkO (some pb) w w'):MkX pb ob w w':=⟨h.rest,fun g hg hp _=>h.block g hg (fun e=>hp (by injection e))⟩
def RowX(ob ob':Option Nat)(n:Nat):Prop:=ob'=ob∨∀ g,ob'=some g->n<=g
theorem MkX.trans{pb:Nat}{ob E:Option Nat}{u v w:World}(h:MkX pb ob u v)(k:MkX pb E v w)(hr:RowX ob E u.heap.size):MkX pb ob u w:=
 ⟨h.rest.trans k.rest,fun g hg hp ho=>(k.block g (Nat.lt_of_lt_of_le hg h.rest.size) hp (fun e=>by
  rcases hr with hr | hr
  ·exact ho (hr ▸ e)
  have:=hr g e
  omega)).trans (h.block g hg hp ho)⟩
theorem RowX.trans{ob E G:Option Nat}{n m:Nat}(h:RowX ob E n)(k:RowX E G m)(hn:n<=m):RowX ob G n:=by
 rcases k with k | k
 ·rw[k];exact h
 exact .inr fun g hg=>Nat.le_trans hn (k g hg)
theorem MkX.turn{pb:Nat}{ob:Option Nat}{w E w3:World}{r:Nat}(h:MkX pb ob w E)(ht:Turned E w3 r)(hr:w.heap.size<=r):MkX pb ob w w3:=
 ⟨h.rest.trans (ht.below (Nat.zero_le _)),fun g hg hp ho=>(ht.block g (by omega)).trans (h.block g hg hp ho)⟩
theorem MkX.below{pb:Nat}{ob:Option Nat}{u v w:World}(h:MkX pb ob u v)(k:Below v.heap.size v w):MkX pb ob u w:=
 ⟨h.rest.trans (k.mono (Nat.zero_le _)),fun g hg hp ho=>(k.block g (Nat.lt_of_lt_of_le hg h.rest.size)).trans (h.block g hg hp ho)⟩
def RE(am cm rv lv:Value)(s:ES)(ea:Option Addr)(ec:Nat):List Value:=RL am cm rv lv (.slice ea s.1.length ec) (.int .i64 (s.2:Int))
structure ExS (w:World) (B pb:Nat) (src:Bs) (a:Option Addr) (c:Nat) (l:List Wd) (am cm rv lv:Value) (s:ES) (ea:Option Addr) (ec:Nat):Prop where
 ps:PSt w pb src a c l (RE am cm rv lv s ea ec)
 ow:w.ownsRow B 97 8 (.slice ea s.1.length ec) s.1.length (s.1.flatMap exC)
 lt:pb<B
 le:B<=w.heap.size
abbrev obE(s:ES)(ea:Option Addr)(ec:Nat):Option Nat:=(Value.slice ea s.1.length ec).ownBlock
theorem ExS.below{w w':World}{B pb:Nat}{src:Bs}{a:Option Addr}{c:Nat}{l:List Wd}{am cm rv lv:Value}{s:ES}{ea:Option Addr}{ec:Nat}(h:ExS w B pb src a c l am cm rv lv s ea ec)(hb:Below w.heap.size w w'):ExS w' B pb src a c l am cm rv lv s ea ec:=⟨h.ps.below hb,zao h.ow hb,h.lt,Nat.le_trans h.le hb.size⟩
theorem ExS.mko{w w':World}{B pb:Nat}{src:Bs}{a:Option Addr}{c:Nat}{l l':List Wd}{am cm rv lv:Value}{s:ES}{ea:Option Addr}{ec:Nat}(h:ExS w B pb src a c l am cm rv lv s ea ec)(hm:MkO (some pb) w w')(hp:PSt w' pb src a c l' (RE am cm rv lv s ea ec)):ExS w' B pb src a c l' am cm rv lv s ea ec:=⟨hp,zbq h.ow hm h.lt,h.lt,Nat.le_trans h.le hm.rest.size⟩
theorem ExS.turned{w w':World}{B pb g:Nat}{src:Bs}{a:Option Addr}{c:Nat}{l:List Wd}{am cm rv lv:Value}{s:ES}{ea:Option Addr}{ec:Nat}{cs:Array Value}{t:TypeId}(h:ExS w B pb src a c l am cm rv lv s ea ec)(ht:Turned w w' g)(hg:pb<g)(hb:w.heap[g]?=some (.cells cs t (0,0)))(E:g<w.heap.size->∀ k,obE s ea ec=some k->k≠g):ExS w' B pb src a c l am cm rv lv s ea ec:=
 ⟨h.ps.turned ht hg,zar h.ow fun k hk=>ht.block k (E (zab hb) k hk),h.lt,by rw[ht.size];exact h.le⟩
def EPost{α:Type}(w:World)(B pb:Nat)(src:Bs)(a:Option Addr)(c:Nat)(am cm rv lv:Value)(ob:Option Nat)(Q:α->Ending->World->Prop)(r:Px (α × ES))(e:Ending)(w':World):Prop:=MkX pb ob w w'/\match r with
 | .error f=>e=fltE f
 | .ok (p,l)=>Q p.1 e w'/\∃ ea ec,ExS w' B pb src a c l am cm rv lv p.2 ea ec/\RowX ob (obE p.2 ea ec) w.heap.size
theorem EPost.err{α:Type}{w w':World}{B pb:Nat}{src:Bs}{a:Option Addr}{c:Nat}{am cm rv lv:Value}{ob:Option Nat}{Q:α->Ending->World->Prop}{r:Px (α × ES)}{f:Flt}(hr:r=.error f)(hm:MkX pb ob w w'):EPost w B pb src a c am cm rv lv ob Q r (fltE f) w':=by
 subst hr;exact ⟨hm,rfl⟩
theorem EPost.good{α:Type}{w w':World}{B pb:Nat}{src:Bs}{a:Option Addr}{c:Nat}{am cm rv lv:Value}{ob:Option Nat}{Q:α->Ending->World->Prop}{r:Px (α × ES)}{x:α}{s:ES}{l:List Wd}{e:Ending}{ea:Option Addr}{ec:Nat}(hr:r=.ok ((x,s),l))(hm:MkX pb ob w w')(E:Q x e w')(hs:ExS w' B pb src a c l am cm rv lv s ea ec)(ho:RowX ob (obE s ea ec) w.heap.size):EPost w B pb src a c am cm rv lv ob Q r e w':=by
 subst hr;exact ⟨hm,E,ea,ec,hs,ho⟩
def Rint(i:Int)(e:Ending)(_:World):Prop:=e=.returned (.int .i64 i)
def Rex(x:Ex)(e:Ending)(_:World):Prop:=e=.returned (.agg (exC x).toArray)
def zoG(f:Nat):Prop:=∀ (w:World) (B pb:Nat) (src:Bs) (a:Option Addr) (c:Nat) (l:List Wd) (am cm rv lv:Value) (s:ES) (ea:Option Addr) (ec:Nat) (d:Int) (k:Nat),ExS w B pb src a c l am cm rv lv s ea ec->0<=d->d+(f:Int)=20->s.1.length+k<=s.2->s.2<=60->Calls Tryz.prog 131 #[.pointer (some ⟨pb,0,none⟩),.int .i64 d] w (EPost w B pb src a c am cm rv lv (obE s ea ec) Rint (zaw f s l))
theorem zhX{x:Wd}(h:pkW x=43):∃ b,ptW x=[b]:=by
 unfold pkW at h;split at h
 ·omega
 split at h
 ·omega
 split at h
 ·omega
 rename_i O h1 h2;unfold ptW;rw[if_neg O,if_neg h1,if_neg h2];unfold pkind at h;unfold ptext;split at h
 ·omega
 split at h
 ·omega
 split at h
 ·omega
 split at h
 ·omega
 split at h
 ·rename_i g1 g2 I G E;rw[if_neg g1,if_neg g2,if_neg I,if_neg G,if_pos E];exact znu E
 split at h
 ·omega
 split at h <;> omega
theorem zpd(f:Nat)(hE:zoG f)(w:World)(B pb:Nat)(src:Bs)(a:Option Addr)(c:Nat)(l:List Wd)(am cm rv lv:Value)(s:ES)(ea:Option Addr)(ec:Nat)(d:Int)(k:Nat)(h:ExS w B pb src a c l am cm rv lv s ea ec)(bp:0<=d)(hd:d+1+(f:Int)=20)(hk:s.1.length+k<=s.2)(h60:s.2<=60):Calls Tryz.prog 158 #[.pointer (some ⟨pb,0,none⟩),.int .i64 d] w (EPost w B pb src a c am cm rv lv (obE s ea ec) Rex (pOp f s l)):=by
 have bi:=wfield2;have HP:=hidX h;have bn:=h.ps.lt;have bl:=h.le;have bj:=h.lt;have HE:=hidX hE;clear h hE;go_enter Tryz.func158,Tryz.ntmps158;go_upto_region 1 with fail
 refine zaf ?_;intro w1 aD aE;have P1:=hidX (HP.out.below aD);have E:=hidX (zbt w1 pb src a c l _ 43 P1.out.ps);have bf:w.heap.size<w1.heap.size:=zab aE;have M1:=hidX (MkX.of (MkO.of_below aD):MkX pb (obE s ea ec) w w1);have aS:=hidX aE;have aj:=hidX (fun k (hk:obE s ea ec=some k)=>(HP.out.ow.lt k hk).2);clear aD aE
 cases hr:zai 43 l with
 | error e=>
  have HT:Hid (pOp f s l=.error e):=show _=_ from by unfold pOp;rw[hr];rfl
  rw[hr]at E;go_wp2_with (first | (go_at_call 85;refine E.out.mono ?_;rintro e Z ⟨I,rfl⟩;unfold fltE) | fail);exact ⟨rfl,EPost.err HT.out (M1.out.trans (MkX.of I) (.inl rfl))⟩
 | ok p=>
  obtain ⟨o,l1⟩:=p;rw[hr]at E;obtain ⟨b,hb⟩:=zhX (ziT hr).2;have aG:Hid (pOp f s l=andP (zaw f s l1) fun p l2=>andP (zaw f p.2 l2) fun q l3=>andP (zai 41 l3) fun _ l4=>.ok ((⟨2,(b.toNat:Int),mkS [],zVr,p.1,q.1⟩,q.2),l4)):=show _=_ from by unfold pOp;rw[hr,zbc,hb];rfl
  have ba:=hidX hb;have a7:(0:Nat)<(mkS [b]).size:=Nat.zero_lt_one;have bh:((mkS [b])[0]'a7)=b:=rfl;clear hb hr;go_upto_region 2 with (first | (go_at_call 85;refine E.out.mono ?_;rintro e Z ⟨I,az,aP⟩;replace az:e=.returned (pwA o):=az;subst az;unfold pwA;rw[ba.out]) | fail);refine zaf ?_;intro w3 ao aC;have s2:=I.rest.size;have s3:Z.heap.size<w3.heap.size:=zab aC;have P3:=hidX ((P1.out.mko I aP).below ao);have M3:=hidX ((M1.out.trans (MkX.of I) (.inl rfl)).below ao);have aR:=hidX (show w3.heap[Z.heap.size]?=some (.cells (exC ⟨2,(b.toNat:Int),mkS [],zVr,0,0⟩).toArray 97 (0,0)) from aC);have aw:=hidX ((ao.block w.heap.size (by omega)).trans ((I.block w.heap.size bf (fun e=>by injection e;omega)).trans aS.out));have af:=hidX (HE.out w3 B pb src a c l1 am cm rv lv s ea ec (d+1) k P3.out (by omega) hd hk h60);have bk:d+1<=20:=by omega
  clear ao aC I aP E aS M1 P1 a7 bh
  cases h1:zaw f s l1 with
  | error e=>
   have HT:Hid (pOp f s l=.error e):=show _=_ from by rw[aG.out,h1];rfl
   rw[h1]at af;clear h1;go_wp2_with (first | (go_at_call 131;refine af.out.mono ?_;rintro e w4 ⟨O,rfl⟩;unfold fltE) | fail);exact ⟨rfl,EPost.err HT.out (M3.out.trans O (.inl rfl))⟩
  | ok p=>
   obtain ⟨⟨i,s1⟩,l2⟩:=p;obtain ⟨bc,a1⟩:=zc3 f s l1 l2 k i s1 hk h60 h1;rw[h1]at af;have ab:Hid (pOp f s l=andP (zaw f s1 l2) fun q l3=>andP (zai 41 l3) fun _ l4=>.ok ((⟨2,(b.toNat:Int),mkS [],zVr,i,q.1⟩,q.2),l4)):=show _=_ from by rw[aG.out,h1];rfl
   clear h1 aG;go_upto_region 3 with (first | (go_at_call 131;refine af.out.mono ?_;rintro e w4 ⟨O,aB,ak,aq,aT,ap⟩;replace aB:e=.returned (.int .i64 i):=aB;subst aB;have aF:=(show ∀ k,obE s1 ak aq=some k->k≠Z.heap.size from fun k hk=>by (rcases ap with e | e;(have:=aj.out k (e ▸ hk);omega);(have:=e k hk;omega)));have s4:=O.rest.size;have ad:=(O.block Z.heap.size s3 (by omega) (fun e=>by have:=aj.out _ e;omega)).trans aR.out;have d6:=zae ad (j:=6) rfl;have f6:=zax ad 6) | fail);have ay:=hidX ((O.block w.heap.size (by omega) (by omega) (fun e=>by have:=aj.out _ e;omega)).trans aw.out);have M4:=hidX (M3.out.trans O (.inl rfl));have aI:=hidX (show ∀ k,obE s1 ak aq=some k->k≠w.heap.size from fun k hk=>by (rcases ap with e | e;(have:=aj.out k (e ▸ hk);omega);(have:=e k hk;omega)));have R4:=hidX (show RowX (obE s ea ec) (obE s1 ak aq) w.heap.size from ap.imp id fun h g hg=>by have:=h g hg;omega);refine zau ad ?_;intro w5 aM X;have aV:=hidX (show w5.heap[Z.heap.size]?=some (.cells (exC ⟨2,(b.toNat:Int),mkS [],zVr,i,0⟩).toArray 97 (0,0)) from aM);have P5:=hidX (aT.turned X (by omega) ad (fun _=>aF));have M5:=hidX (M4.out.turn X (by omega));have s5:=X.size;have bo:w4.heap.size<=w5.heap.size:=Nat.le_of_eq s5.symm;have ar:=hidX ((X.block w.heap.size (by omega)).trans ay.out);have aN:=hidX aF;have ag:=hidX (HE.out w5 B pb src a c l2 am cm rv lv s1 ak aq (d+1) k P5.out (by omega) hd bc a1);clear O aT ap ad aM X s5 d6 f6 af aR aw M3 P3 ay M4 aF
   cases h2:zaw f s1 l2 with
   | error e=>
    have HT:Hid (pOp f s l=.error e):=show _=_ from by rw[ab.out,h2];rfl
    rw[h2]at ag;clear h2;go_wp2_with (first | (go_at_call 131;refine ag.out.mono ?_;rintro e w6 ⟨U,rfl⟩;unfold fltE) | fail);exact ⟨rfl,EPost.err HT.out (M5.out.trans U R4.out)⟩
   | ok p=>
    obtain ⟨⟨j,sq⟩,l3⟩:=p;rw[h2]at ag;have ax:Hid (pOp f s l=andP (zai 41 l3) fun _ l4=>.ok ((⟨2,(b.toNat:Int),mkS [],zVr,i,j⟩,sq),l4)):=show _=_ from by rw[ab.out,h2];rfl
    clear h2 ab;go_upto_region 4 with (first | (go_at_call 131;refine ag.out.mono ?_;rintro e w6 ⟨U,aH,aW,aQ,aU,al⟩;replace aH:e=.returned (.int .i64 j):=aH;subst aH;have aK:=(show ∀ k,obE sq aW aQ=some k->k≠Z.heap.size from fun k hk=>by (rcases al with e | e;(exact aN.out k (e ▸ hk));(have:=e k hk;omega)));have s6:=U.rest.size;have ae:=(U.block Z.heap.size (by omega) (by omega) (fun e=>aN.out _ e rfl)).trans aV.out;have d7:=zae ae (j:=7) rfl;have f7:=zax ae 7) | fail);have au:=hidX ((U.block w.heap.size (by omega) (by omega) (fun e=>aI.out _ e rfl)).trans ar.out);have aX:=hidX (show ∀ k,obE sq aW aQ=some k->k≠w.heap.size from fun k hk=>by (rcases al with e | e;(exact aI.out k (e ▸ hk));(have:=e k hk;omega)));have M6:=hidX (M5.out.trans U R4.out);have R6:=hidX (R4.out.trans al (by omega));refine zau ae ?_;intro w7 aY ah;have bb:=hidX (show w7.heap[Z.heap.size]?=some (.cells (exC ⟨2,(b.toNat:Int),mkS [],zVr,i,j⟩).toArray 97 (0,0)) from aY);have P7:=hidX (aU.turned ah (by omega) ae (fun _=>aK));have M7:=hidX (M6.out.turn ah (by omega));have s7:=ah.size;have bm:w6.heap.size<=w7.heap.size:=Nat.le_of_eq s7.symm;have aZ:=hidX ((ah.block w.heap.size (by omega)).trans au.out);have E:=hidX (zbt w7 pb src a c l3 _ 41 P7.out.ps);clear U aU al ae aY ah s7 d7 f7 ag aV ar M5 P5 au M6 aK
    cases h3:zai 41 l3 with
    | error e=>
     have HT:Hid (pOp f s l=.error e):=show _=_ from by rw[ax.out,h3];rfl
     rw[h3]at E;clear h3;go_wp2_with (first | (go_at_call 85;refine E.out.mono ?_;rintro e w8 ⟨G,rfl⟩;unfold fltE) | fail);exact ⟨rfl,EPost.err HT.out (M7.out.trans (MkX.of G) R6.out)⟩
    | ok p=>
     obtain ⟨y,l4⟩:=p;have HT:Hid (pOp f s l=.ok ((⟨2,(b.toNat:Int),mkS [],zVr,i,j⟩,sq),l4)):=show _=_ from by rw[ax.out,h3];rfl
     rw[h3]at E;clear h3;go_upto_region 5 with (first | (go_at_call 85;refine E.out.mono ?_;rintro e w8 ⟨G,aA,aL⟩;replace aA:e=.returned (pwA y):=aA;subst aA;unfold pwA) | fail);have s8:=G.rest.size;have a8:=(G.block Z.heap.size (by omega) (fun e=>by injection e;omega)).trans bb.out;have aJ:=(G.block w.heap.size (by omega) (fun e=>by injection e;omega)).trans aZ.out;have M8:=hidX (M7.out.trans (MkX.of G) R6.out);have P8:=hidX (P7.out.mko G aL);clear G aL E;go_wp2_with (first | (refine zam (by rfl) 97 (.tmp 5) (by rfl) Z.heap.size (exC ⟨2,(b.toNat:Int),mkS [],zVr,i,j⟩) (by rfl) 97 (0,0) a8 _ Tryz.underlying97 rfl zeW ?_) | (refine zac (by rfl) 97 (.tmp 4) (.tmp 23) (by rfl) w.heap.size (exC ⟨2,(b.toNat:Int),mkS [],zVr,i,j⟩) (by rfl) (by rfl) _ 97 aJ (by rfl) zeW (zdb _) ?_;intro w9 bd aO) | fail);have a6:=run_loadVar_mid (P:=Tryz.prog) w9 w.heap.size 0 97 (exC ⟨2,(b.toNat:Int),mkS [],zVr,i,j⟩) _ (zal bd.out) Tryz.underlying97 rfl zeW;(try go_frame);exact bodyPost_ret (v:=.agg (exC ⟨2,(b.toNat:Int),mkS [],zVr,i,j⟩).toArray) (by simp[results,Tryz.results158,asAddr,a6]) rfl (EPost.good HT.out (M8.out.turn aO.out (Nat.le_refl _)) rfl (P8.out.turned aO.out (by omega) aJ (fun _=>aX.out)) R6.out)
theorem PSt.cellSet{w w':World}{pb j:Nat}{src:Bs}{a:Option Addr}{c:Nat}{l:List Wd}{R:List Value}{v:Value}(h:PSt w pb src a c l R)(hv:w'=w.setCell ⟨pb,j+2,none⟩ v):PSt w' pb src a c l (R.set j v):=by
 subst hv;obtain ⟨k,hs⟩:=h.sc;have hb:Below pb w (w.setCell ⟨pb,j+2,none⟩ v):=(Turned.setCells [v] (j+2) w pb).below (Nat.le_refl pb);obtain ⟨O,G,I,E⟩:=hs.pos;refine ⟨⟨k,⟨?_,rfl,hs.cap,hs.len,hs.bys.keep hs.far hb,hs.far,O,G,?_,E⟩⟩,h.env.keep hb⟩
 ·have:=zap (i:=j+2) hs.blk v;rw[this];simp
 simpa using I
theorem ExS.begun{w w':World}{B pb:Nat}{src:Bs}{a:Option Addr}{c:Nat}{l:List Wd}{am cm rv lv:Value}{s:ES}{ea:Option Addr}{ec:Nat}(h:ExS w B pb src a c l am cm rv lv s ea ec)(n:Nat)(hv:w'=w.setCell ⟨pb,7,none⟩ (.int .i64 (n:Int))):ExS w' B pb src a c l am cm rv lv (s.1,n) ea ec:=by
 refine ⟨h.ps.cellSet (j:=5) hv,?_,h.lt,?_⟩
 ·subst hv;refine zar h.ow fun k hk=>Below.heap_setCell _ _ _ _ (fun e=>?_);have:=(h.ow.lt k hk).1;have:=h.lt;simp at e;omega
 subst hv;have:=h.le;simp[World.setCell];exact this
theorem zb5{P:World->Prop}{w:World}(h:∀ E,E=w->P E):P w:=h _ rfl
structure ExB (w wx:World) (B pb eb:Nat) (src:Bs) (a:Option Addr) (c:Nat) (am cm rv lv:Value) (ob:Option Nat) (r:Px (Int × ES)) (x:Ex) (s:ES) (l:List Wd) (ea:Option Addr) (ec:Nat):Prop where
 mo:MkX pb ob w wx
 st:ExS wx B pb src a c l am cm rv lv s ea ec
 rw':RowX ob (obE s ea ec) w.heap.size
 bx:wx.heap[eb]?=some (.cells (exC x).toArray 97 (0,0))
 ne:∀ k,obE s ea ec=some k->k≠eb
 pe:r=.ok (((s.1.length:Int),(s.1 ++ [x],s.2)),l)
 le:s.1.length<=60
theorem zln(f:Nat)(hO:∀ f',f=f'+1->zoG f'):zoG f:=by
 intro w B pb src a c l am cm rv lv s ea ec d k h bk hd hk h60;have HP:=hidX h;have bp:=h.ps.lt;have bo:=h.le;have aI:=h.lt;have HO:=hidX hO;have c7:=h.ps.cell (j:=5) rfl;have au:=hidX (fun k (hk:obE s ea ec=some k)=>(HP.out.ow.lt k hk).2);have aH:=hidX (zgH w pb src a c l _ (s.2:Int) 60 h.ps);have HD:=hidX hd;clear h hO;go_enter Tryz.func131,Tryz.ntmps131
 cases hb:zaW (s.2:Int) 60 l with
 | error e=>
  have HT:=hidX (zdc (f:=f) hb);rw[hb]at aH;clear hb;go_wp2_with (first | (go_at_call 130;refine aH.out.mono ?_;rintro e w2 ⟨ar,rfl⟩;unfold fltE) | fail);exact ⟨rfl,EPost.err HT.out (MkX.of ar)⟩
 | ok u=>
  have hu:=zlU hb;subst hu;have HB:=hidX hb;rw[hb]at aH;clear hb;go_upto_region 2 with (first | (go_at_call 130;refine aH.out.mono ?_;rintro e w2 ⟨ar,aV,aX⟩;replace aV:e=.returned (.tuple #[]):=aV;subst aV) | fail);have P2:=hidX (HP.out.mko ar aX);have M2:=hidX (MkX.of ar:MkX pb (obE s ea ec) w w2);have s2:=ar.rest.size;have d7:=P2.out.ps.cell (j:=5) rfl;obtain ⟨bs,bf⟩:∃ cs,w2.heap[pb]?=some (.cells cs 56 (0,0)):=by
   obtain ⟨k',aE⟩:=P2.out.ps.sc;exact ⟨_,aE.blk⟩
  have f7:=zax bf 7;clear ar aX aH c7;go_upto_region 3 with fail
  refine zb5 ?_;intro w3 ay;replace ay:w3=w2.setCell ⟨pb,7,none⟩ (.int .i64 ((s.2+1:Nat):Int)):=ay.trans (by rw[show ((s.2+1:Nat):Int)=(s.2:Int)+1 by omega]);have P3:=hidX (P2.out.begun (s.2+1) ay);have m3:MkO (some pb) w2 w3:=by rw[ay];exact MkO.set _
  have M3:=hidX (M2.out.trans (MkX.of m3) (.inl rfl));have s3:=m3.rest.size;clear ay m3 d7 f7 bf P2 M2;go_upto_region 4 with fail
  refine zaf ?_;intro w4 aQ aU;have s4:w3.heap.size<w4.heap.size:=zab aU;have P4:=hidX (P3.out.below aQ);have M4:=hidX (M3.out.below aQ);have bc:=hidX aU;have ax:=hidX (zfy w4 pb src a c l _ P4.out.ps);clear aQ aU P3 M3
  cases hn:zaj l with
  | error e=>
   have HT:=hidX (zdC (f:=f) HB.out hn);rw[hn]at ax;clear hn;go_wp2_with (first | (go_at_call 132;refine ax.out.mono ?_;rintro e w5 ⟨al,rfl⟩;unfold fltE) | fail);exact ⟨rfl,EPost.err HT.out (M4.out.trans (MkX.of al) (.inl rfl))⟩
  | ok p=>
   obtain ⟨x,l1⟩:=p;rw[hn]at ax;have HN:=hidX hn;clear hn;go_upto_region 5 with (first | (go_at_call 132;refine ax.out.mono ?_;rintro e w5 ⟨al,aS,aW⟩;replace aS:e=.returned (pwA x):=aS;subst aS;unfold pwA) | fail);refine zaf ?_;intro w6 aM ah;obtain ⟨L,X,aw,aJ,ah,y0⟩:=zfk ah;have s5:=al.rest.size;have s6:w5.heap.size<w6.heap.size:=zab ah;have P6:=hidX ((P4.out.mko al aW).below aM);have M6:=hidX ((M4.out.trans (MkX.of al) (.inl rfl)).below aM);have aF:=(aM.block w3.heap.size (by omega)).trans ((al.block w3.heap.size s4 (fun e=>by injection e;omega)).trans bc.out);have y2:=(zfK aw ah).1;have U:=hidX aw.out.1;clear aM al aW ax bc P4 M4
   go_upto_block 0 with fail
   go_cut [] (fun wx=>∃ x' s' l' ea' ec',ExB w wx B pb w3.heap.size src a c am cm rv lv (obE s ea ec) (zaw f s l) x' s' l' ea' ec')
   case first=>
    by_cases ad:X=48∨X=97
    ·have HT:=hidX (zcw (f:=f) HB.out HN.out (by rw[<- U.out];exact ad));have a6:s.2<60:=zdh HB.out HN.out (by rw[<- U.out];omega) (by rw[<- U.out];omega);obtain ⟨v,hv⟩:∃ v,v=wVal (pkW x) x.num (ptW x):=⟨_,rfl⟩
     have bh:=hidX (zkh aw);rw[<- hv]at HT bh;have bn:(X==48)=true∨((X==48)=false/\(X==97)=true):=by
      rcases ad with h | h
      ·exact .inl (by simp[h])
      exact .inr ⟨by simp[h],by simp[h]⟩
     clear ad hv;rcases bn with e1 | ⟨e1,e2⟩
     all_goals
      go_wp2_with (first | (refine zam (by rfl) 131 (.tmp 6) (by rfl) w5.heap.size L (by rfl) 131 (0,0) ah _ Tryz.underlying131 rfl aJ.1 ?_) | (go_at_call 133;refine (bh.out _).mono ?_;intro e I bl;obtain ⟨ap,ao⟩:=bl;replace ap:e=.returned (.agg #[.int .i64 v.kind,.int .i64 v.num,.string v.sym]):=ap;subst ap;have aG:=(ao.block w3.heap.size (by omega)).trans aF) | (refine zac (by rfl) 97 (.tmp 5) (.tmp 34) (by rfl) w3.heap.size (exC ⟨0,0,mkS [],v,0,0⟩) (by rfl) (by rfl) _ 97 aG (by rfl) zeW (zdb _) ?_;intro w8 aD ae) | fail);go_meet;exact ⟨⟨0,0,mkS [],v,0,0⟩,(s.1,s.2+1),l1,ea,ec,(M6.out.below ao).turn ae.out (by omega),(P6.out.below ao).turned ae.out (by omega) aG (fun _ k hk=>by have:=au.out k hk;omega),.inl rfl,aD.out,fun k hk=>by (have:=au.out k hk;omega),HT.out,by (show s.1.length<=60);omega⟩
    have e1:(X==48)=false:=by simp;omega
    have e2:(X==97)=false:=by simp;omega
    by_cases h63:X=63
    ·have HT:=hidX (zdF (f:=f) HB.out HN.out (by rw[<- U.out];exact h63));have a6:s.2<60:=zdh HB.out HN.out (by rw[<- U.out];omega) (by rw[<- U.out];omega);have e3:(X==63)=true:=by simp[h63]
     clear ad h63;go_wp2_with (first | (refine zac (by rfl) 97 (.tmp 5) (.tmp 39) (by rfl) w3.heap.size (exC ⟨1,0,mkS (ptW x),zVr,0,0⟩) (by rfl) (by rfl) _ 97 aF (by rfl) zeW (zdb _) ?_;intro w8 aD ae) | fail);go_meet;exact ⟨⟨1,0,mkS (ptW x),zVr,0,0⟩,(s.1,s.2+1),l1,ea,ec,M6.out.turn ae.out (by omega),P6.out.turned ae.out (by omega) aF (fun _ k hk=>by have:=au.out k hk;omega),.inl rfl,aD.out,fun k hk=>by (have:=au.out k hk;omega),HT.out,by (show s.1.length<=60);omega⟩
    have e3:(X==63)=false:=by simp[h63]
    by_cases af:X=40
    ·have a6:s.2<60:=zdh HB.out HN.out (by rw[<- U.out];omega) (by rw[<- U.out];omega);have e4:(X==40)=true:=by simp[af]
     cases f with
     | zero=>
      have HT:=hidX (zex HB.out HN.out (by rw[<- U.out];exact af));have a1:(20:Int)<=d:=by omega
      clear ad h63 af;go_wp2_with (first | (refine zam (by rfl) 131 (.tmp 6) (by rfl) w5.heap.size L (by rfl) 131 (0,0) ah _ Tryz.underlying131 rfl aJ.1 ?_) | (go_at_call 93;refine (zdH aw 4 _).mono ?_;rintro e I ⟨rfl,ao⟩) | fail);exact ⟨rfl,EPost.err HT.out (M6.out.below ao)⟩
     | succ f'=>
      have HT:=hidX (zfh (f:=f') HB.out HN.out (by rw[<- U.out];exact af));have a1:d<20:=by omega
      have aN:=hidX (zpd f' (HO.out f' rfl) w6 B pb src a c l1 am cm rv lv (s.1,s.2+1) ea ec d (k+1) P6.out bk (by omega) (by (show s.1.length+(k+1)<=s.2+1);omega) (by (show s.2+1<=60);omega));clear ad h63 af
      cases ho:pOp f' (s.1,s.2+1) l1 with
      | error e=>
       have aK:Hid (zaw (f'+1) s l=.error e):=show _=_ from by rw[HT.out,ho];rfl
       rw[ho]at aN;clear ho;go_wp2_with (first | (go_at_call 158;refine aN.out.mono ?_;rintro e I ⟨aL,rfl⟩;unfold fltE) | fail);exact ⟨rfl,EPost.err aK.out (M6.out.trans aL (.inl rfl))⟩
      | ok q=>
       obtain ⟨⟨ex,sq⟩,l5⟩:=q;have aK:Hid (zaw (f'+1) s l=.ok (((sq.1.length:Int),(sq.1 ++ [ex],sq.2)),l5)):=show _=_ from by rw[HT.out,ho];rfl
       have aO:=zc3 (f'+1) s l l5 k _ _ hk h60 aK.out;have a7:sq.1.length<=60:=by simp at aO;omega
       rw[ho]at aN;clear ho aO;go_wp2_with (first | (go_at_call 158;refine aN.out.mono ?_;rintro e I ⟨aL,ap,aZ,bi,bm,ba⟩;replace ap:e=.returned (.agg (exC ex).toArray):=ap;subst ap;have aG:=(aL.block w3.heap.size (by omega) (by omega) (fun e=>by have:=au.out _ e;omega)).trans aF) | (refine zac (by rfl) 97 (.tmp 5) (.tmp 49) (by rfl) w3.heap.size (exC ex) (by rfl) (by rfl) _ 97 aG (by rfl) zeW (zdb _) ?_;intro w8 aD ae) | fail);have bd:∀ k,obE sq aZ bi=some k->k≠w3.heap.size:=fun k hk=>by
        rcases ba with e | e
        ·have:=au.out k (e ▸ hk);omega
        have:=e k hk;omega
       go_meet;exact ⟨ex,sq,l5,aZ,bi,(M6.out.trans aL (.inl rfl)).turn ae.out (by omega),bm.turned ae.out (by omega) aG (fun _=>bd),ba.imp id fun h g hg=>by (have:=h g hg;omega),aD.out,bd,aK.out,a7⟩
    ·have HT:=hidX (zcy (f:=f) HB.out HN.out (by rw[<- U.out];exact ad) (by rw[<- U.out];exact h63) (by rw[<- U.out];exact af));have e4:(X==40)=false:=by simp[af]
     clear ad h63 af;go_wp2_with (first | (refine zam (by rfl) 131 (.tmp 6) (by rfl) w5.heap.size L (by rfl) 131 (0,0) ah _ Tryz.underlying131 rfl aJ.1 ?_) | (go_at_call 93;refine (zdH aw 3 _).mono ?_;rintro e I ⟨rfl,ao⟩) | fail);exact ⟨rfl,EPost.err HT.out (M6.out.below ao)⟩
   case rest=>
    obtain ⟨xe,s',l',ea',ec',O⟩:=hcut;obtain ⟨I,rfl⟩:∃ v,v=wc:=⟨wc,rfl⟩
    clear P6 M6 aF y2 y0 ah U aw aJ HN HB;have XB:=hidX O;have a7:=O.le;have d6:=O.st.ps.cell (j:=4) rfl;have g0:=zae O.bx (j:=0) rfl;have g1:=zae O.bx (j:=1) rfl;have g2:=zae O.bx (j:=2) rfl;have g3:=zae O.bx (j:=3) rfl;have g4:=zae O.bx (j:=4) rfl;have g5:=zae O.bx (j:=5) rfl;have g6:=zae O.bx (j:=6) rfl;have g7:=zae O.bx (j:=7) rfl;have br:w3.heap.size<I.heap.size:=zab O.bx;have aq:=O.mo.rest.size;clear O;go_upto_region 16 with fail
    refine wp_region_noPanic ?_;refine wp_region_held_drew (S:=(fun _=>True)) (by kernel_rfl) ?_ (fun E=>?_)
    ·(try dsimp only)
     all_goals trivial
    refine tk 0 E ?_;(try simp only[pA,pZ,pS]);refine tk 1 E ?_;(try simp only[pA,pZ,pS]);refine tk 2 E ?_;(try simp only[pA,pZ,pS]);refine tk 3 E ?_;(try simp only[pA,pZ,pS]);refine r2 4 5 (fun K hK=>?_) fun K hK=>?_
    ·go_simp;refine hK.out _ _ (by (try dsimp only);all_goals trivial) fun G=>?_;replace E:=G;clear hK K G;(try simp only[pA,pZ,pS]);refine r1 5 fun K hK=>?_;go_simp;refine hK.out _ _ (by (try dsimp only);all_goals trivial) fun G=>?_;replace E:=G;clear hK K G;(try simp only[pA,pZ,pS]);refine r1 6 fun K hK=>?_;go_simp;have Z:=zHA I.drew;have aj:∀ o',(I.drew.alloc o').cell? ⟨pb,6,none⟩=some (.slice ea' s'.1.length ec'):=fun o'=>zaa (Z.out o') d6;have bb:∀ o',(I.alloc o').drew.cell? ⟨pb,6,none⟩=some (.slice ea' s'.1.length ec'):=aj;have aY:∀ o',(I.alloc o').cell? ⟨pb,6,none⟩=some (.slice ea' s'.1.length ec'):=aj;refine hK.out _ _ (by (try dsimp only);all_goals trivial) fun G=>?_;replace E:=G;clear hK K G;(try simp only[pA,pZ,pS]);have aC:=hidX (zao XB.out.st.ow ((Below.refl _ _).drew));refine r1 7 fun K hK=>?_;(refine zaq (by rfl) (.tmp 54) (.tmp 56) 36 (by rfl) B 97 _ 8 80 Tryz.underlying36 zfY (by rfl) (by omega) _ s'.1.length _ (by rfl) (zao aC.out (Z.out _)) (some ⟨_,0,none⟩) 1 1 (by rfl) (exC xe) (by rfl) (fun e=>by cases e) (zas _ _ _ _ (by simp)) (zdb xe) (by unfold maxLen;omega) (by omega) (by simp;omega) ?_;intro a8 c8 w8 aR ab aT);refine hK.out _ _ (by (try dsimp only);all_goals trivial) fun G=>?_;replace E:=G;clear hK K G;(try simp only[pA,pZ,pS]);have ag:∀ k,obE s' ea' ec'=some k->B<=k:=fun k hk=>(aC.out.lt k hk).1;have az:=hidX (fun o'=>(XB.out.st.ps.below ((Below.refl _ _).drew)).below (Z.out o'));have P8:=hidX ((az.out _).keep ((Below.refl _ _).grown ab.out (by simp;omega) (fun k hk=>by have:=ag k hk;omega)));have f6:=P8.out.cell (j:=4) rfl;obtain ⟨bj,aA⟩:∃ cs,w8.heap[pb]?=some (.cells cs 56 (0,0)):=by
      obtain ⟨k',aE⟩:=P8.out.sc;exact ⟨_,aE.blk⟩
     have z6:=zax aA 6;refine tk 8 E ?_;(try simp only[pA,pZ,pS]);refine tk 9 E ?_;(try simp only[pA,pZ,pS]);refine r1 10 fun K hK=>?_;go_simp;refine hK.out _ _ (by (try dsimp only);all_goals trivial) fun G=>?_;replace E:=G;clear hK K G;(try dsimp only);refine wpAnyH_done (by kernel_rfl) ?_ _;refine NoPanic.normal ?_;clear E;refine zb5 ?_;intro w9 ak;have P9:=hidX (P8.out.cellSet (j:=4) ak);have m9:MkO (some pb) w8 w9:=by rw[ak];exact MkO.set _
     have aB:MkX pb (obE s' ea' ec') I w8:=⟨((Below.refl 0 I).drew.trans ((Z.out _).mono (Nat.zero_le _))).grown ab.out (Nat.zero_le _) (fun _ _=>Nat.zero_le _),fun g hg _ ho=>(ab.out.block g (by simp;omega) (fun e=>ho e.symm)).trans ((Z.out _).block g hg)⟩
     have rx:RowX (obE s' ea' ec') (Value.slice a8 (s'.1.length+1) c8).ownBlock I.heap.size:=aT.out.imp id fun h g hg=>by
      rw[h]at hg;injection hg with hg;simp at hg;omega
     have M9:=hidX ((XB.out.mo.trans aB XB.out.rw').trans (MkX.of m9:MkX pb (Value.slice a8 (s'.1.length+1) c8).ownBlock w8 w9) (XB.out.rw'.trans rx aq));have aP:=ab.out.size;simp at aP;have s9:=m9.rest.size;have S9:=hidX (show ExS w9 B pb src a c l' am cm rv lv (s'.1 ++ [xe],s'.2) a8 c8 from ⟨by simpa[RE,RL] using P9.out,by simpa using zbq aR.out m9 aI,aI,by omega⟩);have c9:=S9.out.ps.cell (j:=4) rfl;have R9:=hidX (show RowX (obE s ea ec) (obE (s'.1 ++ [xe],s'.2) a8 c8) w.heap.size from by simpa[obE] using XB.out.rw'.trans rx aq);clear ak m9 aB rx f6 z6 aA P8 P9 az ag d6 g0 g1 g2 g3 g4 g5 g6 g7;simp only[List.length_append,List.length_singleton]at c9;go_wp2_with fail
     go_ret;exact EPost.good XB.out.pe M9.out (by simp[Rint]) S9.out R9.out
    go_simp;refine hK.out _ _ (by (try dsimp only);all_goals trivial) fun G=>?_;replace E:=G;clear hK K G;(try simp only[pA,pZ,pS]);refine r2 4 6 (fun K hK=>?_) fun K hK=>?_
    focus
     go_simp;refine hK.out _ _ (by (try dsimp only);all_goals trivial) fun G=>?_;replace E:=G;clear hK K G;(try simp only[pA,pZ,pS]);refine r1 6 fun K hK=>?_;go_simp;have Z:=zHA I.drew;have aj:∀ o',(I.drew.alloc o').cell? ⟨pb,6,none⟩=some (.slice ea' s'.1.length ec'):=fun o'=>zaa (Z.out o') d6;have bb:∀ o',(I.alloc o').drew.cell? ⟨pb,6,none⟩=some (.slice ea' s'.1.length ec'):=aj;have aY:∀ o',(I.alloc o').cell? ⟨pb,6,none⟩=some (.slice ea' s'.1.length ec'):=aj
    rotate_left
    focus
     go_simp;have Z:=zHA I.drew;have aj:∀ o',(I.drew.alloc o').cell? ⟨pb,6,none⟩=some (.slice ea' s'.1.length ec'):=fun o'=>zaa (Z.out o') d6;have bb:∀ o',(I.alloc o').drew.cell? ⟨pb,6,none⟩=some (.slice ea' s'.1.length ec'):=aj;have aY:∀ o',(I.alloc o').cell? ⟨pb,6,none⟩=some (.slice ea' s'.1.length ec'):=aj;refine hK.out _ _ (by (try dsimp only);all_goals trivial) fun G=>?_;replace E:=G;clear hK K G;(try simp only[pA,pZ,pS]);refine r1 4 fun K hK=>?_;go_simp
    rotate_left
    all_goals
     refine hK.out _ _ (by (try dsimp only);all_goals trivial) fun G=>?_;replace E:=G;clear hK K G;(try simp only[pA,pZ,pS]);have aC:=hidX (zao XB.out.st.ow ((Below.refl _ _).drew));refine r1 7 fun K hK=>?_;(refine zaq (by rfl) (.tmp 54) (.tmp 56) 36 (by rfl) B 97 _ 8 80 Tryz.underlying36 zfY (by rfl) (by omega) _ s'.1.length _ (by rfl) (zao aC.out (Z.out _)) (some ⟨_,0,none⟩) 1 1 (by rfl) (exC xe) (by rfl) (fun e=>by cases e) (zas _ _ _ _ (by simp)) (zdb xe) (by unfold maxLen;omega) (by omega) (by simp;omega) ?_;intro a8 c8 w8 aR ab aT);refine hK.out _ _ (by (try dsimp only);all_goals trivial) fun G=>?_;replace E:=G;clear hK K G;(try simp only[pA,pZ,pS]);have ag:∀ k,obE s' ea' ec'=some k->B<=k:=fun k hk=>(aC.out.lt k hk).1;have az:=hidX (fun o'=>(XB.out.st.ps.below ((Below.refl _ _).drew)).below (Z.out o'));have P8:=hidX ((az.out _).keep ((Below.refl _ _).grown ab.out (by simp;omega) (fun k hk=>by have:=ag k hk;omega)));have f6:=P8.out.cell (j:=4) rfl;obtain ⟨bj,aA⟩:∃ cs,w8.heap[pb]?=some (.cells cs 56 (0,0)):=by
      obtain ⟨k',aE⟩:=P8.out.sc;exact ⟨_,aE.blk⟩
     have z6:=zax aA 6;refine tk 8 E ?_;(try simp only[pA,pZ,pS]);refine tk 9 E ?_;(try simp only[pA,pZ,pS]);refine r1 10 fun K hK=>?_;go_simp;refine hK.out _ _ (by (try dsimp only);all_goals trivial) fun G=>?_;replace E:=G;clear hK K G;(try dsimp only);refine wpAnyH_done (by kernel_rfl) ?_ _;refine NoPanic.normal ?_;clear E;refine zb5 ?_;intro w9 ak;have P9:=hidX (P8.out.cellSet (j:=4) ak);have m9:MkO (some pb) w8 w9:=by rw[ak];exact MkO.set _
     have aB:MkX pb (obE s' ea' ec') I w8:=⟨((Below.refl 0 I).drew.trans ((Z.out _).mono (Nat.zero_le _))).grown ab.out (Nat.zero_le _) (fun _ _=>Nat.zero_le _),fun g hg _ ho=>(ab.out.block g (by simp;omega) (fun e=>ho e.symm)).trans ((Z.out _).block g hg)⟩
     have rx:RowX (obE s' ea' ec') (Value.slice a8 (s'.1.length+1) c8).ownBlock I.heap.size:=aT.out.imp id fun h g hg=>by
      rw[h]at hg;injection hg with hg;simp at hg;omega
     have M9:=hidX ((XB.out.mo.trans aB XB.out.rw').trans (MkX.of m9:MkX pb (Value.slice a8 (s'.1.length+1) c8).ownBlock w8 w9) (XB.out.rw'.trans rx aq));have aP:=ab.out.size;simp at aP;have s9:=m9.rest.size;have S9:=hidX (show ExS w9 B pb src a c l' am cm rv lv (s'.1 ++ [xe],s'.2) a8 c8 from ⟨by simpa[RE,RL] using P9.out,by simpa using zbq aR.out m9 aI,aI,by omega⟩);have c9:=S9.out.ps.cell (j:=4) rfl;have R9:=hidX (show RowX (obE s ea ec) (obE (s'.1 ++ [xe],s'.2) a8 c8) w.heap.size from by simpa[obE] using XB.out.rw'.trans rx aq);clear ak m9 aB rx f6 z6 aA P8 P9 az ag d6 g0 g1 g2 g3 g4 g5 g6 g7;simp only[List.length_append,List.length_singleton]at c9;go_wp2_with fail
     go_ret;exact EPost.good XB.out.pe M9.out (by simp[Rint]) S9.out R9.out
theorem zpl:∀ f,zoG f:=by
 intro f
 induction f with
 | zero=>exact zln 0 (fun E e=>by omega)
 | succ f G=>
  refine zln (f+1) (fun E e=>?_);obtain rfl:f=E:=by omega
  exact G
theorem zj2(w:World)(B pb:Nat)(src:Bs)(a:Option Addr)(c:Nat)(l:List Wd)(am cm rv lv:Value)(s:ES)(ea:Option Addr)(ec:Nat)(h:ExS w B pb src a c l am cm rv lv s ea ec)(hk:s.1.length<=s.2)(h60:s.2<=60):Calls Tryz.prog 83 #[.pointer (some ⟨pb,0,none⟩)] w (EPost w B pb src a c am cm rv lv (obE s ea ec) Rint (zaw 20 s l)):=by
 have I:=hidX (zpl 20 w B pb src a c l am cm rv lv s ea ec 0 0 h (by omega) (by omega) (by omega) h60);clear h hk h60;go_enter Tryz.func83,Tryz.ntmps83
 cases hr:zaw 20 s l with
 | error f=>
  rw[hr]at I;go_wp2_with (first | (go_at_call 131;refine I.out.mono ?_;rintro e U ⟨E,rfl⟩;unfold fltE) | fail);exact ⟨rfl,E,rfl⟩
 | ok p=>
  obtain ⟨⟨i,s'⟩,l'⟩:=p;rw[hr]at I;go_wp2_with (first | (go_at_call 131;refine I.out.mono ?_;rintro e U ⟨E,G,O⟩;replace G:e=.returned (.int .i64 i):=G;subst G) | fail);go_ret;exact ⟨E,rfl,O⟩
def preE{σ α:Type}(M:List α)(r:Px (List α × σ)):Px (List α × σ):=match r with
 | .error f=>.error f
 | .ok (p,l)=>.ok ((M ++ p.1,p.2),l)
theorem zh7{σ α:Type}{rd:σ->List Wd->Px (α × σ)}{n:Nat}{s:σ}{l:List Wd}{f:Flt}(h:zaj l=.error f):zaB rd n s l=.error f:=by
 cases n <;> simp[zaB,h]
theorem zh1{σ α:Type}{rd:σ->List Wd->Px (α × σ)}{n:Nat}{s:σ}{l r:List Wd}{x:Wd}(h:zaj l=.ok (x,r))(hx:pkW x=41):zaB rd n s l=.ok (([],s),r):=by
 cases n <;> simp[zaB,h,hx]
theorem zdS{σ α:Type}{rd:σ->List Wd->Px (α × σ)}{s:σ}{l r:List Wd}{x:Wd}(h:zaj l=.ok (x,r))(hx:pkW x≠41):zaB rd 0 s l=if pkW x=0 then .error (3,x.pos) else .error (4,x.pos):=by
 simp[zaB,h,hx]
theorem zf5{σ α:Type}{rd:σ->List Wd->Px (α × σ)}{n:Nat}{s:σ}{l r:List Wd}{x:Wd}{f:Flt}(h:zaj l=.ok (x,r))(hx:pkW x≠41)(hr:rd s l=.error f):zaB rd (n+1) s l=.error f:=by
 simp[zaB,h,hx,hr]
theorem zhc{σ α:Type}{rd:σ->List Wd->Px (α × σ)}{n:Nat}{s s1:σ}{l r l1:List Wd}{x:Wd}{v:α}{M:List α}(h:zaj l=.ok (x,r))(hx:pkW x≠41)(hr:rd s l=.ok ((v,s1),l1)):preE M (zaB rd (n+1) s l)=preE (M ++ [v]) (zaB rd n s1 l1):=by
 simp only[zaB,h,hx,hr,if_false]
 cases zaB rd n s1 l1 with
 | error f=>rfl
 | ok p=>
  obtain ⟨⟨vs,s2⟩,l2⟩:=p;simp[preE]
theorem zgX{f:Nat}{s:ES}{l r:List Wd}{x:Wd}(h:zaj l=.ok (x,r))(hx:pkW x=0):zaw f s l=.error (3,x.pos):=by
 have hb:zaW (s.2:Int) 60 l=.ok ((),l):=by
  unfold zaW;rw[h];simp only;rw[if_neg (fun e=>e.2.2 hx)]
 exact zcy hb h (by omega) (by omega) (by omega)
theorem zne{w w':World}{base pb:Nat}{e:TypeId}{m:Nat}{v:Value}{n:Nat}{xs:List Value}{ob:Option Nat}(h:w.ownsRow base e m v n xs)(hm:MkX pb ob w w')(hp:pb<base)(ho:∀ g,ob=some g->∃ c,w.heap[g]?=some (.cells c 97 (0,0)))(E:e≠97):w'.ownsRow base e m v n xs:=
 zar h fun k hk=>hm.block k (h.lt k hk).2 (fun e=>by have:=(h.lt k hk).1;omega) (fun G=>by
  obtain ⟨I,e1⟩:=zaA h hk
  obtain ⟨c2,e2⟩:=ho k G
  rw[e1]at e2
  injection e2 with e2
  injection e2 with _ e2 _
  exact E e2)
theorem ExS.row{w:World}{B pb:Nat}{src:Bs}{a:Option Addr}{c:Nat}{l:List Wd}{am cm rv lv:Value}{s:ES}{ea:Option Addr}{ec:Nat}(h:ExS w B pb src a c l am cm rv lv s ea ec):∀ g,obE s ea ec=some g->∃ c,w.heap[g]?=some (.cells c 97 (0,0)):=fun _ hg=>zaA h.ow hg
def inC(vs:List Int):List Value:=vs.map fun i=>Value.int .i64 i
theorem zoi(i:Int):∀ v∈[Value.int .i64 i],v.oneCell'=true:=by
 intro v hv;simp at hv;subst hv;rfl
theorem znn:(Tryz.prog.info? 3).map (fun i=>(i.zero,i.size,i.bytes))=some (some (.int .i64 0),1,8):=by kernel_rfl
def Ris(B:Nat)(vs:List Int)(e:Ending)(w':World):Prop:=∃ la lc,e=.returned (.slice la vs.length lc)/\w'.ownsRow B 3 1 (.slice la vs.length lc) vs.length (inC vs)
theorem zgj(w:World)(B pb:Nat)(src:Bs)(a:Option Addr)(c:Nat)(l:List Wd)(am cm rv lv:Value)(s:ES)(ea:Option Addr)(ec:Nat)(h:ExS w B pb src a c l am cm rv lv s ea ec)(hk:s.1.length<=s.2)(h60:s.2<=60):Calls Tryz.prog 82 #[.pointer (some ⟨pb,0,none⟩),.func (.func 83) #[.pointer (some ⟨pb,0,none⟩)] #[]] w (EPost w B pb src a c am cm rv lv (obE s ea ec) (Ris w.heap.size) (zaB (zaw 20) 6 s l)):=by
 have HP:=hidX h;have ap:=h.ps.lt;have ay:=h.lt;clear h;go_enter Tryz.func82,Tryz.ntmps82;go_wp2_with fail
 go_loopw [5] (fun v wr=>∃ (la:Option Addr) (lc n:Nat) (M:List Int) (s':ES) (l':List Wd) (ea':Option Addr) (ec':Nat),M.length+n=6/\v=.slice la M.length lc/\wr.ownsRow w.heap.size 3 1 (.slice la M.length lc) M.length (inC M)/\ExS wr B pb src a c l' am cm rv lv s' ea' ec'/\MkX pb (obE s ea ec) w wr/\RowX (obE s ea ec) (obE s' ea' ec') w.heap.size/\zaB (zaw 20) 6 s l=preE M (zaB (zaw 20) n s' l')/\s'.1.length<=s'.2/\s'.2<=60) (fun v _=>6 - za6 v)
 case atStart=>exact ⟨none,0,6,[],s,l,ea,ec,rfl,rfl,World.ownsRow_nil _ _ _ _,HP.out,MkX.refl _ _ _,.inl rfl,by unfold preE;cases zaB (zaw 20) 6 s l <;> rfl,hk,h60⟩
 case round=>
  obtain ⟨la,lc,n,M,s',l',ea',ec',aM,rfl,hown,aj,al,ar,au,aG,ag⟩:=hrel;have OW:=hidX hown;have PS:=hidX aj;have MK:=hidX al;have RX:=hidX ar;have PL:=hidX au;have G:=hidX (zdZ wr pb src a c l' _ 41 aj.ps);have aI:=al.rest.size;clear hown aj al ar au
  cases hr:zaj l' with
  | error f=>
   have HT:Hid (zaB (zaw 20) 6 s l=.error f):=show _=_ from by rw[PL.out,zh7 hr];rfl
   rw[hr]at G;go_wp2_with (first | (go_at_call 46;refine G.out.mono ?_;rintro e w2 ⟨E,rfl⟩;unfold fltE) | fail);exact ⟨rfl,EPost.err HT.out (MK.out.below E)⟩
  | ok p=>
   obtain ⟨x,r⟩:=p;rw[hr]at G;by_cases hx:pkW x=41
   ·have HT:Hid (zaB (zaw 20) 6 s l=.ok ((M,s'),r)):=show _=_ from by rw[PL.out,zh1 hr hx];simp[preE]
    replace G:Hid (Calls Tryz.prog 46 #[.pointer (some ⟨pb,0,none⟩),.int .i32 41] wr fun e w'=>Below wr.heap.size wr w'/\e=.returned (.bool true)):=by
     rw[<- decide_eq_true hx];exact G
    have ax:=hidX (fun u (hu:Below wr.heap.size wr u)=>zbt u pb src a c l' _ 41 (PS.out.below hu).ps);rw[show zai 41 l'=.ok (x,r) by unfold zai;rw[hr];simp[hx]]at ax;clear hx;go_wp2_with (first | (go_at_call 46;refine G.out.mono ?_;rintro e w2 ⟨E,rfl⟩) | (go_at_call 85;refine (ax.out _ E).mono ?_;rintro e w4 ⟨O,U,aE⟩;replace U:e=.returned (pwA x):=U;subst U) | fail);go_ret;exact EPost.good HT.out ((MK.out.below E).trans (MkX.of O) RX.out) ⟨la,lc,rfl,zbq (zao OW.out E) O ap⟩ ((PS.out.below E).mko O aE) RX.out
   replace G:Hid (Calls Tryz.prog 46 #[.pointer (some ⟨pb,0,none⟩),.int .i32 41] wr fun e w'=>Below wr.heap.size wr w'/\e=.returned (.bool false)):=by
    rw[<- decide_eq_false hx];exact G
   have ad:=hidX (fun u (hu:Below wr.heap.size wr u)=>zgH u pb src a c l' _ (M.length:Int) 6 (PS.out.below hu).ps);have ae:=hidX (fun u (hu:ExS u B pb src a c l' am cm rv lv s' ea' ec')=>zj2 u B pb src a c l' am cm rv lv s' ea' ec' hu aG ag);by_cases hn:n=0/\pkW x≠0
   ·have HT:Hid (zaB (zaw 20) 6 s l=.error (4,x.pos)):=show _=_ from by rw[PL.out,hn.1,zdS hr hx,if_neg hn.2];rfl
    rw[show zaW (M.length:Int) 6 l'=.error (4,x.pos) by unfold zaW;rw[hr];simp only;rw[if_pos ⟨by omega,hx,hn.2⟩]]at ad;clear hx hn;go_wp2_with (first | (go_at_call 46;refine G.out.mono ?_;rintro e w2 ⟨E,rfl⟩) | (go_at_call 130;refine (ad.out _ E).mono ?_;rintro e w3 ⟨I,rfl⟩;unfold fltE) | fail);exact ⟨rfl,EPost.err HT.out ((MK.out.below E).trans (MkX.of I) RX.out)⟩
   rw[show zaW (M.length:Int) 6 l'=.ok ((),l') by
    unfold zaW;rw[hr];simp only;rw[if_neg];rintro ⟨h1,h2,h3⟩;exact hn ⟨by omega,h3⟩]at ad
   cases hv:zaw 20 s' l' with
   | error f=>
    have HT:Hid (zaB (zaw 20) 6 s l=.error f):=show _=_ from by
     rw[PL.out]
     cases n with
     | zero=>
      have h0:pkW x=0:=Classical.byContradiction fun h=>hn ⟨rfl,h⟩;rw[zdS hr hx,if_pos h0];rw[zgX hr h0]at hv;injection hv with hv;rw[hv];rfl
     | succ n=>
      rw[zf5 hr hx hv];rfl
    rw[hv]at ae;clear hx hn hv;go_wp2_with (first | (go_at_call 46;refine G.out.mono ?_;rintro e w2 ⟨E,rfl⟩) | (go_at_call 130;refine (ad.out _ E).mono ?_;rintro e w3 ⟨I,X,af⟩;replace X:e=.returned (.tuple #[]):=X;subst X) | (go_at_call 83;refine (ae.out _ ((PS.out.below E).mko I af)).mono ?_;rintro e w4 ⟨O,rfl⟩;unfold fltE) | fail);exact ⟨rfl,EPost.err HT.out (((MK.out.below E).trans (MkX.of I) RX.out).trans O RX.out)⟩
   | ok p=>
    obtain ⟨⟨v,s2⟩,l1⟩:=p;obtain ⟨aJ,aF⟩:=zc3 20 s' l' l1 0 v s2 (by omega) ag hv;rw[hv]at ae;obtain ⟨n,rfl⟩:∃ n',n=n'+1:=by
     cases n with
     | zero=>
      have h0:pkW x=0:=Classical.byContradiction fun h=>hn ⟨rfl,h⟩;rw[zgX hr h0]at hv
      cases hv
     | succ n=>exact ⟨n,rfl⟩
    have aD:=hidX (PL.out.trans (zhc (M:=M) hr hx hv));clear hx hn hv;go_wp2_with (first | (go_at_call 46;refine G.out.mono ?_;rintro e w2 ⟨E,rfl⟩) | (go_at_call 130;refine (ad.out _ E).mono ?_;rintro e w3 ⟨I,X,af⟩;replace X:e=.returned (.tuple #[]):=X;subst X) | (go_at_call 83;refine (ae.out _ ((PS.out.below E).mko I af)).mono ?_;rintro e w4 ⟨O,U,aw,aq,aA,aC⟩;replace U:e=.returned (.int .i64 v):=U;subst U;have aK:=E.size;have aL:=I.rest.size;have M4:=hidX (((MK.out.below E).trans (MkX.of I) RX.out).trans O RX.out);have ak:=hidX (zne (zbq (zao OW.out E) I ap) O ap ((PS.out.below E).mko I af).row (by decide));have aH:=M4.out.rest.size;have ab:=zHA w4) | (at_builtin;refine zag (by rfl) (.tmp 13) (.tmp 16) 71 (by rfl) w.heap.size 3 _ 1 8 Tryz.underlying71 znn (by rfl) (by omega) _ M.length _ (by rfl) (zao ak.out (ab.out _)) (some ⟨_,0,none⟩) 1 1 (by rfl) [.int .i64 v] (by rfl) (fun e=>by cases e) (zas _ _ _ _ (by simp)) (zoi v) (by unfold maxLen;omega) (by omega) (by simp;omega) ?_;intro a5 c5 w5 az Z aN) | fail);have ah:∀ k,(Value.slice la M.length lc).ownBlock=some k->w.heap.size<=k:=fun k hk=>(ak.out.lt k hk).1;have TY:=hidX (fun o' g hg=>zaA (zao ak.out (ab.out o')) (k:=g) hg);have ao:=hidX (fun o'=>aA.below (ab.out o'));have S5:=hidX (show ExS w5 B pb src a c l1 am cm rv lv s2 aw aq from ⟨(ao.out _).ps.keep ((Below.refl _ _).grown Z.out (by simp;omega) (fun k hk=>by have:=ah k hk;omega)),zbF (ao.out _).ow Z.out (TY.out _) (by decide),ay,Nat.le_trans (ao.out _).le Z.out.size⟩);have M5:=hidX (show MkX pb (obE s ea ec) w w5 from ⟨(M4.out.rest.trans ((ab.out _).mono (Nat.zero_le _))).grown Z.out (Nat.zero_le _) (fun _ _=>Nat.zero_le _),fun g hg hp ho=>(Z.out.block g (by simp;omega) (fun e=>by have:=ah g e.symm;omega)).trans (((ab.out _).block g (by omega)).trans (M4.out.block g hg hp ho))⟩);have aB:=hidX (RX.out.trans aC (by omega));go_roundw
    case rel=>exact ⟨a5,c5,n,M ++ [v],s2,l1,aw,aq,by simp;omega,by simp,by simpa[inC] using az.out,S5.out,M5.out,aB.out,aD.out,by omega,aF⟩
    case measure=>(simp[za6];omega)
end Go.Proofs.YtjjjagepnnbebaaGreatDoor
