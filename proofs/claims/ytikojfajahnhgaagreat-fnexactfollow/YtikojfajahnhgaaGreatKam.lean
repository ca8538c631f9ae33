import Derived.Test.YtikojfajahnhgaaGreatKal
set_option linter.all false
set_option maxRecDepth 100000
namespace Go.Proofs.YtikojfajahnhgaaGreat
attribute [local simp] At I6 Pn mzI
attribute [local go_sem] At I6 Pn
open Go.RowKit Go.Proofs.Tryz
variable{P:Prop}
attribute [local go_sem ↓] wp_at_zero wp_at_succ
def ER(b:Bd):List Value:=[.string b.var,.int .i64 b.val.kind,.int .i64 b.val.num,.string b.val.av]
def kS:∀S:List Bd,(S.flatMap ER).length=S.length*4
 |[]=>rfl
 |b::r=>by
  rw[yE,yR,kS r]
  simp[ER]
  omega
def fO(c:List Bd):∀x∈c.flatMap ER,x.oneCell'=true:=by
 intro x d;obtain⟨b,_,a⟩:=Yk.1 d;simp[ER]at a;rcases a with rfl|rfl|rfl|rfl<;>rfl
def pi(c:List Bd)(j x)(h:(c.flatMap ER)[j]?=some x):∃b,c[j/4]?=some b/\(ER b)[j%4]?=some x:=by
 induction c generalizing j with
 |nil=>simp at h
 |cons b r O=>
  have a:(ER b).length=4:=rfl;rw[yE]at h;by_cases hj:j<4
  .rw[yB qd]at h;refine⟨b,?_,?_⟩
   .rw[show j/4=0 by omega];rfl
   rwa [show j%4=j by omega]
  rw[yF qd]at h;obtain⟨u,d,e⟩:=O (j-(ER b).length) h;rw[a]at d e;refine⟨u,?_,?_⟩
  .rw[show j/4=(j-4)/4+1 by omega];exact d
  rwa [show j%4=(j-4)%4 by omega]
def Fw.flat{q w c a}(h:Fw q w (some c) a)(j x)(l:(a.flatMap ER)[j]?=some x):w.cell? (c.add j)=some x:=by
 obtain⟨b,f,e⟩:=pi a j x l;obtain⟨g,o,r,i,_,_,d,k⟩:=h _ b f;cases i;have O:r=ER b:=k;rw[YZ];have:=d (j%4) x (by rw[O];exact e);rw[show o+j=o+j/4*4+j%4 by omega];exact this
def Fw.cJ{q w a}(h:Fw q w none a):a.length=0:=by
 cases a with
 |nil=>rfl
 |cons v r=>
  obtain⟨b,o,_,c,_⟩:=h 0 v rfl;cases c
def Fw.owns{w base a c S}(h:w.ownsRow base 367 4 (.slice a S.length c) S.length (S.flatMap ER)):Fw none w a S:=by
 intro i s b;have key:=λj u(hj:(ER s)[j]?=some u)=>CC h (Ig (cells:=ER) (m:=4) (λ_=>rfl) S i s j u b hj);obtain⟨g,rfl,_,_,_⟩:=key 0 _ rfl;refine⟨g,0,ER s,rfl,Qb.bare _ _ _,rfl,λj v hj=>?_,rfl⟩;obtain⟨O,e,_,d,_⟩:=key j v hj;cases e;rw[Yt];exact d
def iB:(prog.info? 367).map (λi=>(i.zero,i.size,i.bytes))=some (some (.agg #[.string ⟨#[]⟩,I6 0,I6 0,.string ⟨#[]⟩]),4,48):=qf
def QT:(⟨#[]⟩:ByteArray).toList=[]:=qf
def V.cK{v u:V}(O:v.kind=u.kind)(b:v.num=u.num)(a:v.av.toList=u.av.toList):v=u:=by
 have h3:(v.av.toList==u.av.toList)=true:=by rw[a];simp
 rw[EV]at h3;exact V.same O b Nt
def tE{P:World->Prop}{w b t x0 x1 f a d c}(O:w.heap[b]?=some (.cells #[x0,x1,f] t (0,0)))(h:∀wt,wt.heap[b]?=some (.cells #[a,d,c] t (0,0))->Turned w wt b->P wt):P (((w.setCell ⟨b,0,none⟩ a).setCell ⟨b,1,none⟩ d).setCell ⟨b,2,none⟩ c):=by
 have g:=Fq (i:=0) O a;have e:=Fq (i:=1) g d;have h3:=Fq (i:=2) e c;exact h _ Nt (Turned.setCells [a,d,c] 0 w b)
def Gp(p:Pt)(f:F)(bs:List Bd)(w:World)(e:Ending)(w':World):Prop:=
 (match Bk p f bs with
  |none=>e=.returned (.tuple #[.slice none 0 0,.bool false])
  |some o=>∃a c,e=.returned (.tuple #[.slice a o.length c,.bool true])/\w'.ownsRow w.heap.size 367 4 (.slice a o.length c) o.length (o.flatMap ER))/\Bw w w'
def Gp.no{p f a w w'}(h:Bk p f a=none)(b:Bw w w'):Gp p f a w (.returned (.tuple #[.slice none 0 0,.bool false])) w':=by
 unfold Gp;rw[h];exact⟨rfl,b⟩
def Gp.cC{p f b o w w' a c}(h:Bk p f b=some o)(e:w'.ownsRow w.heap.size 367 4 (.slice a o.length c) o.length (o.flatMap ER))(d:Bw w w'):Gp p f b w (.returned (.tuple #[.slice a o.length c,.bool true])) w':=by
 unfold Gp;rw[h];exact⟨⟨a,c,rfl,e⟩,d⟩
def nC(h:P:=by
 go_wp2_with fail;go_roundw
 case rel=>exact⟨k+1,o,a,c,by go_num,by omega,rfl,ar.o _ am.o,by omega,R2.o,D2.o⟩
 case measure=>(simp[intOf];omega)
 ):=h
def nG(h:P:=by
 clear ai L3;go_wp2_with fail;go_roundw
 case rel=>exact⟨k+1,o,a,c,by go_num,by omega,rfl,ar.o _ am.o,by omega,R8.o,D8.o⟩
 case measure=>(simp[intOf];omega)
 ):=h
def nT(h:P:=by
 clear ai L3;go_wp2_with fail;refine bodyPost_ret (v:=.tuple #[.slice none 0 0,.bool false]) (by simp[results,results179,go_sem]) rfl ?_;exact Gp.no (ak.o Y.o) (H0.o.aj D8.o)
 ):=h
def nV(h:P:=by
 go_enter func179,ntmps179;go_wp2_with fail;refine bodyPost_ret (v:=.tuple #[.slice none 0 0,.bool false]) (by simp[results,results179,go_sem]) rfl ?_;exact Gp.no HN.o (B2.o _ _)
 ):=h
def XQ(h:P:=by
 have Y:=Aa (show Df o t v=none by unfold Df;rw[if_pos aq,if_neg hne]);clear hne aq;go_wp2_with fail;refine bodyPost_ret (v:=.tuple #[.slice none 0 0,.bool false]) (by simp[results,results179,go_sem]) rfl ?_;exact Gp.no (ak.o Y.o) (H0.o.aj D2.o)
 ):=h
def XR(h:P:=by
 have Y:=Aa (show Df o t v=none by unfold Df;rw[if_neg (by omega),if_pos aj,ah];simp only;rw[if_neg hne]);clear hne aj ah;go_wp2_with fail;refine bodyPost_ret (v:=.tuple #[.slice none 0 0,.bool false]) (by simp[results,results179,go_sem]) rfl ?_;exact Gp.no (ak.o Y.o) (H0.o.aj D4.o)
 ):=h
set_option maxHeartbeats 12800000 in
def zmB(p f b a6 bC fa fc ba bc){q q'}(w)(bk:CJ q w a6 p.aa)(a8:Bj w fa f.ad)(aX:Fw q' w ba b)(bN:p.aa.length<=6)(bR:b.length<=1000) :
  Ca 179 #[.agg #[.bool p.neg,.string p.ak,.slice a6 p.aa.length bC],.agg #[.int .i64 f.tag,.string f.ak,.slice fa f.ad.length fc],.slice ba b.length bc] w (Gp p f b w):=by
 obtain⟨HT,HF,HB⟩:=AQ bk a8 aX;clear bk a8 aX;have B2:=Aa (λo o1=>Af.alloc qe _:∀o o1,Bw w ((w.alloc o).alloc o1));cases N:(p.ak.toList==f.ak.toList)
 .have HN:=Aa (show Bk p f b=none from if_neg (λh=>by rw[h.1]at N;simp at N));have bl:(p.ak.toList != f.ak.toList)=true:=by rw[bne,N];rfl
  exact nV
 have bl:(p.ak.toList != f.ak.toList)=false:=by rw[bne,N];rfl
 cases T:((p.aa.length:Int)==(f.ad.length:Int))
 .have HN:=Aa (show Bk p f b=none from if_neg (λh=>by rw[h.2]at T;simp at T));have bd:((p.aa.length:Int) != (f.ad.length:Int))=true:=by rw[bne,T];rfl
  exact nV
 have bd:((p.aa.length:Int) != (f.ad.length:Int))=false:=by rw[bne,T];rfl
 have s:p.aa.length=f.ad.length:=by simp at T;omega
 have aO:p.ak=f.ak:=by rw[EV]at N;simpa using N
 obtain⟨bD,aQ⟩:=Ak (show Bk p f b=DZ b p.aa f.ad from if_pos ⟨aO,s⟩) s;clear s aO;go_enter func179,ntmps179;go_upto_region 1 with fail;refine Bo ?_;intro w0 aJ aE M;obtain⟨bL,bI,aV⟩:=Ao aE;obtain⟨b0,bS,bH⟩:=Ao M;have H0:=Aa aJ;have bW:=aJ.size;have bO:w.heap.size+1<w0.heap.size:=As M;have aY:=Aa (HB.o.J aJ);clear aJ aE M;go_upto_region 5 with(first|(at_builtin;refine EU qi (.tmp 29) (.tmp 30) 181 qi w0.heap.size 367 _ 4 48 underlying181 iB qi qd _ 0 [] qi (y9 _ _ _ _) ba b.length bc qi (b.flatMap ER) (by rw[kS]) (λe=>Fw.cJ (e▸aY.o)) (λad e=>Fw.flat (e▸aY.o)) (fO _) qm qd AA ?_;intro a1 c1 w1 aW W a7)|fail);have aI:Bw w0 w1:=⟨W.o.os,W.o.tape,W.o.output,W.o.size,λk hk=>W.o.block k hk (λe=>qp)⟩
 have bh:=Aa (show w1.ownsRow w0.heap.size 367 4 (.slice a1 b.length c1) b.length (b.flatMap ER) by have:=aW.o;simpa using this);have a0:=zab aI aV;have aR:=Aa aI;clear aW W a7 N T bl bd aI;go_wp2_with fail;clear a0
 go_loopw [35,8] (λiv ov wr=>∃(k:Nat)(o:List Bd)(a:Option Addr)(c:Nat),iv=.int .i64 (k:Int)/\k<=p.aa.length/\ov=.slice a o.length c/\Bk p f b=DZ o (p.aa.drop k) (f.ad.drop k)/\o.length<=b.length+k/\wr.ownsRow w0.heap.size 367 4 (.slice a o.length c) o.length (o.flatMap ER)/\Bw w0 wr) (λiv _ _=>p.aa.length-(intOf iv).toNat)
 case atStart=>exact⟨0,b,a1,c1,rfl,yA _,rfl,bD.o,yX _,bh.o,aR.o⟩
 case round=>
  obtain⟨k,o,a,c,rfl,bV,rfl,hG,bT,aP,hb⟩:=hrel;obtain⟨HG,ROW,aL,aM⟩:=BE hG aP hb (H0.o.aj hb);have b4:=hb.size;clear hG aP hb aR bh;by_cases hk:k<p.aa.length
  .obtain⟨t,ht⟩:=AJ hk;obtain⟨v,hv⟩:∃v,f.ad[k]?=some v:=⟨f.ad[k]'(by have:=aQ.o;omega),qe⟩
   obtain⟨HD,aS⟩:=Ak (Ck ht) (Ck hv);obtain⟨tb,tk,rfl,_,t0,t1,t2,t3,t4,t5⟩:=(HT.o.J aM.o).get ht;obtain⟨vb,vo,rfl,v0,v1,v2⟩:=(HF.o.J aM.o) k v hv;have bt:=zab aL.o aV;have bB:=zab aL.o bH;have a7:w.heap.size+1<wr.heap.size:=qd;have bZ:=ES v0;have z0:(0:Int)<=(k:Int):=qd;have z1:(k:Int)<(p.aa.length:Int):=qd;have z2:(k:Int)<(f.ad.length:Int):=by have:=aQ.o;omega
   obtain⟨ak,ar⟩:=Ak (λ(h:Df o t v=none)=>(show Bk p f b=none by rw[HG.o,HD.o,aS.o];exact xi h)) (λo'(h:Df o t v=some o')=>(show Bk p f b=DZ o' (p.aa.drop (k+1)) (f.ad.drop (k+1)) by rw[HG.o,HD.o,aS.o];exact z7 h));clear ht hv HD aS HG;go_upto_region 9 with fail;refine Bo ?_;intro w2 aN aE M;obtain⟨k0,k1,k2,k3,k4,k5⟩:=Gb aE;obtain⟨u0,u1,u2⟩:=Ao M;obtain⟨R2,D2⟩:=Ak (Bg ROW.o aN) (aL.o.aj aN);have bM:=aN.size;have bX:wr.heap.size+1<w2.heap.size:=As M;clear aN aE M t0 t1 t2 t3 t4 t5 v0 v1 v2 bt bB ROW aL aM;by_cases aq:t.kind=1
   .have b1:(t.kind==1)=true:=by simpa using aq
    by_cases q0:v.kind=t.val.kind;rotate_left
    .have hne:¬v=t.val:=λe=>q0 H4;exact XQ
    by_cases q1:v.num=t.val.num;rotate_left
    .have hne:¬v=t.val:=λe=>q1 H4;exact XQ
    by_cases q2:v.av.toList=t.val.av.toList;rotate_left
    .have hne:¬v=t.val:=λe=>q2 H4;exact XQ
    have aF:v=t.val:=V.cK q0 q1 q2;have am:=Aa (show Df o t v=some o by unfold Df;rw[if_pos aq,if_pos aF]);clear aF aq;exact nC
   by_cases aj:t.kind=2
   .have b1:(t.kind==1)=false:=by simp;omega
    have b2:(t.kind==2)=true:=by simpa using aj
    have m:=Aa (ka t.var a c o w2 (Fw.owns R2.o) qd);cases ah:CU o t.var with
    |none=>
     have am:=Aa (show Df o t v=some (o++[⟨t.var,v⟩]) by unfold Df;rw[if_neg qd,if_pos aj,ah]);rw[ah]at m;unfold NI at m;clear ah aj;go_wp2_with fail;refine m.o.an λK O=>?_;obtain⟨y,u⟩:=Ak (Bg R2.o O) (D2.o.aj O);have aK:=zab O k2;have G:=zab O u0;have H:=zab O u1;have C:=zab O u2;have bj:=O.size;clear O m;go_upto_region 15 with fail;refine Bt ?_;intro B af aG;obtain⟨d0,d1,d2⟩:=Ao aG;obtain⟨E,D4⟩:=Ak (Bg y.o af) (u.o.aj af);have bK:=zab af aK;have bF:=zab af G;have bz:=zab af H;have bq:=zab af C;have bE:=af.size;have HW:=Aa (λo'=>Aj.alloc AA o':∀o',Bw B (B.alloc o'));clear af aG aK G H C y u;go_wp2_with (first|(at_builtin;refine EU qi (.tmp 70) (.tmp 75) 181 qi w0.heap.size 367 _ 4 48 underlying181 iB qi qd _ o.length _ qi (Bg E.o (HW.o _)) (some ⟨_,0,none⟩) 1 1 qi (ER ⟨t.var,v⟩) qi (λe=>qp) (Et _ _ _ _ qe) (by have:=fO [⟨t.var,v⟩];simpa using this) qm qd qg ?_;intro a9 c9 w9 aZ bn bA)|fail);obtain⟨R9,D9⟩:=Ak (show w9.ownsRow w0.heap.size 367 4 (.slice a9 (o++[(⟨t.var,v⟩:Bd)]).length c9) (o++[(⟨t.var,v⟩:Bd)]).length ((o++[(⟨t.var,v⟩:Bd)]).flatMap ER) by have:=aZ.o;simpa using this) ((D4.o.j ((HW.o _).ac D4.o.size)).grown bn.o qg (λg hg=>(E.o.lt g hg).1));clear aZ bn bA;go_roundw
     case rel=>exact⟨k+1,o++[⟨t.var,v⟩],a9,c9,ql,qd,qe,ar.o _ am.o,qg,R9.o,D9.o⟩
     case measure=>(simp[intOf];omega)
    |some old=>
     rw[ah]at m;unfold NI at m;go_wp2_with fail;refine m.o.an λK O=>?_;obtain⟨y,u⟩:=Ak (Bg R2.o O) (D2.o.aj O);have G:=zab O u0;have H:=zab O u1;have C:=zab O u2;have bj:=O.size;clear O m;go_upto_region 15 with fail;refine Bt ?_;intro B af aG;obtain⟨d0,d1,d2⟩:=Ao aG;obtain⟨E,D4⟩:=Ak (Bg y.o af) (u.o.aj af);have bF:=zab af G;have bz:=zab af H;have bq:=zab af C;clear af aG G H C y u;by_cases q0:old.kind=v.kind
     rotate_left
     .have hne:¬old=v:=λe=>q0 H4;exact XR
     by_cases q1:old.num=v.num;rotate_left
     .have hne:¬old=v:=λe=>q1 H4;exact XR
     by_cases q2:old.av.toList=v.av.toList;rotate_left
     .have hne:¬old=v:=λe=>q2 H4;exact XR
     have aF:old=v:=V.cK q0 q1 q2;have am:=Aa (show Df o t v=some o by unfold Df;rw[if_neg qd,if_pos aj,ah];simp only;rw[if_pos aF]);clear aF aj ah;go_wp2_with fail;go_roundw
     case rel=>exact⟨k+1,o,a,c,ql,qd,rfl,ar.o _ am.o,qd,E.o,D4.o⟩
     case measure=>(simp[intOf];omega)
   by_cases r:t.kind=3
   .have b1:(t.kind==1)=false:=by simp;omega
    have b2:(t.kind==2)=false:=by simp;omega
    have b3:(t.kind==3)=true:=by simpa using r
    go_upto_region 21 with fail
    refine Bt ?_;intro K z aT;obtain⟨x0,x1,x2⟩:=Ao aT;have bg:=zab z k1;have aK:=zab z k2;have G:=zab z u0;have H:=zab z u1;have C:=zab z u2;obtain⟨y,u⟩:=Ak (Bg R2.o z) (D2.o.aj z);have bj:=z.size;have BX:=Aa aT;clear z aT k0 k1 k2 k3 k4 k5 u0 u1 u2 R2 D2;by_cases L:t.var=⟨#[]⟩
    .have R:=Aa (show(if t.var=⟨#[]⟩ then t.val else(CU o t.var).getD Nb)=t.val from if_pos L);have bu:t.var.toList.isEmpty=true:=by rw[L,QT];rfl
     have bP:(t.var.toList != [])=false:=by rw[L,QT];rfl
     clear L;cases n:A2 t.op v t.val
     .obtain⟨Y,L3⟩:=Ak (show Df o t v=none by unfold Df;rw[if_neg qd,if_neg qd,if_pos r,R.o,if_neg (by rw[n];simp)]) (SR v t.val t.op K);rw[n]at L3;clear n r;go_wp2_with fail;refine L3.o.an λw8 ai=>?_;have D8:=Aa (u.o.aj ai);exact nT
     obtain⟨am,L3⟩:=Ak (show Df o t v=some o by unfold Df;rw[if_neg qd,if_neg qd,if_pos r,R.o,if_pos n]) (SR v t.val t.op K);rw[n]at L3;clear n r;go_wp2_with fail;refine L3.o.an λw8 ai=>?_;obtain⟨R8,D8⟩:=Ak (Bg y.o ai) (u.o.aj ai);exact nG
    have R:=Aa (show(if t.var=⟨#[]⟩ then t.val else(CU o t.var).getD Nb)=(CU o t.var).getD Nb from if_neg L);have bu:t.var.toList.isEmpty=false:=by cases h:t.var.toList.isEmpty;rfl;exact absurd (by have h2:(t.var.toList==(⟨#[]⟩:ByteArray).toList)=true:=(by rw[List.isEmpty_iff.1 h,QT];rfl);rw[EV]at h2;simpa using h2) L
    clear L;have m:=Aa (ka t.var a c o K (Fw.owns y.o) qd);obtain⟨D,Z⟩:∃D,D=(CU o t.var).getD Nb:=⟨_,rfl⟩
    replace R:=Aa (R.o.j Z.ai);have bf:=Aa (show∃fl:Bool,Ca 238 #[.slice a o.length c,.string t.var] K λe w'=>e=.returned (.tuple #[.agg #[.int .i64 D.kind,.int .i64 D.num,.string D.av],.bool fl])/\Bw K w' by cases ah:CU o t.var with|none=>(rw[ah]at Z m;subst Z;exact⟨false,m.o⟩)|some x=>(rw[ah]at Z m;subst Z;exact⟨true,m.o⟩));obtain⟨fl,a4⟩:=bf.o;have bo:=Aa a4;clear m bf a4 Z;go_wp2_with fail;refine bo.o.an λB A=>?_;have aH:=Aa ((A.block _ (As BX.o)).j BX.o);obtain⟨y0,y1,y2⟩:=Ao aH.o;have zf:=Aa (λj=>(show B.frozen? ⟨w2.heap.size,j,none⟩=false by simp[World.frozen?,aH.o]));have bw:=zf.o 0;have bG:=zf.o 1;have bv:=zf.o 2;have bp:=zab A bg;have a5:=zab A G;have bi:=zab A H;have aU:=zab A C;obtain⟨E,D4⟩:=Ak (Bg y.o A) (u.o.aj A);have bE:=A.size;clear A bo bg aK G H C x0 x1 x2 y u;go_upto_region 23 with fail;refine tE aH.o ?_;intro U bm I;obtain⟨x0,x1,x2⟩:=Ao bm;obtain⟨R5,D5⟩:=Ak (BZ E.o λg hg=>I.block g (λe=>by obtain⟨d,hd⟩:=A8 E.o hg;subst e;exact CB aH.o hd qh)) (D4.o.j (I.J qd));have bY:U.cell? ⟨wr.heap.size,1,none⟩=some (.int .i64 t.op):=(y8 (w:=B) (I.block (wr.heap.size) qd)).j bp;have bJ:U.cell? ⟨wr.heap.size+1,0,none⟩=some (.int .i64 v.kind):=(y8 (w:=B) (I.block (wr.heap.size+1) qd)).j a5;have bQ:U.cell? ⟨wr.heap.size+1,1,none⟩=some (.int .i64 v.num):=(y8 (w:=B) (I.block (wr.heap.size+1) qd)).j bi;have bU:U.cell? ⟨wr.heap.size+1,2,none⟩=some (.string v.av):=(y8 (w:=B) (I.block (wr.heap.size+1) qd)).j aU;clear bm I bp a5 bi aU y0 y1 y2 zf bw bG bv E D4 aH BX
    cases n:A2 t.op v D
    .obtain⟨Y,L3⟩:=Ak (show Df o t v=none by unfold Df;rw[if_neg qd,if_neg qd,if_pos r,R.o,if_neg (by rw[n];simp)]) (SR v D t.op U);rw[n]at L3;clear n r;go_wp2_with fail;refine L3.o.an λw8 ai=>?_;have D8:=Aa (D5.o.aj ai);exact nT
    obtain⟨am,L3⟩:=Ak (show Df o t v=some o by unfold Df;rw[if_neg qd,if_neg qd,if_pos r,R.o,if_pos n]) (SR v D t.op U);rw[n]at L3;clear n r;go_wp2_with fail;refine L3.o.an λw8 ai=>?_;obtain⟨R8,D8⟩:=Ak (Bg R5.o ai) (D5.o.aj ai);exact nG
   have b1:(t.kind==1)=false:=by simpa using aq
   have b2:(t.kind==2)=false:=by simpa using aj
   have b3:(t.kind==3)=false:=by simpa using r
   have am:=Aa (show Df o t v=some o by unfold Df;rw[if_neg aq,if_neg aj,if_neg r]);exact nC
  have br:k=p.aa.length:=qd;subst br;have hy:¬(p.aa.length:Int)<(p.aa.length:Int):=qd;have HR:=Aa (show Bk p f b=some o by rw[HG.o,yD AA];rfl);go_wp2_with fail;refine bodyPost_ret (v:=.tuple #[.slice a o.length c,.bool true]) (by simp[results,results179,go_sem]) rfl ?_;exact Gp.cC HR.o (DT ROW.o H0.o.size) aM.o
end Go.Proofs.YtikojfajahnhgaaGreat
