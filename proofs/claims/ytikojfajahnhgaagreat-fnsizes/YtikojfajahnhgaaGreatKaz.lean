import Derived.Test.YtikojfajahnhgaaGreatKay
import Derived.Test.YtikojfajahnhgaaGreatKaq
set_option linter.all false
set_option maxHeartbeats 12800000
set_option maxRecDepth 100000
namespace Go.Proofs.YtikojfajahnhgaaGreat
attribute [local simp] At I6 Pn mzI
attribute [local go_sem] At I6 Pn
open Go.RowKit Go.Proofs.Tryz
variable{P:Prop}
def GR(T:List F)(v:Vr):V:=(((T[v.ak]?.map (·.s)).getD [])[v.Y]?.getD (0,0,⟨#[]⟩))
def AE(T:List F)(vs:List Vr):List Bd:=vs.map (λv=>⟨v.name,GR T v⟩)
def OE(T s):∀vs:List Vr,CT (AE T vs) s=(BA vs s).map (GR T)
 |[]=>rfl
 |v::r=>by
  have O:=OE T s r
  unfold AE at O⊢
  rw[yq,MY,Qw]
  by_cases h:v.name=s
  .rw[if_pos h,if_pos h];rfl
  rw[if_neg h,if_neg h];exact O
def XP(s:ByteArray)(b:List Bd):∀a:List Bd,CT (a++b) s=(match CT a s with|some x=>some x|none=>CT b s)
 |[]=>rfl
 |x::r=>by
  rw[Yb,MY,MY]
  by_cases h:x.A=s
  .rw[if_pos h,if_pos h]
  rw[if_neg h,if_neg h];exact XP s b r
def nI(name:ByteArray)(t:Tm):∀(l:List Tm)(k:Nat),Gv name (l++[t]) k=(match Gv name l k with|some j=>some j|none=>if I1 name t=true then some (k+l.length) else none)
 |[],k=>by
  rw[yY,Nd]
  simp[Gv]
 |x::r,k=>by
  rw[Yb,Nd,Nd]
  by_cases h:I1 name x=true
  .rw[if_pos h,if_pos h]
  rw[if_neg h,if_neg h,nI name t r (k+1),yI,show k+1+r.length=k+(r.length+1) by omega]
def Me{ts:List Tm}{i:Nat}{t:Tm}(h:ts[i]?=some t)(name:ByteArray):Ai ts (i+1) name=(match Ai ts i name with|some j=>some j|none=>if I1 name t=true then some i else none):=by
 have a:i<ts.length:=(ye.1 h).1;unfold Ai;rw[yZ,h];show Gv name (ts.take i++[t]) 0=_;rw[nI];simp[Zi (KP a)]
def Cs(bs:List Bd)(ts:List Tm)(sl:List V):Nat->List Bd
 |0=>[]
 |i+1=>Cs bs ts sl i++(match ts[i]?,sl[i]? with|some t,some v=>if t.u=2/\CT bs t.A=none/\Ai ts i t.A=none then [⟨t.A,v⟩] else []|_,_=>[])
def SZ{a ts b i t v}(h:ts[i]?=some t)(hv:b[i]?=some v):Cs a ts b (i+1)=Cs a ts b i++(if t.u=2/\CT a t.A=none/\Ai ts i t.A=none then [⟨t.A,v⟩] else []):=by
 simp[Cs,h,hv]
def Ie{name t}:I1 name t=true↔t.u=2/\t.A=name:=by
 unfold I1;rw[EZ];simp
def QC{name}:∀{l:List Tm}{s k:Nat},Gv name l s=some k->k<s+l.length
 |[],_,_,h=>by simp[Gv]at h
 |t::r,s,k,h=>by
  rw[Nd]at h
  split at h
  .injection h with h
   subst h
   simp
  have:=QC h
  simp
  omega
def mA{d ts a}(hl:ts.length=a.length){name}(g:CT d name=none):∀i,i<=ts.length->CT (Cs d ts a i) name=(Ai ts i name).bind (λj=>a[j]?)
 |0,_=>by simp[Cs,CT,Ai,Gv]
 |i+1,hi=>by
  obtain⟨t,k⟩:∃t,ts[i]?=some t:=⟨ts[i],qe⟩
  obtain⟨v,hv⟩:∃v,a[i]?=some v:=⟨a[i],qe⟩
  have O:=mA hl g i qd
  rw[SZ k hv,XP,O,Me k]
  cases f:Ai ts i name with
  |some j=>
   have hj:j<ts.length:=by
    have:=QC f;simp at this;omega
   simp[show j<a.length by omega]
  |none=>
   simp only[Option.bind_none];by_cases b:I1 name t=true
   .obtain⟨m,l⟩:=Ie.1 b;subst l;rw[if_pos ⟨m,g,f⟩,if_pos b,MY,if_pos rfl];simp[hv]
   rw[if_neg b];by_cases c:t.u=2/\CT d t.A=none/\Ai ts i t.A=none
   .rw[if_pos c,MY,if_neg (λe=>b (Ie.2 ⟨c.1,e⟩))];rfl
   rw[if_neg c];rfl
section
attribute [local go_sem ↓] wp_at_zero wp_at_succ
def EV(b:Bd):List Value:=[.string b.A,.int .i64 b.val.u,.int .i64 b.val.num,.string b.val.J]
def lO:∀S:List Bd,(S.flatMap EV).length=S.length*4
 |[]=>rfl
 |b::r=>by
  rw[yL,yP,lO r]
  simp[EV]
  omega
def gI(c:List Bd):∀x∈c.flatMap EV,x.oneCell'=true:=by
 intro x d;obtain⟨b,_,a⟩:=Yo.1 d;simp[EV]at a;rcases a with rfl|rfl|rfl|rfl<;>rfl
def ry(c:List Bd)(j x)(h:(c.flatMap EV)[j]?=some x):∃b,c[j/4]?=some b/\(EV b)[j%4]?=some x:=by
 induction c generalizing j with
 |nil=>simp at h
 |cons b r O=>
  have a:(EV b).length=4:=rfl;rw[yL]at h;by_cases hj:j<4
  .rw[yr qd]at h;refine⟨b,?_,?_⟩
   .rw[show j/4=0 by omega];rfl
   rwa [show j%4=j by omega]
  rw[yx qd]at h;obtain⟨u,d,e⟩:=O (j-(EV b).length) h;rw[a]at d e;refine⟨u,?_,?_⟩
  .rw[show j/4=(j-4)/4+1 by omega];exact d
  rwa [show j%4=(j-4)%4 by omega]
def Gi.bC{q w c a}(h:Gi q w (some c) a)(j x)(l:(a.flatMap EV)[j]?=some x):w.cell? (c.add j)=some x:=by
 obtain⟨b,i,k⟩:=ry a j x l;obtain⟨g,o,r,d,_,_,e,f⟩:=h _ b i;cases d;have O:r=EV b:=f;rw[Wl];have:=e (j%4) x (by rw[O];exact k);rw[show o+j=o+j/4*4+j%4 by omega];exact this
def Gi.cM{q w a}(h:Gi q w none a):a.length=0:=by
 cases a with
 |nil=>rfl
 |cons v r=>
  obtain⟨b,o,_,c,_⟩:=h 0 v rfl;cases c
def Gi.owns{w base a c S}(h:w.ownsRow base 367 4 (.slice a S.length c) S.length (S.flatMap EV)):Gi none w a S:=by
 intro i s b;have key:=λj u(hj:(EV s)[j]?=some u)=>BM h (FK (cells:=EV) (m:=4) (λ_=>rfl) S i s j u b hj);obtain⟨g,rfl,_,_,_⟩:=key 0 _ rfl;refine⟨g,0,EV s,rfl,Qb.ah _ _ _,rfl,λj v hj=>?_,rfl⟩;obtain⟨O,e,_,d,_⟩:=key j v hj;cases e;rw[Yc];exact d
def ii:(prog.info? 367).map (λi=>(i.zero,i.size,i.bytes))=some (some (.agg #[.string ⟨#[]⟩,I6 0,I6 0,.string ⟨#[]⟩]),4,48):=qg
def Rj:(⟨#[]⟩:ByteArray).toList=[]:=qg
def V.cN{v u:V}(O:v.u=u.u)(b:v.num=u.num)(a:v.J.toList=u.J.toList):v=u:=by
 have h3:(v.J.toList==u.J.toList)=true:=by rw[a];simp
 rw[EZ]at h3;exact V.same O b Mt
def uS{P:World->Prop}{w b t x0 x1 f a c d}(O:w.heap[b]?=some (.cells #[x0,x1,f] t (0,0)))(h:∀wt,wt.heap[b]?=some (.cells #[a,c,d] t (0,0))->Turned w wt b->P wt):P (((w.setCell ⟨b,0,none⟩ a).setCell ⟨b,1,none⟩ c).setCell ⟨b,2,none⟩ d):=by
 have g:=Co (i:=0) O a;have e:=Co (i:=1) g c;have h3:=Co (i:=2) e d;exact h _ Mt (Turned.setCells [a,c,d] 0 w b)
def Gm(p:Pt)(f:F)(bs:List Bd)(w:World)(e:Ending)(w':World):Prop:=
 (match Bh p f bs with
  |none=>e=.returned (.tuple #[.slice none 0 0,.bool false])
  | some o=>∃a c,e=.returned (.tuple #[.slice a o.length c,.bool true])/\w'.ownsRow w.heap.size 367 4 (.slice a o.length c) o.length (o.flatMap EV))/\Bw w w'
def Gm.no{p f a w w'}(h:Bh p f a=none)(b:Bw w w'):Gm p f a w (.returned (.tuple #[.slice none 0 0,.bool false])) w':=by
 unfold Gm;rw[h];exact⟨rfl,b⟩
def Gm.cy{p f b o w w' a c}(h:Bh p f b=some o)(O:w'.ownsRow w.heap.size 367 4 (.slice a o.length c) o.length (o.flatMap EV))(d:Bw w w'):Gm p f b w (.returned (.tuple #[.slice a o.length c,.bool true])) w':=by
 unfold Gm;rw[h];exact⟨⟨a,c,rfl,O⟩,d⟩
def ni(h:P:=by
 go_wp2_with fail;go_roundw
 case rel=>exact⟨k+1,o,a,c,by go_num,by omega,rfl,au.o _ aq.o,by omega,R2.o,D2.o⟩
 case measure=>(simp[intOf];omega)
 ):=h
def ny(h:P:=by
 clear ak L3;go_wp2_with fail;go_roundw
 case rel=>exact⟨k+1,o,a,c,by go_num,by omega,rfl,au.o _ aq.o,by omega,R8.o,D8.o⟩
 case measure=>(simp[intOf];omega)
 ):=h
def pX(h:P:=by
 clear ak L3;go_wp2_with fail;refine bodyPost_ret (v:=.tuple #[.slice none 0 0,.bool false]) (by simp[results,results179,go_sem]) rfl ?_;exact Gm.no (am.o ah.o) (H0.o.thn D8.o)
 ):=h
def p8(h:P:=by
 go_enter func179,ntmps179;go_wp2_with fail;refine bodyPost_ret (v:=.tuple #[.slice none 0 0,.bool false]) (by simp[results,results179,go_sem]) rfl ?_;exact Gm.no HN.o (B2.o _ _)
 ):=h
def ZD(h:P:=by
 have ah:=Aa (show Dn o t v=none by unfold Dn;rw[if_pos ar,if_neg hne]);clear hne ar;go_wp2_with fail;refine bodyPost_ret (v:=.tuple #[.slice none 0 0,.bool false]) (by simp[results,results179,go_sem]) rfl ?_;exact Gm.no (am.o ah.o) (H0.o.thn D2.o)
 ):=h
def ZE(h:P:=by
 have ah:=Aa (show Dn o t v=none by unfold Dn;rw[if_neg (by omega),if_pos aj,ai];simp only;rw[if_neg hne]);clear hne aj ai;go_wp2_with fail;refine bodyPost_ret (v:=.tuple #[.slice none 0 0,.bool false]) (by simp[results,results179,go_sem]) rfl ?_;exact Gm.no (am.o ah.o) (H0.o.thn D4.o)
 ):=h
def zmb(p f b a3 bH fa fc ba bc){q q'}(w)(aY:E_ q w a3 p.e)(a5:Bt w fa f.s)(bj:Gi q' w ba b)(bV:p.e.length<=6)(bR:b.length<=1000) :
  Ca 179 #[.agg #[.bool p.neg,.string p.z,.slice a3 p.e.length bH],.agg #[.int .i64 f.tag,.string f.z,.slice fa f.s.length fc],.slice ba b.length bc] w (Gm p f b w):=by
 obtain⟨HT,HF,HB⟩:=AA aY a5 bj;clear aY a5 bj;have B2:=Aa (λo o1=>Aj.alloc qe _:∀o o1,Bw w ((w.alloc o).alloc o1));cases T:(p.z.toList==f.z.toList)
 .have HN:=Aa (show Bh p f b=none from if_neg (λh=>by rw[h.1]at T;simp at T));have aW:(p.z.toList != f.z.toList)=true:=by rw[bne,T];rfl
  exact p8
 have aW:(p.z.toList != f.z.toList)=false:=by rw[bne,T];rfl
 cases e2:((p.e.length:Int)==(f.s.length:Int))
 .have HN:=Aa (show Bh p f b=none from if_neg (λh=>by rw[h.2]at e2;simp at e2));have bo:((p.e.length:Int) != (f.s.length:Int))=true:=by rw[bne,e2];rfl
  exact p8
 have bo:((p.e.length:Int) != (f.s.length:Int))=false:=by rw[bne,e2];rfl
 have r:p.e.length=f.s.length:=by simp at e2;omega
 have aR:p.z=f.z:=by rw[EZ]at T;simpa using T
 obtain⟨bz,aQ⟩:=Ah (show Bh p f b=El b p.e f.s from if_pos ⟨aR,r⟩) r;clear r aR;go_enter func179,ntmps179;go_upto_region 1 with fail;refine BF ?_;intro w0 aP aG W;obtain⟨bZ,b5,aZ⟩:=Ao aG;obtain⟨bN,bY,bw⟩:=Ao W;have H0:=Aa aP;have b0:=aP.size;have bJ:w.heap.size+1<w0.heap.size:=Ak W;have aX:=Aa (HB.o.d aP);clear aP aG W;go_upto_region 5 with(first|(at_builtin;refine CN qi (.tmp 29) (.tmp 30) 181 qi w0.heap.size 367 _ 4 48 underlying181 ii qi qd _ 0 [] qi (yN _ _ _ _) ba b.length bc qi (b.flatMap EV) (by rw[lO]) (λe=>Gi.cM (e▸aX.o)) (λad e=>Gi.bC (e▸aX.o)) (gI _) qj qd AH ?_;intro a1 c1 w1 a7 aE a4)|fail);have aK:Bw w0 w1:=⟨aE.o.os,aE.o.tape,aE.o.output,aE.o.size,λk hk=>aE.o.block k hk (λe=>qo)⟩
 have bl:=Aa (show w1.ownsRow w0.heap.size 367 4 (.slice a1 b.length c1) b.length (b.flatMap EV) by have:=a7.o;simpa using this);have a8:=zab aK aZ;have aS:=Aa aK;clear a7 aE a4 T e2 aW bo aK;go_wp2_with fail;clear a8
 go_loopw [35,8] (λiv ov wr=>∃(k:Nat)(o:List Bd)(a:Option Addr)(c:Nat),iv=.int .i64 (k:Int)/\k<=p.e.length/\ov=.slice a o.length c/\Bh p f b=El o (p.e.drop k) (f.s.drop k)/\o.length<=b.length+k/\wr.ownsRow w0.heap.size 367 4 (.slice a o.length c) o.length (o.flatMap EV)/\Bw w0 wr) (λiv _ _=>p.e.length-(intOf iv).toNat)
 case atStart=>exact⟨0,b,a1,c1,rfl,yk _,rfl,bz.o,yu _,bl.o,aS.o⟩
 case round=>
  obtain⟨k,o,a,c,rfl,bP,rfl,hG,bM,aT,hb⟩:=hrel;obtain⟨HG,ROW,aO,aL⟩:=Bn hG aT hb (H0.o.thn hb);have bW:=hb.size;clear hG aT hb aS bl;by_cases hk:k<p.e.length
  .obtain⟨t,ht⟩:=Ba hk;obtain⟨v,hv⟩:∃v,f.s[k]?=some v:=⟨f.s[k]'(by have:=aQ.o;omega),qe⟩
   obtain⟨HD,aV⟩:=Ah (CF ht) (CF hv);obtain⟨tb,tk,rfl,_,t0,t1,t2,t3,t4,t5⟩:=(HT.o.d aL.o).get ht;obtain⟨vb,vo,rfl,v0,v1,v2⟩:=(HF.o.d aL.o) k v hv;have br:=zab aO.o aZ;have bE:=zab aO.o bw;have a4:w.heap.size+1<wr.heap.size:=qd;have bX:=LZ v0;have z0:(0:Int)<=(k:Int):=qd;have z1:(k:Int)<(p.e.length:Int):=qd;have z2:(k:Int)<(f.s.length:Int):=by have:=aQ.o;omega
   obtain⟨am,au⟩:=Ah (λ(h:Dn o t v=none)=>(show Bh p f b=none by rw[HG.o,HD.o,aV.o];exact x7 h)) (λo'(h:Dn o t v=some o')=>(show Bh p f b=El o' (p.e.drop (k+1)) (f.s.drop (k+1)) by rw[HG.o,HD.o,aV.o];exact zi h));clear ht hv HD aV HG;go_upto_region 9 with fail;refine BF ?_;intro w2 aM aG W;obtain⟨k0,k1,k2,k3,k4,k5⟩:=F_ aG;obtain⟨u0,u1,u2⟩:=Ao W;obtain⟨R2,D2⟩:=Ah (AF ROW.o aM) (aO.o.thn aM);have bO:=aM.size;have bT:wr.heap.size+1<w2.heap.size:=Ak W;clear aM aG W t0 t1 t2 t3 t4 t5 v0 v1 v2 br bE ROW aO aL;by_cases ar:t.u=1
   .have b1:(t.u==1)=true:=by simpa using ar
    by_cases q0:v.u=t.val.u;rotate_left
    .have hne:¬v=t.val:=λe=>q0 Gx;exact ZD
    by_cases q1:v.num=t.val.num;rotate_left
    .have hne:¬v=t.val:=λe=>q1 Gx;exact ZD
    by_cases q2:v.J.toList=t.val.J.toList;rotate_left
    .have hne:¬v=t.val:=λe=>q2 Gx;exact ZD
    have aH:v=t.val:=V.cN q0 q1 q2;have aq:=Aa (show Dn o t v=some o by unfold Dn;rw[if_pos ar,if_pos aH]);clear aH ar;exact ni
   by_cases aj:t.u=2
   .have b1:(t.u==1)=false:=by simp;omega
    have b2:(t.u==2)=true:=by simpa using aj
    have m:=Aa (lr t.A a c o w2 (Gi.owns R2.o) qd);cases ai:CT o t.A with
    |none=>
     have aq:=Aa (show Dn o t v=some (o++[⟨t.A,v⟩]) by unfold Dn;rw[if_neg qd,if_pos aj,ai]);rw[ai]at m;unfold NG at m;clear ai aj;go_wp2_with fail;refine m.o.rtn λZ O=>?_;obtain⟨D,C⟩:=Ah (AF R2.o O) (D2.o.thn O);have aN:=zab O k2;have K:=zab O u0;have M:=zab O u1;have N:=zab O u2;have a6:=O.size;clear O m;go_upto_region 15 with fail;refine Be ?_;intro H af aI;obtain⟨d0,d1,d2⟩:=Ao aI;obtain⟨I,D4⟩:=Ah (AF D.o af) (C.o.thn af);have bQ:=zab af aN;have bD:=zab af K;have bG:=zab af M;have bt:=zab af N;have bB:=af.size;have HW:=Aa (λo'=>An.alloc AH o':∀o',Bw H (H.alloc o'));clear af aI aN K M N D C;go_wp2_with (first|(at_builtin;refine CN qi (.tmp 70) (.tmp 75) 181 qi w0.heap.size 367 _ 4 48 underlying181 ii qi qd _ o.length _ qi (AF I.o (HW.o _)) (some ⟨_,0,none⟩) 1 1 qi (EV ⟨t.A,v⟩) qi (λe=>qo) (Cv _ _ _ _ qe) (by have:=gI [⟨t.A,v⟩];simpa using this) qj qd qf ?_;intro a9 c9 w9 bp bq bC)|fail);obtain⟨R9,D9⟩:=Ah (show w9.ownsRow w0.heap.size 367 4 (.slice a9 (o++[(⟨t.A,v⟩:Bd)]).length c9) (o++[(⟨t.A,v⟩:Bd)]).length ((o++[(⟨t.A,v⟩:Bd)]).flatMap EV) by have:=bp.o;simpa using this) ((D4.o.c ((HW.o _).j D4.o.size)).grown bq.o qf (λg hg=>(I.o.lt g hg).1));clear bp bq bC;go_roundw
     case rel=>exact⟨k+1,o++[⟨t.A,v⟩],a9,c9,qm,qd,qe,au.o _ aq.o,qf,R9.o,D9.o⟩
     case measure=>(simp[intOf];omega)
    |some old=>
     rw[ai]at m;unfold NG at m;go_wp2_with fail;refine m.o.rtn λZ O=>?_;obtain⟨D,C⟩:=Ah (AF R2.o O) (D2.o.thn O);have K:=zab O u0;have M:=zab O u1;have N:=zab O u2;have a6:=O.size;clear O m;go_upto_region 15 with fail;refine Be ?_;intro H af aI;obtain⟨d0,d1,d2⟩:=Ao aI;obtain⟨I,D4⟩:=Ah (AF D.o af) (C.o.thn af);have bD:=zab af K;have bG:=zab af M;have bt:=zab af N;clear af aI K M N D C;by_cases q0:old.u=v.u
     rotate_left
     .have hne:¬old=v:=λe=>q0 Gx;exact ZE
     by_cases q1:old.num=v.num;rotate_left
     .have hne:¬old=v:=λe=>q1 Gx;exact ZE
     by_cases q2:old.J.toList=v.J.toList;rotate_left
     .have hne:¬old=v:=λe=>q2 Gx;exact ZE
     have aH:old=v:=V.cN q0 q1 q2;have aq:=Aa (show Dn o t v=some o by unfold Dn;rw[if_neg qd,if_pos aj,ai];simp only;rw[if_pos aH]);clear aH aj ai;go_wp2_with fail;go_roundw
     case rel=>exact⟨k+1,o,a,c,qm,qd,rfl,au.o _ aq.o,qd,I.o,D4.o⟩
     case measure=>(simp[intOf];omega)
   by_cases B:t.u=3
   .have b1:(t.u==1)=false:=by simp;omega
    have b2:(t.u==2)=false:=by simp;omega
    have b3:(t.u==3)=true:=by simpa using B
    go_upto_region 21 with fail
    refine Be ?_;intro Z G aU;obtain⟨x0,x1,x2⟩:=Ao aU;have bm:=zab G k1;have aN:=zab G k2;have K:=zab G u0;have M:=zab G u1;have N:=zab G u2;obtain⟨D,C⟩:=Ah (AF R2.o G) (D2.o.thn G);have a6:=G.size;have BX:=Aa aU;clear G aU k0 k1 k2 k3 k4 k5 u0 u1 u2 R2 D2;by_cases R:t.A=⟨#[]⟩
    .have U:=Aa (show(if t.A=⟨#[]⟩ then t.val else(CT o t.A).getD Nf)=t.val from if_pos R);have bu:t.A.toList.isEmpty=true:=by rw[R,Rj];rfl
     have b4:(t.A.toList != [])=false:=by rw[R,Rj];rfl
     clear R;cases n:AZ t.op v t.val
     .obtain⟨ah,L3⟩:=Ah (show Dn o t v=none by unfold Dn;rw[if_neg qd,if_neg qd,if_pos B,U.o,if_neg (by rw[n];simp)]) (Tr v t.val t.op Z);rw[n]at L3;clear n B;go_wp2_with fail;refine L3.o.rtn λw8 ak=>?_;have D8:=Aa (C.o.thn ak);exact pX
     obtain⟨aq,L3⟩:=Ah (show Dn o t v=some o by unfold Dn;rw[if_neg qd,if_neg qd,if_pos B,U.o,if_pos n]) (Tr v t.val t.op Z);rw[n]at L3;clear n B;go_wp2_with fail;refine L3.o.rtn λw8 ak=>?_;obtain⟨R8,D8⟩:=Ah (AF D.o ak) (C.o.thn ak);exact ny
    have U:=Aa (show(if t.A=⟨#[]⟩ then t.val else(CT o t.A).getD Nf)=(CT o t.A).getD Nf from if_neg R);have bu:t.A.toList.isEmpty=false:=by cases h:t.A.toList.isEmpty;rfl;exact absurd (by have h2:(t.A.toList==(⟨#[]⟩:ByteArray).toList)=true:=(by rw[List.isEmpty_iff.1 h,Rj];rfl);rw[EZ]at h2;simpa using h2) R
    clear R;have m:=Aa (lr t.A a c o Z (Gi.owns D.o) qd);obtain⟨L,aF⟩:∃L,L=(CT o t.A).getD Nf:=⟨_,rfl⟩
    replace U:=Aa (U.o.c aF.y);have bg:=Aa (show∃fl:Bool,Ca 238 #[.slice a o.length c,.string t.A] Z λe w'=>e=.returned (.tuple #[.agg #[.int .i64 L.u,.int .i64 L.num,.string L.J],.bool fl])/\Bw Z w' by cases ai:CT o t.A with|none=>(rw[ai]at aF m;subst aF;exact⟨false,m.o⟩)|some x=>(rw[ai]at aF m;subst aF;exact⟨true,m.o⟩));obtain⟨fl,bi⟩:=bg.o;have a0:=Aa bi;clear m bg bi aF;go_wp2_with fail;refine a0.o.rtn λH E=>?_;have aJ:=Aa ((E.block _ (Ak BX.o)).c BX.o);obtain⟨y0,y1,y2⟩:=Ao aJ.o;have zf:=Aa (λj=>(show H.frozen? ⟨w2.heap.size,j,none⟩=false by simp[World.frozen?,aJ.o]));have bI:=zf.o 0;have bA:=zf.o 1;have bF:=zf.o 2;have bd:=zab E bm;have bf:=zab E K;have bh:=zab E M;have bk:=zab E N;obtain⟨I,D4⟩:=Ah (AF D.o E) (C.o.thn E);have bB:=E.size;clear E a0 bm aN K M N x0 x1 x2 D C;go_upto_region 23 with fail;refine uS aJ.o ?_;intro w5 bn Y;obtain⟨x0,x1,x2⟩:=Ao bn;obtain⟨R5,D5⟩:=Ah (Bv I.o λg hg=>Y.block g (λe=>by obtain⟨d,hd⟩:=AO I.o hg;subst e;exact Cf aJ.o hd qh)) (D4.o.c (Y.d qd));have bL:w5.cell? ⟨wr.heap.size,1,none⟩=some (.int .i64 t.op):=(yR (w:=H) (Y.block (wr.heap.size) qd)).c bd;have bK:w5.cell? ⟨wr.heap.size+1,0,none⟩=some (.int .i64 v.u):=(yR (w:=H) (Y.block (wr.heap.size+1) qd)).c bf;have bS:w5.cell? ⟨wr.heap.size+1,1,none⟩=some (.int .i64 v.num):=(yR (w:=H) (Y.block (wr.heap.size+1) qd)).c bh;have bU:w5.cell? ⟨wr.heap.size+1,2,none⟩=some (.string v.J):=(yR (w:=H) (Y.block (wr.heap.size+1) qd)).c bk;clear bn Y bd bf bh bk y0 y1 y2 zf bI bA bF I D4 aJ BX
    cases n:AZ t.op v L
    .obtain⟨ah,L3⟩:=Ah (show Dn o t v=none by unfold Dn;rw[if_neg qd,if_neg qd,if_pos B,U.o,if_neg (by rw[n];simp)]) (Tr v L t.op w5);rw[n]at L3;clear n B;go_wp2_with fail;refine L3.o.rtn λw8 ak=>?_;have D8:=Aa (D5.o.thn ak);exact pX
    obtain⟨aq,L3⟩:=Ah (show Dn o t v=some o by unfold Dn;rw[if_neg qd,if_neg qd,if_pos B,U.o,if_pos n]) (Tr v L t.op w5);rw[n]at L3;clear n B;go_wp2_with fail;refine L3.o.rtn λw8 ak=>?_;obtain⟨R8,D8⟩:=Ah (AF R5.o ak) (D5.o.thn ak);exact ny
   have b1:(t.u==1)=false:=by simpa using ar
   have b2:(t.u==2)=false:=by simpa using aj
   have b3:(t.u==3)=false:=by simpa using B
   have aq:=Aa (show Dn o t v=some o by unfold Dn;rw[if_neg ar,if_neg aj,if_neg B]);exact ni
  have bv:k=p.e.length:=qd;subst bv;have hy:¬(p.e.length:Int)<(p.e.length:Int):=qd;have HR:=Aa (show Bh p f b=some o by rw[HG.o,yy AH];rfl);go_wp2_with fail;refine bodyPost_ret (v:=.tuple #[.slice a o.length c,.bool true]) (by simp[results,results179,go_sem]) rfl ?_;exact Gm.cy HR.o (CA ROW.o H0.o.size) aL.o
end
def iV{v o}:My v o=true↔v=o:=by
 unfold My;constructor
 .intro h;simp only[yi,beq_iff_eq,decide_eq_true_eq]at h;exact V.cN h.1 h.2.1 h.2.2
 rintro rfl;simp
def Xj(v o):AZ 1 v o=decide (v=o):=by
 have:AZ 1 v o=My v o:=by simp[AZ]
 rw[this];by_cases h:v=o
 .rw[decide_eq_true h];exact iV.2 h
 rw[decide_eq_false h];cases a:My v o
 .rfl
 exact absurd (iV.1 a) h
def Ed(T:List F)(vs:List Vr)(ts:List Tm)(f:F)(i:Nat)(t:Tm):Bool:=
 (match EM ts i t with|none=>true|some u=>EL u f.s)&&(match Cu vs ts i t with|none=>true|some u=>Ap T f u)
def zdR{ts i t}(h:ts[i]?=some t)(a:t.u≠2)(name):Ai ts (i+1) name=Ai ts i name:=by
 rw[Me h,if_neg (λe=>a (Ie.1 e).1)];cases Ai ts i name<;>rfl
def XH{b ts a i t v}(h:ts[i]?=some t)(hv:a[i]?=some v)(c:t.u≠2):Cs b ts a (i+1)=Cs b ts a i:=by
 rw[SZ h hv,if_neg (λe=>c e.1),yQ]
def mx{a}{i:Nat}{v b val}(h:a[i]?=some v):EL ⟨(i:Int),b, -1,val⟩ a=AZ b v val:=by simp_all[GE,V,EL,AZ]
def ly{a}{i j:Nat}{v u b val}(h:a[i]?=some v)(hj:a[j]?=some u):EL ⟨(i:Int),b,(j:Int),val⟩ a=AZ b v u:=by simp_all[GE,V,EL,AZ]
def kG{T f i v a x}(h:f.s[i]?=some v):Ap T f ⟨i,a,x.ak,x.Y⟩=AZ a v (GR T x):=by
 unfold Ap GR;simp only[h];rfl
def L6{s:ByteArray}:s.toList.isEmpty=true↔s=⟨#[]⟩:=by
 constructor
 .intro h;have a:(s.toList==(⟨#[]⟩:ByteArray).toList)=true:=by rw[List.isEmpty_iff.1 h,Rj];rfl
  rw[EZ]at a;simpa using a
 rintro rfl;rw[Rj];rfl
section
variable {T : List F} {vs : List Vr} {f : F} {ts : List Tm} {i : Nat} {t : Tm} {v : V}
def jG(hl:ts.length=f.s.length)(a:i<=ts.length)(name:ByteArray):CT (AE T vs++Cs (AE T vs) ts f.s i) name=(match CT (AE T vs) name with|some x=>some x|none=>(Ai ts i name).bind (λj=>f.s[j]?)):=by
 rw[XP];cases h:CT (AE T vs) name with
 |some x=>rfl
 |none=>exact mA hl h i a
def Fi(T:List F)(vs:List Vr)(ts:List Tm)(f:F)(i:Nat):Prop:=∀name x j,CT (AE T vs) name=some x->Ai ts i name=some j->f.s[j]?=some x
def zc(hk:t.u=0)(O:t.A=⟨#[]⟩)(ht:ts[i]?=some t)(hv:f.s[i]?=some v)(e:BA vs ⟨#[]⟩=none)(a:Fi T vs ts f i) :
  Dn (AE T vs++Cs (AE T vs) ts f.s i) t v=(if Ed T vs ts f i t=true then some (AE T vs++Cs (AE T vs) ts f.s (i+1)) else none)/\(Ed T vs ts f i t=true->Fi T vs ts f (i+1)):=by
 have g:EM ts i t=none:=by unfold EM;rw[if_pos Jb]
 have b:Cu vs ts i t=none:=by unfold Cu;rw[O,e]
 have d:Ed T vs ts f i t=true:=by unfold Ed;rw[g,b];rfl
 rw[if_pos d,XH ht hv qd];refine⟨?_,λ_ name x j c hj=>a name x j c ZT⟩;unfold Dn;rw[if_neg qd,if_neg qd,if_neg qd]
def wh(hk:t.u=1)(O:t.A=⟨#[]⟩)(ht:ts[i]?=some t)(hv:f.s[i]?=some v)(e:BA vs ⟨#[]⟩=none)(a:Fi T vs ts f i) :
  Dn (AE T vs++Cs (AE T vs) ts f.s i) t v=(if Ed T vs ts f i t=true then some (AE T vs++Cs (AE T vs) ts f.s (i+1)) else none)/\(Ed T vs ts f i t=true->Fi T vs ts f (i+1)):=by
 have g:EM ts i t=some ⟨(i:Int),1, -1,t.val⟩:=by
  unfold EM BJ;rw[if_neg Jb,if_pos (L6.2 O),if_neg Jb]
 have b:Cu vs ts i t=none:=by unfold Cu;rw[O,e]
 have d:Ed T vs ts f i t=decide (v=t.val):=by unfold Ed;rw[g,b];simp only[mx hv,Xj,WS]
 rw[d,XH ht hv qd];refine⟨?_,λ_ name x j c hj=>a name x j c ZT⟩;unfold Dn;rw[if_pos hk];by_cases h:v=t.val
 .rw[if_pos h,if_pos (decide_eq_true h)]
 rw[if_neg h,if_neg qq]
def o6(h:P:=by rw[yH hj]at this;injection this with this;simp[this]):=h
def w_(hk:t.u=3)(hl:ts.length=f.s.length)(ht:ts[i]?=some t)(hv:f.s[i]?=some v)(m:BA vs ⟨#[]⟩=none)(p:t.A≠⟨#[]⟩->BA vs t.A≠none∨Ai ts i t.A≠none)(k:Fi T vs ts f i) :
  Dn (AE T vs++Cs (AE T vs) ts f.s i) t v=(if Ed T vs ts f i t=true then some (AE T vs++Cs (AE T vs) ts f.s (i+1)) else none)/\(Ed T vs ts f i t=true->Fi T vs ts f (i+1)):=by
 have o:i<ts.length:=(ye.1 ht).1;rw[XH ht hv qd];refine⟨?_,λ_ name x j n hj=>k name x j n ZT⟩;unfold Dn;rw[if_neg qd,if_neg qd,if_pos hk];by_cases O:t.A=⟨#[]⟩
 .have e:EM ts i t=some ⟨(i:Int),t.op, -1,t.val⟩:=by
   unfold EM BJ;rw[if_neg Jb,if_pos (L6.2 O),if_pos Jb]
  have c:Cu vs ts i t=none:=by unfold Cu;rw[O,m]
  have b:Ed T vs ts f i t=AZ t.op v t.val:=by unfold Ed;rw[e,c];simp only[mx hv,WS]
  rw[b,if_pos O]
 have d:¬t.A.toList.isEmpty=true:=λh=>O (L6.1 h);rw[if_neg O,jG hl (KP o),OE];cases a:Ai ts i t.A with
 |some j=>
  have hj:j<f.s.length:=by
   have:=QC a;simp at this;omega
  have e:EM ts i t=some ⟨(i:Int),t.op,(j:Int),I8⟩:=by
   unfold EM BJ;rw[if_neg Jb,if_neg d,a];simp[hk]
  have c:Cu vs ts i t=none:=by
   unfold Cu;cases BA vs t.A with
   |none=>rfl
   |some x=>simp only[a]
  have b:Ed T vs ts f i t=AZ t.op v f.s[j]:=by unfold Ed;rw[e,c];simp only[ly hv (yH hj),WS]
  have l:((match (BA vs t.A).map (GR T) with|some x=>some x|none=>(some j).bind (λj=>f.s[j]?)).getD Nf)=f.s[j]:=by
   cases g:BA vs t.A with
   |none=>simp[hj]
   |some x=>
    have:=k t.A (GR T x) j (by rw[OE,g];rfl) a;exact o6
  rw[b,l]
 |none=>
  cases g:BA vs t.A with
  |none=>rcases p O with h|h;exact absurd g h;exact absurd a h
  |some x=>
   have e:EM ts i t=none:=by
    unfold EM;rw[if_neg Jb,if_neg d,a]
   have c:Cu vs ts i t=some ⟨i,t.op,x.ak,x.Y⟩:=by
    unfold Cu BJ;rw[g];simp only[a];simp[hk]
   have b:Ed T vs ts f i t=AZ t.op v (GR T x):=by unfold Ed;rw[e,c];simp only[kG hv,YJ]
   rw[b];rfl
def wU(hk:t.u=2)(D:t.A≠⟨#[]⟩)(hl:ts.length=f.s.length)(n:ts[i]?=some t)(hv:f.s[i]?=some v)(w:Fi T vs ts f i) :
  Dn (AE T vs++Cs (AE T vs) ts f.s i) t v=(if Ed T vs ts f i t=true then some (AE T vs++Cs (AE T vs) ts f.s (i+1)) else none)/\(Ed T vs ts f i t=true->Fi T vs ts f (i+1)):=by
 have H:i<ts.length:=(ye.1 n).1;have o:¬t.A.toList.isEmpty=true:=λh=>D (L6.1 h);have B:BJ t=1:=by unfold BJ;rw[if_neg Jb]
 have G:∀out,Dn out t v=(match CT out t.A with|some old=>if old=v then some out else none|none=>some (out++[⟨t.A,v⟩])):=by
  intro out;unfold Dn;rw[if_neg qd,if_pos hk];cases CT out t.A<;>rfl
 rw[G,jG hl (KP H),SZ n hv];cases d:Ai ts i t.A with
 |some j=>
  have hj:j<f.s.length:=by
   have:=QC d;simp at this;omega
  have r:EM ts i t=some ⟨(i:Int),1,(j:Int),I8⟩:=by
   unfold EM;rw[if_neg Jb,if_neg o,d,B]
  have k:Cu vs ts i t=none:=by
   unfold Cu;cases BA vs t.A with
   |none=>rfl
   |some x=>simp only[d]
  have m:Ed T vs ts f i t=decide (v=f.s[j]):=by unfold Ed;rw[r,k];simp only[ly hv (yH hj),Xj,WS]
  have E:(match CT (AE T vs) t.A with|some x=>some x|none=>(some j).bind (λj=>f.s[j]?))=some f.s[j]:=by
   cases g:CT (AE T vs) t.A with
   |none=>simp[hj]
   |some x=>
    have:=w t.A x j g d;exact o6
  rw[E,m,if_neg (c:=t.u=2/\_) (λe=>by cases e.2.2),yQ];refine⟨?_,λ_ name x C b O=>?_⟩
  .by_cases h:v=f.s[j]
   .simp[h]
   show(if f.s[j]=v then _ else _)=_;rw[if_neg (λe=>h e.y),if_neg qq]
  .rw[Me n]at O;cases a:Ai ts i name with
   |some p=>rw[a]at O;injection O with O;subst O;exact w name x p b a
   |none=>
    rw[a]at O;simp only at O;split at O
    .rename_i l;rw[(Ie.1 l).2]at d;rw[d]at a;cases a
    .cases O
 |none=>
  have r:EM ts i t=none:=by
   unfold EM;rw[if_neg Jb,if_neg o,d]
  cases g:BA vs t.A with
  |none=>
   have q:CT (AE T vs) t.A=none:=by rw[OE,g];rfl
   have k:Cu vs ts i t=none:=by unfold Cu;rw[g]
   have m:Ed T vs ts f i t=true:=by unfold Ed;rw[r,k];rfl
   rw[q,m,if_pos rfl,if_pos ⟨hk,rfl,rfl⟩];refine⟨qe,λ_ name x C b O=>?_⟩;rw[Me n]at O;cases a:Ai ts i name with
   |some p=>rw[a]at O;injection O with O;subst O;exact w name x p b a
   |none=>
    rw[a]at O;simp only at O;split at O
    .rename_i l;rw[<-(Ie.1 l).2,q]at b;cases b
    .cases O
  |some x=>
   have q:CT (AE T vs) t.A=some (GR T x):=by rw[OE,g];rfl
   have k:Cu vs ts i t=some ⟨i,1,x.ak,x.Y⟩:=by
    unfold Cu;rw[g];simp only[d,B]
   have m:Ed T vs ts f i t=decide (v=GR T x):=by unfold Ed;rw[r,k];simp only[kG hv,Xj,YJ]
   rw[q,m,if_neg (c:=t.u=2/\_) (λe=>by cases e.2.1),yQ];refine⟨?_,λz name y C b O=>?_⟩
   .by_cases h:v=GR T x
    .simp[h]
    show(if GR T x=v then _ else _)=_;rw[if_neg (λe=>h e.y),if_neg qq]
   rw[Me n]at O;cases a:Ai ts i name with
   |some p=>rw[a]at O;injection O with O;subst O;exact w name y p b a
   |none=>
    rw[a]at O;simp only at O;split at O
    .rename_i l;injection O with O;subst O;rw[<-(Ie.1 l).2,q]at b;injection b with b;rw[hv,of_decide_eq_true z,b]
    cases O
end
section
variable {T : List F} {vs : List Vr} {f : F} {ts : List Tm}
def I3(T:List F)(vs:List Vr)(ts:List Tm)(f:F):Nat->Bool
 |0=>true
 |i+1=>I3 T vs ts f i&&(match ts[i]? with|none=>true|some t=>Ed T vs ts f i t)
def mf{i t}(h:ts[i]?=some t):I3 T vs ts f (i+1)=(I3 T vs ts f i&&Ed T vs ts f i t):=by simp[I3,h]
def m8{i}:∀n,i<=n->I3 T vs ts f n=true->I3 T vs ts f i=true
 |0,h,hn=>by
  have:i=0:=qd
  subst this
  exact hn
 |n+1,h,hn=>by
  by_cases a:i=n+1
  .subst a;exact hn
  simp only[I3,yi]at hn
  exact m8 n qd hn.1
def kZ:∀n,I3 T vs ts f n=((BL ts n).all (λt=>EL t f.s)&&(Cw vs ts n).all (Ap T f))
 |0=>rfl
 |n+1=>by
  simp only[I3,BL,Cw,Zl]
  rw[kZ n]
  cases ts[n]? with
  |none=>simp
  |some t=>
   simp only[Ed]
   cases EM ts n t<;>cases Cu vs ts n t<;>simp[Bool.and_assoc,Bool.and_left_comm,Bool.and_comm]
def iI{s:ByteArray}(h:Aq s.data.toList=true):s≠⟨#[]⟩:=by
 rintro rfl;revert h
 decide
def y_{i t v}(a:CY t=true)(hl:ts.length=f.s.length)(b:ts[i]?=some t)(hv:f.s[i]?=some v)(c:BA vs ⟨#[]⟩=none)(d:t.u=3->t.A≠⟨#[]⟩->BA vs t.A≠none∨Ai ts i t.A≠none)(O:Fi T vs ts f i) :
  Dn (AE T vs++Cs (AE T vs) ts f.s i) t v=(if Ed T vs ts f i t=true then some (AE T vs++Cs (AE T vs) ts f.s (i+1)) else none)/\(Ed T vs ts f i t=true->Fi T vs ts f (i+1)):=by
 unfold CY at a;by_cases h0:t.u=0
 .rw[if_pos qD]at a;simp only[yi]at a;exact zc h0 (L6.1 a.2.1) b hv c O
 rw[if_neg qD]at a;by_cases h1:t.u=1
 .rw[if_pos qw]at a;simp only[yi]at a;exact wh h1 (L6.1 a.2.1) b hv c O
 rw[if_neg qw]at a;by_cases h2:t.u=2
 .rw[if_pos qu]at a;simp only[yi]at a;exact wU h2 (iI a.2.1) hl b hv O
 rw[if_neg qu]at a;by_cases h3:t.u=3
 .exact w_ h3 hl b hv c (d h3) O
 rw[if_neg Mt]at a;cases a
def gv(c:∀t∈ts,CY t=true)(hl:ts.length=f.s.length)(g:BA vs ⟨#[]⟩=none)(e:∀i t,ts[i]?=some t->t.u=3->t.A≠⟨#[]⟩->BA vs t.A≠none∨Ai ts i t.A≠none):∀(d i:Nat),i+d=ts.length->I3 T vs ts f i=true->Fi T vs ts f i ->
  El (AE T vs++Cs (AE T vs) ts f.s i) (ts.drop i) (f.s.drop i)=(if I3 T vs ts f ts.length=true then some (AE T vs++Cs (AE T vs) ts f.s ts.length) else none)
 |0,i,hi,hok,_=>by
  have:i=ts.length:=qd
  subst this
  rw[if_pos hok,yy AH]
  rfl
 |d+1,i,hi,hok,hf=>by
  obtain⟨t,a⟩:∃t,ts[i]?=some t:=⟨ts[i],qe⟩
  obtain⟨v,hv⟩:∃v,f.s[i]?=some v:=⟨f.s[i],qe⟩
  obtain⟨l,j⟩:=y_ (T:=T) (c t (yd a)) hl a hv g (e i t a) hf
  rw[CF a,CF hv,S_,l]
  by_cases b:Ed T vs ts f i t=true
  .rw[if_pos b]
   exact gv c hl g e d (i+1) qd (by rw[mf a,hok,b];rfl) (j b)
  rw[if_neg b,if_neg (λk=>b (by have:=m8 (i:=i+1) ts.length qd k;rw[mf a,hok]at this;simpa using this))]
def xg{p}(b:C_ p=true)(m:BA vs ⟨#[]⟩=none)(l:∀i t,p.e[i]?=some t->t.u=3->t.A≠⟨#[]⟩->BA vs t.A≠none∨Ai p.e i t.A≠none) :
  Bh p f (AE T vs)=(if(Ae (C0 p) f&&(Cw vs p.e p.e.length).all (Ap T f))=true then some (AE T vs++Cs (AE T vs) p.e f.s p.e.length) else none):=by
 have c:C0 p=⟨p.z,(p.e.length:Int),BL p.e p.e.length⟩:=if_pos b;have O:∀t∈p.e,CY t=true:=by
  unfold C_ at b;simp only[yi]at b;exact Yy.1 b.2.2
 unfold Bh;rw[c];by_cases a:p.z=f.z/\p.e.length=f.s.length
 .have d:Ae ⟨p.z,(p.e.length:Int),BL p.e p.e.length⟩ f=(BL p.e p.e.length).all (λt=>EL t f.s):=by
   unfold Ae;rw[decide_eq_true (by rw[a.1]),decide_eq_true qf];simp
  rw[if_pos a,d,<-kZ];have:=gv (T:=T) O a.2 m l p.e.length 0 qd rfl (λname x j _ h=>by simp[Ai,Gv]at h);simpa[Cs] using this
 rw[if_neg a];have d:Ae ⟨p.z,(p.e.length:Int),BL p.e p.e.length⟩ f=false:=by
  unfold Ae;by_cases k:p.z=f.z
  .rw[decide_eq_false (p:=(f.s.length:Int)=_) (by simp;intro e;exact a ⟨k,qd⟩)];simp
  rw[decide_eq_false (p:=f.z.toList=_) (by
   intro e;have g:(f.z.toList==p.z.toList)=true:=by simpa using e
   rw[EZ]at g;exact k (by simpa using(Eq.y (by simpa using g:f.z=p.z))))]
  rfl
 rw[d];rfl
end
def mi(s:ByteArray)(b:List Vr):∀a:List Vr,BA (a++b) s=(match BA a s with|some x=>some x|none=>BA b s)
 |[]=>rfl
 |x::r=>by
  rw[Yb,Qw,Qw]
  by_cases h:x.name=s
  .rw[if_pos h,if_pos h]
  rw[if_neg h,if_neg h];exact mi s b r
section
variable {T : List F} {vs : List Vr} {f : F} {ts : List Tm} {n : Nat}
def OJ(name):∀i,i<=ts.length->((BA (CL vs ts n i) name=none)↔(BA vs name=none/\Ai ts i name=none))
 |0,_=>by simp[CL,Ai,Gv]
 |i+1,hi=>by
  obtain⟨t,f⟩:∃t,ts[i]?=some t:=⟨ts[i],qe⟩
  have O:=OJ name i qd
  have o:(BA (CL vs ts n i) t.A=none)↔(BA vs t.A=none/\Ai ts i t.A=none):=OJ t.A i qd
  rw[TB f,Me f]
  by_cases h:t.u=2/\BA (CL vs ts n i) t.A=none
  .rw[if_pos h,mi]
   cases d:BA (CL vs ts n i) name with
   |some x=>
    have l:¬(BA vs name=none/\Ai ts i name=none):=λe=>by rw[O.2 e]at d;cases d
    constructor
    .intro e;cases e
    .rintro⟨p,g⟩
     exfalso
     apply l
     refine⟨p,?_⟩
     cases c:Ai ts i name with
     |none=>rfl
     |some j=>rw[c]at g;cases g
   |none=>
    obtain⟨b,a⟩:=O.1 d
    rw[a]
    by_cases hv:t.A=name
    .rw[if_pos (Ie.2 ⟨h.1,hv⟩)]
     simp[BA,hv]
    rw[if_neg (λe=>hv (Ie.1 e).2)]
    simp[BA,hv,b]
  rw[if_neg h,O]
  constructor
  .rintro⟨b,a⟩
   refine⟨b,?_⟩
   rw[a]
   refine if_neg (λe=>h ?_)
   obtain⟨k,m⟩:=Ie.1 e
   subst m
   exact⟨k,o.2 ⟨b,a⟩⟩
  rintro⟨b,a⟩
  refine⟨b,?_⟩
  cases c:Ai ts i name with
  |none=>rfl
  |some j=>rw[c]at a;cases a
def zlZ(T a b):AE T (a++b)=AE T a++AE T b:=by simp[AE]
def kx{name}:(CT (AE T vs) name=none)↔BA vs name=none:=by
 rw[OE];cases BA vs name<;>simp
def wJ{i v}(name)(hv:f.s[i]?=some v):GR (T++[f]) ⟨name,T.length,i⟩=v:=by
 unfold GR;simp[hv]
def wW{x}(a:x.ak<T.length):GR (T++[f]) x=GR T x:=by
 unfold GR;rw[yr a]
def vH(h:∀x∈vs,x.ak<T.length):AE (T++[f]) vs=AE T vs:=by
 unfold AE;exact Ye (λx a=>by rw[wW (h x a)])
def lA(hl:ts.length=f.s.length)(h:∀x∈vs,x.ak<T.length):∀i,i<=ts.length->AE (T++[f]) (CL vs ts T.length i)=AE T vs++Cs (AE T vs) ts f.s i
 |0,_=>by simp[CL,Cs,vH h]
 |i+1,hi=>by
  obtain⟨t,c⟩:∃t,ts[i]?=some t:=⟨ts[i],qe⟩
  obtain⟨v,hv⟩:∃v,f.s[i]?=some v:=⟨f.s[i],qe⟩
  have O:=lA hl h i qd
  have b:=OJ (vs:=vs) (ts:=ts) (n:=T.length) t.A i qd
  rw[TB c,SZ c hv]
  by_cases a:t.u=2/\BA (CL vs ts T.length i) t.A=none
  .rw[if_pos a,zlZ,O,if_pos ⟨a.1,kx.2 (b.1 a.2).1,(b.1 a.2).2⟩,yW]
   congr 2
   simp[AE,wJ t.A hv]
  rw[if_neg a,O,if_neg (λe=>a ⟨e.1,b.2 ⟨kx.1 e.2.1,e.2.2⟩⟩),yQ]
def Qx(h:∀x∈vs,x.ak<n):∀i,∀x∈CL vs ts n i,x.ak<n+1
 |0,x,a=>by have:=h x a;omega
 |i+1,x,a=>by
  simp only[CL]at a
  cases b:ts[i]? with
  |none=>rw[b]at a;exact Qx h i x a
  |some t=>
   rw[b]at a
   simp only at a
   split at a
   .rcases yn.1 a with a|a
    .exact Qx h i x a
    simp at a
    subst a
    simp
   exact Qx h i x a
end
def Gm.dg{p f a w w' e}(h:Gm p f a w e w')(b:Bh p f a=none):e=.returned (.tuple #[.slice none 0 0,.bool false])/\Bw w w':=by
 unfold Gm at h;rw[b]at h;exact h
def Gm.cO{p f b o w w' e}(h:Gm p f b w e w')(d:Bh p f b=some o):∃a c,e=.returned (.tuple #[.slice a o.length c,.bool true])/\w'.ownsRow w.heap.size 367 4 (.slice a o.length c) o.length (o.flatMap EV)/\Bw w w':=by
 unfold Gm at h;rw[d]at h;obtain⟨⟨a,c,g,O⟩,i⟩:=h;exact⟨a,c,g,O,i⟩
abbrev Jv:=Pm × Value × Value
def Lc(x:Jv):List Value:=[x.2.1,x.2.2]
structure Hz(w:World) (base:Nat) (x:Jv):Prop where
 ts:∃a c,x.2.1=.slice a x.1.K.length c
 bs:∃a c,x.2.2=.slice a x.1.ao.length c
 ot:w.ownsRow base 3 1 x.2.1 x.1.K.length (Ax x.1.K)
 ob:w.ownsRow base 367 4 x.2.2 x.1.ao.length (x.1.ao.flatMap EV)
structure MO(w:World) (b1 base:Nat) (a:Option Addr) (c:Nat) (L:List Jv):Prop where
 row:w.ownsRow b1 183 2 (.slice a L.length c) L.length (L.flatMap Lc)
 all:∀x∈L,Hz w base x
def MO.nil(w a base):MO w a base none 0 []:=⟨yN _ _ _ _,λx hx=>qB⟩
def Hz.C{w w' base x}(h:Hz w base x)(a:Bw w w'):Hz w' base x:=⟨h.ts,h.bs,AF h.ot a,AF h.ob a⟩
def MO.C{w w' b base a c L}(h:MO w b base a c L)(d:Bw w w'):MO w' b base a c L:=⟨AF h.row d,λx e=>(h.all x e).C d⟩
def Hz.lower{w base base' x}(h:Hz w base x)(a:base'<=base):Hz w base' x:=⟨h.ts,h.bs,CA h.ot a,CA h.ob a⟩
def Hz.grown{w w' base t x row}(h:Hz w base x)(a:w.grownBy w' row)(b:∀k,row=some k->∃c,w.heap[k]?=some (.cells c t (0,0)))(e:t≠3)(d:t≠367):Hz w' base x:=⟨h.ts,h.bs,Hv h.ot a b e,Hv h.ob a b d⟩
def MO.snoc{w w' b base a e c d L x}(h:MO w b base a c L)(hx:Hz w base x)(ho:w'.ownsRow b 183 2 (.slice e (L.length+1) d) (L.length+1) (L.flatMap Lc++Lc x))(g:w.grownBy w' (Value.slice a L.length c).ownBlock):MO w' b base e d (L++[x]):=by
 refine⟨QV,λy hy=>?_⟩;have O:Hz w base y:=by
  exact oM
 exact O.grown g (λk f=>AO h.row f) qh qh
def MO.get{w f base a c L}(h:MO w f base a c L){i x}(b:L[i]?=some x) :
  ∃k,a=some ⟨k,0,none⟩/\k<w.heap.size/\At w k (i*2) x.2.1/\At w k (i*2+1) x.2.2:=by
 have key:=λj u(hj:(Lc x)[j]?=some u)=>BM h.row (FK (cells:=Lc) (m:=2) (λ_=>rfl) L i x j u b hj);obtain⟨k,rfl,_,O,_⟩:=key 0 _ rfl;obtain⟨g,d,_,e,_⟩:=key 1 _ rfl;cases d;exact⟨k,rfl,yO w ⟨k,_,none⟩ O,O,e⟩
def nM{w base x}(h:Hz w base x):∀u∈Lc x,u.oneCell'=true:=by
 obtain⟨⟨a,c,d⟩,⟨e,f,b⟩,_,_⟩:=h;intro u hu;simp[Lc]at hu;rcases hu with rfl|rfl
 .rw[d];rfl
 rw[b];rfl
def jp:(prog.info? 183).map (λi=>(i.zero,i.size,i.bytes))=some (some (.agg #[.slice none 0 0,.slice none 0 0]),2,48):=qg
def Py:(prog.info? 3).map (λi=>(i.zero,i.size,i.bytes))=some (some (I6 0),1,8):=qg
def un{w:World}{base xs a c}(h:w.ownsRow base 3 1 (.slice a xs.length c) xs.length (Ax xs))(e:a=none):xs.length=0:=by
 subst e;rcases h.2 with⟨_,O⟩|⟨g,cap,b,hv,_⟩
 .exact O
 cases hv
def rY{w:World}{base xs a c}(h:w.ownsRow base 3 1 (.slice a xs.length c) xs.length (Ax xs))(d)(e:a=some d)(j u)(hu:(Ax xs)[j]?=some u):w.cell? (d.add j)=some u:=by
 obtain⟨g,b,_,f,_⟩:=BM h hu;rw[e]at b;cases b;rw[Wl,Yc];exact f
def uk(xs):∀u∈Ax xs,u.oneCell'=true:=by
 intro u hu;simp[Ax]at hu;obtain⟨x,_,rfl⟩:=hu;rfl
def um(xs):(Ax xs).length=xs.length*1:=by simp[Ax]
def VG(xs x):Ax (xs++[x])=Ax xs++[I6 x]:=by simp[Ax]
def Bz.dZ{w a fs}(h:Bz w a fs){i f}(m:fs[i]?=some f):∃b o,a=some ⟨b,o,none⟩/\b<w.heap.size/\At w b (o+i*3) (I6 f.tag)/\At w b (o+i*3+1) (.string f.z)/\∃d c,At w b (o+i*3+2) (.slice d f.s.length c)/\Bt w d f.s:=by
 obtain⟨b,o,e,g,j,d,c,l,k⟩:=h i f m;exact⟨b,o,e,LZ g,g,j,d,c,l,k⟩
def DJ(p:Pt)(x:Pm)(l:List F):Bool:=decide (0<(Dj p x l).length)
def Ft(p:Pt)(x:Pm)(l:List F):List Pm:=if p.neg=true then [] else Dj p x l
def uq{p x l f}(h:Bh p f x.ao=none):DJ p x (l++[f])=DJ p x l:=by unfold DJ;rw[Qf,h];simp
def xH{p x l f o}(h:Bh p f x.ao=some o):DJ p x (l++[f])=true:=by unfold DJ;rw[Qf,h];simp
def xh{p x l f}(h:Bh p f x.ao=none):Ft p x (l++[f])=Ft p x l:=by unfold Ft;rw[Qf,h];simp
def Th{p x l}(h:p.neg=true):Ft p x l=[]:=if_pos h
def zR{p x l f o}(a:p.neg=false)(h:Bh p f x.ao=some o):Ft p x (l++[f])=Ft p x l++[⟨x.K++[f.tag],o⟩]:=by
 unfold Ft;rw[if_neg (by rw[a];simp),if_neg (by rw[a];simp),Qf,h]
def zZ(p x l):(Ft p x l).length<=l.length:=by
 unfold Ft;split
 .simp
 exact SV p x l
def wv{p fs x}(h:p.neg=false):Gu p fs x=Ft p x fs:=by
 unfold Gu Ft;rw[if_neg (by rw[h];simp),if_neg (by rw[h];simp)]
def mB{p fs x}(h:p.neg=true)(b)(a:b=DJ p x fs):Gu p fs x=if b=true then [] else [x]:=by
 unfold Gu;rw[if_pos h];unfold DJ at a;by_cases O:(Dj p x fs).length=0
 .rw[if_pos O,a,if_neg (by simp;exact Yw O)]
 rw[if_neg O,a,if_pos (decide_eq_true qd)]
def zoJ(p fs)(X:List Pm)(k x)(h:X[k]?=some x):CJ p fs (X.take (k+1))=CJ p fs (X.take k)++Gu p fs x:=by
 unfold CJ;rw[yZ,h,Yr];simp
def Qk(p fs):∀X:List Pm,(CJ p fs X).length<=X.length*(fs.length+1)
 |[]=>by simp[CJ]
 |x::r=>by
  have c:=Qk p fs r
  have b:=zn8 p fs x
  have a:CJ p fs (x::r)=Gu p fs x++CJ p fs r:=by unfold CJ;rw[yL]
  rw[a,yP,yI,KY]
  omega
section
attribute [local go_sem ↓] wp_at_zero wp_at_succ
def rh{a n c k}{w:World}{base e m xs}(h:w.ownsRow base e m (.slice a n c) n xs)(b:w.heap.size<=k):(Value.slice a n c).ownBlock≠some k:=λO=>by
 have:=(h.lt k O).2;omega
def oV(h:P:=by have h3:min k L.length*(fs.length+1)<=k*41:=Kh (Nat.min_le_left _ _) (by omega);omega):=h
def nu(h:P:=by
 rw[hneg]at am;clear hneg;go_wp2_with fail;go_roundw
 case rel=>exact⟨k+1,a,c,M2,by go_num,by omega,rfl,ay.o,Rq.o,Dq.o⟩
 case measure=>(simp[intOf];omega)
 ):=h
def zo5(p fs L aM bj fa fc pa pc){q b1 base}(w)(aW:E_ q w aM p.e)(aZ:Bz w fa fs)(aX:MO w b1 base pa pc L)(bL:base<=w.heap.size)(bu:p.e.length<=6)(bF:fs.length<=40)(hL:L.length<=200000000)(hX:∀x∈L,x.1.K.length<=900/\x.1.ao.length<=900) :
  Ca 125 #[.agg #[.bool p.neg,.string p.z,.slice aM p.e.length bj],.slice fa fs.length fc,.slice pa L.length pc] w λe w'=>(∃a c M,e=.returned (.slice a M.length c)/\MO w' w.heap.size base a c M/\M.map Prod.fst=CJ p fs (L.map Prod.fst))/\Bw w w':=by
 obtain⟨HT,HF,HP,HX⟩:=Bn aW aZ aX hX;clear aW aZ aX hX;go_enter func125,ntmps125;go_upto_region 1 with fail;refine Be ?_;intro w0 aS aQ;obtain⟨bg,bD,bo⟩:=Ao aQ;have H0:=Aa aS;have bY:=aS.size;have bJ:w.heap.size<w0.heap.size:=Ak aQ;clear aS aQ;go_wp2_with fail
 go_loopw [18,7] (λiv ov wr=>∃(k:Nat)(a:Option Addr)(c:Nat)(M:List Jv),iv=.int .i64 (k:Int)/\k<=L.length/\ov=.slice a M.length c/\M.map Prod.fst=CJ p fs ((L.map Prod.fst).take k)/\MO wr w0.heap.size base a c M/\Bw w0 wr) (λiv _ _=>L.length-(intOf iv).toNat)
 case atStart=>exact⟨0,none,0,[],rfl,yk _,rfl,rfl,MO.nil _ _ _,An⟩
 case round=>
  obtain⟨k,a,c,M,rfl,bT,rfl,hM,aq,B⟩:=hrel;obtain⟨HM,ROW,a8,s⟩:=Bn hM aq B (H0.o.thn B);have bw:=B.size;have bV:M.length<=k*41:=by
   have h1:=Qk p fs ((L.map Prod.fst).take k);have h2:=congrArg List.length hM;simp at h1 h2;exact oV
  clear hM aq B;by_cases hk:k<L.length
  .obtain⟨x,hx⟩:=Ba hk;obtain⟨⟨b,i⟩,tv,bv⟩:=x;obtain⟨lb,rfl,bX,y0,y1⟩:=HP.o.get hx;have a9:=HX.o _ (yd hx);have PX:=Aa (HP.o.all _ (yd hx));obtain⟨⟨ta,tc,e1⟩,⟨ba,bc,e2⟩,aO,aT⟩:=PX.o;simp only at e1 e2 aO aT y0 y1 a9;subst e1 e2;obtain⟨bW,bU⟩:=a9;obtain⟨OT,OB,aJ⟩:=AA aO aT (zoJ p fs (L.map Prod.fst) k ⟨b,i⟩ (by rw[yA,hx];rfl));have x0:=zab s.o y0;have x1:=zab s.o y1;have z0:(0:Int)<=(k:Int):=qd;have z1:(k:Int)<(L.length:Int):=qd;have bA:lb<wr.heap.size:=qd;clear hx y0 y1 aO aT;go_upto_region 5 with fail;refine Be ?_;intro w2 aC aF;obtain⟨pb,D⟩:∃pb,pb=wr.heap.size:=⟨_,rfl⟩
   rw[<-D]at aF⊢;obtain⟨bf,R2,D2,N2⟩:=Bn aF (ROW.o.C aC) (a8.o.thn aC) (rh ROW.o.row (WK D.y));have bP:=aC.size;have a7:pb<w2.heap.size:=Ak aF;have bH:w0.heap.size<=pb:=qd;clear aC aF x0 x1 ROW a8 s bA bw D;go_wp2_with fail
   go_loopw [24,7,10] (λjv ov av l=>∃(j:Nat)(a:Option Addr)(c:Nat)(M2:List Jv)(g:Bool),jv=.int .i64 (j:Int)/\j<=fs.length/\ov=.slice a M2.length c/\av=.bool g/\g=DJ p ⟨b,i⟩ (fs.take j)/\M2.map Prod.fst=CJ p fs ((L.map Prod.fst).take k)++Ft p ⟨b,i⟩ (fs.take j)/\MO l w0.heap.size base a c M2/\(Value.slice a M2.length c).ownBlock≠some pb/\l.heap[pb]?=some (.cells #[.slice ta b.length tc,.slice ba i.length bc] 183 (0,0))/\Bw w0 l/\w2.heap.size<=l.heap.size) (λjv _ _ _=>fs.length-(intOf jv).toNat)
   case atStart=>exact⟨0,a,c,M,false,rfl,yk _,rfl,rfl,by simp[DJ,Dj],by rw[HM.o,show Ft p ⟨b,i⟩ (fs.take 0)=[] by unfold Ft;simp[Dj]];simp,R2.o,N2.o,bf.o,D2.o,yu _⟩
   case round=>
    obtain⟨j,a,c,M2,g,rfl,bK,rfl,rfl,A,aI,aq,N,a5,B,bO⟩:=hrel;obtain⟨l,rfl⟩:∃v,v=wr:=⟨wr,rfl⟩
    obtain⟨ax,HG,Rq,Nq,aP,Dq,s⟩:=Jj aI A aq N a5 B (H0.o.thn B);have bG:M2.length<=k*41+40:=by
     have h1:=Qk p fs ((L.map Prod.fst).take k);have h2:=congrArg List.length aI;have h4:=zZ p ⟨b,i⟩ (fs.take j);simp at h1 h2 h4;exact oV
    obtain⟨v0,v1⟩:=Az aP.o;clear aI aq N a5 B R2 N2 bf D2 A;by_cases hj:j<fs.length
    .obtain⟨f,hf⟩:=Ba hj;obtain⟨fb,fo,rfl,bN,s0,s1,sa,sc,s2,U⟩:=(HF.o.d s.o).dZ hf;obtain⟨aD,SL⟩:=Ah (show fs.take (j+1)=fs.take j++[f] by rw[yZ,hf];rfl) U;have am:=zab Dq.o bg;have a4:=zab Dq.o bD;have aU:=zab Dq.o bo;have u0:(0:Int)<=(j:Int):=qd;have u1:(j:Int)<(fs.length:Int):=qd;have bm:w.heap.size<l.heap.size:=qd;have bq:pb<l.heap.size:=qd;clear hf U;go_upto_region 9 with fail;refine Be ?_;intro w4 m aR;obtain⟨f0,f1,f2⟩:=Ao aR;obtain⟨R4,aG,Y⟩:=AA (Rq.o.C m) ((m.block _ bq).c aP.o) (Dq.o.thn m);have W4:=Aa (H0.o.thn Y.o);have aA:=zab m am;have aY:=zab m a4;have aV:=zab m aU;have g0:=zab m v0;have g1:=zab m v1;have aN:=Aa (SL.o.d m);have bS:=m.size;have bM:l.heap.size<w4.heap.size:=Ak aR;clear m aR am a4 aU v0 v1 s0 s1 s2 SL Rq aP Dq s;have HA:=Aa (zmb p f i aM bj sa sc ba bc w4 (HT.o.d W4.o) aN.o (Gi.owns (AF OB.o W4.o)) bu qd);go_wp2_with fail;refine HA.o.j ?_;intro e H hP;clear HA
     cases t:Bh p f i with
     |none=>
      obtain⟨rfl,O⟩:=hP.dg t;obtain⟨aw,Z,R,ao,r⟩:=DE (show Ft p ⟨b,i⟩ (fs.take (j+1))=Ft p ⟨b,i⟩ (fs.take j) by rw[aD.o];exact xh t) (show DJ p ⟨b,i⟩ (fs.take (j+1))=DJ p ⟨b,i⟩ (fs.take j) by rw[aD.o];exact uq t) (R4.o.C O) ((O.block _ qd).c aG.o) (Y.o.thn O);have W5:=Aa (H0.o.thn r.o);have bz:=O.size;have q0:=zab O aA;have h0:=zab O g0;have h1:=zab O g1;have t0:=zab O f0;clear hP O aA aY aV g0 g1 f0 f1 f2 R4 aG Y W4 aN;cases g
      focus
       have J:=Aa (show false=DJ p ⟨b,i⟩ (fs.take (j+1)) by rw[Z.o];exact HG.o)
      rotate_left
      focus
       have J:=Aa (show true=DJ p ⟨b,i⟩ (fs.take (j+1)) by rw[Z.o];exact HG.o)
      rotate_left
      all_goals
       go_wp2_with fail;go_roundw
       case rel=>exact⟨j+1,a,c,M2,_,qm,qd,rfl,rfl,J.o,by rw[ax.o,aw.o],R.o,Nq.o,ao.o,r.o,qd⟩
       case measure=>(simp[intOf];omega)
     |some o=>
      obtain⟨oa,oc,rfl,bk,O⟩:=hP.cO t;obtain⟨Z,R,ao,r⟩:=Bn (show DJ p ⟨b,i⟩ (fs.take (j+1))=true by rw[aD.o];exact xH t) (R4.o.C O) ((O.block _ qd).c aG.o) (Y.o.thn O);have W5:=Aa (H0.o.thn r.o);have bz:=O.size;have q0:=zab O aA;have h0:=zab O g0;have h1:=zab O g1;have t0:=zab O f0;clear hP O aA aY aV g0 g1 f0 f1 f2 R4 aG Y W4 aN;rcases(show p.neg=false∨p.neg=true by cases p.neg<;>simp) with hneg|hneg
      .have aw:=Aa (show Ft p ⟨b,i⟩ (fs.take (j+1))=Ft p ⟨b,i⟩ (fs.take j)++[⟨b++[f.tag],o⟩] by rw[aD.o];exact zR hneg t);rw[hneg]at q0;clear t hneg;cases g;rotate_left;rotate_left
       all_goals
        obtain⟨J,aK,OO⟩:=AA (show true=DJ p ⟨b,i⟩ (fs.take (j+1)) by rw[Z.o]) (AF OT.o W5.o) bk;have bQ:w0.heap.size<=H.heap.size:=r.o.size;go_upto_region 14 with(first|(at_builtin;refine CN qi (.tmp 46) (.tmp 48) 30 qi H.heap.size 3 _ 1 8 underlying30 Py qi qd _ 0 [] qi (yN _ _ _ _) ta b.length tc qi (Ax b) (um _) (un aK.o) (λad e=>rY aK.o ad e) (uk _) qj qd AH ?_;intro a1 c1 w6 a6 I bt)|fail);obtain⟨B6,T6⟩:=Ah (show Bw H w6 from⟨I.o.os,I.o.tape,I.o.output,I.o.size,λk hk=>I.o.block k hk (λe=>qo)⟩) (show w6.ownsRow H.heap.size 3 1 (.slice a1 b.length c1) b.length (Ax b) by have:=a6.o;simpa using this);have r0:=zab B6.o t0;have bZ:=B6.o.size;have aL:=Aa (λo'=>An.alloc AH o':∀o',Bw w6 (w6.alloc o'));clear a6 I bt aK bk;go_wp2_with (first|(at_builtin;refine CN qi (.tmp 51) (.tmp 54) 30 qi H.heap.size 3 _ 1 8 underlying30 Py qi qd _ b.length _ qi (AF T6.o (aL.o _)) (some ⟨_,0,none⟩) 1 1 qi [.int .i64 f.tag] qi (λe=>qo) (Cv _ _ _ _ qe) qL qj qd qf ?_;intro G E w7 bh bi a7;have T7:=Aa (show w7.ownsRow H.heap.size 3 1 (.slice G (b.length+1) E) (b.length+1) (Ax (b++[f.tag])) by have:=bh.o;rw[VG];simpa using this);have T:=Aa ((B6.o.c ((aL.o _).j B6.o.size)).grown bi.o qf (λg A=>(T6.o.lt g A).1));have R7:=Aa (R.o.C T.o);have bp:=Aa ((T.o.block _ qd).c ao.o);have D7:=Aa (r.o.thn T.o);have bR:=T.o.size;have bE:=Aa (AF OO.o T.o);have NX:=Aa (show Hz w7 base (⟨b++[f.tag],o⟩,.slice G (b.length+1) E,.slice oa o.length oc) from⟨⟨G,E,qe⟩,⟨oa,oc,rfl⟩,by simpa using CA T7.o qd,CA bE.o qd⟩);have au:=Aa (λo'=>An.alloc AH o':∀o',Bw w7 (w7.alloc o'));clear bh bi a7 T6 aL B6 R ao r)|(at_builtin;refine CN qi (.tmp 50) (.tmp 58) 118 qi w0.heap.size 183 _ 2 48 underlying118 jp qi qd _ M2.length _ qi (AF R7.o.row (au.o _)) (some ⟨_,0,none⟩) 1 1 qi (Lc (⟨b++[f.tag],o⟩,.slice G (b.length+1) E,.slice oa o.length oc)) qi (λe=>qo) (Cv _ _ _ _ qe) (nM NX.o) qj qd qf ?_;intro a3 c3 w8 W n aE)|fail);obtain⟨R8,D8,bB,N8⟩:=Bn (MO.snoc (R7.o.C (au.o _)) (NX.o.C (au.o _)) W.o n.o) ((D7.o.c ((au.o _).j D7.o.size)).grown n.o qf (λg A=>(R7.o.row.lt g A).1)) ((n.o.block pb qf (KK Nq.o)).c (((au.o _).block pb qd).c bp.o)) (show(Value.slice a3 (M2++[((⟨b++[f.tag],o⟩,.slice G (b.length+1) E,.slice oa o.length oc):Jv)]).length c3).ownBlock≠some pb by rw[yP];rcases aE.o with h|h<;>(rw[show(M2.length+List.length [((⟨b++[f.tag],o⟩,.slice G (b.length+1) E,.slice oa o.length oc):Jv)])=M2.length+1 from rfl,h]) ; exact Nq.o;simp;omega);have bC:=n.o.size;simp at bC;clear W n aE;go_roundw
        case rel=>exact⟨j+1,a3,c3,_,_,qm,qd,qe,rfl,J.o,by rw[yF,ax.o,aw.o];simp,R8.o,N8.o,bB.o,D8.o,qd⟩
        case measure=>(simp[intOf];omega)
      have aw:=Aa (show Ft p ⟨b,i⟩ (fs.take (j+1))=Ft p ⟨b,i⟩ (fs.take j) by rw[Th hneg,Th hneg]);rw[hneg]at q0;clear t hneg;cases g;rotate_left;rotate_left
      all_goals
       have J:=Aa (show true=DJ p ⟨b,i⟩ (fs.take (j+1)) by rw[Z.o]);go_wp2_with fail;go_roundw
       case rel=>exact⟨j+1,a,c,M2,_,qm,qd,rfl,rfl,J.o,by rw[ax.o,aw.o],R.o,Nq.o,ao.o,r.o,qd⟩
       case measure=>(simp[intOf];omega)
    have bn:j=fs.length:=qd;subst bn;have hy:¬(fs.length:Int)<(fs.length:Int):=qd;obtain⟨a0,aH⟩:=Ah (show g=DJ p ⟨b,i⟩ fs by rw[HG.o,yV]) (show M2.map Prod.fst=CJ p fs ((L.map Prod.fst).take k)++Ft p ⟨b,i⟩ fs by rw[ax.o,yV]);have am:=zab Dq.o bg;have bm:w.heap.size<l.heap.size:=qd;clear HG ax;rcases(show p.neg=false∨p.neg=true by cases p.neg<;>simp) with hneg|hneg
    .have ay:=Aa (show M2.map Prod.fst=CJ p fs ((L.map Prod.fst).take (k+1)) by rw[aH.o,aJ.o,wv hneg]);exact nu
    cases g
    .have ay:=Aa (show M2.map Prod.fst++[⟨b,i⟩]=CJ p fs ((L.map Prod.fst).take (k+1)) by rw[aH.o,aJ.o,mB hneg _ a0.o,Th hneg];simp);rw[hneg]at am;clear hneg;have aB:=Aa (λo'=>An.alloc AH o':∀o',Bw l (l.alloc o'));have bI:w0.heap.size<=l.heap.size:=Dq.o.size;have bl:=Aa (PX.o.C s.o);go_wp2_with (first|(at_builtin;refine CN qi (.tmp 67) (.tmp 69) 118 qi w0.heap.size 183 _ 2 48 underlying118 jp qi qd _ M2.length _ qi (AF Rq.o.row (aB.o _)) (some ⟨_,0,none⟩) 1 1 qi (Lc (⟨b,i⟩,.slice ta b.length tc,.slice ba i.length bc)) qi (λe=>qo) (Cv _ _ _ _ qe) (nM PX.o) qj qd qf ?_;intro a3 c3 w8 W n aE)|fail);obtain⟨R8,D8⟩:=Ah (MO.snoc (Rq.o.C (aB.o _)) (bl.o.C (aB.o _)) W.o n.o) ((Dq.o.c ((aB.o _).j Dq.o.size)).grown n.o qf (λg A=>(Rq.o.row.lt g A).1));clear W n aE;go_roundw
     case rel=>exact⟨k+1,a3,c3,_,qm,qd,qe,by rw[yF];exact ay.o,R8.o,D8.o⟩
     case measure=>(simp[intOf];omega)
    have ay:=Aa (show M2.map Prod.fst=CJ p fs ((L.map Prod.fst).take (k+1)) by rw[aH.o,aJ.o,mB hneg _ a0.o,Th hneg];simp);exact nu
  have br:k=L.length:=qd;subst br;have hy:¬(L.length:Int)<(L.length:Int):=qd;have HR:=Aa (show M.map Prod.fst=CJ p fs (L.map Prod.fst) by rw[HM.o,yT qe]);go_wp2_with fail;go_ret;exact⟨⟨a,c,M,rfl,⟨CA ROW.o.row qd,ROW.o.all⟩,HR.o⟩,s.o⟩
def jr:∀(ts:List Tm)(vs:List V)(out o:List Bd),El out ts vs=some o->o.length<=out.length+ts.length
 |[],_,out,o,h=>by
  simp only[El]at h
  injection h with h
  subst h
  simp
 |_::_,[],out,o,h=>by
  simp only[El]at h
  injection h with h
  subst h
  omega
 |t::ts,v::vs,out,o,h=>by
  rw[S_]at h
  cases O:Dn out t v with
  |none=>rw[O]at h;cases h
  |some a=>
   rw[O]at h
   have c:=sS O
   have b:=jr ts vs a o h
   rw[yI]
   omega
def we{p f a o}(h:Bh p f a=some o):o.length<=a.length+p.e.length:=by
 unfold Bh at h;split at h
 .exact jr _ _ _ _ h
 cases h
def jI(p x):∀(l:List F)(y:Pm),y∈Dj p x l->∃f∈l,∃o,Bh p f x.ao=some o/\y=⟨x.K++[f.tag],o⟩
 |[],y,h=>by simp[Dj]at h
 |f::r,y,h=>by
  simp only[Dj,yn]at h
  rcases h with h|h
  .cases O:Bh p f x.ao with
   |none=>rw[O]at h;simp at h
   |some o=>
    rw[O]at h
    simp at h
    exact⟨f,Y6,o,O,h⟩
  obtain⟨g,c,o,b,a⟩:=jI p x r y h
  exact⟨g,YH _ c,o,b,a⟩
def mN{p fs X t b}(h:∀x∈X,x.K.length<=t/\x.ao.length<=b):∀y∈CJ p fs X,y.K.length<=t+1/\y.ao.length<=b+p.e.length:=by
 intro y a;unfold CJ at a;obtain⟨x,c,a⟩:=Yo.1 a;have:=h x c;unfold Gu at a;split at a
 .split at a
  .simp at a;subst a;omega
  simp at a
 obtain⟨f,_,o,O,rfl⟩:=jI p x fs y a;have:=we O;simp;omega
def Xi(fs p):∀(a:List Pt)(xs:List Pm)(n:Nat),AP (a++[p]) fs xs n=(CJ p fs (AP a fs xs n).1,(AP a fs xs n).2+(CJ p fs (AP a fs xs n).1).length)
 |[],xs,n=>rfl
 |r::a,xs,n=>by
  simp only[Yb,AP]
  exact Xi fs p a _ _
def VH(fs)(b:fs.length<=40):∀(a:List Pt)(xs:List Pm)(n:Nat),(AP a fs xs n).1.length<=xs.length*41^a.length
 |[],xs,n=>by simp[AP]
 |r::a,xs,n=>by
  have f:=VH fs b a (CJ r fs xs) (n+(CJ r fs xs).length)
  have c:=Qk r fs xs
  simp only[AP,yI,Nat.pow_succ]
  have e:xs.length*(fs.length+1)<=xs.length*41:=Kh AH qd
  have d:(CJ r fs xs).length*41^a.length<=xs.length*41*41^a.length:=Kh qd AH
  have g:xs.length*(41^a.length*41)=xs.length*41*41^a.length:=by rw[Nat.mul_comm (41^a.length),Nat.mul_assoc]
  omega
def Q7{k}(h:k<=5):41^k<=115856201:=by
 have:41^k<=41^5:=Wn qd h;simpa using this
def R_(ps:List Pt)(fs:List F)(w:World)(e:Ending)(w':World):Prop:=
 (∃a c M,e=.returned (.tuple #[.slice a M.length c,.int .i64 ((AP ps fs [⟨[],[]⟩] 0).2:Nat)])/\MO w' w.heap.size w.heap.size a c M/\M.map Prod.fst=(AP ps fs [⟨[],[]⟩] 0).1)/\Bw w w'
def R_.mk{b fs w w' a c n M}(g:n=(AP b fs [⟨[],[]⟩] 0).2)(d:MO w' w.heap.size w.heap.size a c M)(f:M.map Prod.fst=(AP b fs [⟨[],[]⟩] 0).1)(e:Bw w w'):R_ b fs w (.returned (.tuple #[.slice a M.length c,I6 (n:Int)])) w':=by
 subst g;exact⟨⟨a,c,M,rfl,d,f⟩,e⟩
def MO.dB(w){a base k}(c:a<=k)(h:w.heap[k]?=some (.cells #[.slice none 0 0,.slice none 0 0] 183 (0,0))):MO w a base (some ⟨k,0,none⟩) 1 [((⟨[],[]⟩,.slice none 0 0,.slice none 0 0):Jv)]:=
 ⟨⟨rfl,.inr ⟨k,1,_,rfl,c,h,yu _,qj,rfl,rfl⟩⟩,λx b=>by
  simp at b
  subst b
  exact⟨⟨none,0,rfl⟩,⟨none,0,rfl⟩,yN _ _ _ _,yN _ _ _ _⟩⟩
def lG(r:Ru)(fs a_p c_p a_e c_e a_a c_a fa fc){q}(w)(au:Ez q w a_p r.v)(Y:Bz w fa fs)(aU:r.v.length<=6)(aA:∀p∈r.v,p.e.length<=6)(T:fs.length<=40) :
  Ca 65 #[.agg #[.string r.name,.int .i64 r.W,.slice a_p r.v.length c_p,.slice a_e r.w.length c_e,.slice a_a r.E.length c_a],.slice fa fs.length fc] w (R_ r.v fs w):=by
 obtain⟨HP,HF,aI⟩:=AA au Y aA;clear au Y aA;go_enter func65,ntmps65;go_upto_region 2 with fail;refine BF ?_;intro w0 D N i;have aH:At w0 w.heap.size 2 (.slice a_p r.v.length c_p):=by simp[World.cell?,N]
 obtain⟨H0,M0⟩:=Ah D (MO.dB (base:=w.heap.size) w0 (WJ w.heap.size) i);have aX:=D.size;have aQ:w.heap.size+1<w0.heap.size:=Ak i;clear D N i;go_wp2_with fail;clear aH
 go_loopw [15,6,7] (λiv pv nv wr=>∃(k:Nat)(a:Option Addr)(c:Nat)(M:List Jv)(n:Nat),iv=.int .i64 (k:Int)/\k<=r.v.length/\pv=.slice a M.length c/\nv=.int .i64 (n:Int)/\n<=k*4750104241/\AP (r.v.take k) fs [⟨[],[]⟩] 0=(M.map Prod.fst,n)/\(∀x∈M,x.1.K.length<=k/\x.1.ao.length<=6*k)/\MO wr w.heap.size w.heap.size a c M/\Bw w wr/\w0.heap.size<=wr.heap.size) (λiv _ _ _=>r.v.length-(intOf iv).toNat)
 case atStart=>exact⟨0,_,1,[((⟨[],[]⟩,.slice none 0 0,.slice none 0 0):Jv)],0,rfl,yk _,rfl,rfl,yk _,rfl,by intro x l;simp at l;subst l;simp,M0.o,H0.o,yu _⟩
 case round=>
  obtain⟨k,a,c,M,n,rfl,aM,rfl,rfl,hn,J,az,aq,H,aW⟩:=hrel;obtain⟨B,aC,ROW,O⟩:=Bn J az aq H;have aV:=H.size;have aT:M.length<=41^k:=by
   have m:=VH fs T (r.v.take k) [⟨[],[]⟩] 0;rw[J]at m;simp[Zi aM]at m;exact m
  clear J az aq H M0;by_cases hk:k<r.v.length
  .obtain⟨p,u⟩:=Ba hk;obtain⟨pb,po,aJ,aO,rfl,_,Z,d1,d2,ar,_⟩:=HP.o.ds u;have e0:=zab O.o Z;have e1:=zab O.o d1;have e2:=zab O.o d2;have aN:=Aa ar;have aE:=aI.o p (yd u);have aZ:=Q7 (show k<=5 by omega);have aG:=Aa (show AP (r.v.take (k+1)) fs [⟨[],[]⟩] 0=(CJ p fs (M.map Prod.fst),n+(CJ p fs (M.map Prod.fst)).length) by rw[yZ,u];show AP (r.v.take k++[p]) fs _ 0=_;rw[Xi,B.o]);have z0:(0:Int)<=(k:Int):=qd;have z1:(k:Int)<(r.v.length:Int):=qd;clear Z d1 d2 ar u B;go_upto_region 6 with fail;refine Be ?_;intro w2 A i;obtain⟨b0,b1,b2⟩:=Ao i;obtain⟨R2,I⟩:=Ah (ROW.o.C A) (O.o.thn A);have aR:=A.size;clear A i e0 e1 e2 ROW O;have HN:=Aa (zo5 p fs M aJ aO fa fc a c w2 (aN.o.d I.o) (HF.o.d I.o) R2.o qd aE T qd (λx l=>by have:=aC.o x l;omega));go_wp2_with fail;refine HN.o.j ?_;rintro e w3 ⟨⟨U,c3,g,rfl,G,s⟩,L⟩;obtain⟨R3,D3,aD⟩:=AA (show MO w3 w.heap.size w.heap.size U c3 g from⟨CA G.row qd,G.all⟩) (I.o.thn L) s;have f:=congrArg List.length s;rw[yt]at f;have ax:=Qk p fs (M.map Prod.fst);rw[yt]at ax;have aB:M.length*(fs.length+1)<=115856201*41:=Kh qd qd;have aP:g.length<=4750104241:=qd;have aS:=L.size;have aL:=Aa (show∀x∈g,x.1.K.length<=k+1/\x.1.ao.length<=6*(k+1) by
    intro x l;have m:=mN (p:=p) (fs:=fs) (X:=M.map Prod.fst) (t:=k) (b:=6*k) (λy R=>by obtain⟨z,hz,rfl⟩:=yz.1 R;exact aC.o z hz) x.1 (by rw[<-s];exact yU l);omega)
   have w1:(-9223372036854775808:Int)<=(n:Int)+(g.length:Int):=qd;have aY:(n:Int)+(g.length:Int)<=9223372036854775807:=qd;have aF:=Aa f;clear G s L HN ax aB f;go_wp2_with fail;go_roundw
   case rel=>exact⟨k+1,U,c3,g,n+g.length,qm,qd,rfl,qm,qd,by rw[aG.o,aD.o,aF.o],aL.o,R3.o,D3.o,qd⟩
   case measure=>(simp[intOf];omega)
  have aK:k=r.v.length:=qd;subst aK;have R:¬(r.v.length:Int)<(r.v.length:Int):=qd;have HR:=Aa (show AP r.v fs [⟨[],[]⟩] 0=(M.map Prod.fst,n) by rw[<-B.o,yV]);go_wp2_with fail;refine bodyPost_ret (v:=.tuple #[.slice a M.length c,.int .i64 (n:Int)]) (by simp[results,results65,go_sem]) rfl ?_;exact R_.mk (by rw[HR.o]) ROW.o (by rw[HR.o]) O.o
end
structure Cp where
 neg:Bool
 N:Nat
 F:Al
 x:List Jt
def Bm:List Pt->List Vr->Nat->List Cp
 |[],_,_=>[]
 |p::ps,vs,n=>⟨p.neg,n,C0 p,Cw vs p.e p.e.length⟩::(if p.neg=true then Bm ps vs n else Bm ps (CL vs p.e n p.e.length) (n+1))
def Fq:List Pt->List Vr->Nat->Prop
 |[],_,_=>True
 |p::ps,vs,n=>C_ p=true/\(∀i t,p.e[i]?=some t->t.u=3->t.A≠⟨#[]⟩->BA vs t.A≠none∨Ai p.e i t.A≠none)/\(if p.neg=true then Fq ps vs n else Fq ps (CL vs p.e n p.e.length) (n+1))
def lets(c:Cp)(T:List F)(f:F):Bool:=Ae c.F f&&c.x.all (Ap T f)
def Ci:List Cp->List F->List F->List (List F)
 |[],_,T=>[T]
 |c::cs,fs,T=>if c.neg=true then(if fs.any (lets c T)=true then [] else Ci cs fs T) else(fs.filter (lets c T)).flatMap (λf=>Ci cs fs (T++[f]))
def SG(fs):∀(a:List Pt)(m:Nat),(AP a fs [] m).1=[]
 |[],_=>rfl
 |p::a,m=>by
  simp only[AP]
  exact SG fs a _
def SX(fs):∀(a:List Pt)(xs:List Pm)(m m':Nat),(AP a fs xs m).1=(AP a fs xs m').1
 |[],_,_,_=>rfl
 |p::a,xs,m,m'=>by
  simp only[AP]
  exact SX fs a _ _ _
def mR(fs):∀(a:List Pt)(xs ys:List Pm)(m:Nat),(AP a fs (xs++ys) m).1=(AP a fs xs m).1++(AP a fs ys m).1
 |[],_,_,_=>rfl
 |p::a,xs,ys,m=>by
  simp only[AP]
  have h:CJ p fs (xs++ys)=CJ p fs xs++CJ p fs ys:=by unfold CJ;exact Yr
  rw[h,mR fs a,SX fs a _ _ (m+(CJ p fs xs).length),SX fs a (CJ p fs ys) _ (m+(CJ p fs ys).length)]
def VT(fs a m):∀xs:List Pm,(AP a fs xs m).1=xs.flatMap (λx=>(AP a fs [x] 0).1)
 |[]=>by rw[SG];rfl
 |x::r=>by
  rw[show x::r=[x]++r from rfl,mR,VT fs a m r,SX fs a [x] m 0]
  simp
def X_{ts}(b:∀t∈ts,CY t=true):∀i,i<=ts.length->Ai ts i ⟨#[]⟩=none
 |0,_=>rfl
 |i+1,hi=>by
  obtain⟨t,a⟩:∃t,ts[i]?=some t:=⟨ts[i],qe⟩
  rw[Me a,X_ b i qd]
  refine if_neg (λe=>?_)
  obtain⟨k2,O⟩:=Ie.1 e
  have:=b t (yd a)
  unfold CY at this
  rw[if_neg Hy,if_neg Hy,if_pos Hy]at this
  simp only[yi]at this
  exact iI this.2.1 O
def kL{p}(h:C_ p=true):∀t∈p.e,CY t=true:=by
 unfold C_ at h;simp only[yi]at h;exact Yy.1 h.2.2
def Va{p T vs}(d:C_ p=true)(g:BA vs ⟨#[]⟩=none)(m:∀i t,p.e[i]?=some t->t.u=3->t.A≠⟨#[]⟩->BA vs t.A≠none∨Ai p.e i t.A≠none)(j:∀x∈vs,x.ak<T.length)(c)(O:c.F=C0 p)(l:c.x=Cw vs p.e p.e.length) :
  ∀fs:List F,Dj p ⟨T.map (·.tag),AE T vs⟩ fs=(fs.filter (lets c T)).map (λf=>⟨(T++[f]).map (·.tag),AE (T++[f]) (CL vs p.e T.length p.e.length)⟩)
 |[]=>rfl
 |f::r=>by
  have ih:=Va d g m j c O l r
  have k:=xg (T:=T) (f:=f) d g m
  have hl:lets c T f=(Ae (C0 p) f&&(Cw vs p.e p.e.length).all (Ap T f)):=by unfold lets;rw[O,l]
  rw[<-hl]at k
  simp only[Dj]
  rw[ih,k]
  by_cases h:lets c T f=true
  .have a:p.e.length=f.s.length:=by
    rw[hl,yi]at h;have b:=h.1;rw[show C0 p=⟨p.z,(p.e.length:Int),BL p.e p.e.length⟩ from if_pos d]at b;unfold Ae at b;simp only[yi,decide_eq_true_eq]at b;omega
   rw[if_pos h,yD h,yq,lA a j p.e.length AH];simp
  rw[if_neg h,yJ h];rfl
def Vi(fs):∀(b:List Pt)(T:List F)(vs:List Vr)(m:Nat),Fq b vs T.length->BA vs ⟨#[]⟩=none->(∀x∈vs,x.ak<T.length) ->
  (AP b fs [⟨T.map (·.tag),AE T vs⟩] m).1.map (·.K)=(Ci (Bm b vs T.length) fs T).map (λU=>U.map (·.tag))
 |[],T,vs,m,_,_,_=>rfl
 |p::b,T,vs,m,hk,hE,hT=>by
  obtain⟨i,o,O⟩:=hk
  have g:=Va i hE o hT ⟨p.neg,T.length,C0 p,Cw vs p.e p.e.length⟩ rfl rfl fs
  simp only[AP,Bm,Ci]
  have l:CJ p fs [⟨T.map (·.tag),AE T vs⟩]=Gu p fs ⟨T.map (·.tag),AE T vs⟩:=by simp[CJ]
  rw[l]
  unfold Gu
  by_cases a:p.neg=true
  .rw[if_pos a,if_pos a,if_pos a]
   rw[if_pos a]at O
   rw[g]
   by_cases c:fs.any (lets ⟨p.neg,T.length,C0 p,Cw vs p.e p.e.length⟩ T)=true
   .rw[if_pos c,if_neg (by
     obtain⟨f,d,q⟩:=Wx.1 c
     have:=List.length_pos_of_mem (yf.2 ⟨d,q⟩)
     rw[yt]
     omega),SG]
    rfl
   rw[if_neg c,if_pos (by
    rw[yt,YL,We]
    intro f d k
    exact c (Wx.2 ⟨f,d,k⟩))]
   exact Vi fs b T vs _ O hE hT
  rw[if_neg a,if_neg a,if_neg a]
  rw[if_neg a]at O
  rw[g,VT,Ko,K9,K9]
  congr 1
  funext f
  have n:BA (CL vs p.e T.length p.e.length) ⟨#[]⟩=none:=(OJ _ _ AH).2 ⟨hE,X_ (kL i) _ AH⟩
  have:=Vi fs b (T++[f]) (CL vs p.e T.length p.e.length) 0 qZ n (λx j=>by simpa using Qx hT p.e.length x j)
  simpa using this
def XZ:∀(a:List Pt)(vs:List Vr)(n k:Nat),Bm (a.take k) vs n=(Bm a vs n).take k
 |[],vs,n,k=>by simp[Bm]
 |p::a,vs,n,0=>by simp[Bm]
 |p::a,vs,n,k+1=>by
  simp only[YS,Bm]
  split
  .rw[XZ a vs n k]
  rw[XZ a _ (n+1) k]
def VC:∀(a:List Pt)(vs:List Vr)(n k:Nat),Fq a vs n->Fq (a.take k) vs n
 |[],vs,n,k,_=>by simp[Fq]
 |p::a,vs,n,0,_=>by simp[Fq]
 |p::a,vs,n,k+1,h=>by
  obtain⟨e,d,b⟩:=h
  refine⟨e,d,?_⟩
  split
  .rename_i c
   rw[if_pos c]at b
   exact VC a vs n k b
  rename_i c
  rw[if_neg c]at b
  exact VC a _ (n+1) k b
def Na:∀(a:List Pt)(vs:List Vr)(n:Nat),(Bm a vs n).length=a.length
 |[],_,_=>rfl
 |p::a,vs,n=>by
  simp only[Bm,yI]
  split
  .rw[Na a vs n]
  rw[Na a _ (n+1)]
def Xq{fs a}(c:Fq a [] 0)(k):(AP (a.take k) fs [⟨[],[]⟩] 0).1.length=(Ci ((Bm a [] 0).take k) fs []).length:=by
 have h:=Vi fs (a.take k) [] [] 0 (VC a [] 0 k c) rfl (λx hx=>qB);have b:=congrArg List.length h;rw[yt,yt]at b;rw[<-XZ];exact b
def jj{fs a}(b:Fq a [] 0):∀k,k<=a.length->(AP (a.take k) fs [⟨[],[]⟩] 0).2=((List.range k).map (λj=>(Ci ((Bm a [] 0).take (j+1)) fs []).length)).sum
 |0,_=>rfl
 |k+1,hi=>by
  obtain⟨p,e⟩:∃p,a[k]?=some p:=⟨a[k],qe⟩
  have d:a.take (k+1)=a.take k++[p]:=by rw[yZ,e];rfl
  have c:=Xq (fs:=fs) b (k+1)
  rw[KD,yF,WV,<-jj b k qd]
  simp only[yq,YB,YU,List.sum_nil,KJ]
  rw[<-c,d,Xi]
def W_{fs a}(b:Fq a [] 0):(AP a fs [⟨[],[]⟩] 0).2=((List.range a.length).map (λj=>(Ci ((Bm a [] 0).take (j+1)) fs []).length)).sum:=by
 have:=jj (fs:=fs) b a.length AH;rwa [yV]at this
def zl3(s l x):Bu s (l++[x])=(Bu s l||decide (x=s)):=by simp[Bu]
def vu{t}:Dm t=true↔t.u=3/\t.A≠⟨#[]⟩:=by
 unfold Dm BG;constructor
 .intro h;simp only[yi,beq_iff_eq,WG]at h;exact⟨h.1,λe=>by rw[L6.2 e]at h;cases h.2⟩
 rintro⟨c,a⟩;simp only[yi,beq_iff_eq,WG];refine⟨c,?_⟩;cases b:t.A.toList.isEmpty
 .rfl
 exact absurd (L6.1 b) a
def fK(vs:List Vr)(ts:List Tm)(i:Nat)(here:List ByteArray):Prop:=∀name,Bu name here=true↔(BA vs name≠none∨Ai ts i name≠none)
def lU{vs ts}:∀(d i:Nat)(b h:List ByteArray),i+d=ts.length->fK vs ts i b->Cq (ts.drop i) b=some h ->
  (∀j t,i<=j->ts[j]?=some t->t.u=3->t.A≠⟨#[]⟩->BA vs t.A≠none∨Ai ts j t.A≠none)/\fK vs ts ts.length h
 |0,i,b,h,hi,hk,f=>by
  have:i=ts.length:=qd
  subst this
  rw[yy AH]at f
  simp only[Cq]at f
  injection f with f
  subst f
  exact⟨λj t hj g=>by have:=(ye.1 g).1;omega,hk⟩
 |d+1,i,b,h,hi,hk,f=>by
  obtain⟨t,g⟩:∃t,ts[i]?=some t:=⟨ts[i],qe⟩
  rw[CF g]at f
  simp only[Cq]at f
  split at f
  .cases f
  rename_i O
  have n:fK vs ts (i+1) (if t.u==2 then b++[t.A] else b):=by
   intro name;rw[Me g];by_cases h2:t.u=2
   .rw[if_pos qu,zl3,Bool.or_eq_true,hk name];cases p:Ai ts i name with
    |some j=>simp
    |none=>
     by_cases hv:t.A=name
     .rw[if_pos (Ie.2 ⟨h2,hv⟩)];simp[hv]
     rw[if_neg (λe=>hv (Ie.1 e).2)];simp[hv]
   rw[if_neg qu,hk name,if_neg (λe=>h2 (Ie.1 e).1)];cases Ai ts i name<;>simp
  obtain⟨r1,r2⟩:=lU d (i+1) _ h qd n f;refine⟨λj u hj hu k hv=>?_,r2⟩;by_cases af:j=i
  .subst af;rw[g]at hu;injection hu with hu;subst hu;have m:=vu.2 ⟨k,hv⟩;rw[m]at O;simp at O;exact(hk t.A).1 O
  exact r1 j u qd hu k hv
def XG:∀(g:List Pt)(vs:List Vr)(n:Nat)(b out:List ByteArray)(k:Nat),(∀p∈g,C_ p=true)->(∀name,Bu name b=true↔BA vs name≠none)->Ee g b k=.inr out->Fq g vs n
 |[],_,_,_,_,_,_,_,_=>trivial
 |p::g,vs,n,b,out,k,hg,hk,h=>by
  simp only[Ee]at h
  cases ht:Cq p.e b with
  |none=>rw[ht]at h;cases h
  |some f=>
   rw[ht]at h
   simp only at h
   obtain⟨r1,r2⟩:=lU (vs:=vs) (ts:=p.e) p.e.length 0 b f qd (λname=>by rw[hk name];simp[Ai,Gv]) Mq
   refine⟨hg p Y6,λi t hi r hv=>r1 i t (yk _) hi r hv,?_⟩
   split
   .rename_i d
    rw[if_pos d]at h
    exact XG g vs n b out (k+1) (λq m=>hg q (YH _ m)) hk h
   rename_i d
   rw[if_neg d]at h
   refine XG g _ (n+1) f out (k+1) (λq m=>hg q (YH _ m)) (λname=>?_) h
   rw[r2 name,Ne,Ne,Ne,OJ name _ AH]
   by_cases s:BA vs name=none<;>simp[s]
def mT:∀(rs pre:List Ru)(k:Nat),(EJ pre rs k).1=0->∀r∈rs,AY r=none
 |[],_,_,_,r,a=>by simp at a
 |x::s,pre,k,h,r,a=>by
  simp only[EJ]at h
  split at h
  .rename_i O
   rcases yG.1 a with rfl|a
   .unfold A_ at O
    split at O
    .simp at O
    split at O
    .simp at O
    split at O
    .split at O
     .simp at O
     assumption
    simp at O
   exact mT s _ _ h r a
  rename_i O
  exact absurd h O
def MV{rs}(h:(A8 rs).1=0){r}(c:r∈rs):Fq r.v [] 0:=by
 obtain⟨e,_⟩:=(Qa h).2 r c;have b:AY r=none:=by
  unfold A8 at h;split at h
  .exact mT rs [] 0 h r c
  simp at h
 unfold AY at b;cases d:Ee r.v [] 1 with
 |inl i=>rw[d]at b;cases b
 |inr a=>exact XG r.v [] 0 [] a 1 (lf e).2 (λname=>by simp[Bu,BA]) d
def ki{s v}:∀{vs:List Vr},BA vs s=some v->v∈vs
 |[],h=>by simp[BA]at h
 |x::r,h=>by
  rw[Qw]at h
  by_cases a:x.name=s
  .rw[if_pos a]at h
   injection h with h
   subst h
   exact Y6
  rw[if_neg a]at h
  exact YH _ (ki h)
def gq{vs ts}:∀k,∀t∈Cw vs ts k,t.Y<k/\∃v∈vs,t.ak=v.ak/\t.N=v.Y
 |0,t,a=>by simp[Cw]at a
 |k+1,t,a=>by
  simp only[Cw,yn]at a
  rcases a with a|a
  .obtain⟨e,d⟩:=gq k t a
   exact⟨qd,d⟩
  cases c:ts[k]? with
  |none=>rw[c]at a;simp at a
  |some u=>
   rw[c]at a
   simp only[Cu]at a
   cases hl:BA vs u.A with
   |none=>rw[hl]at a;simp at a
   |some v=>
    rw[hl]at a
    simp only at a
    have hv:v∈vs:=ki hl
    cases b:Ai ts k u.A with
    |some j=>rw[b]at a;simp at a
    |none=>
     rw[b]at a
     simp at a
     subst a
     exact⟨qe,v,hv,rfl,rfl⟩
def my{p f}(a:C_ p=true)(h:Ae (C0 p) f=true):f.s.length=p.e.length:=by
 rw[show C0 p=⟨p.z,(p.e.length:Int),BL p.e p.e.length⟩ from if_pos a]at h;unfold Ae at h;simp only[yi,decide_eq_true_eq]at h;omega
def NK(U:List F)(vs:List Vr):Prop:=∀v∈vs,∃g,U[v.ak]?=some g/\v.Y<g.s.length
def Ve{U vs ts n g}(h:NK U vs)(a:U[n]?=some g)(hl:g.s.length=ts.length):∀i,i<=ts.length->NK U (CL vs ts n i)
 |0,_=>h
 |i+1,hi=>by
  intro v hv
  obtain⟨t,b⟩:∃t,ts[i]?=some t:=⟨ts[i],qe⟩
  rw[TB b]at hv
  split at hv
  .rcases yn.1 hv with hv|hv
   .exact Ve h a hl i qd v hv
   simp at hv
   subst hv
   exact⟨g,a,by simp only;omega⟩
  exact Ve h a hl i qd v hv
def wN{U vs p f}(h:NK U vs)(i:C_ p=true)(j:Ae (C0 p) f=true):∀t∈Cw vs p.e p.e.length,t.V U f:=by
 intro t a;obtain⟨b,v,hv,k,c⟩:=gq _ t a;obtain⟨g,O,d⟩:=h v hv;exact⟨by rw[my i j];exact b,g,by rw[k];exact O,by rw[c];exact d⟩
def tr{last f}(h:Hi last f=true):last<f.tag:=by
 unfold Hi at h;simp only[yi,decide_eq_true_eq]at h;omega
def jM:∀{fs:List F}{last:Int},BN last fs=true->∀f∈fs,last<f.tag
 |[],_,_,f,a=>by simp at a
 |g::r,last,h,f,a=>by
  simp only[BN,yi]at h
  have b:=tr h.1
  rcases yG.1 a with rfl|a
  .exact b
  have:=jM h.2 f a
  omega
def Iy(fs:List F)(c:Cn)(d:Cp):Prop:=c.neg=d.neg/\c.N=d.N/\c.x=d.x/\c.F=d.F/\c.G=fs.filter (Ae d.F)
def zmw{α:Type}{p q}:∀l:List α,(l.filter p).any q=l.any (λx=>p x&&q x):=qe
section
open Go.Maps
attribute [local go_sem ↓] wp_at_zero wp_at_succ
def AD(tag:Int):List F->Option Nat
 |[]=>none
 |f::r=>if f.tag=tag then some 0 else(AD tag r).map (·+1)
def Db(f:F):Prop:=(Lit.int .i64 f.tag).wf=true/\∀v∈f.s,DO v
def Zd{P:Program}{t k e:TypeId}(a:P.underlying t=some (.map k e))(n:Int)(w:World):(Instr.makeMap t (some (I6 n))).run P w=.ok (.map (some w.heap.size)) (w.alloc (.map #[] 0)):=by
 simp[Instr.makeMap,run_underlying a,asInt,asIntOf]
def kp(tag:Int)(f:F):∀(l:List F),AD tag (l++[f])=match AD tag l with|some i=>some i|none=>if f.tag=tag then some l.length else none
 |[]=>by by_cases h:f.tag=tag<;>simp[AD,h]
 |g::r=>by
  rw[Yb,AD,AD]
  by_cases h:g.tag=tag
  .simp[h]
  rw[if_neg h,if_neg h,kp tag f r]
  cases AD tag r with
  |some i=>rfl
  |none=>by_cases O:f.tag=tag<;>simp[O]
def XF{f:F}:∀{fs:List F}{last:Int}{k:Nat},BN last fs=true->fs[k]?=some f->AD f.tag (fs.take k)=none
 |[],_,_,_,h=>by simp at h
 |_::_,_,0,_,_=>rfl
 |g::r,last,k+1,hg,h=>by
  have O:BN g.tag r=true:=by simp only[BN,yi]at hg;exact hg.2
  have a:r[k]?=some f:=qq
  have:=jM O f (yd a)
  rw[YS,AD,if_neg qd,XF O a]
  rfl
structure Ew(fs:List F) (k:Nat) (D:DataW Unit):Prop where
 dh:∀tag,AD tag (fs.take k)=none->Maps.has D (.int .i64 tag)=false
 cP:∀tag i,AD tag (fs.take k)=some i->Maps.has D (.int .i64 tag)=true/\∀z,D.atKey (.int .i64 tag) z=.lit (.int .i64 i)
def Ew.start(fs:List F):Ew fs 0 (.map []):=⟨λ_ _=>rfl,λtag i h=>by simp[AD]at h⟩
def Ew.step{fs:List F}{k:Nat}{D:DataW Unit}{f:F}(h:Ew fs k D)(g:IsMap D)(n:BN 0 fs=true)(d:fs[k]?=some f):Ew fs (k+1) (D.put (.int .i64 f.tag) (.lit (.int .i64 k))):=by
 have o:k<fs.length:=(ye.1 d).1;have m:=XF n d;have hl:(fs.take k).length=k:=by simp;omega
 have key:∀tag,AD tag (fs.take (k+1))=if f.tag=tag then some k else AD tag (fs.take k):=by
  intro tag;rw[Mh fs k f d,kp,hl];by_cases a:f.tag=tag
  .subst a;rw[m]
  rw[if_neg a,if_neg a];cases AD tag (fs.take k)<;>rfl
 constructor
 .intro tag b;rw[key]at b;by_cases a:f.tag=tag
  .rw[if_pos a]at b;cases b
  rw[if_neg a]at b;rw[has_put_other (λe=>a (by cases e;rfl))];exact h.dh tag b
 intro tag i b;rw[key]at b;by_cases a:f.tag=tag
 .rw[if_pos a]at b;cases b;subst a;have O:WideAt.IsKeyLit (.int .i64 f.tag):=trivial;exact⟨has_put_same g O _,λz=>atKey_put_same g O _ z⟩
 rw[if_neg a]at b;obtain⟨l,j⟩:=h.cP tag i b;have c:Lit.int .i64 tag≠Lit.int .i64 f.tag:=λe=>a (by cases e;rfl);exact⟨by rw[has_put_other c];exact l,λz=>by rw[atKey_put_other c];exact j z⟩
def ur{k:Nat}(h:k<=1048576):(Lit.int .i64 (k:Int)).wf=true:=by
 exact oE
def GA:Keyed prog 3:=int_keyed underlying3
def Tg(a:Option Addr)(c:Nat)(fs:List F)(nx cp:Int)(sg:Bool)(w:World)(hv:Bz w a fs)(hl:fs.length<=1048576)(g:BN 0 fs=true)(p:∀f∈fs,Db f) :
  Ca 96 #[.agg #[.slice a fs.length c,.int .i64 nx,.int .i64 cp,.bool sg]] w λe w'=>
   ∃b D,e=.returned (.map (some b))/\w'.ownsMap prog 3 (plainElem prog 3) b fs.length D/\Ew fs fs.length D/\Bw w w':=by
 have n:=Zd (P:=prog) (t:=172) underlying172;go_enter func96,ntmps96;go_wp2;clear n
 go_loopw [13] (λi wr=>∃(k:Nat)(D:DataW Unit),k<=fs.length/\i=.int .i64 k/\wr.ownsMap prog 3 (plainElem prog 3) (w.heap.size+1) k D/\Ew fs k D/\Bw w wr) (mz fs.length)
 case atStart=>exact⟨0,.map [],qd,rfl,by have:=Wh (H:=Unit) (w.alloc (.cells #[.slice a fs.length c,.int .i64 nx,.int .i64 cp,.bool sg] 27)) prog 3 (plainElem prog 3);simpa using this,Ew.start fs,Aj.alloc qe _⟩
 case round=>
  obtain⟨k,D,v,rfl,hown,hI,hb⟩:=hrel;by_cases m:k<fs.length
  .obtain⟨f,O⟩:=Ba m;obtain⟨b,o,rfl,y,x,s,cs,r,l⟩:=hv.d hb k f O;have q:=(p f (yd O)).1;have aq:=hI.step hown.isMap g O;obtain⟨u,ai,af,ah⟩:=(hown.alloc (.cells #[.int .i64 f.tag,.string f.z,.slice s f.s.length cs] 145)).update GA (t:=172) underlying172 qj (keyOf_int_mk underlying3 q) (plainElem_int underlying3 (ur (k:=k) qd));exact pI
  go_wp2;go_ret;obtain rfl:k=fs.length:=qd;exact⟨_,D,rfl,hown,hI,hb⟩
def LS(w:World):(zeroValue 3).run prog w=.ok (I6 0) w:=qg
def Rl:Option Nat->Int
 |some i=>i
 |none=>0
def SJ{fs:List F}{w:World}{b:Nat}{D:DataW Unit}(h:w.ownsMap prog 3 (plainElem prog 3) b fs.length D)(g:Ew fs fs.length D){tag:Int}(k:(Lit.int .i64 tag).wf=true) :
  (Instr.lookup 172 (.map (some b)) (.int .i64 tag) true).run prog w=.ok (.tuple #[.int .i64 (Rl (AD tag fs)),.bool (AD tag fs).isSome]) w:=by
 obtain⟨v,l,O,hv⟩:=h.look_ok GA (t:=172) underlying172 (LS w) (plainElem_int underlying3 qh) (keyOf_int_mk underlying3 k);obtain⟨c,rfl,a,_⟩:=plainElem_int_inv underlying3 hv;simp only[YO]at a;have j:fs.take fs.length=fs:=yT AH;rw[O];cases f:AD tag fs with
 |none=>
  have d:=g.dh tag (by rw[j];exact f);have e:=atKey_of_not_has d (.lit (.int .i64 0));rw[e]at a;rw[d];have:=a.1;cases this;rfl
 |some i=>
  obtain⟨d,e⟩:=g.cP tag i (by rw[j];exact f);rw[e]at a;rw[d];have:=a.1;cases this;rfl
end
section
attribute [local go_sem ↓] wp_at_zero wp_at_succ
def AS{w:World}{b t}{L:List Value}{j v}(h:w.heap[b]?=some (.cells L.toArray t (0,0)))(hj:L[j]?=some v):At w b j v:=by
 simp[World.cell?,h];simpa using hj
def tys:Ur prog 111 106 145:=⟨qg,qg,λ_=>qg,⟨3,qh,λ_=>qg⟩⟩
def IB:prog.underlying 261=some (.map 111 3):=qg
def EP:prog.underlying 260=some (.map 111 308):=qg
def As(x:Kt)(M:List (Kt × Int)):Int:=((M.find? (λy=>decide (y.1=x))).map Prod.snd).getD 0
def iv(M:List (Kt × Int)):List (Kt × Value):=M.map (λy=>(y.1,.int .i64 y.2))
def MM(x):∀M:List (Kt × Int),(BV x (iv M)).getD (I6 0)=I6 (As x M)
 |[]=>rfl
 |y::r=>by
  have O:=MM x r
  unfold BV As iv at *
  by_cases h:y.1=x
  .simp[h]
  simpa[h] using O
def So(x v L):BV x (BE x v L)=some v:=by
 unfold BE;split
 .rename_i h;unfold BV at h⊢
  induction L with
  |nil=>simp at h
  |cons y r ih=>
   by_cases hy:y.1=x
   .simp[hy]
   simp only[yq,if_neg hy];rw[Wd QW];rw[Wd QW]at h;exact ih h
 rename_i h;have O:BV x L=none:=qq;unfold BV at O⊢;rw[List.find?_append,Option.map_eq_none_iff.1 O];simp
def uo(x u v L):BE x u (BE x v L)=BE x u L:=by
 have h:(BV x (BE x v L)).isSome=true:=by rw[So];rfl
 have e:BE x u (BE x v L)=(BE x v L).map (λy=>if y.1=x then(x,u) else y):=if_pos h;rw[e];unfold BE;split
 .rw[Yv];refine Ye λy _=>?_;simp only[Function.comp];split
  .simp
  rfl
 rename_i a;rw[yF];congr 1
 .have:L.map (λy=>if y.1=x then(x,u) else y)=L.map id:=Ye λy b=>by
   rw[if_neg (λe=>a (M7.2 (yz.2 ⟨y,b,e⟩)))];rfl
  rw[this,Kx]
 simp
def Ea(x:Kt)(v:Int)(M:List (Kt × Int)):List (Kt × Int):=if x∈M.map Prod.fst then M.map (λy=>if y.1=x then(x,v) else y) else M++[(x,v)]
def EQ(x:Kt)(M:List (Kt × Int)):List (Kt × Int):=M.filter (λy=>decide (y.1≠x))
def E8(x:Kt)(s:Int)(M:List (Kt × Int)):List (Kt × Int):=if As x M+s=0 then EQ x M else Ea x (As x M+s) M
def Sy(M):(iv M).map Prod.fst=M.map Prod.fst:=by
 unfold iv;rw[Yv];rfl
def Ol(x v M):BE x (I6 v) (iv M)=iv (Ea x v M):=by
 unfold BE Ea;by_cases h:x∈M.map Prod.fst
 .rw[if_pos h,if_pos (M7.2 (by rw[Sy];exact h))];unfold iv;rw[Yv,Yv];refine Ye λy _=>?_;simp only[Function.comp];split<;>rfl
 rw[if_neg h,if_neg (λO=>h (by rw[<-Sy];exact M7.1 O))];unfold iv;rw[yF];rfl
def gF(x M):Dx x (iv M)=iv (EQ x M):=by
 unfold Dx EQ iv;rw[YV];rfl
def ux(x v M):EQ x (Ea x v M)=EQ x M:=by
 unfold Ea EQ;split
 .rw[YV];have:M.filter ((λy=>decide (y.1≠x))∘λy=>if y.1=x then(x,v) else y)=M.filter (λy=>decide (y.1≠x)):=YK λy _=>by
   simp only[Function.comp];split
   .rename_i h;simp[h]
   rfl
  rw[this];have a:(M.filter (λy=>decide (y.1≠x))).map (λy=>if y.1=x then(x,v) else y)=(M.filter (λy=>decide (y.1≠x))).map id:=Ye λy b=>by
   rw[if_neg (by simpa using(yf.1 b).2)];rfl
  rw[a,Kx]
 rw[yM];simp
def Ag.put{w b L c}(h:Ag w b L){es a}(g:EH es.toList c)(j:(es.toList.map (·.born)).Nodup)(O:∀e∈es.toList,e.born<a)(i:(c.map Prod.fst).Nodup)(d:∀y∈c,AG w y.1):Ag { w with heap:=w.heap.setIfInBounds b (.map es a) } b c:=by
 refine⟨⟨es,a,?_,g,j,O⟩,i,λy f=>(d y f).ar (Bg.put _) h.nc⟩;exact TW
def ix(cb nb wb M x s w)(hc:w.heap[cb]?=some (.cells #[.map (some nb),.map (some wb)] 263 (0,0)))(hM:Ag w wb (iv M))(hx:AG w x)(hs:-1<=s/\s<=1)(hk:-9<=As x M/\As x M<=9) :
  Ca 254 #[Pn cb,AM x,I6 s] w λe w'=>e=.returned (.tuple #[])/\Ag w' wb (iv (E8 x s M))/\Bg (some wb) w w':=by
 obtain⟨HM,HX⟩:=Ah hM hx;have H:cb<w.heap.size:=Ak hc;have HC:=Aa hc;obtain⟨x0,x1,t⟩:=x;clear hM hx hc;go_enter func254,ntmps254;unfold AM;go_upto_region 1 with fail;refine Be ?_;intro r au af;have hd:Bw w r.drew:=au.drew;have R:At r cb 1 (.map (some wb)):=zab au (AS (L:=[_,_]) HC.o (j:=1) rfl);have T:=AS (L:=[_,_,_]) af (j:=0) rfl;have U:=AS (L:=[_,_,_]) af (j:=1) rfl;have t2:=AS (L:=[_,_,_]) af (j:=2) rfl;have n:=HM.o.d hd;have E:=HX.o.d hd;have N:=MW tys IB (LS r.drew) n E false;rw[MM]at N;simp only[if_false,Yn]at N;obtain⟨es,g,i,e,G,I,ak,ar,hi,aA⟩:=tj tys IB (LS r.drew) n E;rw[MM]at G I;have D:=n.put I ak ar (VY n.nd) (λy hy=>by
  rcases U1 hy with O|hy
  .rw[O];exact E
  exact n.ok y hy)
 have aD:(0:Int)<=0:=Y8 0;obtain⟨k,ax⟩:∃k,k=As (x0,x1,t) M:=⟨_,rfl⟩
 rw[<-ax]at hk N G I D;have az:cb≠wb:=λO=>HM.o.nc _ _ (by rw[<-O];exact HC.o);have aB:w.heap.size≠wb:=λO=>by have:=HM.o.lt;omega
 obtain⟨f,Y⟩:∃f:World,f={ r.drew with heap:=r.drew.heap.setIfInBounds wb (.map es g) }:=⟨_,rfl⟩
 have z:Bg (some wb) r.drew f:=by rw[Y];exact Bg.put _
 have B1:f.heap[wb]?=some (.map es g):=by
  rw[Y];show(r.drew.heap.setIfInBounds wb _)[wb]?=_;rw[Y7 n.lt]
 rw[<-Y]at G D;have Z:=MW tys IB (LS f) D (E.ar z n.nc) false;rw[So]at Z;simp only[if_false,Yn,YE]at Z;obtain⟨aC,hS,aq,ay⟩:=sR (P:=prog) (mt:=261) B1 I D.nd ak hi aA (I6 (k+s));obtain⟨p,W⟩:∃p:World,p={ f with heap:=f.heap.setIfInBounds wb (.map aC g) }:=⟨_,rfl⟩
 have J:Bg (some wb) f p:=by rw[W];exact Bg.put _
 rw[<-W]at hS;have ao:EH aC.toList (iv (Ea (x0,x1,t) (k+s) M)):=by rw[<-Ol,<-uo (x0,x1,t) _ (I6 k)];exact aq
 have aw:Hid (Ag p wb (iv (Ea (x0,x1,t) (k+s) M))):=show Ag _ _ _ from by
  rw[W];refine D.put ao (by rw[ay];exact ak) (λO aG=>?_) (by rw[<-Ol];exact VY n.nd) (λy hy=>?_)
  .have:O.born∈es.toList.map (·.born):=by rw[<-ay];exact yU aG
   obtain⟨aF,h1,h2⟩:=yz.1 this;rw[<-h2];exact ar aF h1
  rw[<-Ol]at hy;rcases U1 hy with q|q
  .rw[q];exact E.ar z n.nc
  exact(n.ok y q).ar z n.nc
 obtain⟨aE,HO⟩:=Ah ((E.ar z n.nc).ar J D.nc) (((Bg.m hd:Bg (some wb) w r.drew).c z).c J);have A:At f cb 1 (.map (some wb))/\At f w.heap.size 0 (.pointer x0)/\At f w.heap.size 1 (.pointer x1)/\At f w.heap.size 2 (.pointer t):=by
  have e1:=z.block cb (yg H hd.size) (λO=>az Ue);have C:=z.block w.heap.size (Ak af) (λO=>aB Ue);exact⟨(yR (w:=r.drew) e1).c R,(yR (w:=r.drew) C).c T,(yR (w:=r.drew) C).c U,(yR (w:=r.drew) C).c t2⟩
 have B:At p cb 1 (.map (some wb))/\At p w.heap.size 0 (.pointer x0)/\At p w.heap.size 1 (.pointer x1)/\At p w.heap.size 2 (.pointer t):=by
  have e1:=J.block cb (yg H (yh hd.size z.rest.size)) (λO=>az Ue);have C:=J.block w.heap.size (yg (Ak af) z.rest.size) (λO=>aB Ue);exact⟨(yR (w:=f) e1).c A.1,(yR (w:=f) C).c A.2.1,(yR (w:=f) C).c A.2.2.1,(yR (w:=f) C).c A.2.2.2⟩
 have aI:IntKind.i64.wrap (k+s)=k+s:=by
  exact OU
 simp only[AM]at N Z G;simp only[goInt]at G hS;have HK:=Aa ax;clear Y W aD ax D n E I aq ao ak ar hi aA ay z B1 af au hd;refine wp_region_noPanic ?_;refine wp_region_held_drew (S:=(λu=>At u cb 1 (.map (some wb))/\At u w.heap.size 0 (.pointer x0)/\At u w.heap.size 1 (.pointer x1)/\At u w.heap.size 2 (.pointer t))) qg ?_ (λhHeld=>?_)
 .exact⟨R,T,U,t2⟩
 refine sr 0 5 ?_;refine sr 6 7 ?_;refine r2 5 8 (λK b=>?_) λK b=>?_
 focus
  go_simp;refine b.o _ _ (by exact⟨R,T,U,t2⟩) λhQ=>?_;replace hHeld:=hQ;clear b K hQ;(try simp only[pA,pZ,pS,pN]);refine sr 7 8 ?_;refine r1 8 λK b=>?_;go_simp;refine b.o _ _ (by exact A) λhQ=>?_;replace hHeld:=hQ;clear b K hQ;(try simp only[pA,pZ,pS,pN]);refine sr 9 10 ?_;refine r1 10 λK b=>?_;go_simp;refine b.o _ _ (by exact B) λhQ=>?_;replace hHeld:=hQ;clear b K hQ;(try simp only[pA,pZ,pS,pN]);refine wpAnyH_done qg ?_ _;refine Ya ?_
 rotate_left
 focus
  go_simp;refine b.o _ _ (by exact A) λhQ=>?_;replace hHeld:=hQ;clear b K hQ;(try simp only[pA,pZ,pS,pN]);refine sr 9 10 ?_;refine r1 5 λK b=>?_;go_simp;refine b.o _ _ (by exact A) λhQ=>?_;replace hHeld:=hQ;clear b K hQ;(try simp only[pA,pZ,pS,pN]);refine sr 7 8 ?_;refine r1 10 λK b=>?_;go_simp;refine b.o _ _ (by exact B) λhQ=>?_;replace hHeld:=hQ;clear b K hQ;(try simp only[pA,pZ,pS,pN]);refine wpAnyH_done qg ?_ _;refine Ya ?_
 all_goals
  have q2:=B.1;have u0:=B.2.1;have u1:=B.2.2.1;have u2:=B.2.2.2;have am:Bw p p.drew:=An.drew;have ah:Bw p p.drew.drew:=An.drew.drew;have L2:=MW tys IB (LS p.drew) (aw.o.d am) (aE.o.d am) false;rw[<-Ol,So]at L2;simp only[if_false,Yn,YE,AM]at L2;clear N G Z hS A B hHeld J R T U t2;by_cases hz:k+s=0
  .obtain⟨W3,hD,M3,O3⟩:=Su tys (ty:=0) (t2:=111) IB (aw.o.d ah) (aE.o.d ah);simp only[AM]at hD;have aH:(k+s==0)=true:=Nv;go_wp2_with fail
   go_region;go_wp2_with fail;go_region;go_wp2_with fail;refine bodyPost_end (v:=.tuple #[]) (by simp[results,results254,go_sem]) rfl ⟨rfl,?_,HO.o.c ((Bg.m ah).c O3)⟩;have e:E8 (x0,x1,t) s M=EQ (x0,x1,t) (Ea (x0,x1,t) (k+s) M):=by
    rw[ux];unfold E8;rw[<-HK.o,if_pos hz]
   rw[e,<-gF];exact M3
  have aH:(k+s==0)=false:=Nv;go_wp2_with fail
  go_region;go_wp2_with fail;refine bodyPost_end (v:=.tuple #[]) (by simp[results,results254,go_sem]) rfl ⟨rfl,?_,HO.o.c (Bg.m am)⟩;have e:E8 (x0,x1,t) s M=Ea (x0,x1,t) (k+s) M:=by
   unfold E8;rw[<-HK.o,if_neg hz]
  rw[e];exact aw.o.d am
structure Av(S:Nat->Prop) (w w':World):Prop where
 rest:Below 0 w w'
 block:∀g,g<w.heap.size->¬S g->w'.heap[g]?=w.heap[g]?
def Av.refl(S w):Av S w w:=⟨An,λ_ _ _=>rfl⟩
def Av.c{S u v w}(h:Av S u v)(k:Av S v w):Av S u w:=
 ⟨h.rest.c k.rest,λg a b=>(k.block g (yg a h.rest.size) b).c (h.block g a b)⟩
def Av.j{S R w w'}(h:Av S w w')(c:∀g,S g->R g):Av R w w':=⟨h.rest,λg a b=>h.block g a λq=>b (c g q)⟩
def Av.m{S w w'}(h:Bw w w'):Av S w w':=⟨h.j (yk _),λg a _=>h.block g a⟩
def Av.of{S b w w'}(h:Bg (some b) w w')(d:S b):Av S w w':=⟨h.rest,λg a c=>h.block g a λe=>c (by injection e with e;rw[<-e];exact d)⟩
def uv(T:List Kt):List (Kt × Value):=T.map (λx=>(x,.agg #[]))
def PM(T):(uv T).map Prod.fst=T:=by
 unfold uv;rw[Yv];exact(Ye λ_ _=>rfl).c (Kx T)
def gh{x T}(h:x ∉ T):BE x (.agg #[]) (uv T)=uv (T++[x]):=by simp_all[BV,BE,uv,Kt]
def UJ(x T):Dx x (uv T)=uv (T.filter (λy=>decide (y≠x))):=by
 unfold Dx uv;rw[YV];rfl
structure CS(w:World) (cb nb wb:Nat) (T:List Kt) (M:List (Kt × Int)):Prop where
 q:w.heap[cb]?=some (.cells #[.map (some nb),.map (some wb)] 263 (0,0))
 now:Ag w nb (uv T)
 ab:Ag w wb (iv M)
 ne:nb≠wb
def CS.d{w w' cb nb wb T M}(h:CS w cb nb wb T M)(a:Bw w w'):CS w' cb nb wb T M:=
 ⟨(a.block cb (Ak h.q)).c h.q,h.now.d a,h.ab.d a,h.ne⟩
def CS.cn{w cb nb wb T M}(h:CS w cb nb wb T M):cb≠nb:=λe=>h.now.nc _ _ (by rw[<-e];exact h.q)
def CS.cw{w cb nb wb T M}(h:CS w cb nb wb T M):cb≠wb:=λe=>h.ab.nc _ _ (by rw[<-e];exact h.q)
def Da{w w':World}{b x0 x1 a t}(h:w.heap[b]?=some (.cells #[x0,x1,a] t (0,0)))(d:w'.heap[b]?=w.heap[b]?):At w' b 0 x0/\At w' b 1 x1/\At w' b 2 a:=
 ⟨AS (L:=[x0,x1,a]) (d.c h) rfl,AS (L:=[x0,x1,a]) (d.c h) rfl,AS (L:=[x0,x1,a]) (d.c h) rfl⟩
def iD(cb nb wb T M x w)(h:CS w cb nb wb T M)(u:AG w x)(I:x ∉ T)(E:-9<=As x M/\As x M<=9) :
  Ca 210 #[Pn cb,AM x] w λe w'=>e=.returned (.tuple #[])/\CS w' cb nb wb (T++[x]) (E8 x 1 M)/\Av (λg=>g=nb∨g=wb) w w':=by
 obtain⟨s,H⟩:=Ah h u;have l:cb<w.heap.size:=Ak h.q;obtain⟨x0,x1,t⟩:=x;clear h u;go_enter func210,ntmps210;unfold AM;go_upto_region 1 with fail;refine Be ?_;intro i z f;have hd:Bw w i.drew:=z.drew;have a:=s.o.d hd;have J:At i cb 0 (.map (some nb)):=AS (L:=[_,_]) a.q (j:=0) rfl;obtain⟨K,N,t2⟩:=Da f rfl;have p:=H.o.d hd;obtain⟨v,C,k,b⟩:=U5 tys EP a.now p (.agg #[]);rw[gh I]at k;simp only[AM]at C;have G:w.heap.size≠nb:=λe'=>by have:=s.o.now.lt;omega
 have r:=b.block w.heap.size (Ak f) (λe'=>G qM);obtain⟨u0,u1,u2⟩:=Da (w:=i.drew) f r;have O:Hid (CS v cb nb wb (T++[(x0,x1,t)]) M):=⟨(b.block cb (yg l hd.size) (λe'=>a.cn qM)).c a.q,k,a.ab.ar b a.ne a.now.nc,a.ne⟩
 obtain⟨D,B⟩:=Ah (p.ar b a.now.nc) ((Av.m hd:Av (λg=>g=nb∨g=wb) w i.drew).c (Av.of b (.inl rfl)));clear a p k b r hd z f;go_region;go_wp2_with fail;refine(ix cb nb wb M (x0,x1,t) 1 v O.o.q O.o.ab D.o qd E).rtn λR⟨A,n⟩=>?_;go_wp2_with fail;refine bodyPost_end (results_none rfl _ _ _) rfl ⟨rfl,⟨?_,O.o.now.ar n O.o.ne.y O.o.ab.nc,A,O.o.ne⟩,B.o.c (Av.of n (.inr rfl))⟩;exact(n.block cb (Ak O.o.q) (λe'=>O.o.cw qM)).c O.o.q
def rN(h:P:=by
 obtain⟨HS,HX⟩:=Ah h hx
 first
  |(have _:=tP)
  |(have HR:=Aa hR)
 have hcl:cb<w.heap.size:=Ak h.q;obtain⟨x0,x1,x2⟩:=x
 first
  | (have _:=tP
     clear h hx)
  |(clear h hx hR)
 go_enter func211,ntmps211;unfold AM;go_upto_region 1 with fail;refine Be ?_;intro w1 ah af;have hd:Bw w w1.drew:=ah.drew;have C1:=HS.o.d hd;have q1:At w1 cb 0 (.map (some nb)):=AS (L:=[_,_]) C1.q (j:=0) rfl;obtain⟨t0,t1,t2⟩:=Da af rfl;have X1:=HX.o.d hd
 first
  | (have _:=tP
     obtain⟨W1,hU,M1,O1⟩:=Su tys (ty:=0) (t2:=111) EP C1.now X1)
  |(obtain⟨W1,hU,M1,O1,R1⟩:=ut tys (ty:=0) (t2:=111) EP C1.now X1)
 rw[UJ]at M1
 first
  |(have _:=tP)
  | (have R2:=Aa (R1 r todo (HR.o.d hd))
     rw[UJ]at R2)
 simp only[AM]at hU;have ai:w.heap.size≠nb:=λe'=>by have:=HS.o.now.lt;omega
 have eb:=O1.block w.heap.size (Ak af) (λe'=>ai (by injection e' with e';exact e'.y));obtain⟨u0,u1,u2⟩:=Da (w:=w1.drew) af eb;have O:Hid (CS W1 cb nb wb (T.filter (λy=>decide (y≠(x0,x1,x2)))) M):=⟨(O1.block cb (yg hcl hd.size) (λe'=>C1.cn (by injection e' with e';exact e'.y))).c C1.q,M1,C1.ab.ar O1 C1.ne C1.now.nc,C1.ne⟩
 obtain⟨aj,HO⟩:=Ah (X1.ar O1 C1.now.nc) ((Av.m hd:Av (λg=>g=nb∨g=wb) w w1.drew).c (Av.of O1 (.inl rfl)))
 first
  | (have _:=tP
     clear C1 X1 M1 O1 eb hd ah af)
  |(clear C1 X1 M1 O1 eb hd ah af R1)
 go_region;go_wp2_with fail;refine(ix cb nb wb M (x0,x1,x2) (-1) W1 O.o.q O.o.ab aj.o (by omega) hk).rtn λw2⟨hm,ho⟩=>?_;go_wp2_with fail
 first
  | (have _:=tP
     refine bodyPost_end (results_none rfl _ _ _) rfl ⟨rfl,⟨?_,O.o.now.ar ho O.o.ne.y O.o.ab.nc,hm,O.o.ne⟩,HO.o.c (Av.of ho (.inr rfl))⟩)
  |(refine bodyPost_end (results_none rfl _ _ _) rfl ⟨rfl,⟨?_,O.o.now.ar ho O.o.ne.y O.o.ab.nc,hm,O.o.ne⟩,R2.o.ar ho (ho.O O.o.ab.aD) O.o.ne.y (KK hr),HO.o.c (Av.of ho (.inr rfl))⟩)
 exact(ho.block cb (Ak O.o.q) (λe'=>O.o.cw (by injection e' with e';exact e'.y))).c O.o.q
 ):=h
def xC(cb nb wb T M x w)(h:CS w cb nb wb T M)(hx:AG w x)(hk:-9<=As x M/\As x M<=9) :
  Ca 211 #[Pn cb,AM x] w λe w'=>e=.returned (.tuple #[])/\CS w' cb nb wb (T.filter (λy=>decide (y≠x))) (E8 x (-1) M)/\Av (λg=>g=nb∨g=wb) w w':=by
 have tP:=trivial;exact rN
def FN(x:Kt)(s:Int)(T:List Kt):List Kt:=if s=1 then T++[x] else T.filter (λy=>decide (y≠x))
def wn(cb nb wb T M x s w)(h:CS w cb nb wb T M)(f:AG w x)(t:s=1∨s = -1)(a:s=1->x ∉ T)(l:-9<=As x M/\As x M<=9) :
  Ca 155 #[Pn cb,AM x,I6 s] w λe w'=>e=.returned (.tuple #[])/\CS w' cb nb wb (FN x s T) (E8 x s M)/\Av (λg=>g=nb∨g=wb) w w':=by
 obtain⟨i,j,O⟩:=AA (λ(u:World)(hu:Bw w u)(q:x ∉ T)=>iD cb nb wb T M x u (h.d hu) (f.d hu) q l) (λ(u:World)(hu:Bw w u)=>xC cb nb wb T M x u (h.d hu) (f.d hu) l) (λo=>An.alloc AH o:∀o,Bw w (w.alloc o));clear h f;rcases t with rfl|rfl
 .have r:=a rfl;obtain⟨x0,x1,n⟩:=x;simp only[AM]at i⊢;clear a j;go_enter func155,ntmps155;go_wp2_with (first|(go_at_call 210;refine(i.o _ (O.o _) r).rtn λp⟨b,k⟩=>?_)|fail);refine bodyPost_end (results_none rfl _ _ _) rfl ⟨rfl,?_,(Av.m (O.o _)).c k⟩;rw[FN,if_pos rfl];exact b
 obtain⟨x0,x1,n⟩:=x;simp only[AM]at j⊢;clear a i;go_enter func155,ntmps155;go_wp2_with (first|(go_at_call 211;refine(j.o _ (O.o _)).rtn λp⟨b,k⟩=>?_)|fail);refine bodyPost_end (results_none rfl _ _ _) rfl ⟨rfl,?_,(Av.m (O.o _)).c k⟩;rw[FN,if_neg qh];exact b
def lu(cb nb wb T M w)(h:CS w cb nb wb T M) :
  Ca 94 #[Pn cb] w λe w'=>e=.returned (.tuple #[])/\CS w' cb nb wb T []/\Av (λg=>g=nb∨g=wb) w w':=by
 have O:=Aa h;have l:At w cb 1 (.map (some wb)):=AS (L:=[_,_]) h.q (j:=1) rfl;obtain⟨a,i⟩:=zY (P:=prog) (ty:=0) IB h.ab;obtain⟨b,d⟩:∃b:World,b={ w with heap:=w.heap.setIfInBounds wb (.map #[] a) }:=⟨_,rfl⟩
 have f:Bg (some wb) w b:=by rw[d];exact Bg.put _
 have k:Hid (Ag b wb (iv [])):=⟨⟨#[],a,by rw[d];show(w.heap.setIfInBounds wb _)[wb]?=_;rw[Y7 h.ab.lt],rfl,qe,qe⟩,by simp[iv],by simp[iv]⟩
 rw[<-d]at i;clear d;go_enter func94,ntmps94;go_wp2_with fail;refine bodyPost_end (results_none rfl _ _ _) rfl ⟨rfl,⟨?_,O.o.now.ar f O.o.ne.y O.o.ab.nc,k.o,O.o.ne⟩,Av.of f (.inr rfl)⟩;exact(f.block cb (Ak O.o.q) (λe'=>O.o.cw qM)).c O.o.q
def XR(j k a T x s w)(q:At w j (k+5) (.map (some a)))(h:Ag w a (uv T))(r:AG w x)(D:s=1∨s = -1)(C:s=1->x ∉ T) :
  Ca 322 #[.pointer (some ⟨j,k,none⟩),AM x,I6 s] w λe w'=>e=.returned (.tuple #[])/\Ag w' a (uv (FN x s T))/\Bg (some a) w w':=by
 obtain⟨u,t⟩:=Ah h r;obtain⟨x0,x1,E⟩:=x;clear h r;rcases D with rfl|rfl
 .have A:=C rfl;go_enter func322,ntmps322;unfold AM;go_upto_region 1 with fail;refine Be ?_;intro b O i;have hd:Bw w b.drew:=O.drew;have v:At b j (k+5) (.map (some a)):=zab O q;obtain⟨y,z,t2⟩:=Da i rfl;obtain⟨B,p,f,g⟩:=U5 tys EP (u.o.d hd) (t.o.d hd) (.agg #[]);rw[gh A]at f;simp only[AM]at p;obtain⟨l,n⟩:=Ah ((Bg.m hd:Bg (some a) w b.drew).c g) f;clear f g hd O i;go_wp2_with fail;go_region;go_wp2_with fail;refine bodyPost_end (results_none rfl _ _ _) rfl ⟨rfl,?_,l.o⟩;rw[FN,if_pos rfl];exact n.o
 go_enter func322,ntmps322;unfold AM;go_upto_region 1 with fail;refine Be ?_;intro b O i;have hd:Bw w b.drew:=O.drew;have v:At b j (k+5) (.map (some a)):=zab O q;obtain⟨y,z,t2⟩:=Da i rfl;obtain⟨B,p,f,g⟩:=Su tys (ty:=0) (t2:=111) EP (u.o.d hd) (t.o.d hd);rw[UJ]at f;simp only[AM]at p;obtain⟨l,n⟩:=Ah ((Bg.m hd:Bg (some a) w b.drew).c g) f;clear f g hd O i;go_wp2_with fail;go_region;go_wp2_with fail;refine bodyPost_end (results_none rfl _ _ _) rfl ⟨rfl,?_,l.o⟩;rw[FN,if_neg qh];exact n.o
def Gq(x:Kt)(k:Int)(M:List (Kt × Int)):List (Kt × Int):=if k=0 then EQ x M else Ea x k M
def SW(nb a M x k w)(p:At w nb 7 (.map (some a)))(h:Ag w a (iv M))(q:AG w x) :
  Ca 321 #[Pn nb,AM x,I6 k] w λe w'=>e=.returned (.tuple #[])/\Ag w' a (iv (Gq x k M))/\Bg (some a) w w':=by
 obtain⟨s,r⟩:=Ah h q;obtain⟨x0,x1,A⟩:=x;clear h q;by_cases hk:k=0
 .have y:(k==0)=true:=OW;go_enter func321,ntmps321;unfold AM;go_upto_region 1 with fail;refine Be ?_;intro b O i;have hd:Bw w b.drew:=O.drew;have t:At b nb 7 (.map (some a)):=zab O p;obtain⟨u,v,t2⟩:=Da i rfl;obtain⟨z,n,f,g⟩:=Su tys (ty:=0) (t2:=111) IB (s.o.d hd) (r.o.d hd);rw[gF]at f;simp only[AM]at n;obtain⟨j,l⟩:=Ah ((Bg.m hd:Bg (some a) w b.drew).c g) f;clear f g hd O i;go_wp2_with fail;go_region;go_wp2_with fail;refine bodyPost_end (results_none rfl _ _ _) rfl ⟨rfl,?_,j.o⟩;rw[Gq,if_pos hk];exact l.o
 have y:(k==0)=false:=OW;go_enter func321,ntmps321;unfold AM;go_upto_region 1 with fail;refine Be ?_;intro b O i;have hd:Bw w b.drew:=O.drew;have t:At b nb 7 (.map (some a)):=zab O p;obtain⟨u,v,t2⟩:=Da i rfl;obtain⟨z,n,f,g⟩:=U5 tys IB (s.o.d hd) (r.o.d hd) (I6 k);rw[Ol]at f;simp only[AM]at n;obtain⟨j,l⟩:=Ah ((Bg.m hd:Bg (some a) w b.drew).c g) f;clear f g hd O i;go_wp2_with fail;go_region;go_wp2_with fail;refine bodyPost_end (results_none rfl _ _ _) rfl ⟨rfl,?_,j.o⟩;rw[Gq,if_neg hk];exact l.o
end
end Go.Proofs.YtikojfajahnhgaaGreat
