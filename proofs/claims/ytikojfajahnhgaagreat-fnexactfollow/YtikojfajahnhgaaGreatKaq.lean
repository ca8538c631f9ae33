import Derived.Test.YtikojfajahnhgaaGreatKan
import Derived.Test.YtikojfajahnhgaaGreatKap
set_option linter.all false
set_option maxRecDepth 100000
namespace Go.Proofs.YtikojfajahnhgaaGreat
attribute [local simp] At I6 Pn mzI
attribute [local go_sem] At I6 Pn
open Go.RowKit Go.Proofs.Tryz
section
attribute [local go_sem ↓] wp_at_zero wp_at_succ
def il:∀(ts:List Tm)(vs:List V)(out o:List Bd),DZ out ts vs=some o->o.length<=out.length+ts.length
 |[],_,out,o,h=>by
  simp only[DZ]at h
  injection h with h
  subst h
  simp
 |_::_,[],out,o,h=>by
  simp only[DZ]at h
  injection h with h
  subst h
  omega
 |t::ts,v::vs,out,o,h=>by
  rw[Sg]at h
  cases O:Df out t v with
  |none=>rw[O]at h;cases h
  |some Y=>
   rw[O]at h
   have b:=tL O
   have a:=il ts vs Y o h
   rw[yH]
   omega
def xx{p f a o}(h:Bk p f a=some o):o.length<=a.length+p.aa.length:=by
 unfold Bk at h;split at h
 .exact il _ _ _ _ h
 cases h
def iQ(p x):∀(l:List F)(y:Pm),y∈Db p x l->∃f∈l,∃o,Bk p f x.binds=some o/\y=⟨x.al++[f.tag],o⟩
 |[],y,h=>by simp[Db]at h
 |f::r,y,h=>by
  simp only[Db,yr]at h
  rcases h with h|h
  .cases O:Bk p f x.binds with
   |none=>rw[O]at h;simp at h
   |some o=>
    rw[O]at h
    simp at h
    exact⟨f,Wj,o,O,h⟩
  obtain⟨g,a,o,c,b⟩:=iQ p x r y h
  exact⟨g,Y2 _ a,o,c,b⟩
def mB{p fs X t b}(h:∀x∈X,x.al.length<=t/\x.binds.length<=b):∀y∈Ci p fs X,y.al.length<=t+1/\y.binds.length<=b+p.aa.length:=by
 intro y a;unfold Ci at a;obtain⟨x,c,a⟩:=Yk.1 a;have:=h x c;unfold Gy at a;split at a
 .split at a
  .simp at a;subst a;omega
  simp at a
 obtain⟨f,_,o,O,rfl⟩:=iQ p x fs y a;have:=xx O;simp;omega
def Vf(fs p):∀(a:List Pt)(xs:List Pm)(n:Nat),AS (a++[p]) fs xs n=(Ci p fs (AS a fs xs n).1,(AS a fs xs n).2+(Ci p fs (AS a fs xs n).1).length)
 |[],xs,n=>rfl
 |r::a,xs,n=>by
  simp only[Ye,AS]
  exact Vf fs p a _ _
def U1(fs)(a:fs.length<=40):∀(ps:List Pt)(xs:List Pm)(n:Nat),(AS ps fs xs n).1.length<=xs.length*41^ps.length
 |[],xs,n=>by simp[AS]
 |r::ps,xs,n=>by
  have f:=U1 fs a ps (Ci r fs xs) (n+(Ci r fs xs).length)
  have d:=OI r fs xs
  simp only[AS,yH,Nat.pow_succ]
  have c:xs.length*(fs.length+1)<=xs.length*41:=Wd AA qd
  have e:(Ci r fs xs).length*41^ps.length<=xs.length*41*41^ps.length:=Wd qd AA
  have b:xs.length*(41^ps.length*41)=xs.length*41*41^ps.length:=pH
  omega
def QK{k}(h:k<=5):41^k<=115856201:=by
 have:41^k<=41^5:=WL qd h;simpa using this
def Rt(ps:List Pt)(fs:List F)(w:World)(e:Ending)(w':World):Prop:=
 (∃a c M,e=.returned (.tuple #[.slice a M.length c,.int .i64 ((AS ps fs [⟨[],[]⟩] 0).2:Nat)])/\MO w' w.heap.size w.heap.size a c M/\M.map Prod.fst=(AS ps fs [⟨[],[]⟩] 0).1)/\Bw w w'
def Rt.mk{b fs w w' a c n M}(g:n=(AS b fs [⟨[],[]⟩] 0).2)(d:MO w' w.heap.size w.heap.size a c M)(f:M.map Prod.fst=(AS b fs [⟨[],[]⟩] 0).1)(e:Bw w w'):Rt b fs w (.returned (.tuple #[.slice a M.length c,I6 (n:Int)])) w':=by
 subst g;exact⟨⟨a,c,M,rfl,d,f⟩,e⟩
def MO.dn(w){b base k}(c:b<=k)(h:w.heap[k]?=some (.cells #[.slice none 0 0,.slice none 0 0] 183 (0,0))):MO w b base (some ⟨k,0,none⟩) 1 [((⟨[],[]⟩,.slice none 0 0,.slice none 0 0):JF)]:=
 ⟨⟨rfl,.inr ⟨k,1,_,rfl,c,h,yX _,qm,rfl,rfl⟩⟩,λx a=>by
  simp at a
  subst a
  exact⟨⟨none,0,rfl⟩,⟨none,0,rfl⟩,y9 _ _ _ _,y9 _ _ _ _⟩⟩
set_option maxHeartbeats 12800000 in
def js(r:Ru)(fs C aC aR aK aJ aF fa fc){q}(w)(L:CH q w C r.af)(U:BC w fa fs)(a0:r.af.length<=6)(au:∀p∈r.af,p.aa.length<=6)(W:fs.length<=40) :
  Ca 65 #[.agg #[.string r.name,.int .i64 r.aH,.slice C r.af.length aC,.slice aR r.exprs.length aK,.slice aJ r.ao.length aF],.slice fa fs.length fc] w (Rt r.af fs w):=by
 obtain⟨HP,HF,aS⟩:=AQ L U au;clear L U au;go_enter func65,ntmps65;go_upto_region 2 with fail;refine Bo ?_;intro w0 s aq O;have aI:At w0 w.heap.size 2 (.slice C r.af.length aC):=by simp[World.cell?,aq]
 obtain⟨H0,M0⟩:=Ak s (MO.dn (base:=w.heap.size) w0 (Kr w.heap.size) O);have aZ:=s.size;have aV:w.heap.size+1<w0.heap.size:=As O;clear s aq O;go_wp2_with fail;clear aI
 go_loopw [15,6,7] (λiv pv nv wr=>∃(k:Nat)(a:Option Addr)(c:Nat)(M:List JF)(n:Nat),iv=.int .i64 (k:Int)/\k<=r.af.length/\pv=.slice a M.length c/\nv=.int .i64 (n:Int)/\n<=k*4750104241/\AS (r.af.take k) fs [⟨[],[]⟩] 0=(M.map Prod.fst,n)/\(∀x∈M,x.1.al.length<=k/\x.1.binds.length<=6*k)/\MO wr w.heap.size w.heap.size a c M/\Bw w wr/\w0.heap.size<=wr.heap.size) (λiv _ _ _=>r.af.length-(intOf iv).toNat)
 case atStart=>exact⟨0,_,1,[((⟨[],[]⟩,.slice none 0 0,.slice none 0 0):JF)],0,rfl,yA _,rfl,rfl,yA _,rfl,by intro x g;simp at g;subst g;simp,M0.o,H0.o,yX _⟩
 case round=>
  obtain⟨k,a,c,M,n,rfl,aN,rfl,rfl,hn,D,R,T,E,aY⟩:=hrel;obtain⟨B,az,ROW,Y⟩:=BE D R T E;have a6:=E.size;have a5:M.length<=41^k:=by
   have m:=U1 fs W (r.af.take k) [⟨[],[]⟩] 0;rw[D]at m;simp[Xw aN]at m;exact m
  clear D R T E M0;by_cases hk:k<r.af.length
  .obtain⟨p,l⟩:=AJ hk;obtain⟨pb,po,aH,aM,rfl,_,Z,K,N,aB,_⟩:=HP.o.dj l;have e0:=zab Y.o Z;have e1:=zab Y.o K;have e2:=zab Y.o N;have aO:=Aa aB;have aP:=aS.o p (yd l);have aX:=QK (show k<=5 by omega);have aL:=Aa (show AS (r.af.take (k+1)) fs [⟨[],[]⟩] 0=(Ci p fs (M.map Prod.fst),n+(Ci p fs (M.map Prod.fst)).length) by rw[yY,l];show AS (r.af.take k++[p]) fs _ 0=_;rw[Vf,B.o]);have z0:(0:Int)<=(k:Int):=qd;have z1:(k:Int)<(r.af.length:Int):=qd;clear Z K N aB l B;go_upto_region 6 with fail;refine Bt ?_;intro w2 i O;obtain⟨b0,b1,b2⟩:=Ao O;obtain⟨R2,A⟩:=Ak (ROW.o.ar i) (Y.o.aj i);have aU:=i.size;clear i O e0 e1 e2 ROW Y;have HN:=Aa (zo5 p fs M aH aM fa fc a c w2 (aO.o.J A.o) (HF.o.J A.o) R2.o qd aP W qd (λx g=>by have:=az.o x g;omega));go_wp2_with fail;refine HN.o.ac ?_;rintro e w3 ⟨⟨a3,H,f,rfl,G,j⟩,u⟩;obtain⟨R3,D3,aD⟩:=AQ (show MO w3 w.heap.size w.heap.size a3 H f from⟨DT G.row qd,G.all⟩) (A.o.aj u) j;have d:=congrArg List.length j;rw[yp]at d;have ay:=OI p fs (M.map Prod.fst);rw[yp]at ay;have aA:M.length*(fs.length+1)<=115856201*41:=Wd qd qd;have aT:f.length<=4750104241:=qd;have a4:=u.size;have aQ:=Aa (show∀x∈f,x.1.al.length<=k+1/\x.1.binds.length<=6*(k+1) by
    intro x g;have m:=mB (p:=p) (fs:=fs) (X:=M.map Prod.fst) (t:=k) (b:=6*k) (λy I=>by obtain⟨z,hz,rfl⟩:=yz.1 I;exact az.o z hz) x.1 (by rw[<-j];exact yT g);omega)
   have w1:(-9223372036854775808:Int)<=(n:Int)+(f.length:Int):=qd;have aW:(n:Int)+(f.length:Int)<=9223372036854775807:=qd;have aG:=Aa d;clear G j u HN ay aA d;go_wp2_with fail;go_roundw
   case rel=>exact⟨k+1,a3,H,f,n+f.length,ql,qd,rfl,ql,qd,by rw[aL.o,aD.o,aG.o],aQ.o,R3.o,D3.o,qd⟩
   case measure=>(simp[intOf];omega)
  have aE:k=r.af.length:=qd;subst aE;have I:¬(r.af.length:Int)<(r.af.length:Int):=qd;have HR:=Aa (show AS r.af fs [⟨[],[]⟩] 0=(M.map Prod.fst,n) by rw[<-B.o,yW]);go_wp2_with fail;refine bodyPost_ret (v:=.tuple #[.slice a M.length c,.int .i64 (n:Int)]) (by simp[results,results65,go_sem]) rfl ?_;exact Rt.mk (by rw[HR.o]) ROW.o (by rw[HR.o]) Y.o
end
structure Cp where
 neg:Bool
 at_:Nat
 aq:Al
 ah:List Jt
def Bz:List Pt->List Vr->Nat->List Cp
 |[],_,_=>[]
 |p::ps,vs,n=>⟨p.neg,n,C0 p,Ct vs p.aa p.aa.length⟩::(if p.neg=true then Bz ps vs n else Bz ps (CI vs p.aa n p.aa.length) (n+1))
def Fu:List Pt->List Vr->Nat->Prop
 |[],_,_=>True
 |p::ps,vs,n=>Dc p=true/\(∀i t,p.aa[i]?=some t->t.kind=3->t.var≠⟨#[]⟩->BA vs t.var≠none∨Ai p.aa i t.var≠none)/\(if p.neg=true then Fu ps vs n else Fu ps (CI vs p.aa n p.aa.length) (n+1))
def lets(c:Cp)(T:List F)(f:F):Bool:=Ae c.aq f&&c.ah.all (Aq T f)
def CX:List Cp->List F->List F->List (List F)
 |[],_,T=>[T]
 |c::cs,fs,T=>if c.neg=true then(if fs.any (lets c T)=true then [] else CX cs fs T) else(fs.filter (lets c T)).flatMap (λf=>CX cs fs (T++[f]))
def RX(fs):∀(a:List Pt)(m:Nat),(AS a fs [] m).1=[]
 |[],_=>rfl
 |p::a,m=>by
  simp only[AS]
  exact RX fs a _
def RT(fs):∀(a:List Pt)(xs:List Pm)(m b:Nat),(AS a fs xs m).1=(AS a fs xs b).1
 |[],_,_,_=>rfl
 |p::a,xs,m,b=>by
  simp only[AS]
  exact RT fs a _ _ _
def l9(fs):∀(a:List Pt)(xs ys:List Pm)(m:Nat),(AS a fs (xs++ys) m).1=(AS a fs xs m).1++(AS a fs ys m).1
 |[],_,_,_=>rfl
 |p::a,xs,ys,m=>by
  simp only[AS]
  have h:Ci p fs (xs++ys)=Ci p fs xs++Ci p fs ys:=by unfold Ci;exact Yu
  rw[h,l9 fs a,RT fs a _ _ (m+(Ci p fs xs).length),RT fs a (Ci p fs ys) _ (m+(Ci p fs ys).length)]
def Vu(fs a m):∀xs:List Pm,(AS a fs xs m).1=xs.flatMap (λx=>(AS a fs [x] 0).1)
 |[]=>by rw[RX];rfl
 |x::r=>by
  rw[show x::r=[x]++r from rfl,l9,Vu fs a m r,RT fs a [x] m 0]
  simp
def Xn{ts}(a:∀t∈ts,Dt t=true):∀i,i<=ts.length->Ai ts i ⟨#[]⟩=none
 |0,_=>rfl
 |i+1,hi=>by
  obtain⟨t,b⟩:∃t,ts[i]?=some t:=⟨ts[i],qe⟩
  rw[Mc b,Xn a i qd]
  refine if_neg (λe=>?_)
  obtain⟨k2,O⟩:=Ie.1 e
  have:=a t (yd b)
  unfold Dt at this
  rw[if_neg qZ,if_neg qZ,if_pos qZ]at this
  simp only[yk]at this
  exact iF this.2.1 O
def jS{p}(h:Dc p=true):∀t∈p.aa,Dt t=true:=by
 unfold Dc at h;simp only[yk]at h;exact YX.1 h.2.2
def Uk{p T vs}(b:Dc p=true)(e:BA vs ⟨#[]⟩=none)(k:∀i t,p.aa[i]?=some t->t.kind=3->t.var≠⟨#[]⟩->BA vs t.var≠none∨Ai p.aa i t.var≠none)(j:∀x∈vs,x.fact<T.length)(c)(O:c.aq=C0 p)(Y:c.ah=Ct vs p.aa p.aa.length) :
  ∀fs:List F,Db p ⟨T.map (·.tag),AG T vs⟩ fs=(fs.filter (lets c T)).map (λf=>⟨(T++[f]).map (·.tag),AG (T++[f]) (CI vs p.aa T.length p.aa.length)⟩)
 |[]=>rfl
 |f::r=>by
  have ih:=Uk b e k j c O Y r
  have g:=uO (T:=T) (f:=f) b e k
  have hl:lets c T f=(Ae (C0 p) f&&(Ct vs p.aa p.aa.length).all (Aq T f)):=by unfold lets;rw[O,Y]
  rw[<-hl]at g
  simp only[Db]
  rw[ih,g]
  by_cases h:lets c T f=true
  .have a:p.aa.length=f.ad.length:=by
    rw[hl,yk]at h;have d:=h.1;rw[show C0 p=⟨p.ak,(p.aa.length:Int),BN p.aa p.aa.length⟩ from if_pos b]at d;unfold Ae at d;simp only[yk,decide_eq_true_eq]at d;omega
   rw[if_pos h,yL h,yn,jP a j p.aa.length AA];simp
  rw[if_neg h,yN h];rfl
def UF(fs):∀(b:List Pt)(T:List F)(vs:List Vr)(m:Nat),Fu b vs T.length->BA vs ⟨#[]⟩=none->(∀x∈vs,x.fact<T.length) ->
  (AS b fs [⟨T.map (·.tag),AG T vs⟩] m).1.map (·.al)=(CX (Bz b vs T.length) fs T).map (λU=>U.map (·.tag))
 |[],T,vs,m,_,_,_=>rfl
 |p::b,T,vs,m,hk,hE,hT=>by
  obtain⟨d,n,O⟩:=hk
  have e:=Uk d hE n hT ⟨p.neg,T.length,C0 p,Ct vs p.aa p.aa.length⟩ rfl rfl fs
  simp only[AS,Bz,CX]
  have l:Ci p fs [⟨T.map (·.tag),AG T vs⟩]=Gy p fs ⟨T.map (·.tag),AG T vs⟩:=by simp[Ci]
  rw[l]
  unfold Gy
  by_cases a:p.neg=true
  .rw[if_pos a,if_pos a,if_pos a]
   rw[if_pos a]at O
   rw[e]
   by_cases Y:fs.any (lets ⟨p.neg,T.length,C0 p,Ct vs p.aa p.aa.length⟩ T)=true
   .rw[if_pos Y,if_neg (by
     obtain⟨f,c,i⟩:=Ka.1 Y
     have:=List.length_pos_of_mem (yg.2 ⟨c,i⟩)
     rw[yp]
     omega),RX]
    rfl
   rw[if_neg Y,if_pos (by
    rw[yp,Y9,Ww]
    intro f c j
    exact Y (Ka.2 ⟨f,c,j⟩))]
   exact UF fs b T vs _ O hE hT
  rw[if_neg a,if_neg a,if_neg a]
  rw[if_neg a]at O
  rw[e,Vu,KF,Kb,Kb]
  congr 1
  funext f
  have k:BA (CI vs p.aa T.length p.aa.length) ⟨#[]⟩=none:=(ON _ _ AA).2 ⟨hE,Xn (jS d) _ AA⟩
  have:=UF fs b (T++[f]) (CI vs p.aa T.length p.aa.length) 0 qA k (λx g=>by simpa using Qe hT p.aa.length x g)
  simpa using this
def VQ:∀(a:List Pt)(vs:List Vr)(n k:Nat),Bz (a.take k) vs n=(Bz a vs n).take k
 |[],vs,n,k=>by simp[Bz]
 |p::a,vs,n,0=>by simp[Bz]
 |p::a,vs,n,k+1=>by
  simp only[YG,Bz]
  split
  .rw[VQ a vs n k]
  rw[VQ a _ (n+1) k]
def UP:∀(a:List Pt)(vs:List Vr)(n k:Nat),Fu a vs n->Fu (a.take k) vs n
 |[],vs,n,k,_=>by simp[Fu]
 |p::a,vs,n,0,_=>by simp[Fu]
 |p::a,vs,n,k+1,h=>by
  obtain⟨e,d,b⟩:=h
  refine⟨e,d,?_⟩
  split
  .rename_i c
   rw[if_pos c]at b
   exact UP a vs n k b
  rename_i c
  rw[if_neg c]at b
  exact UP a _ (n+1) k b
def SC:∀(a:List Pt)(vs:List Vr)(n:Nat),(Bz a vs n).length=a.length
 |[],_,_=>rfl
 |p::a,vs,n=>by
  simp only[Bz,yH]
  split
  .rw[SC a vs n]
  rw[SC a _ (n+1)]
def xy{fs a}(c:Fu a [] 0)(k):(AS (a.take k) fs [⟨[],[]⟩] 0).1.length=(CX ((Bz a [] 0).take k) fs []).length:=by
 have h:=UF fs (a.take k) [] [] 0 (UP a [] 0 k c) rfl (λx hx=>qN);have b:=congrArg List.length h;rw[yp,yp]at b;rw[<-VQ];exact b
def jH{fs a}(b:Fu a [] 0):∀k,k<=a.length->(AS (a.take k) fs [⟨[],[]⟩] 0).2=((List.range k).map (λj=>(CX ((Bz a [] 0).take (j+1)) fs []).length)).sum
 |0,_=>rfl
 |k+1,hi=>by
  obtain⟨p,e⟩:∃p,a[k]?=some p:=⟨a[k],qe⟩
  have c:a.take (k+1)=a.take k++[p]:=by rw[yY,e];rfl
  have d:=xy (fs:=fs) b (k+1)
  rw[Xx,yJ,Kj,<-jH b k qd]
  simp only[yn,YF,YN,List.sum_nil,YJ]
  rw[<-d,c,Vf]
def yc{fs a}(b:Fu a [] 0):(AS a fs [⟨[],[]⟩] 0).2=((List.range a.length).map (λj=>(CX ((Bz a [] 0).take (j+1)) fs []).length)).sum:=by
 have:=jH (fs:=fs) b a.length AA;rwa [yW]at this
def znm(s l x):BI s (l++[x])=(BI s l||decide (x=s)):=by simp[BI]
def xP{t}:Fe t=true↔t.kind=3/\t.var≠⟨#[]⟩:=by
 unfold Fe BT;constructor
 .intro h;simp only[yk,beq_iff_eq,WI]at h;exact⟨h.1,λe=>by rw[LY.2 e]at h;cases h.2⟩
 rintro⟨c,a⟩;simp only[yk,beq_iff_eq,WI];refine⟨c,?_⟩;cases b:t.var.toList.isEmpty
 .rfl
 exact absurd (LY.1 b) a
def ZE(vs:List Vr)(ts:List Tm)(i:Nat)(here:List ByteArray):Prop:=∀name,BI name here=true↔(BA vs name≠none∨Ai ts i name≠none)
def lP{vs ts}:∀(d i:Nat)(b h:List ByteArray),i+d=ts.length->ZE vs ts i b->CL (ts.drop i) b=some h ->
  (∀j t,i<=j->ts[j]?=some t->t.kind=3->t.var≠⟨#[]⟩->BA vs t.var≠none∨Ai ts j t.var≠none)/\ZE vs ts ts.length h
 |0,i,b,h,hi,hk,c=>by
  have:i=ts.length:=qd
  subst this
  rw[yD AA]at c
  simp only[CL]at c
  injection c with c
  subst c
  exact⟨λj t hj f=>by have:=(yf.1 f).1;omega,hk⟩
 |d+1,i,b,h,hi,hk,c=>by
  obtain⟨t,f⟩:∃t,ts[i]?=some t:=⟨ts[i],qe⟩
  rw[Ck f]at c
  simp only[CL]at c
  split at c
  .cases c
  rename_i O
  have Y:ZE vs ts (i+1) (if t.kind==2 then b++[t.var] else b):=by
   intro name;rw[Mc f];by_cases h2:t.kind=2
   .rw[if_pos qv,znm,Bool.or_eq_true,hk name];cases n:Ai ts i name with
    |some j=>simp
    |none=>
     by_cases hv:t.var=name
     .rw[if_pos (Ie.2 ⟨h2,hv⟩)];simp[hv]
     rw[if_neg (λe=>hv (Ie.1 e).2)];simp[hv]
   rw[if_neg qv,hk name,if_neg (λe=>h2 (Ie.1 e).1)];cases Ai ts i name<;>simp
  obtain⟨r1,r2⟩:=lP d (i+1) _ h qd Y c;refine⟨λj u hj hu g hv=>?_,r2⟩;by_cases k:j=i
  .subst k;rw[f]at hu;injection hu with hu;subst hu;have m:=xP.2 ⟨g,hv⟩;rw[m]at O;simp at O;exact(hk t.var).1 O
  exact r1 j u qd hu g hv
def VI:∀(e:List Pt)(vs:List Vr)(n:Nat)(b out:List ByteArray)(k:Nat),(∀p∈e,Dc p=true)->(∀name,BI name b=true↔BA vs name≠none)->ET e b k=.inr out->Fu e vs n
 |[],_,_,_,_,_,_,_,_=>trivial
 |p::e,vs,n,b,out,k,hg,hk,h=>by
  simp only[ET]at h
  cases ht:CL p.aa b with
  |none=>rw[ht]at h;cases h
  |some d=>
   rw[ht]at h
   simp only at h
   obtain⟨r1,r2⟩:=lP (vs:=vs) (ts:=p.aa) p.aa.length 0 b d qd (λname=>by rw[hk name];simp[Ai,Gz]) NB
   refine⟨hg p Wj,λi t hi g hv=>r1 i t (yA _) hi g hv,?_⟩
   split
   .rename_i c
    rw[if_pos c]at h
    exact VI e vs n b out (k+1) (λq f=>hg q (Y2 _ f)) hk h
   rename_i c
   rw[if_neg c]at h
   refine VI e _ (n+1) d out (k+1) (λq f=>hg q (Y2 _ f)) (λname=>?_) h
   rw[r2 name,Ne,Ne,Ne,ON name _ AA]
   by_cases m:BA vs name=none<;>simp[m]
def lW:∀(rs b:List Ru)(k:Nat),(FT b rs k).1=0->∀r∈rs,A7 r=none
 |[],_,_,_,r,a=>by simp at a
 |x::s,b,k,h,r,a=>by
  simp only[FT]at h
  split at h
  .rename_i O
   rcases yO.1 a with rfl|a
   .unfold Br at O
    split at O
    .simp at O
    split at O
    .simp at O
    split at O
    .split at O
     .simp at O
     assumption
    simp at O
   exact lW s _ _ h r a
  rename_i O
  exact absurd h O
def P6{rs}(h:(Bh rs).1=0){r}(c:r∈rs):Fu r.af [] 0:=by
 obtain⟨e,_⟩:=(Sb h).2 r c;have b:A7 r=none:=by
  unfold Bh at h;split at h
  .exact lW rs [] 0 h r c
  simp at h
 unfold A7 at b;cases d:ET r.af [] 1 with
 |inl i=>rw[d]at b;cases b
 |inr a=>exact VI r.af [] 0 [] a 1 (lA e).2 (λname=>by simp[BI,BA]) d
def jm{s v}:∀{vs:List Vr},BA vs s=some v->v∈vs
 |[],h=>by simp[BA]at h
 |x::r,h=>by
  rw[P7]at h
  by_cases a:x.name=s
  .rw[if_pos a]at h
   injection h with h
   subst h
   exact Wj
  rw[if_neg a]at h
  exact Y2 _ (jm h)
def Z8{vs ts}:∀k,∀t∈Ct vs ts k,t.slot<k/\∃v∈vs,t.fact=v.fact/\t.at_=v.slot
 |0,t,a=>by simp[Ct]at a
 |k+1,t,a=>by
  simp only[Ct,yr]at a
  rcases a with a|a
  .obtain⟨e,d⟩:=Z8 k t a
   exact⟨qd,d⟩
  cases c:ts[k]? with
  |none=>rw[c]at a;simp at a
  |some u=>
   rw[c]at a
   simp only[Co]at a
   cases hl:BA vs u.var with
   |none=>rw[hl]at a;simp at a
   |some v=>
    rw[hl]at a
    simp only at a
    have hv:v∈vs:=jm hl
    cases b:Ai ts k u.var with
    |some j=>rw[b]at a;simp at a
    |none=>
     rw[b]at a
     simp at a
     subst a
     exact⟨qe,v,hv,rfl,rfl⟩
def ls{p f}(a:Dc p=true)(h:Ae (C0 p) f=true):f.ad.length=p.aa.length:=by
 rw[show C0 p=⟨p.ak,(p.aa.length:Int),BN p.aa p.aa.length⟩ from if_pos a]at h;unfold Ae at h;simp only[yk,decide_eq_true_eq]at h;omega
def NL(U:List F)(vs:List Vr):Prop:=∀v∈vs,∃g,U[v.fact]?=some g/\v.slot<g.ad.length
def Um{U vs ts n g}(h:NL U vs)(a:U[n]?=some g)(hl:g.ad.length=ts.length):∀i,i<=ts.length->NL U (CI vs ts n i)
 |0,_=>h
 |i+1,hi=>by
  intro v hv
  obtain⟨t,b⟩:∃t,ts[i]?=some t:=⟨ts[i],qe⟩
  rw[SZ b]at hv
  split at hv
  .rcases yr.1 hv with hv|hv
   .exact Um h a hl i qd v hv
   simp at hv
   subst hv
   exact⟨g,a,by simp only;omega⟩
  exact Um h a hl i qd v hv
def wy{U vs p f}(h:NL U vs)(b:Dc p=true)(i:Ae (C0 p) f=true):∀t∈Ct vs p.aa p.aa.length,t.fits U f:=by
 intro t d;obtain⟨e,v,hv,a,c⟩:=Z8 _ t d;obtain⟨g,O,Y⟩:=h v hv;exact⟨by rw[ls b i];exact e,g,by rw[a];exact O,by rw[c];exact Y⟩
end Go.Proofs.YtikojfajahnhgaaGreat
