import Derived.Test.YtikojfajahnhgaaGreatKac
import Derived.Test.YtikojfajahnhgaaGreatProg
set_option linter.all false
set_option maxHeartbeats 3200000
set_option maxRecDepth 100000
namespace Go.Proofs.YtikojfajahnhgaaGreat
open Go.RowKit Go.Proofs.Tryz
attribute [local go_sem ↓] wp_at_zero wp_at_succ
attribute [local simp] At I6 Pn mzI Bk
attribute [local go_sem] At I6 Pn Bk
section
open Go.Deep
section
variable {H : Type} {enc : TypeId × Value -> H} {w : Aa} {base : Nat} {spare : Nat -> Bool} {held : Bool}
def wT{α:Type}(d:α){R:Aa->Aj->α->Prop}{Ok:α->Prop}(t e T:TypeId)(m:Nat)(G:prog.underlying t=some (.slice e))(Z:prog.cellsOf e=m)(aw:0<m)
  (each:∀(n:Nat)(cs:Aj)(x:DataW H × List MemPlace),DataW.trod enc prog w base spare held n e cs=some x->cs.length=m->∃v:α,R w cs v/\Ok v)
  {n:Nat}{cs:Aj}{x:DataW H × List MemPlace} (h:DataW.trod enc prog w base spare held n t cs=some x) :
  ∃a c,∃vs:List α,cs=[.slice a vs.length c]/\CI R none T m w a vs/\vs.length<=c/\vs.length<=maxLen/\∀v∈vs,Ok v:=by
 rcases open_slice G h with⟨rfl,_⟩|⟨a,len,cap,N,k,D,Pl,rfl,_,hl,hm,ai,_,C⟩
 .exact⟨none,0,[],rfl,CI.nil,yn _,yn _,λv hv=>by simp at hv⟩
 have ax:len<=N:=by rw[ai];split<;>omega
 have one:∀i,i<len->∃v:α,(∃r,r.length=m/\(∀j u,r[j]?=some u->w.cell? (a.add (i*m+j))=some u)/\R w r v)/\Ok v:=by
  intro i q;obtain⟨I,z,J⟩:=C i qd;rw[Z]at z;obtain⟨_,g,O⟩:=World.cells?_some z;obtain⟨v,l,Y⟩:=each _ _ _ J g;refine⟨v,⟨I,g,λj u hj=>?_,l⟩,Y⟩;have L:j<m:=by rw[<-g];exact(yf.1 hj).1
  have:=O j L;rw[add_add]at this;rw[this,hj]
 have:Nonempty (Inhabited α):=⟨⟨d⟩⟩
 obtain⟨ar⟩:=this;obtain⟨f,p⟩:=choose_lt one;refine⟨some a,cap,(List.range len).map f,qf,?_,qe,qe,?_⟩
 .intro i v hv;obtain⟨K,rfl⟩:=zly hv;obtain⟨⟨r,M,s,l⟩,_⟩:=p i K;obtain⟨b,o,E⟩:=a;obtain⟨⟨y,au,A,_⟩,_⟩:=p 0 qd;obtain⟨u0,B⟩:∃u,y[0]?=some u:=⟨y[0]'(by omega),qf⟩
  obtain⟨u1,U⟩:∃u,r[0]?=some u:=⟨r[0]'(by omega),qf⟩
  have W:E=none:=zqr (by simpa using A 0 u0 B) (s 0 u1 U);subst W;refine⟨b,o,r,rfl,Qb.ac _ _ _,M,λj u hj=>?_,l⟩;have:=s j u hj;rw[Wu]at this;rwa [Kd]
 intro v hv;obtain⟨i,q,rfl⟩:=yv.1 hv;exact(p i (List.mem_range.1 q)).2
end
end
abbrev Bs:=List UInt8
def Bo(l:Bs):Nat:=(l.headD 0).toNat
def wS(l:Bs):ByteArray:=⟨l.toArray⟩
def IG(c:Nat):ByteArray:=if c%3=0 then wS [97] else if c%3=1 then wS [98] else wS [103,111,97,108]
def NC(c:Nat):ByteArray:=if c%3=0 then wS [120] else if c%3=1 then wS [121] else wS [122]
def jM(k:Nat):ByteArray:=if k=0 then wS [120] else if k=1 then wS [121] else wS [114,101,100]
def jf(k:Nat):Int:=if k=0 then 9223372036854775807 else if k=1 then -9223372036854775808 else if k=2 then -1 else 1000000000000
def Dz(c:Nat):V:=if c%3=0 then(1,0,jM (c/3%3)) else if 250<=c then(0,jf (c%4),wS []) else(0,((c/3%5:Nat):Int)-1,wS [])
def Jv:V:=(0,0,wS [])
def E9(K:AG)(l:Bs):Tm × Bs:=
 if Bo l%8=0 then(⟨0,0,wS [],Jv⟩,l.tail)
 else if Bo l%8=1∨Bo l%8=2 then(⟨1,0,wS [],Dz (Bo l.tail)⟩,l.tail.tail)
 else if Bo l % 8=3 then
  (if 0<K.length/\100<=Bo l then (⟨3,1+((Bo l / 8 % 6:Nat):Int),K.getD (Bo l.tail % K.length) (wS []),Jv⟩,l.tail.tail)
   else(⟨3,1+((Bo l/8%6:Nat):Int),wS [],Dz (Bo l.tail)⟩,l.tail.tail))
 else(⟨2,0,NC (Bo l/8),Jv⟩,l.tail)
def jg(k:Nat):Int:=if k=0 then 43 else if k=1 then 45 else if k=2 then 42 else if k=3 then 47 else 37
def ED:Nat->AG->AL->Bs->AL × Bs
 |0,K,es,l=>if Bo l%5=0/\0<K.length then(es++[⟨1,0,K.getD (Bo l/5%K.length) (wS []),Jv,0,0⟩],l.tail) else(es++[⟨0,0,wS [],Dz (Bo l.tail),0,0⟩],l.tail.tail)
 |d+1,K,es,l=>
  if 2<Bo l % 5/\es.length<52 then
   let p:=ED d K es l.tail
   let q:=ED d K p.1 p.2
   (q.1++[⟨2,jg (Bo l/5%5),wS [],Jv,(p.1.length:Int)-1,(q.1.length:Int)-1⟩],q.2)
  else if Bo l%5=0/\0<K.length then(es++[⟨1,0,K.getD (Bo l/5%K.length) (wS []),Jv,0,0⟩],l.tail) else(es++[⟨0,0,wS [],Dz (Bo l.tail),0,0⟩],l.tail.tail)
def MX:Nat->AG->AL->Bs->As × AL × Bs
 |0,_,es,l=>([],es,l)
 |n+1,K,es,l=>
  let p:=ED 2 K es l
  let q:=MX n K p.1 p.2
  (((p.1.length:Int)-1)::q.1,q.2)
def Qy(c:Nat):Nat:=if c%6=0 then 1 else if c%6=1 then 2 else if c%6=2 then 1 else if c%6=3 then 2 else if c%6=4 then 3 else 0
def I9(K:AG)(es:AL)(l:Bs):As × AL × Bs:=MX (Qy (Bo l)) K es l.tail
def M_:Nat->AG->Bs->A3 × AG × Bs
 |0,K,l=>([],K,l)
 |n+1,K,l=>
  let p:=E9 K l
  let q:=M_ n (if p.1.w==2 then K++[p.1.F] else K) p.2
  (p.1::q.1,q.2)
def Jk(c:Nat):Nat:=if c/12%6=0 then 1 else if c/12%6=1 then 2 else if c/12%6=2 then 2 else if c/12%6=3 then 1 else if c/12%6=4 then 0 else 3
def Qo(K:AG)(pos m:Nat)(l:Bs):Pt × AG × Bs:=
 let q:=M_ (Jk (Bo l)) K l.tail
 let neg:=if m=5/\pos=0 then false else(Bo l%4==3||pos==3)
 (⟨neg,IG (Bo l),q.1⟩,if neg then K else q.2.1,q.2.2)
def Mw:Nat->Nat->AG->Nat->Nat->Bs->Bi × AG × Nat × Bs
 |0,_,K,pos,_,l=>([],K,pos,l)
 |f+1,n0,K,pos,m,l=>
  if m<n0∨pos=0 then
   let p:=Qo K pos m l
   let q:=Mw f n0 p.2.1 (if p.1.neg then pos else pos+1) (m+1) p.2.2
   (p.1::q.1,q.2)
  else([],K,pos,l)
def MA(K:AG)(pos:Nat)(es:AL)(l:Bs):Ac × AL × Bs:=
 if Bo l % 8=0∨Bo l % 8=1∨Bo l % 8=2 then
  let q:=I9 K es l.tail
  (⟨1,0,IG (Bo l/8),q.1⟩,q.2)
 else if Bo l%8=3∨Bo l%8=4 then(⟨2,1+((Bo l/8%pos:Nat):Int),wS [],[]⟩,es,l.tail)
 else if Bo l % 8=5∨Bo l % 8=6 then
  let q:=I9 K es l.tail
  (⟨3,1+((Bo l/8%pos:Nat):Int),wS [],q.1⟩,q.2)
 else(⟨4,0,wS [],[]⟩,es,l.tail)
def M7:Nat->AG->Nat->AL->Bs->CY × AL × Bs
 |0,_,_,es,l=>([],es,l)
 |n+1,K,pos,es,l=>
  let p:=MA K pos es l
  let q:=M7 n K pos p.2.1 p.2.2
  (p.1::q.1,q.2)
def Nv(c:Nat):Int:=if c=255 then -9223372036854775808 else((c%5:Nat):Int)-2
def MY(nm:ByteArray)(l:Bs):Ru × Bs:=
 let p:=Mw 7 (1+Bo l/5%4) [] 0 0 l.tail
 let q:=M7 (1+Bo p.2.2.2%3) p.2.1 p.2.2.1 [] p.2.2.2.tail
 (⟨nm,Nv (Bo l),p.1,q.2.1,q.1⟩,q.2.2)
def Na(nm:Nat->ByteArray):Nat->Nat->Bs->Az × Bs
 |0,_,l=>([],l)
 |n+1,k,l=>
  let p:=MY (nm k) l
  let q:=Na nm n (k+1) p.2
  (p.1::q.1,q.2)
def LA(nm:Nat->ByteArray)(most:Nat)(l:Bs):Az × Bs:=Na nm (1+Bo l%most) 0 l.tail
def Ai{p}(h:p):Hid p:=h
def ES(w:Aa)(g:Nat)(l:Bs):Prop:=∃(a:Af)(B:Bs)(c i:Nat),Bk w g #[.slice a B.length c,.int .i64 (i:Int)] 73/\i<=B.length/\B.length<=1048576/\l=B.drop i /\
 ∀j x,B[j]?=some x->∃(b o:Nat),a=some ⟨b,o,none⟩/\b<g/\w.cell? ⟨b,o+j,none⟩=some (.int .u8 (x.toNat:Int))
def ES.C{w w' g l}(h:ES w g l)(d:Bw w w'):ES w' g l:=by
 obtain⟨a,n,c,i,e,r,m,f,s⟩:=h;refine⟨a,n,c,i,(d.block g (Ap e)).c e,r,m,f,λj x hj=>?_⟩;obtain⟨b,o,q,p,k⟩:=s j x hj;exact⟨b,o,q,p,zab d k⟩
theorem ES.lt{w g l}(h:ES w g l):g<w.heap.size:=by
 obtain⟨a,n,c,i,b,_⟩:=h;exact Ap b
def ES.cq{w w' g l}(h:ES w g l)(d:Below (g+1) w w'):ES w' g l:=by
 obtain⟨a,n,c,i,f,r,m,e,s⟩:=h;refine⟨a,n,c,i,(d.block g qd).c f,r,m,e,λj x hj=>?_⟩;obtain⟨b,o,q,p,k⟩:=s j x hj;refine⟨b,o,q,p,?_⟩;rw[<-k];exact yP (w:=w) (d.block b qd)
def Rs(g:Nat)(l:Bs)(w w':Aa):Prop:=BU (some g) w w'/\ES w' g l
def Rs.c{g l l' u v w}(h:Rs g l u v)(k:Rs g l' v w):Rs g l' u w:=⟨h.1.c k.1,k.2⟩
def Rs.C{g l u v w}(h:Rs g l u v)(a:Bw v w):Rs g l u w:=⟨h.1.c (BU.u a),h.2.C a⟩
def Rs.refl{g l w}(h:ES w g l):Rs g l w w:=⟨BU.refl _ _,h⟩
def Rs.of{g l w w'}(h:ES w g l)(a:Bw w w'):Rs g l w w':=(Rs.refl h).C a
def Gv(g l w)(h:ES w g l):Ca 81 #[Pn g] w λe w'=>∃c:Nat,c<256/\e=.returned (I6 (c:Int))/\Rs g l.tail w w'/\Hid (Bo l=c):=by
 have H:=Ai h;obtain⟨a,B,c,i,h1,K,t,q,A⟩:=h;have E:At w g 0 (.slice a B.length c):=Xl;have J:At w g 1 (I6 (i:Int)):=Xl;have G:w.frozen? ⟨g,1,none⟩=false:=by simp[World.frozen?,h1]
 have hlt:g<w.heap.size:=Ap h1;obtain⟨z,m,d⟩:=AK h1 A q;by_cases O:i<B.length
 .obtain⟨x,f⟩:=Bq O;obtain⟨b,o,rfl,L,I⟩:=m i x f;have n:=Ai (show B.drop i=x::B.drop (i+1) from Dx f);have hu:=x.toNat_lt;have C:((i:Nat):Int)<((B.length:Nat):Int):=qd;have D:(0:Int)<=(i:Int):=qd;go_enter func81,ntmps81;go_wp2;go_region;go_wp2;go_region;go_wp2;go_ret;refine⟨x.toNat,hu,rfl,⟨?_,?_⟩,?_⟩
  .exact(BU.set _).c (BU.u Au.drew.drew)
  .refine⟨some ⟨b,o,none⟩,B,c,i+1,?_,qd,t,by rw[d.o,n.o];rfl,λj y hj=>?_⟩
   .have:=C7 (w:=w) (g:=g) (i:=1) z (I6 ((i:Int)+1));exact this
   obtain⟨r,o',v,p,s⟩:=m j y hj;refine⟨r,o',v,p,?_⟩;rw[<-s];exact yP (w:=w) (yD _ _ _ _ (Nat.ne_of_lt p))
  show Bo l=x.toNat;rw[d.o,n.o];rfl
 have k:=Ai (show l=[] from by rw[d.o];exact yH qd);go_enter func81,ntmps81;go_wp2;go_region;go_wp2;go_ret;refine⟨0,qd,rfl,?_,?_⟩
 .have:=Rs.of H Au.drew;rw[k.o]at this⊢;exact this
 show Bo l=0;rw[k.o];rfl
abbrev Sn:ByteArray:=⟨#[]⟩
def Ia(K:AG)(e:Ex):Prop:=(∃v,Dk v=true/\e=⟨0,0,Sn,v,0,0⟩)∨∃s,s∈K/\e=⟨1,0,s,(0,0,Sn),0,0⟩
def LF(op a b:Int):Ex:=⟨2,op,Sn,(0,0,Sn),a,b⟩
def EA(K:AG):Nat->Nat->AL->Prop
 |0,_,ys=>∃e,ys=[e]/\Ia K e
 |d+1,n,ys=>(∃e,ys=[e]/\Ia K e)∨∃A B op,Eh op=true/\EA K d n A/\EA K d (n+A.length) B/\ys=A++(B++[LF op (((n+A.length:Nat):Int)-1) (((n+A.length+B.length:Nat):Int)-1)])
def EA.bM{K d n e}(h:Ia K e):EA K d n [e]:=by
 cases d with
 |zero=>exact⟨e,rfl,h⟩
 |succ d=>exact .inl ⟨e,rfl,h⟩
def EA.pos{K d n ys}(h:EA K d n ys):1<=ys.length:=by
 cases d with
 |zero=>
  obtain⟨e,rfl,_⟩:=h;exact yA 1
 |succ d=>
  rcases h with⟨e,rfl,_⟩|⟨A,B,a,_,_,_,rfl⟩
  .exact yA 1
  simp only[yM,Ya,YU];omega
def zp8:(⟨#[]⟩:ByteArray).toList=[]:=OL
def ME:DA ⟨#[]⟩=true:=by rw[DA,zp8];rfl
def vS:DA Sn=true:=ME
def Tr:E4 ((0,0,⟨#[]⟩):V)=true:=by
 have:E4 ((0,0,⟨#[]⟩):V)=DA ⟨#[]⟩:=rfl;rw[this,ME]
def zor:E4 ((0,0,Sn):V)=true:=Tr
def zsg(n):Dk (0,n,⟨#[]⟩)=true:=by
 have:Dk (0,n,⟨#[]⟩)=((⟨#[]⟩:ByteArray).toList.isEmpty||false):=rfl;simp_all
def EA.known{K}:∀{d n:Nat}{ys:AL},EA K d n ys->∀e∈ys,E8 K e=true:=by
 have O:∀{e:Ex},Ia K e->E8 K e=true:=by
  rintro e (⟨v,_,rfl⟩|⟨s,b,rfl⟩)
  .rfl
  have:Co s K=true:=WM.2 ⟨s,b,qf⟩;simp[E8,this]
 intro d
 induction d with
 |zero=>
  rintro n ys ⟨e,rfl,h⟩ x a;simp at a;exact a▸O h
 |succ d ih=>
  rintro n ys (⟨e,rfl,h⟩|⟨A,B,g,_,f,c,rfl⟩) x a
  .simp at a;exact a▸O h
  simp at a;rcases a with a|a|a
  .exact ih f x a
  .exact ih c x a
  rw[a];rfl
def gy{S e s}(h:DY S e=some s)(r):Dv S (e::r)=Dv (S++[s]) r:=by
 simp only[Dv,h]
def Ia.dL{K}(b:∀s∈K,AP s.data.toList=true){e}(h:Ia K e)(S):DY S e=some (S.length,0):=by
 rcases h with⟨v,hv,rfl⟩|⟨s,a,rfl⟩
 .simp[DY,MC,hv,vS]
 simp[DY,MC,b s a,zor]
def gF{α:Type}(l)(x:α)(i)(h:i=l.length):(l++[x])[i]?=some x:=by subst h;simp
def EA.bm{K}(i:∀s∈K,AP s.data.toList=true):∀{d:Nat},d<=20->∀{n:Nat}{ys:AL},EA K d n ys->∀(S:BS),S.length=n ->
  ∃T m,T.length+1=ys.length/\m<=d/\∀r,Dv S (ys++r)=Dv (S++T++[(n,m)]) r:=by
 intro d
 induction d with
 |zero=>
  rintro _ n ys ⟨e,rfl,h⟩ S hS;refine⟨[],0,rfl,yA _,λr=>?_⟩;rw[WT,gy (h.dL i S),hS,yO]
 |succ d ih=>
  rintro hd n ys (⟨e,rfl,h⟩|⟨A,B,c,k,j,g,rfl⟩) S hS
  .refine⟨[],0,rfl,yn _,λr=>?_⟩;rw[WT,gy (h.dL i S),hS,yO]
  obtain⟨b,O,C,D,x⟩:=ih qd j S hS;obtain⟨f,a,E,H,q⟩:=ih qd g (S++b++[(n,O)]) qe;have y:(S++b++[(n,O)]).length=n+A.length:=by simp;omega
  have u:(S++b++[(n,O)]++f++[(n+A.length,a)]).length=n+A.length+B.length:=by simp;omega
  have z:=j.pos;have G:=g.pos;have o:(S++b++[(n,O)]++f++[(n+A.length,a)])[((((n+A.length+B.length:Nat):Int)-1)).toNat]?=some (n+A.length,a):=gF _ _ _ qe;have p:(S++b++[(n,O)]++f++[(n+A.length,a)])[((((n+A.length:Nat):Int)-1)).toNat]?=some (n,O):=by
   rw[yY,yr (by rw[y];omega)];exact gF _ _ _ qe
  have l:DY (S++b++[(n,O)]++f++[(n+A.length,a)]) (LF c (((n+A.length:Nat):Int)-1) (((n+A.length+B.length:Nat):Int)-1))=some (n,1+max O a):=by
   have v:EW (S++b++[(n,O)]++f++[(n+A.length,a)]) (LF c (((n+A.length:Nat):Int)-1) (((n+A.length+B.length:Nat):Int)-1))=true:=by
    unfold EW;rw[u];show(Eh c&&(DA ⟨#[]⟩&&(E4 ((0,0,⟨#[]⟩):V)&&_)))=true;rw[k,ME,Tr];show(decide (((n+A.length+B.length:Nat):Int)-1=((n+A.length+B.length:Nat):Int)-1)&&(decide (0<=((n+A.length+B.length:Nat):Int)-1)&&decide (0<=((n+A.length:Nat):Int)-1)))=true;simp only[ym,decide_eq_true_eq];exact⟨trivial,qd,qd⟩
   unfold DY;rw[if_neg (show¬((LF c (((n+A.length:Nat):Int)-1) (((n+A.length+B.length:Nat):Int)-1)).w==0)=true fromλh=>by cases h),if_neg (show¬((LF c (((n+A.length:Nat):Int)-1) (((n+A.length+B.length:Nat):Int)-1)).w==1)=true fromλh=>by cases h),if_pos (show((LF c (((n+A.length:Nat):Int)-1) (((n+A.length+B.length:Nat):Int)-1)).w==2)=true from rfl),if_pos v];show JC _ (((n+A.length:Nat):Int)-1) (((n+A.length+B.length:Nat):Int)-1)=_;unfold JC;simp only[o,p];rw[if_pos];simp only[ym,decide_eq_true_eq];exact⟨by first|trivial|rfl|omega,qd⟩
  refine⟨b++[(n,O)]++f++[(n+A.length,a)],1+max O a,qe,qd,λr=>?_⟩;have t:A++(B++[LF c (((n+A.length:Nat):Int)-1) (((n+A.length+B.length:Nat):Int)-1)])++r=A++(B++(LF c (((n+A.length:Nat):Int)-1) (((n+A.length+B.length:Nat):Int)-1)::r)):=qf;rw[t,x,q,gy l];simp only[yY]
def C9(K:AG):Nat->AL->As->Prop
 |_,ys,[]=>ys=[]
 |n,ys,x::r=>∃A B,ys=A++B/\EA K 2 n A/\x=((n+A.length:Nat):Int)-1/\C9 K (n+A.length) B r
def C9.snoc{K B}:∀{a:As}{n:Nat}{ys:AL},C9 K n ys a->EA K 2 (n+ys.length) B->C9 K n (ys++B) (a++[((n+ys.length+B.length:Nat):Int)-1])
 |[],n,ys,h,hB=>by
  have h:ys=[]:=h
  subst h
  exact⟨B,[],qf,hB,qf,rfl⟩
 |x::r,n,ys,h,hB=>by
  obtain⟨A,C,rfl,c,b,O⟩:=h
  have:=C9.snoc O (B:=B) (by simpa[Kd] using hB)
  exact⟨A,C++B,qf,c,b,by simpa[Kd] using this⟩
def C9.known{K}:∀{b:As}{n:Nat}{ys:AL},C9 K n ys b->∀e∈ys,E8 K e=true
 |[],n,ys,h=>by
  have h:ys=[]:=h
  subst h
  simp
 |x::r,n,ys,h=>by
  obtain⟨A,C,rfl,c,_,O⟩:=h
  intro e a
  rcases yp.1 a with a|a
  .exact c.known e a
  exact C9.known O e a
def C9.bm{K}(b:∀s∈K,AP s.data.toList=true):∀{c:As}{n:Nat}{ys:AL},C9 K n ys c->∀(S:BS),S.length=n ->
  ∃T,T.length=ys.length/\(∀r,Dv S (ys++r)=Dv (S++T) r)/\∀U,EU (S++T++U) c n=some (n+ys.length)
 |[],n,ys,h,S,hS=>by
  have h:ys=[]:=h
  subst h
  exact⟨[],rfl,qf,λU=>rfl⟩
 |x::r,n,ys,h,S,hS=>by
  obtain⟨A,C,rfl,d,p,l⟩:=h
  obtain⟨O,m,hl,_,j⟩:=d.bm b qi S hS
  obtain⟨T,t,g,e⟩:=C9.bm b l (S++O++[(n,m)]) qe
  refine⟨O++[(n,m)]++T,qe,λq=>?_,λU=>?_⟩
  .rw[yY,j,g]
   simp only[yY]
  have o:=d.pos
  have u:x.toNat=n+A.length-1:=qd
  have k:S++(O++[(n,m)]++T)++U=S++O++[(n,m)]++(T++U):=qf
  have i:S++(O++[(n,m)]++T)++U=S++O++[(n,m)]++T++U:=qf
  have f:(S++(O++[(n,m)]++T)++U)[x.toNat]?=some (n,m):=by
   rw[k,yr qe];exact gF _ _ _ qe
  have a:x<((S++(O++[(n,m)]++T)++U).length:Int):=by simp;omega
  have:=e U;rw[<-i]at this;unfold EU;rw[f,if_pos (by simp only[YE,ym,decide_eq_true_eq];exact⟨qd,a,trivial⟩),show x.toNat+1=n+A.length by omega,this];simp;omega
def GR(K:AG)(pos:Nat):Nat->AL->CY->Prop
 |_,ys,[]=>ys=[]
 |n,ys,a::r=>∃A B,ys=A++B/\C9 K n A a.args/\(Et a=true/\a.args.length<=6/\EH pos a=true)/\GR K pos (n+A.length) B r
def GR.snoc{K pos B a}(O:Et a=true/\a.args.length<=6/\EH pos a=true):∀{b:CY}{n:Nat}{ys:AL},GR K pos n ys b->C9 K (n+ys.length) B a.args->GR K pos n (ys++B) (b++[a])
 |[],n,ys,h,hB=>by
  have h:ys=[]:=h
  subst h
  exact⟨B,[],qf,hB,O,rfl⟩
 |x::r,n,ys,h,hB=>by
  obtain⟨A,C,rfl,e,c,d⟩:=h
  have:=GR.snoc O d (B:=B) (by simpa[Kd] using hB)
  exact⟨A,C++B,qf,e,c,this⟩
def GR.known{K pos}:∀{b:CY}{n:Nat}{ys:AL},GR K pos n ys b->∀e∈ys,E8 K e=true
 |[],n,ys,h=>by
  have h:ys=[]:=h
  subst h
  simp
 |x::r,n,ys,h=>by
  obtain⟨A,C,rfl,c,_,O⟩:=h
  intro e a
  rcases yp.1 a with a|a
  .exact c.known e a
  exact GR.known O e a
def GR.dM{K pos}:∀{b:CY}{n:Nat}{ys:AL},GR K pos n ys b->∀a∈b,EH pos a=true
 |[],n,ys,h=>by simp
 |x::r,n,ys,h=>by
  obtain⟨A,C,rfl,e,c,d⟩:=h
  intro a O
  rcases yW.1 O with rfl|O
  .exact c.2.2
  exact GR.dM d a O
def GR.bm{K pos}(b:∀s∈K,AP s.data.toList=true):∀{c:CY}{n:Nat}{ys:AL},GR K pos n ys c->∀(S:BS),S.length=n ->
  ∃T,T.length=ys.length/\Dv S ys=S++T/\∀k,He (S++T) c n k=none
 |[],n,ys,h,S,hS=>by
  have h:ys=[]:=h
  subst h
  exact⟨[],rfl,by simp[Dv],λk=>by simp[He,hS]⟩
 |x::r,n,ys,h,S,hS=>by
  obtain⟨A,C,rfl,j,a,i⟩:=h
  obtain⟨O,hl,g,d⟩:=j.bm b S hS
  obtain⟨T,l,e,f⟩:=GR.bm b i (S++O) qe
  refine⟨O++T,qe,?_,λk=>?_⟩
  .rw[g,e,yY]
  rw[<-yY]
  have:CM (S++O++T) x n=some (n+A.length):=by
   unfold CM;rw[if_pos (by simp only[ym,decide_eq_true_eq];exact⟨a.1,a.2.1⟩)];exact d T
  simp only[He,this];exact f (k+1)
def Zc{α f}:∀{l:List α}{k:Nat},(∀x∈l,f x=true)->Eu f l k=none:=by intro l;induction l<;>grind[Eu]
def zkU{t}:∀{ts:A3}{O a:AG},Dd ts O=some a->(El t=true->Co t.F a=true)->Dd (ts++[t]) O=some (if t.w==2 then a++[t.F] else a):=by intro ts;induction ts<;>grind[Co,Dd,El]
def zmH{p:Pt}{a}:∀{b:Bi}{O kn:AG}{k:Nat},Fw b O k=.inr kn->Dd p.s kn=some a->Fw (b++[p]) O k=.inr (if p.neg then kn else a):=by intro b;induction b<;>grind[Dd,Fw]
structure Mt(J:AG) (pos:Nat) (r:Ru):Prop where
 name:AP r.name.data.toList=true
 x:r.x.length<=6
 aH:∀p∈r.x,Ej p=true
 known:Fw r.x [] 1=.inr J
 fi:∀s∈J,AP s.data.toList=true
 count:Ag r.x=pos
 eo:1<=pos/\pos<=3
 K:r.K.length<=8
 A:r.A.length<=60
 cB:GR J pos 0 r.A r.K
def Mt.en{K:AG}{pos:Nat}{r:Ru}(h:Mt K pos r){pre:Az}(d:∀o∈pre,o.name≠r.name):CC pre r=(0,0):=by
 obtain⟨T,l,c,b⟩:=h.cB.bm h.fi [] rfl;have g:AO r=none:=by
  unfold AO;rw[if_pos (by simp only[LO,ym,decide_eq_true_eq];exact⟨h.name,h.x,h.K,h.A⟩),Zc h.aH];rw[Yg]at c b;show(if _ then _ else _)=none;rw[c,if_neg qd];exact b 1
 have j:pre.any (λo=>decide (o.name=r.name))=false:=by
  rw[List.any_eq_false];intro o k;simp[d o k]
 have O:Bp r=none:=by
  unfold Bp;rw[h.known];refine Zc λa _=>?_;simp only[Hd,iY];exact .inr (Y7.2 λe i=>h.cB.known e (Wv i))
 have f:CU r=none:=by
  unfold CU;rw[h.count];exact Zc h.cB.dM
 unfold CC;rw[g];show(if _ then _ else if _ then _ else _)=_;rw[j,if_neg qf,if_pos (by rw[h.count];exact h.eo),O,f]
def Fy(k:Nat):ByteArray:=⟨#[114,(UInt8.ofNat (48+k))]⟩
def ztM(k)(h:k<10):AP (Fy k).data.toList=true:=by
 have:∀k:Fin 10,AP (Fy k.val).data.toList=true:=qi;exact this ⟨k,h⟩
def xi(i j)(a:i<10)(hj:j<10)(h:i≠j):Fy i≠Fy j:=by
 have:∀i j:Fin 10,i≠j->Fy i.val≠Fy j.val:=qi;exact this ⟨i,a⟩ ⟨j,hj⟩ (λe=>h MT)
def Sz(k:Nat)(r:Ru):Prop:=r.name=Fy k/\∃K pos,Mt K pos r
def rZ:∀{s pre:Az}{k:Nat},(∀(i:Nat)(r:Ru),(pre++s)[i]?=some r->Sz i r)->(pre++s).length<=10->Gj pre s k=(0,0,0)
 |[],pre,k,_,_=>rfl
 |r::s,pre,k,h,hl=>by
  obtain⟨c,K,pos,d⟩:=h pre.length r qf
  simp at hl
  have:CC pre r=(0,0):=d.en λo b=>by
   obtain⟨i,a,rfl⟩:=List.mem_iff_getElem.1 b
   rw[(h i pre[i] (by rw[yr a];simp)).1,c]
   exact xi _ _ qd qd qd
  unfold Gj
  rw[this,if_pos rfl]
  exact rZ qu qe
def zq1{rs}(h:∀(i:Nat)(r:Ru),rs[i]?=some r->Sz i r)(hl:rs.length<=10):Cf rs=(0,0,0):=by
 unfold Cf;rw[if_pos qd];exact rZ (pre:=[]) qu NB
def DX{g b l w w' o}(h:Rs g l w w')(d:w.heap[b]?=some o)(a:b≠g):w'.heap[b]?=some o:=
 (h.1.block b (Ap d) (λe=>a Xw)).c d
def Po{g b o l w w' v}(h:Rs g l w w')(c:w.cell? ⟨b,o,none⟩=some v)(a:b≠g):w'.cell? ⟨b,o,none⟩=some v:=by
 rw[<-c];exact yP (w:=w) (h.1.block b (yI w ⟨b,o,none⟩ c) (λe=>a Xw))
def XK(s:ByteArray):Prop:=s.size<=20/\DS s=true
def XJ(s:ByteArray):Prop:=s.size<=20/\AP s.data.toList=true
def Z4(c:Nat)(w):Ca 194 #[I6 (c:Int)] w λe w'=>∃s:ByteArray,XK s/\e=.returned (.string s)/\Bw w w'/\Hid (s=IG c):=by
 have a:c%3=0∨c%3=1∨c%3=2:=qd;rcases a with h|h|h
 all_goals
  go_enter func194,ntmps194;go_wp2;go_ret;exact⟨_,⟨qi,qi⟩,rfl,Ar,show _=IG c by unfold IG;rw[h];rfl⟩
def zo6(c:Nat)(w):Ca 244 #[I6 (c:Int)] w λe w'=>∃s:ByteArray,XJ s/\e=.returned (.string s)/\Bw w w'/\Hid (s=NC c):=by
 have a:c%3=0∨c%3=1∨c%3=2:=qd;rcases a with h|h|h
 all_goals
  go_enter func244,ntmps244;go_wp2;go_ret;exact⟨_,⟨qi,qi⟩,rfl,Ar,show _=NC c by unfold NC;rw[h];rfl⟩
def vV(v:V):Value:=.agg #[.int .i64 v.w,.int .i64 v.num,.string v.O]
def oX(s w):Ca 148 #[.string s] w λe w'=>e=.returned (vV (1,0,s))/\Bw w w':=by
 go_enter func148,ntmps148;go_wp2;exact bodyPost_ret (v:=vV (1,0,s)) (by simp[results,results148,go_sem,vV,V.w,V.num,V.O]) rfl ⟨rfl,Ar⟩
def pq(n w):Ca 203 #[I6 n] w λe w'=>e=.returned (vV (0,n,⟨#[]⟩))/\Bw w w':=by
 go_enter func203,ntmps203;go_wp2;exact bodyPost_ret (v:=vV (0,n,⟨#[]⟩)) (by simp[results,results203,go_sem,vV,V.w,V.num,V.O]) rfl ⟨rfl,Ar⟩
def Hz(v:V):Prop:=v.O.size<=20/\(-9223372036854775808<=v.w/\v.w<=9223372036854775807) /\ -9223372036854775808<=v.num/\v.num<=9223372036854775807/\Dk v=true
def wG(s)(h:s.size<=20)(a:Dk (1,0,s)=true):Hz (1,0,s):=⟨h,⟨show(_:Int)<=1 by decide,show(1:Int)<=_ by decide⟩,show(_:Int)<=0 by decide,show(0:Int)<=_ by decide,a⟩
def Zr(n)(a:-9223372036854775808<=n)(b:n<=9223372036854775807):Hz (0,n,⟨#[]⟩):=⟨yn 20,⟨show(_:Int)<=0 by decide,show(0:Int)<=_ by decide⟩,a,b,zsg n⟩
def S8:Hz (0,0,⟨#[]⟩):=Zr 0 qi qi
def Jo{w:Aa}{b t v}(h:Bk w b ((V.cells v).toArray) t):At w b 0 (I6 v.w)/\At w b 1 (I6 v.num)/\At w b 2 (.string v.O):=by
 refine⟨?_,?_,?_⟩<;>simp[World.cell?,h,V.cells]
def Ol:(prog.info? 187).map (·.size)=some 3:=qg
def V.cells_one(v):∀u∈V.cells v,u.oneCell'=true:=by
 intro u hu;simp[V.cells]at hu;rcases hu with rfl|rfl|rfl<;>rfl
def Rs.N{g b l u v w}(h:Rs g l u v)(d:Turned v w b)(j:u.heap.size<=b)(i:g<u.heap.size):Rs g l u w:=by
 refine⟨⟨h.1.rest.c (d.e (yn _)),λk f a=>(d.block k qd).c (h.1.block k f a)⟩,?_⟩;exact h.2.cq (d.e qd)
def QC{Q:V->Prop}{w:Aa}{b t v}(h:Hid (Bk w b ((V.cells v).toArray) t))(hv:Q v):∃v:V,Q v/\At w b 0 (I6 v.w)/\At w b 1 (I6 v.num)/\At w b 2 (.string v.O):=⟨v,hv,Jo h⟩
def PM(g l w)(h:ES w g l):Ca 147 #[Pn g] w λe w'=>∃v:V,(Hz v/\Hid (v=Dz (Bo l)))/\e=.returned (vV v)/\Rs g l.tail w w':=by
 have H:=Ai h;have hlt:=h.lt;have z:=Ai (λo=>(H.C (Au.alloc Bg o)));go_enter func147,ntmps147;go_wp2_with fail;refine(Gv g l _ (z _)).j ?_;rintro e r ⟨c,B,rfl,y,n⟩;obtain⟨m,p⟩:=An (DX y (heap_alloc_new _ _) qd) (((Rs.of H Ar).c y));have d:w.heap.size<r.heap.size:=Ap m;have k:=Ai (λo=>Au.alloc Bg o:∀o,Bw r (r.alloc o));by_cases q:c%3=0
 .have b:c/3%3=0∨c/3%3=1∨c/3%3=2:=qd;rcases b with b|b|b
  all_goals
   go_wp2_with fail;refine(oX _ _).j ?_;rintro e u ⟨rfl,i⟩;have a:=Ai ((k _).c (i.j (k _).size));have s:=a.size;go_wp2_with (first|(refine Ec qh 187 (.tmp 2) (.tmp 16) qh w.heap.size (V.cells (1,0,_)) qh qh _ 187 ((a.block _ d).c m) qh Ol (V.cells_one _) ?_;intro t O f;obtain⟨v,hv,f0,f1,f2⟩:=QC (Q:=λv=>Hz v/\Hid (v=Dz (Bo l))) O ⟨wG _ (by first|decide|exact yn 20) qi,show _=Dz (Bo l) by rw[n.o];unfold Dz;rw[if_pos q,b];rfl⟩;clear O)|fail);exact bodyPost_ret (v:=vV v) jW rfl ⟨v,hv,rfl,(p.C a).N f Bg hlt⟩
 have D:¬(c:Int)%3=0:=qd;by_cases x:250<=c
 .have A:(250:Int)<=(c:Int):=qd;have b:c%4=1∨c%4=2∨c%4=3:=qd;rcases b with b|b|b
  all_goals
   go_wp2_with fail;refine(pq _ _).j ?_;rintro e u ⟨rfl,i⟩;have a:=Ai ((k _).c (i.j (k _).size));have s:=a.size;go_wp2_with (first|(refine Ec qh 187 (.tmp 2) (.tmp 25) qh w.heap.size (V.cells (0,_,_)) qh qh _ 187 ((a.block _ d).c m) qh Ol (V.cells_one _) ?_;intro t O f;obtain⟨v,hv,f0,f1,f2⟩:=QC (Q:=λv=>Hz v/\Hid (v=Dz (Bo l))) O ⟨Zr _ Xn Xn,show _=Dz (Bo l) by rw[n.o];unfold Dz;rw[if_neg q,if_pos x,b];rfl⟩;clear O)|fail);exact bodyPost_ret (v:=vV v) jW rfl ⟨v,hv,rfl,(p.C a).N f Bg hlt⟩
 have A:¬(250:Int)<=(c:Int):=qd;go_wp2_with fail;refine(pq _ _).j ?_;rintro e u ⟨rfl,i⟩
 .have a:=Ai i;have s:=a.size;go_wp2_with (first|(refine Ec qh 187 (.tmp 2) (.tmp 30) qh w.heap.size (V.cells (0,_,_)) qh qh _ 187 ((a.block _ d).c m) qh Ol (V.cells_one _) ?_;intro t O f;obtain⟨v,hv,f0,f1,f2⟩:=QC (Q:=λv=>Hz v/\Hid (v=Dz (Bo l))) O ⟨Zr _ Xn Xn,show _=Dz (Bo l) by rw[n.o];unfold Dz;rw[if_neg q,if_neg x];first|rfl|(congr 2;done)|(congr 2;omega)⟩;clear O)|fail);exact bodyPost_ret (v:=vV v) jW rfl ⟨v,hv,rfl,(p.C a).N f Bg hlt⟩
def GK(K:AG)(s:ByteArray):Prop:=s.size<=20/\AP s.data.toList=true/\s∈K
def Oh(K:AG)(w:Aa)(g:Nat)(a:Af)(n:Nat):Prop:=(n<=1048576/\n=K.length)/\∀j,j<n->∃(b o:Nat)(s:ByteArray),a=some ⟨b,o,none⟩/\g<b/\(GK K s/\K[j]?=some s)/\w.cell? ⟨b,o+j,none⟩=some (.string s)
def Oh.rs{K w w' g l a n}(h:Oh K w g a n)(d:Rs g l w w'):Oh K w' g a n:=by
 refine⟨h.1,λj hj=>?_⟩;obtain⟨b,o,s,f,c,e,i⟩:=h.2 j hj;exact⟨b,o,s,f,c,e,Po d i qd⟩
def Oh.C{K w w' g a n}(h:Oh K w g a n)(c:Bw w w'):Oh K w' g a n:=by
 refine⟨h.1,λj hj=>?_⟩;obtain⟨b,o,s,f,d,e,i⟩:=h.2 j hj;exact⟨b,o,s,f,d,e,zab c i⟩
def GS(t:Tm):Aj:=[.int .i64 t.w,.int .i64 t.op,.string t.F,.int .i64 t.val.w,.int .i64 t.val.num,.string t.val.O]
def OD(t:Tm):Value:=.agg (GS t).toArray
def QK(t:Tm):Prop:=t.F.size<=20/\Hz t.val/\DC t=true
def Lq(K:AG)(t:Tm):Prop:=QK t/\(El t=true->Co t.F K=true)
def xI(K):Lq K ⟨0,0,⟨#[]⟩,(0,0,⟨#[]⟩)⟩:=⟨⟨yn 20,S8,by simp[DC,ME,Tr]⟩,λh=>by simp[El]at h⟩
def zsW(K){v}(hv:Hz v):Lq K ⟨1,0,⟨#[]⟩,v⟩:=⟨⟨yn 20,hv,by simp[DC,ME,hv.2.2.2.2]⟩,λh=>by simp[El]at h⟩
def xQ(K){s}(a:XJ s):Lq K ⟨2,0,s,(0,0,⟨#[]⟩)⟩:=⟨⟨a.1,S8,by simp[DC,a.2,Tr]⟩,λh=>by simp[El]at h⟩
def zs2{K s b}(d:1<=b)(c:b<=6)(a:GK K s):Lq K ⟨3,b,s,(0,0,⟨#[]⟩)⟩:=⟨⟨a.1,S8,by simp[DC,Ng,a.2.1,Tr,d,c]⟩,λ_=>WM.2 ⟨s,a.2.2,qf⟩⟩
def zn8(K){v a}(c:1<=a)(b:a<=6)(hv:Hz v):Lq K ⟨3,a,⟨#[]⟩,v⟩:=⟨⟨yn 20,hv,by simp[DC,Ng,ME,hv.2.2.2.2,c,b]⟩,λh=>by simp[El,ME]at h⟩
def RY(t):∀u∈GS t,u.oneCell'=true:=by
 intro u hu;simp[GS]at hu;rcases hu with rfl|rfl|rfl|rfl|rfl|rfl<;>rfl
def S9:(prog.info? 189).map (·.size)=some 6:=qg
def je{w:Aa}{b ty t}(h:Bk w b ((GS t).toArray) ty):At w b 0 (I6 t.w)/\At w b 1 (I6 t.op)/\At w b 2 (.string t.F)/\At w b 3 (I6 t.val.w)/\At w b 4 (I6 t.val.num)/\At w b 5 (.string t.val.O):=by
 refine⟨?_,?_,?_,?_,?_,?_⟩<;>simp[World.cell?,h,GS]
def Mh{Q:Tm->Prop}{w:Aa}{b ty t}(h:Hid (Bk w b ((GS t).toArray) ty))(hv:Q t):∃t:Tm,Q t/\At w b 0 (I6 t.w)/\At w b 1 (I6 t.op)/\At w b 2 (.string t.F)/\At w b 3 (I6 t.val.w)/\At w b 4 (I6 t.val.num)/\At w b 5 (.string t.val.O):=⟨t,hv,je h⟩
def EK{w:Aa}{b ty x0 x1 d a c O}(h:Bk w b #[x0,x1,d,a,c,O] ty):At w b 0 x0/\At w b 1 x1/\At w b 2 d/\At w b 3 a/\At w b 4 c/\At w b 5 O:=by
 refine⟨?_,?_,?_,?_,?_,?_⟩<;>simp[World.cell?,h]
def C0{w:Aa}{b ty c}(h:Bk w b c ty)(j):w.frozen? ⟨b,j,none⟩=false:=by
 simp[World.frozen?,h]
def Rs.am{g b o l u v x}(h:Rs g l u v)(e:u.heap.size<=b)(f:g<u.heap.size):Rs g l u (v.setCell ⟨b,o,none⟩ x):=
 ⟨⟨h.1.rest.setCell (yn _) _,λk d a=>(yD _ _ _ _ qe).c (h.1.block k d a)⟩,h.2.cq (Au.setCell qe _)⟩
def tA{P:Prop}(h:P:=by exact bodyPost_ret (v:=OD t) (by simp[results,results195,go_sem,f0,f1,f2,f3,f4,f5,OD,GS]) rfl ⟨t,ht,rfl,by rw[HT.o];exact(hR.C hB2).N ai Bg hlt⟩):P:=h
def ziw(K g l a n cp w)(h:ES w g l)(I:Oh K w g a n):Ca 195 #[Pn g,.slice a n cp] w λe w'=>∃t:Tm,(Lq K t/\Hid (t=(E9 K l).1))/\e=.returned (OD t)/\Rs g (E9 K l).2 w w':=by
 obtain⟨H,M⟩:=An h I;have hlt:=h.lt;clear h I;have HB:=Ai (λo=>(H.C (Au.alloc Bg o)));go_enter func195,ntmps195;go_wp2_with fail;refine(Gv g l _ (HB _)).j ?_;rintro e i ⟨c,hc,rfl,L,u⟩;obtain⟨G,q,hR⟩:=AK M.1.2 (DX L (heap_alloc_new _ _) qd) (((Rs.of H Ar).c L));have p:w.heap.size<i.heap.size:=Ap q;have aJ:=Ai (M.rs hR);clear L HB M;have r:=Ai (λo=>Au.alloc Bg o:∀o,Bw i (i.alloc o));have f:c%8=0∨(c%8=1∨c%8=2)∨c%8=3∨(4<=c%8):=qd;rcases f with f|f|f|f
 .have HT:Hid (E9 K l=(⟨0,0,wS [],Jv⟩,l.tail)):=show _=_ from by unfold E9;rw[u.o,if_pos f]
  have hB2:=Ai (y8 i.heap.size i);go_wp2_with (first|(refine Ec qh 189 (.tmp 4) (.tmp 13) qh w.heap.size (GS ⟨0,0,⟨#[]⟩,(0,0,⟨#[]⟩)⟩) qh qh _ 189 ((hB2.block _ p).c q) qh S9 (RY _) ?_;intro D O ai;obtain⟨t,ht,f0,f1,f2,f3,f4,f5⟩:=Mh (Q:=λt=>Lq K t/\Hid (t=(E9 K l).1)) O ⟨xI K,show _=(E9 K l).1 by rw[HT.o];first|rfl|(congr 1;first|omega|(push_cast;rfl))⟩;clear O)|fail);exact tA
 .have B:Hid (E9 K l=(⟨1,0,wS [],Dz (Bo l.tail)⟩,l.tail.tail)):=show _=_ from by unfold E9;rw[u.o,if_neg qd,if_pos f]
  rcases f with f|f
  all_goals
   go_wp2_with fail;refine(PM g l.tail _ hR.2).j ?_;rintro e z ⟨v,⟨hv,J⟩,rfl,d⟩;have HT:Hid (E9 K l=(⟨1,0,wS [],v⟩,l.tail.tail)):=show _=_ from by rw[J.o];exact B
   clear J;obtain⟨x,y⟩:=An (DX d q qd) (hR.c d);have R:=d.1.rest.size;clear d q hR;unfold vV;go_wp2_with (first|(refine Ec qh 189 (.tmp 4) (.tmp 19) qh w.heap.size (GS ⟨1,0,⟨#[]⟩,v⟩) qh qh _ 189 (x) qh S9 (RY _) ?_;intro D O ai;obtain⟨t,ht,f0,f1,f2,f3,f4,f5⟩:=Mh (Q:=λt=>Lq K t/\Hid (t=(E9 K l).1)) O ⟨zsW K hv,show _=(E9 K l).1 by rw[HT.o];first|rfl|(congr 1;first|omega|(push_cast;rfl))⟩;clear O)|fail);exact bodyPost_ret (v:=OD t) qS rfl ⟨t,ht,rfl,by rw[HT.o];exact y.N ai Bg hlt⟩
 .have T:=Ai (λo=>hR.2.C (r o));by_cases U:0<n/\100<=c
  .obtain⟨A,aE⟩:=U;have aF:(0:Int)<(n:Int):=qd;have az:(100:Int)<=(c:Int):=qd;go_wp2_with fail;refine(Gv g l.tail _ (T _)).j ?_;rintro e z ⟨c2,aQ,rfl,d,Z⟩;obtain⟨y,m,x,aH⟩:=BP (((hR.C (r _)).c d)) (DX d (heap_alloc_new _ _) qd) (DX d (((r _).block _ p).c q) qd) ((aJ.C (r _)).rs d);have R:i.heap.size<z.heap.size:=Ap m;obtain⟨k,E⟩:=AF (c2%n);have Y:=Ai E;have W:k<n:=by rw[E];exact Wx _ A
   have aN:(c2:Int)%(n:Int)=(k:Int):=by rw[E];omega
   obtain⟨aV,aR⟩:=CZ W;obtain⟨b,o,s,rfl,aP,aD,aU⟩:=aH.2 k W;have HT:Hid (E9 K l=(⟨3,1+((c/8%6:Nat):Int),s,Jv⟩,l.tail.tail)):=show _=_ from by unfold E9;rw[u.o,if_neg qd,if_neg qd,if_pos f,if_pos ⟨by rw[<-G.o];exact A,aE⟩,Z.o,<-G.o,<-Y.o];simp[List.getD,aD.2]
   clear Z Y;obtain⟨t0,t1,t2,t3,t4,t5⟩:=EK m;have z2:=C0 m 2;clear d E m aH q hR r T aJ;go_wp2_with (first|(refine Ec qh 189 (.tmp 4) (.tmp 46) qh w.heap.size (GS ⟨3,_,s,(0,0,⟨#[]⟩)⟩) qh qh _ 189 ((yD _ _ _ _ qe).c x) qh S9 (RY _) ?_;intro D O ai;obtain⟨t,ht,f0,f1,f2,f3,f4,f5⟩:=Mh (Q:=λt=>Lq K t/\Hid (t=(E9 K l).1)) O ⟨zs2 qd qd aD.1,show _=(E9 K l).1 by rw[HT.o];first|rfl|(congr 1;first|omega|(push_cast;rfl))⟩;clear O)|fail);exact bodyPost_ret (v:=OD t) qS rfl ⟨t,ht,rfl,by rw[HT.o];exact(y.am (b:=i.heap.size) qd hlt).N ai Bg hlt⟩
  by_cases A:n=0
  focus
   have B:Hid (E9 K l=(⟨3,1+((c/8%6:Nat):Int),wS [],Dz (Bo l.tail)⟩,l.tail.tail)):=show _=_ from by unfold E9;rw[u.o,if_neg qd,if_neg qd,if_pos f,if_neg (by rw[<-G.o];exact U)]
   subst A
  rotate_left
  focus
   have B:Hid (E9 K l=(⟨3,1+((c/8%6:Nat):Int),wS [],Dz (Bo l.tail)⟩,l.tail.tail)):=show _=_ from by unfold E9;rw[u.o,if_neg qd,if_neg qd,if_pos f,if_neg (by rw[<-G.o];exact U)]
   have aF:(0:Int)<(n:Int):=qd;have az:¬(100:Int)<=(c:Int):=qd
  rotate_left
  all_goals
   go_wp2_with fail;refine(PM g l.tail _ (T _)).j ?_;rintro e z ⟨v,⟨hv,J⟩,rfl,d⟩;have HT:Hid (E9 K l=(⟨3,1+((c/8%6:Nat):Int),wS [],v⟩,l.tail.tail)):=show _=_ from by rw[J.o];exact B
   obtain⟨y,m,x⟩:=AK (((hR.C (r _)).c d)) (DX d (heap_alloc_new _ _) qd) (DX d (((r _).block _ p).c q) qd);have R:i.heap.size<z.heap.size:=Ap m;obtain⟨t0,t1,t2,t3,t4,t5⟩:=EK m;have z3:=C0 m 3;have z4:=C0 m 4;have z5:=C0 m 5;unfold vV;go_wp2_with (first|(refine Ec qh 189 (.tmp 4) (.tmp 46) qh w.heap.size (GS ⟨3,_,⟨#[]⟩,v⟩) qh qh _ 189 ((((yD _ _ _ _ qe).c (yD _ _ _ _ qe)).c (yD _ _ _ _ qe)).c x) qh S9 (RY _) ?_;intro D O ai;obtain⟨t,ht,f0,f1,f2,f3,f4,f5⟩:=Mh (Q:=λt=>Lq K t/\Hid (t=(E9 K l).1)) O ⟨zn8 K qd qd hv,show _=(E9 K l).1 by rw[HT.o];first|rfl|(congr 1;first|omega|(push_cast;rfl))⟩;clear O)|fail);exact bodyPost_ret (v:=OD t) qS rfl ⟨t,ht,rfl,by rw[HT.o];exact(((y.am (b:=i.heap.size) qd hlt).am (b:=i.heap.size) qd hlt).am (b:=i.heap.size) qd hlt).N ai Bg hlt⟩
 have aT:¬(c:Int)%8=0:=qd;have aM:¬(c:Int)%8=1:=qd;have aS:¬(c:Int)%8=2:=qd;have aO:¬(c:Int)%8=3:=qd;have aL:=Ai (show((c:Int)/8)=((c/8:Nat):Int) by omega);go_wp2_with fail;rw[aL.o];refine(zo6 (c/8) _).j ?_;rintro e z ⟨s,I,rfl,aG,aK⟩;have HT:Hid (E9 K l=(⟨2,0,s,Jv⟩,l.tail)):=show _=_ from by unfold E9;rw[u.o,if_neg qd,if_neg qd,if_neg qd,aK.o]
 have hB2:=Ai aG;have R:=aG.size;go_wp2_with (first|(refine Ec qh 189 (.tmp 4) (.tmp 50) qh w.heap.size (GS ⟨2,0,s,(0,0,⟨#[]⟩)⟩) qh qh _ 189 ((hB2.block _ p).c q) qh S9 (RY _) ?_;intro D O ai;obtain⟨t,ht,f0,f1,f2,f3,f4,f5⟩:=Mh (Q:=λt=>Lq K t/\Hid (t=(E9 K l).1)) O ⟨xQ K I,show _=(E9 K l).1 by rw[HT.o];first|rfl|(congr 1;first|omega|(push_cast;rfl))⟩;clear O)|fail);exact tA
def Lg(m0:Nat)(K:AG)(l:Bs)(ts:A3)(j:Nat)(H:AG)(li:Bs):Prop:=M_ m0 K l=(ts++(M_ j H li).1,(M_ j H li).2)
def Lg.nil{m0 K l}:Lg m0 K l [] m0 K l:=by simp[Lg]
def Lg.step{m0 K l ts j H O a t}(h:Lg m0 K l ts j H a)(hj:0<j)(c:t=(E9 H a).1)(b:O=(if t.w==2 then H++[t.F] else H)):Lg m0 K l (ts++[t]) (j-1) O (E9 H a).2:=by
 obtain⟨i,rfl⟩:∃i,j=i+1:=⟨j-1,qd⟩
 subst b;subst c;unfold Lg at h⊢;rw[h];simp only[M_,Wj];simp
def Lg.cf{m0 K l ts H a}(h:Lg m0 K l ts 0 H a):M_ m0 K l=(ts,H,a):=by
 unfold Lg at h;rw[h];simp[M_]
def Ll(n0:Nat)(l:Bs)(L:Bi)(K:AG)(pos:Nat)(lr:Bs):Prop:=Mw 7 n0 [] 0 0 l=(L++(Mw (7-L.length) n0 K pos L.length lr).1,(Mw (7-L.length) n0 K pos L.length lr).2)
def Ll.nil{a l}:Ll a l [] [] 0 l:=by simp[Ll]
def Ll.step{e m l L K f H pos O b d neg a ts}(h:Ll e l L K pos b)(g:L.length=m)(u:m<=6)(q:m<e∨pos=0)(c:neg=(if m=5/\pos=0 then false else(Bo b%4==3||pos==3)))(n:a=IG (Bo b))(s:M_ (Jk (Bo b)) K b.tail=(ts,H,d))(t:f=(if neg then K else H))(r:O=pos/\neg=true∨O=pos+1/\neg=false):Ll e l (L++[⟨neg,a,ts⟩]) f O d:=by
 have k:Qo K pos m b=(⟨neg,a,ts⟩,f,d):=by
  unfold Qo;rw[s];simp only;rw[<-c,<-n,t]
 have o:O=(if neg then pos else pos+1):=by
  rcases r with⟨rfl,rfl⟩|⟨rfl,rfl⟩<;>rfl
 obtain⟨i,j⟩:∃i,7-m=i+1:=⟨6-m,qd⟩
 have p:7-(m+1)=i:=qd;unfold Ll at h⊢;rw[yM,List.length_singleton,g,p];rw[h,g,j];simp only[Mw];rw[if_pos q,k];simp only[<-o];simp
def Ll.cf{a l L K pos b}(h:Ll a l L K pos b)(d:L.length<=6)(O:¬(L.length<a∨pos=0)):Mw 7 a [] 0 0 l=(L,K,pos,b):=by
 obtain⟨i,c⟩:∃i,7-L.length=i+1:=⟨6-L.length,qd⟩
 unfold Ll at h;rw[h,c];simp only[Mw];rw[if_neg O];simp
def Hc(n5:Nat)(K:AG)(pos:Nat)(l:Bs)(Ys:CY)(j:Nat)(xs:AL)(la:Bs):Prop:=M7 n5 K pos [] l=(Ys++(M7 j K pos xs la).1,(M7 j K pos xs la).2)
def Hc.nil{a K pos l}:Hc a K pos l [] a [] l:=by simp[Hc]
def Hc.step{e K pos l c j xs b d a A}(h:Hc e K pos l c j xs d)(hj:0<j)(f:MA K pos xs d=(A,b,a)):Hc e K pos l (c++[A]) (j-1) b a:=by
 obtain⟨i,rfl⟩:∃i,j=i+1:=⟨j-1,qd⟩
 unfold Hc at h⊢;rw[h];simp only[M7,Wj];rw[f];simp
def Hc.cf{c K pos l a xs b}(h:Hc c K pos l a 0 xs b):M7 c K pos [] l=(a,xs,b):=by
 unfold Hc at h;rw[h];simp[M7]
def zr{K pos n xs b a d c}(f:Bo a=n)(h:n%8=0∨n%8=1∨n%8=2)(g:d=IG (n/8))(e:c=(I9 K xs a.tail).1/\b=(I9 K xs a.tail).2.1):MA K pos xs a=(⟨1,0,d,c⟩,b,(I9 K xs a.tail).2.2):=by
 unfold MA;rw[f,if_pos h,g,e.1,e.2]
def zsX{K pos n xs a z}(b:Bo a=n)(h:n%8=3∨n%8=4)(c:z=1+((n/8%pos:Nat):Int)):MA K pos xs a=(⟨2,z,⟨#[]⟩,[]⟩,xs,a.tail):=by
 unfold MA;rw[b,if_neg qd,if_pos h,c];rfl
def zE{K pos n xs b a z c}(e:Bo a=n)(h:n%8=5∨n%8=6)(f:z=1+((n/8%pos:Nat):Int))(d:c=(I9 K xs a.tail).1/\b=(I9 K xs a.tail).2.1):MA K pos xs a=(⟨3,z,⟨#[]⟩,c⟩,b,(I9 K xs a.tail).2.2):=by
 unfold MA;rw[e,if_neg qd,if_neg qd,if_pos h,f,d.1,d.2];rfl
def ztC{K pos n xs a}(b:Bo a=n)(h:n%8=7):MA K pos xs a=(⟨4,0,⟨#[]⟩,[]⟩,xs,a.tail):=by
 unfold MA;rw[b,if_neg qd,if_neg qd,if_neg qd];rfl
def zsi{c l sal L K pos O a xs b}(f:sal=Nv (Bo l))(d:Mw 7 (1+Bo l/5%4) [] 0 0 l.tail=(L,K,pos,O))(e:M7 (1+Bo O%3) K pos [] O.tail=(a,xs,b)):MY c l=(⟨c,sal,L,xs,a⟩,b):=by
 unfold MY;rw[d];simp only;rw[e,f]
def Li(nm:Nat->ByteArray)(n0:Nat)(l:Bs)(M:Az)(j:Nat)(lr:Bs):Prop:=Na nm n0 0 l=(M++(Na nm j M.length lr).1,(Na nm j M.length lr).2)
def Li.nil{b a l}:Li b a l [] a l:=by simp[Li]
def Li.step{a c m l M j b r}(h:Li a c l M j b)(d:M.length=m)(hj:0<j)(e:r=(MY (a m) b).1):Li a c l (M++[r]) (j-1) (MY (a m) b).2:=by
 obtain⟨i,rfl⟩:∃i,j=i+1:=⟨j-1,qd⟩
 subst e;subst d;unfold Li at h⊢;rw[h];simp only[Na,Wj];simp
def Li.cf{c a l M b}(h:Li c a l M 0 b):Na c a 0 l=(M,b):=by
 unfold Li at h;rw[h];simp[Na]
def Hr(t:Tm)(vs:AH)(l:Bs):V × Bs:=
 if t.w=1 then(if Bo l.tail%4=0 then Dz (Bo l) else t.val,l.tail.tail)
 else if t.w=2/\vs.length≠0 then(if Bo l.tail%2=0 then vs.getD 0 Jv else Dz (Bo l),l.tail.tail)
 else(Dz (Bo l),l.tail)
def Ey:A3->AH->Bs->AH × Bs
 |[],vs,l=>(vs,l)
 |t::r,vs,l=>Ey r (vs++[(Hr t vs l).1]) (Hr t vs l).2
def Rn{ts:A3}{i t}(h:ts[i]?=some t){vs l x}(e:Ey (ts.drop i) vs l=x){v l'}(b:Hr t vs l=(v,l')):Ey (ts.drop (i+1)) (vs++[v]) l'=x:=by
 obtain⟨a,rfl⟩:=yf.1 h;rw[WX a,Ey,b]at e;exact e
def oT{n}(a:-9223372036854775808<=n)(b:n<=9223372036854775807):(Lit.int .i64 n).wf=true:=by
 simp[Lit.wf,IntKind.min,IntKind.max,IntKind.signed,IntKind.bits];omega
def zlF{s:ByteArray}(h:s.toList.isEmpty=true):s=⟨#[]⟩:=by
 exact uE
def ZG{w:Aa}{base e m a n c xs}(h:w.ownsRow base e m (.slice a n c) n xs):n<=c:=by
 rcases h.2 with⟨_,d⟩|⟨g,cap,O,hv,_,_,b,_⟩
 .omega
 cases hv
 exact b
def geI(x y:Int):Bool:=decide (y<=x)
def jP(xs:As):As:=xs.mergeSort geI
def Qf(xs:As):As:=if xs.length<=1000 then jP xs else []
structure In where
 T:Int
 G:As
def In.R(q:AD)(w:Aa)(r:Aj)(x:In):Prop:=∃a_tags c_tags,r=[.int .i64 x.T,.slice a_tags x.G.length c_tags]/\CJ q w a_tags x.G
abbrev QW(q:AD)(w:Aa)(a:Af)(xs:List In):Prop:=CI (In.R q) q 45 2 w a xs
theorem QW.e{q w w' a xs}(h:QW q w a xs)(b:Bw w w'):QW q w' a xs:=CI.e h (λ_ _ _⟨a_tags,c_tags,e,O⟩=>⟨a_tags,c_tags,e,O.e b⟩) b
def QW.ac{q w a xs}(h:QW q w a xs):QW none w a xs:=CI.bi h (λb _=>Qb.ac _ _ b) (λ_ _ _⟨a_tags,c_tags,e,O⟩=>⟨a_tags,c_tags,e,O.ac⟩)
def Bm:As->As->Int
 |[],[]=>0
 |[],_::_=>-1
 |_::_,[]=>1
 |x::a,y::b=>if Lib.compareInt x y=0 then Bm a b else Lib.compareInt x y
def Hv:As->As->Int
 |x::a,y::b=>if x<y then -1 else if y<x then 1 else Hv a b
 |[],b=>- (b.length:Int)
 |x::a,[]=>((x::a).length:Int)
theorem Iu(x y):(x<y/\Lib.compareInt x y = -1)∨(y<x/\Lib.compareInt x y=1)∨(x=y/\Lib.compareInt x y=0):=by
 unfold Lib.compareInt;by_cases a:x<y
 .exact .inl ⟨a,by simp[a]⟩
 by_cases b:y<x
 .exact .inr (.inl ⟨b,by simp[a,b]⟩)
 exact .inr (.inr ⟨qd,by simp[a,b]⟩)
def ztn:∀(a b:As),(Hv a b<0↔Bm a b<0)/\(0<Hv a b↔0<Bm a b)
 |[],[]=>by simp[Hv,Bm]
 |[],y::b=>by
  simp only[Hv,Bm,Ya]
  omega
 |x::a,[]=>by
  simp only[Hv,Bm,Ya]
  omega
 |x::a,y::b=>by
  have h:=ztn a b
  rcases Iu x y with⟨c,d⟩|⟨c,d⟩|⟨c,d⟩
  .simp[Hv,Bm,c,d]
  .have e:¬x<y:=qd
   simp[Hv,Bm,c,d,e]
  subst c
  simp[Hv,Bm,d,h]
def oI:∀(a b:As),Bm b a =-Bm a b
 |[],[]=>by simp[Bm]
 |[],y::b=>by simp[Bm]
 |x::a,[]=>by simp[Bm]
 |x::a,y::b=>by
  have h:=oI a b
  rcases Iu x y with⟨f,c⟩|⟨f,c⟩|⟨f,c⟩<;>rcases Iu y x with⟨e,d⟩|⟨e,d⟩|⟨e,d⟩
  all_goals first|(exfalso;omega)|simp[Bm,c,d,h]
def LX:As->Int
 |[]=>0
 |x::r=>if x=0 then LX r else x
def zJ(rs:Az)(x:In):Bool:=decide (0<=x.T)&&(decide (x.T<(rs.length:Int))&&decide (x.G.length<=3))
theorem zps:∀(pre s:Az)(k:Nat),(Gj pre s k).1=0->Gj pre s k=(0,0,0):=by intro pre s;induction s generalizing pre<;>grind[Gj,CC]
def ZH{rs:Az}(h:(Cf rs).1=0):Cf rs=(0,0,0):=by grind[Cf,Gj,zps]
def FD.j{α a N M}(h:N<=M)(c:∀x,a N x->a M x){xs:List α}(b:FD a N xs):FD a M xs:=by grind[FD]
def Tm.j{N M}(h:N<=M)(x:Tm)(a:x.le N):x.le M:=⟨yi a.1 h,yi a.2 h⟩
def Ex.j{N M}(h:N<=M)(x:Ex)(a:x.le N):x.le M:=⟨yi a.1 h,yi a.2 h⟩
def Hq:1048576<=maxLen:=by unfold maxLen;omega
def Fu(w:Aa)(b:Nat)(x:Ru)(a_pats:Af)(c_pats:Nat)(a_exprs:Af)(c_exprs:Nat)(a_acts:Af)(c_acts:Nat):Prop:=
 w.cell? ⟨b,0,none⟩=some (.string x.name)/\w.cell? ⟨b,1,none⟩=some (.int .i64 x.aq)/\w.cell? ⟨b,2,none⟩=some (.slice a_pats x.x.length c_pats)/\w.cell? ⟨b,3,none⟩=some (.slice a_exprs x.A.length c_exprs)/\w.cell? ⟨b,4,none⟩=some (.slice a_acts x.K.length c_acts)
theorem Fu.e{w w' b x d f a c g i}(h:Fu w b x d f a c g i)(j:Bw w w'):Fu w' b x d f a c g i:=by grind[Fu,zab]
def Fu.aO(w:Aa)(t x c d a b e f):Fu (w.alloc (.cells #[.string x.name,I6 x.aq,.slice c x.x.length d,.slice a x.A.length b,.slice e x.K.length f] t)) w.heap.size x c d a b e f:=by
 refine⟨?_,?_,?_,?_,?_⟩<;>simp[go_sem]
def QX:(prog.info? 145).map (λi=>(i.zero,i.size,i.bytes))=some (some (.agg #[I6 0,.string ByteArray.empty,.slice none 0 0]),3,48):=qg
structure Mx(w:Aa) (g:Nat) (N:Nat) (fs:Ab) (gs:A5):Prop where
 len:gs.length=fs.length
 aa:BT w g 145 3 N ((fs.zip gs).map λp=>Bx p.1 (.slice (some ⟨p.2,0,none⟩) p.1.v.length p.1.v.length))
 V:∀(i:Nat)(f:F)(h:Nat),fs[i]?=some f->gs[i]?=some h->BT w h 187 3 f.v.length (f.v.map V.cells)
 gt:∀h∈gs,g<h
 nodup:gs.Nodup
def Mx.at{w g N fs gs}(h:Mx w g N fs gs):Cs w (some ⟨g,0,none⟩) fs:=by
 intro i f c;obtain⟨a,rfl⟩:=yf.1 c;have d:gs[i]?=some (gs[i]'(by rw[h.len];exact a)):=yK _;have b:((fs.zip gs).map λp=>Bx p.1 (.slice (some ⟨p.2,0,none⟩) p.1.v.length p.1.v.length))[i]?=some (Bx fs[i] (.slice (some ⟨gs[i]'(by rw[h.len];exact a),0,none⟩) fs[i].v.length fs[i].v.length)):=by
  rw[yE,K2 (z:=(fs[i],gs[i]'(by rw[h.len];exact a))) |>.2 ⟨c,d⟩];rfl
 refine⟨g,0,rfl,?_,?_,some ⟨gs[i]'(by rw[h.len];exact a),0,none⟩,fs[i].v.length,?_,Cj.aa (h.V i _ _ c d)⟩
 .simpa using h.aa.cell b (j:=0) rfl
 .simpa using h.aa.cell b (j:=1) rfl
 simpa using h.aa.cell b (j:=2) rfl
theorem Mx.lt{w g N fs gs}(h:Mx w g N fs gs):g<w.heap.size/\∀x∈gs,x<w.heap.size:=by
 refine⟨h.aa.lt,λx b=>?_⟩;obtain⟨i,a,rfl⟩:=Wd b;have c:i<fs.length:=by rw[<-h.len];exact a
 exact(h.V i fs[i] gs[i] (yK c) (yK a)).lt
theorem Mx.e{w w' g N B fs gs}(h:Mx w g N fs gs)(a:Below B w w')(d:w.heap.size<=B):Mx w' g N fs gs:=by
 have hl:=h.lt;refine⟨h.len,h.aa.e a qd,λi f x c b=>(h.V i f x c b).e a ?_,h.gt,h.nodup⟩;have:=hl.2 x (yd b);omega
def Mx.step{w w' g N k h fs gs f}(H:Mx w g N fs gs)(m:Bw w w')(s:BT w' h 187 3 f.v.length (f.v.map V.cells))(y:w.heap.size<=h)(p:fs.length=k)(u:k<N) :
  Mx (((w'.setCell ⟨g,k*3,none⟩ (I6 f.tag)).setCell ⟨g,k*3+1,none⟩ (.string f.E)).setCell ⟨g,k*3+2,none⟩ (.slice (some ⟨h,0,none⟩) f.v.length f.v.length)) g N (fs++[f]) (gs++[h]):=by
 have hl:=H.lt;have o:=H.e m Bg;have n:gs.length=k:=by rw[H.len,p]
 refine⟨by simp[H.len],?_,?_,?_,?_⟩
 .have:=o.aa.el (k:=k) (by simp[H.len,p]) u (I6 f.tag) (.string f.E) (.slice (some ⟨h,0,none⟩) f.v.length f.v.length);rw[List.zip_append (by rw[H.len]),yz];exact this
 .intro i l x j c;have O:x≠g:=by
   have:x∈gs++[h]:=yd c;rcases yp.1 this with d|d
   .have:=H.gt x d;omega
   simp at d;omega
  have key:BT w' x 187 3 l.v.length (l.v.map V.cells):=by
   by_cases q:i<fs.length
   .rw[yr q]at j;rw[yr qd]at c;exact o.V i l x j c
   have r:i<(fs++[f]).length:=(yf.1 j).1;simp at r;obtain rfl:i=fs.length:=qd;rw[yB Bg]at j;rw[yB qd]at c;simp at j;subst j;rw[show fs.length-gs.length=0 by omega]at c;simp at c;subst c;exact s
  exact((key.be O _).be O _).be O _
 .intro x c;rcases yp.1 c with d|d
  .exact H.gt x d
  simp at d;omega
 rw[yL];refine⟨H.nodup,qf,λa t b m=>?_⟩;simp at m;have:=hl.2 a t;omega
def VV(a t c B vs d w)(hv:Cj w a vs)(z:Cj w t d)(hl:vs.length<=1048576) :
  Ca 175 #[.slice a vs.length c,.slice t d.length B] w λe w'=>
   e=.returned (.bool (decide (vs=d)))/\Below w.heap.size w w':=by
 by_cases x:vs.length=d.length
 .have y:((vs.length:Int) != (d.length:Int))=false:=by simp;omega
  have C:Hid (vs.length=d.length):=x;have K:vs.length<=d.length:=qd;have H:d.length<=vs.length:=qd;go_enter func175,ntmps175;go_wp2
  go_loopw [13] (λi wr=>∃(k:Nat),k<=vs.length/\i=.int .i64 k/\decide (vs=d)=decide (vs.drop k=d.drop k)/\Below w.heap.size w wr) (λi _=>vs.length-(intOf i).toNat)
  .exact⟨0,qd,rfl,rfl,y8 _ _⟩
  obtain⟨k,J,rfl,A,f⟩:=hrel;have g:Hid (decide (vs=d)=decide (vs.drop k=d.drop k)):=A;by_cases m:k<vs.length
  .obtain⟨v,O⟩:∃v,vs[k]?=some v:=⟨vs[k],by simp[m]⟩
   obtain⟨u,s⟩:∃u,d[k]?=some u:=⟨d[k]'(by omega),qf⟩
   obtain⟨b,o,rfl,D,N,I⟩:=hv.e f k v O;obtain⟨j,o',rfl,M,R,G⟩:=z.e f k u s;have l:Hid (vs.drop k=v::vs.drop (k+1)):=Dx O;have q:Hid (d.drop k=u::d.drop (k+1)):=Dx s;obtain⟨E,T⟩:=CZ m;have L:(k:Int)<(d.length:Int):=qd;cases p:(v.w==u.w)<;>cases n:(v.num==u.num)<;>cases r:(v.O.toList==u.O.toList)
   all_goals
    go_wp2
    go_region_held3 (λw'=>w'.cell? ⟨b,o+k*3,none⟩=some (.int .i64 v.w)/\w'.cell? ⟨b,o+k*3+1,none⟩=some (.int .i64 v.num)/\w'.cell? ⟨b,o+k*3+2,none⟩=some (.string v.O)/\w'.cell? ⟨j,o'+k*3,none⟩=some (.int .i64 u.w)/\w'.cell? ⟨j,o'+k*3+1,none⟩=some (.int .i64 u.num)/\w'.cell? ⟨j,o'+k*3+2,none⟩=some (.string u.O)) (go_keep) (fail)
    go_wp2
   all_goals
    first
    | (go_roundw
       case rel=>exact⟨k+1,qd,qm,by rw[g.o,l.o,q.o,zu2 (veq p n r)],f.drew⟩
       case measure=>simp[intOf];omega)
    | (go_ret
       exact⟨Ba (by rw[g.o,l.o,q.o,zl (by rintro rfl;simp at p n r)]),f.drew⟩)
  go_wp2;go_ret;exact⟨Ba (by rw[g.o,yH qd,yH qd];rfl),f⟩
 have y:((vs.length:Int) != (d.length:Int))=true:=by simp;omega
 go_enter func175,ntmps175;go_wp2;go_ret;exact⟨Ba (by rw[decide_eq_false (λe=>x Ij)]),y8 _ _⟩
structure FJ{α:Type} (lt:α->α->Bool):Prop where
 asym:∀a b,lt a b=true->lt b a=false
 c:∀a b c,lt a b=true->lt b c=true->lt a c=true
 same:∀a b,lt a b=false->lt b a=false->a=b
def FJ.le_trans{α d}(h:FJ d){a b c:α}(j:d b a=false)(i:d c b=false):d c a=false:=by
 cases f:d c a with
 |false=>rfl
 |true=>
  cases g:d a b with
  |true=>
   have:=h.c c a b f g;rw[i]at this;exact this.z
  |false=>
   have e:=h.same a b g j;subst e;rw[i]at f;exact f.z
theorem FJ.le_of_lt{α c}(h:FJ c){a b:α}(d:c a b=true):c b a=false:=h.asym a b d
def Q8{α:Type}(f:Nat->α)(i j:Nat):Nat->α:=λk=>if k=i then f j else if k=j then f i else f k
def Gm(k:Nat):Nat:=(k-1)/2
structure ji{α:Type} (lt:α->α->Bool) (f:Nat->α) (n j:Nat):Prop where
 rest:∀k,k<n->0<k->k≠j->lt (f k) (f (Gm k))=false
 ep:∀k,k<n->0<k->Gm k=j->0<j->lt (f k) (f (Gm j))=false
structure XU{α:Type} (lt:α->α->Bool) (f:Nat->α) (n i:Nat):Prop where
 rest:∀k,k<n->0<k->Gm k≠i->lt (f k) (f (Gm k))=false
 ep:∀k,k<n->0<k->Gm k=i->0<i->lt (f k) (f (Gm i))=false
def Rh{k}(h:0<k):Gm k<k:=by unfold Gm;omega
def ji.step{α c}(g:FJ c){f:Nat->α}{n j}(h:ji c f n j)(hj:j<n)(o:0<j)(hl:c (f j) (f (Gm j))=true):ji c (Q8 f (Gm j) j) n (Gm j):=by
 have s:=Rh o;have q:=g.le_of_lt hl;refine⟨λk a O i=>?_,λk a O r m=>?_⟩
 .unfold Q8;by_cases e:k=j
  .subst e;rw[if_neg qd,if_pos rfl,if_pos rfl];exact q
  rw[if_neg i,if_neg e];by_cases d:Gm k=Gm j
  .rw[if_pos d];have b:=h.rest k a O e;rw[d]at b;exact g.le_trans q b
  rw[if_neg d];by_cases l:Gm k=j
  .rw[if_pos l];exact h.ep k a O l o
  rw[if_neg l];exact h.rest k a O e
 have t:=Rh m;unfold Q8;rw[if_neg (show¬Gm (Gm j)=Gm j by omega),if_neg (show¬Gm (Gm j)=j by omega)];have p:=h.rest (Gm j) qd m qd;by_cases e:k=j
 .subst e;rw[if_neg qd,if_pos rfl];exact p
 rw[if_neg (by have:=Rh O;omega),if_neg e];have b:=h.rest k a O e;rw[r]at b;exact g.le_trans p b
def XU.step{α a}(q:FJ a){f:Nat->α}{n i j}(h:XU a f n i)(hj:j<n)(o:0<j)(b:Gm j=i)(r:∀k,k<n->0<k->Gm k=i->a (f k) (f j)=false)(hl:a (f j) (f i)=true):XU a (Q8 f i j) n j:=by
 have t:i<j:=by rw[<-b];exact Rh o
 have s:=q.le_of_lt hl;refine⟨λk c O g=>?_,λk c O m u=>?_⟩
 .have m:=Rh O;unfold Q8;by_cases e:k=i
  .subst e;rw[if_pos rfl,if_neg qd,if_neg qd];exact h.ep j hj o b qd
  rw[if_neg e];by_cases l:k=j
  .subst l;rw[if_pos rfl,b,if_pos rfl];exact s
  rw[if_neg l];by_cases d:Gm k=i
  .rw[if_pos d];exact r k c O d
  rw[if_neg d,if_neg g];exact h.rest k c O d
 have v:=Rh O;unfold Q8;rw[if_neg qd,if_neg qd,b,if_pos rfl];have p:=h.rest k c O qd;rw[m]at p;exact p
def upto{α:Type}(f:Nat->α)(n:Nat):List α:=(List.range n).map f
structure Uy{α:Type} (lt:α->α->Bool) (all out:List α) (f:Nat->α) (n:Nat):Prop where
 perm:(out++upto f n).Perm all
 fO:out.Pairwise (λa b=>lt b a=false)
 rest:∀a∈out,∀k,k<n->lt (f k) a=false
def Uy.fQ{α:Type}{c:α->α->Bool}{all out:List α}{f:Nat->α}(h:Uy c all out f 0):out.Perm all/\out.Pairwise (λa b=>c b a=false):=by
 refine⟨?_,h.fO⟩;have:=h.perm;simpa[upto] using this
structure Gh{α:Type} (c:α->α->Int):Prop where
 swap:∀a b,c b a =-c a b
 le:∀a b d,c a b<=0->c b d<=0->c a d<=0
 lt:∀a b d,c a b<=0->c b d<=0->(c a b<0∨c b d<0)->c a d<0
def Gh.zero{α c}(h:Gh c){a b d:α}(g:c a b=0)(i:c b d=0):c a d=0:=by
 have f:=h.le a b d qd qd;have e:=h.le d b a (by rw[h.swap b d];omega) (by rw[h.swap a b];omega);rw[h.swap a d]at e;omega
def Gh.map{α β c}(h:Gh c)(g:β->α):Gh (λa b=>c (g a) (g b)):=⟨λ_ _=>h.swap _ _,λ_ _ _=>h.le _ _ _,λ_ _ _=>h.lt _ _ _⟩
def Gh.or{α}{c e:α->α->Int}(h:Gh c)(k:Gh e):Gh (λa b=>if c a b=0 then e a b else c a b):=by
 have key:∀a b d,(if c a b=0 then e a b else c a b)<=0->(if c b d=0 then e b d else c b d)<=0->(c a d<0/\(c a b<0∨c b d<0))∨(c a d=0/\c a b=0/\c b d=0/\e a b<=0/\e b d<=0):=by
  intro a b d g f;by_cases j:c a b=0
  .rw[if_pos j]at g;by_cases i:c b d=0
   .rw[if_pos i]at f;exact .inr ⟨h.zero j i,j,i,g,f⟩
   rw[if_neg i]at f;exact .inl ⟨h.lt a b d qd f (.inr qd),.inr qd⟩
  rw[if_neg j]at g;by_cases i:c b d=0
  .exact .inl ⟨h.lt a b d g qd (.inl qd),.inl qd⟩
  rw[if_neg i]at f;exact .inl ⟨h.lt a b d g f (.inl qd),.inl qd⟩
 refine⟨λa b=>?_,λa b d g f=>?_,λa b d g f o=>?_⟩
 .have q:=h.swap a b;have p:=k.swap a b;by_cases z:c a b=0
  .rw[if_pos z,if_pos qd];exact p
  rw[if_neg z,if_neg qd];exact q
 .rcases key a b d g f with⟨l,_⟩|⟨z,j,i,m,n⟩
  .rw[if_neg qd];omega
  rw[if_pos z];exact k.le a b d m n
 rcases key a b d g f with⟨l,_⟩|⟨z,j,i,m,n⟩
 .rw[if_neg qd];exact l
 rw[if_pos z];rw[if_pos j,if_pos i]at o;exact k.lt a b d m n o
def xB:Gh Lib.compareInt:=by
 refine⟨λa b=>?_,λa b d f g=>?_,λa b d f g i=>?_⟩
 .rcases Iu a b with⟨p,q⟩|⟨p,q⟩|⟨p,q⟩<;>rcases Iu b a with⟨O,q'⟩|⟨O,q'⟩|⟨O,q'⟩<;>omega
 rotate_left;rotate_left
 all_goals
  rcases Iu a b with⟨p,q⟩|⟨p,q⟩|⟨p,q⟩<;>rcases Iu b d with⟨O,q'⟩|⟨O,q'⟩|⟨O,q'⟩<;>rcases Iu a d with⟨c,e⟩|⟨c,e⟩|⟨c,e⟩<;>omega
def Zq:∀(a b d:As),Bm a b<=0->Bm b d<=0->Bm a d<=0/\((Bm a b<0∨Bm b d<0)->Bm a d<0)
 |[],[],[],_,_=>by simp[Bm]
 |[],[],_::_,_,_=>by simp[Bm]
 |[],_::_,[],_,h=>by simp[Bm]at h
 |[],_::_,_::_,_,_=>by simp[Bm]
 |_::_,[],_,h,_=>by simp[Bm]at h
 |_::_,_::_,[],_,h=>by simp[Bm]at h
 |x::a,y::b,z::d,h1,h2=>by
  have ih:=Zq a b d
  simp only[Bm]at h1 h2⊢
  rcases Iu x y with⟨p,q⟩|⟨p,q⟩|⟨p,q⟩<;>rcases Iu y z with⟨O,q'⟩|⟨O,q'⟩|⟨O,q'⟩<;>rcases Iu x z with⟨e,c⟩|⟨e,c⟩|⟨e,c⟩
  all_goals first|(exfalso;omega)|(rw[q]at h1⊢;rw[q']at h2⊢;rw[c];simp at h1 h2⊢;done)|(rw[q]at h1⊢;rw[q']at h2⊢;rw[c];simp at h1 h2⊢;exact ih h1 h2)
def xu:Gh Bm:=⟨λa b=>oI a b,λa b d c e=>(Zq a b d c e).1,λa b d c e f=>(Zq a b d c e).2 f⟩
def mI:∀(a b:As),Bm a b=0->a=b
 |[],[],_=>rfl
 |[],_::_,h=>by simp[Bm]at h
 |_::_,[],h=>by simp[Bm]at h
 |x::a,y::b,h=>by
  simp only[Bm]at h
  rcases Iu x y with⟨p,q⟩|⟨p,q⟩|⟨p,q⟩
  .rw[q]at h
   simp at h
  .rw[q]at h
   simp at h
  rw[q,if_pos rfl]at h
  rw[p,mI a b h]
section
variable {C : Type} {neg : C -> Bool} {lets : C -> Ab -> F -> Bool}
def zqe{α β:Type}{f g:α->List β}{l m:List α}(h:l.Perm m)(a:∀x∈l,(f x).Perm (g x)):(l.flatMap f).Perm (m.flatMap g):=by
 have b:(l.flatMap f).Perm (l.flatMap g):=by
  clear h
  induction l with
  |nil=>exact .refl _
  |cons x r O=>
   rw[yX,yX];exact(a x qf).append (O λy hy=>a y Ny)
 exact b.c (h.flatMap_right g)
def rS{α β:Type}(f g:α->List β):∀l:List α,(l.flatMap (λx=>f x++g x)).Perm (l.flatMap f++l.flatMap g)
 |[]=>.refl _
 |x::r=>by
  simp only[yX]
  have O:=rS f g r
  refine((Y2 (f x++g x)).append O).c ?_
  rw[yY,yY]
  refine(Y2 (f x)).append ?_
  rw[<-yY,<-yY]
  exact(Kv).append (.refl _)
def rB{α β:Type}{f:α->List β}:∀{l:List α},l.Nodup->(∀x∈l,(f x).Nodup)->(∀x∈l,∀y∈l,x≠y->∀z,z∈f x->z ∉ f y)->(l.flatMap f).Nodup:=by intro l;induction l<;>grind
end
section
variable {C : Type} (neg : C -> Bool) (lets : C -> Ab -> F -> Bool)
def Gq(g:C->Ab):List C->Ab->Ab->Prop
 |[],_,V=>V=[]
 |c::cs,T,V=>if neg c=true then(∀x∈g c,lets c T x=false)/\Gq g cs T V else∃x V',V=x::V'/\x∈g c/\lets c T x=true/\Gq g cs (T++[x]) V'
def Sd(g:C->Ab)(f:F):Nat->List C->Ab->Ab->Prop
 |_,[],_,_=>False
 |0,c::cs,T,V=>if neg c=true then lets c T f=true/\(∀x∈g c,lets c T x=false)/\Gq neg lets g cs T V else∃V',V=f::V'/\lets c T f=true/\Gq neg lets g cs (T++[f]) V'
 |k+1,c::cs,T,V=>if neg c=true then(∀x∈g c,lets c T x=false)/\Sd g f k cs T V else∃x V',V=x::V'/\x∈g c/\lets c T x=true/\Sd g f k cs (T++[x]) V'
def Mu(f:F):Nat->List C->Ab->Ab->Prop
 |_,[],_,_=>False
 |0,c::_,T,_=>neg c=true/\lets c T f=true
 |k+1,c::cs,T,V=>if neg c=true then Mu f k cs T V else∃x V',V=x::V'/\Mu f k cs (T++[x]) V'
variable {neg : C -> Bool} {lets : C -> Ab -> F -> Bool}
def I_{g c cs T V}(h:neg c=true):Gq neg lets g (c::cs) T V↔(∀x∈g c,lets c T x=false)/\Gq neg lets g cs T V:=by rw[Gq,if_pos h]
def Jh{g c cs T V}(h:neg c=false):Gq neg lets g (c::cs) T V↔∃x a,V=x::a/\x∈g c/\lets c T x=true/\Gq neg lets g cs (T++[x]) a:=by rw[Gq,if_neg TX]
def S0{g f c cs T V}(h:neg c=true):Sd neg lets g f 0 (c::cs) T V↔lets c T f=true/\(∀x∈g c,lets c T x=false)/\Gq neg lets g cs T V:=by rw[Sd,if_pos h]
def SU{g f c cs T V}(h:neg c=false):Sd neg lets g f 0 (c::cs) T V↔∃a,V=f::a/\lets c T f=true/\Gq neg lets g cs (T++[f]) a:=by rw[Sd,if_neg TX]
def Pg{g f k c cs T V}(h:neg c=true):Sd neg lets g f (k+1) (c::cs) T V↔(∀x∈g c,lets c T x=false)/\Sd neg lets g f k cs T V:=by rw[Sd,if_pos h]
def Pk{g f k c cs T V}(h:neg c=false):Sd neg lets g f (k+1) (c::cs) T V↔∃x a,V=x::a/\x∈g c/\lets c T x=true/\Sd neg lets g f k cs (T++[x]) a:=by rw[Sd,if_neg TX]
def U7{f k c cs T V}(h:neg c=true):Mu neg lets f (k+1) (c::cs) T V↔Mu neg lets f k cs T V:=by rw[Mu,if_pos h]
def SR{f k c cs T V}(h:neg c=false):Mu neg lets f (k+1) (c::cs) T V↔∃x a,V=x::a/\Mu neg lets f k cs (T++[x]) a:=by rw[Mu,if_neg TX]
def Sd.cC{g f}:∀{cs:List C}{k:Nat}{T V:Ab},(∀c,cs[k]?=some c->neg c=false->f∈g c)->Sd neg lets g f k cs T V->Gq neg lets g cs T V
 |[],0,_,_,_,h=>h.elim
 |[],_+1,_,_,_,h=>h.elim
 |c::cs,0,T,V,hf,h=>by
  cases a:neg c
  .obtain⟨i,rfl,e,b⟩:=(SU a).1 h
   exact(Jh a).2 ⟨f,i,rfl,hf c rfl a,e,b⟩
  .obtain⟨_,e,b⟩:=(S0 a).1 h
   exact(I_ a).2 ⟨e,b⟩
 |c::cs,k+1,T,V,hf,h=>by
  have O:∀d,cs[k]?=some d->neg d=false->f∈g d:=λd hd=>hf d qz
  cases a:neg c
  .obtain⟨x,i,rfl,e,b,j⟩:=(Pk a).1 h
   exact(Jh a).2 ⟨x,i,rfl,e,b,j.cC O⟩
  obtain⟨e,b⟩:=(Pg a).1 h
  exact(I_ a).2 ⟨e,b.cC O⟩
def Gq.free{g f}:∀{cs:List C}{k:Nat}{T V:Ab},Gq neg lets g cs T V->(∀c,cs[k]?=some c->neg c=true->f∈g c)->¬Mu neg lets f k cs T V
 |[],0,_,_,_,_,h=>h.elim
 |[],_+1,_,_,_,_,h=>h.elim
 |c::cs,0,T,V,hs,hf,h=>by
  obtain⟨b,l⟩:=h
  have:=((I_ b).1 hs).1 f (hf c rfl b)
  rw[l]at this
  cases this
 |c::cs,k+1,T,V,hs,hf,h=>by
  have O:∀d,cs[k]?=some d->neg d=true->f∈g d:=λd hd=>hf d qz
  cases a:neg c
  .obtain⟨x,o,rfl,_,_,j⟩:=(Jh a).1 hs
   obtain⟨n,m,e,i⟩:=(SR a).1 h
   cases e
   exact j.free O i
  exact((I_ a).1 hs).2.free O ((U7 a).1 h)
def mT{g t}{p:C->Bool}{f}:∀{cs:List C}{T V:Ab},(∀c∈cs,∀x,x∈t c↔x∈g c∨(p c=true/\x=f))->(Gq neg lets t cs T V↔(Gq neg lets g cs T V/\∀k c,cs[k]?=some c->neg c=true->p c=true->¬Mu neg lets f k cs T V)∨∃k c,cs[k]?=some c/\neg c=false/\p c=true/\Sd neg lets t f k cs T V)
 |[],T,V,_=>by simp[Gq]
 |c::cs,T,V,hg=>by
  have ih:=λT V=>mT (cs:=cs) (T:=T) (V:=V) (λd hd=>hg d LE)
  have s:=hg c qf
  cases a:neg c
  .rw[Jh a]
   constructor
   .rintro⟨x,q,rfl,n,hl,j⟩
    by_cases u:x∈g c
    .rcases(ih _ _).1 j with⟨b,i⟩|⟨k,d,hd,b,i,r⟩
     .refine .inl ⟨(Jh a).2 ⟨x,q,rfl,u,hl,b⟩,λk d hd l m o=>?_⟩
      cases k with
      |zero=>
       cases hd
       rw[a]at l
       cases l
      |succ k=>
       obtain⟨w,y,e,o⟩:=(SR a).1 o
       cases e
       exact i k d qz l m o
     exact .inr ⟨k+1,d,qz,b,i,(Pk a).2 ⟨x,q,rfl,n,hl,r⟩⟩
    rcases(s x).1 n with h|⟨m,rfl⟩
    .exact absurd h u
    exact .inr ⟨0,c,rfl,a,m,(SU a).2 ⟨q,rfl,hl,j⟩⟩
   rintro(⟨b,i⟩|⟨k,d,hd,b,i,r⟩)
   .obtain⟨x,q,rfl,n,hl,j⟩:=(Jh a).1 b
    exact⟨x,q,rfl,(s x).2 (.inl n),hl,(ih _ _).2 (.inl ⟨j,λk d hd l m o=>i (k+1) d qz l m ((SR a).2 ⟨x,q,rfl,o⟩)⟩)⟩
   cases k with
   |zero=>
    cases hd
    obtain⟨q,rfl,hl,j⟩:=(SU a).1 r
    exact⟨f,q,rfl,(s f).2 (.inr ⟨i,rfl⟩),hl,j⟩
   |succ k=>
    obtain⟨x,q,rfl,n,hl,j⟩:=(Pk a).1 r
    exact⟨x,q,rfl,n,hl,(ih _ _).2 (.inr ⟨k,d,qz,b,i,j⟩)⟩
  rw[I_ a]
  constructor
  .rintro⟨l,j⟩
   have v:∀x∈g c,lets c T x=false:=λx n=>l x ((s x).2 (.inl n))
   rcases(ih _ _).1 j with⟨b,i⟩|⟨k,d,hd,b,i,r⟩
   .refine .inl ⟨(I_ a).2 ⟨v,b⟩,λk d hd O m o=>?_⟩
    cases k with
    |zero=>
     cases hd
     have:=l f ((s f).2 (.inr ⟨m,rfl⟩))
     rw[o.2]at this
     cases this
    |succ k=>exact i k d qz O m ((U7 a).1 o)
   exact .inr ⟨k+1,d,qz,b,i,(Pg a).2 ⟨l,r⟩⟩
  rintro(⟨b,i⟩|⟨k,d,hd,b,i,r⟩)
  .obtain⟨l,j⟩:=(I_ a).1 b
   refine⟨λx n=>?_,(ih _ _).2 (.inl ⟨j,λk d hd O m o=>i (k+1) d qz O m ((U7 a).2 o)⟩)⟩
   rcases(s x).1 n with n|⟨m,rfl⟩
   .exact l x n
   .cases hl:lets c T x
    .rfl
    .exact absurd ⟨a,hl⟩ (i 0 c rfl a m)
  cases k with
  |zero=>
   cases hd
   rw[a]at b
   cases b
  |succ k=>
   obtain⟨l,j⟩:=(Pg a).1 r
   exact⟨l,(ih _ _).2 (.inr ⟨k,d,qz,b,i,j⟩)⟩
def m8{g s}{p:C->Bool}{f}:∀{cs:List C}{T V:Ab},(∀c∈cs,∀x,x∈s c↔x∈g c/\x≠f)->(∀c∈cs,f∈g c->p c=true)->(Gq neg lets s cs T V↔(Gq neg lets g cs T V/\f ∉ V)∨∃k c,cs[k]?=some c/\neg c=true/\p c=true/\Sd neg lets s f k cs T V)
 |[],T,V,_,_=>by
  simp only[Gq]
  constructor
  .rintro rfl
   exact .inl ⟨rfl,by simp⟩
  .rintro(⟨h,_⟩|⟨k,c,h,_⟩)
   .exact h
   .simp at h
 |c::cs,T,V,hg,hp=>by
  have O:=λT V=>m8 (cs:=cs) (T:=T) (V:=V) (λd hd=>hg d LE) (λd hd=>hp d LE)
  have q:=hg c qf
  cases j:neg c
  .rw[Jh j]
   constructor
   .rintro⟨x,o,rfl,l,hl,i⟩
    obtain⟨t,u⟩:=(q x).1 l
    rcases(O _ _).1 i with⟨a,b⟩|⟨k,d,hd,a,b,n⟩
    .exact .inl ⟨(Jh j).2 ⟨x,o,rfl,t,hl,a⟩,by simp[b,WU u]⟩
    exact .inr ⟨k+1,d,qz,a,b,(Pk j).2 ⟨x,o,rfl,l,hl,n⟩⟩
   rintro(⟨a,b⟩|⟨k,d,hd,a,b,n⟩)
   .obtain⟨x,o,rfl,l,hl,i⟩:=(Jh j).1 a
    simp only[yW,not_or]at b
    exact⟨x,o,rfl,(q x).2 ⟨l,λe=>b.1 e.z⟩,hl,(O _ _).2 (.inl ⟨i,b.2⟩)⟩
   cases k with
   |zero=>
    cases hd
    rw[j]at a
    cases a
   |succ k=>
    obtain⟨x,o,rfl,l,hl,i⟩:=(Pk j).1 n
    exact⟨x,o,rfl,l,hl,(O _ _).2 (.inr ⟨k,d,qz,a,b,i⟩)⟩
  rw[I_ j]
  constructor
  .rintro⟨m,i⟩
   by_cases r:f∈g c/\lets c T f=true
   .exact .inr ⟨0,c,rfl,j,hp c qf r.1,(S0 j).2 ⟨r.2,m,i⟩⟩
   have v:∀x∈g c,lets c T x=false:=λx l=>by
    cases hl:lets c T x
    .rfl
    by_cases e:x=f
    .subst e
     exact absurd ⟨l,hl⟩ r
    have:=m x ((q x).2 ⟨l,e⟩)
    rw[hl]at this
    cases this
   rcases(O _ _).1 i with⟨a,b⟩|⟨k,d,hd,a,b,n⟩
   .exact .inl ⟨(I_ j).2 ⟨v,a⟩,b⟩
   exact .inr ⟨k+1,d,qz,a,b,(Pg j).2 ⟨m,n⟩⟩
  rintro(⟨a,b⟩|⟨k,d,hd,a,b,n⟩)
  .obtain⟨m,i⟩:=(I_ j).1 a
   exact⟨λx l=>m x ((q x).1 l).1,(O _ _).2 (.inl ⟨i,b⟩)⟩
  cases k with
  |zero=>
   obtain⟨_,m,i⟩:=(S0 j).1 n
   exact⟨m,i⟩
  |succ k=>
   obtain⟨m,i⟩:=(Pg j).1 n
   exact⟨m,(O _ _).2 (.inr ⟨k,d,qz,a,b,i⟩)⟩
end
def pz{e}:∀{l:Gy}{i:Nat},l[i]?=some e->(l.map (·.born)).Nodup->l.eraseIdx i=l.filter (λz=>!(z.born==e.born))
 |[],i,h,_=>by simp at h
 |z::r,0,h,hn=>by
  simp at h
  subst h
  rw[yx,Yo]at hn
  rw[List.eraseIdx_cons_zero,yT (by simp)]
  refine(Yp.2 λy a=>?_).z
  simp only[Kj,beq_eq_false_iff_ne,ne_eq]
  exactλq=>hn.1 (q▸yS a)
 |z::r,i+1,h,hn=>by
  have O:r[i]?=some e:=qu
  rw[yx,Yo]at hn
  rw[Y9,pz O hn.2,yQ]
  simp only[Kj,beq_eq_false_iff_ne,ne_eq]
  exactλq=>hn.1 (q▸yS (yd O))
def rU{es:Gy}{e:MapEntry}{x}(a:∀z∈es,(z.born=e.born↔z.key=e.key))(O:Bh x=e.key):∀{A:Gy}{T:Av},(∀z∈A,z∈es)->A.map (·.key)=T.map Bh->(A.filter (λz=>!(z.born==e.born))).map (·.key)=(T.filter (λy=>decide (y≠x))).map Bh
 |[],[],_,_=>rfl
 |[],_::_,_,h=>by simp at h
 |_::_,[],_,h=>by simp at h
 |z::A,t::T,hA,hT=>by
  simp only[yx,Yv]at hT
  have b:=rU a O (λy hy=>hA y Ny) hT.2
  have d:=a z (hA z qf)
  by_cases q:z.born=e.born
  .have:t=x:=Pp (hT.1.z.c ((d.1 q).c O.z))
   rw[yT (by simp[q]),yT (by simp[this])]
   exact b
  have:t≠x:=λk=>q (d.2 (by rw[hT.1,k,O]))
  rw[yQ (by simp[q]),yQ (by simp[this]),yx,yx,b,hT.1]
def BD.sub{w b r L a}(h:BD w b r L a):∀y∈a,y∈L.map Prod.fst:=λy k=>by
 obtain⟨es,d,since,seen,q,s,n,v,B,p,u,t,A,g⟩:=h.Y;have j:Bh y∈(leftOf es seen).toList.map (·.key):=by rw[g];exact yS k
 obtain⟨e,f,i⟩:=yv.1 j;have m:e∈es.toList:=by
  simp only[leftOf,Ka,yh]at f;exact f.1
 have o:(e.key,e.val)∈L.map (λx=>(Bh x.1,x.2)):=by
  rw[<-show es.toList.map (λe=>(e.key,e.val))=L.map (λx=>(Bh x.1,x.2)) from n];exact yv.2 ⟨e,m,rfl⟩
 obtain⟨z,l,O⟩:=yv.1 o;simp only[YF]at O;rw[Pp (i.z.c O.1.z)];exact yS l
section
variable {P : Program} {kt pt ft : TypeId} (H : XI P kt pt ft) {w : Aa}
def zM{mt et ty t2:TypeId}(hm:P.underlying mt=some (.map kt et)){b:Nat}{L:Cc}(h:Ao w b L){x:Kt}(U:A_ w x):∃w',(Builtin.delete_ #[mt,t2] ty #[.map (some b),Bh x]).run P w=.ok (.tuple #[]) w'/\Ao w' b (Ez x L)/\BU (some b) w w'/\∀r a,BD w b r L a->BD w' b r (Ez x L) (a.filter (λy=>decide (y≠x))):=by
 obtain⟨es,c,hb,he,o,D⟩:=h.Y;have hf:=Tb H U he h.ok;have ax:(es.toList.map (·.key)).Nodup:=by
  have t:es.toList.map (·.key)=(L.map Prod.fst).map Bh:=by
   exact uC
  rw[t];exact rv (λ_ _ h=>Pp h) h.nd
 have J:∀(O:Array MapEntry),(Builtin.delete_ #[mt,t2] ty #[.map (some b),Bh x]).run P w=.ok (.tuple #[]) { w with heap:=w.heap.setIfInBounds b (.map O c) }->FY O.toList (Ez x L)->(O.toList.map (·.born)).Nodup->(∀e∈O.toList,e∈es.toList)->(∀(seen:Array Nat)(a:Av),(leftOf es seen).toList.map (·.key)=a.map Bh->(∀y∈a,y∈L.map Prod.fst)->(leftOf O seen).toList.map (·.key)=(a.filter (λy=>decide (y≠x))).map Bh)->∃w',(Builtin.delete_ #[mt,t2] ty #[.map (some b),Bh x]).run P w=.ok (.tuple #[]) w'/\Ao w' b (Ez x L)/\BU (some b) w w'/\∀r a,BD w b r L a->BD w' b r (Ez x L) (a.filter (λy=>decide (y≠x))):=by
  intro O hr j I s h4;have T:BU (some b) w { w with heap:=w.heap.setIfInBounds b (.map O c) }:=BU.put _;have g:({ w with heap:=w.heap.setIfInBounds b (.map O c) }:Aa).heap[b]?=some (.map O c):=by
   exact Xh
  have l:∀y∈Ez x L,A_ { w with heap:=w.heap.setIfInBounds b (.map O c) } y.1:=λy B=>(h.ok y (yh.1 B).1).aA T h.nc;refine⟨_,hr,⟨⟨O,c,g,j,I,λe d=>D e (s e d)⟩,gB h.nd,l⟩,T,λr a E=>?_⟩;obtain⟨ay,aq,since,seen,W,M,g2,g3,g4,v,g6,g7,g8,g9⟩:=E.Y;rw[hb]at M;cases M;have au:r≠b:=λe'=>by rw[e',hb]at v;simp at v
  refine⟨⟨O,c,since,seen,W,g,j,I,λe d=>D e (s e d),?_,λe d=>g6 e (s e d),g7,g8,h4 seen a g9 E.sub⟩,gB h.nd,l⟩;show(w.heap.setIfInBounds b _)[r]?=_;rw[Y6 (WU au)];exact v
 cases f:Eg x L 0 with
 |none=>
  rw[f]at hf;refine J es qL (by rw[mj (a_ f)];exact he) o (λ_ h=>h) (λseen a A Z=>?_);rw[A];have:a.filter (λy=>decide (y≠x))=a:=Yp.2 λy B=>by
   simp only[ne_eq,decide_eq_true_eq];rintro rfl;have N:=Ta y L 0;rw[f]at N;have j:=PH.2 (Z y B);rw[<-N]at j;cases j
  rw[this]
 |some p=>
  obtain⟨i,u⟩:=p;rw[f]at hf;obtain⟨k,R,K⟩:=Te f;rw[Yj]at R;subst R;obtain⟨m,n,aw,az⟩:=UJ he K;have G:i<es.size:=by have:=(yf.1 n).1;simpa using this
  have C:(es.eraseIdxIfInBounds i).toList=es.toList.filter (λz=>!(z.born==m.born)):=by
   rw[Array.eraseIdxIfInBounds,dif_pos G,Wp];exact pz n o
  have ar:∀z∈es.toList,(z.born=m.born↔z.key=m.key):=λz hz=>
   ⟨λq=>by rw[S_ o hz (yd n) q],λq=>by rw[S_ ax hz (yd n) q]⟩
  refine J (es.eraseIdxIfInBounds i) qL ?_ ?_ (λe d=>?_) (λseen a A _=>?_)
  .rw[<-gH h.nd K];have d:es.toList.map (λe=>(e.key,e.val))=L.map (λx=>(Bh x.1,x.2)):=he;show List.map _ _=List.map _ _;rw[Array.eraseIdxIfInBounds,dif_pos G,Wp,Wa,Wa,d]
  .rw[C];exact o.sublist ((Yt).map _)
  .rw[C]at d;exact(yh.1 d).1
  have t:(leftOf (es.eraseIdxIfInBounds i) seen).toList=(leftOf es seen).toList.filter (λz=>!(z.born==m.born)):=by
   simp only[leftOf,Ka];rw[C,YC,YC];refine YS λz _=>?_;rw[Bool.and_comm]
  rw[t];exact rU ar aw.z (λz hz=>ug) A
end
def zke{l n P ops Q}(g:¬LetsOut Q)(hd:∀(i:Nat)(o:Oper),ops[i]?=some o->∀c,o.op≠.defer c) :
  ∀(is:A5)(a:Act)(w:Aa),wpOps P ops Q is a w->wpOpsIn (Fence.wide.inRound l) n P ops Q is a w:=by
 intro is
 induction is with
 |nil=>intro a w h;exact h
 |cons i rest ih=>
  intro a w h;unfold wpOps at h;unfold wpOpsIn;cases d:ops[i]? with
  |none=>
   rw[d]at h;exact ih a w h
  |some o=>
   rw[d]at h;simp only at h⊢;split
   .rename_i f;rw[if_pos f]at h;have h:o.wp P a w (wpOps P ops Q rest) Q:=h.resolve_right (λk=>g k.2);refine⟨λ_ _=>trivial,?_⟩;rw[Oper.semAt_plain _ _ _ (hd i o d)];unfold Oper.wp at h;generalize (execOp a.eval o).run P w=r at h⊢;cases r with
    |ok x w'=>
     cases x<;>simp only[Oper.upon,Oper.uponIn]at h⊢<;>first
      |exact ih _ _ h
      |exact h.elim
      |(refine⟨λhx=>Xm,CallsIn.inRound l (callsIn_wide.2 (Calls.j h ?_))⟩;intro e O b;cases e;exact ih _ _ b;exact b;exact b)
      |exact⟨λhx=>Xm,λc cs _=>let ⟨v,O,r,s⟩:=h c cs;⟨v,O,ih _ _ r,stepsIn_wide.2 s⟩⟩
    |halt x w'=>cases x<;>simp only[Oper.upon,Oper.uponIn]at h⊢<;>exact h
   rename_i f;rw[if_neg f]at h;exact⟨λ_ _=>trivial,ih _ _ h⟩
def zoi{l n P id ops Q S a w}(b:¬LetsOut Q)(hd:∀(i:Nat)(o:Oper),ops[i]?=some o->∀c,o.op≠.defer c)(d:P.follows .mixedOrders=true)(hS:S w.drew)(h:S w.drew->wpAnyH P .any ops Q S ops.size (Array.replicate ops.size false) a w.drew):(Code.region id ops true).wpIn (Fence.wide.inRound l) n P Q a w:=
 wpIn_region_draw λt=>by
  simp only[Region.schedule,d,Bool.true_or,if_true]
  exact zke b hd _ _ _ (wpAny_sound ops.size t _ a _ (wpAny_of_held _ _ _ _ (h hS)))
def VE{l n P id ops Q S a w}(b:¬LetsOut (NoPanic Q))(hd:∀(i:Nat)(o:Oper),ops[i]?=some o->∀c,o.op≠.defer c)(d:P.follows .mixedOrders=true)(hS:S w.drew)(h:S w.drew->wpAnyH P .any ops (NoPanic Q) S ops.size (Array.replicate ops.size false) a w.drew):(Code.region id ops true).wpIn (Fence.wide.inRound l) n P Q a w:=
 wpIn_mono (zoi b hd d hS h) (λ_ _ _ h=>NoPanic.imp _ _ _ h)
def rt(fs nx cp):Hn fs nx cp=false ->
  (cp<0)∨(0<=cp/\40<cp)∨(0<=cp/\cp<=40/\cp<fs.length)∨(0<=cp/\cp<=40/\(fs.length:Int)<=cp/\ET fs=false)∨(0<=cp/\cp<=40/\(fs.length:Int)<=cp/\ET fs=true/\nx<1)∨(0<=cp/\cp<=40/\(fs.length:Int)<=cp/\ET fs=true/\1<=nx/\1000001<nx):=by
 intro h;unfold Hn at h;cases a:ET fs
 .simp only[a,Km,WI]at h;simp only[Yx,false_and,and_false,or_false,and_true];omega
 simp only[a,YK,WS,decide_eq_false_iff_not]at h;simp only[true_and];omega
def zhb(a c fs nx cp sg w)(hv:Cs w a fs)(hl:fs.length<=1048576)(m:∀f∈fs,A6 f)(j:Hn fs nx cp=false) :
  Ca 115 #[.agg #[.slice a fs.length c,I6 nx,I6 cp,.bool sg]] w λe w'=>
   e=.returned (.bool (CQ fs nx cp sg))/\Bw w w':=by
 have O:Hid (CQ fs nx cp sg=false):=by unfold CQ;rw[j];exact rfl
 rcases rt fs nx cp j with d|⟨d,g⟩|⟨d,g,i⟩|⟨d,g,i,k⟩|⟨d,g,i,k,l⟩|⟨d,g,i,k,l,n⟩
 all_goals
  go_enter func115,ntmps115;go_wp2_with (go_at_call 124;refine(iF a c fs _ (hv.e Ar) hl m).rtn λw' b=>?_;obtain⟨o,p⟩:=AU b);go_ret
  first
  |exact⟨Ba O.z,Ar⟩
  |exact⟨Ba O.z,Ar.thn b⟩
def oG{sg f g}{l:Ab}{m}(h:l[m]?=some g):DE sg f (l.drop m)=(IZ sg f g&&DE sg f (l.drop (m+1))):=by
 rw[Dx h];rfl
def uZ{P:Prop}(h:P:=by
 first
  | (have _:=tP
     have HR:Hid (CQ fs nx cp true=Cl true nx [] fs):=by unfold CQ;rw[hh];exact rfl)
  |(have HR:Hid (CQ fs nx cp false=Cl false nx [] fs):=by unfold CQ;rw[hh];exact rfl)
 obtain⟨h1,h2,h3,h4,h5,h6⟩:0<=cp/\cp<=40/\(fs.length:Int)<=cp/\ET fs=true/\1<=nx/\nx<=1000001:=by
  unfold Hn at hh;simpa[ym] using hh
 clear hh;go_enter func115,ntmps115;go_wp2_with (go_at_call 124;refine(iF a c fs _ (hv.e Ar) (by omega) hs).rtn λw' hb'=>?_;obtain⟨hc,hf⟩:=AU hb');have q0:w'.cell? ⟨w.heap.size,0,none⟩=some (.slice a fs.length c):=by rw[hc _ _ (by simp)];simp[go_sem]
 have q1:w'.cell? ⟨w.heap.size,1,none⟩=some (.int .i64 nx):=by rw[hc _ _ (by simp)];simp[go_sem]
 first
  | (have _:=tP
     have q3:w'.cell? ⟨w.heap.size,3,none⟩=some (.bool true):=by rw[hc _ _ (by simp)];simp[go_sem])
  |(have q3:w'.cell? ⟨w.heap.size,3,none⟩=some (.bool false):=by rw[hc _ _ (by simp)];simp[go_sem])
 have hB:Bw w w':=Ar.thn hb';have hz:w.heap.size<w'.heap.size:=by have:=hb'.size;simp at this;omega
 clear hc hf hb'
 first
  | (have _:=tP
     go_loopw [42] (λi wr=>∃(k:Nat),k<=fs.length/\i=.int .i64 k/\CQ fs nx cp true=Cl true nx (fs.take k) (fs.drop k)/\Bw w' wr) (mz fs.length))
  |(go_loopw [42] (λi wr=>∃(k:Nat),k<=fs.length/\i=.int .i64 k/\CQ fs nx cp false=Cl false nx (fs.take k) (fs.drop k)/\Bw w' wr) (mz fs.length))
 case atStart=>exact⟨0,by omega,rfl,HR,Au⟩
 case round=>
  obtain⟨wo,rfl⟩:=AF wr;obtain⟨k,hk,rfl,hG,hb⟩:=hrel
  first
   | (have _:=tP
      have HG:Hid (CQ fs nx cp true=Cl true nx (fs.take k) (fs.drop k)):=hG)
   |(have HG:Hid (CQ fs nx cp false=Cl false nx (fs.take k) (fs.drop k)):=hG)
  clear hG;have r0:=zab hb q0;have r1:=zab hb q1;have r3:=zab hb q3;have aB:w.heap.size<wo.heap.size:=yg hz hb.size;by_cases az:k<fs.length
  .obtain⟨f,ah⟩:=Bq az;have HD:Hid (fs.drop k=f::fs.drop (k+1)):=Dx ah;have au:=(hv.e hB).e hb;obtain⟨b,o,rfl,c0,c1,s,cs,c2,hsl⟩:=au k f ah;by_cases h7:nx<=f.tag
   .go_wp2;go_ret;exact⟨Ba (by rw[HG.o,HD.o,Cl,decide_eq_false (by omega)];rfl),hB.c (((hb.alloc hb.size _)).j (by omega))⟩
   have ay:∀o,Bw wo (wo.alloc o):=λo=>Ar;go_wp2
   first
    | (have _:=tP
       go_loopw [57] (λj w2=>∃(m:Nat),m<=k/\j=.int .i64 m/\DE true f (fs.take k)=DE true f ((fs.take k).drop m)/\Below (wo.heap.size+1) (wo.alloc (.cells #[.int .i64 f.tag,.string f.E,.slice s f.v.length cs] 145)) w2) (mz k))
    |(go_loopw [57] (λj w2=>∃(m:Nat),m<=k/\j=.int .i64 m/\DE false f (fs.take k)=DE false f ((fs.take k).drop m)/\Below (wo.heap.size+1) (wo.alloc (.cells #[.int .i64 f.tag,.string f.E,.slice s f.v.length cs] 145)) w2) (mz k))
   .exact TL
   obtain⟨m,hm,rfl,hP,ai⟩:=hrel
   first
    | (have _:=tP
       have HP:Hid (DE true f (fs.take k)=DE true f ((fs.take k).drop m)):=hP)
    |(have HP:Hid (DE false f (fs.take k)=DE false f ((fs.take k).drop m)):=hP)
   clear hP;have O:=ai;rw[<-WN]at O;have af:Bw wo wr:=(ay _).c (O.j (by simp));have s1:wr.cell? ⟨wo.heap.size,1,none⟩=some (.string f.E):=zab O (by simp[go_sem]);have s2:wr.cell? ⟨wo.heap.size,2,none⟩=some (.slice s f.v.length cs):=zab O (by simp[go_sem]);have t3:=zab af r3;have aC:wo.heap.size<wr.heap.size:=by have:=O.size;simp at this;omega
   have aA:w.heap.size<wr.heap.size:=by omega
   by_cases ar:m<k
   .obtain⟨g,am⟩:∃g,fs[m]?=some g:=⟨fs[m],by simp⟩
    first
     | (have _:=tP
        have HQ:Hid (DE true f ((fs.take k).drop m)=(IZ true f g&&DE true f ((fs.take k).drop (m+1)))):=oG (by rw[Wy ar];exact am))
     |(have HQ:Hid (DE false f ((fs.take k).drop m)=(IZ false f g&&DE false f ((fs.take k).drop (m+1)))):=oG (by rw[Wy ar];exact am))
    obtain⟨b',o',aw,d0,d1,s',ax,d2,aj⟩:=(au.e af) m g am;simp only[Y1,Addr.mk.injEq,and_true]at aw;obtain⟨rfl,rfl⟩:=aw
    first
     | (have _:=tP
        obtain⟨_,HS,_⟩:=hs f (yd ah);have ak:=hsl.e af;cases hcl:(g.E.toList==f.E.toList)
        . have HK:Hid (IZ true f g=true):=by
            rw[Gu]at hcl;unfold IZ;rw[hcl];exact rfl
          go_wp2;exact⟨⟨m+1,by omega,by go_num,by rw[HP.o,HQ.o,HK.o];rfl,ai.alloc (by omega) _⟩,by simp;omega⟩
        · cases aq:decide (f.v=g.v)
          · have HK:Hid (IZ true f g=true):=(show IZ true f g=true from by unfold IZ;rw[aq];simp)
            go_wp2_with (go_at_call 175;refine(VV s s' cs ax f.v g.v _ (ak.e Ar) (aj.e Ar) HS).rtn λw3 ao=>?_);exact⟨⟨m+1,by omega,by go_num,by rw[HP.o,HQ.o,HK.o];rfl,(ai.alloc (by omega) _).c (ao.j (by simp;omega))⟩,by simp;omega⟩
          . have HK:Hid (IZ true f g=false):=by
              rw[Gu]at hcl;unfold IZ;rw[hcl,aq];exact rfl
            go_wp2_with (go_at_call 175;refine(VV s s' cs ax f.v g.v _ (ak.e Ar) (aj.e Ar) HS).rtn λw3 ao=>?_);go_ret;refine⟨Ba ?_,hB.c ((hb.j (by omega)).c ((af.alloc (by omega) _).c (ao.j (by simp;omega)) |>.j ?_))⟩
            · rw[HG.o,HD.o,Cl,HP.o,HQ.o,HK.o]
              simp
            · have:=hb.size
              omega)
     | (have HK:Hid (IZ false f g=true):=by unfold IZ;exact rfl
        go_wp2;go_roundw
        case rel=>exact⟨m+1,by omega,by go_num,by rw[HP.o,HQ.o,HK.o];rfl,ai.alloc (by omega) _⟩
        case measure=>(simp;omega))
   go_wp2;go_roundw
   case rel=>
    refine⟨k+1,by omega,by go_num,?_,hb.thn af⟩;rw[HG.o,HD.o,Cl,HP.o,yH (by simp;omega),decide_eq_true (by omega),OA fs k f ah];rfl
   case measure=>(simp;omega)
  go_wp2;go_ret;exact⟨Ba (by rw[HG.o,yH (by omega),Cl]),hB.c (hb.j (by omega))⟩
 ):P:=h
def zgQ(a c fs nx cp w)(hv:Cs w a fs)(hl:fs.length<=c)(hs:∀f∈fs,A6 f)(hh:Hn fs nx cp=true) :
  Ca 115 #[.agg #[.slice a fs.length c,.int .i64 nx,.int .i64 cp,.bool true]] w λe w'=>
   e=.returned (.bool (CQ fs nx cp true))/\Bw w w':=by
 have tP:=trivial;exact uZ
def zgu(a c fs nx cp w)(hv:Cs w a fs)(hl:fs.length<=c)(hs:∀f∈fs,A6 f)(hh:Hn fs nx cp=true) :
  Ca 115 #[.agg #[.slice a fs.length c,.int .i64 nx,.int .i64 cp,.bool false]] w λe w'=>
   e=.returned (.bool (CQ fs nx cp false))/\Bw w w':=by
 exact uZ
def ML(a c fs nx cp sg w)(hv:Cs w a fs)(hl:fs.length<=c)(d:fs.length<=1048576)(g:∀f∈fs,A6 f) :
  Ca 115 #[.agg #[.slice a fs.length c,I6 nx,I6 cp,.bool sg]] w λe w'=>
   e=.returned (.bool (CQ fs nx cp sg))/\Bw w w':=by
 cases b:Hn fs nx cp
 .exact zhb a c fs nx cp sg w hv d g b
 cases sg
 .exact zgu a c fs nx cp w hv hl g b
 exact zgQ a c fs nx cp w hv hl g b
def FF:Obj->Bool
 |.cells _ _ _=>false
 |.map _ _=>false
 |_=>true
def NG:Obj->Bool
 |.mapIter ..=>true
 |.stringIter ..=>true
 |_=>false
structure Tn(S:Nat->Prop) (p:Obj->Bool) (d:Nat) (A B:Aa):Prop where
 rest:Below 0 A B
 block:∀(g:Nat)(o:Obj),A.heap[g]?=some o->¬S g->(p o=false∨g<d)->B.heap[g]?=some o
def Tn.refl(S p d A):Tn S p d A A:=⟨Au,λ_ _ h _ _=>h⟩
def Tn.c{S p d A B C}(h:Tn S p d A B)(k:Tn S p d B C):Tn S p d A C:=⟨h.rest.c k.rest,λg o e b a=>k.block g o (h.block g o e b a) b a⟩
def Tn.j{S O p q d a A B}(h:Tn S p d A B)(c:∀g,S g->O g)(b:∀o,q o=false->p o=false)(hd:a<=d):Tn O q a A B:=⟨h.rest,λg o i f e=>h.block g o i (λx=>f (c g x)) (e.imp (b o) (λq=>yg q hd))⟩
def Tn.u{S p d A B}(h:Bw A B):Tn S p d A B:=⟨h.j (yn _),λg _ a _ _=>(h.block g (yk.1 a).1).c a⟩
def Tn.bg{S p d A l o o'}(h:A.heap[l]?=some o)(c:p o=true)(hd:d<=l):Tn S p d A (A.putObj l o'):=⟨⟨rfl,rfl,rfl,by simp[World.putObj],λ_ q=>absurd q qd⟩,λg O b _ a=>by
 rw[Yr (λe=>by
  subst e;rw[h]at b;cases b;rcases a with a|a
  .rw[c]at a;cases a
  omega)]
 exact b⟩
def zsc(o)(h:FF o=false):NG o=false:=by cases o<;>first|rfl|cases h
def X5(Kp:Aa->Aa->Prop)(R:Aa->Prop)(W:Aa):Exit->Act->Aa->Prop
 |.normal,_,W'=>W.heap.size<=W'.heap.size/\(∀(k:Nat)(o:Obj),W.heap[k]?=some o->FF o=true->W'.heap[k]?=some o)/\Kp W W'/\R W'
 |_,_,_=>False
def Uv{α:Type}(n:Nat)(P:Program)(g:Nat)(lb:Bl)(encs:α->Bl)(S:Nat->Prop)(Kp:Aa->Aa->Prop)(Ok:List α->α->Aa->Aa->Prop)(Fin:List α->Aa->Prop)(w:Aa):Prop:=
 ∀ (l:Nat) (J:List α->Aa->Prop) (W:Aa),Bw w W->(∀ pre A B,J pre A->Tn S NG w.heap.size A B->J pre B) ->
  (∀(m:Nat)pre x A B,J pre A->Bw A B->Ok pre x A B->YieldAt Fence.wide m P l (encs x) B λe W'=>e=.returned (.bool true)/\J (pre++[x]) W'/\Kp B W')->J [] W ->
  CallsIn Fence.wide n P g (#[.func (.yield l) #[] #[]]++lb) W λe W'=>(∃v,e=.returned v)/\∃xs,J xs W'/\Fin xs W'
def wO{α:Type}{g:Operand}{J:Array Tmp}{assign body:Code}{Q:Exit->Act->Aa->Prop}{a:Act}{w:Aa}{n:Nat}{P:Program}
  (h1:1<=n) {gf:Nat}{lb:Bl} (hg:a.eval g=.func (.func gf) #[] lb) (eg:∀args w,(callFunc gf args).run P w=.ok (.enter gf args) w)
  {encs:α->Bl} (aD:∀x,(encs x).size=J.size) {S:Nat->Prop} (hS:∀b,S b->b<w.heap.size) {r:Aa->Aa->Prop}{Ok:List α->α->Aa->Aa->Prop}{Fin:List α->Aa->Prop}
  (aw:Uv (n-1) P gf lb encs S r Ok Fin w) (M:∀{A B C:Aa},r A B->r B C->r A C) (aB:∀A B,Bw A B->r A B) (ar:∀(W:Aa)(l:Nat)(o o':Obj),W.heap[l]?=some o->FF o=true->NG o=false->r W (W.putObj l o'))
  (I:List α->Aa->Prop) (G:∀pre A B,I pre A->Tn S FF w.heap.size A B->I pre B) (h0:I [] w)
  (I2:List α->α->Aa->Prop) (aI:∀pre x A B,I pre A->Bw A B->Ok pre x A B->I2 pre x B)
  (y:List α->α->Act->Aa->Prop) (aF:∀pre x f A B,y pre x f A->Tn (λ_=>False) FF w.heap.size A B->y pre x f B)
  (hF:∀xs A B,Fin xs A->Tn (λ_=>False) FF w.heap.size A B->Fin xs B)
  (af:∀ (l m:Nat) (pre:List α) (x:α) (W:Aa) (K:Act->Aa->Prop),I2 pre x W->(∀ f i,Bw W i->y pre x f i->K f i) ->
   assign.wpIn (Fence.wide.inRound l) m P (Exit.then K (λ_ _ _=>False)) { tmps:=(J.zip (encs x)).foldl (λt(p,v)=>t.setIfInBounds p v) a.tmps,defers:=[] } W)
  (ak:∀(l m:Nat)(pre:List α)(x:α)(f:Act)(W:Aa),y pre x f W->body.wpIn (Fence.wide.inRound l) m P (X5 r (I (pre++[x])) W) f W)
  (aj:∀(D:Nat)(xs:List α)(W:Aa),w.heap.size<=D->I xs W->Fin xs W->W.heap[D]?=some (.deferred (some []))->Q .normal { a with defers:={ target:=.collected D,args:=#[] }::a.defers } W) :
  (Code.rangeFunc g J assign body).wpIn Fence.wide n P Q a w:=by
 refine wpIn_rangeFunc ?_;intro fn aG;obtain⟨d,O⟩:∃d:LoopState->Loop,d=λst=>{ state:=st,pending:=none,fn,tmps:=a.tmps,params:=J,assign,body,defers:=w.heap.size }:=⟨_,rfl⟩
 obtain⟨k,H⟩:=AF ((w.alloc (.deferred (some []))).alloc (.loop (d .ready)));have aq:Bw w k:=by
  rw[H];exact((y8 _ w).alloc Bg _).alloc qf _
 have aC:k.heap[w.heap.size+1]?=some (.loop (d .ready)):=by
  rw[H];have:=World.alloc_heap_new (w.alloc (.deferred (some []))) (.loop (d .ready));rwa [WN]at this
 have aE:k.heap[w.heap.size]?=some (.deferred (some [])):=by
  rw[H];exact(yN _ _ _ qf).c (World.alloc_heap_new w _)
 refine⟨w.heap.size+1,[{ target:=.collected w.heap.size,args:=#[] }],k,{ target:=.fn (.func gf) lb,args:=#[.func (.yield (w.heap.size+1)) #[] #[]] },k,gf,#[.func (.yield (w.heap.size+1)) #[] #[]]++lb,k,?_,?_,λ_ _=>trivial,?_,λ_=>h1,?_⟩
 .rw[H,O];exact run_enterLoop_outer _ _ _ _ _
 .simp only[resolve,hg];simp[go_sem]
 .simp[invoke,go_sem,eg]
 refine(aw (w.heap.size+1) (λpre W=>I pre W/\W.heap[w.heap.size+1]?=some (.loop (d .ready))/\W.heap[w.heap.size]?=some (.deferred (some []))) k aq ?_ ?_ ⟨G _ _ _ h0 (Tn.u aq),aC,aE⟩).j ?_
 .rintro pre A B ⟨N,L,E⟩ U;exact⟨G pre A B N (U.j (λ_ h=>h) zsc Bg),U.block _ _ L (λq=>by have:=hS _ q;omega) (.inl rfl),U.block _ _ E (λq=>by have:=hS _ q;omega) (.inl rfl)⟩
 .rintro m pre x A B ⟨N,L,E⟩ Y aa;have R:=(Y.block _ (yk.1 L).1).c L;have j3:=(Y.block _ (yk.1 E).1).c E;have hy:=run_yield (P:=P) (args:=encs x) R (by rw[O];exact aD x);rw[O]at hy;refine⟨fn,_,assign,body,hy,roundIn_of_wpIn aG (af _ _ pre x B _ (aI pre x A B N Y aa) ?_)⟩;intro f i T hi3;have z:=(T.block _ (yk.1 R).1).c R;have k3:=(T.block _ (yk.1 j3).1).c j3;have hlt:=(yk.1 z).1;refine⟨_,run_beginRound z (by rw[O]),?_⟩;have aA:Tn (λ_=>False) FF w.heap.size i (i.putObj (w.heap.size+1) (.loop { d .ready with state:=.busy })):=Tn.bg z rfl qd;have l2:(i.putObj (w.heap.size+1) (.loop { d .ready with state:=.busy })).heap[w.heap.size+1]?=some (.loop { d .ready with state:=.busy }):=World.putObj_heap_same hlt;have l3:(i.putObj (w.heap.size+1) (.loop { d .ready with state:=.busy })).heap[w.heap.size]?=some (.deferred (some [])):=(Yr qd).c k3;have aH:=ar i (w.heap.size+1) _ (.loop { d .ready with state:=.busy }) z rfl rfl;refine wpIn_mono (ak _ _ pre x f _ (aF _ _ _ _ _ hi3 aA)) ?_;rintro e a3 W3 s;cases e with
  |normal=>
   obtain⟨_,ay,az,Z⟩:=s;have m2:=ay _ _ l2 rfl;have m3:=ay _ _ l3 rfl;have au:=run_endRound (P:=P) none m2;refine⟨_,_,au,rfl,⟨G _ _ _ Z (Tn.bg m2 rfl qd),?_,(Yr qd).c m3⟩,M (aB _ _ T) (M aH (M az (ar _ _ _ _ m2 rfl rfl)))⟩;rw[World.putObj_heap_same (yk.1 m2).1,O];rfl
  |ret=>exact s.elim
  |exit id=>exact s.elim
  |goto t=>exact s.elim
  |panic ch=>exact s.elim
  |outgrown=>exact s.elim
 rintro e W2 ⟨⟨v,rfl⟩,xs,⟨Z,hl,hd⟩,ax⟩;refine⟨none,_,?_,aj w.heap.size xs _ Bg (G _ _ _ Z (Tn.bg (o':=.loop { d .ready with state:=.exhausted }) hl rfl qd)) (hF _ _ _ ax (Tn.bg hl rfl qd)) ((Yr qd).c hd)⟩;have:=run_endLoop (P:=P) hl (by rw[O];simp);rw[O]at this⊢;exact this


end Go.Proofs.YtikojfajahnhgaaGreat
